/- The document's table in memory, and the contracts of its calls. -/
import Derived.Test.YtoahfeckadaomaaP
import Derived.RegionTactic
import Derived.ChangeAlike
namespace Go.Proofs.Ytoahfeckadaomaa
open Go.RowKit

/-- The cells of the document's places. -/
structure Rr (cs : Array Value) (T : Nat → Pl) : Prop where
  size : cs.size = 1280
  st : ∀ i, i < 256 → cs[768 + i]? = some (.int .i64 ((T i).st : Int))
  ag : ∀ i, i < 256 → cs[1024 + i]? = some (.int .i64 ((T i).ag : Int))
  ob : ∀ i, i < 256 → (T i).st = 1 ∨ (T i).st = 2 → cs[i * 3]? = some (.int .i64 (T i).o.k) ∧ cs[i * 3 + 1]? = some (.int .i64 (T i).o.a) ∧ cs[i * 3 + 2]? = some (.int .i64 (T i).o.f)
theorem Rr.next {cs cs' : Array Value} {T : Nat → Pl} (h : Rr cs T) (i : Nat) (p : Pl) (hs : cs'.size = cs.size) (ho : ∀ j, j < 768 → j < i * 3 ∨ i * 3 + 3 ≤ j → cs'[j]? = cs[j]?) (ho2 : ∀ j, 768 ≤ j → j ≠ 768 + i → j ≠ 1024 + i → cs'[j]? = cs[j]?)
    (h3 : cs'[768 + i]? = some (.int .i64 (p.st : Int))) (h4 : cs'[1024 + i]? = some (.int .i64 (p.ag : Int)))
    (h0 : p.st = 1 ∨ p.st = 2 → cs'[i * 3]? = some (.int .i64 p.o.k) ∧ cs'[i * 3 + 1]? = some (.int .i64 p.o.a) ∧ cs'[i * 3 + 2]? = some (.int .i64 p.o.f)) (hi : i < 256) : Rr cs' (upd T i p) := by
  refine ⟨hs.trans h.size, fun j hj => ?_, fun j hj => ?_, fun j hj => ?_⟩
  · by_cases e : j = i
    · subst e; rw [upd_same]; exact h3
    · rw [upd_other _ _ _ e, ho2 _ (by omega) (by omega) (by omega)]; exact h.st j hj
  · by_cases e : j = i
    · subst e; rw [upd_same]; exact h4
    · rw [upd_other _ _ _ e, ho2 _ (by omega) (by omega) (by omega)]; exact h.ag j hj
  · by_cases e : j = i
    · subst e; rw [upd_same]; exact h0
    · rw [upd_other _ _ _ e, ho _ (by omega) (by omega), ho _ (by omega) (by omega), ho _ (by omega) (by omega)]; exact h.ob j hj
/-- The document's table at block r. -/
def Rb (w : World) (r : Nat) (T : Nat → Pl) : Prop := ∃ cs, w.heap[r]? = some (.cells cs 44) ∧ Rr cs T
section
variable {w w' : World} {r : Nat} {T : Nat → Pl}
theorem Rb.lt (h : Rb w r T) : r < w.heap.size := by
  obtain ⟨cs, h, _⟩ := h; exact lt_of h
theorem Rb.same (h : Rb w r T) (e : w'.heap[r]? = w.heap[r]?) : Rb w' r T := by
  obtain ⟨cs, h, ha⟩ := h; exact ⟨cs, e.trans h, ha⟩
theorem Rb.below (h : Rb w r T) (hb : Below w.heap.size w w') : Rb w' r T := h.same (hb.block r h.lt)
theorem Rb.alloc (h : Rb w r T) (o : Obj) : Rb (w.alloc o) r T := h.below ((Below.refl _ w).alloc (Nat.le_refl _) _)
theorem Rb.cst (h : Rb w r T) {i : Nat} (hi : i < 256) : w.cell? ⟨r, 768 + i, none⟩ = some (.int .i64 ((T i).st : Int)) := by
  obtain ⟨cs, h, ha⟩ := h; rw [cell_of_row _ _ _ _ _ _ h]; exact ha.st i hi
theorem Rb.cag (h : Rb w r T) {i : Nat} (hi : i < 256) : w.cell? ⟨r, 1024 + i, none⟩ = some (.int .i64 ((T i).ag : Int)) := by
  obtain ⟨cs, h, ha⟩ := h; rw [cell_of_row _ _ _ _ _ _ h]; exact ha.ag i hi
theorem Rb.cob (h : Rb w r T) {i : Nat} (hi : i < 256) (hs : (T i).st = 1 ∨ (T i).st = 2) : w.cell? ⟨r, i * 3, none⟩ = some (.int .i64 (T i).o.k) ∧ w.cell? ⟨r, i * 3 + 1, none⟩ = some (.int .i64 (T i).o.a) ∧ w.cell? ⟨r, i * 3 + 2, none⟩ = some (.int .i64 (T i).o.f) := by
  obtain ⟨cs, h, ha⟩ := h
  rw [cell_of_row _ _ _ _ _ _ h, cell_of_row _ _ _ _ _ _ h, cell_of_row _ _ _ _ _ _ h]; exact ha.ob i hi hs
theorem Rb.cany (h : Rb w r T) {j : Nat} (hj : j < 1280) : ∃ v, w.cell? ⟨r, j, none⟩ = some v := by
  obtain ⟨cs, h, ha⟩ := h
  exact ⟨cs[j]'(by rw [ha.size]; exact hj), by rw [cell_of_row _ _ _ _ _ _ h]; exact Array.getElem?_eq_getElem _⟩
theorem Rb.frozen (h : Rb w r T) (j : Nat) : w.frozen? ⟨r, j, none⟩ = false := by
  obtain ⟨cs, h, ha⟩ := h; exact frozen_of_row _ _ _ _ _ h
/-- A place's state turns, its object staying where it may. -/
theorem Rb.setSt (h : Rb w r T) {i : Nat} (hi : i < 256) (s : Nat) (o : Ob) (hs : s = 1 ∨ s = 2 → o = (T i).o ∧ ((T i).st = 1 ∨ (T i).st = 2)) : Rb (w.setCell ⟨r, 768 + i, none⟩ (.int .i64 (s : Int))) r (upd T i ⟨o, s, (T i).ag⟩) := by
  obtain ⟨cs, h, ha⟩ := h
  have hz := ha.size
  refine ⟨_, setCell_head h _, ha.next i _ (by simp) (fun j h1 h2 => ?_) (fun j h1 h2 h3 => ?_) ?_ ?_ (fun h1 => ?_) hi⟩
  · rw [Array.getElem?_setIfInBounds_ne (by omega)]
  · rw [Array.getElem?_setIfInBounds_ne (by omega)]
  · rw [Array.getElem?_setIfInBounds_self_of_lt (by omega)]
  · rw [Array.getElem?_setIfInBounds_ne (by omega)]; exact ha.ag i hi
  · obtain ⟨e, h2⟩ := hs h1
    rw [Array.getElem?_setIfInBounds_ne (by omega), Array.getElem?_setIfInBounds_ne (by omega), Array.getElem?_setIfInBounds_ne (by omega), e]; exact ha.ob i hi h2
theorem Rb.setAg (h : Rb w r T) {i : Nat} (hi : i < 256) (s : Nat) (o : Ob) (hs : (T i).st = 1 ∨ (T i).st = 2 → o = (T i).o) : Rb (w.setCell ⟨r, 1024 + i, none⟩ (.int .i64 (s : Int))) r (upd T i ⟨o, (T i).st, s⟩) := by
  obtain ⟨cs, h, ha⟩ := h
  have hz := ha.size
  refine ⟨_, setCell_head h _, ha.next i _ (by simp) (fun j h1 h2 => ?_) (fun j h1 h2 h3 => ?_) ?_ ?_ (fun h1 => ?_) hi⟩
  · rw [Array.getElem?_setIfInBounds_ne (by omega)]
  · rw [Array.getElem?_setIfInBounds_ne (by omega)]
  · rw [Array.getElem?_setIfInBounds_ne (by omega)]; exact ha.st i hi
  · rw [Array.getElem?_setIfInBounds_self_of_lt (by omega)]
  · rw [Array.getElem?_setIfInBounds_ne (by omega), Array.getElem?_setIfInBounds_ne (by omega), Array.getElem?_setIfInBounds_ne (by omega), hs h1]; exact ha.ob i hi h1
/-- Put: the state first, the object then. -/
theorem Rb.put (h : Rb w r T) {i : Nat} (hi : i < 256) (k a f : Int) : Rb ((((w.setCell ⟨r, 768 + i, none⟩ (.int .i64 1)).setCell ⟨r, i * 3, none⟩ (.int .i64 k)).setCell ⟨r, i * 3 + 1, none⟩ (.int .i64 a)).setCell ⟨r, i * 3 + 2, none⟩ (.int .i64 f)) r (putT T i ⟨k, a, f⟩) := by
  obtain ⟨cs, h, ha⟩ := h
  have hz := ha.size
  refine ⟨_, setCell_head (setCell_head (setCell_head (setCell_head h _) _) _) _, ha.next i _ (by simp) (fun j h1 h2 => ?_) (fun j h1 h2 h3 => ?_) ?_ ?_ (fun _ => ⟨?_, ?_, ?_⟩) hi⟩
  · rw [Array.getElem?_setIfInBounds_ne (by omega), Array.getElem?_setIfInBounds_ne (by omega), Array.getElem?_setIfInBounds_ne (by omega), Array.getElem?_setIfInBounds_ne (by omega)]
  · rw [Array.getElem?_setIfInBounds_ne (by omega), Array.getElem?_setIfInBounds_ne (by omega), Array.getElem?_setIfInBounds_ne (by omega), Array.getElem?_setIfInBounds_ne (by omega)]
  · rw [Array.getElem?_setIfInBounds_ne (by omega), Array.getElem?_setIfInBounds_ne (by omega), Array.getElem?_setIfInBounds_ne (by omega), Array.getElem?_setIfInBounds_self_of_lt (by omega)]; rfl
  · rw [Array.getElem?_setIfInBounds_ne (by omega), Array.getElem?_setIfInBounds_ne (by omega), Array.getElem?_setIfInBounds_ne (by omega), Array.getElem?_setIfInBounds_ne (by omega)]; exact ha.ag i hi
  · rw [Array.getElem?_setIfInBounds_ne (by omega), Array.getElem?_setIfInBounds_ne (by omega), Array.getElem?_setIfInBounds_self_of_lt (by simp; omega)]
  · rw [Array.getElem?_setIfInBounds_ne (by omega), Array.getElem?_setIfInBounds_self_of_lt (by simp; omega)]
  · rw [Array.getElem?_setIfInBounds_self_of_lt (by simp; omega)]

def placeA (T : Nat → Pl) (h : Nat) : Int := if (T (h % 256)).ag = h / 256 then ((h % 256 : Nat) : Int) else -1
theorem place_any (hR : Rb w r T) (h : Nat) (hh : h < 4294967296) : Calls Try.prog 34 #[.pointer (some ⟨r, 0, none⟩), .int .u32 (h : Int)] w fun e w' => e = .returned (.int .i64 (placeA T h)) ∧ w' = w := by
  have hi : h % 256 < 256 := Nat.mod_lt _ (by decide)
  have c4 := hR.cag hi
  have e1 : (h : Int) % 256 = ((h % 256 : Nat) : Int) := by omega
  have e2 : (h : Int) / 256 = ((h / 256 : Nat) : Int) := by omega
  by_cases ha : (T (h % 256)).ag = h / 256
  · have e : placeA T h = ((h % 256 : Nat) : Int) := by unfold placeA; rw [if_pos ha]
    rw [e]
    rw [ha] at c4
    have hd : (((h / 256 : Nat) : Int) != ((h / 256 : Nat) : Int)) = false := by simp
    clear e ha hR
    generalize h % 256 = i at *
    generalize h / 256 = a at *
    go_enter Try.func34, Try.ntmps34
    go_wp2
    go_ret
    exact ⟨by simp, rfl⟩
  · have e : placeA T h = -1 := by unfold placeA; rw [if_neg ha]
    rw [e]
    have hd : (((h / 256 : Nat) : Int) != ((T (h % 256)).ag : Int)) = true := by rw [bne_iff_ne]; omega
    clear e ha hR
    generalize (T (h % 256)).ag = g at *
    generalize h % 256 = i at *
    generalize h / 256 = a at *
    go_enter Try.func34, Try.ntmps34
    go_wp2
    go_ret
    exact ⟨rfl, rfl⟩
end
end Go.Proofs.Ytoahfeckadaomaa
