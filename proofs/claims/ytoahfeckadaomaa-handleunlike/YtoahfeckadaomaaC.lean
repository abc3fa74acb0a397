/- Contracts of Get, Peek, Kill, Free, Age, New, enter and leave. -/
import Derived.Test.YtoahfeckadaomaaB
namespace Go.Proofs.Ytoahfeckadaomaa
open Go.RowKit

def zs : Array Value := Array.replicate 1280 (.int .i64 0)
theorem zero75 (w : World) : (zeroValue 75).run Try.prog w = .ok (.agg zs) w := by kernel_rfl
theorem zs_get (i : Nat) (hi : i < 1280) : zs[i]? = some (.int .i64 0) := by
  unfold zs
  rw [Array.getElem?_replicate, if_pos hi]
theorem zs_ar : Ar zs T0 := ⟨by unfold zs; simp, fun i hi => zs_get _ (by omega), fun i hi => zs_get _ (by omega), fun i hi => ⟨zs_get _ (by omega), zs_get _ (by omega), zs_get _ (by omega)⟩⟩
theorem new_any (w : World) : Calls Try.prog 17 #[] w fun e w' => e = .returned (.pointer (some ⟨w.heap.size, 0, none⟩)) ∧ Tb w' w.heap.size T0 ∧ Below w.heap.size w w' := by
  have hz := zero75 w
  go_enter Try.func17, Try.ntmps17
  go_wp2_with fail
  go_ret
  exact ⟨rfl, ⟨zs, heap_alloc_new _ _, zs_ar⟩, (Below.refl _ w).alloc (Nat.le_refl _) _⟩

/-- Is it the handle of a place of this state? -/
def isB (T : Nat → Pl) (h s : Nat) : Bool := ((T (h % 256)).ag == h / 256) && ((T (h % 256)).st == s)
def pkB (T : Nat → Pl) (h : Nat) : Bool := ((T (h % 256)).ag == h / 256) && (((T (h % 256)).st == 1) || ((T (h % 256)).st == 2))
def pf : Nat → Int := fun k => if k = 0 then 1 else 2
theorem int_beq (a b : Nat) : ((a : Int) == (b : Int)) = (a == b) := by rw [Bool.eq_iff_iff, beq_iff_eq, beq_iff_eq]; omega
theorem okB1 (T : Nat → Pl) (h s : Nat) : okB T h (fun _ => (s : Int)) 1 = isB T h s := by
  unfold okB isB among
  rw [← int_beq (T (h % 256)).st s]
  simp
theorem okB2 (T : Nat → Pl) (h : Nat) : okB T h pf 2 = pkB T h := by
  unfold okB pkB among
  rw [← int_beq (T (h % 256)).st 1, ← int_beq (T (h % 256)).st 2]
  simp [List.range_succ, pf]
def getA (T : Nat → Pl) (h : Nat) : Ob × Int := if isB T h 1 = true then ((T (h % 256)).o, 0) else (noOb, 8)
def peekA (T : Nat → Pl) (h : Nat) : Ob × Int := if pkB T h = true then ((T (h % 256)).o, 0) else (noOb, 8)
def killA (T : Nat → Pl) (h : Nat) : Int × (Nat → Pl) := if isB T h 1 = true then (0, killT T (h % 256)) else (8, T)
def freeA (T : Nat → Pl) (h : Nat) : Ob × Int × (Nat → Pl) := if isB T h 2 = true then ((T (h % 256)).o, 0, freeT T (h % 256)) else (noOb, 8, T)

theorem new_row {w : World} (v : Array Value) (t : TypeId) (j : Nat) : (w.alloc (.cells v t)).cell? ⟨w.heap.size, j, none⟩ = v[j]? := by
  rw [cell_of_row _ _ _ _ _ _ (heap_alloc_new _ _)]
theorem row3 {w : World} {g : Nat} {x y z : Value} {t : TypeId} (h : w.heap[g]? = some (.cells #[x, y, z] t)) : (w.cell? ⟨g, 0, none⟩ = some x ∧ w.cell? ⟨g, 1, none⟩ = some y ∧ w.cell? ⟨g, 2, none⟩ = some z) ∧ w.frozen? ⟨g, 0, none⟩ = false ∧ w.frozen? ⟨g, 1, none⟩ = false ∧ w.frozen? ⟨g, 2, none⟩ = false :=
  ⟨⟨by rw [cell_of_row _ _ _ _ _ _ h]; rfl, by rw [cell_of_row _ _ _ _ _ _ h]; rfl, by rw [cell_of_row _ _ _ _ _ _ h]; rfl⟩, frozen_of_row _ _ _ _ _ h, frozen_of_row _ _ _ _ _ h, frozen_of_row _ _ _ _ _ h⟩
section
variable {w : World} {b : Nat} {T : Nat → Pl}
/-- What is answered by the way through find's states. -/
theorem obj_any (ht : Tb w b T) (h : Nat) (hh : h < 4294967296) (g n cap : Nat) (f : Nat → Int) (hs : Ss w g n f) :
    Calls Try.prog 30 #[.pointer (some ⟨b, 0, none⟩), .int .u32 (h : Int), .slice (some ⟨g, 0, none⟩) n cap] w (ObPost w (if okB T h f n = true then (T (h % 256)).o else noOb) (if okB T h f n = true then 0 else 8)) := by
  by_cases ho : okB T h f n = true
  · rw [if_pos ho, if_pos ho]; exact obj_yes ht h hh g n cap f hs ho
  · rw [if_neg ho, if_neg ho]; exact obj_no ht h hh g n cap f hs (by simpa using ho)

theorem get_any (ht : Tb w b T) (h : Nat) (hh : h < 4294967296) : Calls Try.prog 9 #[.pointer (some ⟨b, 0, none⟩), .int .u32 (h : Int)] w (ObPost w (getA T h).1 (getA T h).2) := by
  have e1 : (getA T h).1 = if okB T h (fun _ => 1) 1 = true then (T (h % 256)).o else noOb := by
    have := okB1 T h 1
    unfold getA; rw [show okB T h (fun _ => 1) 1 = isB T h 1 from this]; split <;> rfl
  have e2 : (getA T h).2 = if okB T h (fun _ => 1) 1 = true then 0 else 8 := by
    have := okB1 T h 1
    unfold getA; rw [show okB T h (fun _ => 1) 1 = isB T h 1 from this]; split <;> rfl
  rw [e1, e2]
  clear e1 e2
  have hb : Below w.heap.size w ((w.alloc (.cells #[.int .i64 0, .int .i64 0, .int .i64 0] 31)).alloc (.cells #[.int .i64 1] 62)) := ((Below.refl _ w).alloc (Nat.le_refl _) _).alloc (by simp) _
  have HO := hid (obj_any (ht.below hb) h hh (w.heap.size + 1) 1 1 (fun _ => 1) ⟨by decide, by simp, fun k hk => by
    obtain rfl : k = 0 := by omega
    have := new_row (w := w.alloc (.cells #[.int .i64 0, .int .i64 0, .int .i64 0] 31)) #[.int .i64 1] 62 0
    simp at this ⊢⟩)
  have hz : ((w.alloc (.cells #[.int .i64 0, .int .i64 0, .int .i64 0] 31)).alloc (.cells #[.int .i64 1] 62)).heap[w.heap.size]? = some (.cells #[.int .i64 0, .int .i64 0, .int .i64 0] 31) := (Below.heap_alloc _ _ _ (by simp)).trans (heap_alloc_new _ _)
  have H0 := hid (And.intro hz hb)
  clear hz hb ht
  generalize (if okB T h (fun _ => 1) 1 = true then (T (h % 256)).o else noOb) = o at *
  generalize (if okB T h (fun _ => 1) 1 = true then (0 : Int) else 8) = er at *
  obtain ⟨k, a, f⟩ := o
  go_enter Try.func9, Try.ntmps9
  go_wp2_with (go_at_call 30; refine HO.out.mono ?_; rintro e w' ⟨rfl, hb'⟩; unfold obv; obtain ⟨⟨c0, c1, c2⟩, f0, f1, f2⟩ := row3 ((hb'.block w.heap.size (by simp; omega)).trans H0.out.1))
  refine bodyPost_ret (v := .tuple #[obv ⟨k, a, f⟩, .int .i64 er]) (by simp [results, Try.results9, go_sem, obv, c0, c1, c2]) rfl ⟨rfl, ?_⟩
  exact (((H0.out.2.trans (hb'.mono (by simp; omega))).setCell (Nat.le_refl _) _).setCell (Nat.le_refl _) _).setCell (Nat.le_refl _) _
end
end Go.Proofs.Ytoahfeckadaomaa
