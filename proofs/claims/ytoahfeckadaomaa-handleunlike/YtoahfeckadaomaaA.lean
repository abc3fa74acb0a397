/- A table of handles in memory, and the contracts of package handle's functions that read or turn one place. -/
import Derived.Test.YtoahfeckadaomaaL
import Derived.Test.YtoahfeckadaomaaM
import Derived.Test.YtoahfeckadaomaaChecked
import Derived.Deep.AppendLies
import Derived.Deep.RegionHeld3
import Derived.Laws.BitsLemmas
import Derived.BigQuiet
import Derived.KernelRfl
namespace Go.Proofs.Ytoahfeckadaomaa
open Go.RowKit

theorem wraps_u32 (n : Int) (h₀ : 0 ≤ n) (h₁ : n < 2 ^ 32) : IntKind.u32.wrap n = n := by rw [IntKind.wrap_u32]; omega
theorem or_place (at' ag : Nat) (h1 : at' < 256) (h2 : ag ≤ 1048575) : bits .or .u32 ((ag : Int) * 256) (at' : Int) = (hOf at' ag : Nat) := by
  rw [bits_join .u32 32 (by decide) wraps_u32 8 _ _ (by omega) (by omega) (by omega) (by omega) (by omega) (by omega)]
  unfold hOf; omega
theorem and_place (h : Nat) (h1 : h < 4294967296) : bits .and .u32 (h : Int) 255 = ((h % 256 : Nat) : Int) := by
  have := bits_mask .u32 32 (by decide) wraps_u32 8 (by decide) (h : Int) (by omega) (by omega)
  rw [show (2 : Int) ^ 8 - 1 = 255 by decide] at this
  rw [this]; omega
theorem together_any (at' ag : Nat) (h1 : at' < 256) (h2 : ag ≤ 1048575) (w : World) : Calls Try.prog 29 #[.int .i64 (at' : Int), .int .i64 (ag : Int)] w fun e w' => e = .returned (.int .u32 (hOf at' ag : Nat)) ∧ w' = w := by
  have H := hid (or_place at' ag h1 h2)
  go_enter Try.func29, Try.ntmps29
  go_wp2
  rw [H.out]
  go_ret
  exact ⟨rfl, rfl⟩
theorem apart_any (h : Nat) (h1 : h < 4294967296) (w : World) : Calls Try.prog 36 #[.int .u32 (h : Int)] w fun e w' => e = .returned (.tuple #[.int .i64 ((h % 256 : Nat) : Int), .int .i64 ((h / 256 : Nat) : Int)]) ∧ w' = w := by
  have H := and_place h h1
  have hm : h % 256 < 256 := Nat.mod_lt _ (by decide)
  obtain ⟨m, hm'⟩ : ∃ m, m = h % 256 := ⟨_, rfl⟩
  rw [← hm'] at H hm ⊢
  clear hm'
  go_enter Try.func36, Try.ntmps36
  go_wp2
  go_ret2
  exact ⟨by first | rfl | simp, rfl⟩

/-! ### The states that are asked for -/
theorem index_no (g n cap : Nat) (f : Nat → Int) (x : Int) (w : World) (hn : n ≤ 2) (hc : ∀ k, k < n → w.cell? ⟨g, k, none⟩ = some (.int .i64 (f k))) (hx : ∀ k, k < n → x ≠ f k) :
    Calls Try.prog 38 #[.slice (some ⟨g, 0, none⟩) n cap, .int .i64 x] w fun e w' => e = .returned (.int .i64 (-1)) ∧ w' = w := by
  have HC := hid hc
  have HX := hid hx
  clear hc hx
  go_enter Try.func38, Try.ntmps38
  go_wp2
  go_loop [8] (fun i => ∃ k : Nat, k ≤ n ∧ i = .int .i64 k) (fun i => n - (intOf i).toNat)
  case atStart => exact ⟨0, Nat.zero_le _, rfl⟩
  case round =>
    obtain ⟨k, hk, rfl⟩ := hrel
    by_cases hlt : k < n
    · have c := HC.out k hlt
      have hne : (x == f k) = false := by rw [beq_eq_false_iff_ne]; exact HX.out k hlt
      generalize f k = y at *
      go_wp2
      exact ⟨⟨k + 1, by omega, by go_num⟩, by simp [intOf]; omega⟩
    · go_wp2
      go_ret
      exact ⟨rfl, rfl⟩
theorem index_yes (g n cap m : Nat) (f : Nat → Int) (x : Int) (w : World) (hn : n ≤ 2) (hc : ∀ k, k < n → w.cell? ⟨g, k, none⟩ = some (.int .i64 (f k))) (hm : m < n) (hx : x = f m) (hl : ∀ k, k < m → x ≠ f k) :
    Calls Try.prog 38 #[.slice (some ⟨g, 0, none⟩) n cap, .int .i64 x] w fun e w' => e = .returned (.int .i64 (m : Int)) ∧ w' = w := by
  have HC := hid hc
  have HX := hid (And.intro hl hx)
  clear hc hl hx
  go_enter Try.func38, Try.ntmps38
  go_wp2
  go_loop [8] (fun i => ∃ k : Nat, k ≤ m ∧ i = .int .i64 k) (fun i => n - (intOf i).toNat)
  case atStart => exact ⟨0, Nat.zero_le _, rfl⟩
  case round =>
    obtain ⟨k, hk, rfl⟩ := hrel
    by_cases hlt : k < m
    · have c := HC.out k (by omega)
      have hne : (x == f k) = false := by rw [beq_eq_false_iff_ne]; exact HX.out.1 k hlt
      generalize f k = y at *
      go_wp2
      exact ⟨⟨k + 1, by omega, by go_num⟩, by simp [intOf]; omega⟩
    · obtain rfl : k = m := by omega
      have c := HC.out k (by omega)
      have hne : (x == f k) = true := by rw [beq_iff_eq]; exact HX.out.2
      generalize f k = y at *
      go_wp2
      go_ret
      exact ⟨rfl, rfl⟩
/-- Is it among these states? -/
def among (f : Nat → Int) (n : Nat) (x : Int) : Bool := (List.range n).any fun k => x == f k
theorem contains_any (g n cap : Nat) (f : Nat → Int) (x : Int) (w : World) (hn : n ≤ 2) (hc : ∀ k, k < n → w.cell? ⟨g, k, none⟩ = some (.int .i64 (f k))) :
    Calls Try.prog 37 #[.slice (some ⟨g, 0, none⟩) n cap, .int .i64 x] w fun e w' => e = .returned (.bool (among f n x)) ∧ w' = w := by
  have key : (∀ k, k < n → x ≠ f k) ∨ ∃ m, m < n ∧ x = f m ∧ ∀ k, k < m → x ≠ f k := by
    by_cases h0 : 0 < n ∧ x = f 0
    · exact .inr ⟨0, h0.1, h0.2, fun k hk => by omega⟩
    · by_cases h1 : 1 < n ∧ x = f 1
      · exact .inr ⟨1, h1.1, h1.2, fun k hk e => h0 ⟨by omega, by rw [show (0 : Nat) = k by omega]; exact e⟩⟩
      · refine .inl (fun k hk e => ?_)
        rcases (show k = 0 ∨ k = 1 by omega) with rfl | rfl
        · exact h0 ⟨hk, e⟩
        · exact h1 ⟨hk, e⟩
  rcases key with h | ⟨m, hm, hx, hl⟩
  · have ha : among f n x = false := by
      unfold among
      rw [List.any_eq_false]
      intro k hk
      rw [List.mem_range] at hk
      simpa using h k hk
    rw [ha]
    have H := hid (index_no g n cap f x w hn hc h)
    clear h ha hc
    go_enter Try.func37, Try.ntmps37
    go_wp2_with (go_at_call 38; refine H.out.mono ?_; rintro e w' ⟨rfl, rfl⟩)
    go_ret
    exact ⟨rfl, rfl⟩
  · have ha : among f n x = true := by
      unfold among
      rw [List.any_eq_true]
      exact ⟨m, List.mem_range.2 hm, by rw [hx]; exact beq_self_eq_true _⟩
    rw [ha]
    have H := hid (index_yes g n cap m f x w hn hc hm hx hl)
    clear hx hl ha hc
    go_enter Try.func37, Try.ntmps37
    go_wp2_with (go_at_call 38; refine H.out.mono ?_; rintro e w' ⟨rfl, rfl⟩)
    go_ret
    exact ⟨rfl, rfl⟩

/-! ### The table in memory -/
/-- The cells of places. -/
structure Ar (cs : Array Value) (T : Nat → Pl) : Prop where
  size : cs.size = 1280
  st : ∀ i, i < 256 → cs[i * 5 + 3]? = some (.int .i64 ((T i).st : Int))
  ag : ∀ i, i < 256 → cs[i * 5 + 4]? = some (.int .i64 ((T i).ag : Int))
  ob : ∀ i, i < 256 → cs[i * 5]? = some (.int .i64 (T i).o.k) ∧ cs[i * 5 + 1]? = some (.int .i64 (T i).o.a) ∧ cs[i * 5 + 2]? = some (.int .i64 (T i).o.f)
theorem Ar.next {cs cs' : Array Value} {T : Nat → Pl} (h : Ar cs T) (i : Nat) (p : Pl) (hs : cs'.size = cs.size) (ho : ∀ j, j < i * 5 ∨ i * 5 + 5 ≤ j → cs'[j]? = cs[j]?)
    (h3 : cs'[i * 5 + 3]? = some (.int .i64 (p.st : Int))) (h4 : cs'[i * 5 + 4]? = some (.int .i64 (p.ag : Int)))
    (h0 : cs'[i * 5]? = some (.int .i64 p.o.k) ∧ cs'[i * 5 + 1]? = some (.int .i64 p.o.a) ∧ cs'[i * 5 + 2]? = some (.int .i64 p.o.f)) : Ar cs' (upd T i p) := by
  refine ⟨hs.trans h.size, fun j hj => ?_, fun j hj => ?_, fun j hj => ?_⟩
  · by_cases e : j = i
    · subst e; rw [upd_same]; exact h3
    · rw [upd_other _ _ _ e, ho _ (by omega)]; exact h.st j hj
  · by_cases e : j = i
    · subst e; rw [upd_same]; exact h4
    · rw [upd_other _ _ _ e, ho _ (by omega)]; exact h.ag j hj
  · by_cases e : j = i
    · subst e; rw [upd_same]; exact h0
    · rw [upd_other _ _ _ e, ho _ (by omega), ho _ (by omega), ho _ (by omega)]; exact h.ob j hj
/-- The table at block b. -/
def Tb (w : World) (b : Nat) (T : Nat → Pl) : Prop := ∃ cs, w.heap[b]? = some (.cells cs 75) ∧ Ar cs T
theorem Tb.lt {w : World} {b : Nat} {T : Nat → Pl} (h : Tb w b T) : b < w.heap.size := by
  obtain ⟨cs, h, _⟩ := h; exact (Array.getElem?_eq_some_iff.1 h).1
theorem Tb.same {w w' : World} {b : Nat} {T : Nat → Pl} (h : Tb w b T) (e : w'.heap[b]? = w.heap[b]?) : Tb w' b T := by
  obtain ⟨cs, h, ha⟩ := h; exact ⟨cs, e.trans h, ha⟩
theorem Tb.below {w w' : World} {b : Nat} {T : Nat → Pl} (h : Tb w b T) (hb : Below w.heap.size w w') : Tb w' b T := h.same (hb.block b h.lt)
theorem Tb.cst {w : World} {b : Nat} {T : Nat → Pl} (h : Tb w b T) {i : Nat} (hi : i < 256) : w.cell? ⟨b, i * 5 + 3, none⟩ = some (.int .i64 ((T i).st : Int)) := by
  obtain ⟨cs, h, ha⟩ := h; rw [cell_of_row _ _ _ _ _ _ h]; exact ha.st i hi
theorem Tb.cag {w : World} {b : Nat} {T : Nat → Pl} (h : Tb w b T) {i : Nat} (hi : i < 256) : w.cell? ⟨b, i * 5 + 4, none⟩ = some (.int .i64 ((T i).ag : Int)) := by
  obtain ⟨cs, h, ha⟩ := h; rw [cell_of_row _ _ _ _ _ _ h]; exact ha.ag i hi
theorem Tb.cob {w : World} {b : Nat} {T : Nat → Pl} (h : Tb w b T) {i : Nat} (hi : i < 256) : w.cell? ⟨b, i * 5, none⟩ = some (.int .i64 (T i).o.k) ∧ w.cell? ⟨b, i * 5 + 1, none⟩ = some (.int .i64 (T i).o.a) ∧ w.cell? ⟨b, i * 5 + 2, none⟩ = some (.int .i64 (T i).o.f) := by
  obtain ⟨cs, h, ha⟩ := h
  rw [cell_of_row _ _ _ _ _ _ h, cell_of_row _ _ _ _ _ _ h, cell_of_row _ _ _ _ _ _ h]; exact ha.ob i hi
theorem Tb.cany {w : World} {b : Nat} {T : Nat → Pl} (h : Tb w b T) {j : Nat} (hj : j < 1280) : ∃ v, w.cell? ⟨b, j, none⟩ = some v := by
  obtain ⟨cs, h, ha⟩ := h
  exact ⟨cs[j]'(by rw [ha.size]; exact hj), by rw [cell_of_row _ _ _ _ _ _ h]; exact Array.getElem?_eq_getElem _⟩
theorem Tb.frozen {w : World} {b : Nat} {T : Nat → Pl} (h : Tb w b T) (j : Nat) : w.frozen? ⟨b, j, none⟩ = false := by
  obtain ⟨cs, h, ha⟩ := h; exact frozen_of_row _ _ _ _ _ h

section
variable {w : World} {b : Nat} {T : Nat → Pl}
theorem Tb.setSt (h : Tb w b T) {i : Nat} (hi : i < 256) (s : Nat) : Tb (w.setCell ⟨b, i * 5 + 3, none⟩ (.int .i64 (s : Int))) b (upd T i ⟨(T i).o, s, (T i).ag⟩) := by
  obtain ⟨cs, h, ha⟩ := h
  have hz := ha.size
  refine ⟨_, setCell_head h _, ha.next i _ (by simp) (fun j hj => ?_) ?_ ?_ ?_⟩
  · rw [Array.getElem?_setIfInBounds_ne (by omega)]
  · rw [Array.getElem?_setIfInBounds_self_of_lt (by omega)]
  · rw [Array.getElem?_setIfInBounds_ne (by omega)]; exact ha.ag i hi
  · rw [Array.getElem?_setIfInBounds_ne (by omega), Array.getElem?_setIfInBounds_ne (by omega), Array.getElem?_setIfInBounds_ne (by omega)]; exact ha.ob i hi
theorem Tb.setAg (h : Tb w b T) {i : Nat} (hi : i < 256) (s : Nat) : Tb (w.setCell ⟨b, i * 5 + 4, none⟩ (.int .i64 (s : Int))) b (upd T i ⟨(T i).o, (T i).st, s⟩) := by
  obtain ⟨cs, h, ha⟩ := h
  have hz := ha.size
  refine ⟨_, setCell_head h _, ha.next i _ (by simp) (fun j hj => ?_) ?_ ?_ ?_⟩
  · rw [Array.getElem?_setIfInBounds_ne (by omega)]
  · rw [Array.getElem?_setIfInBounds_ne (by omega)]; exact ha.st i hi
  · rw [Array.getElem?_setIfInBounds_self_of_lt (by omega)]
  · rw [Array.getElem?_setIfInBounds_ne (by omega), Array.getElem?_setIfInBounds_ne (by omega), Array.getElem?_setIfInBounds_ne (by omega)]; exact ha.ob i hi
theorem Tb.setOb (h : Tb w b T) {i : Nat} (hi : i < 256) (k a f : Int) : Tb (((w.setCell ⟨b, i * 5, none⟩ (.int .i64 k)).setCell ⟨b, i * 5 + 1, none⟩ (.int .i64 a)).setCell ⟨b, i * 5 + 2, none⟩ (.int .i64 f)) b (upd T i ⟨⟨k, a, f⟩, (T i).st, (T i).ag⟩) := by
  obtain ⟨cs, h, ha⟩ := h
  have hz := ha.size
  refine ⟨_, setCell_head (setCell_head (setCell_head h _) _) _, ha.next i _ (by simp) (fun j hj => ?_) ?_ ?_ ⟨?_, ?_, ?_⟩⟩
  · rw [Array.getElem?_setIfInBounds_ne (by omega), Array.getElem?_setIfInBounds_ne (by omega), Array.getElem?_setIfInBounds_ne (by omega)]
  · rw [Array.getElem?_setIfInBounds_ne (by omega), Array.getElem?_setIfInBounds_ne (by omega), Array.getElem?_setIfInBounds_ne (by omega)]; exact ha.st i hi
  · rw [Array.getElem?_setIfInBounds_ne (by omega), Array.getElem?_setIfInBounds_ne (by omega), Array.getElem?_setIfInBounds_ne (by omega)]; exact ha.ag i hi
  · rw [Array.getElem?_setIfInBounds_ne (by omega), Array.getElem?_setIfInBounds_ne (by omega), Array.getElem?_setIfInBounds_self_of_lt (by omega)]
  · rw [Array.getElem?_setIfInBounds_ne (by omega), Array.getElem?_setIfInBounds_self_of_lt (by simp; omega)]
  · rw [Array.getElem?_setIfInBounds_self_of_lt (by simp; omega)]
theorem upd_upd (T : Nat → Pl) (i : Nat) (p q : Pl) : upd (upd T i p) i q = upd T i q := by
  funext j
  by_cases e : j = i
  · subst e; rw [upd_same, upd_same]
  · rw [upd_other _ _ _ e, upd_other _ _ _ e, upd_other _ _ _ e]
end
end Go.Proofs.Ytoahfeckadaomaa
