/- The document's forest: Add, where it fails. -/
import Derived.Test.YtiechmcfafhfaaaRa0
namespace Go.Proofs.Ytiechmcfafhfaaa
open Go.RowKit Go.Maps Go.Shelf

section
variable {w w' : World} {r : Nat} {v : Value} {last last2 : Nat} {L : List Nd} {e : Nd}
set_option maxRecDepth 100000 in
set_option maxHeartbeats 2000000 in
theorem radd_6 (h : Rf w r v last L) (hl : L.length ≤ 400) {x : Int} (h0 : x ≠ 0) (hn : ¬ There L x) (a b : Int) : Calls Try.prog 20 #[ptr r, .int .i64 x, spot a b] w (RAdd w r v last L x a b) := by
  have hB : Below w.heap.size w (w.alloc (.cells #[.int .i64 a, .int .i64 b] 44)) := (Below.refl _ _).alloc (Nat.le_refl _) _
  have HA := hid (at_any (h.below hB (Nat.le_refl _)) hl x)
  rw [atI_not hn] at HA
  have HE := hid (radd_err (h.below hB (Nat.le_refl _)) hB (n := 6) (by decide) (addE_6 h0 hn a b))
  have hx : (x != 0) = true := by rw [bne_iff_ne]; exact h0
  clear h hl h0 hn hB
  go_enter Try.func20, Try.ntmps20
  go_wp2_with (go_at_call 37; refine HA.out.mono ?_; rintro en w1 ⟨rfl, rfl⟩)
  go_ret2
  exact HE.out
set_option maxRecDepth 100000 in
set_option maxHeartbeats 2000000 in
theorem radd_7 (h : Rf w r v last L) (hw : Wf L last) (hl : L.length ≤ 400) {x : Int} (hp : x = 0 ∨ There L x) {a b : Int} (ho : ∃ f ∈ L, f.sp = a ∧ f.sl = b) : Calls Try.prog 20 #[ptr r, .int .i64 x, spot a b] w (RAdd w r v last L x a b) := by
  have hB : Below w.heap.size w (w.alloc (.cells #[.int .i64 a, .int .i64 b] 44)) := (Below.refl _ _).alloc (Nat.le_refl _) _
  have hN := heap_alloc_new w (.cells #[.int .i64 a, .int .i64 b] 44)
  have b0 : (w.alloc (.cells #[.int .i64 a, .int .i64 b] 44)).cell? ⟨w.heap.size, 0, none⟩ = some (.int .i64 a) := by rw [cell_of_row _ _ _ _ _ _ hN]; rfl
  have b1 : (w.alloc (.cells #[.int .i64 a, .int .i64 b] 44)).cell? ⟨w.heap.size, 1, none⟩ = some (.int .i64 b) := by rw [cell_of_row _ _ _ _ _ _ hN]; rfl
  have HA := hid (at_any (h.below hB (Nat.le_refl _)) hl x)
  have HF := hid (rfind_any (h.below hB (Nat.le_refl _)) hl a b)
  have hf : (findI L a b != 0) = true := by rw [bne_iff_ne]; exact findI_yes hw ho
  generalize findI L a b = y at *
  have HE := hid (fun (wx : World) (hx : Below (w.alloc (.cells #[.int .i64 a, .int .i64 b] 44)).heap.size (w.alloc (.cells #[.int .i64 a, .int .i64 b] 44)) wx) => have hb := hB.trans (hx.mono (by simp)); radd_err (h.below hb (Nat.le_refl _)) hb (n := 7) (by decide) (addE_7 hw hp ho))
  rcases hp with rfl | hp
  · clear h hl hw ho hB hN
    go_enter Try.func20, Try.ntmps20
    go_wp2_with (go_at_call 25; refine HF.out.mono ?_; rintro en w2 ⟨rfl, hb2⟩; have HE2 := hid (HE.out _ hb2); clear hb2)
    go_ret2
    exact HE2.out
  · by_cases h0 : x = 0
    · subst h0
      clear h hl hw ho hB hN
      go_enter Try.func20, Try.ntmps20
      go_wp2_with (go_at_call 25; refine HF.out.mono ?_; rintro en w2 ⟨rfl, hb2⟩; have HE2 := hid (HE.out _ hb2); clear hb2)
      go_ret2
      exact HE2.out
    · have hx : (x != 0) = true := by rw [bne_iff_ne]; exact h0
      have hge := atI_there hw.ids hp
      generalize atI L x = k at *
      have hlt : decide (k < 0) = false := by simp; omega
      clear h hl hw ho hB hN h0 hp
      go_enter Try.func20, Try.ntmps20
      go_wp2_with (first
        | (go_at_call 37; refine HA.out.mono ?_; rintro en w1 ⟨rfl, rfl⟩)
        | (go_at_call 25; refine HF.out.mono ?_; rintro en w2 ⟨rfl, hb2⟩; have HE2 := hid (HE.out _ hb2); clear hb2))
      go_ret2
      exact HE2.out
end
end Go.Proofs.Ytiechmcfafhfaaa
