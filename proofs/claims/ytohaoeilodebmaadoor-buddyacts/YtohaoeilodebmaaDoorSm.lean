/- The contract of Same, at two lists that are the same. -/
import Derived.Test.YtohaoeilodebmaaDoorFr
namespace Go.Proofs.YtohaoeilodebmaaDoor
open Go.RowKit Go.Maps

set_option maxHeartbeats 1000000 in
set_option maxRecDepth 100000 in
theorem same_true (w : World) (L : List (Nat × Nat)) (aA aB : Option Addr) (b1 b2 c1 c2 : Nat) (rA : Rd w b1 aA L) (rB : Rd w b2 aB L) (hl : L.length ≤ 100000000) :
    Calls Tryd.prog 22 #[.slice aA L.length c1, .slice aB L.length c2] w fun e w' => e = .returned (.bool true) ∧ Below w.heap.size w w' := by
  have HA := hid rA
  have HB := hid rB
  clear rA rB
  go_enter Tryd.func22, Tryd.ntmps22
  go_wp2_with fail
  go_loopw [5] (fun t wr => ∃ i : Nat, i ≤ L.length ∧ t = .int .i64 (i : Int) ∧ Below w.heap.size w wr) (fun t _ => L.length - (intOf t).toNat)
  case atStart => exact ⟨0, Nat.zero_le _, rfl, Below.refl _ _⟩
  case round =>
    obtain ⟨i, hi, rfl, hX⟩ := hrel
    by_cases hlt : i < L.length
    · obtain ⟨⟨p, k⟩, hx⟩ : ∃ x, L[i]? = some x := ⟨_, List.getElem?_eq_getElem hlt⟩
      obtain ⟨g, rfl, c0, c1'⟩ := (HA.out.below hX).at hx
      obtain ⟨g2, rfl, d0, d1⟩ := (HB.out.below hX).at hx
      have hi1 : (i : Int) < (L.length : Int) := by omega
      have hi0 : (0 : Int) ≤ (i : Int) := by omega
      clear hx
      go_wp2_with fail
      go_quiet (fail)
      go_wp2_with fail
      exact ⟨⟨i + 1, by omega, by go_num, Below.drewN hX _⟩, by simp [intOf]; omega⟩
    · obtain rfl : i = L.length := by omega
      go_wp2_with fail
      go_ret
      exact ⟨rfl, hX⟩
end Go.Proofs.YtohaoeilodebmaaDoor
