/- The document's forest: the contract of Add. -/
import Derived.Test.YtiechmcfafhfaaaRa3
import Derived.Test.YtiechmcfafhfaaaRa4
namespace Go.Proofs.Ytiechmcfafhfaaa
open Go.RowKit Go.Maps Go.Shelf

section
variable {w w' : World} {r : Nat} {v : Value} {last last2 : Nat} {L : List Nd} {e : Nd}
/-- Add, at whatever number and owner. -/
theorem radd_any (h : Rf w r v last L) (hw : Wf L last) (hlast : last < 400) (x a b : Int) : Calls Try.prog 20 #[ptr r, .int .i64 x, spot a b] w (RAdd w r v last L x a b) := by
  have hll : L.length ≤ 400 := by have := hw.len; omega
  by_cases h6 : x ≠ 0 ∧ ¬ There L x
  · exact radd_6 h hll h6.1 h6.2 a b
  · have hp : x = 0 ∨ There L x := by
      by_cases h0 : x = 0
      · exact .inl h0
      · by_cases hT : There L x
        · exact .inr hT
        · exact absurd ⟨h0, hT⟩ h6
    by_cases h7 : ∃ f ∈ L, f.sp = a ∧ f.sl = b
    · exact radd_7 h hw hll hp h7
    · by_cases h0 : x = 0
      · exact radd_00 h hw hlast h0 h7
      · exact radd_0t h hw hlast h0 (hp.resolve_left h0) h7
end
end Go.Proofs.Ytiechmcfafhfaaa
