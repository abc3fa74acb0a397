/- PoolActs, at whatever size, limit and acts. -/
import Derived.Test.YtdmnemgooagehaaGreatDoorOB
namespace Go.Proofs.YtdmnemgooagehaaGreatDoor
open Go.ChangeShapes Go.WideShapes Go.ChangeAt Go.RowKit
theorem pacts_all (S N : Int) (a : Option Addr) (len cap : Nat) (w : World) (hT : Tab w) (hC : Cst w) (hA : Acts6 w a len) :
    Calls Tryz.prog 4 #[.int .i64 S, .int .i64 N, .slice a len cap] w fun e w' => e = .returned (.bool true) ∧ Below w.heap.size w w' := by
  by_cases hl : (150 : Int) < len
  · exact poolActs.core_long S N a len cap w hT hC hl
  by_cases hw : 131072 < S ∧ S ≤ 1073741824
  · exact poolActs.core_wide S N a len cap w hT hC (by omega) hw.1 hw.2
  by_cases hm : (S = 65536 ∨ S = 131072) ∧ 0 ≤ N ∧ N ≤ S
  · obtain ⟨n, rfl⟩ := Int.eq_ofNat_of_zero_le hm.2.1
    rcases hm.1 with rfl | rfl
    · exact poolActs.core 6 n (.inl rfl) 65536 rfl hm.2.2 a len cap w hT hC hA (by omega)
    · exact poolActs.core 7 n (.inr rfl) 131072 rfl hm.2.2 a len cap w hT hC hA (by omega)
  · exact poolActs.core_no S N a len cap w hT hC (by omega) (by omega) hm
end Go.Proofs.YtdmnemgooagehaaGreatDoor
