/- The walk of PoolActs. -/
import Derived.Test.YtdmnemgooagehaaGreatDoorO9
import Derived.Deep.CutRange
namespace Go.Proofs.YtdmnemgooagehaaGreatDoor.poolActs
open Go.ChangeShapes Go.WideShapes Go.ChangeAt Go.RowKit Go.Proofs.YtdmnemgooagehaaGreatDoor

theorem phas_nil (c x : Int) (w : World) : Calls Tryz.prog 32 #[.pointer none, .int .i64 c, .int .i64 x] w fun e w' => e = .returned (.bool false) ∧ w' = w := by
  go_enter Tryz.func32, Tryz.ntmps32
  go_wp2_with (first
    | (go_at_call 94; refine (pcache_nil _ _).mono ?_; rintro e wx ⟨rfl, rfl⟩)
    | (go_at_call 16; refine (shas_nil _ _).mono ?_; rintro e wx ⟨rfl, rfl⟩))
  go_ret
  exact ⟨rfl, rfl⟩
theorem pused_nil (c : Int) (w : World) : Calls Tryz.prog 36 #[.pointer none, .int .i64 c] w fun e w' => e = .returned (.slice none 0 0) ∧ Below w.heap.size w w' := by
  go_enter Tryz.func36, Tryz.ntmps36
  go_wp2_with (first
    | (go_at_call 94; refine (pcache_nil _ _).mono ?_; rintro e wx ⟨rfl, rfl⟩)
    | (go_at_call 14; refine (sused_nil _).mono ?_; rintro e wx ⟨rfl, hb⟩))
  go_ret
  exact ⟨rfl, hb⟩
set_option maxRecDepth 100000 in
theorem core_long (S N : Int) (a : Option Addr) (len cap : Nat) (w : World) (hT : Tab w) (hC : Cst w) (hl : (150 : Int) < len) :
    Calls Tryz.prog 4 #[.int .i64 S, .int .i64 N, .slice a len cap] w fun e w' => e = .returned (.bool true) ∧ Below w.heap.size w w' := by
  have HT := hid (And.intro hT hC)
  clear hT hC
  go_enter Tryz.func4, Tryz.ntmps4
  go_wp2_with fail
  refine (alive6 _ HT.out.1 HT.out.2).mono ?_
  rintro e w1 ⟨rfl, hb1⟩
  go_wp2_with fail
  go_ret
  exact ⟨rfl, hb1⟩
set_option maxRecDepth 100000 in
theorem core_wide (S N : Int) (a : Option Addr) (len cap : Nat) (w : World) (hT : Tab w) (hC : Cst w) (hl : (len : Int) ≤ 150) (h1 : 131072 < S) (h2 : S ≤ 1073741824) :
    Calls Tryz.prog 4 #[.int .i64 S, .int .i64 N, .slice a len cap] w fun e w' => e = .returned (.bool true) ∧ Below w.heap.size w w' := by
  have HT := hid (And.intro hT hC)
  clear hT hC
  go_enter Tryz.func4, Tryz.ntmps4
  go_wp2_with fail
  refine (alive6 _ HT.out.1 HT.out.2).mono ?_
  rintro e w1 ⟨rfl, hb1⟩
  go_wp2_with fail
  go_ret
  exact ⟨rfl, hb1⟩
set_option maxRecDepth 100000 in
set_option maxHeartbeats 2000000 in
theorem core_no (S N : Int) (a : Option Addr) (len cap : Nat) (w : World) (hT : Tab w) (hC : Cst w) (hl : (len : Int) ≤ 150) (h1 : S ≤ 131072 ∨ 1073741824 < S) (hno : ¬ ((S = 65536 ∨ S = 131072) ∧ 0 ≤ N ∧ N ≤ S)) :
    Calls Tryz.prog 4 #[.int .i64 S, .int .i64 N, .slice a len cap] w fun e w' => e = .returned (.bool true) ∧ Below w.heap.size w w' := by
  have HT := hid (And.intro hT hC)
  have HN := hid (fun wx => pnew_bad S N wx h1 hno)
  have HM := hid (fun wx => rmay_any S N wx h1 false ⟨fun e => (by cases e), fun e => absurd e hno⟩)
  clear hT hC hno
  by_cases h2 : 131072 < S
  all_goals
    have h3 : 131072 < S → ¬ S ≤ 1073741824 := by omega
    clear h1
    first
    | have h4 := h3 h2
      clear h3
    | clear h3
    go_enter Tryz.func4, Tryz.ntmps4
    go_wp2_with fail
    refine (alive6 _ HT.out.1 HT.out.2).mono ?_
    rintro e w1 ⟨rfl, hb1⟩
    go_wp2_with (first
      | (go_at_call 28; refine (HN.out _).mono ?_; rintro e w4 ⟨rfl, rfl⟩)
      | (go_at_call 29; refine (HM.out _).mono ?_; rintro e w4 ⟨rfl, rfl⟩)
      | (go_at_call 30; refine (pget_nil _ _ _).mono ?_; rintro e w5 ⟨rfl, rfl⟩)
      | (go_at_call 31; refine (pput_nil _ _ _ _).mono ?_; rintro e w6 ⟨rfl, rfl⟩)
      | (go_at_call 32; refine (phas_nil _ _ _).mono ?_; rintro e w7 ⟨rfl, rfl⟩)
      | (go_at_call 33; refine (parena_nil _).mono ?_; rintro e w8 ⟨rfl, rfl⟩)
      | (go_at_call 34; refine (pquota_nil _).mono ?_; rintro e w9 ⟨rfl, rfl⟩)
      | (go_at_call 35; refine (pblocks_nil _).mono ?_; rintro e w10 ⟨rfl, rfl⟩)
      | (go_at_call 36; refine (pused_nil _ _).mono ?_; rintro e w11 ⟨rfl, hb11⟩; have HB11 := hid (hb1.trans (hb11.mono hb1.size)); clear hb11))
    go_ret
    exact ⟨rfl, HB11.out⟩
end Go.Proofs.YtdmnemgooagehaaGreatDoor.poolActs
