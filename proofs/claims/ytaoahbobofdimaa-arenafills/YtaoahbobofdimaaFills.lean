/- For every place, every number and every byte: filling a new arena of 65536 bytes turns just the bytes of its range, and nothing where the range isn't in the arena: ArenaFills returns true. Conditions: none. -/
import Derived.Test.YtaoahbobofdimaaE
import Derived.ProofKit
import Derived.OpenShut
import Derived.ShutString
import Derived.ChangeOld
namespace Go.Proofs.Ytaoahbobofdimaa.arenaFills
open Go.ChangeShapes Go.WideShapes Go.ChangeAt Go.RowKit Go.Proofs.Ytaoahbobofdimaa

theorem fm_get (a k : Nat) (c : Int) (h : a + k ≤ 65536) (i : Nat) : (putAt (zeros 65536) a (List.replicate k c))[i]?.getD 0 = if a ≤ i ∧ i < a + k then c else 0 := by
  rw [putAt_get _ _ _ (by rw [List.length_replicate, zeros_length]; exact h), List.length_replicate]
  by_cases h1 : i < a
  · rw [if_pos h1, zeros_get, if_neg (by omega)]
  · rw [if_neg h1]
    by_cases h2 : i < a + k
    · have h3 : i - a < k := by omega
      rw [if_pos h2, if_pos (by omega)]; simp [h3]
    · rw [if_neg h2, zeros_get, if_neg (by omega)]

set_option maxHeartbeats 1000000 in
theorem walk_in (a0 a1 a2 : Int) (w : World) (h0 : 0 ≤ a0) (h1 : 0 ≤ a1) (h2 : a0 ≤ 65536) (h3 : a1 ≤ 65536 - a0) (hc : 0 ≤ a2) (hc' : a2 ≤ 255) :
    Calls Try.prog 6 #[.int .i64 a0, .int .i64 a1, .int .u8 a2] w fun e w' => e = .returned (.bool true) ∧ Below w.heap.size w w' := by
  go_enter Try.func6, Try.ntmps6
  go_wp2_with fail
  refine (alive_true _).mono ?_
  rintro e w1 ⟨rfl, hb1⟩
  go_wp2_with fail
  refine (new_64k _).mono ?_
  rintro e w2 ⟨b, g, rfl, hA2, hb2, hlb, hlg⟩
  have hB2 := Below.of_below hb1 hb1.size hb2
  have hlg' : w.heap.size ≤ g := Nat.le_trans hb1.size hlg
  clear hb1 hb2 hlb hlg
  go_wp2_with fail
  refine (fill_ok b g _ a0 a1 a2 _ hA2 h0 h1 (by rw [zeros_length]; omega) hc hc').mono ?_
  rintro e w3 ⟨rfl, hA3, hb3⟩
  have hB3 := Below.of_but hB2 hB2.size hb3 hlg'
  clear hb3 hA2 hB2
  go_wp2_with fail
  obtain ⟨at_, rfl⟩ := Int.eq_ofNat_of_zero_le h0
  obtain ⟨n, rfl⟩ := Int.eq_ofNat_of_zero_le h1
  rw [Int.toNat_natCast, Int.toNat_natCast] at hA3
  have hget := fm_get at_ n a2 (by omega)
  have hl3 : (putAt (zeros 65536) at_ (List.replicate n a2)).length = 65536 := by
    rw [putAt_length _ _ _ (by rw [List.length_replicate, zeros_length]; omega), zeros_length]
  generalize putAt (zeros 65536) at_ (List.replicate n a2) = m at *
  refine (read_ok b g m 0 65536 _ hA3 (by omega) (by omega) (by rw [hl3]; omega)).mono ?_
  rintro e w4 ⟨rfl, hr4, hb4, hs4⟩
  have hB4 := Below.of_below hB3 hB3.size hb4
  rw [show (0 : Int).toNat = 0 from rfl, show (65536 : Int).toNat = 65536 from rfl, List.drop_zero, List.take_of_length_le (by rw [hl3]; omega)] at hr4
  rw [show (65536 : Int).toNat = 65536 from rfl]
  have HR := hid hr4
  have HG := hid hget
  have HL := hid hl3
  clear hr4 hget hl3 hb4 hs4 hA3 hB3
  go_wp2_with fail
  go_loop [12] (fun i => ∃ k : Nat, (k : Int) ≤ 65536 ∧ i = .int .i64 k) (fun i => 65536 - (intOf i).toNat)
  case atStart => exact ⟨0, by omega, rfl⟩
  case round =>
    obtain ⟨k, hk, rfl⟩ := hrel
    by_cases hlt : (k : Int) < 65536
    · have hcell := cell_of_row _ _ k _ _ _ HR.out
      rw [bv_get _ _ (by rw [HL.out]; omega), HG.out k] at hcell
      by_cases h4 : (at_ : Int) ≤ k
      · by_cases h5 : (k : Int) < at_ + n
        · rw [if_pos (by omega)] at hcell
          go_wp2
          exact ⟨⟨k + 1, by omega, by go_num⟩, by simp [intOf]; omega⟩
        · rw [if_neg (by omega)] at hcell
          go_wp2
          exact ⟨⟨k + 1, by omega, by go_num⟩, by simp [intOf]; omega⟩
      · rw [if_neg (by omega)] at hcell
        go_wp2
        exact ⟨⟨k + 1, by omega, by go_num⟩, by simp [intOf]; omega⟩
    · go_wp2
      go_ret
      exact ⟨rfl, hB4⟩

set_option maxHeartbeats 1000000 in
theorem walk_out1 (a0 a1 a2 : Int) (w : World) (h : a0 < 0) (ha : a0 < 9223372036854775808) (HER : Hid (errRange (zeros 65536).length a0 a1 = 2)) :
    Calls Try.prog 6 #[.int .i64 a0, .int .i64 a1, .int .u8 a2] w fun e w' => e = .returned (.bool true) ∧ Below w.heap.size w w' := by
  go_enter Try.func6, Try.ntmps6
  go_wp2_with fail
  refine (alive_true _).mono ?_
  rintro e w1 ⟨rfl, hb1⟩
  go_wp2_with fail
  refine (new_64k _).mono ?_
  rintro e w2 ⟨b, g, rfl, hA2, hb2, hlb, hlg⟩
  have hB2 := Below.of_below hb1 hb1.size hb2
  have hlg' : w.heap.size ≤ g := Nat.le_trans hb1.size hlg
  clear hb1 hb2 hlb hlg
  go_wp2_with fail
  refine (fill_er b g (zeros 65536).length a0 a1 a2 _ hA2.small ha hA2.cell HER.out).mono ?_
  rintro e w3 ⟨rfl, rfl⟩
  go_wp2_with fail
  refine (read_ok b g (zeros 65536) 0 65536 _ hA2 (by omega) (by omega) (by rw [zeros_length]; omega)).mono ?_
  rintro e w4 ⟨rfl, hr4, hb4, hs4⟩
  have hB4 := Below.of_below hB2 hB2.size hb4
  rw [show (0 : Int).toNat = 0 from rfl, show (65536 : Int).toNat = 65536 from rfl, List.drop_zero, List.take_of_length_le (by rw [zeros_length]; omega)] at hr4
  rw [show (65536 : Int).toNat = 65536 from rfl]
  have HR := hid hr4
  clear hr4 hb4 hs4 hA2 hB2 ha
  go_wp2_with fail
  go_loop [12] (fun i => ∃ k : Nat, (k : Int) ≤ 65536 ∧ i = .int .i64 k) (fun i => 65536 - (intOf i).toNat)
  case atStart => exact ⟨0, by omega, rfl⟩
  case round =>
    obtain ⟨k, hk, rfl⟩ := hrel
    by_cases hlt : (k : Int) < 65536
    · have hcell := cell_of_row _ _ k _ _ _ HR.out
      rw [bv_get _ _ (by rw [zeros_length]; omega), zeros_get] at hcell
      go_wp2
      exact ⟨⟨k + 1, by omega, by go_num⟩, by simp [intOf]; omega⟩
    · go_wp2
      go_ret
      exact ⟨rfl, hB4⟩

set_option maxHeartbeats 1000000 in
theorem walk_out2 (a0 a1 a2 : Int) (w : World) (h : 0 ≤ a0) (k1 : a1 < 0) (ha : a0 < 9223372036854775808) (HER : Hid (errRange (zeros 65536).length a0 a1 = 2)) :
    Calls Try.prog 6 #[.int .i64 a0, .int .i64 a1, .int .u8 a2] w fun e w' => e = .returned (.bool true) ∧ Below w.heap.size w w' := by
  go_enter Try.func6, Try.ntmps6
  go_wp2_with fail
  refine (alive_true _).mono ?_
  rintro e w1 ⟨rfl, hb1⟩
  go_wp2_with fail
  refine (new_64k _).mono ?_
  rintro e w2 ⟨b, g, rfl, hA2, hb2, hlb, hlg⟩
  have hB2 := Below.of_below hb1 hb1.size hb2
  have hlg' : w.heap.size ≤ g := Nat.le_trans hb1.size hlg
  clear hb1 hb2 hlb hlg
  go_wp2_with fail
  refine (fill_er b g (zeros 65536).length a0 a1 a2 _ hA2.small ha hA2.cell HER.out).mono ?_
  rintro e w3 ⟨rfl, rfl⟩
  go_wp2_with fail
  refine (read_ok b g (zeros 65536) 0 65536 _ hA2 (by omega) (by omega) (by rw [zeros_length]; omega)).mono ?_
  rintro e w4 ⟨rfl, hr4, hb4, hs4⟩
  have hB4 := Below.of_below hB2 hB2.size hb4
  rw [show (0 : Int).toNat = 0 from rfl, show (65536 : Int).toNat = 65536 from rfl, List.drop_zero, List.take_of_length_le (by rw [zeros_length]; omega)] at hr4
  rw [show (65536 : Int).toNat = 65536 from rfl]
  have HR := hid hr4
  clear hr4 hb4 hs4 hA2 hB2 ha
  go_wp2_with fail
  go_loop [12] (fun i => ∃ k : Nat, (k : Int) ≤ 65536 ∧ i = .int .i64 k) (fun i => 65536 - (intOf i).toNat)
  case atStart => exact ⟨0, by omega, rfl⟩
  case round =>
    obtain ⟨k, hk, rfl⟩ := hrel
    by_cases hlt : (k : Int) < 65536
    · have hcell := cell_of_row _ _ k _ _ _ HR.out
      rw [bv_get _ _ (by rw [zeros_length]; omega), zeros_get] at hcell
      go_wp2
      exact ⟨⟨k + 1, by omega, by go_num⟩, by simp [intOf]; omega⟩
    · go_wp2
      go_ret
      exact ⟨rfl, hB4⟩

set_option maxHeartbeats 1000000 in
theorem walk_out3 (a0 a1 a2 : Int) (w : World) (h : 0 ≤ a0) (k1 : 0 ≤ a1) (k2 : 65536 < a0) (ha : a0 < 9223372036854775808) (HER : Hid (errRange (zeros 65536).length a0 a1 = 2)) :
    Calls Try.prog 6 #[.int .i64 a0, .int .i64 a1, .int .u8 a2] w fun e w' => e = .returned (.bool true) ∧ Below w.heap.size w w' := by
  go_enter Try.func6, Try.ntmps6
  go_wp2_with fail
  refine (alive_true _).mono ?_
  rintro e w1 ⟨rfl, hb1⟩
  go_wp2_with fail
  refine (new_64k _).mono ?_
  rintro e w2 ⟨b, g, rfl, hA2, hb2, hlb, hlg⟩
  have hB2 := Below.of_below hb1 hb1.size hb2
  have hlg' : w.heap.size ≤ g := Nat.le_trans hb1.size hlg
  clear hb1 hb2 hlb hlg
  go_wp2_with fail
  refine (fill_er b g (zeros 65536).length a0 a1 a2 _ hA2.small ha hA2.cell HER.out).mono ?_
  rintro e w3 ⟨rfl, rfl⟩
  go_wp2_with fail
  refine (read_ok b g (zeros 65536) 0 65536 _ hA2 (by omega) (by omega) (by rw [zeros_length]; omega)).mono ?_
  rintro e w4 ⟨rfl, hr4, hb4, hs4⟩
  have hB4 := Below.of_below hB2 hB2.size hb4
  rw [show (0 : Int).toNat = 0 from rfl, show (65536 : Int).toNat = 65536 from rfl, List.drop_zero, List.take_of_length_le (by rw [zeros_length]; omega)] at hr4
  rw [show (65536 : Int).toNat = 65536 from rfl]
  have HR := hid hr4
  clear hr4 hb4 hs4 hA2 hB2 ha
  go_wp2_with fail
  go_loop [12] (fun i => ∃ k : Nat, (k : Int) ≤ 65536 ∧ i = .int .i64 k) (fun i => 65536 - (intOf i).toNat)
  case atStart => exact ⟨0, by omega, rfl⟩
  case round =>
    obtain ⟨k, hk, rfl⟩ := hrel
    by_cases hlt : (k : Int) < 65536
    · have hcell := cell_of_row _ _ k _ _ _ HR.out
      rw [bv_get _ _ (by rw [zeros_length]; omega), zeros_get] at hcell
      go_wp2
      exact ⟨⟨k + 1, by omega, by go_num⟩, by simp [intOf]; omega⟩
    · go_wp2
      go_ret
      exact ⟨rfl, hB4⟩

set_option maxHeartbeats 1000000 in
theorem walk_out4 (a0 a1 a2 : Int) (w : World) (h : 0 ≤ a0) (k1 : 0 ≤ a1) (k2 : a0 ≤ 65536) (k3 : 65536 - a0 < a1) (ha : a0 < 9223372036854775808) (HER : Hid (errRange (zeros 65536).length a0 a1 = 2)) :
    Calls Try.prog 6 #[.int .i64 a0, .int .i64 a1, .int .u8 a2] w fun e w' => e = .returned (.bool true) ∧ Below w.heap.size w w' := by
  have hd : decide (a1 ≤ 65536 - a0) = false := by simp; omega
  go_enter Try.func6, Try.ntmps6
  go_wp2_with fail
  refine (alive_true _).mono ?_
  rintro e w1 ⟨rfl, hb1⟩
  go_wp2_with fail
  refine (new_64k _).mono ?_
  rintro e w2 ⟨b, g, rfl, hA2, hb2, hlb, hlg⟩
  have hB2 := Below.of_below hb1 hb1.size hb2
  have hlg' : w.heap.size ≤ g := Nat.le_trans hb1.size hlg
  clear hb1 hb2 hlb hlg
  go_wp2_with fail
  refine (fill_er b g (zeros 65536).length a0 a1 a2 _ hA2.small ha hA2.cell HER.out).mono ?_
  rintro e w3 ⟨rfl, rfl⟩
  go_wp2_with fail
  refine (read_ok b g (zeros 65536) 0 65536 _ hA2 (by omega) (by omega) (by rw [zeros_length]; omega)).mono ?_
  rintro e w4 ⟨rfl, hr4, hb4, hs4⟩
  have hB4 := Below.of_below hB2 hB2.size hb4
  rw [show (0 : Int).toNat = 0 from rfl, show (65536 : Int).toNat = 65536 from rfl, List.drop_zero, List.take_of_length_le (by rw [zeros_length]; omega)] at hr4
  rw [show (65536 : Int).toNat = 65536 from rfl]
  have HR := hid hr4
  clear hr4 hb4 hs4 hA2 hB2 ha
  go_wp2_with fail
  go_loop [12] (fun i => ∃ k : Nat, (k : Int) ≤ 65536 ∧ i = .int .i64 k) (fun i => 65536 - (intOf i).toNat)
  case atStart => exact ⟨0, by omega, rfl⟩
  case round =>
    obtain ⟨k, hk, rfl⟩ := hrel
    by_cases hlt : (k : Int) < 65536
    · have hcell := cell_of_row _ _ k _ _ _ HR.out
      rw [bv_get _ _ (by rw [zeros_length]; omega), zeros_get] at hcell
      go_wp2
      exact ⟨⟨k + 1, by omega, by go_num⟩, by simp [intOf]; omega⟩
    · go_wp2
      go_ret
      exact ⟨rfl, hB4⟩

theorem walk_out (a0 a1 a2 : Int) (w : World) (hin : a0 < 0 ∨ a1 < 0 ∨ 65536 < a0 ∨ 65536 - a0 < a1) (ha : a0 < 9223372036854775808) :
    Calls Try.prog 6 #[.int .i64 a0, .int .i64 a1, .int .u8 a2] w fun e w' => e = .returned (.bool true) ∧ Below w.heap.size w w' := by
  have her : errRange (zeros 65536).length a0 a1 = 2 := by rw [zeros_length]; unfold errRange; rw [if_pos (by omega)]
  have hin' : a0 < 0 ∨ (0 ≤ a0 ∧ a1 < 0) ∨ (0 ≤ a0 ∧ 0 ≤ a1 ∧ 65536 < a0) ∨ (0 ≤ a0 ∧ 0 ≤ a1 ∧ a0 ≤ 65536 ∧ 65536 - a0 < a1) := by omega
  rcases hin' with h | ⟨h, k1⟩ | ⟨h, k1, k2⟩ | ⟨h, k1, k2, k3⟩
  · exact walk_out1 a0 a1 a2 w h ha her
  · exact walk_out2 a0 a1 a2 w h k1 ha her
  · exact walk_out3 a0 a1 a2 w h k1 k2 ha her
  · exact walk_out4 a0 a1 a2 w h k1 k2 k3 ha her

theorem walk (a0 a1 a2 : Int) (w0 : (Lit.int .i64 a0).wf = true) (w2 : (Lit.int .u8 a2).wf = true) (w : World) :
    Calls Try.prog 6 #[.int .i64 a0, .int .i64 a1, .int .u8 a2] w fun e w' => e = .returned (.bool true) ∧ Below w.heap.size w w' := by
  have b0 := bounds_i64 w0
  have b2 := bounds_u8 w2
  by_cases h : 0 ≤ a0 ∧ 0 ≤ a1 ∧ a0 ≤ 65536 ∧ a1 ≤ 65536 - a0
  · exact walk_in a0 a1 a2 w h.1 h.2.1 h.2.2.1 h.2.2.2 (by omega) (by omega)
  · exact walk_out a0 a1 a2 w (by omega) (by omega)

theorem own : ownKnob Try.prog.godebug = none := by kernel_rfl
theorem laidOut : laidOutB Try.prog = true := by kernel_rfl

set_option maxRecDepth 100000 in
theorem lifted (os : Os) (started : os.Started) (H : Type) (enc : TypeId × Value → H) :
    ReturnsInHanded {} Try.checked os 6 .any (Rows.arenaFillsSpec.pre6 enc Try.prog Try.f6 Rows.arenaFillsRow.domain false) (Rows.arenaFillsSpec.post enc Try.prog Try.f6 false true false false) := by
  refine returnsInHanded_of_change (C := Try.checked) own started (by kernel_rfl) Try.func6
    (ChangeSpec.witness6 (enc := enc) (C := Try.checked) false ⟨#[], #[.int .i64 0, .int .i64 0, .int .u8 0], []⟩ 8 (by kernel_rfl) (by kernel_rfl) (by kernel_rfl) (by kernel_rfl)) ?_
  intro W base args ds gs before hval0 hW hcnd _
  have hval : ∀ (j : Nat) t v, Try.f6.params[j]? = some t → args[j]? = some v → Value.okWide Try.prog W .any base t v := hval0
  have hW' := hW
  obtain ⟨p, q, hA0, hV, rfl, hfz, hnd⟩ := hW
  have hA : DataW.TrodAll enc Try.prog W 0 (fun _ => true) true Try.f6.params.toList args.toList ds p := hA0
  rw [Try.params6] at hA hval
  obtain ⟨v0, vs0, d0, ds0, p0, q0, hargs, rfl, rfl, h0, r0⟩ := trodAll_cons hA
  obtain ⟨v1, vs1, d1, ds1, p1, q1, rfl, rfl, rfl, h1, r1⟩ := trodAll_cons r0
  obtain ⟨v2, vs2, d2, ds2, p2, q2, rfl, rfl, rfl, h2, r2⟩ := trodAll_cons r1
  obtain ⟨rfl, rfl, rfl⟩ := trodAll_nil r2
  obtain rfl : args = #[v0, v1, v2] := by cases args; simp_all
  obtain ⟨rfl, rfl⟩ := trodVars_none hV
  obtain ⟨a0, rfl, rfl, rfl, w0⟩ := open_int Try.underlying3 (hval 0 3 v0 rfl rfl) h0
  obtain ⟨a1, rfl, rfl, rfl, w1⟩ := open_int Try.underlying3 (hval 1 3 v1 rfl rfl) h1
  obtain ⟨a2, rfl, rfl, rfl, w2⟩ := open_int Try.underlying5 (hval 2 5 v2 rfl rfl) h2
  clear hA0 hval0
  refine (walk a0 a1 a2 w0 w2 W).mono fun e W' ⟨he, bel⟩ => ?_
  subst he
  exact ⟨_, rfl, _, _, _, [], _, [], hW', trodAll_mk1 (shut_bool Try.underlying4 _), (trodAll_cons_mk (shut_int Try.underlying3 w0) (trodAll_cons_mk (shut_int Try.underlying3 w1) (trodAll_cons_mk (shut_int Try.underlying5 w2) trodAll_mk0))), rfl, bel.frame _, fun h => by cases h⟩

theorem proved : Rows.ArenaFillsSaid :=
  OpenClaim.holds_of_wide 6 Try.f6 rfl rfl rfl rfl rfl rfl rfl ⟨rfl, rfl, rfl, rfl, rfl⟩ rfl rfl rfl rfl rfl (by kernel_rfl) Try.func6 (by kernel_rfl)
    (of_decide_eq_true (by kernel_rfl)) (by unfold Func.isWrapper; first | (rw [if_pos (by decide +kernel)]; kernel_rfl) | (rw [if_neg (by decide +kernel)]; exact ⟨rfl, rfl⟩))
    (fun os started H enc _ => lifted os started H enc)

end Go.Proofs.Ytaoahbobofdimaa.arenaFills
