/- For every word, every place and every byte: a word's bytes stand in the arena the lowest first, whether it was stored as a word or written as bytes: ArenaBytes returns true. Conditions: none. -/
import Derived.Test.YtaoahbobofdimaaE
import Derived.ProofKit
import Derived.OpenShut
import Derived.ShutString
import Derived.ChangeOld
namespace Go.Proofs.Ytaoahbobofdimaa.arenaBytes
open Go.ChangeShapes Go.WideShapes Go.ChangeAt Go.RowKit Go.Proofs.Ytaoahbobofdimaa

def full (c : Int) : List Int := putAt (zeros 65536) 0 (List.replicate 65536 c)
theorem full_length (c : Int) : (full c).length = 65536 := by
  unfold full; rw [putAt_length _ _ _ (by rw [List.length_replicate, zeros_length]; omega), zeros_length]
theorem full_get (c : Int) (i : Nat) (h : i < 65536) : (full c)[i]?.getD 0 = c := by
  unfold full
  rw [putAt_get _ _ _ (by rw [List.length_replicate, zeros_length]; omega), List.length_replicate, if_neg (by omega), if_pos (by omega), List.getElem?_replicate, if_pos (by omega)]
  rfl
theorem cut_put (m : List Int) (o : Nat) (cs : List Int) (h : o + cs.length ≤ m.length) : ((putAt m o cs).drop o).take cs.length = cs := by
  apply List.ext_getElem?
  intro i
  rw [List.getElem?_take]
  by_cases hi : i < cs.length
  · rw [if_pos hi, List.getElem?_drop, putAt_get m o cs h, if_neg (by omega), if_pos (by omega)]
    congr 1; omega
  · rw [if_neg hi, List.getElem?_eq_none (by omega)]
theorem wordAt_other (c : Int) (a o : Nat) (cs : List Int) (hl : cs.length = 8) (ha : a + 8 ≤ 65536) (ho : o + 8 ≤ 65536) (hd : a + 8 ≤ o ∨ o + 8 ≤ a) :
    wordAt (putAt (full c) a cs) o = c * 72340172838076673 := by
  have e : ∀ i, i < 8 → (putAt (full c) a cs)[o + i]?.getD 0 = c := by
    intro i hi
    rw [putAt_get _ _ _ (by rw [full_length, hl]; exact ha), hl]
    by_cases h1 : o + i < a
    · rw [if_pos h1, full_get _ _ (by omega)]
    · rw [if_neg h1, if_neg (by omega), full_get _ _ (by omega)]
  have e0 := e 0 (by omega)
  rw [Nat.add_zero] at e0
  unfold wordAt
  rw [e0, e 1 (by omega), e 2 (by omega), e 3 (by omega), e 4 (by omega), e 5 (by omega), e 6 (by omega), e 7 (by omega)]
  unfold word8; omega

set_option maxHeartbeats 2000000 in
theorem core (x sp c : Int) (w : World) (hx0 : 0 ≤ x) (hx1 : x < 18446744073709551616) (hs0 : 0 ≤ sp) (hs1 : sp < 65536) (hc : 0 ≤ c) (hc' : c ≤ 255) :
    Calls Try.prog 5 #[.int .u64 x, .int .u16 sp, .int .u8 c] w fun e w' => e = .returned (.bool true) ∧ Below w.heap.size w w' := by
  go_enter Try.func5, Try.ntmps5
  go_wp2_with fail
  refine (alive_true _).mono ?_
  rintro e w1 ⟨rfl, hb1⟩
  go_wp2_with fail
  refine (new_64k _).mono ?_
  rintro e w2 ⟨b, g, rfl, hA2, hb2, hlb, hlg⟩
  have hB2 := Below.of_below hb1 hb1.size hb2
  have hlg' : w.heap.size ≤ g := Nat.le_trans hb1.size hlg
  clear hb1 hb2 hlb hlg
  go_wp2_with fail
  refine (fill_ok b g _ 0 65536 c _ hA2 (by omega) (by omega) (by rw [zeros_length]; omega) hc hc').mono ?_
  rintro e w3 ⟨rfl, hA3, hb3⟩
  change Arena w3 b g (full c) at hA3
  have hB3 := Below.of_but hB2 hB2.size hb3 hlg'
  clear hb3 hA2 hB2
  go_wp2_with fail
  obtain ⟨q, hq, hq0, hq1⟩ : ∃ q : Nat, sp % 8192 = (q : Int) ∧ 0 ≤ (q : Int) ∧ (q : Int) < 8192 := ⟨(sp % 8192).toNat, by omega, by omega, by omega⟩
  rw [hq]
  clear hq hs0 hs1
  have hA4 := hA3.below ((Below.refl _ _).alloc (Nat.le_refl _) (.cells #[.int .u64 x] 28))
  have hB4 := hB3.alloc hB3.size (.cells #[.int .u64 x] 28)
  have hgl := hA3.lt.2
  have hwx : Word [x] := by
    intro j
    match j with
    | 0 => simp; omega
    | (n + 1) => simp
  refine (store_ok b g _ [x] (8 * (q : Int)) w3.heap.size 0 1 _ hA4 (by omega) (by rw [full_length]; simp; omega) (by omega) (by simp) (by omega) (by
    intro j hj
    rw [cell_of_row _ _ _ _ _ _ (heap_alloc_new _ _), Nat.zero_add]
    match j, hj with
    | 0, _ => rfl) hwx).mono ?_
  rintro e w5 ⟨rfl, hA5, hb5⟩
  rw [show wordsBytes [x] = bytesOf x from rfl, show (8 * (q : Int)).toNat = 8 * q from by omega] at hA5
  have hB5 := Below.of_but hB4 hB4.size hb5 hlg'
  clear hA3 hB3 hA4 hB4 hb5 hgl hwx
  have hl5 : (putAt (full c) (8 * q) (bytesOf x)).length = 65536 := by
    rw [putAt_length _ _ _ (by rw [full_length, show (bytesOf x).length = 8 from rfl]; omega), full_length]
  have hcut : ((putAt (full c) (8 * q) (bytesOf x)).drop (8 * q)).take 8 = bytesOf x := cut_put (full c) (8 * q) (bytesOf x) (by rw [full_length, show (bytesOf x).length = 8 from rfl]; omega)
  have HL := hid hl5
  have HC := hid hcut
  clear hl5 hcut
  go_wp2_with fail
  refine (read_ok b g _ (8 * (q : Int)) 8 _ hA5 (by omega) (by omega) (by rw [HL.out]; omega)).mono ?_
  rintro e w6 ⟨rfl, hr6, hb6, hs6⟩
  rw [show (8 * (q : Int)).toNat = 8 * q from by omega, show (8 : Int).toNat = 8 from rfl, HC.out] at hr6
  rw [show (8 : Int).toNat = 8 from rfl]
  have hA6 := hA5.below hb6
  have hB6 := Below.of_below hB5 hB5.size hb6
  have hs5 := hB5.size
  have HR := hid hr6
  have HS := hid hs6
  clear hA5 hB5 hb6 hr6 HC hs6
  have hcell : ∀ i : Nat, i < 8 → w6.cell? ⟨w5.heap.size, i, none⟩ = some (.int .u8 ((bytesOf x)[i]?.getD 0)) := fun i hi => by
    rw [cell_of_row _ _ _ _ _ _ HR.out, bv_get _ _ hi]
  have c0 : w6.cell? ⟨w5.heap.size, 0, none⟩ = some (.int .u8 (x % 256)) := hcell 0 (by omega)
  have c1 : w6.cell? ⟨w5.heap.size, 1, none⟩ = some (.int .u8 (x / 256 % 256)) := hcell 1 (by omega)
  have c2 : w6.cell? ⟨w5.heap.size, 2, none⟩ = some (.int .u8 (x / 65536 % 256)) := hcell 2 (by omega)
  have c3 : w6.cell? ⟨w5.heap.size, 3, none⟩ = some (.int .u8 (x / 16777216 % 256)) := hcell 3 (by omega)
  have c4 : w6.cell? ⟨w5.heap.size, 4, none⟩ = some (.int .u8 (x / 4294967296 % 256)) := hcell 4 (by omega)
  have c5 : w6.cell? ⟨w5.heap.size, 5, none⟩ = some (.int .u8 (x / 1099511627776 % 256)) := hcell 5 (by omega)
  have c6 : w6.cell? ⟨w5.heap.size, 6, none⟩ = some (.int .u8 (x / 281474976710656 % 256)) := hcell 6 (by omega)
  have c7 : w6.cell? ⟨w5.heap.size, 7, none⟩ = some (.int .u8 (x / 72057594037927936)) := hcell 7 (by omega)
  have HCell := hid hcell
  clear hcell
  go_wp2_with fail
  refine wp_loop_rounds 9 ?_
  rw [rounds_succ]; go_wp2_with fail
  rw [rounds_succ]; go_wp2_with fail
  rw [rounds_succ]; go_wp2_with fail
  rw [rounds_succ]; go_wp2_with fail
  rw [rounds_succ]; go_wp2_with fail
  rw [rounds_succ]; go_wp2_with fail
  rw [rounds_succ]; go_wp2_with fail
  rw [rounds_succ]; go_wp2_with fail
  rw [rounds_succ]; go_wp2_with fail
  obtain ⟨o, ho, ho0, ho1, ho2, ho3⟩ : ∃ o : Nat, 8 * (((q : Int) + 1) % 8192) = (o : Int) ∧ (o : Int) + 8 ≤ 65536 ∧ (o : Int) % 8 = 0 ∧ (8 * q + 8 ≤ o ∨ o + 8 ≤ 8 * q) ∧ 0 ≤ (o : Int) := ⟨(8 * (((q : Int) + 1) % 8192)).toNat, by omega, by omega, by omega, by omega, by omega⟩
  rw [ho]
  clear ho c0 c1 c2 c3 c4 c5 c6 c7
  have hw1 := wordAt_other c (8 * q) o (bytesOf x) rfl (by omega) (by omega) ho2
  have hw2 := wordAt_put (putAt (full c) (8 * q) (bytesOf x)) o x (by rw [HL.out]; omega) hx0 hx1
  have hbx := byte_bytesOf x hx0 hx1
  have HBx := hid hbx
  clear hbx
  generalize hm : putAt (full c) (8 * q) (bytesOf x) = m at *
  have HW1 := hid hw1
  have HW2 := hid hw2
  clear hm hw1 hw2 ho2
  refine (load_ok b g m (o : Int) _ hA6 ho3 (by rw [HL.out]; omega) ho1).mono ?_
  rintro e w7 ⟨rfl, hb7⟩
  rw [Int.toNat_natCast, HW1.out]
  have hA7 := hA6.below hb7
  have hB7 := Below.of_below hB6 hB6.size hb7
  have hs7 := hb7.size
  go_wp2_with fail
  refine (write_ok b g m (bytesOf x) (o : Int) w5.heap.size 0 8 _ hA7 ho3 (by rw [HL.out, show (bytesOf x).length = 8 from rfl]; omega) (by
    intro j hj
    rw [hb7.cell (p := ⟨w5.heap.size, 0 + j, none⟩) (by show w5.heap.size < _; rw [HS.out]; omega), Nat.zero_add]
    exact HCell.out j hj) HBx.out).mono ?_
  rintro e w8 ⟨rfl, hA8, hb8⟩
  rw [Int.toNat_natCast] at hA8
  have hB8 := Below.of_but hB7 hB7.size hb8 hlg'
  clear hA6 hA7 hB6 hB7 hb7 hb8 hs7
  have hcc : wrap64 c = c := by unfold wrap64; omega
  go_wp2_with fail
  have hl8 : (putAt m o (bytesOf x)).length = 65536 := by
    rw [putAt_length _ _ _ (by rw [HL.out, show (bytesOf x).length = 8 from rfl]; omega), HL.out]
  have HL8 := hid hl8
  clear hl8
  refine (load_ok b g _ (o : Int) _ hA8 ho3 (by rw [HL8.out]; omega) ho1).mono ?_
  rintro e w9 ⟨rfl, hb9⟩
  rw [Int.toNat_natCast, HW2.out]
  have hB9 := Below.of_below hB8 hB8.size hb9
  go_wp2_with fail
  go_ret
  exact ⟨rfl, hB9⟩

theorem walk (a0 a1 a2 : Int) (w0 : (Lit.int .u64 a0).wf = true) (w1 : (Lit.int .u16 a1).wf = true) (w2 : (Lit.int .u8 a2).wf = true) (w : World) :
    Calls Try.prog 5 #[.int .u64 a0, .int .u16 a1, .int .u8 a2] w fun e w' => e = .returned (.bool true) ∧ Below w.heap.size w w' := by
  have b0 := bounds_u64 w0
  have b1 := bounds_u16 w1
  have b2 := bounds_u8 w2
  exact core a0 a1 a2 w (by omega) (by omega) (by omega) (by omega) (by omega) (by omega)

theorem own : ownKnob Try.prog.godebug = none := by kernel_rfl
theorem laidOut : laidOutB Try.prog = true := by kernel_rfl

set_option maxRecDepth 100000 in
theorem lifted (os : Os) (started : os.Started) (H : Type) (enc : TypeId × Value → H) :
    ReturnsInHanded {} Try.checked os 5 .any (Rows.arenaBytesSpec.pre6 enc Try.prog Try.f5 Rows.arenaBytesRow.domain false) (Rows.arenaBytesSpec.post enc Try.prog Try.f5 false true false false) := by
  refine returnsInHanded_of_change (C := Try.checked) own started (by kernel_rfl) Try.func5
    (ChangeSpec.witness6 (enc := enc) (C := Try.checked) false ⟨#[], #[.int .u64 0, .int .u16 0, .int .u8 0], []⟩ 8 (by kernel_rfl) (by kernel_rfl) (by kernel_rfl) (by kernel_rfl)) ?_
  intro W base args ds gs before hval0 hW hcnd _
  have hval : ∀ (j : Nat) t v, Try.f5.params[j]? = some t → args[j]? = some v → Value.okWide Try.prog W .any base t v := hval0
  have hW' := hW
  obtain ⟨p, q, hA0, hV, rfl, hfz, hnd⟩ := hW
  have hA : DataW.TrodAll enc Try.prog W 0 (fun _ => true) true Try.f5.params.toList args.toList ds p := hA0
  rw [Try.params5] at hA hval
  obtain ⟨v0, vs0, d0, ds0, p0, q0, hargs, rfl, rfl, h0, r0⟩ := trodAll_cons hA
  obtain ⟨v1, vs1, d1, ds1, p1, q1, rfl, rfl, rfl, h1, r1⟩ := trodAll_cons r0
  obtain ⟨v2, vs2, d2, ds2, p2, q2, rfl, rfl, rfl, h2, r2⟩ := trodAll_cons r1
  obtain ⟨rfl, rfl, rfl⟩ := trodAll_nil r2
  obtain rfl : args = #[v0, v1, v2] := by cases args; simp_all
  obtain ⟨rfl, rfl⟩ := trodVars_none hV
  obtain ⟨a0, rfl, rfl, rfl, w0⟩ := open_int Try.underlying28 (hval 0 28 v0 rfl rfl) h0
  obtain ⟨a1, rfl, rfl, rfl, w1⟩ := open_int Try.underlying52 (hval 1 52 v1 rfl rfl) h1
  obtain ⟨a2, rfl, rfl, rfl, w2⟩ := open_int Try.underlying5 (hval 2 5 v2 rfl rfl) h2
  clear hA0 hval0
  refine (walk a0 a1 a2 w0 w1 w2 W).mono fun e W' ⟨he, bel⟩ => ?_
  subst he
  exact ⟨_, rfl, _, _, _, [], _, [], hW', trodAll_mk1 (shut_bool Try.underlying4 _), (trodAll_cons_mk (shut_int Try.underlying28 w0) (trodAll_cons_mk (shut_int Try.underlying52 w1) (trodAll_cons_mk (shut_int Try.underlying5 w2) trodAll_mk0))), rfl, bel.frame _, fun h => by cases h⟩

theorem proved : Rows.ArenaBytesSaid :=
  OpenClaim.holds_of_wide 5 Try.f5 rfl rfl rfl rfl rfl rfl rfl ⟨rfl, rfl, rfl, rfl, rfl⟩ rfl rfl rfl rfl rfl (by kernel_rfl) Try.func5 (by kernel_rfl)
    (of_decide_eq_true (by kernel_rfl)) (by unfold Func.isWrapper; first | (rw [if_pos (by decide +kernel)]; kernel_rfl) | (rw [if_neg (by decide +kernel)]; exact ⟨rfl, rfl⟩))
    (fun os started H enc _ => lifted os started H enc)

end Go.Proofs.Ytaoahbobofdimaa.arenaBytes
