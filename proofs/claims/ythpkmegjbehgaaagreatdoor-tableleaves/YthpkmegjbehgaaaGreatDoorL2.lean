/- TableLeaves: the walk. -/
import Derived.Test.YthpkmegjbehgaaaGreatDoorL1
namespace Go.Proofs.YthpkmegjbehgaaaGreatDoor
open Go.RowKit Go.Maps

set_option maxRecDepth 100000 in
set_option maxHeartbeats 16000000 in
theorem tleaves_core (w : World) (hT : Tab w) (hC : Cst w) (a1 : Option Addr) (len1 cap1 : Nat) (a2 : Option Addr) (len2 cap2 : Nat) (hA : Bytes w a1 len1) (hA2 : Bytes w a2 len2) :
    Calls Tryz.prog 6 #[.slice a1 len1 cap1, .slice a2 len2 cap2] w fun e w' => e = .returned (.bool true) ∧ Below w.heap.size w w' := by
  obtain ⟨L, hLl, hL⟩ := hA2.list
  have HT := hid (And.intro hT (And.intro hC (And.intro hA (And.intro hLl hL))))
  clear hT hC hA hA2 hLl hL
  obtain ⟨i0, hi0, hz0, hz1, hz2⟩ := info_parts Qu.info3
  have HIF := hid (And.intro hi0 (And.intro hz0 (And.intro hz1 hz2)))
  clear hi0 hz0 hz1 hz2
  go_enter Tryz.func6, Tryz.ntmps6
  go_wp2_with fail
  refine (alive9 w HT.out.1 HT.out.2.1).mono ?_
  rintro e w1 ⟨rfl, hb1⟩
  have H1 := hid (And.intro hb1 (And.intro (HT.out.1.below hb1 HT.out.1.pos) (HT.out.2.1.below hb1)))
  clear hb1
  by_cases h100 : 100 < len1
  · go_wp2_with fail
    go_ret
    exact ⟨rfl, H1.out.1⟩
  by_cases h101 : 100 < len2
  · go_wp2_with fail
    go_ret
    exact ⟨rfl, H1.out.1⟩
  have HNW := hid (show Calls Tryz.prog 8 #[.int .i64 65536, .int .i64 65536] w1 _ from Pw.new (w0 := w) (G := fun _ => False) 6 65536 H1.out.2.1 H1.out.2.2 (by decide) (by decide) (by decide) H1.out.1 (fun x h => h.elim))
  go_wp2_with fail
  refine HNW.out.mono ?_
  rintro e w2 ⟨P, rfl, hK, _, h2, _⟩
  have H2 := hid (And.intro h2 hK)
  clear h2 hK HNW H1
  go_wp2_with fail
  refine (start_get H2.out.1 H2.out.2 (by decide)).mono ?_
  rintro e w3 ⟨q, i, B', U', rfl, h3⟩
  have HA := hid (start_at H2.out.1 H2.out.2 h3.out.1 h3.out.2)
  clear h3
  generalize place (cost 2) q i = x at *
  go_wp2_with fail
  refine HA.out.mono ?_
  rintro e w4 ⟨rfl, H4⟩
  clear HA
  generalize w3.heap.size = hb at *
  have H4' := hid H4.out.1
  clear H4
  go_wp2_with fail
  go_loopw [9] (fun t wr => ∃ (i : Nat) (A B : Nat → Nat), t = .int .i64 (i : Int) ∧ i ≤ len1 ∧ Hid (Tz w wr (fun y => False ∨ y = hb) P hb x 65536 (1 + i) A B)) (fun t _ => len1 - (intOf t).toNat)
  case atStart => exact ⟨0, _, _, rfl, Nat.zero_le _, H4'⟩
  case round =>
    obtain ⟨i, A, B, rfl, hi, HZ⟩ := hrel
    clear H4'
    by_cases hin : i = len1
    · subst hin
      go_wp2_with fail
      rename World => we
      go_loopw [10, 11] (fun u t wr => ∃ k : Nat, t = .int .i64 (k : Int) ∧ k ≤ len2 ∧ Hid (wr.ownsRow we.heap.size 3 1 u k (nums (L.take k))) ∧ Hid (Below we.heap.size we wr)) (fun _ t _ => len2 - (intOf t).toNat)
      case atStart => exact ⟨0, rfl, Nat.zero_le _, World.ownsRow_nil _ _ _ _, Below.refl _ _⟩
      case round =>
        obtain ⟨k, rfl, hk, hO, hX⟩ := hrel
        by_cases hkn : k = len2
        · subst hkn
          have hO2 := hO.out
          rw [← HT.out.2.2.2.1, List.take_length] at hO2
          obtain ⟨a6, cap6, rfl, _⟩ := ints_of hO2
          rw [HT.out.2.2.2.1]
          rw [HT.out.2.2.2.1] at hO2
          have HROW := hid hO2
          clear hO2 hO
          obtain ⟨G', HZ2, HGr⟩ : ∃ G' : Nat → Prop, Hid (Tz w wr G' P hb x 65536 (1 + i) A B) ∧ Hid (∀ y, (Value.slice a6 k cap6).ownBlock = some y → G' y) := ⟨_, hid (HZ.out.plus hX.out), hid (fun y hy => .inr (Qu.own_block HROW.out y hy))⟩
          have HNE := hid (HZ2.out.need (L.map fun s => ((s : Nat) : Int)) a6 cap6 (nrow_of HROW.out HT.out.2.2.2.1) (by rw [List.length_map, HT.out.2.2.2.1]; omega))
          rw [List.length_map, HT.out.2.2.2.1] at HNE
          obtain ⟨nd, hnd⟩ : ∃ nd, nd = cnt (needA A (L.map fun s => ((s : Nat) : Int))) 16 := ⟨_, rfl⟩
          obtain ⟨hd, hhd⟩ : ∃ hd, hd = nlA A := ⟨_, rfl⟩
          have hnd16 : nd ≤ 16 := by rw [hnd]; exact cnt_le _ _
          have hhd16 : hd ≤ 16 := by rw [hhd]; exact nlA_le _
          rw [← hnd] at HNE
          have HND := hid (And.intro hnd hhd)
          clear hnd
          go_wp2_with fail
          refine HNE.out.mono ?_
          rintro e w7 ⟨rfl, hb7⟩
          have H7 := hid (And.intro (HZ2.out.below hb7) (HROW.out.bel hb7 (Nat.le_refl _)))
          clear hb7 HNE
          have HLV := hid (H7.out.1.leaves)
          rw [← hhd] at HLV
          clear hhd
          go_wp2_with fail
          refine HLV.out.mono ?_
          rintro e w8 ⟨a8, cap8, rfl, hb8⟩
          have H8 := hid (And.intro (H7.out.1.below hb8) (H7.out.2.bel hb8 (Nat.le_refl _)))
          clear hb8 HLV
          go_wp2_with fail
          go_loopw [14] (fun t wr => ∃ (j : Nat) (B : Nat → Nat), t = .int .i64 (j : Int) ∧ j ≤ k ∧ Hid (Tz w wr G' P hb x 65536 (1 + i + j) (setM A (L.take j)) B ∧ wr.ownsRow we.heap.size 3 1 (.slice a6 k cap6) k (nums L))) (fun t _ => k - (intOf t).toNat)
          case atStart => exact ⟨0, B, rfl, Nat.zero_le _, by rw [List.take_zero, setM_nil]; exact H8.out.1, H8.out.2⟩
          case round =>
            obtain ⟨j, B2, rfl, hj, HY⟩ := hrel
            clear H8
            by_cases hjk : j = k
            · subst hjk
              rename World => wd
              go_wp2_with fail
              obtain ⟨wb, hwb⟩ : ∃ wb, wb = wd.alloc (.cells row16 59) := ⟨_, rfl⟩
              rw [show wd.alloc (.cells #[.bool false, .bool false, .bool false, .bool false, .bool false, .bool false, .bool false, .bool false, .bool false, .bool false, .bool false, .bool false, .bool false, .bool false, .bool false, .bool false] 59) = wb from hwb.symm]
              have hbA : Below wd.heap.size wd wb := by rw [hwb]; exact (Below.refl _ _).alloc (Nat.le_refl _) _
              have hM0 : Mkb wb wd.heap.size (fun _ => false) := by rw [hwb]; exact Mkb.new wd
              have hsz : wb.heap.size = wd.heap.size + 1 := by rw [hwb]; simp
              obtain ⟨A', hA'⟩ : ∃ A', A' = setM A L := ⟨_, rfl⟩
              have HTZ := HY.out.1
              rw [show L.take j = L from by rw [← HT.out.2.2.2.1, List.take_length], ← hA'] at HTZ
              have HWR := hid (And.intro HTZ HY.out.2)
              have HB := hid (And.intro hbA (And.intro hM0 (And.intro hsz hA')))
              have hbts : wd.heap.size < wb.heap.size := by omega
              clear hwb hbA hM0 HTZ HY hsz hA'
              have HSl := hid (HWR.out.1.below HB.out.1).slots
              refine HSl.out.mono ?_
              rintro e w10 ⟨u, rfl, hrow, hb10⟩
              obtain ⟨a10, cap10, rfl, _⟩ := ints_of hrow
              obtain ⟨S, hS⟩ : ∃ S, S = slotsL A' 256 := ⟨_, rfl⟩
              rw [← hS] at hrow ⊢
              have hSl : S.length ≤ 256 := by rw [hS]; exact ones_le _ _
              obtain ⟨sl, hsl⟩ : ∃ sl, sl = S.length := ⟨_, rfl⟩
              rw [← hsl] at hrow hSl ⊢
              have HS := hid (And.intro hS hsl)
              have H10 := hid (And.intro hrow hb10)
              clear hS hsl hrow hb10 HSl
              go_wp2_with fail
              go_loopw [16, 18] (fun m t wq => ∃ c mm : Nat, t = .int .i64 (c : Int) ∧ c ≤ sl ∧ m = .int .i64 (mm : Int) ∧ mm ≤ 16 ∧ Hid (mm = cnt (seen (S.take c)) 16) ∧ Hid (Mkb wq wd.heap.size (seen (S.take c)) ∧ Below wd.heap.size wd wq ∧ wq.ownsRow wb.heap.size 3 1 (.slice a10 sl cap10) sl (nums S))) (fun _ t _ => sl - (intOf t).toNat)
              case atStart => exact ⟨0, 0, rfl, Nat.zero_le _, rfl, by omega, hid (by rw [List.take_zero]; decide), (HB.out.2.1.bel H10.out.2).congr (fun _ _ => rfl), HB.out.1.trans (H10.out.2.mono (by omega)), H10.out.1⟩
              case round =>
                obtain ⟨c, mm, rfl, hc, rfl, hm16, HM, HQ⟩ := hrel
                clear H10
                by_cases hcs : c = sl
                · subst hcs
                  go_wp2_with fail
                  have hmy : mm = hd + nd := by
                    rw [HM.out, show S.take c = S from by rw [HS.out.2, List.take_length], HS.out.1, cnt_congr (fun n hn => seen_all hn)]
                    show nlA A' = _
                    rw [HB.out.2.2.2, nlA_setM HT.out.2.2.2.2.1, ← HND.out.1, ← HND.out.2]
                  have HN2 : Hid (nlA A' = mm) := hid (by
                    rw [hmy, HB.out.2.2.2, nlA_setM HT.out.2.2.2.2.1, ← HND.out.1, ← HND.out.2])
                  have HE := hid hmy
                  have hE1 : ((mm : Int) == (hd : Int) + (nd : Int)) = true := by rw [beq_iff_eq]; omega
                  clear hmy
                  have hlv := (HWR.out.1.below HQ.out.2.1).leaves
                  rw [HN2.out] at hlv
                  have HLV := hid hlv
                  clear hlv
                  refine HLV.out.mono ?_
                  rintro e w11 ⟨a11, cap11, rfl, hb11⟩
                  have H11 := hid ((HWR.out.1.below HQ.out.2.1).below hb11)
                  have HR11 := hid ((HWR.out.2.bel HQ.out.2.1 (Nat.le_refl _)).bel hb11 (Nat.le_refl _))
                  clear hb11 HLV
                  have hus := H11.out.use
                  rw [HN2.out, show ((128 + 256 * mm : Nat) : Int) = 128 + 256 * (mm : Int) by omega] at hus
                  have HU := hid hus
                  have HQT := hid H11.out.quota
                  clear hus
                  go_wp2_with (go_at_call 13; refine HQT.out.mono ?_; rintro e wx ⟨rfl, ex⟩; rw [ex]; clear ex wx)
                  refine HU.out.mono ?_
                  rintro e w12 ⟨rfl, hb12⟩
                  have H12 := hid (And.intro (H11.out.below hb12) (HR11.out.bel hb12 (Nat.le_refl _)))
                  clear hb12 HU HQT
                  have hud := H12.out.1.used7 (by omega)
                  rw [HN2.out] at hud
                  have HUD := hid hud
                  clear hud
                  go_wp2_with fail
                  refine HUD.out.mono ?_
                  rintro e w13 ⟨a13, cap13, rfl, hb13⟩
                  have H13 := hid (And.intro (H12.out.1.below hb13) (H12.out.2.bel hb13 (Nat.le_refl _)))
                  clear hb13 HUD
                  have hne := H13.out.1.need (L.map fun s => ((s : Nat) : Int)) a6 cap6 (nrow_of H13.out.2 HT.out.2.2.2.1) (by rw [List.length_map, HT.out.2.2.2.1]; omega)
                  rw [List.length_map, HT.out.2.2.2.1, HB.out.2.2.2, need_none HT.out.2.2.2.2.1] at hne
                  have HNE2 := hid hne
                  clear hne
                  go_wp2_with fail
                  refine HNE2.out.mono ?_
                  rintro e w14 ⟨rfl, hb14⟩
                  have H14 := hid (H13.out.1.below hb14)
                  clear hb14 HNE2
                  go_wp2_with fail
                  go_ret
                  exact ⟨rfl, H14.out.b0⟩
                · have hcl : c < sl := by omega
                  have hb1 : S[c]? = some (S[c]'(by have := HS.out.2; omega)) := List.getElem?_eq_getElem _
                  generalize S[c]'_ = s at hb1
                  have hs256 : s < 256 := slotsL_lt (A := A') (by rw [← HS.out.1]; exact List.mem_of_getElem? hb1)
                  obtain ⟨g', e2, hcc⟩ := Qu.row_at HQ.out.2.2 (k := c) (u := .int .i64 ((s : Nat) : Int)) (by unfold nums; rw [List.getElem?_map, hb1]; rfl)
                  subst e2
                  have hgb := (Qu.own_block HQ.out.2.2 g' rfl)
                  have HTK := hid (take_snocL hb1)
                  obtain ⟨n, hn⟩ : ∃ n, n = s / 16 := ⟨_, rfl⟩
                  have hq : (s : Int).tdiv 16 = (n : Int) := by rw [Int.tdiv_eq_ediv_of_nonneg (by omega)]; omega
                  have hn16 : n < 16 := by omega
                  have h15 := and15 n hn16
                  have hmk := HQ.out.1.at hn16
                  have HSN := hid (seen_snoc (S.take c) s)
                  cases hse : seen (S.take c) n with
                  | true =>
                    have HSE : Hid (seen (S.take (c + 1)) = seen (S.take c)) := hid (by rw [HTK.out]; exact seen_again (by rw [← hn]; exact hse))
                    rw [hse] at hmk
                    clear hb1 hn hse
                    go_wp2_with fail
                    exact ⟨⟨c + 1, mm, by go_num, by omega, rfl, hm16, hid (by rw [HSE.out]; exact HM.out), hid (by rw [HSE.out]; exact HQ.out)⟩, by simp [intOf]; omega⟩
                  | false =>
                    have HSE : Hid (cnt (seen (S.take (c + 1))) 16 = cnt (seen (S.take c)) 16 + 1) := hid (by rw [HTK.out]; exact seen_cnt hs256 (by rw [← hn]; exact hse))
                    rw [hse] at hmk
                    have HNN := hid hn
                    clear hb1 hn hse
                    go_wp2_with fail
                    refine ⟨⟨c + 1, mm + 1, by go_num, by omega, by go_num, (by rw [HM.out, ← HSE.out]; exact cnt_le _ _), hid (by rw [HSE.out, HM.out]), hid ⟨(HQ.out.1.set hn16).congr (fun y _ => ?_), ?_, ?_⟩⟩, by simp [intOf]; omega⟩
                    · rw [HTK.out, HSN.out, HNN.out]
                    · exact HQ.out.2.1.setCell (Nat.le_refl _) _
                    · refine HQ.out.2.2.other (fun g e => ?_)
                      cases e
                      exact Below.heap_setCell _ _ _ _ (by show g' ≠ wd.heap.size; omega)
            · have hjl : j < k := by omega
              have hb1 : L[j]? = some (L[j]'(by have := HT.out.2.2.2.1; omega)) := List.getElem?_eq_getElem _
              generalize L[j]'_ = b at hb1
              have hb256 : b < 256 := HT.out.2.2.2.2.1 b (List.mem_of_getElem? hb1)
              obtain ⟨g', e2, hc⟩ := Qu.row_at HY.out.2 (k := j) (u := .int .i64 ((b : Nat) : Int)) (by unfold nums; rw [List.getElem?_map, hb1]; rfl)
              subst e2
              have HTK := hid (take_snocL hb1)
              have HS := hid (HY.out.1.set (by omega) b 7 7 hb256 (by decide) (by decide) (by decide) (by decide))
              clear hb1
              go_wp2_with fail
              refine HS.out.mono ?_
              rintro e w9 ⟨rfl, hP⟩
              have h9 := hP.out.2
              rw [setM_snoc, ← HTK.out] at h9
              have H9 := hid (And.intro h9 (HY.out.2.other (w' := w9) (fun g e => hP.out.1 g (HGr.out g e))))
              clear hP HS h9
              go_wp2_with fail
              exact ⟨⟨j + 1, _, by go_num, by omega, H9⟩, by simp [intOf]; omega⟩
        · have hkl : k < len2 := by omega
          obtain ⟨s, o, b, rfl, hs, hb1, hb256, hx⟩ := HT.out.2.2.2.2.at ((HZ.out.b0).trans (hX.out.mono HZ.out.b0.size)) (Nat.le_refl _) (by rw [HT.out.2.2.2.1]; exact hkl)
          have HTK := hid (take_snocL hb1)
          have hs5 := hX.out.size
          clear hb1
          go_wp2_with (first
            | (at_builtin; refine wpList_append_own _ rfl _ _ 29 rfl we.heap.size 3 i0 (.int .i64 0) 1 8 Tryz.underlying29 HIF.out.1 HIF.out.2.1 HIF.out.2.2.1 HIF.out.2.2.2 rfl (by decide) _ _ _ rfl (hO.out.alloc _) ⟨wr.heap.size, 0, none⟩ 1 1 [.int .i64 (b : Int)] rfl rfl (one_new _ _ _) (one_cell _) (by unfold maxLen; omega) (by omega) (by simp; omega) ?_)
            | fail)
          intro v' w6 hown' hgrow _
          have hX6 : Below we.heap.size we w6 := Below.grown (hX.out.alloc hs5 _) hgrow (by simp; omega) (fun r hr => (Qu.own_block hO.out r hr).1)
          have H6 := hid (And.intro hown' hX6)
          clear hown' hX6 hgrow
          go_wp2_with fail
          exact ⟨⟨k + 1, by go_num, by omega, hid (by rw [HTK.out, nums_appT]; exact H6.out.1), hid H6.out.2⟩, by simp [intOf]; omega⟩
    · have hil : i < len1 := by omega
      obtain ⟨s, o, b, rfl, hs, hb256, hx⟩ := HT.out.2.2.1.at HZ.out.b0 (Nat.le_refl _) hil
      have HS := hid (HZ.out.set (by omega) b (1 + i) 0 hb256 (by omega) (by omega) (by decide) (by decide))
      have hcast : ((1 + i : Nat) : Int) = 1 + (i : Int) := by omega
      rw [hcast] at HS
      clear hcast
      go_wp2_with fail
      refine HS.out.mono ?_
      rintro e w5 ⟨rfl, hP⟩
      have H5 := hid hP.out.2
      clear hP HS
      go_wp2_with fail
      exact ⟨⟨i + 1, _, _, by go_num, by omega, H5⟩, by simp [intOf]; omega⟩
end Go.Proofs.YthpkmegjbehgaaaGreatDoor
