/- The walk of SlabActs. -/
import Derived.Test.YtdmnemgooagehaaGreatDoorK7
import Derived.Deep.CutRange
namespace Go.Proofs.YtdmnemgooagehaaGreatDoor.slabActs
open Go.ChangeShapes Go.WideShapes Go.ChangeAt Go.RowKit Go.Proofs.YtdmnemgooagehaaGreatDoor

set_option maxRecDepth 100000 in
theorem core_long (S : Int) (a : Option Addr) (len cap : Nat) (w : World) (hT : Tab w) (hl : (200 : Int) < len) :
    Calls Tryz.prog 3 #[.int .i64 S, .slice a len cap] w fun e w' => e = .returned (.bool true) ∧ Below w.heap.size w w' := by
  have HT := hid hT
  clear hT
  go_enter Tryz.func3, Tryz.ntmps3
  go_wp2_with fail
  refine (salive_any _ HT.out).mono ?_
  rintro e w1 ⟨rfl, hb1⟩
  go_wp2_with fail
  go_ret
  exact ⟨rfl, hb1⟩
set_option maxRecDepth 100000 in
set_option maxHeartbeats 2000000 in
theorem core_no (S : Int) (a : Option Addr) (len cap : Nat) (w : World) (hT : Tab w) (hl : (len : Int) ≤ 200) (hno : S < 16 ∨ 512 < S ∨ S % 16 ≠ 0) :
    Calls Tryz.prog 3 #[.int .i64 S, .slice a len cap] w fun e w' => e = .returned (.bool true) ∧ Below w.heap.size w w' := by
  have HT := hid hT
  have hm : false = (decide (16 ≤ S) && decide (S ≤ 512) && (S % 16 == 0)) := by
    rcases hno with h | h | h
    · rw [show decide (16 ≤ S) = false from by simp; omega]; rfl
    · rw [show decide (S ≤ 512) = false from by simp; omega, Bool.and_false]; rfl
    · rw [show (S % 16 == 0) = false from by rw [beq_eq_false_iff_ne]; exact h, Bool.and_false]
  have HM := hid (fun wx => may9_any S wx false hm)
  have HNO := hid hno
  clear hT hno hm
  go_enter Tryz.func3, Tryz.ntmps3
  go_wp2_with fail
  refine (salive_any _ HT.out).mono ?_
  rintro e w1 ⟨rfl, hb1⟩
  have HT1 := hid (HT.out.below hb1 HT.out.pos)
  have HB1 := hid hb1
  clear hb1
  go_wp2_with fail
  refine (newB_any 6 w1 HT1.out (by omega) (by omega)).mono ?_
  rintro e w2 ⟨p, mm, bf, gf, rfl, hm1, hn1, hb2⟩
  have HB2 := hid (HB1.out.trans (hb2.mono HB1.out.size))
  clear hm1 hn1 hb2 HB1
  go_wp2_with fail
  refine (snew_no p S w2 HNO.out).mono ?_
  rintro e w3 ⟨rfl, rfl⟩
  go_wp2_with (first
    | (go_at_call 9; refine (HM.out _).mono ?_; rintro e w4 ⟨rfl, rfl⟩)
    | (go_at_call 10; refine (stake_nil _).mono ?_; rintro e w5 ⟨rfl, rfl⟩)
    | (go_at_call 8; refine (snew_nil _ _).mono ?_; rintro e w6 ⟨rfl, rfl⟩)
    | (go_at_call 11; refine (size_nil _).mono ?_; rintro e w7 ⟨rfl, rfl⟩)
    | (go_at_call 12; refine (many_nil _).mono ?_; rintro e w8 ⟨rfl, rfl⟩)
    | (go_at_call 13; refine (sgive_nil _ _).mono ?_; rintro e w9 ⟨rfl, rfl⟩)
    | (go_at_call 14; refine (sused_nil _).mono ?_; rintro e w10 ⟨rfl, hb10⟩; have HB10 := hid (HB2.out.trans (hb10.mono HB2.out.size)); clear hb10)
    | (go_at_call 15; refine (slabs_nil _).mono ?_; rintro e w11 ⟨rfl, rfl⟩)
    | (go_at_call 16; refine (shas_nil _ _).mono ?_; rintro e w12 ⟨rfl, rfl⟩))
  go_ret
  exact ⟨rfl, HB10.out⟩

set_option maxRecDepth 100000 in
set_option maxHeartbeats 4000000 in
theorem core (sz m : Nat) (hz : Sz sz m 6) (h16 : sz % 16 = 0) (S : Int) (hS : S = (sz : Int)) (a : Option Addr) (len cap : Nat) (w : World) (hT : Tab w) (hA : Acts w a len) (hl : (len : Int) ≤ 200) :
    Calls Tryz.prog 3 #[.int .i64 S, .slice a len cap] w fun e w' => e = .returned (.bool true) ∧ Below w.heap.size w w' := by
  subst hS
  have hlo := hz.lo
  have hhi := hz.hi
  have hm : true = (decide (16 ≤ (sz : Int)) && decide ((sz : Int) ≤ 512) && ((sz : Int) % 16 == 0)) := by
    rw [show decide (16 ≤ (sz : Int)) = true from by simp; omega, show decide ((sz : Int) ≤ 512) = true from by simp; omega, show ((sz : Int) % 16 == 0) = true from by simp; omega]
    rfl
  have HM := hid (fun wx => may9_any (sz : Int) wx true hm)
  have HT := hid hT
  have HA := hid hA
  have H16 := hid h16
  clear hT hA hm h16
  go_enter Tryz.func3, Tryz.ntmps3
  go_wp2_with fail
  refine (salive_any _ HT.out).mono ?_
  rintro e w1 ⟨rfl, hb1⟩
  have HT1 := hid (HT.out.below hb1 HT.out.pos)
  have HB1 := hid hb1
  clear hb1
  go_wp2_with fail
  refine (newB_any 6 w1 HT1.out (by omega) (by omega)).mono ?_
  rintro e w2 ⟨p, mm, bf, gf, rfl, hm1, hn1, hb2⟩
  have HB2 := hid (HB1.out.trans (hb2.mono HB1.out.size))
  have HT2 := hid (HT1.out.below hb2 HT1.out.pos)
  have HOWN : Hid (∀ x, Own mm 6 gf x → w.heap.size ≤ x) := hid fun x hx => by
    have := HB1.out.size
    rcases hx with rfl | ⟨k, hk, rfl⟩
    · have := hn1.2.1; omega
    · have := (hn1.2.2 k hk).2; omega
  have HM1 := hid hm1
  clear hm1 hn1 hb2
  go_wp2_with fail
  refine (snew_any p sz w2 hlo hhi H16.out).mono ?_
  intro e w3 hN
  obtain ⟨c, rfl, hb3, hS3⟩ := sys_new (m := m) HB2.out HB2.out.size HT2.out HT.out.pos ⟨begin_inv 6, begin_noheld 6, HM1.out⟩ HOWN.out hN
  have HS3 := hid hS3
  clear hb3 hS3 hN HOWN HM1 HT2 HT1 HB1 HB2
  go_wp2_with fail
  refine (HM.out _).mono ?_
  rintro e w4 ⟨rfl, rfl⟩
  go_wp2_with fail
  refine (rnew_any 6 _ (by omega)).mono ?_
  rintro e w5 ⟨r, vF, rfl, hR, hb5⟩
  have H0 := hid (sa_new HS3.out hR hb5)
  clear hR hb5 HS3 HM
  go_wp2_with fail
  obtain ⟨cc, hcc⟩ : ∃ cc, cc = w5.heap.size := ⟨_, rfl⟩
  rw [← hcc] at H0 ⊢
  clear hcc
  go_loopw [11] (fun t wr => ∃ (j : Nat) (B : St) (U : Pls), j ≤ len ∧ t = .int .i64 (j : Int) ∧ Hid (Sa w w.heap.size wr p c cc r sz m j B U)) (fun t _ => len - (intOf t).toNat)
  case atStart => exact ⟨0, _, _, Nat.zero_le _, rfl, H0⟩
  case round =>
    obtain ⟨j, B, U, hj, rfl, hW⟩ := hrel
    clear H0
    by_cases hlj : j < len
    · have hj1 : (j : Int) < (len : Int) := by omega
      obtain ⟨s, o, kd, n, rfl, hs, c0, c1, wk, wn⟩ := HA.out.at hW.out.b0 (Nat.le_refl _) hlj
      have hnb := bounds_i64 wn
      go_upto_if 95 with fail
      refine unblock ?_
      go_cut [13, 14, 15, 16, 17, 18] from 79 to 204 (fun t13 _ _ _ _ _ wc => t13 = .bool true ∧ (∃ B U, Hid (Sa w w.heap.size wc p c cc r sz m (j + 1) B U)))
      case first =>
        by_cases hk0 : kd = 0
        · subst hk0
          go_wp2_with fail
          refine (hW.out.take1 hz (by omega)).mono ?_
          rintro e w6 ⟨at6, er6, rfl, H6⟩
          clear hW c0 c1
          go_wp2_with fail
          obtain ⟨B1, U1, hM6, hT6⟩ := H6.out
          refine (Sa.take2 hM6 hT6 hz).mono ?_
          rintro e w7 ⟨rfl, hS7⟩
          have H7 := hid hS7
          clear hM6 hT6 hS7 H6
          have hq1 : (at6 == at6) = true := by simp
          have hq2 : (er6 == er6) = true := by simp
          go_wp2_with fail
          go_meet
          case rel => exact ⟨rfl, ⟨_, _, H7⟩⟩
        · have hk0' : (kd == 0) = false := by simpa using hk0
          by_cases hk1 : kd = 1
          · subst hk1
            clear hk0 hk0'
            go_wp2_with fail
            refine (hW.out.give1 hz n (by omega) (by omega)).mono ?_
            rintro e w6 ⟨er6, rfl, H6⟩
            clear hW c0 c1
            go_wp2_with fail
            obtain ⟨B1, U1, hM6, hT6⟩ := H6.out
            refine (Sa.give2 hM6 hT6 hz).mono ?_
            rintro e w7 ⟨rfl, hS7⟩
            have H7 := hid (hS7.le (Nat.le_succ j))
            clear hM6 hT6 hS7 H6
            have hq2 : (er6 == er6) = true := by simp
            go_wp2_with fail
            go_meet
            case rel => exact ⟨rfl, ⟨_, _, H7⟩⟩
          · have hk1' : (kd == 1) = false := by simpa using hk1
            by_cases hk2 : kd = 2
            · subst hk2
              clear hk0 hk0' hk1 hk1'
              obtain ⟨nu, aU, cU, yU, hnu, hpick⟩ := hW.out.pick hz
              by_cases hcond : 0 ≤ n ∧ 0 < nu
              · obtain ⟨nn, rfl⟩ := Int.eq_ofNat_of_zero_le hcond.1
                have hul : 0 < nu := hcond.2
                obtain ⟨t, ht⟩ : ∃ t, t = nn % nu := ⟨_, rfl⟩
                have htl : t < nu := by rw [ht]; exact Nat.mod_lt _ hul
                obtain ⟨g, y, rfl, d0, hy⟩ := hpick t htl
                have hmod : (nn : Int) % (nu : Int) = (t : Int) := by rw [ht]; exact (Int.natCast_emod nn nu).symm
                have hmod' : (nn : Int).tmod (nu : Int) = (t : Int) := by rw [Int.tmod_eq_emod_of_nonneg (by omega)]; exact hmod
                have hu0 : ((nu : Int) == 0) = false := by rw [beq_eq_false_iff_ne]; omega
                have hu1 : (0 : Int) < (nu : Int) := by omega
                have ht1 : (t : Int) < (nu : Int) := by omega
                clear ht hcond hpick
                go_wp2_with fail
                go_quiet (fail)
                go_wp2_with fail
                have HWq := hid (hW.out.below (Below.drewN (Below.refl _ _) nq))
                clear hW c0 c1 yU d0
                generalize wr.drewN nq = wq at *
                refine (HWq.out.give1 hz y (by omega) (by omega)).mono ?_
                rintro e w6 ⟨er6, rfl, H6⟩
                clear HWq
                go_wp2_with fail
                obtain ⟨B1, U1, hM6, hT6⟩ := H6.out
                refine (Sa.give2 hM6 hT6 hz).mono ?_
                rintro e w7 ⟨rfl, hS7⟩
                have H7 := hid (hS7.le (Nat.le_succ j))
                clear hM6 hT6 hS7 H6
                have hq2 : (er6 == er6) = true := by simp
                go_wp2_with fail
                go_meet
                case rel => exact ⟨rfl, ⟨_, _, H7⟩⟩
              · have H7 := hid (hW.out.le (Nat.le_succ j))
                clear hpick
                by_cases hn0 : 0 ≤ n
                · have hul : ¬ ((0 : Int) < (nu : Int)) := by omega
                  clear hcond
                  go_wp2_with fail
                  go_meet
                  case rel => exact ⟨rfl, ⟨_, _, H7⟩⟩
                · have hn1 : ¬ ((0 : Int) ≤ n) := hn0
                  clear hcond
                  go_wp2_with fail
                  go_meet
                  case rel => exact ⟨rfl, ⟨_, _, H7⟩⟩
            · have hk2' : (kd == 2) = false := by simpa using hk2
              by_cases hk3 : kd = 3
              · subst hk3
                clear hk0 hk0' hk1 hk1' hk2 hk2'
                go_wp2_with fail
                refine (hW.out.buddy1 n (by omega)).mono ?_
                rintro e w6 ⟨at6, er6, rfl, H6⟩
                clear hW c0 c1
                go_wp2_with fail
                obtain ⟨B1, hM6, hT6⟩ := H6.out
                refine (Sa.buddy2 hM6 hT6).mono ?_
                rintro e w7 ⟨rfl, hS7⟩
                have H7 := hid hS7
                clear hM6 hT6 hS7 H6
                go_wp2_with fail
                go_meet
                case rel => exact ⟨rfl, ⟨_, _, H7⟩⟩
              · have hk3' : (kd == 3) = false := by simpa using hk3
                have H7 := hid (hW.out.le (Nat.le_succ j))
                go_wp2_with fail
                go_meet
                case rel => exact ⟨rfl, ⟨_, _, H7⟩⟩
      case rest =>
        obtain ⟨rfl, ⟨B2, U2, hW2⟩⟩ := hcut
        clear hW c0 c1
        obtain ⟨n1, n2, n3, aS, aU, aF, cS, cU, cF, f, hR⟩ := hW2.out.reads hz (by omega) n (by omega) (by omega)
        have HR := hid hR
        have hff : (f != f) = false := by simp
        have hb0 : Below wc.heap.size wc wc.drew := (Below.refl _ wc).drew
        obtain ⟨z0, z1, z2⟩ := HR.out.cells _ hb0
        clear hR
        go_wp2_with fail
        refine wp_region_held_drew (S := (fun wx => wx.cell? ⟨cc, 2, none⟩ = some (.slice aS n1 cS) ∧ wx.cell? ⟨cc, 3, none⟩ = some (.slice aU n2 cU) ∧ wx.cell? ⟨r, 1, none⟩ = some (.slice aF n3 cF))) (by kernel_rfl) ⟨z0, z1, z2⟩ (fun hHeld => ?_)
        refine takeH (i := 0) (some 164) (.bool true) rfl rfl (by kernel_rfl) (by kernel_rfl) (by kernel_rfl) (fun _ _ _ h => h) (Or.inl ⟨by rfl, ?_⟩) (by assumption) ?_
        · (intro w hSw; (try dsimp only at hSw); go_simp)
        simp only [Act.put, List.setIfInBounds_toArray, List.set_cons_zero, List.set_cons_succ]
        refine takeH (i := 1) (some 165) (.bool false) rfl rfl (by kernel_rfl) (by kernel_rfl) (by kernel_rfl) (fun _ _ _ h => h) (Or.inl ⟨by rfl, ?_⟩) (by assumption) ?_
        · (intro w hSw; (try dsimp only at hSw); go_simp)
        simp only [Act.put, List.setIfInBounds_toArray, List.set_cons_zero, List.set_cons_succ]
        refine takeH (i := 2) (some 166) (.bool false) rfl rfl (by kernel_rfl) (by kernel_rfl) (by kernel_rfl) (fun _ _ _ h => h) (Or.inl ⟨by rfl, ?_⟩) (by assumption) ?_
        · (intro w hSw; (try dsimp only at hSw); go_simp)
        simp only [Act.put, List.setIfInBounds_toArray, List.set_cons_zero, List.set_cons_succ]
        refine takeH (i := 3) (some 167) (.pointer (some ⟨c, 0, none⟩)) rfl rfl (by kernel_rfl) (by kernel_rfl) (by kernel_rfl) (fun _ _ _ h => h) (Or.inl ⟨by rfl, ?_⟩) (by assumption) ?_
        · (intro w hSw; (try dsimp only at hSw); go_simp)
        simp only [Act.put, List.setIfInBounds_toArray, List.set_cons_zero, List.set_cons_succ]
        refine takeH (i := 4) (some 168) (.int .i64 n) rfl rfl (by kernel_rfl) (by kernel_rfl) (by kernel_rfl) (fun _ _ _ h => h) (Or.inl ⟨by rfl, ?_⟩) (by assumption) ?_
        · (intro w hSw; (try dsimp only at hSw); go_simp)
        simp only [Act.put, List.setIfInBounds_toArray, List.set_cons_zero, List.set_cons_succ]
        refine takeH (i := 6) (some 170) (.pointer (some ⟨cc, 0, none⟩)) rfl rfl (by kernel_rfl) (by kernel_rfl) (by kernel_rfl) (fun _ _ _ h => h) (Or.inl ⟨by rfl, ?_⟩) (by assumption) ?_
        · (intro w hSw; (try dsimp only at hSw); go_simp)
        simp only [Act.put, List.setIfInBounds_toArray, List.set_cons_zero, List.set_cons_succ]
        refine takeH (i := 7) (some 171) (.int .i64 n) rfl rfl (by kernel_rfl) (by kernel_rfl) (by kernel_rfl) (fun _ _ _ h => h) (Or.inl ⟨by rfl, ?_⟩) (by assumption) ?_
        · (intro w hSw; (try dsimp only at hSw); go_simp)
        simp only [Act.put, List.setIfInBounds_toArray, List.set_cons_zero, List.set_cons_succ]
        refine wpAnyH_ready (rs := [5]) (by kernel_rfl) (by simp) ?_
        refine AllReadyH.cons (by simp only [List.getElem?_toArray, List.getElem?_cons_succ, List.getElem?_cons_zero]; rfl) (fun KK hK => ?_) AllReadyH.nil
        go_simp
        refine (HR.out.has1 _ hb0).mono ?_
        rintro e wA ⟨rfl, hhA⟩
        have hbA := hb0.trans (hhA.mono hb0.size)
        obtain ⟨mA0, mA1, mA2⟩ := HR.out.cells wA hbA
        clear hhA
        go_wp2_with fail
        refine hK.out _ _ ⟨mA0, mA1, mA2⟩ (fun hHeld => ?_)
        clear hK KK
        try simp only [Act.put, List.setIfInBounds_toArray, List.set_cons_zero, List.set_cons_succ]
        refine wpAnyH_ready (rs := [8]) (by kernel_rfl) (by simp) ?_
        refine AllReadyH.cons (by simp only [List.getElem?_toArray, List.getElem?_cons_succ, List.getElem?_cons_zero]; rfl) (fun KK hK => ?_) AllReadyH.nil
        go_simp
        refine (HR.out.has2 _ hbA).mono ?_
        rintro e wB ⟨rfl, hhB⟩
        have hbB := hbA.trans (hhB.mono hbA.size)
        obtain ⟨mB0, mB1, mB2⟩ := HR.out.cells wB hbB
        clear hhB
        go_wp2_with fail
        refine hK.out _ _ ⟨mB0, mB1, mB2⟩ (fun hHeld => ?_)
        clear hK KK
        try simp only [Act.put, List.setIfInBounds_toArray, List.set_cons_zero, List.set_cons_succ]
        refine takeH (i := 9) (some 173) (.bool false) rfl rfl (by kernel_rfl) (by kernel_rfl) (by kernel_rfl) (fun _ _ _ h => h) (Or.inl ⟨by rfl, ?_⟩) (by assumption) ?_
        · (intro w hSw; (try dsimp only at hSw); go_simp)
        simp only [Act.put, List.setIfInBounds_toArray, List.set_cons_zero, List.set_cons_succ]
        refine takeH (i := 10) (some 174) (.bool false) rfl rfl (by kernel_rfl) (by kernel_rfl) (by kernel_rfl) (fun _ _ _ h => h) (Or.inl ⟨by rfl, ?_⟩) (by assumption) ?_
        · (intro w hSw; (try dsimp only at hSw); go_simp)
        simp only [Act.put, List.setIfInBounds_toArray, List.set_cons_zero, List.set_cons_succ]
        refine takeH (i := 11) (some 175) (.bool false) rfl rfl (by kernel_rfl) (by kernel_rfl) (by kernel_rfl) (fun _ _ _ h => h) (Or.inl ⟨by rfl, ?_⟩) (by assumption) ?_
        · (intro w hSw; (try dsimp only at hSw); go_simp)
        simp only [Act.put, List.setIfInBounds_toArray, List.set_cons_zero, List.set_cons_succ]
        refine takeH (i := 12) (some 176) (.pointer (some ⟨c, 0, none⟩)) rfl rfl (by kernel_rfl) (by kernel_rfl) (by kernel_rfl) (fun _ _ _ h => h) (Or.inl ⟨by rfl, ?_⟩) (by assumption) ?_
        · (intro w hSw; (try dsimp only at hSw); go_simp)
        simp only [Act.put, List.setIfInBounds_toArray, List.set_cons_zero, List.set_cons_succ]
        refine takeH (i := 14) (some 178) (.pointer (some ⟨cc, 0, none⟩)) rfl rfl (by kernel_rfl) (by kernel_rfl) (by kernel_rfl) (fun _ _ _ h => h) (Or.inl ⟨by rfl, ?_⟩) (by assumption) ?_
        · (intro w hSw; (try dsimp only at hSw); go_simp)
        simp only [Act.put, List.setIfInBounds_toArray, List.set_cons_zero, List.set_cons_succ]
        refine takeH (i := 15) (some 179) (.pointer (some ⟨cc, 0, none⟩)) rfl rfl (by kernel_rfl) (by kernel_rfl) (by kernel_rfl) (fun _ _ _ h => h) (Or.inl ⟨by rfl, ?_⟩) (by assumption) ?_
        · (intro w hSw; (try dsimp only at hSw); go_simp)
        simp only [Act.put, List.setIfInBounds_toArray, List.set_cons_zero, List.set_cons_succ]
        refine takeH (i := 16) (some 180) (.pointer (some ⟨cc, 3, none⟩)) rfl rfl (by kernel_rfl) (by kernel_rfl) (by kernel_rfl) (fun _ _ _ h => h) (Or.inl ⟨by rfl, ?_⟩) (by assumption) ?_
        · (intro w hSw; (try dsimp only at hSw); go_simp)
        simp only [Act.put, List.setIfInBounds_toArray, List.set_cons_zero, List.set_cons_succ]
        refine takeH (i := 17) (some 181) (.slice aU n2 cU) rfl rfl (by kernel_rfl) (by kernel_rfl) (by kernel_rfl) (fun _ _ _ h => h) (Or.inl ⟨by rfl, ?_⟩) (by assumption) ?_
        · (intro w hSw; (try dsimp only at hSw); go_simp)
        simp only [Act.put, List.setIfInBounds_toArray, List.set_cons_zero, List.set_cons_succ]
        refine wpAnyH_ready (rs := [13]) (by kernel_rfl) (by simp) ?_
        refine AllReadyH.cons (by simp only [List.getElem?_toArray, List.getElem?_cons_succ, List.getElem?_cons_zero]; rfl) (fun KK hK => ?_) AllReadyH.nil
        go_simp
        refine (HR.out.used1 _ hbB).mono ?_
        rintro e wC ⟨aC, kC, rfl, hhC, hsC⟩
        have hbC := hbB.trans (hhC.mono hbB.size)
        obtain ⟨mC0, mC1, mC2⟩ := HR.out.cells wC hbC
        have HSC := hid hsC
        clear hsC
        clear hhC
        go_wp2_with fail
        refine hK.out _ _ ⟨mC0, mC1, mC2⟩ (fun hHeld => ?_)
        clear hK KK
        try simp only [Act.put, List.setIfInBounds_toArray, List.set_cons_zero, List.set_cons_succ]
        refine wpAnyH_ready (rs := [18]) (by kernel_rfl) (by simp) ?_
        refine AllReadyH.cons (by simp only [List.getElem?_toArray, List.getElem?_cons_succ, List.getElem?_cons_zero]; rfl) (fun KK hK => ?_) AllReadyH.nil
        go_simp
        refine (HSC.out _ (Below.refl _ _) hbC).mono ?_
        rintro e wD ⟨rfl, hhD⟩
        have hbD := hbC.trans (hhD.mono hbC.size)
        obtain ⟨mD0, mD1, mD2⟩ := HR.out.cells wD hbD
        clear HSC
        clear hhD
        go_wp2_with fail
        refine hK.out _ _ ⟨mD0, mD1, mD2⟩ (fun hHeld => ?_)
        clear hK KK
        try simp only [Act.put, List.setIfInBounds_toArray, List.set_cons_zero, List.set_cons_succ]
        refine takeH (i := 19) (some 183) (.bool false) rfl rfl (by kernel_rfl) (by kernel_rfl) (by kernel_rfl) (fun _ _ _ h => h) (Or.inl ⟨by rfl, ?_⟩) (by assumption) ?_
        · (intro w hSw; (try dsimp only at hSw); go_simp)
        simp only [Act.put, List.setIfInBounds_toArray, List.set_cons_zero, List.set_cons_succ]
        refine takeH (i := 20) (some 184) (.bool false) rfl rfl (by kernel_rfl) (by kernel_rfl) (by kernel_rfl) (fun _ _ _ h => h) (Or.inl ⟨by rfl, ?_⟩) (by assumption) ?_
        · (intro w hSw; (try dsimp only at hSw); go_simp)
        simp only [Act.put, List.setIfInBounds_toArray, List.set_cons_zero, List.set_cons_succ]
        refine takeH (i := 21) (some 185) (.bool false) rfl rfl (by kernel_rfl) (by kernel_rfl) (by kernel_rfl) (fun _ _ _ h => h) (Or.inl ⟨by rfl, ?_⟩) (by assumption) ?_
        · (intro w hSw; (try dsimp only at hSw); go_simp)
        simp only [Act.put, List.setIfInBounds_toArray, List.set_cons_zero, List.set_cons_succ]
        refine takeH (i := 22) (some 186) (.pointer (some ⟨c, 0, none⟩)) rfl rfl (by kernel_rfl) (by kernel_rfl) (by kernel_rfl) (fun _ _ _ h => h) (Or.inl ⟨by rfl, ?_⟩) (by assumption) ?_
        · (intro w hSw; (try dsimp only at hSw); go_simp)
        simp only [Act.put, List.setIfInBounds_toArray, List.set_cons_zero, List.set_cons_succ]
        refine takeH (i := 24) (some 188) (.pointer (some ⟨cc, 0, none⟩)) rfl rfl (by kernel_rfl) (by kernel_rfl) (by kernel_rfl) (fun _ _ _ h => h) (Or.inl ⟨by rfl, ?_⟩) (by assumption) ?_
        · (intro w hSw; (try dsimp only at hSw); go_simp)
        simp only [Act.put, List.setIfInBounds_toArray, List.set_cons_zero, List.set_cons_succ]
        refine takeH (i := 25) (some 189) (.pointer (some ⟨cc, 0, none⟩)) rfl rfl (by kernel_rfl) (by kernel_rfl) (by kernel_rfl) (fun _ _ _ h => h) (Or.inl ⟨by rfl, ?_⟩) (by assumption) ?_
        · (intro w hSw; (try dsimp only at hSw); go_simp)
        simp only [Act.put, List.setIfInBounds_toArray, List.set_cons_zero, List.set_cons_succ]
        refine takeH (i := 26) (some 190) (.pointer (some ⟨cc, 2, none⟩)) rfl rfl (by kernel_rfl) (by kernel_rfl) (by kernel_rfl) (fun _ _ _ h => h) (Or.inl ⟨by rfl, ?_⟩) (by assumption) ?_
        · (intro w hSw; (try dsimp only at hSw); go_simp)
        simp only [Act.put, List.setIfInBounds_toArray, List.set_cons_zero, List.set_cons_succ]
        refine takeH (i := 27) (some 191) (.slice aS n1 cS) rfl rfl (by kernel_rfl) (by kernel_rfl) (by kernel_rfl) (fun _ _ _ h => h) (Or.inl ⟨by rfl, ?_⟩) (by assumption) ?_
        · (intro w hSw; (try dsimp only at hSw); go_simp)
        simp only [Act.put, List.setIfInBounds_toArray, List.set_cons_zero, List.set_cons_succ]
        refine wpAnyH_ready (rs := [23]) (by kernel_rfl) (by simp) ?_
        refine AllReadyH.cons (by simp only [List.getElem?_toArray, List.getElem?_cons_succ, List.getElem?_cons_zero]; rfl) (fun KK hK => ?_) AllReadyH.nil
        go_simp
        refine (HR.out.slab1 _ hbD).mono ?_
        rintro e wE ⟨aE, kE, rfl, hhE, hsE⟩
        have hbE := hbD.trans (hhE.mono hbD.size)
        obtain ⟨mE0, mE1, mE2⟩ := HR.out.cells wE hbE
        have HSE := hid hsE
        clear hsE
        clear hhE
        go_wp2_with fail
        refine hK.out _ _ ⟨mE0, mE1, mE2⟩ (fun hHeld => ?_)
        clear hK KK
        try simp only [Act.put, List.setIfInBounds_toArray, List.set_cons_zero, List.set_cons_succ]
        refine wpAnyH_ready (rs := [28]) (by kernel_rfl) (by simp) ?_
        refine AllReadyH.cons (by simp only [List.getElem?_toArray, List.getElem?_cons_succ, List.getElem?_cons_zero]; rfl) (fun KK hK => ?_) AllReadyH.nil
        go_simp
        refine (HSE.out _ (Below.refl _ _) hbE).mono ?_
        rintro e wG ⟨rfl, hhG⟩
        have hbG := hbE.trans (hhG.mono hbE.size)
        obtain ⟨mG0, mG1, mG2⟩ := HR.out.cells wG hbG
        clear HSE
        clear hhG
        go_wp2_with fail
        refine hK.out _ _ ⟨mG0, mG1, mG2⟩ (fun hHeld => ?_)
        clear hK KK
        try simp only [Act.put, List.setIfInBounds_toArray, List.set_cons_zero, List.set_cons_succ]
        refine takeH (i := 29) (some 193) (.bool false) rfl rfl (by kernel_rfl) (by kernel_rfl) (by kernel_rfl) (fun _ _ _ h => h) (Or.inl ⟨by rfl, ?_⟩) (by assumption) ?_
        · (intro w hSw; (try dsimp only at hSw); go_simp)
        simp only [Act.put, List.setIfInBounds_toArray, List.set_cons_zero, List.set_cons_succ]
        refine takeH (i := 30) (some 194) (.bool false) rfl rfl (by kernel_rfl) (by kernel_rfl) (by kernel_rfl) (fun _ _ _ h => h) (Or.inl ⟨by rfl, ?_⟩) (by assumption) ?_
        · (intro w hSw; (try dsimp only at hSw); go_simp)
        simp only [Act.put, List.setIfInBounds_toArray, List.set_cons_zero, List.set_cons_succ]
        refine takeH (i := 31) (some 195) (.bool false) rfl rfl (by kernel_rfl) (by kernel_rfl) (by kernel_rfl) (fun _ _ _ h => h) (Or.inl ⟨by rfl, ?_⟩) (by assumption) ?_
        · (intro w hSw; (try dsimp only at hSw); go_simp)
        simp only [Act.put, List.setIfInBounds_toArray, List.set_cons_zero, List.set_cons_succ]
        refine takeH (i := 32) (some 196) (.pointer (some ⟨p, 0, none⟩)) rfl rfl (by kernel_rfl) (by kernel_rfl) (by kernel_rfl) (fun _ _ _ h => h) (Or.inl ⟨by rfl, ?_⟩) (by assumption) ?_
        · (intro w hSw; (try dsimp only at hSw); go_simp)
        simp only [Act.put, List.setIfInBounds_toArray, List.set_cons_zero, List.set_cons_succ]
        refine takeH (i := 34) (some 198) (.pointer (some ⟨r, 0, none⟩)) rfl rfl (by kernel_rfl) (by kernel_rfl) (by kernel_rfl) (fun _ _ _ h => h) (Or.inl ⟨by rfl, ?_⟩) (by assumption) ?_
        · (intro w hSw; (try dsimp only at hSw); go_simp)
        simp only [Act.put, List.setIfInBounds_toArray, List.set_cons_zero, List.set_cons_succ]
        refine takeH (i := 35) (some 199) (.pointer (some ⟨r, 0, none⟩)) rfl rfl (by kernel_rfl) (by kernel_rfl) (by kernel_rfl) (fun _ _ _ h => h) (Or.inl ⟨by rfl, ?_⟩) (by assumption) ?_
        · (intro w hSw; (try dsimp only at hSw); go_simp)
        simp only [Act.put, List.setIfInBounds_toArray, List.set_cons_zero, List.set_cons_succ]
        refine takeH (i := 36) (some 200) (.pointer (some ⟨r, 1, none⟩)) rfl rfl (by kernel_rfl) (by kernel_rfl) (by kernel_rfl) (fun _ _ _ h => h) (Or.inl ⟨by rfl, ?_⟩) (by assumption) ?_
        · (intro w hSw; (try dsimp only at hSw); go_simp)
        simp only [Act.put, List.setIfInBounds_toArray, List.set_cons_zero, List.set_cons_succ]
        refine takeH (i := 37) (some 201) (.slice aF n3 cF) rfl rfl (by kernel_rfl) (by kernel_rfl) (by kernel_rfl) (fun _ _ _ h => h) (Or.inl ⟨by rfl, ?_⟩) (by assumption) ?_
        · (intro w hSw; (try dsimp only at hSw); go_simp)
        simp only [Act.put, List.setIfInBounds_toArray, List.set_cons_zero, List.set_cons_succ]
        refine wpAnyH_ready (rs := [33]) (by kernel_rfl) (by simp) ?_
        refine AllReadyH.cons (by simp only [List.getElem?_toArray, List.getElem?_cons_succ, List.getElem?_cons_zero]; rfl) (fun KK hK => ?_) AllReadyH.nil
        go_simp
        refine (HR.out.free1 _ hbG).mono ?_
        rintro e wI ⟨aI, kI, rfl, hhI, hsI⟩
        have hbI := hbG.trans (hhI.mono hbG.size)
        obtain ⟨mI0, mI1, mI2⟩ := HR.out.cells wI hbI
        have HSI := hid hsI
        clear hsI
        clear hhI
        go_wp2_with fail
        refine hK.out _ _ ⟨mI0, mI1, mI2⟩ (fun hHeld => ?_)
        clear hK KK
        try simp only [Act.put, List.setIfInBounds_toArray, List.set_cons_zero, List.set_cons_succ]
        refine wpAnyH_ready (rs := [38]) (by kernel_rfl) (by simp) ?_
        refine AllReadyH.cons (by simp only [List.getElem?_toArray, List.getElem?_cons_succ, List.getElem?_cons_zero]; rfl) (fun KK hK => ?_) AllReadyH.nil
        go_simp
        refine (HSI.out _ (Below.refl _ _) hbI).mono ?_
        rintro e wJ ⟨rfl, hhJ⟩
        have hbJ := hbI.trans (hhJ.mono hbI.size)
        obtain ⟨mJ0, mJ1, mJ2⟩ := HR.out.cells wJ hbJ
        clear HSI
        clear hhJ
        go_wp2_with fail
        refine hK.out _ _ ⟨mJ0, mJ1, mJ2⟩ (fun hHeld => ?_)
        clear hK KK
        try simp only [Act.put, List.setIfInBounds_toArray, List.set_cons_zero, List.set_cons_succ]
        refine takeH (i := 39) (some 203) (.bool false) rfl rfl (by kernel_rfl) (by kernel_rfl) (by kernel_rfl) (fun _ _ _ h => h) (Or.inl ⟨by rfl, ?_⟩) (by assumption) ?_
        · (intro w hSw; (try dsimp only at hSw); go_simp)
        simp only [Act.put, List.setIfInBounds_toArray, List.set_cons_zero, List.set_cons_succ]
        refine takeH (i := 40) (some 204) (.bool false) rfl rfl (by kernel_rfl) (by kernel_rfl) (by kernel_rfl) (fun _ _ _ h => h) (Or.inl ⟨by rfl, ?_⟩) (by assumption) ?_
        · (intro w hSw; (try dsimp only at hSw); go_simp)
        simp only [Act.put, List.setIfInBounds_toArray, List.set_cons_zero, List.set_cons_succ]
        refine wpAnyH_done (by kernel_rfl) ?_ _
        have H9 := hid (hW2.out.below hbJ)
        clear HR
        go_wp2_with fail
        exact ⟨⟨j + 1, B2, U2, by omega, by go_num, H9⟩, by simp [intOf]; omega⟩
    · obtain rfl : j = len := by omega
      obtain ⟨G, vF1, vB, vS, vU, F, Ub, hs1, hs2⟩ := hW.out
      have hC0 := hs1.c1
      have hC1 : wr.drew.cell? ⟨c, 1, none⟩ = some (.int .i64 (sz : Int)) := (hs1.below ((Below.refl _ wr).drew)).c1
      have hB := hid hs1.b0
      have hmm : Hid (m = 960 / sz) := hid hz.m
      clear hs1 hs2 hW
      go_wp2_with fail
      refine (many_any _ c sz (by first | exact hC0 | exact hC1) hlo hhi).mono ?_
      rintro e w6 ⟨rfl, ex⟩
      rw [ex, ← hmm.out]
      go_wp2_with fail
      refine (rmany_any _ sz (by omega) (by omega) m hmm.out).mono ?_
      rintro e w7 ⟨rfl, ex7⟩
      rw [ex7]
      have hqm : ((m : Int) == (m : Int)) = true := by simp
      have hqs : ((sz : Int) == (sz : Int)) = true := by simp
      go_wp2_with fail
      refine (size_any _ c sz (by first | exact hC0 | exact hC1)).mono ?_
      rintro e w8 ⟨rfl, ex8⟩
      rw [ex8]
      go_wp2_with fail
      go_ret
      exact ⟨rfl, by first | exact hB.out | exact hB.out.drew⟩
end Go.Proofs.YtdmnemgooagehaaGreatDoor.slabActs
