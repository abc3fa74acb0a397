/- The walk of PoolActs: what may be. -/
import Derived.Test.YtdmnemgooagehaaGreatDoorOA
namespace Go.Proofs.YtdmnemgooagehaaGreatDoor.poolActs
open Go.ChangeShapes Go.WideShapes Go.ChangeAt Go.RowKit Go.Proofs.YtdmnemgooagehaaGreatDoor

set_option maxRecDepth 100000 in
set_option maxHeartbeats 60000000 in
theorem core (K N : Nat) (hK : K = 6 ∨ K = 7) (S : Int) (hS : S = ((1024 * 2 ^ K : Nat) : Int)) (hN : (N : Int) ≤ S) (a : Option Addr) (len cap : Nat) (w : World) (hT : Tab w) (hC : Cst w) (hA : Acts6 w a len) (hl : (len : Int) ≤ 150) :
    Calls Tryz.prog 4 #[.int .i64 S, .int .i64 (N : Int), .slice a len cap] w fun e w' => e = .returned (.bool true) ∧ Below w.heap.size w w' := by
  have hS2 : S = 65536 ∨ S = 131072 := by
    rcases hK with rfl | rfl
    · exact .inl (by rw [hS]; rfl)
    · exact .inr (by rw [hS]; rfl)
  have hN2 : N ≤ 1024 * 2 ^ K := by omega
  have hbit : (bits .and .i64 ((1024 * 2 ^ K : Nat) : Int) (((1024 * 2 ^ K : Nat) : Int) - 1) == 0) = true := by
    rcases hK with rfl | rfl <;> decide +kernel
  have HNW := hid (fun w1 (hT1 : Tab w1) (hC1 : Cst w1) (hb : Below w.heap.size w w1) => show Calls Tryz.prog 28 #[.int .i64 S, .int .i64 (N : Int)] w1 _ from by rw [hS]; exact Pw.new (w0 := w) (G := fun _ => False) K N hT1 hC1 (by omega) hN2 hbit hb (fun x h => h.elim))
  have HRN := hid (fun w1 => show Calls Tryz.prog 37 #[.int .i64 S, .int .i64 (N : Int)] w1 _ from by rw [hS]; exact rpnew_any K N w1 (by omega))
  have HM := hid (fun wx => rmay_any S N wx (by omega) true ⟨fun _ => ⟨hS2, by omega, hN⟩, fun _ => rfl⟩)
  have HT := hid (And.intro hT (And.intro hC hA))
  have d0 : decide (131072 < S) = false := by simp; omega
  have HK6 := hid hK
  clear hT hC hA hS hS2 hN2 hbit hK hN
  go_enter Tryz.func4, Tryz.ntmps4
  go_wp2_with fail
  refine (alive6 _ HT.out.1 HT.out.2.1).mono ?_
  rintro e w1 ⟨rfl, hb1⟩
  have H1 := hid (And.intro hb1 (And.intro (HT.out.1.below hb1 HT.out.1.pos) (HT.out.2.1.below hb1)))
  clear hb1
  go_wp2_with fail
  refine (HNW.out w1 H1.out.2.1 H1.out.2.2 H1.out.1).mono ?_
  rintro e w2 ⟨P, rfl, hPK, _, h2, _⟩
  have H2 := hid (And.intro hPK h2)
  clear hPK h2 HNW H1
  go_wp2_with fail
  refine (HM.out _).mono ?_
  rintro e w3 ⟨rfl, ex⟩
  rw [ex]
  clear ex w3
  go_wp2_with fail
  refine (HRN.out _).mono ?_
  intro e w3 hr
  obtain ⟨R, rfl, h3⟩ := pa_new H2.out.2 H2.out.1 (by have := HK6.out; omega) (by have := HK6.out; omega) hr
  have H0 := hid h3
  clear h3 hr H2 HRN HM HK6
  go_wp2_with fail
  go_loopw [11] (fun t wr => ∃ (j : Nat) (v : Pv), j ≤ len ∧ t = .int .i64 (j : Int) ∧ Hid (Pa w wr (fun _ => False) P R v ∧ v.ct ≤ j ∧ v.nxt ≤ j + 1)) (fun t _ => len - (intOf t).toNat)
  case atStart => exact ⟨0, _, Nat.zero_le _, rfl, H0.out, Nat.zero_le _, Nat.le_refl _⟩
  case round =>
    obtain ⟨j, v, hj, rfl, hW⟩ := hrel
    clear H0
    by_cases hlj : j < len
    · have hj1 : (j : Int) < (len : Int) := by omega
      obtain ⟨s, o, kd, f, c, n, rfl, hs, c0, c1, c2, c3, wk, wf, wc, wn⟩ := HT.out.2.2.at hW.out.1.b0 (Nat.le_refl _) hlj
      have hnb := bounds_i64 wn
      have hbA : Below wr.heap.size wr (wr.alloc (.cells #[.int .i64 kd, .int .i64 f, .int .i64 c, .int .i64 n] 70)) := (Below.refl _ _).alloc (Nat.le_refl _) _
      have H4 := hid (And.intro (hW.out.1.own hbA) (And.intro hW.out.2 (show ActA (wr.alloc (.cells #[.int .i64 kd, .int .i64 f, .int .i64 c, .int .i64 n] 70)) wr.heap.size kd f c n from heap_alloc_new _ _)))
      have hszA : (wr.alloc (.cells #[.int .i64 kd, .int .i64 f, .int .i64 c, .int .i64 n] 70)).heap.size = wr.heap.size + 1 := by simp
      have hHk : wr.heap.size ≤ wr.heap.size ∧ wr.heap.size < (wr.alloc (.cells #[.int .i64 kd, .int .i64 f, .int .i64 c, .int .i64 n] 70)).heap.size := ⟨Nat.le_refl _, by rw [hszA]; omega⟩
      have HHK : ∃ H : Nat → Prop, H wr.heap.size ∧ Hid (Pa w (wr.alloc (.cells #[.int .i64 kd, .int .i64 f, .int .i64 c, .int .i64 n] 70)) H P R v) := ⟨_, hHk, H4.out.1⟩
      obtain ⟨H, hH, H5⟩ := HHK
      have H6 := hid H4.out.2
      clear hHk hszA H4 hW hbA wk wf wc
      go_upto_if 104 with fail
      refine unblock ?_
      obtain ⟨kb, hkb⟩ : ∃ kb, kb = wr.heap.size := ⟨_, rfl⟩
      obtain ⟨wA, hwA⟩ : ∃ wA, wA = wr.alloc (.cells #[.int .i64 kd, .int .i64 f, .int .i64 c, .int .i64 n] 70) := ⟨_, rfl⟩
      rw [← hwA] at H5 H6
      rw [← hkb] at H6 hH
      rw [← hwA, ← hkb]
      clear hkb hwA
      go_cut [13, 14, 15, 16, 17, 18, 19, 20, 21, 22, 23, 24] from 102 to 358 (fun t13 _ _ _ _ _ _ _ _ _ _ _ wc => t13 = .bool true ∧ ∃ v', Hid (Pa w wc H P R v' ∧ ActA wc kb kd f c n ∧ v'.ct ≤ j + 1 ∧ v'.nxt ≤ j + 2))
      case first =>
        have a0 := H6.out.2.c0
        have a1 := H6.out.2.c1
        have a2 := H6.out.2.c2
        have a3 := H6.out.2.c3
        by_cases hk0 : kd = 0
        · subst hk0
          as_aux_lemma =>
            go_wp2_with fail
            refine (H5.out.get1 (by have := H6.out.1.1; omega) f c).mono ?_
            rintro e w6 ⟨at6, er6, rfl, H7⟩
            obtain ⟨v1, hm7, hk7, hg7, hnx7, hct7, hz7⟩ := H7.out
            have h8 := ActA.keep H6.out.2 (hk7 kb hH)
            have H8 := hid (And.intro hm7 (And.intro hg7 (And.intro hnx7 (And.intro hct7 (And.intro hz7 h8)))))
            have b1 := h8.c1
            have b2 := h8.c2
            clear hm7 hk7 hg7 hnx7 hct7 hz7 h8 a0 a1 a2 a3 H7
            go_wp2_with fail
            refine (Pa.get2 H8.out.1 H8.out.2.1 H8.out.2.2.1).mono ?_
            rintro e w7 ⟨rfl, hp7, hk7⟩
            have h9 := H8.out.2.2.2.2.2.keep (hk7 kb hH)
            have H9 := hid (And.intro hp7 h9)
            have hq1 : (at6 == at6) = true := by simp
            have hq2 : (er6 == er6) = true := by simp
            clear hp7 h9 hk7 b1 b2
            by_cases he : er6 = 0
            · subst he
              obtain ⟨a6, k, hcl, rfl, hlen, ha8, hz8⟩ := H8.out.2.2.2.2.1 rfl
              have hco := cost_in hcl.2.1 hcl.2.2
              have HCL := hid (And.intro hcl (And.intro hlen (And.intro ha8 hz8)))
              have HLD := hid (H9.out.1.load a6 (by omega) ha8)
              rw [hz8] at HLD
              clear hcl hlen ha8 hz8 hco
              go_wp2_with (go_at_call 33; refine H9.out.1.arena.mono ?_; rintro e wx ⟨rfl, ex⟩; rw [ex]; clear ex wx)
              refine HLD.out.mono ?_
              rintro e w8 ⟨rfl, hb8⟩
              have hd : Below w8.heap.size w8 w8.drew := (Below.refl _ _).drew
              have hP8 := (H9.out.1.below hb8).below hd
              have hA8 := (H9.out.2.below hb8).below hd
              have b2 := hA8.c2
              obtain ⟨z, hz⟩ : ∃ z, z = costI c := ⟨_, rfl⟩
              have hzk : z = ((cost k : Nat) : Int) := by rw [hz]; exact costI_of HCL.out.1
              have HAR := hid hP8.arena
              have HCS := hid (show Calls Tryz.prog 41 #[.int .i64 c] w8.drew fun e w' => e = .returned (.int .i64 z) ∧ w' = w8.drew from by rw [hz]; exact hP8.pcost c)
              have HFL := hid (show Calls Tryz.prog 40 #[.pointer (some ⟨P.ab, 0, none⟩), .int .i64 (a6 : Int), .int .i64 z, .int .u8 255] w8.drew _ from by rw [hzk]; exact hP8.fill a6 (cost k) 255 HCL.out.2.1 (by decide) (by decide))
              have HA8 := hid hA8
              clear hz hzk hP8 hA8 hd hb8 HLD
              go_wp2_with fail
              go_region_held3 (fun W => W.cell? ⟨kb, 2, none⟩ = some (.int .i64 c)) (first | assumption | exact b2) (first
                | (go_at_call 33; refine HAR.out.mono ?_; rintro e wx ⟨rfl, rfl⟩)
                | (go_at_call 41; refine HCS.out.mono ?_; rintro e wx ⟨rfl, rfl⟩)
                | (go_at_call 40; refine HFL.out.mono ?_; rintro e w9 ⟨rfl, hp9, hk9⟩; have hA9 := HA8.out.keep (hk9 kb hH); have b9 := hA9.c2))
              have H10 := hid (And.intro hp9 hA9)
              clear hp9 hA9 hk9
              go_wp2_with fail
              go_meet
              case rel => exact ⟨rfl, _, hid ⟨H10.out.1, H10.out.2, by have := H8.out.2.2.2.1; have := H6.out.1.1; show v1.ct ≤ _; omega, by have := H8.out.2.2.1; have := H6.out.1.2; show v1.nxt ≤ _; omega⟩⟩
            · have he' : (er6 == 0) = false := by simpa using he
              go_wp2_with fail
              go_meet
              case rel => exact ⟨rfl, v1, hid ⟨H9.out.1, H9.out.2, by have := H8.out.2.2.2.1; have := H6.out.1.1; omega, by have := H8.out.2.2.1; have := H6.out.1.2; omega⟩⟩
        · have hk0' : (kd == 0) = false := by simpa using hk0
          by_cases hk1 : kd = 1
          · subst hk1
            as_aux_lemma =>
              clear hk0 hk0'
              have hd : Below wA.heap.size wA wA.drew := (Below.refl _ _).drew
              have HP1 := hid ((H5.out.below hd).put1 f c n (by omega) (by omega))
              have HA1 := hid (H6.out.2.below hd)
              have z1 := HA1.out.c1
              have z2 := HA1.out.c2
              have z3 := HA1.out.c3
              clear hd
              go_wp2_with fail
              go_region_held3 (fun W => W.cell? ⟨kb, 1, none⟩ = some (.int .i64 f) ∧ W.cell? ⟨kb, 2, none⟩ = some (.int .i64 c) ∧ W.cell? ⟨kb, 3, none⟩ = some (.int .i64 n)) (first | exact ⟨m1, m2, m3⟩ | exact ⟨k1, k2, k3⟩ | exact ⟨z1, z2, z3⟩)
                (first
                  | (go_at_call 31; refine HP1.out.mono ?_; rintro e w6 ⟨er6, rfl, H7⟩; have HAk := HA1.out.keep (H7.out.choose_spec.2.1 kb hH); have k1 := HAk.c1; have k2 := HAk.c2; have k3 := HAk.c3; have hq2 : (er6 == er6) = true := by simp)
                  | (go_at_call 42; refine (Pa.put2 H7.out.choose_spec.1 H7.out.choose_spec.2.2.1 H7.out.choose_spec.2.2.2.1).mono ?_; rintro e w7 ⟨rfl, hp7, hk7⟩; have HB := HAk.keep (hk7 kb hH); have m1 := HB.c1; have m2 := HB.c2; have m3 := HB.c3))
              have H10 := hid (And.intro hp7 HB)
              clear hp7 HB hk7 m1 m2 m3 k1 k2 k3 z1 z2 z3
              go_wp2_with fail
              go_meet
              case rel => exact ⟨rfl, _, hid ⟨H10.out.1, H10.out.2, by have := H7.out.choose_spec.2.2.2.2; have := H6.out.1.1; omega, by have := H7.out.choose_spec.2.2.2.1; have := H6.out.1.2; omega⟩⟩
          · have hk1' : (kd == 1) = false := by simpa using hk1
            by_cases hk2 : kd = 2
            · subst hk2
              as_aux_lemma =>
                clear hk0 hk0' hk1 hk1'
                rcases cls_or c with ⟨k, hk⟩ | hkn
                · have hcst := costI_of hk
                  obtain ⟨rfl, k1, k7⟩ := id hk
                  have hz0 : (0 : Int) < costI (k : Int) := by rw [hcst]; have := cost_in k1 k7; omega
                  have hk8 : (k : Int) < 8 := by omega
                  have hk00 : (0 : Int) ≤ (k : Int) := by omega
                  obtain ⟨n2, aU, cU, b, hK⟩ := H5.out.creads (by have := H6.out.1.1; omega) k1 k7 n (by omega) (by omega)
                  have HK := hid hK
                  obtain ⟨y1, y2⟩ := hK.cells wA (Below.refl _ _)
                  have hfew := hK.few
                  have HRC := hid (fun wx => rcost_any (k : Int) wx)
                  have x2 : wA.drew.cell? ⟨kb, 2, none⟩ = some (.int .i64 (k : Int)) := a2
                  have x3 : wA.drew.cell? ⟨kb, 3, none⟩ = some (.int .i64 n) := a3
                  have x4 : wA.drew.cell? ⟨R.rp, 3 + k, none⟩ = some (.pointer (some ⟨R.rb k, 0, none⟩)) := y1
                  have x5 : wA.drew.cell? ⟨R.rb k, 3, none⟩ = some (.slice aU n2 cU) := y2
                  clear hK hcst hk y1 y2
                  generalize costI (k : Int) = z at hz0 HRC
                  by_cases hn0 : 0 ≤ n
                  · by_cases hul : 0 < n2
                    · obtain ⟨t, ht⟩ : ∃ t, t = n.toNat % n2 := ⟨_, rfl⟩
                      have htl : t < n2 := by rw [ht]; exact Nat.mod_lt _ hul
                      obtain ⟨g, y, rfl, hgl, d0, hy⟩ := HK.out.pick t htl
                      have hmod : n.tmod (n2 : Int) = (t : Int) := by
                        obtain ⟨nn, rfl⟩ := Int.eq_ofNat_of_zero_le hn0
                        rw [ht]
                        rfl
                      have hu0 : ((n2 : Int) == 0) = false := by rw [beq_eq_false_iff_ne]; omega
                      have hu1 : (0 : Int) < (n2 : Int) := by omega
                      have hu2 : ¬ n2 = 0 := by omega
                      have ht0 : (0 : Int) ≤ (t : Int) := by omega
                      have ht1 : (t : Int) < (n2 : Int) := by omega
                      have hd : Below wA.heap.size wA wA.drew.drew.drew := (((Below.refl _ wA).drew).drew).drew
                      have HP1 := hid ((H5.out.below hd).put1 f (k : Int) (y : Int) (by omega) (by omega))
                      have HA1 := hid (H6.out.2.below hd)
                      have z1 := HA1.out.c1
                      have z2 := HA1.out.c2
                      clear ht hd HK a0 a1 a2 a3
                      go_wp2_with fail
                      refine wp_region_held_drew (S := (fun W => W.cell? ⟨kb, 2, none⟩ = some (.int .i64 (k : Int)) ∧ W.cell? ⟨kb, 3, none⟩ = some (.int .i64 n) ∧ W.cell? ⟨R.rp, 3 + k, none⟩ = some (.pointer (some ⟨R.rb k, 0, none⟩)) ∧ W.cell? ⟨R.rb k, 3, none⟩ = some (.slice (some ⟨g, 0, none⟩) n2 cU))) (by kernel_rfl) ⟨x2, x3, x4, x5⟩ (fun hHeld => ?_)
                      refine takeH (i := 0) (some 178) (.pointer (some ⟨kb, 2, none⟩)) rfl rfl (by kernel_rfl) (by kernel_rfl) (by kernel_rfl) (fun _ _ _ h => h) (Or.inl ⟨by rfl, ?_⟩) (by assumption) ?_
                      · (intro w hSw; (try dsimp only at hSw); go_simp)
                      simp only [Act.put, List.setIfInBounds_toArray, List.set_cons_zero, List.set_cons_succ]
                      refine takeH (i := 1) (some 179) (.int .i64 (k : Int)) rfl rfl (by kernel_rfl) (by kernel_rfl) (by kernel_rfl) (fun _ _ _ h => h) (Or.inl ⟨by rfl, ?_⟩) (by assumption) ?_
                      · (intro w hSw; (try dsimp only at hSw); go_simp)
                      simp only [Act.put, List.setIfInBounds_toArray, List.set_cons_zero, List.set_cons_succ]
                      refine wpAnyH_ready (rs := [2]) (by kernel_rfl) (by simp) ?_
                      refine AllReadyH.cons (by simp only [List.getElem?_toArray, List.getElem?_cons_succ, List.getElem?_cons_zero]; rfl) (fun KK hK => ?_) AllReadyH.nil
                      go_simp
                      refine (HRC.out _).mono ?_
                      rintro e wX ⟨rfl, rfl⟩
                      go_wp2_with fail
                      refine hK.out _ _ ⟨x2, x3, x4, x5⟩ (fun hHeld => ?_)
                      clear hK KK
                      try simp only [Act.put, List.setIfInBounds_toArray, List.set_cons_zero, List.set_cons_succ]
                      refine takeH (i := 3) (some 181) (.bool true) rfl rfl (by kernel_rfl) (by kernel_rfl) (by kernel_rfl) (fun _ _ _ h => h) (Or.inl ⟨by rfl, ?_⟩) (by assumption) ?_
                      · (intro w hSw; (try dsimp only at hSw); go_simp)
                      simp only [Act.put, List.setIfInBounds_toArray, List.set_cons_zero, List.set_cons_succ]
                      refine takeH (i := 4) (some 182) (.bool true) rfl rfl (by kernel_rfl) (by kernel_rfl) (by kernel_rfl) (fun _ _ _ h => h) (Or.inl ⟨by rfl, ?_⟩) (by assumption) ?_
                      · (intro w hSw; (try dsimp only at hSw); go_simp)
                      simp only [Act.put, List.setIfInBounds_toArray, List.set_cons_zero, List.set_cons_succ]
                      refine takeH (i := 5) (some 183) (.pointer (some ⟨kb, 3, none⟩)) rfl rfl (by kernel_rfl) (by kernel_rfl) (by kernel_rfl) (fun _ _ _ h => h) (Or.inl ⟨by rfl, ?_⟩) (by assumption) ?_
                      · (intro w hSw; (try dsimp only at hSw); go_simp)
                      simp only [Act.put, List.setIfInBounds_toArray, List.set_cons_zero, List.set_cons_succ]
                      refine takeH (i := 6) (some 184) (.int .i64 n) rfl rfl (by kernel_rfl) (by kernel_rfl) (by kernel_rfl) (fun _ _ _ h => h) (Or.inl ⟨by rfl, ?_⟩) (by assumption) ?_
                      · (intro w hSw; (try dsimp only at hSw); go_simp)
                      simp only [Act.put, List.setIfInBounds_toArray, List.set_cons_zero, List.set_cons_succ]
                      refine takeH (i := 7) (some 185) (.bool true) rfl rfl (by kernel_rfl) (by kernel_rfl) (by kernel_rfl) (fun _ _ _ h => h) (Or.inl ⟨by rfl, ?_⟩) (by assumption) ?_
                      · (intro w hSw; (try dsimp only at hSw); go_simp)
                      simp only [Act.put, List.setIfInBounds_toArray, List.set_cons_zero, List.set_cons_succ]
                      refine takeH (i := 8) (some 186) (.bool true) rfl rfl (by kernel_rfl) (by kernel_rfl) (by kernel_rfl) (fun _ _ _ h => h) (Or.inl ⟨by rfl, ?_⟩) (by assumption) ?_
                      · (intro w hSw; (try dsimp only at hSw); go_simp)
                      simp only [Act.put, List.setIfInBounds_toArray, List.set_cons_zero, List.set_cons_succ]
                      refine takeH (i := 9) (some 187) (.bool true) rfl rfl (by kernel_rfl) (by kernel_rfl) (by kernel_rfl) (fun _ _ _ h => h) (Or.inl ⟨by rfl, ?_⟩) (by assumption) ?_
                      · (intro w hSw; (try dsimp only at hSw); go_simp)
                      simp only [Act.put, List.setIfInBounds_toArray, List.set_cons_zero, List.set_cons_succ]
                      refine takeH (i := 10) (some 188) (.pointer (some ⟨R.rp, 0, none⟩)) rfl rfl (by kernel_rfl) (by kernel_rfl) (by kernel_rfl) (fun _ _ _ h => h) (Or.inl ⟨by rfl, ?_⟩) (by assumption) ?_
                      · (intro w hSw; (try dsimp only at hSw); go_simp)
                      simp only [Act.put, List.setIfInBounds_toArray, List.set_cons_zero, List.set_cons_succ]
                      refine takeH (i := 11) (some 189) (.pointer (some ⟨kb, 2, none⟩)) rfl rfl (by kernel_rfl) (by kernel_rfl) (by kernel_rfl) (fun _ _ _ h => h) (Or.inl ⟨by rfl, ?_⟩) (by assumption) ?_
                      · (intro w hSw; (try dsimp only at hSw); go_simp)
                      simp only [Act.put, List.setIfInBounds_toArray, List.set_cons_zero, List.set_cons_succ]
                      refine takeH (i := 12) (some 190) (.int .i64 (k : Int)) rfl rfl (by kernel_rfl) (by kernel_rfl) (by kernel_rfl) (fun _ _ _ h => h) (Or.inl ⟨by rfl, ?_⟩) (by assumption) ?_
                      · (intro w hSw; (try dsimp only at hSw); go_simp)
                      simp only [Act.put, List.setIfInBounds_toArray, List.set_cons_zero, List.set_cons_succ]
                      refine takeH (i := 13) (some 191) (.pointer (some ⟨R.rp, 0, none⟩)) rfl rfl (by kernel_rfl) (by kernel_rfl) (by kernel_rfl) (fun _ _ _ h => h) (Or.inl ⟨by rfl, ?_⟩) (by assumption) ?_
                      · (intro w hSw; (try dsimp only at hSw); go_simp)
                      simp only [Act.put, List.setIfInBounds_toArray, List.set_cons_zero, List.set_cons_succ]
                      refine takeH (i := 14) (some 192) (.pointer (some ⟨R.rp, 3, none⟩)) rfl rfl (by kernel_rfl) (by kernel_rfl) (by kernel_rfl) (fun _ _ _ h => h) (Or.inl ⟨by rfl, ?_⟩) (by assumption) ?_
                      · (intro w hSw; (try dsimp only at hSw); go_simp)
                      simp only [Act.put, List.setIfInBounds_toArray, List.set_cons_zero, List.set_cons_succ]
                      refine takeH (i := 15) (some 193) (.pointer (some ⟨R.rp, 3 + k, none⟩)) rfl rfl (by kernel_rfl) (by kernel_rfl) (by kernel_rfl) (fun _ _ _ h => h) (Or.inl ⟨by rfl, ?_⟩) (by assumption) ?_
                      · (intro w hSw; (try dsimp only at hSw); go_simp)
                      simp only [Act.put, List.setIfInBounds_toArray, List.set_cons_zero, List.set_cons_succ]
                      refine takeH (i := 16) (some 194) (.pointer (some ⟨R.rb k, 0, none⟩)) rfl rfl (by kernel_rfl) (by kernel_rfl) (by kernel_rfl) (fun _ _ _ h => h) (Or.inl ⟨by rfl, ?_⟩) (by assumption) ?_
                      · (intro w hSw; (try dsimp only at hSw); go_simp)
                      simp only [Act.put, List.setIfInBounds_toArray, List.set_cons_zero, List.set_cons_succ]
                      refine takeH (i := 17) (some 195) (.pointer (some ⟨R.rb k, 0, none⟩)) rfl rfl (by kernel_rfl) (by kernel_rfl) (by kernel_rfl) (fun _ _ _ h => h) (Or.inl ⟨by rfl, ?_⟩) (by assumption) ?_
                      · (intro w hSw; (try dsimp only at hSw); go_simp)
                      simp only [Act.put, List.setIfInBounds_toArray, List.set_cons_zero, List.set_cons_succ]
                      refine takeH (i := 18) (some 196) (.pointer (some ⟨R.rb k, 3, none⟩)) rfl rfl (by kernel_rfl) (by kernel_rfl) (by kernel_rfl) (fun _ _ _ h => h) (Or.inl ⟨by rfl, ?_⟩) (by assumption) ?_
                      · (intro w hSw; (try dsimp only at hSw); go_simp)
                      simp only [Act.put, List.setIfInBounds_toArray, List.set_cons_zero, List.set_cons_succ]
                      refine takeH (i := 19) (some 197) (.slice (some ⟨g, 0, none⟩) n2 cU) rfl rfl (by kernel_rfl) (by kernel_rfl) (by kernel_rfl) (fun _ _ _ h => h) (Or.inl ⟨by rfl, ?_⟩) (by assumption) ?_
                      · (intro w hSw; (try dsimp only at hSw); go_simp)
                      simp only [Act.put, List.setIfInBounds_toArray, List.set_cons_zero, List.set_cons_succ]
                      refine takeH (i := 20) (some 198) (.int .i64 (n2 : Int)) rfl rfl (by kernel_rfl) (by kernel_rfl) (by kernel_rfl) (fun _ _ _ h => h) (Or.inl ⟨by rfl, ?_⟩) (by assumption) ?_
                      · (intro w hSw; (try dsimp only at hSw); go_simp)
                      simp only [Act.put, List.setIfInBounds_toArray, List.set_cons_zero, List.set_cons_succ]
                      refine takeH (i := 21) (some 199) (.bool true) rfl rfl (by kernel_rfl) (by kernel_rfl) (by kernel_rfl) (fun _ _ _ h => h) (Or.inl ⟨by rfl, ?_⟩) (by assumption) ?_
                      · (intro w hSw; (try dsimp only at hSw); go_simp)
                      simp only [Act.put, List.setIfInBounds_toArray, List.set_cons_zero, List.set_cons_succ]
                      refine takeH (i := 22) (some 200) (.bool true) rfl rfl (by kernel_rfl) (by kernel_rfl) (by kernel_rfl) (fun _ _ _ h => h) (Or.inl ⟨by rfl, ?_⟩) (by assumption) ?_
                      · (intro w hSw; (try dsimp only at hSw); go_simp)
                      simp only [Act.put, List.setIfInBounds_toArray, List.set_cons_zero, List.set_cons_succ]
                      refine wpAnyH_done (by kernel_rfl) ?_ _
                      clear HRC
                      go_wp2_with fail
                      refine wp_region_held_drew (S := (fun W => W.cell? ⟨kb, 2, none⟩ = some (.int .i64 (k : Int)) ∧ W.cell? ⟨kb, 3, none⟩ = some (.int .i64 n) ∧ W.cell? ⟨R.rp, 3 + k, none⟩ = some (.pointer (some ⟨R.rb k, 0, none⟩)) ∧ W.cell? ⟨R.rb k, 3, none⟩ = some (.slice (some ⟨g, 0, none⟩) n2 cU) ∧ W.cell? ⟨g, t, none⟩ = some (.int .i64 (y : Int)))) (by kernel_rfl) ⟨x2, x3, x4, x5, d0⟩ (fun hHeld => ?_)
                      refine takeH (i := 0) (some 201) (.pointer (some ⟨R.rp, 0, none⟩)) rfl rfl (by kernel_rfl) (by kernel_rfl) (by kernel_rfl) (fun _ _ _ h => h) (Or.inl ⟨by rfl, ?_⟩) (by assumption) ?_
                      · (intro w hSw; (try dsimp only at hSw); go_simp)
                      simp only [Act.put, List.setIfInBounds_toArray, List.set_cons_zero, List.set_cons_succ]
                      refine takeH (i := 1) (some 202) (.pointer (some ⟨kb, 2, none⟩)) rfl rfl (by kernel_rfl) (by kernel_rfl) (by kernel_rfl) (fun _ _ _ h => h) (Or.inl ⟨by rfl, ?_⟩) (by assumption) ?_
                      · (intro w hSw; (try dsimp only at hSw); go_simp)
                      simp only [Act.put, List.setIfInBounds_toArray, List.set_cons_zero, List.set_cons_succ]
                      refine takeH (i := 2) (some 203) (.int .i64 (k : Int)) rfl rfl (by kernel_rfl) (by kernel_rfl) (by kernel_rfl) (fun _ _ _ h => h) (Or.inl ⟨by rfl, ?_⟩) (by assumption) ?_
                      · (intro w hSw; (try dsimp only at hSw); go_simp)
                      simp only [Act.put, List.setIfInBounds_toArray, List.set_cons_zero, List.set_cons_succ]
                      refine takeH (i := 3) (some 204) (.pointer (some ⟨R.rp, 0, none⟩)) rfl rfl (by kernel_rfl) (by kernel_rfl) (by kernel_rfl) (fun _ _ _ h => h) (Or.inl ⟨by rfl, ?_⟩) (by assumption) ?_
                      · (intro w hSw; (try dsimp only at hSw); go_simp)
                      simp only [Act.put, List.setIfInBounds_toArray, List.set_cons_zero, List.set_cons_succ]
                      refine takeH (i := 4) (some 205) (.pointer (some ⟨R.rp, 3, none⟩)) rfl rfl (by kernel_rfl) (by kernel_rfl) (by kernel_rfl) (fun _ _ _ h => h) (Or.inl ⟨by rfl, ?_⟩) (by assumption) ?_
                      · (intro w hSw; (try dsimp only at hSw); go_simp)
                      simp only [Act.put, List.setIfInBounds_toArray, List.set_cons_zero, List.set_cons_succ]
                      refine takeH (i := 5) (some 206) (.pointer (some ⟨R.rp, 3 + k, none⟩)) rfl rfl (by kernel_rfl) (by kernel_rfl) (by kernel_rfl) (fun _ _ _ h => h) (Or.inl ⟨by rfl, ?_⟩) (by assumption) ?_
                      · (intro w hSw; (try dsimp only at hSw); go_simp)
                      simp only [Act.put, List.setIfInBounds_toArray, List.set_cons_zero, List.set_cons_succ]
                      refine takeH (i := 6) (some 207) (.pointer (some ⟨R.rb k, 0, none⟩)) rfl rfl (by kernel_rfl) (by kernel_rfl) (by kernel_rfl) (fun _ _ _ h => h) (Or.inl ⟨by rfl, ?_⟩) (by assumption) ?_
                      · (intro w hSw; (try dsimp only at hSw); go_simp)
                      simp only [Act.put, List.setIfInBounds_toArray, List.set_cons_zero, List.set_cons_succ]
                      refine takeH (i := 7) (some 208) (.pointer (some ⟨R.rb k, 0, none⟩)) rfl rfl (by kernel_rfl) (by kernel_rfl) (by kernel_rfl) (fun _ _ _ h => h) (Or.inl ⟨by rfl, ?_⟩) (by assumption) ?_
                      · (intro w hSw; (try dsimp only at hSw); go_simp)
                      simp only [Act.put, List.setIfInBounds_toArray, List.set_cons_zero, List.set_cons_succ]
                      refine takeH (i := 8) (some 209) (.pointer (some ⟨R.rb k, 3, none⟩)) rfl rfl (by kernel_rfl) (by kernel_rfl) (by kernel_rfl) (fun _ _ _ h => h) (Or.inl ⟨by rfl, ?_⟩) (by assumption) ?_
                      · (intro w hSw; (try dsimp only at hSw); go_simp)
                      simp only [Act.put, List.setIfInBounds_toArray, List.set_cons_zero, List.set_cons_succ]
                      refine takeH (i := 9) (some 210) (.slice (some ⟨g, 0, none⟩) n2 cU) rfl rfl (by kernel_rfl) (by kernel_rfl) (by kernel_rfl) (fun _ _ _ h => h) (Or.inl ⟨by rfl, ?_⟩) (by assumption) ?_
                      · (intro w hSw; (try dsimp only at hSw); go_simp)
                      simp only [Act.put, List.setIfInBounds_toArray, List.set_cons_zero, List.set_cons_succ]
                      refine takeH (i := 10) (some 211) (.pointer (some ⟨kb, 3, none⟩)) rfl rfl (by kernel_rfl) (by kernel_rfl) (by kernel_rfl) (fun _ _ _ h => h) (Or.inl ⟨by rfl, ?_⟩) (by assumption) ?_
                      · (intro w hSw; (try dsimp only at hSw); go_simp)
                      simp only [Act.put, List.setIfInBounds_toArray, List.set_cons_zero, List.set_cons_succ]
                      refine takeH (i := 11) (some 212) (.int .i64 n) rfl rfl (by kernel_rfl) (by kernel_rfl) (by kernel_rfl) (fun _ _ _ h => h) (Or.inl ⟨by rfl, ?_⟩) (by assumption) ?_
                      · (intro w hSw; (try dsimp only at hSw); go_simp)
                      simp only [Act.put, List.setIfInBounds_toArray, List.set_cons_zero, List.set_cons_succ]
                      refine takeH (i := 12) (some 213) (.pointer (some ⟨R.rp, 0, none⟩)) rfl rfl (by kernel_rfl) (by kernel_rfl) (by kernel_rfl) (fun _ _ _ h => h) (Or.inl ⟨by rfl, ?_⟩) (by assumption) ?_
                      · (intro w hSw; (try dsimp only at hSw); go_simp)
                      simp only [Act.put, List.setIfInBounds_toArray, List.set_cons_zero, List.set_cons_succ]
                      refine takeH (i := 13) (some 214) (.pointer (some ⟨kb, 2, none⟩)) rfl rfl (by kernel_rfl) (by kernel_rfl) (by kernel_rfl) (fun _ _ _ h => h) (Or.inl ⟨by rfl, ?_⟩) (by assumption) ?_
                      · (intro w hSw; (try dsimp only at hSw); go_simp)
                      simp only [Act.put, List.setIfInBounds_toArray, List.set_cons_zero, List.set_cons_succ]
                      refine takeH (i := 14) (some 215) (.int .i64 (k : Int)) rfl rfl (by kernel_rfl) (by kernel_rfl) (by kernel_rfl) (fun _ _ _ h => h) (Or.inl ⟨by rfl, ?_⟩) (by assumption) ?_
                      · (intro w hSw; (try dsimp only at hSw); go_simp)
                      simp only [Act.put, List.setIfInBounds_toArray, List.set_cons_zero, List.set_cons_succ]
                      refine takeH (i := 15) (some 216) (.pointer (some ⟨R.rp, 0, none⟩)) rfl rfl (by kernel_rfl) (by kernel_rfl) (by kernel_rfl) (fun _ _ _ h => h) (Or.inl ⟨by rfl, ?_⟩) (by assumption) ?_
                      · (intro w hSw; (try dsimp only at hSw); go_simp)
                      simp only [Act.put, List.setIfInBounds_toArray, List.set_cons_zero, List.set_cons_succ]
                      refine takeH (i := 16) (some 217) (.pointer (some ⟨R.rp, 3, none⟩)) rfl rfl (by kernel_rfl) (by kernel_rfl) (by kernel_rfl) (fun _ _ _ h => h) (Or.inl ⟨by rfl, ?_⟩) (by assumption) ?_
                      · (intro w hSw; (try dsimp only at hSw); go_simp)
                      simp only [Act.put, List.setIfInBounds_toArray, List.set_cons_zero, List.set_cons_succ]
                      refine takeH (i := 17) (some 218) (.pointer (some ⟨R.rp, 3 + k, none⟩)) rfl rfl (by kernel_rfl) (by kernel_rfl) (by kernel_rfl) (fun _ _ _ h => h) (Or.inl ⟨by rfl, ?_⟩) (by assumption) ?_
                      · (intro w hSw; (try dsimp only at hSw); go_simp)
                      simp only [Act.put, List.setIfInBounds_toArray, List.set_cons_zero, List.set_cons_succ]
                      refine takeH (i := 18) (some 219) (.pointer (some ⟨R.rb k, 0, none⟩)) rfl rfl (by kernel_rfl) (by kernel_rfl) (by kernel_rfl) (fun _ _ _ h => h) (Or.inl ⟨by rfl, ?_⟩) (by assumption) ?_
                      · (intro w hSw; (try dsimp only at hSw); go_simp)
                      simp only [Act.put, List.setIfInBounds_toArray, List.set_cons_zero, List.set_cons_succ]
                      refine takeH (i := 19) (some 220) (.pointer (some ⟨R.rb k, 0, none⟩)) rfl rfl (by kernel_rfl) (by kernel_rfl) (by kernel_rfl) (fun _ _ _ h => h) (Or.inl ⟨by rfl, ?_⟩) (by assumption) ?_
                      · (intro w hSw; (try dsimp only at hSw); go_simp)
                      simp only [Act.put, List.setIfInBounds_toArray, List.set_cons_zero, List.set_cons_succ]
                      refine takeH (i := 20) (some 221) (.pointer (some ⟨R.rb k, 3, none⟩)) rfl rfl (by kernel_rfl) (by kernel_rfl) (by kernel_rfl) (fun _ _ _ h => h) (Or.inl ⟨by rfl, ?_⟩) (by assumption) ?_
                      · (intro w hSw; (try dsimp only at hSw); go_simp)
                      simp only [Act.put, List.setIfInBounds_toArray, List.set_cons_zero, List.set_cons_succ]
                      refine takeH (i := 21) (some 222) (.slice (some ⟨g, 0, none⟩) n2 cU) rfl rfl (by kernel_rfl) (by kernel_rfl) (by kernel_rfl) (fun _ _ _ h => h) (Or.inl ⟨by rfl, ?_⟩) (by assumption) ?_
                      · (intro w hSw; (try dsimp only at hSw); go_simp)
                      simp only [Act.put, List.setIfInBounds_toArray, List.set_cons_zero, List.set_cons_succ]
                      refine takeH (i := 22) (some 223) (.int .i64 (n2 : Int)) rfl rfl (by kernel_rfl) (by kernel_rfl) (by kernel_rfl) (fun _ _ _ h => h) (Or.inl ⟨by rfl, ?_⟩) (by assumption) ?_
                      · (intro w hSw; (try dsimp only at hSw); go_simp)
                      simp only [Act.put, List.setIfInBounds_toArray, List.set_cons_zero, List.set_cons_succ]
                      refine takeH (i := 23) (some 224) (.int .i64 (t : Int)) rfl rfl (by kernel_rfl) (by kernel_rfl) (by kernel_rfl) (fun _ _ _ h => h) (Or.inl ⟨by rfl, ?_⟩) (by assumption) ?_
                      · (intro w hSw; (try dsimp only at hSw); go_simp)
                      simp only [Act.put, List.setIfInBounds_toArray, List.set_cons_zero, List.set_cons_succ]
                      refine takeH (i := 24) (some 225) (.pointer (some ⟨g, t, none⟩)) rfl rfl (by kernel_rfl) (by kernel_rfl) (by kernel_rfl) (fun _ _ _ h => h) (Or.inl ⟨by rfl, ?_⟩) (by assumption) ?_
                      · (intro w hSw; (try dsimp only at hSw); go_simp)
                      simp only [Act.put, List.setIfInBounds_toArray, List.set_cons_zero, List.set_cons_succ]
                      refine takeH (i := 25) (some 226) (.int .i64 (y : Int)) rfl rfl (by kernel_rfl) (by kernel_rfl) (by kernel_rfl) (fun _ _ _ h => h) (Or.inl ⟨by rfl, ?_⟩) (by assumption) ?_
                      · (intro w hSw; (try dsimp only at hSw); go_simp)
                      simp only [Act.put, List.setIfInBounds_toArray, List.set_cons_zero, List.set_cons_succ]
                      refine takeH (i := 26) (some 20) (.int .i64 (y : Int)) rfl rfl (by kernel_rfl) (by kernel_rfl) (by kernel_rfl) (fun _ _ _ h => h) (Or.inl ⟨by rfl, ?_⟩) (by assumption) ?_
                      · (intro w hSw; (try dsimp only at hSw); go_simp)
                      simp only [Act.put, List.setIfInBounds_toArray, List.set_cons_zero, List.set_cons_succ]
                      refine wpAnyH_done (by kernel_rfl) ?_ _
                      clear x2 x3 x4 x5 d0
                      go_wp2_with fail
                      go_region_held3 (fun W => W.cell? ⟨kb, 1, none⟩ = some (.int .i64 f) ∧ W.cell? ⟨kb, 2, none⟩ = some (.int .i64 (k : Int))) (first | exact ⟨m1, m2⟩ | exact ⟨p1, p2⟩ | exact ⟨z1, z2⟩)
                        (first
                          | (go_at_call 31; refine HP1.out.mono ?_; rintro e w6 ⟨er6, rfl, H7⟩; have HAk := HA1.out.keep (H7.out.choose_spec.2.1 kb hH); have p1 := HAk.c1; have p2 := HAk.c2; have hq2 : (er6 == er6) = true := by simp)
                          | (go_at_call 42; refine (Pa.put2 H7.out.choose_spec.1 H7.out.choose_spec.2.2.1 H7.out.choose_spec.2.2.2.1).mono ?_; rintro e w7 ⟨rfl, hp7, hk7⟩; have HB := HAk.keep (hk7 kb hH); have m1 := HB.c1; have m2 := HB.c2))
                      have H10 := hid (And.intro hp7 HB)
                      clear hp7 HB hk7 m1 m2 p1 p2 z1 z2
                      go_wp2_with fail
                      go_meet
                      case rel => exact ⟨rfl, _, hid ⟨H10.out.1, H10.out.2, by have := H7.out.choose_spec.2.2.2.2; have := H6.out.1.1; omega, by have := H7.out.choose_spec.2.2.2.1; have := H6.out.1.2; omega⟩⟩
                    · have hu1 : ¬ ((0 : Int) < (n2 : Int)) := by omega
                      have H9 : Hid (∀ m : Nat, Pa w (wA.drewN m) H P R v ∧ ActA (wA.drewN m) kb 2 f (k : Int) n ∧ v.ct ≤ j + 1 ∧ v.nxt ≤ j + 2) := hid fun m => ⟨H5.out.below (below_drewN (Below.refl _ _) m), H6.out.2.below (below_drewN (Below.refl _ _) m), by have := H6.out.1.1; omega, by have := H6.out.1.2; omega⟩
                      go_wp2_with fail
                      refine wp_region_held_drew (S := (fun W => W.cell? ⟨kb, 2, none⟩ = some (.int .i64 (k : Int)) ∧ W.cell? ⟨kb, 3, none⟩ = some (.int .i64 n) ∧ W.cell? ⟨R.rp, 3 + k, none⟩ = some (.pointer (some ⟨R.rb k, 0, none⟩)) ∧ W.cell? ⟨R.rb k, 3, none⟩ = some (.slice aU n2 cU))) (by kernel_rfl) ⟨x2, x3, x4, x5⟩ (fun hHeld => ?_)
                      refine takeH (i := 0) (some 178) (.pointer (some ⟨kb, 2, none⟩)) rfl rfl (by kernel_rfl) (by kernel_rfl) (by kernel_rfl) (fun _ _ _ h => h) (Or.inl ⟨by rfl, ?_⟩) (by assumption) ?_
                      · (intro w hSw; (try dsimp only at hSw); go_simp)
                      simp only [Act.put, List.setIfInBounds_toArray, List.set_cons_zero, List.set_cons_succ]
                      refine takeH (i := 1) (some 179) (.int .i64 (k : Int)) rfl rfl (by kernel_rfl) (by kernel_rfl) (by kernel_rfl) (fun _ _ _ h => h) (Or.inl ⟨by rfl, ?_⟩) (by assumption) ?_
                      · (intro w hSw; (try dsimp only at hSw); go_simp)
                      simp only [Act.put, List.setIfInBounds_toArray, List.set_cons_zero, List.set_cons_succ]
                      refine wpAnyH_ready (rs := [2]) (by kernel_rfl) (by simp) ?_
                      refine AllReadyH.cons (by simp only [List.getElem?_toArray, List.getElem?_cons_succ, List.getElem?_cons_zero]; rfl) (fun KK hK => ?_) AllReadyH.nil
                      go_simp
                      refine (HRC.out _).mono ?_
                      rintro e wX ⟨rfl, rfl⟩
                      go_wp2_with fail
                      refine hK.out _ _ ⟨x2, x3, x4, x5⟩ (fun hHeld => ?_)
                      clear hK KK
                      try simp only [Act.put, List.setIfInBounds_toArray, List.set_cons_zero, List.set_cons_succ]
                      refine takeH (i := 3) (some 181) (.bool true) rfl rfl (by kernel_rfl) (by kernel_rfl) (by kernel_rfl) (fun _ _ _ h => h) (Or.inl ⟨by rfl, ?_⟩) (by assumption) ?_
                      · (intro w hSw; (try dsimp only at hSw); go_simp)
                      simp only [Act.put, List.setIfInBounds_toArray, List.set_cons_zero, List.set_cons_succ]
                      refine takeH (i := 4) (some 182) (.bool true) rfl rfl (by kernel_rfl) (by kernel_rfl) (by kernel_rfl) (fun _ _ _ h => h) (Or.inl ⟨by rfl, ?_⟩) (by assumption) ?_
                      · (intro w hSw; (try dsimp only at hSw); go_simp)
                      simp only [Act.put, List.setIfInBounds_toArray, List.set_cons_zero, List.set_cons_succ]
                      refine takeH (i := 5) (some 183) (.pointer (some ⟨kb, 3, none⟩)) rfl rfl (by kernel_rfl) (by kernel_rfl) (by kernel_rfl) (fun _ _ _ h => h) (Or.inl ⟨by rfl, ?_⟩) (by assumption) ?_
                      · (intro w hSw; (try dsimp only at hSw); go_simp)
                      simp only [Act.put, List.setIfInBounds_toArray, List.set_cons_zero, List.set_cons_succ]
                      refine takeH (i := 6) (some 184) (.int .i64 n) rfl rfl (by kernel_rfl) (by kernel_rfl) (by kernel_rfl) (fun _ _ _ h => h) (Or.inl ⟨by rfl, ?_⟩) (by assumption) ?_
                      · (intro w hSw; (try dsimp only at hSw); go_simp)
                      simp only [Act.put, List.setIfInBounds_toArray, List.set_cons_zero, List.set_cons_succ]
                      refine takeH (i := 7) (some 185) (.bool true) rfl rfl (by kernel_rfl) (by kernel_rfl) (by kernel_rfl) (fun _ _ _ h => h) (Or.inl ⟨by rfl, ?_⟩) (by assumption) ?_
                      · (intro w hSw; (try dsimp only at hSw); go_simp)
                      simp only [Act.put, List.setIfInBounds_toArray, List.set_cons_zero, List.set_cons_succ]
                      refine takeH (i := 8) (some 186) (.bool true) rfl rfl (by kernel_rfl) (by kernel_rfl) (by kernel_rfl) (fun _ _ _ h => h) (Or.inl ⟨by rfl, ?_⟩) (by assumption) ?_
                      · (intro w hSw; (try dsimp only at hSw); go_simp)
                      simp only [Act.put, List.setIfInBounds_toArray, List.set_cons_zero, List.set_cons_succ]
                      refine takeH (i := 9) (some 187) (.bool true) rfl rfl (by kernel_rfl) (by kernel_rfl) (by kernel_rfl) (fun _ _ _ h => h) (Or.inl ⟨by rfl, ?_⟩) (by assumption) ?_
                      · (intro w hSw; (try dsimp only at hSw); go_simp)
                      simp only [Act.put, List.setIfInBounds_toArray, List.set_cons_zero, List.set_cons_succ]
                      refine takeH (i := 10) (some 188) (.pointer (some ⟨R.rp, 0, none⟩)) rfl rfl (by kernel_rfl) (by kernel_rfl) (by kernel_rfl) (fun _ _ _ h => h) (Or.inl ⟨by rfl, ?_⟩) (by assumption) ?_
                      · (intro w hSw; (try dsimp only at hSw); go_simp)
                      simp only [Act.put, List.setIfInBounds_toArray, List.set_cons_zero, List.set_cons_succ]
                      refine takeH (i := 11) (some 189) (.pointer (some ⟨kb, 2, none⟩)) rfl rfl (by kernel_rfl) (by kernel_rfl) (by kernel_rfl) (fun _ _ _ h => h) (Or.inl ⟨by rfl, ?_⟩) (by assumption) ?_
                      · (intro w hSw; (try dsimp only at hSw); go_simp)
                      simp only [Act.put, List.setIfInBounds_toArray, List.set_cons_zero, List.set_cons_succ]
                      refine takeH (i := 12) (some 190) (.int .i64 (k : Int)) rfl rfl (by kernel_rfl) (by kernel_rfl) (by kernel_rfl) (fun _ _ _ h => h) (Or.inl ⟨by rfl, ?_⟩) (by assumption) ?_
                      · (intro w hSw; (try dsimp only at hSw); go_simp)
                      simp only [Act.put, List.setIfInBounds_toArray, List.set_cons_zero, List.set_cons_succ]
                      refine takeH (i := 13) (some 191) (.pointer (some ⟨R.rp, 0, none⟩)) rfl rfl (by kernel_rfl) (by kernel_rfl) (by kernel_rfl) (fun _ _ _ h => h) (Or.inl ⟨by rfl, ?_⟩) (by assumption) ?_
                      · (intro w hSw; (try dsimp only at hSw); go_simp)
                      simp only [Act.put, List.setIfInBounds_toArray, List.set_cons_zero, List.set_cons_succ]
                      refine takeH (i := 14) (some 192) (.pointer (some ⟨R.rp, 3, none⟩)) rfl rfl (by kernel_rfl) (by kernel_rfl) (by kernel_rfl) (fun _ _ _ h => h) (Or.inl ⟨by rfl, ?_⟩) (by assumption) ?_
                      · (intro w hSw; (try dsimp only at hSw); go_simp)
                      simp only [Act.put, List.setIfInBounds_toArray, List.set_cons_zero, List.set_cons_succ]
                      refine takeH (i := 15) (some 193) (.pointer (some ⟨R.rp, 3 + k, none⟩)) rfl rfl (by kernel_rfl) (by kernel_rfl) (by kernel_rfl) (fun _ _ _ h => h) (Or.inl ⟨by rfl, ?_⟩) (by assumption) ?_
                      · (intro w hSw; (try dsimp only at hSw); go_simp)
                      simp only [Act.put, List.setIfInBounds_toArray, List.set_cons_zero, List.set_cons_succ]
                      refine takeH (i := 16) (some 194) (.pointer (some ⟨R.rb k, 0, none⟩)) rfl rfl (by kernel_rfl) (by kernel_rfl) (by kernel_rfl) (fun _ _ _ h => h) (Or.inl ⟨by rfl, ?_⟩) (by assumption) ?_
                      · (intro w hSw; (try dsimp only at hSw); go_simp)
                      simp only [Act.put, List.setIfInBounds_toArray, List.set_cons_zero, List.set_cons_succ]
                      refine takeH (i := 17) (some 195) (.pointer (some ⟨R.rb k, 0, none⟩)) rfl rfl (by kernel_rfl) (by kernel_rfl) (by kernel_rfl) (fun _ _ _ h => h) (Or.inl ⟨by rfl, ?_⟩) (by assumption) ?_
                      · (intro w hSw; (try dsimp only at hSw); go_simp)
                      simp only [Act.put, List.setIfInBounds_toArray, List.set_cons_zero, List.set_cons_succ]
                      refine takeH (i := 18) (some 196) (.pointer (some ⟨R.rb k, 3, none⟩)) rfl rfl (by kernel_rfl) (by kernel_rfl) (by kernel_rfl) (fun _ _ _ h => h) (Or.inl ⟨by rfl, ?_⟩) (by assumption) ?_
                      · (intro w hSw; (try dsimp only at hSw); go_simp)
                      simp only [Act.put, List.setIfInBounds_toArray, List.set_cons_zero, List.set_cons_succ]
                      refine takeH (i := 19) (some 197) (.slice aU n2 cU) rfl rfl (by kernel_rfl) (by kernel_rfl) (by kernel_rfl) (fun _ _ _ h => h) (Or.inl ⟨by rfl, ?_⟩) (by assumption) ?_
                      · (intro w hSw; (try dsimp only at hSw); go_simp)
                      simp only [Act.put, List.setIfInBounds_toArray, List.set_cons_zero, List.set_cons_succ]
                      refine takeH (i := 20) (some 198) (.int .i64 (n2 : Int)) rfl rfl (by kernel_rfl) (by kernel_rfl) (by kernel_rfl) (fun _ _ _ h => h) (Or.inl ⟨by rfl, ?_⟩) (by assumption) ?_
                      · (intro w hSw; (try dsimp only at hSw); go_simp)
                      simp only [Act.put, List.setIfInBounds_toArray, List.set_cons_zero, List.set_cons_succ]
                      refine takeH (i := 21) (some 199) (.bool false) rfl rfl (by kernel_rfl) (by kernel_rfl) (by kernel_rfl) (fun _ _ _ h => h) (Or.inl ⟨by rfl, ?_⟩) (by assumption) ?_
                      · (intro w hSw; (try dsimp only at hSw); go_simp)
                      simp only [Act.put, List.setIfInBounds_toArray, List.set_cons_zero, List.set_cons_succ]
                      refine takeH (i := 22) (some 200) (.bool false) rfl rfl (by kernel_rfl) (by kernel_rfl) (by kernel_rfl) (fun _ _ _ h => h) (Or.inl ⟨by rfl, ?_⟩) (by assumption) ?_
                      · (intro w hSw; (try dsimp only at hSw); go_simp)
                      simp only [Act.put, List.setIfInBounds_toArray, List.set_cons_zero, List.set_cons_succ]
                      refine wpAnyH_done (by kernel_rfl) ?_ _
                      clear HRC
                      go_wp2_with fail
                      go_meet
                      case rel => exact ⟨rfl, v, hid (H9.out 1)⟩
                  · have H9 : Hid (∀ m : Nat, Pa w (wA.drewN m) H P R v ∧ ActA (wA.drewN m) kb 2 f (k : Int) n ∧ v.ct ≤ j + 1 ∧ v.nxt ≤ j + 2) := hid fun m => ⟨H5.out.below (below_drewN (Below.refl _ _) m), H6.out.2.below (below_drewN (Below.refl _ _) m), by have := H6.out.1.1; omega, by have := H6.out.1.2; omega⟩
                    go_wp2_with fail
                    refine wp_region_held_drew (S := (fun W => W.cell? ⟨kb, 2, none⟩ = some (.int .i64 (k : Int)) ∧ W.cell? ⟨kb, 3, none⟩ = some (.int .i64 n) ∧ W.cell? ⟨R.rp, 3 + k, none⟩ = some (.pointer (some ⟨R.rb k, 0, none⟩)) ∧ W.cell? ⟨R.rb k, 3, none⟩ = some (.slice aU n2 cU))) (by kernel_rfl) ⟨x2, x3, x4, x5⟩ (fun hHeld => ?_)
                    refine takeH (i := 0) (some 178) (.pointer (some ⟨kb, 2, none⟩)) rfl rfl (by kernel_rfl) (by kernel_rfl) (by kernel_rfl) (fun _ _ _ h => h) (Or.inl ⟨by rfl, ?_⟩) (by assumption) ?_
                    · (intro w hSw; (try dsimp only at hSw); go_simp)
                    simp only [Act.put, List.setIfInBounds_toArray, List.set_cons_zero, List.set_cons_succ]
                    refine takeH (i := 1) (some 179) (.int .i64 (k : Int)) rfl rfl (by kernel_rfl) (by kernel_rfl) (by kernel_rfl) (fun _ _ _ h => h) (Or.inl ⟨by rfl, ?_⟩) (by assumption) ?_
                    · (intro w hSw; (try dsimp only at hSw); go_simp)
                    simp only [Act.put, List.setIfInBounds_toArray, List.set_cons_zero, List.set_cons_succ]
                    refine wpAnyH_ready (rs := [2]) (by kernel_rfl) (by simp) ?_
                    refine AllReadyH.cons (by simp only [List.getElem?_toArray, List.getElem?_cons_succ, List.getElem?_cons_zero]; rfl) (fun KK hK => ?_) AllReadyH.nil
                    go_simp
                    refine (HRC.out _).mono ?_
                    rintro e wX ⟨rfl, rfl⟩
                    go_wp2_with fail
                    refine hK.out _ _ ⟨x2, x3, x4, x5⟩ (fun hHeld => ?_)
                    clear hK KK
                    try simp only [Act.put, List.setIfInBounds_toArray, List.set_cons_zero, List.set_cons_succ]
                    refine takeH (i := 3) (some 181) (.bool true) rfl rfl (by kernel_rfl) (by kernel_rfl) (by kernel_rfl) (fun _ _ _ h => h) (Or.inl ⟨by rfl, ?_⟩) (by assumption) ?_
                    · (intro w hSw; (try dsimp only at hSw); go_simp)
                    simp only [Act.put, List.setIfInBounds_toArray, List.set_cons_zero, List.set_cons_succ]
                    refine takeH (i := 4) (some 182) (.bool true) rfl rfl (by kernel_rfl) (by kernel_rfl) (by kernel_rfl) (fun _ _ _ h => h) (Or.inl ⟨by rfl, ?_⟩) (by assumption) ?_
                    · (intro w hSw; (try dsimp only at hSw); go_simp)
                    simp only [Act.put, List.setIfInBounds_toArray, List.set_cons_zero, List.set_cons_succ]
                    refine takeH (i := 5) (some 183) (.pointer (some ⟨kb, 3, none⟩)) rfl rfl (by kernel_rfl) (by kernel_rfl) (by kernel_rfl) (fun _ _ _ h => h) (Or.inl ⟨by rfl, ?_⟩) (by assumption) ?_
                    · (intro w hSw; (try dsimp only at hSw); go_simp)
                    simp only [Act.put, List.setIfInBounds_toArray, List.set_cons_zero, List.set_cons_succ]
                    refine takeH (i := 6) (some 184) (.int .i64 n) rfl rfl (by kernel_rfl) (by kernel_rfl) (by kernel_rfl) (fun _ _ _ h => h) (Or.inl ⟨by rfl, ?_⟩) (by assumption) ?_
                    · (intro w hSw; (try dsimp only at hSw); go_simp)
                    simp only [Act.put, List.setIfInBounds_toArray, List.set_cons_zero, List.set_cons_succ]
                    refine takeH (i := 7) (some 185) (.bool false) rfl rfl (by kernel_rfl) (by kernel_rfl) (by kernel_rfl) (fun _ _ _ h => h) (Or.inl ⟨by rfl, ?_⟩) (by assumption) ?_
                    · (intro w hSw; (try dsimp only at hSw); go_simp)
                    simp only [Act.put, List.setIfInBounds_toArray, List.set_cons_zero, List.set_cons_succ]
                    refine takeH (i := 8) (some 186) (.bool false) rfl rfl (by kernel_rfl) (by kernel_rfl) (by kernel_rfl) (fun _ _ _ h => h) (Or.inl ⟨by rfl, ?_⟩) (by assumption) ?_
                    · (intro w hSw; (try dsimp only at hSw); go_simp)
                    simp only [Act.put, List.setIfInBounds_toArray, List.set_cons_zero, List.set_cons_succ]
                    refine takeH (i := 9) (some 187) (.bool false) rfl rfl (by kernel_rfl) (by kernel_rfl) (by kernel_rfl) (fun _ _ _ h => h) (Or.inl ⟨by rfl, ?_⟩) (by assumption) ?_
                    · (intro w hSw; (try dsimp only at hSw); go_simp)
                    simp only [Act.put, List.setIfInBounds_toArray, List.set_cons_zero, List.set_cons_succ]
                    refine takeH (i := 10) (some 188) undef rfl rfl (by kernel_rfl) (by kernel_rfl) (by kernel_rfl) (fun _ _ _ h => h) (Or.inr ⟨by rfl, rfl⟩) (by assumption) ?_
                    simp only [Act.put, List.setIfInBounds_toArray, List.set_cons_zero, List.set_cons_succ]
                    refine takeH (i := 11) (some 189) undef rfl rfl (by kernel_rfl) (by kernel_rfl) (by kernel_rfl) (fun _ _ _ h => h) (Or.inr ⟨by rfl, rfl⟩) (by assumption) ?_
                    simp only [Act.put, List.setIfInBounds_toArray, List.set_cons_zero, List.set_cons_succ]
                    refine takeH (i := 12) (some 190) undef rfl rfl (by kernel_rfl) (by kernel_rfl) (by kernel_rfl) (fun _ _ _ h => h) (Or.inr ⟨by rfl, rfl⟩) (by assumption) ?_
                    simp only [Act.put, List.setIfInBounds_toArray, List.set_cons_zero, List.set_cons_succ]
                    refine takeH (i := 13) (some 191) undef rfl rfl (by kernel_rfl) (by kernel_rfl) (by kernel_rfl) (fun _ _ _ h => h) (Or.inr ⟨by rfl, rfl⟩) (by assumption) ?_
                    simp only [Act.put, List.setIfInBounds_toArray, List.set_cons_zero, List.set_cons_succ]
                    refine takeH (i := 14) (some 192) undef rfl rfl (by kernel_rfl) (by kernel_rfl) (by kernel_rfl) (fun _ _ _ h => h) (Or.inr ⟨by rfl, rfl⟩) (by assumption) ?_
                    simp only [Act.put, List.setIfInBounds_toArray, List.set_cons_zero, List.set_cons_succ]
                    refine takeH (i := 15) (some 193) undef rfl rfl (by kernel_rfl) (by kernel_rfl) (by kernel_rfl) (fun _ _ _ h => h) (Or.inr ⟨by rfl, rfl⟩) (by assumption) ?_
                    simp only [Act.put, List.setIfInBounds_toArray, List.set_cons_zero, List.set_cons_succ]
                    refine takeH (i := 16) (some 194) undef rfl rfl (by kernel_rfl) (by kernel_rfl) (by kernel_rfl) (fun _ _ _ h => h) (Or.inr ⟨by rfl, rfl⟩) (by assumption) ?_
                    simp only [Act.put, List.setIfInBounds_toArray, List.set_cons_zero, List.set_cons_succ]
                    refine takeH (i := 17) (some 195) undef rfl rfl (by kernel_rfl) (by kernel_rfl) (by kernel_rfl) (fun _ _ _ h => h) (Or.inr ⟨by rfl, rfl⟩) (by assumption) ?_
                    simp only [Act.put, List.setIfInBounds_toArray, List.set_cons_zero, List.set_cons_succ]
                    refine takeH (i := 18) (some 196) undef rfl rfl (by kernel_rfl) (by kernel_rfl) (by kernel_rfl) (fun _ _ _ h => h) (Or.inr ⟨by rfl, rfl⟩) (by assumption) ?_
                    simp only [Act.put, List.setIfInBounds_toArray, List.set_cons_zero, List.set_cons_succ]
                    refine takeH (i := 19) (some 197) undef rfl rfl (by kernel_rfl) (by kernel_rfl) (by kernel_rfl) (fun _ _ _ h => h) (Or.inr ⟨by rfl, rfl⟩) (by assumption) ?_
                    simp only [Act.put, List.setIfInBounds_toArray, List.set_cons_zero, List.set_cons_succ]
                    refine takeH (i := 20) (some 198) undef rfl rfl (by kernel_rfl) (by kernel_rfl) (by kernel_rfl) (fun _ _ _ h => h) (Or.inr ⟨by rfl, rfl⟩) (by assumption) ?_
                    simp only [Act.put, List.setIfInBounds_toArray, List.set_cons_zero, List.set_cons_succ]
                    refine takeH (i := 21) (some 199) undef rfl rfl (by kernel_rfl) (by kernel_rfl) (by kernel_rfl) (fun _ _ _ h => h) (Or.inr ⟨by rfl, rfl⟩) (by assumption) ?_
                    simp only [Act.put, List.setIfInBounds_toArray, List.set_cons_zero, List.set_cons_succ]
                    refine takeH (i := 22) (some 200) (.bool false) rfl rfl (by kernel_rfl) (by kernel_rfl) (by kernel_rfl) (fun _ _ _ h => h) (Or.inl ⟨by rfl, ?_⟩) (by assumption) ?_
                    · (intro w hSw; (try dsimp only at hSw); go_simp)
                    simp only [Act.put, List.setIfInBounds_toArray, List.set_cons_zero, List.set_cons_succ]
                    refine wpAnyH_done (by kernel_rfl) ?_ _
                    clear HRC
                    go_wp2_with fail
                    go_meet
                    case rel => exact ⟨rfl, v, hid (H9.out 1)⟩
                · have hcst : costI c = 0 := by unfold costI; rw [if_neg hkn]
                  have HRC := hid (fun wx => show Calls Tryz.prog 43 #[.int .i64 c] wx (fun e w' => e = .returned (.int .i64 0) ∧ w' = wx) from by rw [← hcst]; exact rcost_any c wx)
                  have x2 : wA.drew.cell? ⟨kb, 2, none⟩ = some (.int .i64 c) := a2
                  have x3 : wA.drew.cell? ⟨kb, 3, none⟩ = some (.int .i64 n) := a3
                  have H9 : Hid (∀ m : Nat, Pa w (wA.drewN m) H P R v ∧ ActA (wA.drewN m) kb 2 f c n ∧ v.ct ≤ j + 1 ∧ v.nxt ≤ j + 2) := hid fun m => ⟨H5.out.below (below_drewN (Below.refl _ _) m), H6.out.2.below (below_drewN (Below.refl _ _) m), by have := H6.out.1.1; omega, by have := H6.out.1.2; omega⟩
                  clear hcst
                  go_wp2_with fail
                  refine wp_region_held_drew (S := (fun W => W.cell? ⟨kb, 2, none⟩ = some (.int .i64 c) ∧ W.cell? ⟨kb, 3, none⟩ = some (.int .i64 n))) (by kernel_rfl) ⟨x2, x3⟩ (fun hHeld => ?_)
                  refine takeH (i := 0) (some 178) (.pointer (some ⟨kb, 2, none⟩)) rfl rfl (by kernel_rfl) (by kernel_rfl) (by kernel_rfl) (fun _ _ _ h => h) (Or.inl ⟨by rfl, ?_⟩) (by assumption) ?_
                  · (intro w hSw; (try dsimp only at hSw); go_simp)
                  simp only [Act.put, List.setIfInBounds_toArray, List.set_cons_zero, List.set_cons_succ]
                  refine takeH (i := 1) (some 179) (.int .i64 c) rfl rfl (by kernel_rfl) (by kernel_rfl) (by kernel_rfl) (fun _ _ _ h => h) (Or.inl ⟨by rfl, ?_⟩) (by assumption) ?_
                  · (intro w hSw; (try dsimp only at hSw); go_simp)
                  simp only [Act.put, List.setIfInBounds_toArray, List.set_cons_zero, List.set_cons_succ]
                  refine wpAnyH_ready (rs := [2]) (by kernel_rfl) (by simp) ?_
                  refine AllReadyH.cons (by simp only [List.getElem?_toArray, List.getElem?_cons_succ, List.getElem?_cons_zero]; rfl) (fun KK hK => ?_) AllReadyH.nil
                  go_simp
                  refine (HRC.out _).mono ?_
                  rintro e wX ⟨rfl, rfl⟩
                  go_wp2_with fail
                  refine hK.out _ _ ⟨x2, x3⟩ (fun hHeld => ?_)
                  clear hK KK
                  try simp only [Act.put, List.setIfInBounds_toArray, List.set_cons_zero, List.set_cons_succ]
                  refine takeH (i := 3) (some 181) (.bool false) rfl rfl (by kernel_rfl) (by kernel_rfl) (by kernel_rfl) (fun _ _ _ h => h) (Or.inl ⟨by rfl, ?_⟩) (by assumption) ?_
                  · (intro w hSw; (try dsimp only at hSw); go_simp)
                  simp only [Act.put, List.setIfInBounds_toArray, List.set_cons_zero, List.set_cons_succ]
                  refine takeH (i := 4) (some 182) (.bool false) rfl rfl (by kernel_rfl) (by kernel_rfl) (by kernel_rfl) (fun _ _ _ h => h) (Or.inl ⟨by rfl, ?_⟩) (by assumption) ?_
                  · (intro w hSw; (try dsimp only at hSw); go_simp)
                  simp only [Act.put, List.setIfInBounds_toArray, List.set_cons_zero, List.set_cons_succ]
                  refine takeH (i := 5) (some 183) undef rfl rfl (by kernel_rfl) (by kernel_rfl) (by kernel_rfl) (fun _ _ _ h => h) (Or.inr ⟨by rfl, rfl⟩) (by assumption) ?_
                  simp only [Act.put, List.setIfInBounds_toArray, List.set_cons_zero, List.set_cons_succ]
                  refine takeH (i := 6) (some 184) undef rfl rfl (by kernel_rfl) (by kernel_rfl) (by kernel_rfl) (fun _ _ _ h => h) (Or.inr ⟨by rfl, rfl⟩) (by assumption) ?_
                  simp only [Act.put, List.setIfInBounds_toArray, List.set_cons_zero, List.set_cons_succ]
                  refine takeH (i := 7) (some 185) undef rfl rfl (by kernel_rfl) (by kernel_rfl) (by kernel_rfl) (fun _ _ _ h => h) (Or.inr ⟨by rfl, rfl⟩) (by assumption) ?_
                  simp only [Act.put, List.setIfInBounds_toArray, List.set_cons_zero, List.set_cons_succ]
                  refine takeH (i := 8) (some 186) (.bool false) rfl rfl (by kernel_rfl) (by kernel_rfl) (by kernel_rfl) (fun _ _ _ h => h) (Or.inl ⟨by rfl, ?_⟩) (by assumption) ?_
                  · (intro w hSw; (try dsimp only at hSw); go_simp)
                  simp only [Act.put, List.setIfInBounds_toArray, List.set_cons_zero, List.set_cons_succ]
                  refine takeH (i := 9) (some 187) (.bool false) rfl rfl (by kernel_rfl) (by kernel_rfl) (by kernel_rfl) (fun _ _ _ h => h) (Or.inl ⟨by rfl, ?_⟩) (by assumption) ?_
                  · (intro w hSw; (try dsimp only at hSw); go_simp)
                  simp only [Act.put, List.setIfInBounds_toArray, List.set_cons_zero, List.set_cons_succ]
                  refine takeH (i := 10) (some 188) undef rfl rfl (by kernel_rfl) (by kernel_rfl) (by kernel_rfl) (fun _ _ _ h => h) (Or.inr ⟨by rfl, rfl⟩) (by assumption) ?_
                  simp only [Act.put, List.setIfInBounds_toArray, List.set_cons_zero, List.set_cons_succ]
                  refine takeH (i := 11) (some 189) undef rfl rfl (by kernel_rfl) (by kernel_rfl) (by kernel_rfl) (fun _ _ _ h => h) (Or.inr ⟨by rfl, rfl⟩) (by assumption) ?_
                  simp only [Act.put, List.setIfInBounds_toArray, List.set_cons_zero, List.set_cons_succ]
                  refine takeH (i := 12) (some 190) undef rfl rfl (by kernel_rfl) (by kernel_rfl) (by kernel_rfl) (fun _ _ _ h => h) (Or.inr ⟨by rfl, rfl⟩) (by assumption) ?_
                  simp only [Act.put, List.setIfInBounds_toArray, List.set_cons_zero, List.set_cons_succ]
                  refine takeH (i := 13) (some 191) undef rfl rfl (by kernel_rfl) (by kernel_rfl) (by kernel_rfl) (fun _ _ _ h => h) (Or.inr ⟨by rfl, rfl⟩) (by assumption) ?_
                  simp only [Act.put, List.setIfInBounds_toArray, List.set_cons_zero, List.set_cons_succ]
                  refine takeH (i := 14) (some 192) undef rfl rfl (by kernel_rfl) (by kernel_rfl) (by kernel_rfl) (fun _ _ _ h => h) (Or.inr ⟨by rfl, rfl⟩) (by assumption) ?_
                  simp only [Act.put, List.setIfInBounds_toArray, List.set_cons_zero, List.set_cons_succ]
                  refine takeH (i := 15) (some 193) undef rfl rfl (by kernel_rfl) (by kernel_rfl) (by kernel_rfl) (fun _ _ _ h => h) (Or.inr ⟨by rfl, rfl⟩) (by assumption) ?_
                  simp only [Act.put, List.setIfInBounds_toArray, List.set_cons_zero, List.set_cons_succ]
                  refine takeH (i := 16) (some 194) undef rfl rfl (by kernel_rfl) (by kernel_rfl) (by kernel_rfl) (fun _ _ _ h => h) (Or.inr ⟨by rfl, rfl⟩) (by assumption) ?_
                  simp only [Act.put, List.setIfInBounds_toArray, List.set_cons_zero, List.set_cons_succ]
                  refine takeH (i := 17) (some 195) undef rfl rfl (by kernel_rfl) (by kernel_rfl) (by kernel_rfl) (fun _ _ _ h => h) (Or.inr ⟨by rfl, rfl⟩) (by assumption) ?_
                  simp only [Act.put, List.setIfInBounds_toArray, List.set_cons_zero, List.set_cons_succ]
                  refine takeH (i := 18) (some 196) undef rfl rfl (by kernel_rfl) (by kernel_rfl) (by kernel_rfl) (fun _ _ _ h => h) (Or.inr ⟨by rfl, rfl⟩) (by assumption) ?_
                  simp only [Act.put, List.setIfInBounds_toArray, List.set_cons_zero, List.set_cons_succ]
                  refine takeH (i := 19) (some 197) undef rfl rfl (by kernel_rfl) (by kernel_rfl) (by kernel_rfl) (fun _ _ _ h => h) (Or.inr ⟨by rfl, rfl⟩) (by assumption) ?_
                  simp only [Act.put, List.setIfInBounds_toArray, List.set_cons_zero, List.set_cons_succ]
                  refine takeH (i := 20) (some 198) undef rfl rfl (by kernel_rfl) (by kernel_rfl) (by kernel_rfl) (fun _ _ _ h => h) (Or.inr ⟨by rfl, rfl⟩) (by assumption) ?_
                  simp only [Act.put, List.setIfInBounds_toArray, List.set_cons_zero, List.set_cons_succ]
                  refine takeH (i := 21) (some 199) undef rfl rfl (by kernel_rfl) (by kernel_rfl) (by kernel_rfl) (fun _ _ _ h => h) (Or.inr ⟨by rfl, rfl⟩) (by assumption) ?_
                  simp only [Act.put, List.setIfInBounds_toArray, List.set_cons_zero, List.set_cons_succ]
                  refine takeH (i := 22) (some 200) (.bool false) rfl rfl (by kernel_rfl) (by kernel_rfl) (by kernel_rfl) (fun _ _ _ h => h) (Or.inl ⟨by rfl, ?_⟩) (by assumption) ?_
                  · (intro w hSw; (try dsimp only at hSw); go_simp)
                  simp only [Act.put, List.setIfInBounds_toArray, List.set_cons_zero, List.set_cons_succ]
                  refine wpAnyH_done (by kernel_rfl) ?_ _
                  clear HRC
                  go_wp2_with fail
                  go_meet
                  case rel => exact ⟨rfl, v, hid (H9.out 1)⟩
            · have hk2' : (kd == 2) = false := by simpa using hk2
              by_cases hk3 : kd = 3
              · subst hk3
                as_aux_lemma =>
                  clear hk0 hk0' hk1 hk1' hk2 hk2'
                  have hnx : v.nxt ≤ 1073741824 := by have := H6.out.1.2; omega
                  have hnn : (Qu.carveA v.l v.nxt f n).2.2.2 ≤ v.nxt + 1 := by
                    obtain ⟨G, tg, rg, cap, vF, vB, F, Ub, vS, vU, _, h1, h2⟩ := H5.out
                    exact (h1.qinv.carveA f n).2
                  have hd : Below wA.heap.size wA wA.drew := (Below.refl _ _).drew
                  have HQ := hid ((H5.out.below hd).quota)
                  have HCV := hid ((H5.out.below hd).carve1 hnx f n)
                  have HA1 := hid (H6.out.2.below hd)
                  have z1 := HA1.out.c1
                  have z3 := HA1.out.c3
                  have HNN := hid hnn
                  clear hd hnn a0 a1 a2 a3
                  go_wp2_with fail
                  go_region_held3 (fun W => W.cell? ⟨kb, 1, none⟩ = some (.int .i64 f) ∧ W.cell? ⟨kb, 3, none⟩ = some (.int .i64 n)) (first | exact ⟨m1, m3⟩ | exact ⟨z1, z3⟩)
                    (first
                      | (go_at_call 34; refine HQ.out.mono ?_; rintro e wx ⟨rfl, rfl⟩)
                      | (go_at_call 44; refine HCV.out.mono ?_; rintro e w6 ⟨rfl, hm6, hk6⟩; have HB := HA1.out.keep (hk6 kb hH); have m1 := HB.c1; have m3 := HB.c3))
                  have hd2 : Below w6.heap.size w6 w6.drew := (Below.refl _ _).drew
                  have hm6d := hm6.below hd2
                  have q2 := hm6d.rq
                  have HB2 := hid (HB.below hd2)
                  have u1 := HB2.out.c1
                  have u3 := HB2.out.c3
                  have HCV2 := hid (Pa.carve2 hm6d hnx)
                  have hq1 : ((Qu.carveA v.l v.nxt f n).1 == (Qu.carveA v.l v.nxt f n).1) = true := by simp
                  have hq2 : ((Qu.carveA v.l v.nxt f n).2.1 == (Qu.carveA v.l v.nxt f n).2.1) = true := by simp
                  clear hm6 hk6 HB m1 m3 z1 z3 hd2 hm6d HCV HQ
                  go_wp2_with fail
                  go_region_held3 (fun W => W.cell? ⟨R.rp, 2, none⟩ = some (.pointer (some ⟨R.rq, 0, none⟩)) ∧ W.cell? ⟨kb, 1, none⟩ = some (.int .i64 f) ∧ W.cell? ⟨kb, 3, none⟩ = some (.int .i64 n)) (first | exact ⟨q3, t1, t3⟩ | exact ⟨q2, u1, u3⟩)
                    (first | (go_at_call 45; refine HCV2.out.mono ?_; rintro e w7 ⟨rfl, hp7, hk7⟩; have HB3 := HB2.out.keep (hk7 kb hH); have q3 := hp7.rq; have t1 := HB3.c1; have t3 := HB3.c3))
                  have H10 := hid (And.intro hp7 HB3)
                  clear hp7 hk7 HB3 q3 t1 t3 q2 u1 u3
                  go_wp2_with fail
                  go_meet
                  case rel => exact ⟨rfl, _, hid ⟨H10.out.1, H10.out.2, by have := H6.out.1.1; show v.ct ≤ _; omega, by have := HNN.out; have := H6.out.1.2; show (Qu.carveA v.l v.nxt f n).2.2.2 ≤ _; omega⟩⟩
              · have hk3' : (kd == 3) = false := by simpa using hk3
                have H9 : Hid (Pa w wA H P R v ∧ ActA wA kb kd f c n ∧ v.ct ≤ j + 1 ∧ v.nxt ≤ j + 2) := hid ⟨H5.out, H6.out.2, by have := H6.out.1.1; omega, by have := H6.out.1.2; omega⟩
                go_wp2_with fail
                go_meet
                case rel => exact ⟨rfl, v, H9⟩
      case rest =>
        as_aux_lemma =>
          obtain ⟨rfl, v', hW2⟩ := hcut
          clear H5 H6
          obtain ⟨u, n3, aF, cF, hR⟩ := hW2.out.1.reads f c n
          have HR := hid hR
          have HA := hid hW2.out.2.1
          have hd : Below wc.heap.size wc wc.drew := (Below.refl _ wc).drew
          obtain ⟨q1, q2, q3⟩ := hR.cells wc.drew hd
          have e1 := (HA.out.below hd).c1
          have HRU := hid (hR.ruse wc.drew hd)
          have HC : Hid (∀ wx : World, Below wc.heap.size wc wx → wx.cell? ⟨kb, 1, none⟩ = some (.int .i64 f) ∧ wx.cell? ⟨kb, 2, none⟩ = some (.int .i64 c) ∧ wx.cell? ⟨R.rp, 1, none⟩ = some (.pointer (some ⟨R.r, 0, none⟩)) ∧ wx.cell? ⟨R.r, 1, none⟩ = some (.slice aF n3 cF)) := hid (fun wx hb => ⟨(HA.out.below hb).c1, (HA.out.below hb).c2, (HR.out.cells wx hb).1, (HR.out.cells wx hb).2.2⟩)
          have HD := hid hd
          clear hR hd q1 q3
          go_wp2_with fail
          go_region_held3 (fun W => W.cell? ⟨R.rp, 2, none⟩ = some (.pointer (some ⟨R.rq, 0, none⟩)) ∧ W.cell? ⟨kb, 1, none⟩ = some (.int .i64 f)) (first | exact ⟨s2, s1⟩ | exact ⟨q2, e1⟩)
            (first | (go_at_call 46; refine HRU.out.mono ?_; rintro e w6 ⟨y6, rfl, hb6⟩; have hb6' := HD.out.trans (hb6.mono HD.out.size); obtain ⟨_, s2, _⟩ := HR.out.cells w6 hb6'; have s1 := (HA.out.below hb6').c1))
          have hbZ : Below wc.heap.size wc w6.drew := hb6'.drew
          obtain ⟨maZ, mbZ, mcZ, mdZ⟩ := HC.out _ hbZ
          have hcc : (costI c != costI c) = false := by simp
          have huu : (u != u) = false := by simp
          clear HRU s1 s2 q2 e1 hb6 hb6' HD
          go_wp2_with fail
          refine wp_region_held_drew (S := (fun wx => wx.cell? ⟨kb, 1, none⟩ = some (.int .i64 f) ∧ wx.cell? ⟨kb, 2, none⟩ = some (.int .i64 c) ∧ wx.cell? ⟨R.rp, 1, none⟩ = some (.pointer (some ⟨R.r, 0, none⟩)) ∧ wx.cell? ⟨R.r, 1, none⟩ = some (.slice aF n3 cF))) (by kernel_rfl) ⟨maZ, mbZ, mcZ, mdZ⟩ (fun hHeld => ?_)
          refine takeH (i := 0) (some 284) (.bool true) rfl rfl (by kernel_rfl) (by kernel_rfl) (by kernel_rfl) (fun _ _ _ h => h) (Or.inl ⟨by rfl, ?_⟩) (by assumption) ?_
          · (intro w hSw; (try dsimp only at hSw); go_simp)
          simp only [Act.put, List.setIfInBounds_toArray, List.set_cons_zero, List.set_cons_succ]
          refine takeH (i := 1) (some 285) (.bool false) rfl rfl (by kernel_rfl) (by kernel_rfl) (by kernel_rfl) (fun _ _ _ h => h) (Or.inl ⟨by rfl, ?_⟩) (by assumption) ?_
          · (intro w hSw; (try dsimp only at hSw); go_simp)
          simp only [Act.put, List.setIfInBounds_toArray, List.set_cons_zero, List.set_cons_succ]
          refine takeH (i := 2) (some 286) (.bool false) rfl rfl (by kernel_rfl) (by kernel_rfl) (by kernel_rfl) (fun _ _ _ h => h) (Or.inl ⟨by rfl, ?_⟩) (by assumption) ?_
          · (intro w hSw; (try dsimp only at hSw); go_simp)
          simp only [Act.put, List.setIfInBounds_toArray, List.set_cons_zero, List.set_cons_succ]
          refine takeH (i := 3) (some 287) (.pointer (some ⟨kb, 2, none⟩)) rfl rfl (by kernel_rfl) (by kernel_rfl) (by kernel_rfl) (fun _ _ _ h => h) (Or.inl ⟨by rfl, ?_⟩) (by assumption) ?_
          · (intro w hSw; (try dsimp only at hSw); go_simp)
          simp only [Act.put, List.setIfInBounds_toArray, List.set_cons_zero, List.set_cons_succ]
          refine takeH (i := 4) (some 288) (.int .i64 c) rfl rfl (by kernel_rfl) (by kernel_rfl) (by kernel_rfl) (fun _ _ _ h => h) (Or.inl ⟨by rfl, ?_⟩) (by assumption) ?_
          · (intro w hSw; (try dsimp only at hSw); go_simp)
          simp only [Act.put, List.setIfInBounds_toArray, List.set_cons_zero, List.set_cons_succ]
          refine takeH (i := 6) (some 290) (.pointer (some ⟨kb, 2, none⟩)) rfl rfl (by kernel_rfl) (by kernel_rfl) (by kernel_rfl) (fun _ _ _ h => h) (Or.inl ⟨by rfl, ?_⟩) (by assumption) ?_
          · (intro w hSw; (try dsimp only at hSw); go_simp)
          simp only [Act.put, List.setIfInBounds_toArray, List.set_cons_zero, List.set_cons_succ]
          refine takeH (i := 7) (some 291) (.int .i64 c) rfl rfl (by kernel_rfl) (by kernel_rfl) (by kernel_rfl) (fun _ _ _ h => h) (Or.inl ⟨by rfl, ?_⟩) (by assumption) ?_
          · (intro w hSw; (try dsimp only at hSw); go_simp)
          simp only [Act.put, List.setIfInBounds_toArray, List.set_cons_zero, List.set_cons_succ]
          refine wpAnyH_ready (rs := [5]) (by kernel_rfl) (by simp) ?_
          refine AllReadyH.cons (by simp only [List.getElem?_toArray, List.getElem?_cons_succ, List.getElem?_cons_zero]; rfl) (fun KK hK => ?_) AllReadyH.nil
          go_simp
          refine (HR.out.pcost _ hbZ).mono ?_
          rintro e wA ⟨rfl, hhA⟩
          have hbA := hbZ.trans (hhA.mono hbZ.size)
          obtain ⟨maA, mbA, mcA, mdA⟩ := HC.out wA hbA
          clear hhA
          go_wp2_with fail
          refine hK.out _ _ ⟨maA, mbA, mcA, mdA⟩ (fun hHeld => ?_)
          clear hK KK
          try simp only [Act.put, List.setIfInBounds_toArray, List.set_cons_zero, List.set_cons_succ]
          refine wpAnyH_ready (rs := [8]) (by kernel_rfl) (by simp) ?_
          refine AllReadyH.cons (by simp only [List.getElem?_toArray, List.getElem?_cons_succ, List.getElem?_cons_zero]; rfl) (fun KK hK => ?_) AllReadyH.nil
          go_simp
          refine (HR.out.rcost _ hbA).mono ?_
          rintro e wB ⟨rfl, hhB⟩
          have hbB := hbA.trans (hhB.mono hbA.size)
          obtain ⟨maB, mbB, mcB, mdB⟩ := HC.out wB hbB
          clear hhB
          go_wp2_with fail
          refine hK.out _ _ ⟨maB, mbB, mcB, mdB⟩ (fun hHeld => ?_)
          clear hK KK
          try simp only [Act.put, List.setIfInBounds_toArray, List.set_cons_zero, List.set_cons_succ]
          refine takeH (i := 9) (some 293) (.bool false) rfl rfl (by kernel_rfl) (by kernel_rfl) (by kernel_rfl) (fun _ _ _ h => h) (Or.inl ⟨by rfl, ?_⟩) (by assumption) ?_
          · (intro w hSw; (try dsimp only at hSw); go_simp)
          simp only [Act.put, List.setIfInBounds_toArray, List.set_cons_zero, List.set_cons_succ]
          refine takeH (i := 10) (some 294) (.bool false) rfl rfl (by kernel_rfl) (by kernel_rfl) (by kernel_rfl) (fun _ _ _ h => h) (Or.inl ⟨by rfl, ?_⟩) (by assumption) ?_
          · (intro w hSw; (try dsimp only at hSw); go_simp)
          simp only [Act.put, List.setIfInBounds_toArray, List.set_cons_zero, List.set_cons_succ]
          refine takeH (i := 11) (some 295) (.bool false) rfl rfl (by kernel_rfl) (by kernel_rfl) (by kernel_rfl) (fun _ _ _ h => h) (Or.inl ⟨by rfl, ?_⟩) (by assumption) ?_
          · (intro w hSw; (try dsimp only at hSw); go_simp)
          simp only [Act.put, List.setIfInBounds_toArray, List.set_cons_zero, List.set_cons_succ]
          refine takeH (i := 12) (some 296) (.pointer (some ⟨P.pb, 0, none⟩)) rfl rfl (by kernel_rfl) (by kernel_rfl) (by kernel_rfl) (fun _ _ _ h => h) (Or.inl ⟨by rfl, ?_⟩) (by assumption) ?_
          · (intro w hSw; (try dsimp only at hSw); go_simp)
          simp only [Act.put, List.setIfInBounds_toArray, List.set_cons_zero, List.set_cons_succ]
          refine takeH (i := 14) (some 298) (.pointer (some ⟨kb, 1, none⟩)) rfl rfl (by kernel_rfl) (by kernel_rfl) (by kernel_rfl) (fun _ _ _ h => h) (Or.inl ⟨by rfl, ?_⟩) (by assumption) ?_
          · (intro w hSw; (try dsimp only at hSw); go_simp)
          simp only [Act.put, List.setIfInBounds_toArray, List.set_cons_zero, List.set_cons_succ]
          refine takeH (i := 15) (some 299) (.int .i64 f) rfl rfl (by kernel_rfl) (by kernel_rfl) (by kernel_rfl) (fun _ _ _ h => h) (Or.inl ⟨by rfl, ?_⟩) (by assumption) ?_
          · (intro w hSw; (try dsimp only at hSw); go_simp)
          simp only [Act.put, List.setIfInBounds_toArray, List.set_cons_zero, List.set_cons_succ]
          refine takeH (i := 17) (some 301) (.int .i64 u) rfl rfl (by kernel_rfl) (by kernel_rfl) (by kernel_rfl) (fun _ _ _ h => h) (Or.inl ⟨by rfl, ?_⟩) (by assumption) ?_
          · (intro w hSw; (try dsimp only at hSw); go_simp)
          simp only [Act.put, List.setIfInBounds_toArray, List.set_cons_zero, List.set_cons_succ]
          refine wpAnyH_ready (rs := [13]) (by kernel_rfl) (by simp) ?_
          refine AllReadyH.cons (by simp only [List.getElem?_toArray, List.getElem?_cons_succ, List.getElem?_cons_zero]; rfl) (fun KK hK => ?_) AllReadyH.nil
          go_simp
          refine (HR.out.quota _ hbB).mono ?_
          rintro e wC ⟨rfl, hhC⟩
          have hbC := hbB.trans (hhC.mono hbB.size)
          obtain ⟨maC, mbC, mcC, mdC⟩ := HC.out wC hbC
          clear hhC
          go_wp2_with fail
          refine hK.out _ _ ⟨maC, mbC, mcC, mdC⟩ (fun hHeld => ?_)
          clear hK KK
          try simp only [Act.put, List.setIfInBounds_toArray, List.set_cons_zero, List.set_cons_succ]
          refine wpAnyH_ready (rs := [16]) (by kernel_rfl) (by simp) ?_
          refine AllReadyH.cons (by simp only [List.getElem?_toArray, List.getElem?_cons_succ, List.getElem?_cons_zero]; rfl) (fun KK hK => ?_) AllReadyH.nil
          go_simp
          refine (HR.out.use _ hbC).mono ?_
          rintro e wD ⟨rfl, hhD⟩
          have hbD := hbC.trans (hhD.mono hbC.size)
          obtain ⟨maD, mbD, mcD, mdD⟩ := HC.out wD hbD
          clear hhD
          go_wp2_with fail
          refine hK.out _ _ ⟨maD, mbD, mcD, mdD⟩ (fun hHeld => ?_)
          clear hK KK
          try simp only [Act.put, List.setIfInBounds_toArray, List.set_cons_zero, List.set_cons_succ]
          refine takeH (i := 18) (some 302) (.bool false) rfl rfl (by kernel_rfl) (by kernel_rfl) (by kernel_rfl) (fun _ _ _ h => h) (Or.inl ⟨by rfl, ?_⟩) (by assumption) ?_
          · (intro w hSw; (try dsimp only at hSw); go_simp)
          simp only [Act.put, List.setIfInBounds_toArray, List.set_cons_zero, List.set_cons_succ]
          refine takeH (i := 19) (some 303) (.bool false) rfl rfl (by kernel_rfl) (by kernel_rfl) (by kernel_rfl) (fun _ _ _ h => h) (Or.inl ⟨by rfl, ?_⟩) (by assumption) ?_
          · (intro w hSw; (try dsimp only at hSw); go_simp)
          simp only [Act.put, List.setIfInBounds_toArray, List.set_cons_zero, List.set_cons_succ]
          refine takeH (i := 20) (some 304) (.bool false) rfl rfl (by kernel_rfl) (by kernel_rfl) (by kernel_rfl) (fun _ _ _ h => h) (Or.inl ⟨by rfl, ?_⟩) (by assumption) ?_
          · (intro w hSw; (try dsimp only at hSw); go_simp)
          simp only [Act.put, List.setIfInBounds_toArray, List.set_cons_zero, List.set_cons_succ]
          refine takeH (i := 21) (some 305) (.pointer (some ⟨P.pb, 0, none⟩)) rfl rfl (by kernel_rfl) (by kernel_rfl) (by kernel_rfl) (fun _ _ _ h => h) (Or.inl ⟨by rfl, ?_⟩) (by assumption) ?_
          · (intro w hSw; (try dsimp only at hSw); go_simp)
          simp only [Act.put, List.setIfInBounds_toArray, List.set_cons_zero, List.set_cons_succ]
          refine takeH (i := 24) (some 308) (.pointer (some ⟨R.rp, 0, none⟩)) rfl rfl (by kernel_rfl) (by kernel_rfl) (by kernel_rfl) (fun _ _ _ h => h) (Or.inl ⟨by rfl, ?_⟩) (by assumption) ?_
          · (intro w hSw; (try dsimp only at hSw); go_simp)
          simp only [Act.put, List.setIfInBounds_toArray, List.set_cons_zero, List.set_cons_succ]
          refine takeH (i := 25) (some 309) (.pointer (some ⟨R.rp, 0, none⟩)) rfl rfl (by kernel_rfl) (by kernel_rfl) (by kernel_rfl) (fun _ _ _ h => h) (Or.inl ⟨by rfl, ?_⟩) (by assumption) ?_
          · (intro w hSw; (try dsimp only at hSw); go_simp)
          simp only [Act.put, List.setIfInBounds_toArray, List.set_cons_zero, List.set_cons_succ]
          refine takeH (i := 26) (some 310) (.pointer (some ⟨R.rp, 1, none⟩)) rfl rfl (by kernel_rfl) (by kernel_rfl) (by kernel_rfl) (fun _ _ _ h => h) (Or.inl ⟨by rfl, ?_⟩) (by assumption) ?_
          · (intro w hSw; (try dsimp only at hSw); go_simp)
          simp only [Act.put, List.setIfInBounds_toArray, List.set_cons_zero, List.set_cons_succ]
          refine takeH (i := 27) (some 311) (.pointer (some ⟨R.r, 0, none⟩)) rfl rfl (by kernel_rfl) (by kernel_rfl) (by kernel_rfl) (fun _ _ _ h => h) (Or.inl ⟨by rfl, ?_⟩) (by assumption) ?_
          · (intro w hSw; (try dsimp only at hSw); go_simp)
          simp only [Act.put, List.setIfInBounds_toArray, List.set_cons_zero, List.set_cons_succ]
          refine takeH (i := 28) (some 312) (.pointer (some ⟨R.r, 0, none⟩)) rfl rfl (by kernel_rfl) (by kernel_rfl) (by kernel_rfl) (fun _ _ _ h => h) (Or.inl ⟨by rfl, ?_⟩) (by assumption) ?_
          · (intro w hSw; (try dsimp only at hSw); go_simp)
          simp only [Act.put, List.setIfInBounds_toArray, List.set_cons_zero, List.set_cons_succ]
          refine takeH (i := 29) (some 313) (.pointer (some ⟨R.r, 1, none⟩)) rfl rfl (by kernel_rfl) (by kernel_rfl) (by kernel_rfl) (fun _ _ _ h => h) (Or.inl ⟨by rfl, ?_⟩) (by assumption) ?_
          · (intro w hSw; (try dsimp only at hSw); go_simp)
          simp only [Act.put, List.setIfInBounds_toArray, List.set_cons_zero, List.set_cons_succ]
          refine takeH (i := 30) (some 314) (.slice aF n3 cF) rfl rfl (by kernel_rfl) (by kernel_rfl) (by kernel_rfl) (fun _ _ _ h => h) (Or.inl ⟨by rfl, ?_⟩) (by assumption) ?_
          · (intro w hSw; (try dsimp only at hSw); go_simp)
          simp only [Act.put, List.setIfInBounds_toArray, List.set_cons_zero, List.set_cons_succ]
          refine wpAnyH_ready (rs := [22]) (by kernel_rfl) (by simp) ?_
          refine AllReadyH.cons (by simp only [List.getElem?_toArray, List.getElem?_cons_succ, List.getElem?_cons_zero]; rfl) (fun KK hK => ?_) AllReadyH.nil
          go_simp
          refine (HR.out.blocks _ hbD).mono ?_
          rintro e wE ⟨rfl, hhE⟩
          have hbE := hbD.trans (hhE.mono hbD.size)
          obtain ⟨maE, mbE, mcE, mdE⟩ := HC.out wE hbE
          clear hhE
          go_wp2_with fail
          refine hK.out _ _ ⟨maE, mbE, mcE, mdE⟩ (fun hHeld => ?_)
          clear hK KK
          try simp only [Act.put, List.setIfInBounds_toArray, List.set_cons_zero, List.set_cons_succ]
          refine wpAnyH_ready (rs := [23]) (by kernel_rfl) (by simp) ?_
          refine AllReadyH.cons (by simp only [List.getElem?_toArray, List.getElem?_cons_succ, List.getElem?_cons_zero]; rfl) (fun KK hK => ?_) AllReadyH.nil
          go_simp
          refine (HR.out.free _ hbE).mono ?_
          rintro e wG ⟨aG, kG, rfl, hhG, hsG⟩
          have hbG := hbE.trans (hhG.mono hbE.size)
          obtain ⟨maG, mbG, mcG, mdG⟩ := HC.out wG hbG
          have HSG := hid hsG
          clear hsG
          clear hhG
          go_wp2_with fail
          refine hK.out _ _ ⟨maG, mbG, mcG, mdG⟩ (fun hHeld => ?_)
          clear hK KK
          try simp only [Act.put, List.setIfInBounds_toArray, List.set_cons_zero, List.set_cons_succ]
          refine wpAnyH_ready (rs := [31]) (by kernel_rfl) (by simp) ?_
          refine AllReadyH.cons (by simp only [List.getElem?_toArray, List.getElem?_cons_succ, List.getElem?_cons_zero]; rfl) (fun KK hK => ?_) AllReadyH.nil
          go_simp
          refine (HSG.out _ (Below.refl _ _) hbG).mono ?_
          rintro e wH ⟨rfl, hhH⟩
          have hbH := hbG.trans (hhH.mono hbG.size)
          obtain ⟨maH, mbH, mcH, mdH⟩ := HC.out wH hbH
          clear HSG
          clear hhH
          go_wp2_with fail
          refine hK.out _ _ ⟨maH, mbH, mcH, mdH⟩ (fun hHeld => ?_)
          clear hK KK
          try simp only [Act.put, List.setIfInBounds_toArray, List.set_cons_zero, List.set_cons_succ]
          refine takeH (i := 32) (some 316) (.bool false) rfl rfl (by kernel_rfl) (by kernel_rfl) (by kernel_rfl) (fun _ _ _ h => h) (Or.inl ⟨by rfl, ?_⟩) (by assumption) ?_
          · (intro w hSw; (try dsimp only at hSw); go_simp)
          simp only [Act.put, List.setIfInBounds_toArray, List.set_cons_zero, List.set_cons_succ]
          refine takeH (i := 33) (some 317) (.bool false) rfl rfl (by kernel_rfl) (by kernel_rfl) (by kernel_rfl) (fun _ _ _ h => h) (Or.inl ⟨by rfl, ?_⟩) (by assumption) ?_
          · (intro w hSw; (try dsimp only at hSw); go_simp)
          simp only [Act.put, List.setIfInBounds_toArray, List.set_cons_zero, List.set_cons_succ]
          refine wpAnyH_done (by kernel_rfl) ?_ _
          clear HC
          rcases cls_or c with ⟨k, hk⟩ | hkn
          · have hcst := costI_of hk
            obtain ⟨rfl, k1, k7⟩ := id hk
            obtain ⟨n2, aU, cU, b, hK⟩ := hW2.out.1.creads (by have := hW2.out.2.2.1; omega) k1 k7 n (by omega) (by omega)
            have HK := hid hK
            have HC2 : Hid (∀ wx : World, Below wc.heap.size wc wx → wx.cell? ⟨kb, 2, none⟩ = some (.int .i64 (k : Int)) ∧ wx.cell? ⟨kb, 3, none⟩ = some (.int .i64 n) ∧ wx.cell? ⟨R.rp, 3 + k, none⟩ = some (.pointer (some ⟨R.rb k, 0, none⟩)) ∧ wx.cell? ⟨R.rb k, 3, none⟩ = some (.slice aU n2 cU)) := hid (fun wx hb => ⟨(HA.out.below hb).c2, (HA.out.below hb).c3, (HK.out.cells wx hb).1, (HK.out.cells wx hb).2⟩)
            have hz0 : (0 : Int) < costI (k : Int) := by rw [hcst]; have := cost_in k1 k7; omega
            have hk8 : (k : Int) < 8 := by omega
            have hbb : (b != b) = false := by simp
            have hbY : Below wc.heap.size wc wH.drew := hbH.drew
            obtain ⟨naY, nbY, ncY, ndY⟩ := HC2.out _ hbY
            clear hK hcst
            go_wp2_with fail
            refine wp_region_held_drew (S := (fun wx => wx.cell? ⟨kb, 2, none⟩ = some (.int .i64 (k : Int)) ∧ wx.cell? ⟨kb, 3, none⟩ = some (.int .i64 n) ∧ wx.cell? ⟨R.rp, 3 + k, none⟩ = some (.pointer (some ⟨R.rb k, 0, none⟩)) ∧ wx.cell? ⟨R.rb k, 3, none⟩ = some (.slice aU n2 cU))) (by kernel_rfl) ⟨naY, nbY, ncY, ndY⟩ (fun hHeld => ?_)
            refine takeH (i := 0) (some 318) (.pointer (some ⟨kb, 2, none⟩)) rfl rfl (by kernel_rfl) (by kernel_rfl) (by kernel_rfl) (fun _ _ _ h => h) (Or.inl ⟨by rfl, ?_⟩) (by assumption) ?_
            · (intro w hSw; (try dsimp only at hSw); go_simp)
            simp only [Act.put, List.setIfInBounds_toArray, List.set_cons_zero, List.set_cons_succ]
            refine takeH (i := 1) (some 319) (.int .i64 (k : Int)) rfl rfl (by kernel_rfl) (by kernel_rfl) (by kernel_rfl) (fun _ _ _ h => h) (Or.inl ⟨by rfl, ?_⟩) (by assumption) ?_
            · (intro w hSw; (try dsimp only at hSw); go_simp)
            simp only [Act.put, List.setIfInBounds_toArray, List.set_cons_zero, List.set_cons_succ]
            refine wpAnyH_ready (rs := [2]) (by kernel_rfl) (by simp) ?_
            refine AllReadyH.cons (by simp only [List.getElem?_toArray, List.getElem?_cons_succ, List.getElem?_cons_zero]; rfl) (fun KK hK => ?_) AllReadyH.nil
            go_simp
            refine (HR.out.rcost _ hbY).mono ?_
            rintro e wK ⟨rfl, hhK⟩
            have hbK := hbY.trans (hhK.mono hbY.size)
            obtain ⟨naK, nbK, ncK, ndK⟩ := HC2.out wK hbK
            clear hhK
            go_wp2_with fail
            refine hK.out _ _ ⟨naK, nbK, ncK, ndK⟩ (fun hHeld => ?_)
            clear hK KK
            try simp only [Act.put, List.setIfInBounds_toArray, List.set_cons_zero, List.set_cons_succ]
            refine takeH (i := 3) (some 321) (.bool true) rfl rfl (by kernel_rfl) (by kernel_rfl) (by kernel_rfl) (fun _ _ _ h => h) (Or.inl ⟨by rfl, ?_⟩) (by assumption) ?_
            · (intro w hSw; (try dsimp only at hSw); go_simp)
            simp only [Act.put, List.setIfInBounds_toArray, List.set_cons_zero, List.set_cons_succ]
            refine takeH (i := 4) (some 322) (.bool true) rfl rfl (by kernel_rfl) (by kernel_rfl) (by kernel_rfl) (fun _ _ _ h => h) (Or.inl ⟨by rfl, ?_⟩) (by assumption) ?_
            · (intro w hSw; (try dsimp only at hSw); go_simp)
            simp only [Act.put, List.setIfInBounds_toArray, List.set_cons_zero, List.set_cons_succ]
            refine takeH (i := 5) (some 323) (.pointer (some ⟨P.pb, 0, none⟩)) rfl rfl (by kernel_rfl) (by kernel_rfl) (by kernel_rfl) (fun _ _ _ h => h) (Or.inl ⟨by rfl, ?_⟩) (by assumption) ?_
            · (intro w hSw; (try dsimp only at hSw); go_simp)
            simp only [Act.put, List.setIfInBounds_toArray, List.set_cons_zero, List.set_cons_succ]
            refine takeH (i := 6) (some 324) (.pointer (some ⟨kb, 2, none⟩)) rfl rfl (by kernel_rfl) (by kernel_rfl) (by kernel_rfl) (fun _ _ _ h => h) (Or.inl ⟨by rfl, ?_⟩) (by assumption) ?_
            · (intro w hSw; (try dsimp only at hSw); go_simp)
            simp only [Act.put, List.setIfInBounds_toArray, List.set_cons_zero, List.set_cons_succ]
            refine takeH (i := 7) (some 325) (.int .i64 (k : Int)) rfl rfl (by kernel_rfl) (by kernel_rfl) (by kernel_rfl) (fun _ _ _ h => h) (Or.inl ⟨by rfl, ?_⟩) (by assumption) ?_
            · (intro w hSw; (try dsimp only at hSw); go_simp)
            simp only [Act.put, List.setIfInBounds_toArray, List.set_cons_zero, List.set_cons_succ]
            refine takeH (i := 9) (some 327) (.pointer (some ⟨R.rp, 0, none⟩)) rfl rfl (by kernel_rfl) (by kernel_rfl) (by kernel_rfl) (fun _ _ _ h => h) (Or.inl ⟨by rfl, ?_⟩) (by assumption) ?_
            · (intro w hSw; (try dsimp only at hSw); go_simp)
            simp only [Act.put, List.setIfInBounds_toArray, List.set_cons_zero, List.set_cons_succ]
            refine takeH (i := 10) (some 328) (.pointer (some ⟨kb, 2, none⟩)) rfl rfl (by kernel_rfl) (by kernel_rfl) (by kernel_rfl) (fun _ _ _ h => h) (Or.inl ⟨by rfl, ?_⟩) (by assumption) ?_
            · (intro w hSw; (try dsimp only at hSw); go_simp)
            simp only [Act.put, List.setIfInBounds_toArray, List.set_cons_zero, List.set_cons_succ]
            refine takeH (i := 11) (some 329) (.int .i64 (k : Int)) rfl rfl (by kernel_rfl) (by kernel_rfl) (by kernel_rfl) (fun _ _ _ h => h) (Or.inl ⟨by rfl, ?_⟩) (by assumption) ?_
            · (intro w hSw; (try dsimp only at hSw); go_simp)
            simp only [Act.put, List.setIfInBounds_toArray, List.set_cons_zero, List.set_cons_succ]
            refine takeH (i := 12) (some 330) (.pointer (some ⟨R.rp, 0, none⟩)) rfl rfl (by kernel_rfl) (by kernel_rfl) (by kernel_rfl) (fun _ _ _ h => h) (Or.inl ⟨by rfl, ?_⟩) (by assumption) ?_
            · (intro w hSw; (try dsimp only at hSw); go_simp)
            simp only [Act.put, List.setIfInBounds_toArray, List.set_cons_zero, List.set_cons_succ]
            refine takeH (i := 13) (some 331) (.pointer (some ⟨R.rp, 3, none⟩)) rfl rfl (by kernel_rfl) (by kernel_rfl) (by kernel_rfl) (fun _ _ _ h => h) (Or.inl ⟨by rfl, ?_⟩) (by assumption) ?_
            · (intro w hSw; (try dsimp only at hSw); go_simp)
            simp only [Act.put, List.setIfInBounds_toArray, List.set_cons_zero, List.set_cons_succ]
            refine takeH (i := 14) (some 332) (.pointer (some ⟨R.rp, 3 + k, none⟩)) rfl rfl (by kernel_rfl) (by kernel_rfl) (by kernel_rfl) (fun _ _ _ h => h) (Or.inl ⟨by rfl, ?_⟩) (by assumption) ?_
            · (intro w hSw; (try dsimp only at hSw); go_simp)
            simp only [Act.put, List.setIfInBounds_toArray, List.set_cons_zero, List.set_cons_succ]
            refine takeH (i := 15) (some 333) (.pointer (some ⟨R.rb k, 0, none⟩)) rfl rfl (by kernel_rfl) (by kernel_rfl) (by kernel_rfl) (fun _ _ _ h => h) (Or.inl ⟨by rfl, ?_⟩) (by assumption) ?_
            · (intro w hSw; (try dsimp only at hSw); go_simp)
            simp only [Act.put, List.setIfInBounds_toArray, List.set_cons_zero, List.set_cons_succ]
            refine takeH (i := 16) (some 334) (.pointer (some ⟨R.rb k, 0, none⟩)) rfl rfl (by kernel_rfl) (by kernel_rfl) (by kernel_rfl) (fun _ _ _ h => h) (Or.inl ⟨by rfl, ?_⟩) (by assumption) ?_
            · (intro w hSw; (try dsimp only at hSw); go_simp)
            simp only [Act.put, List.setIfInBounds_toArray, List.set_cons_zero, List.set_cons_succ]
            refine takeH (i := 17) (some 335) (.pointer (some ⟨R.rb k, 3, none⟩)) rfl rfl (by kernel_rfl) (by kernel_rfl) (by kernel_rfl) (fun _ _ _ h => h) (Or.inl ⟨by rfl, ?_⟩) (by assumption) ?_
            · (intro w hSw; (try dsimp only at hSw); go_simp)
            simp only [Act.put, List.setIfInBounds_toArray, List.set_cons_zero, List.set_cons_succ]
            refine takeH (i := 18) (some 336) (.slice aU n2 cU) rfl rfl (by kernel_rfl) (by kernel_rfl) (by kernel_rfl) (fun _ _ _ h => h) (Or.inl ⟨by rfl, ?_⟩) (by assumption) ?_
            · (intro w hSw; (try dsimp only at hSw); go_simp)
            simp only [Act.put, List.setIfInBounds_toArray, List.set_cons_zero, List.set_cons_succ]
            refine wpAnyH_ready (rs := [8]) (by kernel_rfl) (by simp) ?_
            refine AllReadyH.cons (by simp only [List.getElem?_toArray, List.getElem?_cons_succ, List.getElem?_cons_zero]; rfl) (fun KK hK => ?_) AllReadyH.nil
            go_simp
            refine (HK.out.used _ hbK).mono ?_
            rintro e wL ⟨aL, kL, rfl, hhL, hsL⟩
            have hbL := hbK.trans (hhL.mono hbK.size)
            obtain ⟨naL, nbL, ncL, ndL⟩ := HC2.out wL hbL
            have HSL := hid hsL
            clear hsL
            clear hhL
            go_wp2_with fail
            refine hK.out _ _ ⟨naL, nbL, ncL, ndL⟩ (fun hHeld => ?_)
            clear hK KK
            try simp only [Act.put, List.setIfInBounds_toArray, List.set_cons_zero, List.set_cons_succ]
            refine wpAnyH_ready (rs := [19]) (by kernel_rfl) (by simp) ?_
            refine AllReadyH.cons (by simp only [List.getElem?_toArray, List.getElem?_cons_succ, List.getElem?_cons_zero]; rfl) (fun KK hK => ?_) AllReadyH.nil
            go_simp
            refine (HSL.out _ (Below.refl _ _) hbL).mono ?_
            rintro e wM ⟨rfl, hhM⟩
            have hbM := hbL.trans (hhM.mono hbL.size)
            obtain ⟨naM, nbM, ncM, ndM⟩ := HC2.out wM hbM
            clear HSL
            clear hhM
            go_wp2_with fail
            refine hK.out _ _ ⟨naM, nbM, ncM, ndM⟩ (fun hHeld => ?_)
            clear hK KK
            try simp only [Act.put, List.setIfInBounds_toArray, List.set_cons_zero, List.set_cons_succ]
            refine takeH (i := 20) (some 338) (.bool false) rfl rfl (by kernel_rfl) (by kernel_rfl) (by kernel_rfl) (fun _ _ _ h => h) (Or.inl ⟨by rfl, ?_⟩) (by assumption) ?_
            · (intro w hSw; (try dsimp only at hSw); go_simp)
            simp only [Act.put, List.setIfInBounds_toArray, List.set_cons_zero, List.set_cons_succ]
            refine takeH (i := 21) (some 339) (.bool false) rfl rfl (by kernel_rfl) (by kernel_rfl) (by kernel_rfl) (fun _ _ _ h => h) (Or.inl ⟨by rfl, ?_⟩) (by assumption) ?_
            · (intro w hSw; (try dsimp only at hSw); go_simp)
            simp only [Act.put, List.setIfInBounds_toArray, List.set_cons_zero, List.set_cons_succ]
            refine takeH (i := 22) (some 340) (.pointer (some ⟨P.pb, 0, none⟩)) rfl rfl (by kernel_rfl) (by kernel_rfl) (by kernel_rfl) (fun _ _ _ h => h) (Or.inl ⟨by rfl, ?_⟩) (by assumption) ?_
            · (intro w hSw; (try dsimp only at hSw); go_simp)
            simp only [Act.put, List.setIfInBounds_toArray, List.set_cons_zero, List.set_cons_succ]
            refine takeH (i := 23) (some 341) (.pointer (some ⟨kb, 2, none⟩)) rfl rfl (by kernel_rfl) (by kernel_rfl) (by kernel_rfl) (fun _ _ _ h => h) (Or.inl ⟨by rfl, ?_⟩) (by assumption) ?_
            · (intro w hSw; (try dsimp only at hSw); go_simp)
            simp only [Act.put, List.setIfInBounds_toArray, List.set_cons_zero, List.set_cons_succ]
            refine takeH (i := 24) (some 342) (.int .i64 (k : Int)) rfl rfl (by kernel_rfl) (by kernel_rfl) (by kernel_rfl) (fun _ _ _ h => h) (Or.inl ⟨by rfl, ?_⟩) (by assumption) ?_
            · (intro w hSw; (try dsimp only at hSw); go_simp)
            simp only [Act.put, List.setIfInBounds_toArray, List.set_cons_zero, List.set_cons_succ]
            refine takeH (i := 25) (some 343) (.pointer (some ⟨kb, 3, none⟩)) rfl rfl (by kernel_rfl) (by kernel_rfl) (by kernel_rfl) (fun _ _ _ h => h) (Or.inl ⟨by rfl, ?_⟩) (by assumption) ?_
            · (intro w hSw; (try dsimp only at hSw); go_simp)
            simp only [Act.put, List.setIfInBounds_toArray, List.set_cons_zero, List.set_cons_succ]
            refine takeH (i := 26) (some 344) (.int .i64 n) rfl rfl (by kernel_rfl) (by kernel_rfl) (by kernel_rfl) (fun _ _ _ h => h) (Or.inl ⟨by rfl, ?_⟩) (by assumption) ?_
            · (intro w hSw; (try dsimp only at hSw); go_simp)
            simp only [Act.put, List.setIfInBounds_toArray, List.set_cons_zero, List.set_cons_succ]
            refine takeH (i := 28) (some 346) (.pointer (some ⟨R.rp, 0, none⟩)) rfl rfl (by kernel_rfl) (by kernel_rfl) (by kernel_rfl) (fun _ _ _ h => h) (Or.inl ⟨by rfl, ?_⟩) (by assumption) ?_
            · (intro w hSw; (try dsimp only at hSw); go_simp)
            simp only [Act.put, List.setIfInBounds_toArray, List.set_cons_zero, List.set_cons_succ]
            refine takeH (i := 29) (some 347) (.pointer (some ⟨kb, 2, none⟩)) rfl rfl (by kernel_rfl) (by kernel_rfl) (by kernel_rfl) (fun _ _ _ h => h) (Or.inl ⟨by rfl, ?_⟩) (by assumption) ?_
            · (intro w hSw; (try dsimp only at hSw); go_simp)
            simp only [Act.put, List.setIfInBounds_toArray, List.set_cons_zero, List.set_cons_succ]
            refine takeH (i := 30) (some 348) (.int .i64 (k : Int)) rfl rfl (by kernel_rfl) (by kernel_rfl) (by kernel_rfl) (fun _ _ _ h => h) (Or.inl ⟨by rfl, ?_⟩) (by assumption) ?_
            · (intro w hSw; (try dsimp only at hSw); go_simp)
            simp only [Act.put, List.setIfInBounds_toArray, List.set_cons_zero, List.set_cons_succ]
            refine takeH (i := 31) (some 349) (.pointer (some ⟨R.rp, 0, none⟩)) rfl rfl (by kernel_rfl) (by kernel_rfl) (by kernel_rfl) (fun _ _ _ h => h) (Or.inl ⟨by rfl, ?_⟩) (by assumption) ?_
            · (intro w hSw; (try dsimp only at hSw); go_simp)
            simp only [Act.put, List.setIfInBounds_toArray, List.set_cons_zero, List.set_cons_succ]
            refine takeH (i := 32) (some 350) (.pointer (some ⟨R.rp, 3, none⟩)) rfl rfl (by kernel_rfl) (by kernel_rfl) (by kernel_rfl) (fun _ _ _ h => h) (Or.inl ⟨by rfl, ?_⟩) (by assumption) ?_
            · (intro w hSw; (try dsimp only at hSw); go_simp)
            simp only [Act.put, List.setIfInBounds_toArray, List.set_cons_zero, List.set_cons_succ]
            refine takeH (i := 33) (some 351) (.pointer (some ⟨R.rp, 3 + k, none⟩)) rfl rfl (by kernel_rfl) (by kernel_rfl) (by kernel_rfl) (fun _ _ _ h => h) (Or.inl ⟨by rfl, ?_⟩) (by assumption) ?_
            · (intro w hSw; (try dsimp only at hSw); go_simp)
            simp only [Act.put, List.setIfInBounds_toArray, List.set_cons_zero, List.set_cons_succ]
            refine takeH (i := 34) (some 352) (.pointer (some ⟨R.rb k, 0, none⟩)) rfl rfl (by kernel_rfl) (by kernel_rfl) (by kernel_rfl) (fun _ _ _ h => h) (Or.inl ⟨by rfl, ?_⟩) (by assumption) ?_
            · (intro w hSw; (try dsimp only at hSw); go_simp)
            simp only [Act.put, List.setIfInBounds_toArray, List.set_cons_zero, List.set_cons_succ]
            refine takeH (i := 35) (some 353) (.pointer (some ⟨kb, 3, none⟩)) rfl rfl (by kernel_rfl) (by kernel_rfl) (by kernel_rfl) (fun _ _ _ h => h) (Or.inl ⟨by rfl, ?_⟩) (by assumption) ?_
            · (intro w hSw; (try dsimp only at hSw); go_simp)
            simp only [Act.put, List.setIfInBounds_toArray, List.set_cons_zero, List.set_cons_succ]
            refine takeH (i := 36) (some 354) (.int .i64 n) rfl rfl (by kernel_rfl) (by kernel_rfl) (by kernel_rfl) (fun _ _ _ h => h) (Or.inl ⟨by rfl, ?_⟩) (by assumption) ?_
            · (intro w hSw; (try dsimp only at hSw); go_simp)
            simp only [Act.put, List.setIfInBounds_toArray, List.set_cons_zero, List.set_cons_succ]
            refine wpAnyH_ready (rs := [27]) (by kernel_rfl) (by simp) ?_
            refine AllReadyH.cons (by simp only [List.getElem?_toArray, List.getElem?_cons_succ, List.getElem?_cons_zero]; rfl) (fun KK hK => ?_) AllReadyH.nil
            go_simp
            refine (HK.out.has1 _ hbM).mono ?_
            rintro e wN ⟨rfl, hhN⟩
            have hbN := hbM.trans (hhN.mono hbM.size)
            obtain ⟨naN, nbN, ncN, ndN⟩ := HC2.out wN hbN
            clear hhN
            go_wp2_with fail
            refine hK.out _ _ ⟨naN, nbN, ncN, ndN⟩ (fun hHeld => ?_)
            clear hK KK
            try simp only [Act.put, List.setIfInBounds_toArray, List.set_cons_zero, List.set_cons_succ]
            refine wpAnyH_ready (rs := [37]) (by kernel_rfl) (by simp) ?_
            refine AllReadyH.cons (by simp only [List.getElem?_toArray, List.getElem?_cons_succ, List.getElem?_cons_zero]; rfl) (fun KK hK => ?_) AllReadyH.nil
            go_simp
            refine (HK.out.has2 _ hbN).mono ?_
            rintro e wO ⟨rfl, hhO⟩
            have hbO := hbN.trans (hhO.mono hbN.size)
            obtain ⟨naO, nbO, ncO, ndO⟩ := HC2.out wO hbO
            clear hhO
            go_wp2_with fail
            refine hK.out _ _ ⟨naO, nbO, ncO, ndO⟩ (fun hHeld => ?_)
            clear hK KK
            try simp only [Act.put, List.setIfInBounds_toArray, List.set_cons_zero, List.set_cons_succ]
            refine takeH (i := 38) (some 356) (.bool false) rfl rfl (by kernel_rfl) (by kernel_rfl) (by kernel_rfl) (fun _ _ _ h => h) (Or.inl ⟨by rfl, ?_⟩) (by assumption) ?_
            · (intro w hSw; (try dsimp only at hSw); go_simp)
            simp only [Act.put, List.setIfInBounds_toArray, List.set_cons_zero, List.set_cons_succ]
            refine takeH (i := 39) (some 357) (.bool false) rfl rfl (by kernel_rfl) (by kernel_rfl) (by kernel_rfl) (fun _ _ _ h => h) (Or.inl ⟨by rfl, ?_⟩) (by assumption) ?_
            · (intro w hSw; (try dsimp only at hSw); go_simp)
            simp only [Act.put, List.setIfInBounds_toArray, List.set_cons_zero, List.set_cons_succ]
            refine takeH (i := 40) (some 358) (.bool false) rfl rfl (by kernel_rfl) (by kernel_rfl) (by kernel_rfl) (fun _ _ _ h => h) (Or.inl ⟨by rfl, ?_⟩) (by assumption) ?_
            · (intro w hSw; (try dsimp only at hSw); go_simp)
            simp only [Act.put, List.setIfInBounds_toArray, List.set_cons_zero, List.set_cons_succ]
            refine wpAnyH_done (by kernel_rfl) ?_ _
            have H9 := hid ((hW2.out.1.below hbO).drop)
            clear HR HC2 HK
            go_wp2_with fail
            exact ⟨⟨j + 1, v', by omega, by go_num, H9.out, hW2.out.2.2.1, hW2.out.2.2.2⟩, by simp [intOf]; omega⟩
          · have hcst : costI c = 0 := by unfold costI; rw [if_neg hkn]
            have HC2 : Hid (∀ wx : World, Below wc.heap.size wc wx → wx.cell? ⟨kb, 2, none⟩ = some (.int .i64 c) ∧ wx.cell? ⟨kb, 3, none⟩ = some (.int .i64 n)) := hid (fun wx hb => ⟨(HA.out.below hb).c2, (HA.out.below hb).c3⟩)
            have hz0 : ¬ (0 : Int) < costI c := by rw [hcst]; omega
            have hbY : Below wc.heap.size wc wH.drew := hbH.drew
            obtain ⟨naY, nbY⟩ := HC2.out _ hbY
            clear hcst
            go_wp2_with fail
            refine wp_region_held_drew (S := (fun wx => wx.cell? ⟨kb, 2, none⟩ = some (.int .i64 c) ∧ wx.cell? ⟨kb, 3, none⟩ = some (.int .i64 n))) (by kernel_rfl) ⟨naY, nbY⟩ (fun hHeld => ?_)
            refine takeH (i := 0) (some 318) (.pointer (some ⟨kb, 2, none⟩)) rfl rfl (by kernel_rfl) (by kernel_rfl) (by kernel_rfl) (fun _ _ _ h => h) (Or.inl ⟨by rfl, ?_⟩) (by assumption) ?_
            · (intro w hSw; (try dsimp only at hSw); go_simp)
            simp only [Act.put, List.setIfInBounds_toArray, List.set_cons_zero, List.set_cons_succ]
            refine takeH (i := 1) (some 319) (.int .i64 c) rfl rfl (by kernel_rfl) (by kernel_rfl) (by kernel_rfl) (fun _ _ _ h => h) (Or.inl ⟨by rfl, ?_⟩) (by assumption) ?_
            · (intro w hSw; (try dsimp only at hSw); go_simp)
            simp only [Act.put, List.setIfInBounds_toArray, List.set_cons_zero, List.set_cons_succ]
            refine wpAnyH_ready (rs := [2]) (by kernel_rfl) (by simp) ?_
            refine AllReadyH.cons (by simp only [List.getElem?_toArray, List.getElem?_cons_succ, List.getElem?_cons_zero]; rfl) (fun KK hK => ?_) AllReadyH.nil
            go_simp
            refine (HR.out.rcost _ hbY).mono ?_
            rintro e wK ⟨rfl, hhK⟩
            have hbK := hbY.trans (hhK.mono hbY.size)
            obtain ⟨naK, nbK⟩ := HC2.out wK hbK
            clear hhK
            go_wp2_with fail
            refine hK.out _ _ ⟨naK, nbK⟩ (fun hHeld => ?_)
            clear hK KK
            try simp only [Act.put, List.setIfInBounds_toArray, List.set_cons_zero, List.set_cons_succ]
            refine takeH (i := 3) (some 321) (.bool false) rfl rfl (by kernel_rfl) (by kernel_rfl) (by kernel_rfl) (fun _ _ _ h => h) (Or.inl ⟨by rfl, ?_⟩) (by assumption) ?_
            · (intro w hSw; (try dsimp only at hSw); go_simp)
            simp only [Act.put, List.setIfInBounds_toArray, List.set_cons_zero, List.set_cons_succ]
            refine takeH (i := 4) (some 322) (.bool false) rfl rfl (by kernel_rfl) (by kernel_rfl) (by kernel_rfl) (fun _ _ _ h => h) (Or.inl ⟨by rfl, ?_⟩) (by assumption) ?_
            · (intro w hSw; (try dsimp only at hSw); go_simp)
            simp only [Act.put, List.setIfInBounds_toArray, List.set_cons_zero, List.set_cons_succ]
            refine takeH (i := 5) (some 323) undef rfl rfl (by kernel_rfl) (by kernel_rfl) (by kernel_rfl) (fun _ _ _ h => h) (Or.inr ⟨by rfl, rfl⟩) (by assumption) ?_
            simp only [Act.put, List.setIfInBounds_toArray, List.set_cons_zero, List.set_cons_succ]
            refine takeH (i := 6) (some 324) undef rfl rfl (by kernel_rfl) (by kernel_rfl) (by kernel_rfl) (fun _ _ _ h => h) (Or.inr ⟨by rfl, rfl⟩) (by assumption) ?_
            simp only [Act.put, List.setIfInBounds_toArray, List.set_cons_zero, List.set_cons_succ]
            refine takeH (i := 7) (some 325) undef rfl rfl (by kernel_rfl) (by kernel_rfl) (by kernel_rfl) (fun _ _ _ h => h) (Or.inr ⟨by rfl, rfl⟩) (by assumption) ?_
            simp only [Act.put, List.setIfInBounds_toArray, List.set_cons_zero, List.set_cons_succ]
            refine takeH (i := 8) (some 326) undef rfl rfl (by kernel_rfl) (by kernel_rfl) (by kernel_rfl) (fun _ _ _ h => h) (Or.inr ⟨by rfl, rfl⟩) (by assumption) ?_
            simp only [Act.put, List.setIfInBounds_toArray, List.set_cons_zero, List.set_cons_succ]
            refine takeH (i := 9) (some 327) undef rfl rfl (by kernel_rfl) (by kernel_rfl) (by kernel_rfl) (fun _ _ _ h => h) (Or.inr ⟨by rfl, rfl⟩) (by assumption) ?_
            simp only [Act.put, List.setIfInBounds_toArray, List.set_cons_zero, List.set_cons_succ]
            refine takeH (i := 10) (some 328) undef rfl rfl (by kernel_rfl) (by kernel_rfl) (by kernel_rfl) (fun _ _ _ h => h) (Or.inr ⟨by rfl, rfl⟩) (by assumption) ?_
            simp only [Act.put, List.setIfInBounds_toArray, List.set_cons_zero, List.set_cons_succ]
            refine takeH (i := 11) (some 329) undef rfl rfl (by kernel_rfl) (by kernel_rfl) (by kernel_rfl) (fun _ _ _ h => h) (Or.inr ⟨by rfl, rfl⟩) (by assumption) ?_
            simp only [Act.put, List.setIfInBounds_toArray, List.set_cons_zero, List.set_cons_succ]
            refine takeH (i := 12) (some 330) undef rfl rfl (by kernel_rfl) (by kernel_rfl) (by kernel_rfl) (fun _ _ _ h => h) (Or.inr ⟨by rfl, rfl⟩) (by assumption) ?_
            simp only [Act.put, List.setIfInBounds_toArray, List.set_cons_zero, List.set_cons_succ]
            refine takeH (i := 13) (some 331) undef rfl rfl (by kernel_rfl) (by kernel_rfl) (by kernel_rfl) (fun _ _ _ h => h) (Or.inr ⟨by rfl, rfl⟩) (by assumption) ?_
            simp only [Act.put, List.setIfInBounds_toArray, List.set_cons_zero, List.set_cons_succ]
            refine takeH (i := 14) (some 332) undef rfl rfl (by kernel_rfl) (by kernel_rfl) (by kernel_rfl) (fun _ _ _ h => h) (Or.inr ⟨by rfl, rfl⟩) (by assumption) ?_
            simp only [Act.put, List.setIfInBounds_toArray, List.set_cons_zero, List.set_cons_succ]
            refine takeH (i := 15) (some 333) undef rfl rfl (by kernel_rfl) (by kernel_rfl) (by kernel_rfl) (fun _ _ _ h => h) (Or.inr ⟨by rfl, rfl⟩) (by assumption) ?_
            simp only [Act.put, List.setIfInBounds_toArray, List.set_cons_zero, List.set_cons_succ]
            refine takeH (i := 16) (some 334) undef rfl rfl (by kernel_rfl) (by kernel_rfl) (by kernel_rfl) (fun _ _ _ h => h) (Or.inr ⟨by rfl, rfl⟩) (by assumption) ?_
            simp only [Act.put, List.setIfInBounds_toArray, List.set_cons_zero, List.set_cons_succ]
            refine takeH (i := 17) (some 335) undef rfl rfl (by kernel_rfl) (by kernel_rfl) (by kernel_rfl) (fun _ _ _ h => h) (Or.inr ⟨by rfl, rfl⟩) (by assumption) ?_
            simp only [Act.put, List.setIfInBounds_toArray, List.set_cons_zero, List.set_cons_succ]
            refine takeH (i := 18) (some 336) undef rfl rfl (by kernel_rfl) (by kernel_rfl) (by kernel_rfl) (fun _ _ _ h => h) (Or.inr ⟨by rfl, rfl⟩) (by assumption) ?_
            simp only [Act.put, List.setIfInBounds_toArray, List.set_cons_zero, List.set_cons_succ]
            refine takeH (i := 19) (some 337) undef rfl rfl (by kernel_rfl) (by kernel_rfl) (by kernel_rfl) (fun _ _ _ h => h) (Or.inr ⟨by rfl, rfl⟩) (by assumption) ?_
            simp only [Act.put, List.setIfInBounds_toArray, List.set_cons_zero, List.set_cons_succ]
            refine takeH (i := 20) (some 338) undef rfl rfl (by kernel_rfl) (by kernel_rfl) (by kernel_rfl) (fun _ _ _ h => h) (Or.inr ⟨by rfl, rfl⟩) (by assumption) ?_
            simp only [Act.put, List.setIfInBounds_toArray, List.set_cons_zero, List.set_cons_succ]
            refine takeH (i := 21) (some 339) undef rfl rfl (by kernel_rfl) (by kernel_rfl) (by kernel_rfl) (fun _ _ _ h => h) (Or.inr ⟨by rfl, rfl⟩) (by assumption) ?_
            simp only [Act.put, List.setIfInBounds_toArray, List.set_cons_zero, List.set_cons_succ]
            refine takeH (i := 22) (some 340) undef rfl rfl (by kernel_rfl) (by kernel_rfl) (by kernel_rfl) (fun _ _ _ h => h) (Or.inr ⟨by rfl, rfl⟩) (by assumption) ?_
            simp only [Act.put, List.setIfInBounds_toArray, List.set_cons_zero, List.set_cons_succ]
            refine takeH (i := 23) (some 341) undef rfl rfl (by kernel_rfl) (by kernel_rfl) (by kernel_rfl) (fun _ _ _ h => h) (Or.inr ⟨by rfl, rfl⟩) (by assumption) ?_
            simp only [Act.put, List.setIfInBounds_toArray, List.set_cons_zero, List.set_cons_succ]
            refine takeH (i := 24) (some 342) undef rfl rfl (by kernel_rfl) (by kernel_rfl) (by kernel_rfl) (fun _ _ _ h => h) (Or.inr ⟨by rfl, rfl⟩) (by assumption) ?_
            simp only [Act.put, List.setIfInBounds_toArray, List.set_cons_zero, List.set_cons_succ]
            refine takeH (i := 25) (some 343) undef rfl rfl (by kernel_rfl) (by kernel_rfl) (by kernel_rfl) (fun _ _ _ h => h) (Or.inr ⟨by rfl, rfl⟩) (by assumption) ?_
            simp only [Act.put, List.setIfInBounds_toArray, List.set_cons_zero, List.set_cons_succ]
            refine takeH (i := 26) (some 344) undef rfl rfl (by kernel_rfl) (by kernel_rfl) (by kernel_rfl) (fun _ _ _ h => h) (Or.inr ⟨by rfl, rfl⟩) (by assumption) ?_
            simp only [Act.put, List.setIfInBounds_toArray, List.set_cons_zero, List.set_cons_succ]
            refine takeH (i := 27) (some 345) undef rfl rfl (by kernel_rfl) (by kernel_rfl) (by kernel_rfl) (fun _ _ _ h => h) (Or.inr ⟨by rfl, rfl⟩) (by assumption) ?_
            simp only [Act.put, List.setIfInBounds_toArray, List.set_cons_zero, List.set_cons_succ]
            refine takeH (i := 28) (some 346) undef rfl rfl (by kernel_rfl) (by kernel_rfl) (by kernel_rfl) (fun _ _ _ h => h) (Or.inr ⟨by rfl, rfl⟩) (by assumption) ?_
            simp only [Act.put, List.setIfInBounds_toArray, List.set_cons_zero, List.set_cons_succ]
            refine takeH (i := 29) (some 347) undef rfl rfl (by kernel_rfl) (by kernel_rfl) (by kernel_rfl) (fun _ _ _ h => h) (Or.inr ⟨by rfl, rfl⟩) (by assumption) ?_
            simp only [Act.put, List.setIfInBounds_toArray, List.set_cons_zero, List.set_cons_succ]
            refine takeH (i := 30) (some 348) undef rfl rfl (by kernel_rfl) (by kernel_rfl) (by kernel_rfl) (fun _ _ _ h => h) (Or.inr ⟨by rfl, rfl⟩) (by assumption) ?_
            simp only [Act.put, List.setIfInBounds_toArray, List.set_cons_zero, List.set_cons_succ]
            refine takeH (i := 31) (some 349) undef rfl rfl (by kernel_rfl) (by kernel_rfl) (by kernel_rfl) (fun _ _ _ h => h) (Or.inr ⟨by rfl, rfl⟩) (by assumption) ?_
            simp only [Act.put, List.setIfInBounds_toArray, List.set_cons_zero, List.set_cons_succ]
            refine takeH (i := 32) (some 350) undef rfl rfl (by kernel_rfl) (by kernel_rfl) (by kernel_rfl) (fun _ _ _ h => h) (Or.inr ⟨by rfl, rfl⟩) (by assumption) ?_
            simp only [Act.put, List.setIfInBounds_toArray, List.set_cons_zero, List.set_cons_succ]
            refine takeH (i := 33) (some 351) undef rfl rfl (by kernel_rfl) (by kernel_rfl) (by kernel_rfl) (fun _ _ _ h => h) (Or.inr ⟨by rfl, rfl⟩) (by assumption) ?_
            simp only [Act.put, List.setIfInBounds_toArray, List.set_cons_zero, List.set_cons_succ]
            refine takeH (i := 34) (some 352) undef rfl rfl (by kernel_rfl) (by kernel_rfl) (by kernel_rfl) (fun _ _ _ h => h) (Or.inr ⟨by rfl, rfl⟩) (by assumption) ?_
            simp only [Act.put, List.setIfInBounds_toArray, List.set_cons_zero, List.set_cons_succ]
            refine takeH (i := 35) (some 353) undef rfl rfl (by kernel_rfl) (by kernel_rfl) (by kernel_rfl) (fun _ _ _ h => h) (Or.inr ⟨by rfl, rfl⟩) (by assumption) ?_
            simp only [Act.put, List.setIfInBounds_toArray, List.set_cons_zero, List.set_cons_succ]
            refine takeH (i := 36) (some 354) undef rfl rfl (by kernel_rfl) (by kernel_rfl) (by kernel_rfl) (fun _ _ _ h => h) (Or.inr ⟨by rfl, rfl⟩) (by assumption) ?_
            simp only [Act.put, List.setIfInBounds_toArray, List.set_cons_zero, List.set_cons_succ]
            refine takeH (i := 37) (some 355) undef rfl rfl (by kernel_rfl) (by kernel_rfl) (by kernel_rfl) (fun _ _ _ h => h) (Or.inr ⟨by rfl, rfl⟩) (by assumption) ?_
            simp only [Act.put, List.setIfInBounds_toArray, List.set_cons_zero, List.set_cons_succ]
            refine takeH (i := 38) (some 356) undef rfl rfl (by kernel_rfl) (by kernel_rfl) (by kernel_rfl) (fun _ _ _ h => h) (Or.inr ⟨by rfl, rfl⟩) (by assumption) ?_
            simp only [Act.put, List.setIfInBounds_toArray, List.set_cons_zero, List.set_cons_succ]
            refine takeH (i := 39) (some 357) undef rfl rfl (by kernel_rfl) (by kernel_rfl) (by kernel_rfl) (fun _ _ _ h => h) (Or.inr ⟨by rfl, rfl⟩) (by assumption) ?_
            simp only [Act.put, List.setIfInBounds_toArray, List.set_cons_zero, List.set_cons_succ]
            refine takeH (i := 40) (some 358) (.bool false) rfl rfl (by kernel_rfl) (by kernel_rfl) (by kernel_rfl) (fun _ _ _ h => h) (Or.inl ⟨by rfl, ?_⟩) (by assumption) ?_
            · (intro w hSw; (try dsimp only at hSw); go_simp)
            simp only [Act.put, List.setIfInBounds_toArray, List.set_cons_zero, List.set_cons_succ]
            refine wpAnyH_done (by kernel_rfl) ?_ _
            have H9 := hid ((hW2.out.1.below hbK).drop)
            clear HR HC2
            go_wp2_with fail
            exact ⟨⟨j + 1, v', by omega, by go_num, H9.out, hW2.out.2.2.1, hW2.out.2.2.2⟩, by simp [intOf]; omega⟩
    · obtain rfl : j = len := by omega
      have hB := hid hW.out.1.b0
      go_wp2_with fail
      go_ret
      exact ⟨rfl, hB.out⟩
end Go.Proofs.YtdmnemgooagehaaGreatDoor.poolActs
