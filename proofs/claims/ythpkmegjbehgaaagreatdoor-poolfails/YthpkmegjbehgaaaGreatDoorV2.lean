/- PoolFails: the walk. -/
import Derived.Test.YthpkmegjbehgaaaGreatDoorV1
namespace Go.Proofs.YthpkmegjbehgaaaGreatDoor
open Go.RowKit Go.Maps

set_option maxRecDepth 100000 in
set_option maxHeartbeats 8000000 in
theorem pfails_core (w : World) (hT : Tab w) (hC : Cst w) (N : Nat) (hN : N < 65536) (a : Option Addr) (len cap : Nat) (hA : Acts6 w a len) (fy cy xy : Int) (hx : (Lit.int .i64 xy).wf = true) :
    Calls Tryz.prog 5 #[.int .u16 (N : Int), .slice a len cap, .int .i64 fy, .int .i64 cy, .int .i64 xy] w fun e w' => e = .returned (.bool true) ∧ Below w.heap.size w w' := by
  have hxb := bounds_i64 hx
  have HXB := hid hxb
  have HT := hid (And.intro hT (And.intro hC hA))
  clear hT hC hA hx hxb
  go_enter Tryz.func5, Tryz.ntmps5
  go_wp2_with fail
  refine (alive6 w HT.out.1 HT.out.2.1).mono ?_
  rintro e w1 ⟨rfl, hb1⟩
  have H1 := hid (And.intro hb1 (And.intro (HT.out.1.below hb1 HT.out.1.pos) (HT.out.2.1.below hb1)))
  clear hb1
  by_cases h100 : 100 < len
  · go_wp2_with fail
    go_ret
    exact ⟨rfl, H1.out.1⟩
  have HNW := hid (show Calls Tryz.prog 8 #[.int .i64 65536, .int .i64 (N : Int)] w1 _ from Pw.new (w0 := w) (G := fun _ => False) 6 N H1.out.2.1 H1.out.2.2 (by decide) (by omega) (by decide) H1.out.1 (fun x h => h.elim))
  go_wp2_with fail
  refine HNW.out.mono ?_
  rintro e w2 ⟨P, rfl, _, _, h2, _⟩
  have H2 := hid h2
  clear h2 HNW H1
  go_wp2_with fail
  go_loopw [12] (fun t wr => ∃ (i : Nat) (v : Pv), t = .int .i64 (i : Int) ∧ i ≤ len ∧ Hid (Pw w wr (fun _ => False) P v ∧ v.ct ≤ i ∧ v.nxt ≤ i + 1)) (fun t _ => len - (intOf t).toNat)
  case atStart => exact ⟨0, v0 6 N, rfl, Nat.zero_le _, H2.out, Nat.le_refl _, Nat.le_refl _⟩
  case round =>
    obtain ⟨i, v, rfl, hi, HR⟩ := hrel
    clear H2
    by_cases hin : i = len
    · subst hin
      rename World => we
      have hct : v.ct ≤ 100 := by have := HR.out.2.1; omega
      have hfew := HR.out.1.qinv.few
      have HI := hid HR.out.1.qinv
      go_wp2_with (go_at_call 16; refine HR.out.1.blocks.mono ?_; rintro e wx ⟨rfl, ex⟩; rw [ex]; clear ex wx)
      refine HR.out.1.free.mono ?_
      rintro e w3 ⟨fa, fcap, L, rfl, hL, hLl, hRd, hb3⟩
      have H3 := hid (And.intro (HR.out.1.below hb3) (And.intro hb3 (And.intro hRd (And.intro hL hLl))))
      clear hL hLl hRd hb3
      go_wp2_with (go_at_call 13; refine H3.out.1.quota.mono ?_; rintro e wx ⟨rfl, ex⟩; rw [ex]; clear ex wx)
      refine H3.out.1.ids.mono ?_
      rintro e w4 ⟨u, rfl, hrow, hb4⟩
      obtain ⟨ia, icap, rfl, hic⟩ := Qu.row_cells hrow
      rw [List.length_map]
      obtain ⟨n, hn⟩ : ∃ n, n = v.l.length := ⟨_, rfl⟩
      rw [← hn]
      rw [← hn] at hfew
      have H4 := hid (And.intro (H3.out.1.below hb4) (And.intro hb4 (And.intro hrow hn)))
      clear hrow hb4 hn hic
      obtain ⟨i0, hi0, hz0, hz1, hz2⟩ := info_parts Qu.info3
      have HIF := hid (And.intro hi0 (And.intro hz0 (And.intro hz1 hz2)))
      clear hi0 hz0 hz1 hz2
      go_wp2_with fail
      go_loopw [15, 16] (fun s t wq => ∃ k : Nat, k ≤ n ∧ t = .int .i64 (k : Int) ∧ Hid (wq.ownsRow w4.heap.size 3 1 s ((usesL v.l).take k).length (Qu.nats ((usesL v.l).take k)) ∧ Below w4.heap.size w4 wq)) (fun _ t _ => n - (intOf t).toNat)
      case atStart => exact ⟨0, Nat.zero_le _, rfl, World.ownsRow_nil _ _ _ _, Below.refl _ _⟩
      case round =>
        obtain ⟨k, hk, rfl, HO⟩ := hrel
        by_cases hkn : k = n
        · obtain rfl : n = k := hkn.symm
          have hO := HO.out.1
          have hul : (usesL v.l).length = n := by rw [usesL_len, H4.out.2.2.2]
          rw [List.take_of_length_le (by omega)] at hO
          rw [hul] at hO
          obtain ⟨ua, ucap, rfl, _⟩ := Qu.row_cells hO
          have hb5 : Below we.heap.size we wr := (H3.out.2.1.trans (H4.out.2.1.mono H3.out.2.1.size)).trans (HO.out.2.mono (Nat.le_trans H3.out.2.1.size H4.out.2.1.size))
          have hp5 := (HR.out.1.plus hb5).fewer (G' := fun x => we.heap.size ≤ x ∧ x < wr.heap.size) (fun x hx => .inr hx)
          have s3 := H3.out.2.1.size
          have s4 := H4.out.2.1.size
          have s5 := HO.out.2.size
          have hrd5 : Rd wr we.heap.size fa L := H3.out.2.2.1.block (by omega) (fun g hg hgl => (HO.out.2.block g (by omega)).trans (H4.out.2.1.block g hgl))
          have H5 := hid (And.intro hp5 (And.intro hrd5 (And.intro (H4.out.2.2.1.bel HO.out.2 (Nat.le_refl _)) hO)))
          have HS5 := hid (show w3.heap.size ≤ wr.heap.size ∧ w4.heap.size ≤ wr.heap.size ∧ we.heap.size ≤ w3.heap.size ∧ w3.heap.size ≤ w4.heap.size from ⟨by omega, by omega, s3, s4⟩)
          have HLs := hid (And.intro H3.out.2.2.2.1 H3.out.2.2.2.2)
          have HLI := hid H4.out.2.2.2
          clear hO HO hb5 hp5 s3 s4 s5 hrd5 hul
          go_wp2_with fail
          refine (H5.out.1.get (by omega) fy cy).mono ?_
          rintro e w6 ⟨hk6, ⟨er, rfl, h0, hno, h6⟩ | ⟨kk, q, i', B', U', hkc, rfl, hg, h6⟩⟩
          · have h0' : (er == 0) = false := by rw [beq_eq_false_iff_ne]; exact h0
            have H6 := hid h6
            have HK6 := hid hk6
            clear hk6 h0 hno h6
            go_wp2_with fail
            refine (H6.out.put fy cy xy HXB.out.1 (by have := HXB.out.2; omega)).mono ?_
            rintro e w7 ⟨hk7, ⟨er2, rfl, h02, _, h7⟩ | ⟨kk, q, i', B', hkc, rfl, hg, h7⟩⟩
            · have h02' : (er2 == 0) = false := by rw [beq_eq_false_iff_ne]; exact h02
              have hkeep : ∀ x, we.heap.size ≤ x → x < wr.heap.size → w7.heap[x]? = wr.heap[x]? := fun x h1 h2 => (hk7 x ⟨h1, h2⟩).trans (HK6.out x ⟨h1, h2⟩)
              have hi7 := H5.out.2.2.1.other (w' := w7) (fun g hg => hkeep g (by have := Qu.own_block H5.out.2.2.1 g hg; have := HS5.out; omega) (Qu.own_block H5.out.2.2.1 g hg).2)
              have hu7 := H5.out.2.2.2.other (w' := w7) (fun g hg => hkeep g (by have := Qu.own_block H5.out.2.2.2 g hg; have := HS5.out; omega) (Qu.own_block H5.out.2.2.2 g hg).2)
              have hrd7 : Rd w7 we.heap.size fa L := H5.out.2.1.kept (fun g hg hgl => hkeep g hg hgl)
              have H7 := hid (And.intro h7 (And.intro hi7 (And.intro hu7 hrd7)))
              clear hk7 h02 h7 hkeep hi7 hu7 hrd7
              go_wp2_with fail
              go_loopw [19] (fun t wq => ∃ k : Nat, k ≤ n ∧ t = .int .i64 (k : Int) ∧ Hid (Below w7.heap.size w7 wq)) (fun t _ => n - (intOf t).toNat)
              case atStart => exact ⟨0, Nat.zero_le _, rfl, Below.refl _ _⟩
              case round =>
                obtain ⟨k, hk', rfl, HO⟩ := hrel
                by_cases hkn : k = n
                · obtain rfl : n = k := hkn.symm
                  have h8 := H7.out.1.below HO.out
                  have hrd8 := H7.out.2.2.2.below HO.out
                  have H8 := hid (And.intro h8 hrd8)
                  clear h8 hrd8
                  go_wp2_with (go_at_call 16; refine H8.out.1.blocks.mono ?_; rintro e wx ⟨rfl, ex⟩; rw [ex]; clear ex wx)
                  refine H8.out.1.free.mono ?_
                  rintro e w9 ⟨fb, fcap2, L2, rfl, hL2, _, hrd9, hb9⟩
                  have e2 : L2 = L := list_same (A := v.B) H5.out.1.inv H8.out.1.inv (fun _ _ => Iff.rfl) HLs.out.1 hL2
                  subst e2
                  have hsm := hid (same_true w9 L2 fb fa _ _ fcap2 fcap hrd9 (H8.out.2.below hb9) HLs.out.2)
                  have H9 := hid (H8.out.1.below hb9)
                  clear hL2 hrd9 hb9
                  go_wp2_with fail
                  refine hsm.out.mono ?_
                  rintro e wz ⟨rfl, hbz⟩
                  have HZ := hid (H9.out.below hbz).b0
                  clear hbz
                  go_wp2_with fail
                  go_ret
                  exact ⟨rfl, HZ.out⟩
                · obtain ⟨f, hf⟩ : ∃ f, v.l[k]? = some f := ⟨v.l[k]'(by have := HLI.out; omega), List.getElem?_eq_getElem _⟩
                  have hm := List.mem_of_getElem? hf
                  obtain ⟨g1, hga, hc1⟩ := Qu.row_at H7.out.2.1 (k := k) (u := .int .i64 (f.id : Int)) (by unfold Qu.nats; rw [List.getElem?_map, List.getElem?_map, hf]; rfl)
                  obtain ⟨g2, hgb, hc2⟩ := Qu.row_at H7.out.2.2.1 (k := k) (u := .int .i64 ((Qu.useOf v.l f : Nat) : Int)) (by unfold Qu.nats usesL; rw [List.getElem?_map, List.getElem?_map, hf]; rfl)
                  subst hga hgb
                  have hg1 : g1 < w7.heap.size := block_lt_of_cell hc1
                  have hg2 : g2 < w7.heap.size := block_lt_of_cell hc2
                  have hx1 := (HO.out.cell (p := ⟨g1, k, none⟩) hg1).trans hc1
                  have hx2 := (HO.out.cell (p := ⟨g2, k, none⟩) hg2).trans hc2
                  have hsz := HO.out.size
                  have hp5 : Pw w wr _ P { v with ct := v.ct + 1 } := H7.out.1.below HO.out
                  have hq := hp5.drew.quota
                  have hu : Calls Tryz.prog 15 #[.pointer (some ⟨P.tb, 0, none⟩), .int .i64 (f.id : Int)] wr.drew (Qu.UsePost (Qu.useA v.l (f.id : Int)) wr.drew) := hp5.drew.use (f.id : Int)
                  rw [useA_mem HI.out hm] at hu
                  have HQ := hid (And.intro hq hu)
                  have hkn2 : k < n := by omega
                  clear hf hm hc1 hc2 hp5 hq hu
                  generalize Qu.useOf v.l f = u at *
                  generalize f.id = fi at *
                  go_wp2_with fail
                  go_region_held3 (fun W => W.cell? ⟨g1, k, none⟩ = some (.int .i64 (fi : Int)) ∧ W.cell? ⟨g2, k, none⟩ = some (.int .i64 (u : Int))) (first | exact ⟨hx1, hx2⟩ | exact ⟨y1, y2⟩) (first
                    | (go_at_call 13; refine HQ.out.1.mono ?_; rintro e wx ⟨rfl, rfl⟩)
                    | (go_at_call 15; refine HQ.out.2.mono ?_; rintro e w9 ⟨rfl, hb9⟩; have y1 := (hb9.cell (p := ⟨g1, k, none⟩) (by show g1 < wr.heap.size; omega)).trans hx1; have y2 := (hb9.cell (p := ⟨g2, k, none⟩) (by show g2 < wr.heap.size; omega)).trans hx2; have HB9 := hid hb9; clear hb9))
                  have HN := hid (show Below w7.heap.size w7 w9 from HO.out.trans ((show Below wr.heap.size wr w9 from ⟨HB9.out.os, HB9.out.tape, HB9.out.output, HB9.out.size, HB9.out.block⟩).mono hsz))
                  clear HB9 y1 y2
                  go_wp2_with fail
                  exact ⟨⟨k + 1, by omega, by go_num, HN⟩, by simp [intOf]; omega⟩
            · have hpos : decide (0 < costI cy) = true := by have := costI_pos hkc; simp; omega
              have H7 := hid h7
              clear hk7 h7 hg hkc
              go_wp2_with (go_at_call 12; refine (H7.out.cost cy).mono ?_; rintro e wx ⟨rfl, ex⟩; rw [ex]; clear ex wx)
              go_ret
              exact ⟨rfl, H7.out.b0⟩
          · have hpos : decide (0 < costI cy) = true := by have := costI_pos hkc; simp; omega
            have hpl : place (cost kk) q i' + cost kk ≤ 1073741824 := by
              obtain ⟨tag, hpo, _⟩ := h6
              exact (hpo.place_in hg.k1 hg.k7 hg.tk.lt hg.qN).2
            have H6 := hid (And.intro h6 (And.intro hg (And.intro hkc hk6)))
            have HPU := hid (h6.put fy cy ((place (cost kk) q i' : Nat) : Int) (by omega) (by omega))
            obtain ⟨x, hx⟩ : ∃ x, x = ((place (cost kk) q i' : Nat) : Int) := ⟨_, rfl⟩
            rw [← hx] at HPU ⊢
            have HX := hid hx
            clear h6 hg hkc hk6 hpl hx
            go_wp2_with (go_at_call 12; refine (H6.out.1.cost cy).mono ?_; rintro e wx ⟨rfl, ex⟩; rw [ex]; clear ex wx)
            refine HPU.out.mono ?_
            rintro e w7 ⟨hk7, ⟨er, rfl, h0, hno, _⟩ | ⟨k2, q2, i2, B2, hk2, rfl, hg2, h7⟩⟩
            · rw [HX.out] at hno
              exact (noput_got HI.out H6.out.2.2.1 H6.out.2.1 h0 hno).elim
            have hg3 := hg2
            rw [HX.out] at hg3
            obtain ⟨rfl, rfl, rfl⟩ := put_same H6.out.2.2.1 hk2 H6.out.2.1 hg3
            have husd := same_used H6.out.2.1 hg3
            have hkeep : ∀ x, we.heap.size ≤ x → x < wr.heap.size → w7.heap[x]? = wr.heap[x]? := fun x h1 h2 => (hk7 x ⟨h1, h2⟩).trans (H6.out.2.2.2 x ⟨h1, h2⟩)
            have hrd7 : Rd w7 we.heap.size fa L := H5.out.2.1.kept (fun g hg hgl => hkeep g hg hgl)
            have H7 := hid (And.intro h7 (And.intro hrd7 husd))
            clear hk7 h7 hkeep hrd7 husd hg2 hg3 hk2
            go_wp2_with (go_at_call 16; refine H7.out.1.blocks.mono ?_; rintro e wx ⟨rfl, ex⟩; rw [ex]; clear ex wx)
            refine H7.out.1.free.mono ?_
            rintro e w9 ⟨fb, fcap2, L2, rfl, hL2, _, hrd9, hb9⟩
            have e2 : L2 = L := list_same (A := v.B) H5.out.1.inv H7.out.1.inv H7.out.2.2 HLs.out.1 hL2
            subst e2
            have hsm := hid (same_true w9 L2 fb fa _ _ fcap2 fcap hrd9 (H7.out.2.1.below hb9) HLs.out.2)
            have H9 := hid (H7.out.1.below hb9)
            clear hL2 hrd9 hb9
            go_wp2_with fail
            refine hsm.out.mono ?_
            rintro e wz ⟨rfl, hbz⟩
            have HZ := hid (H9.out.below hbz).b0
            clear hbz
            go_wp2_with fail
            go_ret
            exact ⟨rfl, HZ.out⟩
        · obtain ⟨f, hf⟩ : ∃ f, v.l[k]? = some f := ⟨v.l[k]'(by have := H4.out.2.2.2; omega), List.getElem?_eq_getElem _⟩
          have hm := List.mem_of_getElem? hf
          obtain ⟨g1, hga, hc1⟩ := Qu.row_at H4.out.2.2.1 (k := k) (u := .int .i64 (f.id : Int)) (by unfold Qu.nats; rw [List.getElem?_map, List.getElem?_map, hf]; rfl)
          subst hga
          have hg1 : g1 < w4.heap.size := block_lt_of_cell hc1
          have hx : wr.cell? ⟨g1, k, none⟩ = some (.int .i64 (f.id : Int)) := (HO.out.2.cell (p := ⟨g1, k, none⟩) hg1).trans hc1
          have hp5 : Pw w wr (fun _ => False) P v := (H4.out.1.below HO.out.2)
          have hq := hp5.drew.quota
          have hu := hp5.drew.use (f.id : Int)
          rw [useA_mem HI.out hm] at hu
          have HQ := hid (And.intro hq hu)
          have HK := hid (usesL_next hf)
          have hkl : ((usesL v.l).take k).length ≤ 32 := by rw [List.length_take]; omega
          have hkn2 : k < n := by omega
          have HOD := hid (fun (w5 : World) (hb : Below wr.drew.heap.size wr.drew w5) => World.ownsRow.bel (w := wr.drew) HO.out.1 hb (Nat.le_refl _))
          have HBB := hid (fun (w5 : World) (hb : Below wr.drew.heap.size wr.drew w5) => (show Below w4.heap.size w4 w5 from HO.out.2.trans ((show Below wr.heap.size wr w5 from ⟨hb.os, hb.tape, hb.output, hb.size, hb.block⟩).mono HO.out.2.size)))
          clear hf hm hp5 hq hu
          generalize Qu.useOf v.l f = u at *
          generalize f.id = fi at *
          generalize (usesL v.l).take k = K at *
          go_wp2_with fail
          go_region_held3 (fun W => W.cell? ⟨g1, k, none⟩ = some (.int .i64 (fi : Int))) (first | exact hx | exact hx5 | exact hx5a _ | exact hx6) (first
            | (go_at_call 13; refine HQ.out.1.mono ?_; rintro e wx ⟨rfl, rfl⟩)
            | (go_at_call 15; refine HQ.out.2.mono ?_; rintro e w5 ⟨rfl, hb5⟩; have hx5 := ((HBB.out w5 hb5).cell (p := ⟨g1, k, none⟩) hg1).trans hc1; have hr5 := HOD.out w5 hb5; have hB5 := HBB.out w5 hb5; have hx5a : ∀ o, (w5.alloc o).cell? ⟨g1, k, none⟩ = some (.int .i64 (fi : Int)) := fun o => (((Below.refl _ w5).alloc (Nat.le_refl _) o).cell (p := ⟨g1, k, none⟩) (by have := hB5.size; show g1 < w5.heap.size; omega)).trans hx5; have HB5 := hid (And.intro hr5 hB5); clear hb5 hr5 hB5)
            | (refine step_append_any _ (by rfl) _ _ _ (by rfl) w4.heap.size 3 i0 (.int .i64 0) 1 8 Tryz.underlying29 HIF.out.1 HIF.out.2.1 HIF.out.2.2.1 HIF.out.2.2.2 rfl (by decide) _ _ _ (by rfl) (HB5.out.1.alloc _) ⟨w5.heap.size, 0, none⟩ 1 1 [.int .i64 (u : Int)] (by rfl) (by rfl) (one_new _ _ _) (one_cell _) (by unfold maxLen; omega) (by omega) (by have := HB5.out.2.size; simp; omega) ?_; intro v' w6 hown' hgrow; have hX6 : Below w4.heap.size w4 w6 := Below.grown (HB5.out.2.alloc HB5.out.2.size _) hgrow (by have := HB5.out.2.size; simp; omega) (fun r hr => (Qu.own_block HB5.out.1 r hr).1); have hx6 := (hX6.cell (p := ⟨g1, k, none⟩) hg1).trans hc1))
          have HN := hid (show w6.ownsRow w4.heap.size 3 1 v' ((usesL v.l).take (k + 1)).length (Qu.nats ((usesL v.l).take (k + 1))) ∧ Below w4.heap.size w4 w6 from ⟨by rw [HK.out, Qu.nats_snoc, List.length_append]; exact hown', hX6⟩)
          clear hown' hgrow hX6 hx6 hx5 hx5a HB5
          go_wp2_with fail
          exact ⟨⟨k + 1, by omega, by go_num, HN⟩, by simp [intOf]; omega⟩
    · have hil : i < len := by omega
      obtain ⟨s, o, kd, fc, cc, nn, rfl, hs, k0, k1, k2, k3⟩ := HT.out.2.2.at2 HR.out.1.b0 (Nat.le_refl _) hil
      by_cases hk3 : kd = 3
      · subst hk3
        have HCV := hid (fa_carve HR.out.1.drew HR.out.2.1 HR.out.2.2 (by omega) fc nn)
        have HQ := hid HR.out.1.drew.quota
        go_wp2_with fail
        go_region_held3 (fun W => W.cell? ⟨s, o + i * 4 + 1, none⟩ = some (.int .i64 fc) ∧ W.cell? ⟨s, o + i * 4 + 3, none⟩ = some (.int .i64 nn)) (first | exact ⟨k1, k3⟩ | exact ⟨q1, q3⟩) (first
          | (go_at_call 13; refine HQ.out.mono ?_; rintro e wx ⟨rfl, rfl⟩)
          | (go_at_call 22; refine HCV.out.mono ?_; rintro e w5 ⟨⟨x5, y5, rfl⟩, v', HB⟩; have q1 := kept2 HR.out.1.b0 HB.out.1.b0 hs k1; have q3 := kept2 HR.out.1.b0 HB.out.1.b0 hs k3))
        clear q1 q3 k0 k1 k2 k3 HCV HQ
        go_wp2_with fail
        exact ⟨⟨i + 1, v', by go_num, by omega, HB⟩, by simp [intOf]; omega⟩
      · have hkb : (kd == 3) = false := by rw [beq_eq_false_iff_ne]; exact hk3
        have HCV := hid (fa_get HR.out.1.drew HR.out.2.1 HR.out.2.2 (by omega) fc cc)
        go_wp2_with fail
        go_region_held3 (fun W => W.cell? ⟨s, o + i * 4 + 1, none⟩ = some (.int .i64 fc) ∧ W.cell? ⟨s, o + i * 4 + 2, none⟩ = some (.int .i64 cc)) (first | exact ⟨k1, k2⟩ | exact ⟨q1, q2⟩) (first
          | (go_at_call 10; refine HCV.out.mono ?_; rintro e w5 ⟨⟨x5, y5, rfl⟩, v', HB⟩; have q1 := kept2 HR.out.1.b0 HB.out.1.b0 hs k1; have q2 := kept2 HR.out.1.b0 HB.out.1.b0 hs k2))
        clear q1 q2 k0 k1 k2 k3 HCV
        go_wp2_with fail
        exact ⟨⟨i + 1, v', by go_num, by omega, HB⟩, by simp [intOf]; omega⟩
end Go.Proofs.YthpkmegjbehgaaaGreatDoor
