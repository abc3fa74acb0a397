/- TableBack: the walk. -/
import Derived.Test.YthpkmegjbehgaaaDoorF1
namespace Go.Proofs.YthpkmegjbehgaaaDoor
open Go.RowKit Go.Maps

/-- Between two rounds: a table, and two rows of its entries' words. -/
structure Ba (w wr : World) (G : Nat → Prop) (P : Pp) (hb x N ct : Nat) (A B : Nat → Nat) (ba bb : Nat) : Prop where
  tz : Tz w wr G P hb x N ct A B
  wa : Wds wr ba A
  wb : Wds wr bb B
  ga : G ba
  gb : G bb
  na : hb ≠ ba
  nb : hb ≠ bb
  nn : ba ≠ bb
  lo : ∀ y, G y → w.heap.size ≤ y
  zb : ∀ s, A s = 0 → B s = 0
  far : ∀ s, 256 ≤ s → A s = 0
theorem Ba.below {w wr w' : World} {G : Nat → Prop} {P : Pp} {hb x N ct : Nat} {A B : Nat → Nat} {ba bb : Nat} (h : Ba w wr G P hb x N ct A B ba bb) (hb' : Below wr.heap.size wr w') : Ba w w' G P hb x N ct A B ba bb :=
  ⟨h.tz.below hb', h.wa.bel hb', h.wb.bel hb', h.ga, h.gb, h.na, h.nb, h.nn, h.lo, h.zb, h.far⟩
theorem rem_in (f : Int) : -256 < f.tmod 256 ∧ f.tmod 256 < 256 := by
  rcases Int.le_total 0 f with h | h
  · rw [Int.tmod_eq_emod_of_nonneg h]; omega
  · obtain ⟨g, rfl⟩ : ∃ g, f = -g := ⟨-f, by omega⟩
    rw [Int.neg_tmod, Int.tmod_eq_emod_of_nonneg (by omega)]; omega
theorem getB2_zb {A B : Nat → Nat} (h : ∀ s, A s = 0 → B s = 0) (s : Nat) : getB2 A B s = B s := by
  unfold getB2
  split
  · rename_i e; exact (h s e).symm
  · rfl
/-- Entries below a slot. -/
def lowA (A : Nat → Nat) (k : Nat) : Nat → Nat := fun s => if s < k then A s else 0
theorem lowA_all {A : Nat → Nat} (h : ∀ s, 256 ≤ s → A s = 0) : lowA A 256 = A := by
  funext s
  unfold lowA
  split
  · rfl
  · exact (h s (by omega)).symm
theorem lowA_zero (A : Nat → Nat) : lowA A 0 = fun _ => 0 := by funext s; simp [lowA]
theorem lowA_at (A : Nat → Nat) (m : Nat) : lowA A (m + 1) m = A m := by simp [lowA]
theorem lowA_clear (A : Nat → Nat) (m : Nat) : now (lowA A (m + 1)) m 0 = lowA A m := by
  funext s
  unfold now lowA
  by_cases e : s = m
  · subst e; simp
  · by_cases e2 : s < m
    · simp [e, e2, show s < m + 1 by omega]
    · simp [e, e2, show ¬ s < m + 1 by omega]
theorem lowA_none {A : Nat → Nat} {m : Nat} (h : A m = 0) : lowA A (m + 1) = lowA A m := by
  rw [← lowA_clear A m]
  funext s
  unfold now
  split
  · rename_i e; subst e; rw [lowA_at, h]
  · rfl

set_option maxRecDepth 100000 in
set_option maxHeartbeats 16000000 in
theorem tback_core (w : World) (hT : Tab w) (hC : Cst w) (a1 : Option Addr) (len1 cap1 : Nat) (hA : Acts9 w a1 len1) :
    Calls Tryd.prog 3 #[.slice a1 len1 cap1] w fun e w' => e = .returned (.bool true) ∧ Below w.heap.size w w' := by
  have HT := hid (And.intro hT (And.intro hC hA))
  clear hT hC hA
  go_enter Tryd.func3, Tryd.ntmps3
  go_wp2_with fail
  refine (alive9 w HT.out.1 HT.out.2.1).mono ?_
  rintro e w1 ⟨rfl, hb1⟩
  have H1 := hid (And.intro hb1 (And.intro (HT.out.1.below hb1 HT.out.1.pos) (HT.out.2.1.below hb1)))
  clear hb1
  by_cases h100 : 100 < len1
  · go_wp2_with fail
    go_ret
    exact ⟨rfl, H1.out.1⟩
  have HNW := hid (show Calls Tryd.prog 6 #[.int .i64 65536, .int .i64 65536] w1 _ from Pw.new (w0 := w) (G := fun _ => False) 6 65536 H1.out.2.1 H1.out.2.2 (by decide) (by decide) (by decide) H1.out.1 (fun x h => h.elim))
  go_wp2_with fail
  refine HNW.out.mono ?_
  rintro e w2 ⟨P, rfl, hK, _, h2, _⟩
  have H2 := hid (And.intro h2 hK)
  clear h2 hK HNW H1
  go_wp2_with fail
  refine (start_get H2.out.1 H2.out.2 (by decide)).mono ?_
  rintro e w3 ⟨q, i, B', U', rfl, h3⟩
  have HA := hid (start_at H2.out.1 H2.out.2 h3.out.1 h3.out.2)
  have hbw := h3.out.2.b0.size
  clear h3
  generalize place (cost 2) q i = x at *
  go_wp2_with fail
  refine HA.out.mono ?_
  rintro e w4 ⟨rfl, H4⟩
  clear HA
  generalize w3.heap.size = hb at *
  have HBW := hid hbw
  have H4' := hid H4.out.1
  clear H4 hbw
  go_wp2_with fail
  obtain ⟨G, H5⟩ : ∃ G : Nat → Prop, Ba w ((w4.alloc (.cells Tryd.zeroCells32 32)).alloc (.cells Tryd.zeroCells32 32)) G P hb x 65536 1 (fun _ => 0) (fun _ => 0) w4.heap.size (w4.heap.size + 1) := by
    have hs1 : (w4.alloc (.cells Tryd.zeroCells32 32)).heap.size = w4.heap.size + 1 := by simp
    have hbA : Below w4.heap.size w4 (w4.alloc (.cells Tryd.zeroCells32 32)) := (Below.refl _ _).alloc (Nat.le_refl _) _
    have hbB : Below w4.heap.size w4 ((w4.alloc (.cells Tryd.zeroCells32 32)).alloc (.cells Tryd.zeroCells32 32)) := hbA.alloc (by omega) _
    have hw1 : Wds (w4.alloc (.cells Tryd.zeroCells32 32)) w4.heap.size (fun _ => 0) := Wds.new w4 zeros32_run
    have hw2 : Wds ((w4.alloc (.cells Tryd.zeroCells32 32)).alloc (.cells Tryd.zeroCells32 32)) (w4.heap.size + 1) (fun _ => 0) := by rw [← hs1]; exact Wds.new _ zeros32_run
    have hlt := H4'.out.glt (y := hb) (.inr rfl)
    have hsz := H4'.out.b0.size
    refine ⟨_, H4'.out.plus hbB, hw1.bel ((Below.refl _ _).alloc (Nat.le_refl _) _), hw2, .inr ⟨Nat.le_refl _, by simp <;> omega⟩, .inr ⟨by omega, by simp <;> omega⟩, by omega, by omega, by omega, fun y hy => ?_, fun _ _ => rfl, fun _ _ => rfl⟩
    rcases hy with (hy | rfl) | ⟨hy, _⟩
    · exact hy.elim
    · exact HBW.out
    · omega
  have H5' := hid H5
  clear H5
  generalize (w4.alloc (.cells Tryd.zeroCells32 32)).alloc (.cells Tryd.zeroCells32 32) = wa at *
  obtain ⟨bb, hbb⟩ : ∃ bb, bb = w4.heap.size + 1 := ⟨_, rfl⟩
  rw [← hbb] at H5' ⊢
  clear hbb
  generalize w4.heap.size = ba at *
  go_loopw [9] (fun t wr => ∃ (i : Nat) (A B : Nat → Nat), t = .int .i64 (i : Int) ∧ i ≤ len1 ∧ Hid (Ba w wr G P hb x 65536 (1 + i) A B ba bb)) (fun t _ => len1 - (intOf t).toNat)
  case atStart => exact ⟨0, _, _, rfl, Nat.zero_le _, H5'⟩
  case round =>
    obtain ⟨i, A, B, rfl, hi, HBA⟩ := hrel
    clear H5' H4'
    by_cases hin : i = len1
    · subst hin
      as_aux_lemma =>
        go_wp2_with fail
        rename World => we
        go_loopw [11] (fun t wq => ∃ k : Nat, t = .int .i64 (k : Int) ∧ k ≤ 256 ∧ Hid (Below we.heap.size we wq)) (fun t _ => 256 - (intOf t).toNat)
        case atStart => exact ⟨0, rfl, by omega, Below.refl _ _⟩
        case round =>
          obtain ⟨k, rfl, hk, HB⟩ := hrel
          by_cases hk256 : k = 256
          · subst hk256
            have h6 := HBA.out.below HB.out
            obtain ⟨nl, hnl⟩ : ∃ nl, nl = nlA A := ⟨_, rfl⟩
            have hnl16 : nl ≤ 16 := by rw [hnl]; exact nlA_le _
            have hlv := h6.tz.leaves
            rw [← hnl] at hlv
            have HLV := hid hlv
            have HNL := hid hnl
            have H6 := hid h6
            clear hlv hnl h6
            go_wp2_with fail
            refine HLV.out.mono ?_
            rintro e w7 ⟨a7, cap7, rfl, hb7⟩
            have h7 := H6.out.below hb7
            have hus := h7.tz.use
            rw [← HNL.out, show ((128 + 256 * nl : Nat) : Int) = 128 + 256 * (nl : Int) by omega] at hus
            have HU := hid hus
            have HQT := hid h7.tz.quota
            have H7 := hid h7
            have hd16 : decide ((16 : Int) < (nl : Int)) = false := by simp; omega
            clear hus h7 hb7 H6 HLV
            go_wp2_with (go_at_call 12; refine HQT.out.mono ?_; rintro e wx ⟨rfl, ex⟩; rw [ex]; clear ex wx)
            refine HU.out.mono ?_
            rintro e w8 ⟨rfl, hb8⟩
            have H8 := hid (H7.out.below hb8)
            clear hb8 H7 HU HQT
            go_wp2_with fail
            go_loopw [15] (fun t wq => ∃ k : Nat, t = .int .i64 ((k : Int) - 1) ∧ k ≤ 256 ∧ Hid (Tz w wq G P hb x 65536 (1 + i) (lowA A k) B ∧ Wds wq ba A)) (fun t _ => (intOf t + 1).toNat)
            case atStart => exact ⟨256, by go_num, by omega, hid ⟨by rw [lowA_all H8.out.far]; exact H8.out.tz, H8.out.wa⟩⟩
            case round =>
              obtain ⟨k, rfl, hk, HY⟩ := hrel
              clear H8
              rcases Nat.eq_zero_or_pos k with rfl | hkp
              · have hY := HY.out.1
                rw [lowA_zero] at hY
                have HZ := hid hY
                have HAL := hid (alive9 _ hY.tabs.1 hY.tabs.2)
                clear hY
                go_wp2_with fail
                refine HAL.out.mono ?_
                rintro e w9 ⟨rfl, hb9⟩
                have h9 := HZ.out.below hb9
                have HQT := hid h9.quota
                have hus := h9.use
                rw [show nlA (fun _ => 0) = 0 from by decide] at hus
                have HU := hid (show Calls Tryd.prog 13 #[.pointer (some ⟨P.tb, 0, none⟩), .int .i64 0] w9 fun e w' => e = .returned (.int .i64 128) ∧ Below w9.heap.size w9 w' from hus)
                have H9 := hid h9
                clear h9 hb9 hus HAL HZ
                go_wp2_with (go_at_call 12; refine HQT.out.mono ?_; rintro e wx ⟨rfl, ex⟩; rw [ex]; clear ex wx)
                refine HU.out.mono ?_
                rintro e w10 ⟨rfl, hb10⟩
                have H10 := hid (H9.out.below hb10)
                have HSl := hid H10.out.slots
                clear hb10 H9 HU HQT
                go_wp2_with fail
                refine HSl.out.mono ?_
                rintro e w11 ⟨u, rfl, hrow, hb11⟩
                obtain ⟨a11, cap11, rfl, _⟩ := ints_of hrow
                rw [show (slotsL (fun _ => 0) 256).length = 0 from by decide +kernel]
                have H11 := hid (H10.out.below hb11)
                clear hb11 HSl hrow
                go_wp2_with fail
                go_ret
                exact ⟨rfl, H11.out.b0⟩
              · obtain ⟨m, rfl⟩ : ∃ m, k = m + 1 := ⟨k - 1, by omega⟩
                have hm256 : m < 256 := by omega
                have hcell := (HY.out.2.at hm256).1
                have hmI : (m : Int) < 256 := by omega
                have hmI0 : (0 : Int) ≤ (m : Int) := by omega
                rw [show (((m + 1 : Nat) : Int) - 1) = (m : Int) by omega]
                by_cases h0 : A m = 0
                · have HCL := hid (tclear_none (HY.out.1.drewN 1) m hm256 (by rw [lowA_at]; exact h0))
                  have H0 := hid h0
                  rw [h0] at hcell
                  clear h0
                  go_wp2_with fail
                  go_region_held3 (fun W => W.cell? ⟨ba, m, none⟩ = some (.int .u64 0)) (first | exact hcell | exact hcell2) (first
                    | (go_at_call 14; refine HCL.out.mono ?_; rintro e w12 ⟨rfl, hb12⟩; have hcell2 : w12.cell? ⟨ba, m, none⟩ = some (.int .u64 0) := (hb12.cell (p := ⟨ba, m, none⟩) (lt_of_cell hcell)).trans hcell))
                  have H12 : Hid (Tz w w12 G P hb x 65536 (1 + i) (lowA A m) B ∧ Wds w12 ba A) := hid ⟨by rw [← lowA_none H0.out]; exact (HY.out.1.drewN 1).below hb12, HY.out.2.bel ((below_drewN (Below.refl _ _) 1).trans hb12)⟩
                  clear hb12 hcell hcell2 HCL
                  go_wp2_with fail
                  exact ⟨⟨m, rfl, by omega, H12⟩, by simp [intOf] <;> omega⟩
                · have HCL := hid (tclear_any (HY.out.1.drewN 1) m hm256 (by rw [lowA_at]; exact h0))
                  have ha0 : (((A m : Nat) : Int) != 0) = true := by rw [bne_iff_ne]; omega
                  obtain ⟨am, ham⟩ : ∃ am, am = A m := ⟨_, rfl⟩
                  rw [← ham] at hcell ha0
                  clear h0 ham
                  go_wp2_with fail
                  go_region_held3 (fun W => W.cell? ⟨ba, m, none⟩ = some (.int .u64 (am : Int))) (first | exact hcell | exact hcell2) (first
                    | (go_at_call 14; refine HCL.out.mono ?_; rintro e w12 ⟨rfl, hP⟩; have hcell2 : w12.cell? ⟨ba, m, none⟩ = some (.int .u64 (am : Int)) := (World.cell?_of_block (hP.out.1 ba HBA.out.ga)).trans hcell))
                  have H12 : Hid (Tz w w12 G P hb x 65536 (1 + i) (lowA A m) B ∧ Wds w12 ba A) := hid ⟨by rw [← lowA_clear]; exact hP.out.2, HY.out.2.same (hP.out.1 ba HBA.out.ga)⟩
                  clear hP hcell hcell2 HCL
                  go_wp2_with fail
                  exact ⟨⟨m, rfl, by omega, H12⟩, by simp [intOf] <;> omega⟩
          · have hk2 : k < 256 := by omega
            have h6 := HBA.out.below HB.out
            have hgt := h6.tz.get k hk2
            rw [getB2_zb HBA.out.zb] at hgt
            have ca := (h6.wa.at hk2).1
            have cb := (h6.wb.at hk2).1
            obtain ⟨ak, hak⟩ : ∃ ak, ak = A k := ⟨_, rfl⟩
            obtain ⟨bk, hbk⟩ : ∃ bk, bk = B k := ⟨_, rfl⟩
            rw [← hak, ← hbk] at hgt
            rw [← hak] at ca
            rw [← hbk] at cb
            have HG := hid hgt
            clear hak hbk h6 hgt
            go_wp2_with fail
            refine HG.out.mono ?_
            rintro e w14 ⟨rfl, hb14⟩
            have ca2 := (hb14.cell (p := ⟨ba, k, none⟩) (lt_of_cell ca)).trans ca
            have cb2 := (hb14.cell (p := ⟨bb, k, none⟩) (lt_of_cell cb)).trans cb
            have HB14 := hid (HB.out.trans (hb14.mono HB.out.size))
            clear hb14 ca cb HG
            go_wp2_with fail
            exact ⟨⟨k + 1, by go_num, by omega, HB14⟩, by simp [intOf]; omega⟩
    · have hil : i < len1 := by omega
      obtain ⟨s, o, f, c, n, rfl, hs, hx1, hx2, hx3, _, hcb, hnb⟩ := HT.out.2.2.at HBA.out.tz.b0 (Nat.le_refl _) hil
      have HX : Hid (w.cell? ⟨s, o + i * 4 + 2, none⟩ = some (.int .u64 (c : Int)) ∧ w.cell? ⟨s, o + i * 4 + 3, none⟩ = some (.int .u64 (n : Int))) := hid ⟨(HBA.out.tz.b0.cell (p := ⟨s, o + i * 4 + 2, none⟩) hs).symm.trans hx2, (HBA.out.tz.b0.cell (p := ⟨s, o + i * 4 + 3, none⟩) hs).symm.trans hx3⟩
      obtain ⟨r, hr⟩ : ∃ r, f.tmod 256 = r := ⟨_, rfl⟩
      have hr1 := rem_in f
      rw [hr] at hr1
      by_cases hr0 : r < 0
      · obtain ⟨sn, hneg⟩ : ∃ sn : Nat, -r = (sn : Int) := ⟨(-r).toNat, by omega⟩
        have hsn : sn < 256 := by omega
        have hdr : decide (r < 0) = true := by simp; omega
        clear hr0
        as_aux_lemma =>
          by_cases hc0 : c = 0
          · subst hc0
            go_wp2_with fail
            exact ⟨⟨i + 1, A, B, by go_num, by omega, hid ⟨HBA.out.tz.le (by omega), HBA.out.wa, HBA.out.wb, HBA.out.ga, HBA.out.gb, HBA.out.na, HBA.out.nb, HBA.out.nn, HBA.out.lo, HBA.out.zb, HBA.out.far⟩⟩, by simp [intOf]; omega⟩
          · have hcz : ((c : Int) == 0) = false := by rw [beq_eq_false_iff_ne]; omega
            have HC0 := hid hc0
            have HS := hid ((HBA.out.tz.drewN 1).set (by omega) sn c n hsn hc0 hcb hnb (by decide))
            clear hc0
            have hcn : w.cell? ⟨s, o + i * 4 + 2, none⟩ = some (.int .u64 (c : Int)) := HX.out.1
            have hnn : w.cell? ⟨s, o + i * 4 + 3, none⟩ = some (.int .u64 (n : Int)) := HX.out.2
            go_wp2_with fail
            go_region_held3 (fun W => W.cell? ⟨s, o + i * 4 + 2, none⟩ = some (.int .u64 (c : Int)) ∧ W.cell? ⟨s, o + i * 4 + 3, none⟩ = some (.int .u64 (n : Int))) (first | exact ⟨hx2, hx3⟩ | exact ⟨q2, q3⟩) (first
              | (go_at_call 9; refine HS.out.mono ?_; rintro e w5 ⟨rfl, hP⟩; have q2 : w5.cell? ⟨s, o + i * 4 + 2, none⟩ = some (.int .u64 (c : Int)) := (hP.out.2.b0.cell (p := ⟨s, o + i * 4 + 2, none⟩) hs).trans hcn; have q3 : w5.cell? ⟨s, o + i * 4 + 3, none⟩ = some (.int .u64 (n : Int)) := (hP.out.2.b0.cell (p := ⟨s, o + i * 4 + 3, none⟩) hs).trans hnn))
            have hwa := HBA.out.wa.same (hP.out.1 ba HBA.out.ga)
            have hwb := HBA.out.wb.same (hP.out.1 bb HBA.out.gb)
            have h5 := hP.out.2
            have hfa := hwa.at hsn
            have hfb := hwb.at hsn
            have hsa : s ≠ ba := by have := HBA.out.lo ba HBA.out.ga; omega
            have hsb : s ≠ bb := by have := HBA.out.lo bb HBA.out.gb; omega
            have hab : ba ≠ bb := HBA.out.nn
            have hba2 : bb ≠ ba := fun e => hab e.symm
            have H5 := hid (And.intro h5 (And.intro hwa hwb))
            have hsI : (sn : Int) < 256 := by omega
            have q3' : (w5.setCell ⟨ba, sn, none⟩ (.int .u64 (c : Int))).cell? ⟨s, o + i * 4 + 3, none⟩ = some (.int .u64 (n : Int)) := (World.cell?_of_block (Below.heap_setCell _ _ _ _ hsa)).trans q3
            have hfb' : (w5.setCell ⟨ba, sn, none⟩ (.int .u64 (c : Int))).cell? ⟨bb, sn, none⟩ = some (.int .u64 ((B sn : Nat) : Int)) := (World.cell?_of_block (Below.heap_setCell _ _ _ _ hba2)).trans hfb.1
            have hfb2' : (w5.setCell ⟨ba, sn, none⟩ (.int .u64 (c : Int))).frozen? ⟨bb, sn, none⟩ = false := by
              have hX : Wds (w5.setCell ⟨ba, sn, none⟩ (.int .u64 (c : Int))) bb B := hwb.same (Below.heap_setCell _ _ _ _ hba2)
              exact (hX.at hsn).2
            clear hwa hwb h5 hP HS hcn hnn hx1 hx2 hx3
            go_wp2_with fail
            refine ⟨⟨i + 1, now A sn c, now B sn n, by go_num, by omega, hid ⟨?_, ?_, ?_, HBA.out.ga, HBA.out.gb, HBA.out.na, HBA.out.nb, HBA.out.nn, HBA.out.lo, fun t ht => ?_, fun t ht => (now_ne _ _ (by omega)).trans (HBA.out.far t ht)⟩⟩, by simp [intOf]; omega⟩
            · exact (H5.out.1.own HBA.out.ga HBA.out.na HBA.out.lo sn _).own HBA.out.gb HBA.out.nb HBA.out.lo sn _
            · exact (H5.out.2.1.set hsn c).same (Below.heap_setCell _ _ _ _ hab)
            · exact (H5.out.2.2.same (Below.heap_setCell _ _ _ _ hba2)).set hsn n
            · by_cases e : t = sn
              · subst e
                rw [now_at] at ht
                exact absurd ht HC0.out
              · rw [now_ne _ _ e] at ht ⊢
                exact HBA.out.zb t ht
      · obtain ⟨sn, rfl⟩ := Int.eq_ofNat_of_zero_le (show 0 ≤ r by omega)
        have hsn : sn < 256 := by omega
        clear hr0 hr1
        as_aux_lemma =>
          by_cases hc0 : c = 0
          · subst hc0
            go_wp2_with fail
            exact ⟨⟨i + 1, A, B, by go_num, by omega, hid ⟨HBA.out.tz.le (by omega), HBA.out.wa, HBA.out.wb, HBA.out.ga, HBA.out.gb, HBA.out.na, HBA.out.nb, HBA.out.nn, HBA.out.lo, HBA.out.zb, HBA.out.far⟩⟩, by simp [intOf]; omega⟩
          · have hcz : ((c : Int) == 0) = false := by rw [beq_eq_false_iff_ne]; omega
            have HC0 := hid hc0
            have HS := hid ((HBA.out.tz.drewN 1).set (by omega) sn c n hsn hc0 hcb hnb (by decide))
            clear hc0
            have hcn : w.cell? ⟨s, o + i * 4 + 2, none⟩ = some (.int .u64 (c : Int)) := HX.out.1
            have hnn : w.cell? ⟨s, o + i * 4 + 3, none⟩ = some (.int .u64 (n : Int)) := HX.out.2
            go_wp2_with fail
            go_region_held3 (fun W => W.cell? ⟨s, o + i * 4 + 2, none⟩ = some (.int .u64 (c : Int)) ∧ W.cell? ⟨s, o + i * 4 + 3, none⟩ = some (.int .u64 (n : Int))) (first | exact ⟨hx2, hx3⟩ | exact ⟨q2, q3⟩) (first
              | (go_at_call 9; refine HS.out.mono ?_; rintro e w5 ⟨rfl, hP⟩; have q2 : w5.cell? ⟨s, o + i * 4 + 2, none⟩ = some (.int .u64 (c : Int)) := (hP.out.2.b0.cell (p := ⟨s, o + i * 4 + 2, none⟩) hs).trans hcn; have q3 : w5.cell? ⟨s, o + i * 4 + 3, none⟩ = some (.int .u64 (n : Int)) := (hP.out.2.b0.cell (p := ⟨s, o + i * 4 + 3, none⟩) hs).trans hnn))
            have hwa := HBA.out.wa.same (hP.out.1 ba HBA.out.ga)
            have hwb := HBA.out.wb.same (hP.out.1 bb HBA.out.gb)
            have h5 := hP.out.2
            have hfa := hwa.at hsn
            have hfb := hwb.at hsn
            have hsa : s ≠ ba := by have := HBA.out.lo ba HBA.out.ga; omega
            have hsb : s ≠ bb := by have := HBA.out.lo bb HBA.out.gb; omega
            have hab : ba ≠ bb := HBA.out.nn
            have hba2 : bb ≠ ba := fun e => hab e.symm
            have H5 := hid (And.intro h5 (And.intro hwa hwb))
            have hsI : (sn : Int) < 256 := by omega
            have q3' : (w5.setCell ⟨ba, sn, none⟩ (.int .u64 (c : Int))).cell? ⟨s, o + i * 4 + 3, none⟩ = some (.int .u64 (n : Int)) := (World.cell?_of_block (Below.heap_setCell _ _ _ _ hsa)).trans q3
            have hfb' : (w5.setCell ⟨ba, sn, none⟩ (.int .u64 (c : Int))).cell? ⟨bb, sn, none⟩ = some (.int .u64 ((B sn : Nat) : Int)) := (World.cell?_of_block (Below.heap_setCell _ _ _ _ hba2)).trans hfb.1
            have hfb2' : (w5.setCell ⟨ba, sn, none⟩ (.int .u64 (c : Int))).frozen? ⟨bb, sn, none⟩ = false := by
              have hX : Wds (w5.setCell ⟨ba, sn, none⟩ (.int .u64 (c : Int))) bb B := hwb.same (Below.heap_setCell _ _ _ _ hba2)
              exact (hX.at hsn).2
            clear hwa hwb h5 hP HS hcn hnn hx1 hx2 hx3
            go_wp2_with fail
            refine ⟨⟨i + 1, now A sn c, now B sn n, by go_num, by omega, hid ⟨?_, ?_, ?_, HBA.out.ga, HBA.out.gb, HBA.out.na, HBA.out.nb, HBA.out.nn, HBA.out.lo, fun t ht => ?_, fun t ht => (now_ne _ _ (by omega)).trans (HBA.out.far t ht)⟩⟩, by simp [intOf]; omega⟩
            · exact (H5.out.1.own HBA.out.ga HBA.out.na HBA.out.lo sn _).own HBA.out.gb HBA.out.nb HBA.out.lo sn _
            · exact (H5.out.2.1.set hsn c).same (Below.heap_setCell _ _ _ _ hab)
            · exact (H5.out.2.2.same (Below.heap_setCell _ _ _ _ hba2)).set hsn n
            · by_cases e : t = sn
              · subst e
                rw [now_at] at ht
                exact absurd ht HC0.out
              · rw [now_ne _ _ e] at ht ⊢
                exact HBA.out.zb t ht
end Go.Proofs.YthpkmegjbehgaaaDoor
