/- TableFails: the walk. -/
import Derived.Test.YthpkmegjbehgaaaDoorD1
namespace Go.Proofs.YthpkmegjbehgaaaDoor
open Go.RowKit Go.Maps

/-- Between two rounds: a table, and a row of its entries' first words. -/
structure Fa (w wr : World) (G : Nat → Prop) (P : Pp) (hb x N ct : Nat) (A B : Nat → Nat) (ba : Nat) : Prop where
  tz : Tz w wr G P hb x N ct A B
  wd : Wds wr ba A
  g : G ba
  ne : hb ≠ ba
  lo : ∀ y, G y → w.heap.size ≤ y
theorem Tz.le_N {w w' : World} {G : Nat → Prop} {P : Pp} {hb x N ct : Nat} {A B : Nat → Nat} (h : Tz w w' G P hb x N ct A B) : 128 + 256 * nlA A ≤ N := by
  obtain ⟨v, LF, B', h1, h2, h3⟩ := h.ex
  have := h1.sm.le
  rwa [kl_nlA h2] at this
theorem zeros32_run : run0 Tryd.zeroCells32.toList 0 = 256 := by kernel_rfl
theorem lt_of_cell {W : World} {s o : Nat} {u : Value} (h : W.cell? ⟨s, o, none⟩ = some u) : s < W.heap.size := block_lt_of_cell h

set_option maxRecDepth 100000 in
set_option maxHeartbeats 16000000 in
theorem tfails_core (w : World) (hT : Tab w) (hC : Cst w) (n0 : Nat) (hn0 : n0 < 256) (a1 : Option Addr) (len1 cap1 : Nat) (hA : Bytes w a1 len1) :
    Calls Tryd.prog 4 #[.int .u8 (n0 : Int), .slice a1 len1 cap1] w fun e w' => e = .returned (.bool true) ∧ Below w.heap.size w w' := by
  have HT := hid (And.intro hT (And.intro hC hA))
  clear hT hC hA
  obtain ⟨mo, hmo⟩ : ∃ mo, mo = n0 % 17 := ⟨_, rfl⟩
  have hmod : (n0 : Int).tmod 17 = (mo : Int) := by rw [Int.tmod_eq_emod_of_nonneg (by omega), hmo]; omega
  have hmo16 : mo ≤ 16 := by omega
  obtain ⟨N, hN⟩ : ∃ N, N = 128 + 256 * mo := ⟨_, rfl⟩
  have hNI : (128 : Int) + 256 * (mo : Int) = (N : Int) := by omega
  have hNb : N ≤ 65536 := by omega
  have HNN := hid hN
  clear hmo hN
  go_enter Tryd.func4, Tryd.ntmps4
  go_wp2_with fail
  refine (alive9 w HT.out.1 HT.out.2.1).mono ?_
  rintro e w1 ⟨rfl, hb1⟩
  have H1 := hid (And.intro hb1 (And.intro (HT.out.1.below hb1 HT.out.1.pos) (HT.out.2.1.below hb1)))
  clear hb1
  by_cases h100 : 60 < len1
  · go_wp2_with fail
    go_ret
    exact ⟨rfl, H1.out.1⟩
  have HNW := hid (show Calls Tryd.prog 6 #[.int .i64 65536, .int .i64 (N : Int)] w1 _ from Pw.new (w0 := w) (G := fun _ => False) 6 N H1.out.2.1 H1.out.2.2 (by decide) (by omega) (by decide) H1.out.1 (fun x h => h.elim))
  go_wp2_with fail
  refine HNW.out.mono ?_
  rintro e w2 ⟨P, rfl, hK, _, h2, _⟩
  have H2 := hid (And.intro h2 hK)
  clear h2 hK HNW H1 hmod
  go_wp2_with fail
  refine (start_get H2.out.1 H2.out.2 (by have := HNN.out; omega)).mono ?_
  rintro e w3 ⟨q, i, B', U', rfl, h3⟩
  have HA := hid (start_at H2.out.1 H2.out.2 h3.out.1 h3.out.2)
  have hbw := h3.out.2.b0.size
  clear h3
  generalize place (cost 2) q i = x at *
  go_wp2_with fail
  refine HA.out.mono ?_
  rintro e w4 ⟨rfl, H4⟩
  clear HA
  generalize w3.heap.size = hb at *
  have HBW := hid hbw
  have H4' := hid H4.out.1
  clear H4 hbw hNI
  go_wp2_with fail
  obtain ⟨G, H5⟩ : ∃ G : Nat → Prop, Fa w (w4.alloc (.cells Tryd.zeroCells32 32)) G P hb x N 1 (fun _ => 0) (fun _ => 0) w4.heap.size := by
    have hbA : Below w4.heap.size w4 (w4.alloc (.cells Tryd.zeroCells32 32)) := (Below.refl _ _).alloc (Nat.le_refl _) _
    refine ⟨_, H4'.out.plus hbA, Wds.new w4 zeros32_run, .inr ⟨Nat.le_refl _, by simp⟩, by have := H4'.out.glt (y := hb) (.inr rfl); omega, fun y hy => ?_⟩
    rcases hy with (hy | rfl) | ⟨hy, _⟩
    · exact hy.elim
    · exact HBW.out
    · have := H4'.out.b0.size; omega
  have H5' := hid H5
  clear H5
  generalize w4.alloc (.cells Tryd.zeroCells32 32) = wa at *
  generalize w4.heap.size = ba at *
  go_loopw [11] (fun t wr => ∃ (i : Nat) (A B : Nat → Nat), t = .int .i64 (i : Int) ∧ i ≤ len1 ∧ Hid (Fa w wr G P hb x N (1 + i) A B ba)) (fun t _ => len1 - (intOf t).toNat)
  case atStart => exact ⟨0, _, _, rfl, Nat.zero_le _, H5'⟩
  case round =>
    obtain ⟨i, A, B, rfl, hi, HFA⟩ := hrel
    clear H5' H4'
    by_cases hin : i = len1
    · subst hin
      have hlv := HFA.out.tz.leaves
      have hle := HFA.out.tz.le_N
      have hle2 : nlA A ≤ mo := by have := HNN.out; omega
      clear hle
      generalize nlA A = nl at *
      have HLV := hid hlv
      clear hlv
      go_wp2_with fail
      refine HLV.out.mono ?_
      rintro e w6 ⟨a6, cap6, rfl, hb6⟩
      have HE := hid (HFA.out.tz.below hb6)
      have hdl : decide ((nl : Int) ≤ (mo : Int)) = true := by simp; omega
      clear hb6
      go_wp2_with fail
      go_ret
      exact ⟨rfl, HE.out.b0⟩
    · have hil : i < len1 := by omega
      obtain ⟨s, o, b, rfl, hs, hb256, hx⟩ := HT.out.2.2.at HFA.out.tz.b0 (Nat.le_refl _) hil
      obtain ⟨mn, hmn⟩ : ∃ mn, mn = nlA A := ⟨_, rfl⟩
      have hmn16 : mn ≤ 16 := by rw [hmn]; exact nlA_le _
      have HMN := hid hmn
      by_cases hE : hasE A (b / 16) = true
      · have HEF := hid hE
        clear hE hmn
        as_aux_lemma =>
          have hb4' : Below wr.heap.size wr (wr.alloc (.cells #[.int .i64 (b : Int)] 3)) := (Below.refl _ _).alloc (Nat.le_refl _) _
          have hne := (HFA.out.tz.below hb4').need [(b : Int)] (some ⟨wr.heap.size, 0, none⟩) 1 (.inr ⟨wr.heap.size, 0, rfl, by simp, fun j hj => by
            have e : j = 0 := by simp at hj; omega
            subst e
            rw [cell_of_row _ _ _ _ _ _ (heap_alloc_new _ _)]; rfl⟩) (by simp)
          rw [need_one hb256, if_pos HEF.out] at hne
          have HNE := hid (show Calls Tryd.prog 16 #[.pointer (some ⟨hb, 0, none⟩), .slice (some ⟨wr.heap.size, 0, none⟩) 1 1] (wr.alloc (.cells #[.int .i64 (b : Int)] 3)) fun e w' => e = .returned (.int .i64 0) ∧ Below wr.heap.size wr w' from hne.mono (fun e w' h => ⟨h.1, hb4'.trans (h.2.mono hb4'.size)⟩))
          clear hne hb4'
          go_wp2_with fail
          refine HNE.out.mono ?_
          rintro e w5 ⟨rfl, hb5⟩
          have H5 := hid (HFA.out.tz.below hb5)
          have hlv := H5.out.leaves
          rw [← HMN.out] at hlv
          have HLV := hid hlv
          have HB5 := hid hb5
          clear hlv hb5 HNE
          go_wp2_with fail
          refine HLV.out.mono ?_
          rintro e w6 ⟨a6, cap6, rfl, hb6⟩
          have HB6 := hid (HB5.out.trans (hb6.mono HB5.out.size))
          clear hb6 HLV
          have hset := tset_any (HFA.out.tz.below HB6.out) (by omega) b (9 + i) 5 hb256 (by omega) (by omega) (by decide)
          rw [show ((9 + i : Nat) : Int) = 9 + (i : Int) by omega] at hset
          have HSET := hid hset
          clear hset
          go_wp2_with fail
          refine HSET.out.mono ?_
          rintro e w7 ⟨er, rfl, hP⟩
          obtain ⟨hkeep, ⟨rfl, _, h7⟩ | ⟨_, hEf, hNf, _⟩⟩ := hP.out
          case inr => exact (show False by have h := HEF.out; rw [hEf] at h; cases h).elim
          have hwd := HFA.out.wd.same (((hkeep ba HFA.out.g).trans (HB6.out.block ba HFA.out.wd.lt)))
          have hfr := hwd.at hb256
          have H7 := hid (And.intro h7 hwd)
          have hbi : (b : Int) < 256 := by omega
          clear hkeep h7 hP hwd HSET
          go_wp2_with fail
          have HF : Hid (Fa w _ G P hb x N (1 + i + 1) (now A b (9 + i)) (now B b 5) ba) := hid ⟨H7.out.1.own HFA.out.g HFA.out.ne HFA.out.lo b (.int .u64 (9 + (i : Int))), by have := H7.out.2.set hb256 (9 + i); rwa [show ((9 + i : Nat) : Int) = 9 + (i : Int) by omega] at this, HFA.out.g, HFA.out.ne, HFA.out.lo⟩
          generalize w7.setCell _ _ = w8 at *
          clear H7 hfr
          have hs9 := HF.out.tz.b0.size
          rename World => w9
          go_loopw [16] (fun t wq => ∃ k : Nat, t = .int .i64 (k : Int) ∧ k ≤ 256 ∧ Hid (Below w9.heap.size w9 wq)) (fun t _ => 256 - (intOf t).toNat)
          case atStart => exact ⟨0, rfl, by omega, Below.refl _ _⟩
          case round =>
            obtain ⟨k, rfl, hk, HB⟩ := hrel
            by_cases hk256 : k = 256
            · subst hk256
              have HF2 := hid (HF.out.tz.below HB.out)
              have HQT := hid HF2.out.quota
              have hus := HF2.out.use
              obtain ⟨nl, hnl⟩ : ∃ nl, nl = nlA (now A b (9 + i)) := ⟨_, rfl⟩
              have hnl16 : nl ≤ 16 := by rw [hnl]; exact nlA_le _
              rw [← hnl, show ((128 + 256 * nl : Nat) : Int) = 128 + 256 * (nl : Int) by omega] at hus
              have HU := hid hus
              have HNL := hid hnl
              clear hus hnl
              go_wp2_with (go_at_call 12; refine HQT.out.mono ?_; rintro e wx ⟨rfl, ex⟩; rw [ex]; clear ex wx)
              refine HU.out.mono ?_
              rintro e w12 ⟨rfl, hb12⟩
              have H12 := hid (HF2.out.below hb12)
              have hlv := H12.out.leaves
              rw [← HNL.out] at hlv
              have HLV := hid hlv
              have HBB := hid (HB.out.trans (hb12.mono HB.out.size))
              clear hlv hb12
              go_wp2_with fail
              refine HLV.out.mono ?_
              rintro e w13 ⟨a13, cap13, rfl, hb13⟩
              have H13 := hid (And.intro (H12.out.below hb13) (HF.out.wd.bel (HBB.out.trans (hb13.mono HBB.out.size))))
              clear hb13
              go_wp2_with fail
              exact ⟨⟨i + 1, _, _, by go_num, by omega, hid ⟨H13.out.1.le (by omega), H13.out.2, HF.out.g, HF.out.ne, HF.out.lo⟩⟩, by simp [intOf]; omega⟩
            · have hk2 : k < 256 := by omega
              have HG := hid ((HF.out.tz.below HB.out).get k hk2)
              have hcell := ((HF.out.wd.bel HB.out).at hk2).1
              obtain ⟨ak, hak⟩ : ∃ ak, ak = (now A b (9 + i)) k := ⟨_, rfl⟩
              obtain ⟨bk, hbk⟩ : ∃ bk, bk = getB2 (now A b (9 + i)) (now B b 5) k := ⟨_, rfl⟩
              rw [← hak, ← hbk] at HG
              rw [← hak] at hcell
              clear hak hbk
              have hnb : wr.heap.size ≤ wr.heap.size := Nat.le_refl _
              go_wp2_with fail
              refine HG.out.mono ?_
              rintro e w14 ⟨rfl, hb14⟩
              have hcell2 := (hb14.cell (p := ⟨ba, k, none⟩) (lt_of_cell hcell)).trans hcell
              have HB14 := hid (HB.out.trans (hb14.mono HB.out.size))
              clear hb14 hcell
              go_wp2_with fail
              exact ⟨⟨k + 1, by go_num, by omega, HB14⟩, by simp [intOf]; omega⟩
      · have hE' : hasE A (b / 16) = false := by simpa using hE
        have HEF := hid hE'
        clear hE hE' hmn
        by_cases hlt : mn < mo
        · have hd1 : decide ((mn : Int) < (mo : Int)) = true := by simp; omega
          have hd2 : decide (mn < mo) = true := by simp; omega
          as_aux_lemma =>
            have hb4' : Below wr.heap.size wr (wr.alloc (.cells #[.int .i64 (b : Int)] 3)) := (Below.refl _ _).alloc (Nat.le_refl _) _
            have hne := (HFA.out.tz.below hb4').need [(b : Int)] (some ⟨wr.heap.size, 0, none⟩) 1 (.inr ⟨wr.heap.size, 0, rfl, by simp, fun j hj => by
              have e : j = 0 := by simp at hj; omega
              subst e
              rw [cell_of_row _ _ _ _ _ _ (heap_alloc_new _ _)]; rfl⟩) (by simp)
            rw [need_one hb256, if_neg (by rw [HEF.out]; decide)] at hne
            have HNE := hid (show Calls Tryd.prog 16 #[.pointer (some ⟨hb, 0, none⟩), .slice (some ⟨wr.heap.size, 0, none⟩) 1 1] (wr.alloc (.cells #[.int .i64 (b : Int)] 3)) fun e w' => e = .returned (.int .i64 1) ∧ Below wr.heap.size wr w' from hne.mono (fun e w' h => ⟨h.1, hb4'.trans (h.2.mono hb4'.size)⟩))
            clear hne hb4'
            go_wp2_with fail
            refine HNE.out.mono ?_
            rintro e w5 ⟨rfl, hb5⟩
            have H5 := hid (HFA.out.tz.below hb5)
            have hlv := H5.out.leaves
            rw [← HMN.out] at hlv
            have HLV := hid hlv
            have HB5 := hid hb5
            clear hlv hb5 HNE
            go_wp2_with fail
            refine HLV.out.mono ?_
            rintro e w6 ⟨a6, cap6, rfl, hb6⟩
            have HB6 := hid (HB5.out.trans (hb6.mono HB5.out.size))
            clear hb6 HLV
            have hset := tset_any (HFA.out.tz.below HB6.out) (by omega) b (9 + i) 5 hb256 (by omega) (by omega) (by decide)
            rw [show ((9 + i : Nat) : Int) = 9 + (i : Int) by omega] at hset
            have HSET := hid hset
            clear hset
            go_wp2_with fail
            refine HSET.out.mono ?_
            rintro e w7 ⟨er, rfl, hP⟩
            obtain ⟨hkeep, ⟨rfl, _, h7⟩ | ⟨_, hEf, hNf, _⟩⟩ := hP.out
            case inr => exact (show False by have := HNN.out; have := HMN.out; omega).elim
            have hwd := HFA.out.wd.same (((hkeep ba HFA.out.g).trans (HB6.out.block ba HFA.out.wd.lt)))
            have hfr := hwd.at hb256
            have H7 := hid (And.intro h7 hwd)
            have hbi : (b : Int) < 256 := by omega
            clear hkeep h7 hP hwd HSET
            go_wp2_with fail
            have HF : Hid (Fa w _ G P hb x N (1 + i + 1) (now A b (9 + i)) (now B b 5) ba) := hid ⟨H7.out.1.own HFA.out.g HFA.out.ne HFA.out.lo b (.int .u64 (9 + (i : Int))), by have := H7.out.2.set hb256 (9 + i); rwa [show ((9 + i : Nat) : Int) = 9 + (i : Int) by omega] at this, HFA.out.g, HFA.out.ne, HFA.out.lo⟩
            generalize w7.setCell _ _ = w8 at *
            clear H7 hfr
            have hs9 := HF.out.tz.b0.size
            rename World => w9
            go_loopw [16] (fun t wq => ∃ k : Nat, t = .int .i64 (k : Int) ∧ k ≤ 256 ∧ Hid (Below w9.heap.size w9 wq)) (fun t _ => 256 - (intOf t).toNat)
            case atStart => exact ⟨0, rfl, by omega, Below.refl _ _⟩
            case round =>
              obtain ⟨k, rfl, hk, HB⟩ := hrel
              by_cases hk256 : k = 256
              · subst hk256
                have HF2 := hid (HF.out.tz.below HB.out)
                have HQT := hid HF2.out.quota
                have hus := HF2.out.use
                obtain ⟨nl, hnl⟩ : ∃ nl, nl = nlA (now A b (9 + i)) := ⟨_, rfl⟩
                have hnl16 : nl ≤ 16 := by rw [hnl]; exact nlA_le _
                rw [← hnl, show ((128 + 256 * nl : Nat) : Int) = 128 + 256 * (nl : Int) by omega] at hus
                have HU := hid hus
                have HNL := hid hnl
                clear hus hnl
                go_wp2_with (go_at_call 12; refine HQT.out.mono ?_; rintro e wx ⟨rfl, ex⟩; rw [ex]; clear ex wx)
                refine HU.out.mono ?_
                rintro e w12 ⟨rfl, hb12⟩
                have H12 := hid (HF2.out.below hb12)
                have hlv := H12.out.leaves
                rw [← HNL.out] at hlv
                have HLV := hid hlv
                have HBB := hid (HB.out.trans (hb12.mono HB.out.size))
                clear hlv hb12
                go_wp2_with fail
                refine HLV.out.mono ?_
                rintro e w13 ⟨a13, cap13, rfl, hb13⟩
                have H13 := hid (And.intro (H12.out.below hb13) (HF.out.wd.bel (HBB.out.trans (hb13.mono HBB.out.size))))
                clear hb13
                go_wp2_with fail
                exact ⟨⟨i + 1, _, _, by go_num, by omega, hid ⟨H13.out.1.le (by omega), H13.out.2, HF.out.g, HF.out.ne, HF.out.lo⟩⟩, by simp [intOf]; omega⟩
              · have hk2 : k < 256 := by omega
                have HG := hid ((HF.out.tz.below HB.out).get k hk2)
                have hcell := ((HF.out.wd.bel HB.out).at hk2).1
                obtain ⟨ak, hak⟩ : ∃ ak, ak = (now A b (9 + i)) k := ⟨_, rfl⟩
                obtain ⟨bk, hbk⟩ : ∃ bk, bk = getB2 (now A b (9 + i)) (now B b 5) k := ⟨_, rfl⟩
                rw [← hak, ← hbk] at HG
                rw [← hak] at hcell
                clear hak hbk
                have hnb : wr.heap.size ≤ wr.heap.size := Nat.le_refl _
                go_wp2_with fail
                refine HG.out.mono ?_
                rintro e w14 ⟨rfl, hb14⟩
                have hcell2 := (hb14.cell (p := ⟨ba, k, none⟩) (lt_of_cell hcell)).trans hcell
                have HB14 := hid (HB.out.trans (hb14.mono HB.out.size))
                clear hb14 hcell
                go_wp2_with fail
                exact ⟨⟨k + 1, by go_num, by omega, HB14⟩, by simp [intOf]; omega⟩
        · have hd1 : decide ((mn : Int) < (mo : Int)) = false := by simp; omega
          have hd2 : decide (mn < mo) = false := by simp; omega
          have HNF := hid (show ¬ 128 + 256 * (nlA A + 1) ≤ N by rw [← HMN.out]; have := HNN.out; omega)
          as_aux_lemma =>
            have hb4' : Below wr.heap.size wr (wr.alloc (.cells #[.int .i64 (b : Int)] 3)) := (Below.refl _ _).alloc (Nat.le_refl _) _
            have hne := (HFA.out.tz.below hb4').need [(b : Int)] (some ⟨wr.heap.size, 0, none⟩) 1 (.inr ⟨wr.heap.size, 0, rfl, by simp, fun j hj => by
              have e : j = 0 := by simp at hj; omega
              subst e
              rw [cell_of_row _ _ _ _ _ _ (heap_alloc_new _ _)]; rfl⟩) (by simp)
            rw [need_one hb256, if_neg (by rw [HEF.out]; decide)] at hne
            have HNE := hid (show Calls Tryd.prog 16 #[.pointer (some ⟨hb, 0, none⟩), .slice (some ⟨wr.heap.size, 0, none⟩) 1 1] (wr.alloc (.cells #[.int .i64 (b : Int)] 3)) fun e w' => e = .returned (.int .i64 1) ∧ Below wr.heap.size wr w' from hne.mono (fun e w' h => ⟨h.1, hb4'.trans (h.2.mono hb4'.size)⟩))
            clear hne hb4'
            go_wp2_with fail
            refine HNE.out.mono ?_
            rintro e w5 ⟨rfl, hb5⟩
            have H5 := hid (HFA.out.tz.below hb5)
            have hlv := H5.out.leaves
            rw [← HMN.out] at hlv
            have HLV := hid hlv
            have HB5 := hid hb5
            clear hlv hb5 HNE
            go_wp2_with fail
            refine HLV.out.mono ?_
            rintro e w6 ⟨a6, cap6, rfl, hb6⟩
            have HB6 := hid (HB5.out.trans (hb6.mono HB5.out.size))
            clear hb6 HLV
            have hset := tset_any (HFA.out.tz.below HB6.out) (by omega) b (9 + i) 5 hb256 (by omega) (by omega) (by decide)
            rw [show ((9 + i : Nat) : Int) = 9 + (i : Int) by omega] at hset
            have HSET := hid hset
            clear hset
            go_wp2_with fail
            refine HSET.out.mono ?_
            rintro e w7 ⟨er, rfl, hP⟩
            obtain ⟨hkeep, ⟨_, hor, _⟩ | ⟨rfl, _, _, h7⟩⟩ := hP.out
            case inl => exact (by rcases hor with h | h; (rw [HEF.out] at h; cases h); (have := HNF.out; have := HNN.out; omega) : False).elim
            have hwd := HFA.out.wd.same (((hkeep ba HFA.out.g).trans (HB6.out.block ba HFA.out.wd.lt)))
            have H7 := hid (And.intro h7 hwd)
            have hlv7 := h7.leaves
            rw [← HMN.out] at hlv7
            have HLV7 := hid hlv7
            clear hkeep h7 hP hwd HSET hlv7
            go_wp2_with fail
            refine HLV7.out.mono ?_
            rintro e w8 ⟨a8, cap8, rfl, hb8⟩
            have HF : Hid (Fa w w8 G P hb x N (1 + i + 1) A B ba) := hid ⟨H7.out.1.below hb8, H7.out.2.bel hb8, HFA.out.g, HFA.out.ne, HFA.out.lo⟩
            clear hb8 H7 HLV7
            go_wp2_with fail
            have hs9 := HF.out.tz.b0.size
            rename World => w9
            go_loopw [16] (fun t wq => ∃ k : Nat, t = .int .i64 (k : Int) ∧ k ≤ 256 ∧ Hid (Below w9.heap.size w9 wq)) (fun t _ => 256 - (intOf t).toNat)
            case atStart => exact ⟨0, rfl, by omega, Below.refl _ _⟩
            case round =>
              obtain ⟨k, rfl, hk, HB⟩ := hrel
              by_cases hk256 : k = 256
              · subst hk256
                have HF2 := hid (HF.out.tz.below HB.out)
                have HQT := hid HF2.out.quota
                have hus := HF2.out.use
                obtain ⟨nl, hnl⟩ : ∃ nl, nl = nlA (A) := ⟨_, rfl⟩
                have hnl16 : nl ≤ 16 := by rw [hnl]; exact nlA_le _
                rw [← hnl, show ((128 + 256 * nl : Nat) : Int) = 128 + 256 * (nl : Int) by omega] at hus
                have HU := hid hus
                have HNL := hid hnl
                clear hus hnl
                go_wp2_with (go_at_call 12; refine HQT.out.mono ?_; rintro e wx ⟨rfl, ex⟩; rw [ex]; clear ex wx)
                refine HU.out.mono ?_
                rintro e w12 ⟨rfl, hb12⟩
                have H12 := hid (HF2.out.below hb12)
                have hlv := H12.out.leaves
                rw [← HNL.out] at hlv
                have HLV := hid hlv
                have HBB := hid (HB.out.trans (hb12.mono HB.out.size))
                clear hlv hb12
                go_wp2_with fail
                refine HLV.out.mono ?_
                rintro e w13 ⟨a13, cap13, rfl, hb13⟩
                have H13 := hid (And.intro (H12.out.below hb13) (HF.out.wd.bel (HBB.out.trans (hb13.mono HBB.out.size))))
                clear hb13
                go_wp2_with fail
                exact ⟨⟨i + 1, _, _, by go_num, by omega, hid ⟨H13.out.1.le (by omega), H13.out.2, HF.out.g, HF.out.ne, HF.out.lo⟩⟩, by simp [intOf]; omega⟩
              · have hk2 : k < 256 := by omega
                have HG := hid ((HF.out.tz.below HB.out).get k hk2)
                have hcell := ((HF.out.wd.bel HB.out).at hk2).1
                obtain ⟨ak, hak⟩ : ∃ ak, ak = (A) k := ⟨_, rfl⟩
                obtain ⟨bk, hbk⟩ : ∃ bk, bk = getB2 (A) (B) k := ⟨_, rfl⟩
                rw [← hak, ← hbk] at HG
                rw [← hak] at hcell
                clear hak hbk
                have hnb : wr.heap.size ≤ wr.heap.size := Nat.le_refl _
                go_wp2_with fail
                refine HG.out.mono ?_
                rintro e w14 ⟨rfl, hb14⟩
                have hcell2 := (hb14.cell (p := ⟨ba, k, none⟩) (lt_of_cell hcell)).trans hcell
                have HB14 := hid (HB.out.trans (hb14.mono HB.out.size))
                clear hb14 hcell
                go_wp2_with fail
                exact ⟨⟨k + 1, by go_num, by omega, HB14⟩, by simp [intOf]; omega⟩
end Go.Proofs.YthpkmegjbehgaaaDoor
