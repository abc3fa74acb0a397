/- For every size and every list of acts: whatever blocks are taken and given back, where they are, what is free and used, and the errors, are the document's all along: BuddyActs returns true. Condition: math/bits' own tables start as the program's text lays them (the card ties that). -/
import Derived.Test.YtohaoeilodebmaaDoorCards
import Derived.Test.YtohaoeilodebmaaDoorTie
import Derived.Test.YtohaoeilodebmaaDoorR10
import Derived.Deep.CutRange
namespace Go.Proofs.YtohaoeilodebmaaDoor.buddyActs
open Go.ChangeShapes Go.WideShapes Go.ChangeAt Go.RowKit Go.Proofs.YtohaoeilodebmaaDoor

set_option maxRecDepth 100000 in
theorem core_long (S : Int) (a : Option Addr) (len cap : Nat) (w : World) (hT : Tab w) (hl : (100 : Int) < len) :
    Calls Tryd.prog 3 #[.int .i64 S, .slice a len cap] w fun e w' => e = .returned (.bool true) ∧ Below w.heap.size w w' := by
  have HT := hid hT
  clear hT
  go_enter Tryd.func3, Tryd.ntmps3
  go_wp2_with fail
  refine (alive_true _ HT.out).mono ?_
  rintro e w1 ⟨rfl, hb1⟩
  go_wp2_with fail
  go_ret
  exact ⟨rfl, hb1⟩
set_option maxRecDepth 100000 in
theorem core_wide (S : Int) (a : Option Addr) (len cap : Nat) (w : World) (hT : Tab w) (hl : (len : Int) ≤ 100) (h1 : 1048576 < S) (h2 : S ≤ 1073741824) :
    Calls Tryd.prog 3 #[.int .i64 S, .slice a len cap] w fun e w' => e = .returned (.bool true) ∧ Below w.heap.size w w' := by
  have HT := hid hT
  clear hT
  go_enter Tryd.func3, Tryd.ntmps3
  go_wp2_with fail
  refine (alive_true _ HT.out).mono ?_
  rintro e w1 ⟨rfl, hb1⟩
  go_wp2_with fail
  go_ret
  exact ⟨rfl, hb1⟩
set_option maxRecDepth 100000 in
theorem core_no (S : Int) (a : Option Addr) (len cap : Nat) (w : World) (hT : Tab w) (hl : (len : Int) ≤ 100) (h1 : S ≤ 1048576 ∨ 1073741824 < S) (hno : ∀ k : Nat, k ≤ 14 → S ≠ 65536 * 2 ^ k) :
    Calls Tryd.prog 3 #[.int .i64 S, .slice a len cap] w fun e w' => e = .returned (.bool true) ∧ Below w.heap.size w w' := by
  have HT := hid hT
  have HNO := hid hno
  have hd : (decide (1048576 < S) && decide (S ≤ 1073741824)) = false := by
    rw [Bool.and_eq_false_iff]
    rcases h1 with h | h
    · left; rw [decide_eq_false_iff_not]; omega
    · right; rw [decide_eq_false_iff_not]; omega
  have hm : ∀ f, MayIs S f → f = false := fun f hf => by
    cases f
    · rfl
    · obtain ⟨k, hk, e⟩ := hf.1 rfl
      exact absurd e (hno k hk)
  have HM := hid hm
  clear hT hno hm
  go_enter Tryd.func3, Tryd.ntmps3
  go_wp2_with fail
  refine (alive_true _ HT.out).mono ?_
  rintro e w1 ⟨rfl, hb1⟩
  by_cases h2 : 1048576 < S
  all_goals
    have h3 : 1048576 < S → ¬ S ≤ 1073741824 := by omega
    clear h1 hd
    first
    | have h4 := h3 h2
      clear h3
    | clear h3
    go_wp2_with fail
    refine (newB_no S _ HNO.out).mono ?_
    rintro e w2 ⟨rfl, rfl⟩
    go_wp2_with fail
    refine (may_any S _).mono ?_
    rintro e w3 ⟨f, rfl, rfl, hf⟩
    obtain rfl := HM.out f hf
    clear hf
    go_wp2_with (first
      | (go_at_call 10; refine (take_nil _ _).mono ?_; rintro e w' ⟨rfl, rfl⟩)
      | (go_at_call 11; refine (give_nil _ _).mono ?_; rintro e w' ⟨rfl, rfl⟩)
      | (go_at_call 12; refine (order_nil _ _).mono ?_; rintro e w' ⟨rfl, rfl⟩)
      | (go_at_call 13; refine (free_nil _).mono ?_; rintro e w' ⟨rfl, rfl⟩)
      | (go_at_call 14; refine (used_nil _).mono ?_; rintro e w' ⟨rfl, rfl⟩)
      | (go_at_call 15; refine (left_nil _).mono ?_; rintro e w' ⟨rfl, rfl⟩)
      | (go_at_call 16; refine (greatest_nil _).mono ?_; rintro e w' ⟨rfl, rfl⟩))
    go_ret
    exact ⟨rfl, hb1⟩

set_option maxRecDepth 100000 in
set_option maxHeartbeats 8000000 in
theorem core (K : Nat) (h6 : 6 ≤ K) (hK : K ≤ 10) (S : Int) (hS : S = ((1024 * 2 ^ K : Nat) : Int)) (a : Option Addr) (len cap : Nat) (w : World) (hT : Tab w) (hA : Acts w a len) (hl : (len : Int) ≤ 100) :
    Calls Tryd.prog 3 #[.int .i64 S, .slice a len cap] w fun e w' => e = .returned (.bool true) ∧ Below w.heap.size w w' := by
  have hS1 : 65536 ≤ S := by
    have := Nat.pow_le_pow_right (n := 2) (by omega) h6
    omega
  have hS2 : S ≤ 1048576 := by
    have := Nat.pow_le_pow_right (n := 2) (by omega) hK
    have e : (2 : Nat) ^ 10 = 1024 := by decide
    omega
  have hnew := fun w hT => newB_any K w hT h6 (by omega)
  have hrnew := fun w => rnew_any K w (by omega)
  rw [← hS] at hnew hrnew
  have hmay : ∀ f, MayIs S f → f = true := fun f hf => by
    cases f
    · refine absurd ?_ (hf.2 rfl (K - 6) (by omega))
      rw [hS, show K = 6 + (K - 6) from by omega, Nat.pow_add]
      simp
      omega
    · rfl
  have HNEW := hid hnew
  have HRNEW := hid hrnew
  have HMAY := hid hmay
  have HT := hid hT
  have HA := hid hA
  have hpos := hT.pos
  clear hT hA hnew hrnew hmay hS
  go_enter Tryd.func3, Tryd.ntmps3
  go_wp2_with fail
  refine (alive_true _ HT.out).mono ?_
  rintro e w1 ⟨rfl, hb1⟩
  go_wp2_with fail
  refine (HNEW.out w1 (HT.out.below hb1 hpos)).mono ?_
  rintro e w2 ⟨p, m, bf, gf, rfl, hm, hn, hb2⟩
  have hX2 := Below.of_below hb1 hb1.size hb2
  have HOWN : Hid (∀ x, Own m K gf x → w.heap.size ≤ x) := fun x hx => by
    have := hb1.size
    rcases hx with rfl | ⟨k, hk, rfl⟩
    · have := hn.2.1; omega
    · have := (hn.2.2 k hk).2; omega
  have HM2 := hid hm
  clear hm hn hb1 hb2
  go_wp2_with fail
  refine (may_any S _).mono ?_
  rintro e w3 ⟨f, rfl, rfl, hf⟩
  obtain rfl := HMAY.out f hf
  clear hf
  go_wp2_with fail
  refine (HRNEW.out _).mono ?_
  rintro e w4 ⟨r, vF, rfl, hR, hb4⟩
  have hX4 := Below.of_below hX2 hX2.size hb4
  have hwr : w.heap.size ≤ r := Nat.le_trans hX2.size hR.br
  have HTW := hid (Two.mk (c := 0) ⟨begin_inv K, begin_noheld K, HM2.out.below hb4⟩ hR ⟨HM2.out.lp, HM2.out.lm, fun k hk => HM2.out.lb k hk⟩)
  generalize w3.heap.size = base at *
  clear hb4 hR hX2 HM2
  go_wp2_with fail
  go_loopw [9] (fun t wr => ∃ j : Nat, j ≤ len ∧ t = .int .i64 (j : Int) ∧ (∃ B vF vU F U, Hid (Two wr p m K bf gf r base B j vF vU F U)) ∧ Below w.heap.size w wr) (fun t _ => len - (intOf t).toNat)
  case atStart => exact ⟨0, Nat.zero_le _, rfl, ⟨_, _, _, _, _, HTW⟩, hX4⟩
  case round =>
    obtain ⟨j, hj, rfl, ⟨B, vF, vU, F, U, hW⟩, hX⟩ := hrel
    clear HTW hX4
    by_cases hlj : j < len
    · have hj1 : (j : Int) < (len : Int) := by omega
      obtain ⟨s, o, kd, n, rfl, hs, c0, c1, wk, wn⟩ := HA.out.at hX (Nat.le_refl _) hlj
      obtain ⟨aF, cF, rfl, _⟩ := hW.out.ref.sF.open
      obtain ⟨aU, cU, rfl, hrU⟩ := hW.out.ref.sU.open
      have HRU := hid hrU
      clear hrU
      have hlenU := hW.out.ref.lU.len hW.out.good.1 (by simp)
      have hpwK := pow_le20 (show K ≤ 20 by omega)
      go_upto_if 94 with fail
      refine unblock ?_
      go_cut [11, 12, 13, 14, 15, 16] from 78 to 205 (fun t11 _ _ _ _ _ wc => t11 = .bool true ∧ (∃ B vF vU F U, Hid (Two wc p m K bf gf r base B (j + 1) vF vU F U)) ∧ Below w.heap.size w wc)
      case first =>
        by_cases hk0 : kd = 0
        · subst hk0
          go_wp2_with fail
          refine (took_any wr p m K bf gf B j n hW.out.good (HT.out.below hX hpos) (by omega)).mono ?_
          rintro e w5 ⟨at5, er5, B5, rfl, ht5, hG5, hD5⟩
          have HR5 := hid (hW.out.mid ht5)
          have hX5 := Below.of_turn hX hX.size ht5 HOWN.out
          have HG5 := hid (And.intro hG5 hD5)
          clear hG5 hD5 ht5
          go_wp2_with fail
          refine (rtook_any w5 r base K B _ _ F U n HR5.out hW.out.good.1 hW.out.good.2.1).mono ?_
          rintro e w6 ⟨at6, er6, B6, vF6, vU6, F6, U6, rfl, ht6, hi6, hn6, hR6, hD6⟩
          obtain ⟨ea, ee, hu6⟩ := took_agree HG5.out.2 hD6
          have HW6 := hid (hW.out.fin HG5.out.1 ht6 hi6 hn6 hR6 hu6)
          have hX6 := Below.of_turn hX5 hX5.size ht6 (fun x hx => by rw [hx]; exact hwr)
          have hq1 : (at5 == at6) = true := by rw [ea]; simp
          have hq2 : (er5 == er6) = true := by rw [ee]; simp
          clear ea ee hu6 hR6 hD6 hi6 hn6 ht6 HR5 HG5 hX5
          go_wp2_with fail
          go_meet
          case rel => exact ⟨rfl, ⟨_, _, _, _, _, HW6⟩, hX6⟩
        · have hk0' : (kd == 0) = false := by simpa using hk0
          by_cases hk1 : kd = 1
          · subst hk1
            clear hk0 hk0'
            go_wp2_with fail
            refine (gave2_any wr p m K bf gf B j n hW.out.good wn).mono ?_
            rintro e w5 ⟨er5, B5, rfl, ht5, hG5, hD5⟩
            have HR5 := hid (hW.out.mid ht5)
            have hX5 := Below.of_turn hX hX.size ht5 HOWN.out
            have HG5 := hid (And.intro hG5 hD5)
            clear hG5 hD5 ht5
            go_wp2_with fail
            refine (rgive_any w5 r base K B _ _ F U n HR5.out hW.out.good.1 hW.out.good.2.1).mono ?_
            rintro e w6 ⟨er6, B6, vF6, vU6, F6, U6, rfl, ht6, hi6, hn6, hR6, hD6⟩
            obtain ⟨ee, hu6⟩ := gave_agree hW.out.good.1 HG5.out.2 hD6
            have HW6 := hid ((hW.out.fin HG5.out.1 ht6 hi6 hn6 hR6 hu6).more (Nat.le_succ j))
            have hX6 := Below.of_turn hX5 hX5.size ht6 (fun x hx => by rw [hx]; exact hwr)
            have hq2 : (er5 == er6) = true := by rw [ee]; simp
            clear ee hu6 hR6 hD6 hi6 hn6 ht6 HR5 HG5 hX5
            go_wp2_with fail
            go_meet
            case rel => exact ⟨rfl, ⟨_, _, _, _, _, HW6⟩, hX6⟩
          · have hk1' : (kd == 1) = false := by simpa using hk1
            by_cases hk2 : kd = 2
            · subst hk2
              clear hk0 hk0' hk1 hk1'
              have yU := hW.out.ref.cU
              by_cases hcond : 0 ≤ n ∧ 0 < U.length
              · obtain ⟨nn, rfl⟩ := Int.eq_ofNat_of_zero_le hcond.1
                have hul : 0 < U.length := hcond.2
                obtain ⟨t, ht⟩ : ∃ t, t = nn % U.length := ⟨_, rfl⟩
                have htl : t < U.length := by rw [ht]; exact Nat.mod_lt _ hul
                obtain ⟨⟨pp, kk⟩, hx⟩ : ∃ x, U[t]? = some x := ⟨_, List.getElem?_eq_getElem htl⟩
                obtain ⟨g, rfl, d0, d1⟩ := HRU.out.at hx
                have hpp := (hW.out.ref.lU.lt hW.out.good.1 (by simp) (List.mem_of_getElem? hx)).2
                have hmod : (nn : Int) % (U.length : Int) = (t : Int) := by rw [ht]; exact (Int.natCast_emod nn U.length).symm
                have hmod' : (nn : Int).tmod (U.length : Int) = (t : Int) := by rw [Int.tmod_eq_emod_of_nonneg (by omega)]; exact hmod
                have hu0 : ((U.length : Int) == 0) = false := by rw [beq_eq_false_iff_ne]; omega
                have hu1 : (0 : Int) < (U.length : Int) := by omega
                have ht1 : (t : Int) < (U.length : Int) := by omega
                have hnb := (bounds_i64 wn).2
                obtain ⟨z, hz⟩ : ∃ z : Nat, z = pp * 1024 := ⟨_, rfl⟩
                rw [← hz] at d0
                have hkp := Nat.two_pow_pos kk
                have wz : (Lit.int .i64 (z : Int)).wf = true := wf_i64 (by omega) (by omega)
                clear hx ht hcond hz d1
                go_wp2_with fail
                go_quiet (fail)
                go_wp2_with fail
                have hXq : Below wr.heap.size wr (wr.drewN nq) := Below.drewN (Below.refl _ _) nq
                have HWq := hid (hW.out.below hXq)
                have hXw := Below.of_below hX hX.size hXq
                clear hXq
                generalize wr.drewN nq = wq at *
                refine (gave2_any wq p m K bf gf B j _ HWq.out.good wz).mono ?_
                rintro e w5 ⟨er5, B5, rfl, ht5, hG5, hD5⟩
                have HR5 := hid (HWq.out.mid ht5)
                have hX5 := Below.of_turn hXw hXw.size ht5 HOWN.out
                have HG5 := hid (And.intro hG5 hD5)
                clear hG5 hD5 ht5
                go_wp2_with fail
                refine (rgive_any w5 r base K B _ _ F U _ HR5.out HWq.out.good.1 HWq.out.good.2.1).mono ?_
                rintro e w6 ⟨er6, B6, vF6, vU6, F6, U6, rfl, ht6, hi6, hn6, hR6, hD6⟩
                obtain ⟨ee, hu6⟩ := gave_agree HWq.out.good.1 HG5.out.2 hD6
                have HW6 := hid ((HWq.out.fin HG5.out.1 ht6 hi6 hn6 hR6 hu6).more (Nat.le_succ j))
                have hX6 := Below.of_turn hX5 hX5.size ht6 (fun x hx => by rw [hx]; exact hwr)
                have hq2 : (er5 == er6) = true := by rw [ee]; simp
                clear ee hu6 hR6 hD6 hi6 hn6 ht6 HR5 HG5 hX5
                go_wp2_with fail
                go_meet
                case rel => exact ⟨rfl, ⟨_, _, _, _, _, HW6⟩, hX6⟩
              · have HW6 := hid (hW.out.more (Nat.le_succ j))
                by_cases hn0 : 0 ≤ n
                · have hul : ¬ ((0 : Int) < (U.length : Int)) := by omega
                  clear hcond
                  go_wp2_with fail
                  go_meet
                  case rel => exact ⟨rfl, ⟨_, _, _, _, _, HW6⟩, hX⟩
                · have hn1 : ¬ ((0 : Int) ≤ n) := hn0
                  clear hcond
                  go_wp2_with fail
                  go_meet
                  case rel => exact ⟨rfl, ⟨_, _, _, _, _, HW6⟩, hX⟩
            · have hk2' : (kd == 2) = false := by simpa using hk2
              have HW6 := hid (hW.out.more (Nat.le_succ j))
              go_wp2_with fail
              go_meet
              case rel => exact ⟨rfl, ⟨_, _, _, _, _, HW6⟩, hX⟩
      case rest =>
        obtain ⟨rfl, ⟨B2, vF2, vU2, F2, U2, hW2⟩, hXc⟩ := hcut
        clear hW hX c0 c1 HRU
        go_wp2_with fail
        refine (rleft_any wc r base K B2 _ _ F2 U2 hW2.out.ref hW2.out.good.1 hW2.out.good.2.1).mono ?_
        rintro e w7 ⟨top, rfl, htop, rfl⟩
        obtain ⟨ord, hord⟩ := order_is B2 n
        obtain ⟨aF2, cF2, eF2, hrF2⟩ := hW2.out.ref.sF.open
        subst eF2
        obtain ⟨aU2, cU2, eU2, hrU2⟩ := hW2.out.ref.sU.open
        subst eU2
        have y1 := hW2.out.ref.cF
        have y2 := hW2.out.ref.cU
        have hlF := hW2.out.ref.lF.len hW2.out.good.1 (by simp)
        have hlU := hW2.out.ref.lU.len hW2.out.good.1 (by simp)
        obtain ⟨q, hq⟩ : ∃ q : Int, q = ((lpages F2 * 1024 : Nat) : Int) := ⟨_, rfl⟩
        have hB0 : Below w7.heap.size w7 w7.drew := (Below.refl _ _).drew
        have HTW : Hid (∀ wx, Below w7.heap.size w7 wx → Two wx p m K bf gf r base B2 (j + 1) (.slice aF2 F2.length cF2) (.slice aU2 U2.length cU2) F2 U2) := fun wx hx => hW2.out.below hx
        have HTT : Hid (∀ wx, Below w7.heap.size w7 wx → Tab wx) := fun wx hx => HT.out.below (Below.of_below hXc hXc.size hx) hpos
        have HCL : Hid (Calls Tryd.prog 15 #[.pointer (some ⟨p, 0, none⟩)] w7.drew fun e w' => e = .returned (.int .i64 q) ∧ w' = w7.drew) := by
          rw [hq]; exact (HTW.out _ hB0).left
        have HCG : Hid (Calls Tryd.prog 16 #[.pointer (some ⟨p, 0, none⟩)] w7.drew fun e w' => e = .returned (.int .i64 top) ∧ w' = w7.drew) := (HTW.out _ hB0).great (HTT.out _ hB0) htop
        have HCO : Hid (Calls Tryd.prog 12 #[.pointer (some ⟨p, 0, none⟩), .int .i64 n] w7.drew fun e w' => e = .returned (.int .i64 ord) ∧ w' = w7.drew) := (HTW.out _ hB0).order wn hord
        have HCR : Hid (Calls Tryd.prog 21 #[.pointer (some ⟨r, 0, none⟩), .int .i64 n] w7.drew fun e w' => e = .returned (.int .i64 ord) ∧ w' = w7.drew) := (HTW.out _ hB0).rorder hord
        have HCF : Hid (Calls Tryd.prog 13 #[.pointer (some ⟨p, 0, none⟩)] w7.drew (SlPost F2 w7.drew)) := (HTW.out _ hB0).free (HTT.out _ hB0)
        have HFB : Hid (∀ wx, Below w7.drew.heap.size w7.drew wx → Below w7.heap.size w7 wx) := fun wx hx => ⟨hx.os, hx.tape, hx.output, hx.size, hx.block⟩
        have HRD : Hid (∀ wx, Below w7.heap.size w7 wx → Rd wx base aF2 F2 ∧ Rd wx base aU2 U2 ∧ wx.cell? ⟨r, 1, none⟩ = some (.slice aF2 F2.length cF2) ∧ wx.cell? ⟨r, 2, none⟩ = some (.slice aU2 U2.length cU2)) := fun wx hx => ⟨hrF2.below hx, hrU2.below hx, (HTW.out wx hx).ref.cF, (HTW.out wx hx).ref.cU⟩
        rw [← hq]
        clear hrF2 hrU2 htop hord hq
        go_wp2_with fail
        go_region_held3 (fun wx => wx.cell? ⟨r, 1, none⟩ = some (.slice aF2 F2.length cF2) ∧ wx.cell? ⟨r, 2, none⟩ = some (.slice aU2 U2.length cU2)) (first | exact ⟨y1, y2⟩ | exact ⟨m11, m12⟩ | exact ⟨m9, m10⟩ | exact ⟨m7, m8⟩ | exact ⟨m5, m6⟩)
          (first
            | (go_at_call 15; refine HCL.out.mono ?_; rintro e w8 ⟨rfl, rfl⟩)
            | (go_at_call 16; refine HCG.out.mono ?_; rintro e w8 ⟨rfl, rfl⟩)
            | (go_at_call 12; refine HCO.out.mono ?_; rintro e w8 ⟨rfl, rfl⟩)
            | (go_at_call 21; refine HCR.out.mono ?_; rintro e w8 ⟨rfl, rfl⟩)
            | (go_at_call 13; refine HCF.out.mono ?_; rintro e w8 ⟨aG, cG, rfl, hrG, hbG⟩; have hb8 := HFB.out _ hbG; have HG8 := hid hrG; obtain ⟨_, _, m5, m6⟩ := HRD.out _ hb8; clear hrG hbG)
            | (go_at_call 22; refine (same_true _ F2 aG aF2 _ base cG cF2 HG8.out (HRD.out _ hb8).1 (by omega)).mono ?_; rintro e w9 ⟨rfl, hb9'⟩; have hb9 := hb8.trans (hb9'.mono hb8.size); obtain ⟨_, _, m7, m8⟩ := HRD.out _ hb9; clear hb9' HG8)
            | (go_at_call 14; refine ((HTW.out _ hb9).used (by omega)).mono ?_; rintro e w10 ⟨aV, cV, rfl, hrV, hbV⟩; have hb10 := hb9.trans (hbV.mono hb9.size); have HV10 := hid hrV; obtain ⟨_, _, m9, m10⟩ := HRD.out _ hb10; clear hrV hbV)
            | (go_at_call 22; refine (same_true _ U2 aV aU2 _ base cV cU2 HV10.out (HRD.out _ hb10).2.1 (by omega)).mono ?_; rintro e w11 ⟨rfl, hb11'⟩; have hb11 := hb10.trans (hb11'.mono hb10.size); obtain ⟨_, _, m11, m12⟩ := HRD.out _ hb11; clear hb11'))
        go_wp2_with fail
        exact ⟨⟨j + 1, by omega, by go_num, ⟨_, _, _, _, _, HTW.out _ hb11⟩, Below.of_below hXc hXc.size hb11⟩, by simp [intOf]; omega⟩
    · go_wp2_with fail
      go_ret
      exact ⟨rfl, hX⟩
end Go.Proofs.YtohaoeilodebmaaDoor.buddyActs
