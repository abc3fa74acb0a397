/- For every limit and every list of acts: whatever is carved, closed, charged and refunded, all uses, limits, numbers and errors are the document's all along: QuotaActs returns true. Conditions: none. -/
import Derived.Test.YtlgceknfphholaaT
import Derived.Test.YtlgceknfphholaaRows
import Derived.Deep.CutRange
namespace Go.Proofs.Ytlgceknfphholaa.quotaActs
open Go.ChangeShapes Go.WideShapes Go.ChangeAt Go.RowKit Go.Proofs.Ytlgceknfphholaa

set_option maxRecDepth 100000 in
theorem core_long (n : Int) (a : Option Addr) (len cap : Nat) (w : World) (hl : (100 : Int) < (len : Int)) :
    Calls Try.prog 3 #[.int .i64 n, .slice a len cap] w fun e w' => e = .returned (.bool true) ∧ Below w.heap.size w w' := by
  go_enter Try.func3, Try.ntmps3
  go_wp2_with fail
  refine (alive_true _).mono ?_
  rintro e w1 ⟨rfl, hb1⟩
  go_wp2_with fail
  go_ret
  exact ⟨rfl, hb1⟩
set_option maxRecDepth 100000 in
set_option maxHeartbeats 1000000 in
theorem core_nil (n : Int) (a : Option Addr) (len cap : Nat) (w : World) (h : n < 0 ∨ 1073741824 < n) (hl : (len : Int) ≤ 100) :
    Calls Try.prog 3 #[.int .i64 n, .slice a len cap] w fun e w' => e = .returned (.bool true) ∧ Below w.heap.size w w' := by
  have HN := hid (fun w => new_bad n w h)
  have HM := hid (fun w => may_no n w h)
  have hdl : decide ((100 : Int) < (len : Int)) = false := decide_eq_false (by omega)
  clear h
  go_enter Try.func3, Try.ntmps3
  go_wp2_with (first
    | (go_at_call 8; refine (alive_true _).mono ?_; rintro e w1 ⟨rfl, hb1⟩)
    | (go_at_call 9; refine (HN.out _).mono ?_; rintro e w' ⟨rfl, rfl⟩)
    | (go_at_call 10; refine (HM.out _).mono ?_; rintro e w' ⟨rfl, rfl⟩)
    | (go_at_call 11; refine (carve_nil _ _ _).mono ?_; rintro e w' ⟨rfl, rfl⟩))
  refine (close_nil 0 _).mono ?_
  rintro e w2 ⟨rfl, hb2⟩
  have hb3 := Below.of_below hb1 hb1.size hb2
  clear hb1 hb2
  go_wp2_with (first
    | (go_at_call 13; refine (chargeT_nil _ _ _).mono ?_; rintro e w' ⟨rfl, rfl⟩)
    | (go_at_call 14; refine (refundT_nil _ _ _).mono ?_; rintro e w' ⟨rfl, rfl⟩)
    | (go_at_call 15; refine (limit_nil _ _).mono ?_; rintro e w' ⟨rfl, rfl⟩)
    | (go_at_call 16; refine (useT_nil _ _).mono ?_; rintro e w' ⟨rfl, rfl⟩)
    | (go_at_call 17; refine (charged_nil _ _).mono ?_; rintro e w' ⟨rfl, rfl⟩)
    | (go_at_call 18; refine (parent_nil _ _).mono ?_; rintro e w' ⟨rfl, rfl⟩)
    | (go_at_call 19; refine (ids_nil _).mono ?_; rintro e w' ⟨rfl, rfl⟩))
  go_ret
  exact ⟨rfl, hb3⟩

set_option maxRecDepth 100000 in
set_option maxHeartbeats 4000000 in
theorem core (n : Nat) (a : Option Addr) (len cap : Nat) (w : World) (hA : Acts w w.heap.size a len) (h : (n : Int) ≤ 1073741824) (hl : (len : Int) ≤ 100) :
    Calls Try.prog 3 #[.int .i64 (n : Int), .slice a len cap] w fun e w' => e = .returned (.bool true) ∧ Below w.heap.size w w' := by
  have HA := hid hA
  have hdl : decide ((100 : Int) < (len : Int)) = false := decide_eq_false (by omega)
  clear hA
  go_enter Try.func3, Try.ntmps3
  go_wp2_with fail
  refine (alive_true _).mono ?_
  rintro e w1 ⟨rfl, hb1⟩
  have HB1 := hid hb1
  clear hb1
  go_wp2_with fail
  refine (St.new w1 n (by omega)).mono ?_
  rintro e w2 ⟨p, rfl, h2⟩
  have H2 := hid h2
  clear h2
  go_wp2_with (go_at_call 10; refine (may_yes (n : Int) _ (by omega) (by omega)).mono ?_; rintro e w' ⟨rfl, rfl⟩)
  refine (rnew_any n _).mono ?_
  rintro e w3 ⟨q, g0, cap0, rfl, hR, hq, hg, hb3⟩
  have HT : Hid (Two n w1 w3 p q g0 cap0 [⟨0, -1, n, 0⟩] 1) := by
    have hs := H2.out.bel.size
    exact ⟨(H2.out.mem.narrow.below hb3).wide (fun x hx => ⟨hx.1, by omega, by omega⟩), hR, H2.out.inv, Below.of_below H2.out.bel H2.out.bel.size hb3, by omega, by omega⟩
  clear hR hq hg hb3 H2
  go_wp2_with fail
  go_loopw [9] (fun t wr => ∃ j : Nat, j ≤ len ∧ t = .int .i64 (j : Int) ∧ ∃ l nxt g cap, nxt ≤ j + 1 ∧ Hid (Two n w1 wr p q g cap l nxt)) (fun t _ => len - (intOf t).toNat)
  case atStart => exact ⟨0, Nat.zero_le _, rfl, _, 1, _, _, Nat.le_refl _, HT⟩
  case round =>
    obtain ⟨j, hj, rfl, l, nxt, g, cap2, hnx, hS⟩ := hrel
    clear HT
    by_cases hlt : j < len
    · have hX := hid (Below.of_below HB1.out HB1.out.size hS.out.bel)
      obtain ⟨s, o, x, rfl, hx, hs⟩ := HA.out.at hX.out hlt
      obtain ⟨kd, ii, nn⟩ := x
      have c0 : wr.cell? ⟨s, o + j * 3, none⟩ = some (.int .i64 kd) := hx.c0
      have c1 : wr.cell? ⟨s, o + j * 3 + 1, none⟩ = some (.int .i64 ii) := hx.c1
      have c2 : wr.cell? ⟨s, o + j * 3 + 2, none⟩ = some (.int .i64 nn) := hx.c2
      have hP := hid (hS.out.act (kd := kd) (ii := ii) (nn := nn))
      have hnx2 : nxt ≤ 1073741824 := by omega
      clear hx hS hX
      go_upto_if 93 with fail
      refine unblock ?_
      go_cut [11, 12, 13, 14, 15] from 81 to 272 (fun t11 _ _ _ _ wc => t11 = .bool true ∧ ∃ l nxt g cap, nxt ≤ j + 2 ∧ Hid (Mid n w1 wc p q g cap wr.heap.size ii nn l nxt l nxt))
      case first =>
        by_cases q0 : kd = 0
        · subst q0
          go_wp2_with fail
          refine (hP.out.carve hnx2).mono ?_
          rintro e w5 ⟨rfl, h5⟩
          have h3b := (hP.out.inv.carveA ii nn).2
          have k1 := h5.rcarve hnx2
          have d1 := h5.a1
          have d2 := h5.a2
          have K1 := hid k1
          clear k1 h5 hP
          generalize carveA l nxt ii nn = R at *
          obtain ⟨r1, r2, l2, nxt2⟩ := R
          simp only at h3b K1
          go_wp2_with fail
          refine K1.out.mono ?_
          rintro e w6 ⟨rfl, g6, cap6, h6⟩
          have H6 := hid h6
          clear h6
          go_wp2_with fail
          go_meet
          case rel => exact ⟨by simp, _, _, _, _, by omega, H6⟩
        have q0' : (kd == 0) = false := by rw [beq_eq_false_iff_ne]; exact q0
        by_cases q1 : kd = 1
        · subst q1
          have HV := hid hP.out.drew.close
          have b1 := hP.out.a1
          have HRR : Hid (∀ wx, Mid n w1 wx p q g cap2 wr.heap.size ii nn l nxt (closeA l ii).2 nxt → Calls Try.prog 22 #[.pointer (some ⟨q, 0, none⟩), .int .i64 ii] wx (FinPost n w1 p q wr.heap.size ii nn (.int .i64 (closeA l ii).1) (closeA l ii).2 nxt)) := fun wx hx => hx.rclose
          clear hP
          generalize closeA l ii = R at *
          obtain ⟨r1, l2⟩ := R
          simp only at HV HRR
          go_wp2_with fail
          go_region_held3 (fun wx => wx.cell? ⟨wr.heap.size, 1, none⟩ = some (.int .i64 ii)) (first | exact m2 | exact m1 | exact b1)
            (first
              | (go_at_call 12; refine HV.out.mono ?_; rintro e w5 ⟨rfl, h5⟩; have m1 := h5.a1; have H5 := hid h5; clear h5)
              | (go_at_call 22; refine (HRR.out w5 H5.out).mono ?_; rintro e w6 ⟨rfl, g6, cap6, h6⟩; have m2 := h6.a1; have H6 := hid h6; clear h6))
          go_wp2_with fail
          go_meet
          case rel => exact ⟨by simp, _, _, _, _, by omega, H6⟩
        have q1' : (kd == 1) = false := by rw [beq_eq_false_iff_ne]; exact q1
        by_cases q2 : kd = 2
        · subst q2
          have HV := hid hP.out.drew.charge
          have b1 := hP.out.a1
          have b2 := hP.out.a2
          have HRR : Hid (∀ wx, Mid n w1 wx p q g cap2 wr.heap.size ii nn l nxt (chargeA l ii nn).2 nxt → Calls Try.prog 23 #[.pointer (some ⟨q, 0, none⟩), .int .i64 ii, .int .i64 nn] wx (FinPost n w1 p q wr.heap.size ii nn (.int .i64 (chargeA l ii nn).1) (chargeA l ii nn).2 nxt)) := fun wx hx => hx.rcharge
          clear hP
          generalize chargeA l ii nn = R at *
          obtain ⟨r1, l2⟩ := R
          simp only at HV HRR
          go_wp2_with fail
          go_region_held3 (fun wx => wx.cell? ⟨wr.heap.size, 1, none⟩ = some (.int .i64 ii) ∧ wx.cell? ⟨wr.heap.size, 2, none⟩ = some (.int .i64 nn)) (first | exact ⟨m2, n2⟩ | exact ⟨m1, n1⟩ | exact ⟨b1, b2⟩)
            (first
              | (go_at_call 13; refine HV.out.mono ?_; rintro e w5 ⟨rfl, h5⟩; have m1 := h5.a1; have n1 := h5.a2; have H5 := hid h5; clear h5)
              | (go_at_call 23; refine (HRR.out w5 H5.out).mono ?_; rintro e w6 ⟨rfl, g6, cap6, h6⟩; have m2 := h6.a1; have n2 := h6.a2; have H6 := hid h6; clear h6))
          go_wp2_with fail
          go_meet
          case rel => exact ⟨by simp, _, _, _, _, by omega, H6⟩
        have q2' : (kd == 2) = false := by rw [beq_eq_false_iff_ne]; exact q2
        by_cases q3 : kd = 3
        · subst q3
          have HV := hid hP.out.drew.refund
          have b1 := hP.out.a1
          have b2 := hP.out.a2
          have HRR : Hid (∀ wx, Mid n w1 wx p q g cap2 wr.heap.size ii nn l nxt (refundA l ii nn).2 nxt → Calls Try.prog 24 #[.pointer (some ⟨q, 0, none⟩), .int .i64 ii, .int .i64 nn] wx (FinPost n w1 p q wr.heap.size ii nn (.int .i64 (refundA l ii nn).1) (refundA l ii nn).2 nxt)) := fun wx hx => hx.rrefund
          clear hP
          generalize refundA l ii nn = R at *
          obtain ⟨r1, l2⟩ := R
          simp only at HV HRR
          go_wp2_with fail
          go_region_held3 (fun wx => wx.cell? ⟨wr.heap.size, 1, none⟩ = some (.int .i64 ii) ∧ wx.cell? ⟨wr.heap.size, 2, none⟩ = some (.int .i64 nn)) (first | exact ⟨m2, n2⟩ | exact ⟨m1, n1⟩ | exact ⟨b1, b2⟩)
            (first
              | (go_at_call 14; refine HV.out.mono ?_; rintro e w5 ⟨rfl, h5⟩; have m1 := h5.a1; have n1 := h5.a2; have H5 := hid h5; clear h5)
              | (go_at_call 24; refine (HRR.out w5 H5.out).mono ?_; rintro e w6 ⟨rfl, g6, cap6, h6⟩; have m2 := h6.a1; have n2 := h6.a2; have H6 := hid h6; clear h6))
          go_wp2_with fail
          go_meet
          case rel => exact ⟨by simp, _, _, _, _, by omega, H6⟩
        have q3' : (kd == 3) = false := by rw [beq_eq_false_iff_ne]; exact q3
        go_wp2_with fail
        go_meet
        case rel => exact ⟨rfl, _, _, _, _, by omega, hP⟩
      case rest =>
        obtain ⟨b, hb⟩ : ∃ b, b = wr.heap.size := ⟨_, rfl⟩
        rw [← hb] at hcut ⊢
        obtain ⟨rfl, l2, nxt2, g2, cap3, hn2, hM⟩ := hcut
        clear hb
        clear hP c0 c1 c2 hnx hnx2
        go_wp2_with fail
        refine hM.out.ids.mono ?_
        rintro e w7 ⟨v, rfl, hO, hb7⟩
        obtain ⟨g1, cv, rfl, _, hgl1, hid7⟩ := ids_row hO hM.out.inv.pos
        have HM7 := hid (hM.out.below hb7)
        have HI7 := hid hid7
        have hfew := HM7.out.inv.few
        have hs0 : ((l2.length : Int) != (l2.length : Int)) = false := by simp
        clear hO hb7 hid7 hM
        have y0 := HM7.out.ref.c0
        have y1 := HM7.out.a1
        cases hi : the l2 ii with
        | none =>
          have e1 : limA l2 ii = 0 := by unfold limA; rw [hi]
          have e2 : useA l2 ii = 0 := by unfold useA; rw [hi]
          have e3 : chgA l2 ii = 0 := by unfold chgA; rw [hi]
          have e4 : parA l2 ii = -1 := by unfold parA; rw [hi]
          have K25 := hid (rat_none HM7.out.ref hfew ii hi)
          have k15 := HM7.out.limit ii
          rw [e1] at k15
          have k16 := HM7.out.use ii
          rw [e2] at k16
          have K15 := hid k15
          have K16 := hid k16
          have HE := hid (And.intro e3 e4)
          clear hi e1 e2 e3 e4 k15 k16
          go_wp2_with fail
          refine K25.out.mono ?_
          rintro e w8 ⟨rfl, rfl⟩
          go_wp2_with fail
          refine K15.out.mono ?_
          rintro e w9 ⟨rfl, rfl⟩
          go_wp2_with fail
          refine K16.out.mono ?_
          rintro e wB ⟨rfl, hbB⟩
          have HMB := hid (HM7.out.below hbB)
          have HIB : Hid (∀ (t : Nat) (f : Fac), l2[t]? = some f → wB.cell? ⟨g1, t, none⟩ = some (.int .i64 (f.id : Int))) := fun t f hf => (hbB.cell (p := ⟨g1, t, none⟩) hgl1).trans (HI7.out t f hf)
          have hglB : g1 < wB.heap.size := Nat.lt_of_lt_of_le hgl1 hbB.size
          have y2 := HMB.out.a1
          have k17 := HMB.out.charged ii
          rw [HE.out.1] at k17
          have k18 := HMB.out.parent ii
          rw [HE.out.2] at k18
          have K17 := hid k17
          have K18 := hid k18
          clear k17 k18 hbB HM7 HI7 K25 K15 K16 y0 y1 hgl1 HE
          go_wp2_with fail
          refine K17.out.mono ?_
          rintro e w10 ⟨rfl, hw10⟩
          rw [hw10]
          clear hw10
          go_wp2_with fail
          refine K18.out.mono ?_
          rintro e w11 ⟨rfl, hw11⟩
          rw [hw11]
          clear hw11 K17 K18 y2
          as_aux_lemma =>
            go_wp2_with fail
            go_loopw [17] (fun t wr => ∃ k : Nat, k ≤ l2.length ∧ t = .int .i64 (k : Int) ∧ Hid (Below wB.heap.size wB wr)) (fun t _ => l2.length - (intOf t).toNat)
            case atStart => exact ⟨0, Nat.zero_le _, rfl, Below.refl _ _⟩
            case round =>
              obtain ⟨k, hk, rfl, hq⟩ := hrel
              have HMq := hid (HMB.out.below hq.out)
              by_cases hlt2 : k < l2.length
              · obtain ⟨f, hf⟩ : ∃ f, l2[k]? = some f := ⟨_, List.getElem?_eq_getElem hlt2⟩
                have hm := List.mem_of_getElem? hf
                have r0 := HMq.out.ref.fid hf
                have r1 := HMq.out.ref.fpar hf
                have r2 := HMq.out.ref.flim hf
                have r3 := HMq.out.ref.fchg hf
                have y0 := HMq.out.ref.c0
                have hthe := the_mem HMq.out.inv.up hm
                have hba : Below wr.heap.size wr (wr.alloc (.cells #[.int .i64 (f.id : Int), .int .i64 f.par, .int .i64 (f.lim : Int), .int .i64 (f.chg : Int)] 46)) := (Below.refl _ _).alloc (Nat.le_refl _) _
                have hbk := heap_alloc_new wr (.cells #[.int .i64 (f.id : Int), .int .i64 f.par, .int .i64 (f.lim : Int), .int .i64 (f.chg : Int)] 46)
                have hsz : wr.heap.size < (wr.alloc (.cells #[.int .i64 (f.id : Int), .int .i64 f.par, .int .i64 (f.lim : Int), .int .i64 (f.chg : Int)] 46)).heap.size := by simp
                have hidq := (hq.out.cell (p := ⟨g1, k, none⟩) hglB).trans (HIB.out k f hf)
                have hglq : g1 < wr.heap.size := Nat.lt_of_lt_of_le hglB hq.out.size
                have HMa := hid (HMq.out.below hba)
                have K26 := hid (ruse_some HMa.out.ref HMa.out.inv (f.id : Int) f hthe)
                have k15 := HMa.out.drew.limit (f.id : Int)
                rw [show limA l2 (f.id : Int) = (f.lim : Int) from by unfold limA; rw [hthe]] at k15
                have k16 := HMa.out.drew.use (f.id : Int)
                rw [show useA l2 (f.id : Int) = (useOf l2 f : Int) from by unfold useA; rw [hthe]] at k16
                have K15 := hid k15
                have K16 := hid k16
                have HK17 : Hid (∀ wx, Below (wr.alloc (.cells #[.int .i64 (f.id : Int), .int .i64 f.par, .int .i64 (f.lim : Int), .int .i64 (f.chg : Int)] 46)).heap.size (wr.alloc (.cells #[.int .i64 (f.id : Int), .int .i64 f.par, .int .i64 (f.lim : Int), .int .i64 (f.chg : Int)] 46)) wx → Calls Try.prog 17 #[.pointer (some ⟨p, 0, none⟩), .int .i64 (f.id : Int)] wx fun e w' => e = .returned (.int .i64 (f.chg : Int)) ∧ w' = wx) := fun wx hx => by
                  have := (HMa.out.below hx).charged (f.id : Int)
                  rw [show chgA l2 (f.id : Int) = (f.chg : Int) from by unfold chgA; rw [hthe]] at this
                  exact this
                have HK18 : Hid (∀ wx, Below (wr.alloc (.cells #[.int .i64 (f.id : Int), .int .i64 f.par, .int .i64 (f.lim : Int), .int .i64 (f.chg : Int)] 46)).heap.size (wr.alloc (.cells #[.int .i64 (f.id : Int), .int .i64 f.par, .int .i64 (f.lim : Int), .int .i64 (f.chg : Int)] 46)) wx → Calls Try.prog 18 #[.pointer (some ⟨p, 0, none⟩), .int .i64 (f.id : Int)] wx fun e w' => e = .returned (.int .i64 f.par) ∧ w' = wx) := fun wx hx => by
                  have := (HMa.out.below hx).parent (f.id : Int)
                  rw [show parA l2 (f.id : Int) = f.par from by unfold parA; rw [hthe]] at this
                  exact this
                have HBD : Hid (∀ wx, Below (wr.alloc (.cells #[.int .i64 (f.id : Int), .int .i64 f.par, .int .i64 (f.lim : Int), .int .i64 (f.chg : Int)] 46)).drew.heap.size (wr.alloc (.cells #[.int .i64 (f.id : Int), .int .i64 f.par, .int .i64 (f.lim : Int), .int .i64 (f.chg : Int)] 46)).drew wx → Below (wr.alloc (.cells #[.int .i64 (f.id : Int), .int .i64 f.par, .int .i64 (f.lim : Int), .int .i64 (f.chg : Int)] 46)).heap.size (wr.alloc (.cells #[.int .i64 (f.id : Int), .int .i64 f.par, .int .i64 (f.lim : Int), .int .i64 (f.chg : Int)] 46)) wx) := fun wx hx => ⟨hx.os, hx.tape, hx.output, hx.size, hx.block⟩
                have HC : Hid (∀ wx, Below (wr.alloc (.cells #[.int .i64 (f.id : Int), .int .i64 f.par, .int .i64 (f.lim : Int), .int .i64 (f.chg : Int)] 46)).heap.size (wr.alloc (.cells #[.int .i64 (f.id : Int), .int .i64 f.par, .int .i64 (f.lim : Int), .int .i64 (f.chg : Int)] 46)) wx → wx.cell? ⟨g1, k, none⟩ = some (.int .i64 (f.id : Int)) ∧ wx.cell? ⟨wr.heap.size, 0, none⟩ = some (.int .i64 (f.id : Int)) ∧ wx.cell? ⟨wr.heap.size, 1, none⟩ = some (.int .i64 f.par) ∧ wx.cell? ⟨wr.heap.size, 2, none⟩ = some (.int .i64 (f.lim : Int)) ∧ wx.cell? ⟨wr.heap.size, 3, none⟩ = some (.int .i64 (f.chg : Int))) := fun wx hx => by
                  have hw := (hx.block wr.heap.size hsz).trans hbk
                  refine ⟨((hba.trans (hx.mono hba.size)).cell (p := ⟨g1, k, none⟩) hglq).trans hidq, ?_, ?_, ?_, ?_⟩ <;> (rw [cell_of_row _ _ _ _ _ _ hw]; rfl)
                obtain ⟨z0, z1, z2, z3, z4⟩ := HC.out _ (Below.refl _ _)
                have HBA := hid hba
                have hk1 : (0 : Int) ≤ (k : Int) := by omega
                have hk2 : (k : Int) < (l2.length : Int) := by omega
                clear k15 k16 hm hf hthe hba hbk hsz HMa HMq
                generalize useOf l2 f = u at *
                generalize (kids l2 (f.id : Int)).length = kc at *
                generalize f.id = fi at *
                generalize f.par = fp at *
                generalize f.lim = fl at *
                generalize f.chg = fc at *
                have s1 : ((fi : Int) != (fi : Int)) = false := by simp
                have s2 : ((fl : Int) != (fl : Int)) = false := by simp
                have s3 : ((u : Int) != (u : Int)) = false := by simp
                have s4 : ((fc : Int) != (fc : Int)) = false := by simp
                have s5 : (fp != fp) = false := by simp
                go_wp2_with fail
                refine K26.out.mono ?_
                rintro e w12 ⟨rfl, rfl⟩
                go_wp2_with fail
                go_region_held3 (fun wx => wx.cell? ⟨g1, k, none⟩ = some (.int .i64 (fi : Int)) ∧ wx.cell? ⟨wr.heap.size, 0, none⟩ = some (.int .i64 (fi : Int)) ∧ wx.cell? ⟨wr.heap.size, 1, none⟩ = some (.int .i64 fp) ∧ wx.cell? ⟨wr.heap.size, 2, none⟩ = some (.int .i64 (fl : Int)) ∧ wx.cell? ⟨wr.heap.size, 3, none⟩ = some (.int .i64 (fc : Int))) (first | exact ⟨m0, m1, m2, m3, m4⟩ | exact ⟨z0, z1, z2, z3, z4⟩)
                  (first
                    | (go_at_call 15; refine K15.out.mono ?_; rintro e w13 ⟨rfl, rfl⟩)
                    | (go_at_call 16; refine K16.out.mono ?_; rintro e w14 ⟨rfl, hb14⟩; have hb15 := HBD.out w14 hb14; obtain ⟨m0, m1, m2, m3, m4⟩ := HC.out w14 hb15)
                    | (go_at_call 17; refine (HK17.out w14 hb15).mono ?_; rintro e w15 ⟨rfl, rfl⟩)
                    | (go_at_call 18; refine (HK18.out _ hb15).mono ?_; rintro e w16 ⟨rfl, rfl⟩))
                go_wp2_with fail
                exact ⟨⟨k + 1, by omega, by go_num, hid ((hq.out.trans (HBA.out.mono hq.out.size)).trans (hb15.mono (Nat.le_trans hq.out.size HBA.out.size)))⟩, by simp [intOf]; omega⟩
              · have HF := hid HMq.out.two
                go_wp2_with fail
                exact ⟨⟨j + 1, by omega, by go_num, l2, nxt2, g2, cap3, by omega, HF⟩, by simp [intOf]; omega⟩
        | some f0 =>
          obtain ⟨k0, hk0, hkl0, hidn0, hno0⟩ := the_at hi
          have K25 := hid (rat_some HM7.out.ref hfew ii f0 k0 hk0 hidn0 hno0)
          have hkn : ¬ ((k0 : Int) < 0) := by omega
          clear hi hk0 hkl0 hidn0 hno0
          go_wp2_with fail
          refine K25.out.mono ?_
          rintro e w8 ⟨rfl, hw8⟩
          rw [hw8]
          clear hw8 K25 y0 y1
          as_aux_lemma =>
            go_wp2_with fail
            go_loopw [17] (fun t wr => ∃ k : Nat, k ≤ l2.length ∧ t = .int .i64 (k : Int) ∧ Hid (Below w7.heap.size w7 wr)) (fun t _ => l2.length - (intOf t).toNat)
            case atStart => exact ⟨0, Nat.zero_le _, rfl, Below.refl _ _⟩
            case round =>
              obtain ⟨k, hk, rfl, hq⟩ := hrel
              have HMq := hid (HM7.out.below hq.out)
              by_cases hlt2 : k < l2.length
              · obtain ⟨f, hf⟩ : ∃ f, l2[k]? = some f := ⟨_, List.getElem?_eq_getElem hlt2⟩
                have hm := List.mem_of_getElem? hf
                have r0 := HMq.out.ref.fid hf
                have r1 := HMq.out.ref.fpar hf
                have r2 := HMq.out.ref.flim hf
                have r3 := HMq.out.ref.fchg hf
                have y0 := HMq.out.ref.c0
                have hthe := the_mem HMq.out.inv.up hm
                have hba : Below wr.heap.size wr (wr.alloc (.cells #[.int .i64 (f.id : Int), .int .i64 f.par, .int .i64 (f.lim : Int), .int .i64 (f.chg : Int)] 46)) := (Below.refl _ _).alloc (Nat.le_refl _) _
                have hbk := heap_alloc_new wr (.cells #[.int .i64 (f.id : Int), .int .i64 f.par, .int .i64 (f.lim : Int), .int .i64 (f.chg : Int)] 46)
                have hsz : wr.heap.size < (wr.alloc (.cells #[.int .i64 (f.id : Int), .int .i64 f.par, .int .i64 (f.lim : Int), .int .i64 (f.chg : Int)] 46)).heap.size := by simp
                have hidq := (hq.out.cell (p := ⟨g1, k, none⟩) hgl1).trans (HI7.out k f hf)
                have hglq : g1 < wr.heap.size := Nat.lt_of_lt_of_le hgl1 hq.out.size
                have HMa := hid (HMq.out.below hba)
                have K26 := hid (ruse_some HMa.out.ref HMa.out.inv (f.id : Int) f hthe)
                have k15 := HMa.out.drew.limit (f.id : Int)
                rw [show limA l2 (f.id : Int) = (f.lim : Int) from by unfold limA; rw [hthe]] at k15
                have k16 := HMa.out.drew.use (f.id : Int)
                rw [show useA l2 (f.id : Int) = (useOf l2 f : Int) from by unfold useA; rw [hthe]] at k16
                have K15 := hid k15
                have K16 := hid k16
                have HK17 : Hid (∀ wx, Below (wr.alloc (.cells #[.int .i64 (f.id : Int), .int .i64 f.par, .int .i64 (f.lim : Int), .int .i64 (f.chg : Int)] 46)).heap.size (wr.alloc (.cells #[.int .i64 (f.id : Int), .int .i64 f.par, .int .i64 (f.lim : Int), .int .i64 (f.chg : Int)] 46)) wx → Calls Try.prog 17 #[.pointer (some ⟨p, 0, none⟩), .int .i64 (f.id : Int)] wx fun e w' => e = .returned (.int .i64 (f.chg : Int)) ∧ w' = wx) := fun wx hx => by
                  have := (HMa.out.below hx).charged (f.id : Int)
                  rw [show chgA l2 (f.id : Int) = (f.chg : Int) from by unfold chgA; rw [hthe]] at this
                  exact this
                have HK18 : Hid (∀ wx, Below (wr.alloc (.cells #[.int .i64 (f.id : Int), .int .i64 f.par, .int .i64 (f.lim : Int), .int .i64 (f.chg : Int)] 46)).heap.size (wr.alloc (.cells #[.int .i64 (f.id : Int), .int .i64 f.par, .int .i64 (f.lim : Int), .int .i64 (f.chg : Int)] 46)) wx → Calls Try.prog 18 #[.pointer (some ⟨p, 0, none⟩), .int .i64 (f.id : Int)] wx fun e w' => e = .returned (.int .i64 f.par) ∧ w' = wx) := fun wx hx => by
                  have := (HMa.out.below hx).parent (f.id : Int)
                  rw [show parA l2 (f.id : Int) = f.par from by unfold parA; rw [hthe]] at this
                  exact this
                have HBD : Hid (∀ wx, Below (wr.alloc (.cells #[.int .i64 (f.id : Int), .int .i64 f.par, .int .i64 (f.lim : Int), .int .i64 (f.chg : Int)] 46)).drew.heap.size (wr.alloc (.cells #[.int .i64 (f.id : Int), .int .i64 f.par, .int .i64 (f.lim : Int), .int .i64 (f.chg : Int)] 46)).drew wx → Below (wr.alloc (.cells #[.int .i64 (f.id : Int), .int .i64 f.par, .int .i64 (f.lim : Int), .int .i64 (f.chg : Int)] 46)).heap.size (wr.alloc (.cells #[.int .i64 (f.id : Int), .int .i64 f.par, .int .i64 (f.lim : Int), .int .i64 (f.chg : Int)] 46)) wx) := fun wx hx => ⟨hx.os, hx.tape, hx.output, hx.size, hx.block⟩
                have HC : Hid (∀ wx, Below (wr.alloc (.cells #[.int .i64 (f.id : Int), .int .i64 f.par, .int .i64 (f.lim : Int), .int .i64 (f.chg : Int)] 46)).heap.size (wr.alloc (.cells #[.int .i64 (f.id : Int), .int .i64 f.par, .int .i64 (f.lim : Int), .int .i64 (f.chg : Int)] 46)) wx → wx.cell? ⟨g1, k, none⟩ = some (.int .i64 (f.id : Int)) ∧ wx.cell? ⟨wr.heap.size, 0, none⟩ = some (.int .i64 (f.id : Int)) ∧ wx.cell? ⟨wr.heap.size, 1, none⟩ = some (.int .i64 f.par) ∧ wx.cell? ⟨wr.heap.size, 2, none⟩ = some (.int .i64 (f.lim : Int)) ∧ wx.cell? ⟨wr.heap.size, 3, none⟩ = some (.int .i64 (f.chg : Int))) := fun wx hx => by
                  have hw := (hx.block wr.heap.size hsz).trans hbk
                  refine ⟨((hba.trans (hx.mono hba.size)).cell (p := ⟨g1, k, none⟩) hglq).trans hidq, ?_, ?_, ?_, ?_⟩ <;> (rw [cell_of_row _ _ _ _ _ _ hw]; rfl)
                obtain ⟨z0, z1, z2, z3, z4⟩ := HC.out _ (Below.refl _ _)
                have HBA := hid hba
                have hk1 : (0 : Int) ≤ (k : Int) := by omega
                have hk2 : (k : Int) < (l2.length : Int) := by omega
                clear k15 k16 hm hf hthe hba hbk hsz HMa HMq
                generalize useOf l2 f = u at *
                generalize (kids l2 (f.id : Int)).length = kc at *
                generalize f.id = fi at *
                generalize f.par = fp at *
                generalize f.lim = fl at *
                generalize f.chg = fc at *
                have s1 : ((fi : Int) != (fi : Int)) = false := by simp
                have s2 : ((fl : Int) != (fl : Int)) = false := by simp
                have s3 : ((u : Int) != (u : Int)) = false := by simp
                have s4 : ((fc : Int) != (fc : Int)) = false := by simp
                have s5 : (fp != fp) = false := by simp
                go_wp2_with fail
                refine K26.out.mono ?_
                rintro e w12 ⟨rfl, rfl⟩
                go_wp2_with fail
                go_region_held3 (fun wx => wx.cell? ⟨g1, k, none⟩ = some (.int .i64 (fi : Int)) ∧ wx.cell? ⟨wr.heap.size, 0, none⟩ = some (.int .i64 (fi : Int)) ∧ wx.cell? ⟨wr.heap.size, 1, none⟩ = some (.int .i64 fp) ∧ wx.cell? ⟨wr.heap.size, 2, none⟩ = some (.int .i64 (fl : Int)) ∧ wx.cell? ⟨wr.heap.size, 3, none⟩ = some (.int .i64 (fc : Int))) (first | exact ⟨m0, m1, m2, m3, m4⟩ | exact ⟨z0, z1, z2, z3, z4⟩)
                  (first
                    | (go_at_call 15; refine K15.out.mono ?_; rintro e w13 ⟨rfl, rfl⟩)
                    | (go_at_call 16; refine K16.out.mono ?_; rintro e w14 ⟨rfl, hb14⟩; have hb15 := HBD.out w14 hb14; obtain ⟨m0, m1, m2, m3, m4⟩ := HC.out w14 hb15)
                    | (go_at_call 17; refine (HK17.out w14 hb15).mono ?_; rintro e w15 ⟨rfl, rfl⟩)
                    | (go_at_call 18; refine (HK18.out _ hb15).mono ?_; rintro e w16 ⟨rfl, rfl⟩))
                go_wp2_with fail
                exact ⟨⟨k + 1, by omega, by go_num, hid ((hq.out.trans (HBA.out.mono hq.out.size)).trans (hb15.mono (Nat.le_trans hq.out.size HBA.out.size)))⟩, by simp [intOf]; omega⟩
              · have HF := hid HMq.out.two
                go_wp2_with fail
                exact ⟨⟨j + 1, by omega, by go_num, l2, nxt2, g2, cap3, by omega, HF⟩, by simp [intOf]; omega⟩
    · go_wp2_with fail
      go_ret
      exact ⟨rfl, Below.of_below HB1.out HB1.out.size hS.out.bel⟩

theorem walk (a0 : Int) (a1 : Option Addr) (len1 cap1 : Nat) (w : World) (w1 : Acts w w.heap.size a1 len1) :
    Calls Try.prog 3 #[.int .i64 a0, .slice a1 len1 cap1] w fun e w' => e = .returned (.bool true) ∧ Below w.heap.size w w' := by
  by_cases hl : (100 : Int) < (len1 : Int)
  · exact core_long a0 a1 len1 cap1 w hl
  by_cases h : a0 < 0 ∨ 1073741824 < a0
  · exact core_nil a0 a1 len1 cap1 w h (by omega)
  obtain ⟨n, rfl⟩ := Int.eq_ofNat_of_zero_le (show 0 ≤ a0 by omega)
  exact core n a1 len1 cap1 w w1 (by omega) (by omega)

theorem own : ownKnob Try.prog.godebug = none := by kernel_rfl
theorem laidOut : laidOutB Try.prog = true := by kernel_rfl

set_option maxRecDepth 100000 in
theorem lifted (os : Os) (started : os.Started) (H : Type) (enc : TypeId × Value → H) :
    ReturnsInHanded {} Try.checked os 3 .any (Rows.quotaActsSpec.pre6 enc Try.prog Try.f3 Rows.quotaActsRow.domain false) (Rows.quotaActsSpec.post enc Try.prog Try.f3 false true false false) := by
  refine returnsInHanded_of_change (C := Try.checked) own started (by kernel_rfl) Try.func3
    (ChangeSpec.witness6 (enc := enc) (C := Try.checked) false ⟨#[], #[.int .i64 0, .slice none 0 0], []⟩ 8 (by kernel_rfl) (by kernel_rfl) (by kernel_rfl) (by kernel_rfl)) ?_
  intro W base args ds gs before hval0 hW hcnd _
  have hval : ∀ (j : Nat) t v, Try.f3.params[j]? = some t → args[j]? = some v → Value.okWide Try.prog W .any base t v := hval0
  have hW' := hW
  obtain ⟨p, q, hA0, hV, rfl, hfz, hnd⟩ := hW
  have hA : DataW.TrodAll enc Try.prog W 0 (fun _ => true) true Try.f3.params.toList args.toList ds p := hA0
  rw [Try.params3] at hA hval
  obtain ⟨v0, vs0, d0, ds0, p0, q0, hargs, rfl, rfl, h0, r0⟩ := trodAll_cons hA
  obtain ⟨v1, vs1, d1, ds1, p1, q1, rfl, rfl, rfl, h1, r1⟩ := trodAll_cons r0
  obtain ⟨rfl, rfl, rfl⟩ := trodAll_nil r1
  obtain rfl : args = #[v0, v1] := by cases args; simp_all
  obtain ⟨rfl, rfl⟩ := trodVars_none hV
  obtain ⟨a0, rfl, rfl, rfl, w0⟩ := open_int Try.underlying3 (hval 0 3 v0 rfl rfl) h0
  obtain ⟨a1, len1, cap1, rfl⟩ := okWide_slice Try.underlying22 (hval 1 22 v1 rfl rfl)
  have k1 := h1
  have lt1 : ∀ x ∈ p1, x.block < W.heap.size := by obtain ⟨m, hm⟩ := k1; exact DataW.trod_lt m _ _ _ hm
  have w1 : Acts W W.heap.size a1 len1 := by
    obtain ⟨fuel, hf⟩ := h1
    exact acts_of (cap := cap1) (by simpa [Value.cells] using hf)
  clear hA0 hval0
  refine (walk a0 a1 len1 cap1 W w1).mono fun e W' ⟨he, bel⟩ => ?_
  subst he
  exact ⟨_, rfl, _, _, _, [], _, [], hW', trodAll_mk1 (shut_bool Try.underlying4 _), (trodAll_cons_mk (shut_int Try.underlying3 w0) (trodAll_cons_mk (Below.trod laidOut (by kernel_rfl) (of_decide_eq_true (by kernel_rfl)) k1 bel lt1) trodAll_mk0)), rfl, bel.frame _, fun h => by cases h⟩

theorem proved : Rows.QuotaActsSaid :=
  OpenClaim.holds_of_wide 3 Try.f3 rfl rfl rfl rfl rfl rfl rfl ⟨rfl, rfl, rfl, rfl, rfl⟩ rfl rfl rfl rfl rfl (by kernel_rfl) Try.func3 (by kernel_rfl)
    (of_decide_eq_true (by kernel_rfl)) (by unfold Func.isWrapper; first | (rw [if_pos (by decide +kernel)]; kernel_rfl) | (rw [if_neg (by decide +kernel)]; exact ⟨rfl, rfl⟩))
    (fun os started H enc _ => lifted os started H enc)

end Go.Proofs.Ytlgceknfphholaa.quotaActs
