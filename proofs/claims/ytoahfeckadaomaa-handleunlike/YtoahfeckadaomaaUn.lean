/- The walk of HandleUnlike. -/
import Derived.Test.YtoahfeckadaomaaU3
import Derived.Deep.CutRange
import Derived.Deep.CutBlock
namespace Go.Proofs.Ytoahfeckadaomaa.handleUnlike
open Go.RowKit Go.Proofs.Ytoahfeckadaomaa

theorem eraseIdx_map' {α β : Type} (f : α → β) (l : List α) (i : Nat) : (l.eraseIdx i).map f = (l.map f).eraseIdx i := by
  rw [List.eraseIdx_eq_take_drop_succ, List.eraseIdx_eq_take_drop_succ, List.map_append, List.map_take, List.map_drop]
set_option maxRecDepth 100000 in
theorem core_long (a : Option Addr) (len cap : Nat) (w : World) (hl : (200 : Int) < (len : Int)) :
    Calls Try.prog 6 #[.slice a len cap] w fun e w' => e = .returned (.bool true) ∧ Below w.heap.size w w' := by
  go_enter Try.func6, Try.ntmps6
  go_wp2_with (go_at_call 7; refine (alive_true _).mono ?_; rintro e w1 ⟨rfl, hb1⟩)
  go_ret
  exact ⟨rfl, hb1⟩

set_option maxRecDepth 100000 in
set_option maxHeartbeats 8000000 in
theorem core (a : Option Addr) (len cap : Nat) (w : World) (hA : Acts w w.heap.size a len) (hl : (len : Int) ≤ 200) :
    Calls Try.prog 6 #[.slice a len cap] w fun e w' => e = .returned (.bool true) ∧ Below w.heap.size w w' := by
  have HA := hid hA
  have hdl : decide ((200 : Int) < (len : Int)) = false := decide_eq_false (by omega)
  clear hA
  go_enter Try.func6, Try.ntmps6
  go_wp2_with fail
  refine (alive_true _).mono ?_
  rintro e w1 ⟨rfl, hb1⟩
  have B1 := hid hb1
  clear hb1
  go_wp2_with fail
  refine (Ht.new w1).mono ?_
  rintro e w2 ⟨rfl, h2⟩
  have H2 := hid (show Us w2 w2 (.slice none 0 0) (.slice none 0 0) w1.heap.size w1 T0 [] [] from ⟨h2, World.ownsRow_nil _ _ _ _, World.ownsRow_nil _ _ _ _, h2.tb.lt, Nat.le_refl _, h2.bel.size⟩)
  clear h2
  go_wp2_with fail
  go_loopw [6, 4, 5] (fun c v4 v5 wr => ∃ j : Nat, j ≤ len ∧ c = .int .i64 (j : Int) ∧ ∃ T L, Hid (Us w2 wr v4 v5 w1.heap.size w1 T (L.map Prod.fst) (L.map Prod.snd) ∧ Lv T L j)) (fun c _ _ _ => len - (intOf c).toNat)
  case atStart => exact ⟨0, Nat.zero_le _, rfl, T0, [], hid ⟨H2.out, Lv.new⟩⟩
  case round =>
    obtain ⟨j, hj, rfl, T, L, hS⟩ := hrel
    clear H2
    have hX := hid (Below.of_below B1.out B1.out.size hS.out.1.ht.bel)
    obtain ⟨a4, k4, e4, _⟩ := row_cells hS.out.1.r4
    rw [List.length_map] at e4
    subst e4
    by_cases hlt : j < len
    · obtain ⟨s, o, x, rfl, hx, hsl⟩ := HA.out.at hX.out hlt
      obtain ⟨kd, nn, hh, ⟨ok, oa, of⟩⟩ := x
      have c0 : wr.cell? ⟨s, o + j * 6, none⟩ = some (.int .i64 kd) := hx.c0
      have c1 : wr.cell? ⟨s, o + j * 6 + 1, none⟩ = some (.int .i64 nn) := hx.c1
      have c3 : wr.cell? ⟨s, o + j * 6 + 3, none⟩ = some (.int .i64 ok) := hx.c3
      have c4 : wr.cell? ⟨s, o + j * 6 + 4, none⟩ = some (.int .i64 oa) := hx.c4
      have c5 : wr.cell? ⟨s, o + j * 6 + 5, none⟩ = some (.int .i64 of) := hx.c5
      have CX := hid (fun (wx : World) (hb : Below w.heap.size w wx) => (show wx.cell? ⟨s, o + j * 6, none⟩ = some (.int .i64 kd) ∧ wx.cell? ⟨s, o + j * 6 + 3, none⟩ = some (.int .i64 ok) ∧ wx.cell? ⟨s, o + j * 6 + 4, none⟩ = some (.int .i64 oa) ∧ wx.cell? ⟨s, o + j * 6 + 5, none⟩ = some (.int .i64 of) by
        have hq := hX.out
        have e0 := fun q => (hb.cell (p := ⟨s, q, none⟩) hsl).trans (hq.cell (p := ⟨s, q, none⟩) hsl).symm
        exact ⟨(e0 _).trans c0, (e0 _).trans c3, (e0 _).trans c4, (e0 _).trans c5⟩))
      have hln := hS.out.2.few
      clear hx hX
      go_upto_region 12 with fail
      obtain ⟨b40, hb40⟩ : ∃ b40, b40 = (decide (0 < nn) && decide (0 < L.length)) := ⟨_, rfl⟩
      go_cut [40] from 30 to 39 (fun t wc => t = .bool b40 ∧ wc = wr)
      case first =>
        by_cases q1 : 0 < nn
        · by_cases q2 : 0 < L.length
          · have e : b40 = true := by rw [hb40, decide_eq_true q1, decide_eq_true q2]; rfl
            subst e
            have q3 : (0 : Int) < (L.length : Int) := by omega
            clear hb40
            go_wp2_with fail
            go_meet
            case rel => exact ⟨by simp, rfl⟩
          · have e : b40 = false := by rw [hb40, decide_eq_false q2, Bool.and_false]
            subst e
            have q3 : decide ((0 : Int) < (L.length : Int)) = false := decide_eq_false (by omega)
            have q4 : decide (0 < L.length) = false := decide_eq_false q2
            clear hb40 q2
            go_wp2_with fail
            go_meet
            case rel => exact ⟨by simp, rfl⟩
        · have e : b40 = false := by rw [hb40, decide_eq_false q1, Bool.false_and]
          subst e
          clear hb40
          go_wp2_with fail
          go_meet
          case rel => exact ⟨by simp, rfl⟩
      case rest =>
        obtain ⟨rfl, rfl⟩ := hcut
        have HB := hid hb40
        clear hb40
        go_upto_if 40 with fail
        go_cut [7] from 41 to 48 (fun t wd => wd = wc ∧ ∃ i : Nat, t = .int .i64 (i : Int) ∧ (0 < L.length → i < L.length))
        case first =>
          cases b40 with
          | false =>
            go_wp2_with fail
            go_meet
            case rel => exact ⟨rfl, 0, rfl, fun h => h⟩
          | true =>
            have hq := HB.out.symm
            rw [Bool.and_eq_true] at hq
            have q1 := of_decide_eq_true hq.1
            have q2 := of_decide_eq_true hq.2
            obtain ⟨n0, rfl⟩ := Int.eq_ofNat_of_zero_le (show 0 ≤ nn by omega)
            obtain ⟨i, hi0⟩ : ∃ i, i = n0 % L.length := ⟨_, rfl⟩
            have hil : i < L.length := by rw [hi0]; exact Nat.mod_lt _ q2
            have hm1 : (n0 : Int) % (L.length : Int) = (i : Int) := by rw [hi0, Int.natCast_emod]
            have hm2 : (n0 : Int).tmod (L.length : Int) = (i : Int) := by rw [← hm1]; exact Int.tmod_eq_emod_of_nonneg (by omega)
            have hq0 : (L.length : Int) ≠ 0 := by omega
            have hq1 : (0 : Int) < (L.length : Int) := by omega
            have hq2 : ((L.length : Int) == 0) = false := by rw [beq_eq_false_iff_ne]; omega
            have hq3 : (L.length == 0) = false := by rw [beq_eq_false_iff_ne]; omega
            clear hi0 hq HB
            generalize L.length = ln at *
            go_wp2_with fail
            go_meet
            case rel => exact ⟨rfl, i, by simp, fun _ => hil⟩
        case rest =>
          obtain ⟨rfl, i, rfl, hil⟩ := hcut
          clear HB
          go_upto_region 14 with fail
          obtain ⟨b59, hb59⟩ : ∃ b59, b59 = (decide (kd = 0) || decide (L.length = 0)) := ⟨_, rfl⟩
          go_cut [59] from 49 to 58 (fun t wd => t = .bool b59 ∧ wd = wc)
          case first =>
            by_cases q1 : kd = 0
            · have e : b59 = true := by rw [hb59, decide_eq_true q1]; rfl
              subst e
              subst q1
              clear hb59
              go_wp2_with fail
              go_meet
              case rel => exact ⟨by simp, rfl⟩
            · have q1' : (kd == 0) = false := by rw [beq_eq_false_iff_ne]; exact q1
              by_cases q2 : L.length = 0
              · have e : b59 = true := by rw [hb59, decide_eq_true q2, Bool.or_true]
                subst e
                have q3 : ((L.length : Int) == 0) = true := by rw [q2]; rfl
                have q4 : (L.length == 0) = true := by rw [q2]; rfl
                clear hb59 q2 q1
                go_wp2_with fail
                go_meet
                case rel => exact ⟨by simp, rfl⟩
              · have e : b59 = false := by rw [hb59, decide_eq_false q2, decide_eq_false q1]; rfl
                subst e
                have q3 : ((L.length : Int) == 0) = false := by rw [beq_eq_false_iff_ne]; omega
                have q4 : (L.length == 0) = false := by rw [beq_eq_false_iff_ne]; exact q2
                clear hb59 q1 q2
                go_wp2_with fail
                go_meet
                case rel => exact ⟨by simp, rfl⟩
          case rest =>
            obtain ⟨rfl, rfl⟩ := hcut
            have HB := hid hb59
            clear hb59
            go_upto_if 59 with fail
            cases b59 with
            | true =>
              clear HB
              obtain ⟨q, hq⟩ := first_ex T
              have C := hid (hS.out.1.ht.put q hq ⟨ok, oa, of⟩)
              have HQ := hid hq
              clear hq hil c0 c1
              by_cases hq2 : q < 256
              · obtain ⟨x, hx⟩ : ∃ x, x = hOf q (T q).ag := ⟨_, rfl⟩
                have e : putA T q ⟨ok, oa, of⟩ = (x, 0, putT T q ⟨ok, oa, of⟩) := by unfold putA; rw [if_pos hq2, hx]
                rw [e] at C
                have HX := hid (And.intro hx hq2)
                clear hx e hq2
                unfold obv at C
                go_wp2_with fail
                refine C.out.mono ?_
                rintro e w3 ⟨rfl, h3, hB3⟩
                have h3s := hS.out.1.but h3 hB3
                have hbw : Below w.heap.size w w3 := Below.of_below B1.out B1.out.size h3.bel
                obtain ⟨_, c3, c4, c5⟩ := CX.out _ hbw
                have H3 := hid (And.intro h3s (And.intro hS.out.2 hbw))
                clear C h3 hB3 h3s hS hbw
                go_wp2_with fail
                go_loop [10] (fun c => ∃ m : Nat, m ≤ L.length ∧ c = .int .i64 (m : Int)) (fun c => L.length - (intOf c).toNat)
                case atStart => exact ⟨0, Nat.zero_le _, rfl⟩
                case round =>
                  obtain ⟨m, hm, rfl⟩ := hrel
                  by_cases hlt2 : m < L.length
                  · have hlm : m < (L.map Prod.fst).length := by rw [List.length_map]; exact hlt2
                    have hr4 := H3.out.1.r4
                    rw [List.length_map] at hr4
                    obtain ⟨g, rfl, cg⟩ := row_at hr4 (hds_get hlm)
                    have hne : ((((L.map Prod.fst)[m]?.getD 0 : Nat) : Int) == (x : Int)) = false := by
                      rw [int_beq, beq_eq_false_iff_ne]
                      have hmem : L[m] ∈ L := List.getElem_mem _
                      have := H3.out.2.1.fresh HX.out.2 (HQ.out.2.1 HX.out.2) hmem
                      rw [← HX.out.1] at this
                      simpa [hlt2] using this
                    clear hr4 hlm
                    generalize (L.map Prod.fst)[m]?.getD 0 = y at *
                    generalize L.length = ln at *
                    go_wp2
                    exact ⟨⟨m + 1, by omega, by go_num⟩, by simp [intOf]; omega⟩
                  · obtain ⟨g4, cap4, w4, hr4, ho4, hg4⟩ := hb_append H3.out.1.r4 (by rw [List.length_map]; exact hln) H3.out.1.le x
                    have h4 := H3.out.1.app4 _ hg4 ho4
                    obtain ⟨g5, cap5, w5, hr5, ho5, hg5⟩ := o_append h4.r5 (by rw [List.length_map]; exact hln) h4.le ⟨ok, oa, of⟩
                    have h5 := h4.app5 _ hg5 ho5
                    have hbw4 : Below w.heap.size w w4 := Below.of_below B1.out B1.out.size h4.ht.bel
                    obtain ⟨_, c3', c4', c5'⟩ := CX.out _ hbw4
                    rw [List.length_map] at hr4 hr5
                    have HLv := hid (H3.out.2.1.put HQ.out HX.out.2 ⟨ok, oa, of⟩)
                    rw [← HX.out.1] at HLv
                    have H5 := hid h5
                    clear ho4 hg4 h4 ho5 hg5 h5 hbw4 H3
                    go_wp2_with (first | (at_builtin; refine wpList_append_run rfl _ _ 36 36 rfl _ _ _ rfl rfl hr4 ?_) | (at_builtin; refine wpList_append_run rfl _ _ 58 58 rfl _ _ _ rfl rfl hr5 ?_))
                    refine ⟨⟨j + 1, by omega, by go_num, _, L ++ [(x, ⟨ok, oa, of⟩)], hid ⟨?_, HLv.out.mono (Nat.le_succ _)⟩⟩, by simp [intOf]; omega⟩
                    have h6 := H5.out
                    rw [List.length_map, List.length_map] at h6
                    rw [List.map_append, List.map_append]
                    exact h6
              · have e : putA T q ⟨ok, oa, of⟩ = (0, 11, T) := by unfold putA; rw [if_neg hq2]
                rw [e] at C
                clear e hq2
                unfold obv at C
                go_wp2_with fail
                refine C.out.mono ?_
                rintro e w3 ⟨rfl, h3, hB3⟩
                have h3s := hS.out.1.but h3 hB3
                have H3 := hid (And.intro h3s hS.out.2)
                clear C h3 hB3 h3s hS c3 c4 c5 HQ
                go_wp2_with fail
                go_loop [10] (fun c => ∃ m : Nat, m ≤ L.length ∧ c = .int .i64 (m : Int)) (fun c => L.length - (intOf c).toNat)
                case atStart => exact ⟨0, Nat.zero_le _, rfl⟩
                case round =>
                  obtain ⟨m, hm, rfl⟩ := hrel
                  by_cases hlt2 : m < L.length
                  · have hlm : m < (L.map Prod.fst).length := by rw [List.length_map]; exact hlt2
                    have hr4 := H3.out.1.r4
                    rw [List.length_map] at hr4
                    obtain ⟨g, rfl, cg⟩ := row_at hr4 (hds_get hlm)
                    clear hr4 hlm
                    generalize (L.map Prod.fst)[m]?.getD 0 = y at *
                    generalize L.length = ln at *
                    by_cases hy : y = 0
                    · subst hy
                      go_wp2
                      exact ⟨⟨m + 1, by omega, by go_num⟩, by simp [intOf]; omega⟩
                    · have hne : ((y : Int) == 0) = false := by rw [beq_eq_false_iff_ne]; omega
                      have hne2 : (y == 0) = false := by rw [beq_eq_false_iff_ne]; exact hy
                      go_wp2
                      exact ⟨⟨m + 1, by omega, by go_num⟩, by simp [intOf]; omega⟩
                  · go_wp2_with fail
                    exact ⟨⟨j + 1, by omega, by go_num, T, L, hid ⟨H3.out.1, H3.out.2.mono (Nat.le_succ _)⟩⟩, by simp [intOf]; omega⟩
            | false =>
              have hqb := HB.out.symm
              rw [Bool.or_eq_false_iff] at hqb
              have hL : 0 < L.length := by have := of_decide_eq_false hqb.2; omega
              have hiL := hil hL
              obtain ⟨x, hxi⟩ : ∃ x, L[i]? = some x := ⟨_, List.getElem?_eq_getElem hiL⟩
              have hxm := List.mem_of_getElem? hxi
              have hxlt := hS.out.2.lt hxm
              have his := hS.out.2.is hxm
              have hxo := (hS.out.2.el x hxm).2.2
              have ek : killA T x.1 = (0, killT T (x.1 % 256)) := by unfold killA; rw [if_pos his]
              have ef : freeA (killT T (x.1 % 256)) x.1 = (x.2, 0, freeT (killT T (x.1 % 256)) (x.1 % 256)) := by
                have h2 : isB (killT T (x.1 % 256)) x.1 2 = true := by
                  unfold isB killT
                  rw [upd_same]
                  have := (hS.out.2.el x hxm).2.1
                  simp [this]
                unfold freeA
                rw [if_pos h2]
                unfold killT
                rw [upd_same, hxo]
              have C := hS.out.1.ht.kill x.1 (by omega)
              rw [ek] at C
              have hr4 := hS.out.1.r4
              rw [List.length_map] at hr4
              have hlm : i < (L.map Prod.fst).length := by rw [List.length_map]; exact hiL
              obtain ⟨g, rfl, cg⟩ := row_at hr4 (hds_get hlm)
              obtain ⟨g5, k5, e5⟩ := row_shape hS.out.1.r5 (by rw [List.length_map]; exact hL)
              rw [List.length_map] at e5
              subst e5
              have hget : (L.map Prod.fst)[i]?.getD 0 = x.1 := by rw [List.getElem?_map, hxi]; rfl
              rw [hget] at cg
              have hk1 := hS.out.2.kill hxi
              have hk2 := hS.out.2.free (show j < 1048575 by omega) hxi
              have hjk : j ≤ 200 := by omega
              have CC := hid C
              have HK := hid (And.intro hk1 (And.intro hk2 (And.intro ef hxi)))
              have hx4 : x.1 < 4294967296 := by omega
              obtain ⟨hx, ⟨xk, xa, xf⟩⟩ := x
              dsimp only at cg hx4 hxlt
              simp only at CC HK
              clear HB hqb hxm his hxo ek ef C hr4 hlm hget hk1 hk2 hxi c0 c1 c3 c4 c5 hil
              go_wp2_with fail
              refine CC.out.mono ?_
              rintro e w3 ⟨rfl, h3, hB3⟩
              have h3s := hS.out.1.but h3 hB3
              have hbw : Below w.heap.size w w3 := Below.of_below B1.out B1.out.size h3.bel
              have c0 := (CX.out _ hbw).1
              have H3 := hid h3s
              clear CC h3 hB3 h3s hS hbw cg
              go_upto_region 26 with fail
              go_cut [113] from 107 to 112 (fun t wd => (∃ b13, t = .bool b13) ∧ wd = w3)
              case first =>
                go_wp2_with fail
                go_meet
                case rel => exact ⟨⟨_, rfl⟩, rfl⟩
              case rest =>
                obtain ⟨⟨b13, rfl⟩, rfl⟩ := hcut
                go_upto_if 113 with fail
                go_cut [11, 12] from 114 to 132 (fun _ _ wd => ∃ T2, Hid (Us w2 wd (.slice (some ⟨g, 0, none⟩) L.length k4) (.slice (some ⟨g5, 0, none⟩) L.length k5) w1.heap.size w1 T2 (L.map Prod.fst) (L.map Prod.snd) ∧ Lv T2 (L.eraseIdx i) (j + 1)))
                case first =>
                  have hcg : ∀ wx, Us w2 wx (.slice (some ⟨g, 0, none⟩) L.length k4) (.slice (some ⟨g5, 0, none⟩) L.length k5) w1.heap.size w1 (killT T (hx % 256)) (L.map Prod.fst) (L.map Prod.snd) → wx.cell? ⟨g, i, none⟩ = some (.int .u32 (hx : Int)) := fun wx hu => by
                    have hr := hu.r4
                    rw [List.length_map] at hr
                    have := (row_cell hr (hds_get (l := L.map Prod.fst) (j := i) (by rw [List.length_map]; exact hiL))).1
                    rw [List.getElem?_map, HK.out.2.2.2] at this
                    exact this
                  have cg := hcg _ H3.out
                  clear hcg
                  cases b13 with
                  | true =>
                    go_wp2_with fail
                    have D := H3.out.ht.free hx hx4
                    rw [HK.out.2.2.1] at D
                    refine D.mono ?_
                    rintro e w4 ⟨rfl, h4, hB4⟩
                    unfold obv
                    have h4s := (H3.out.but h4 hB4).alloc (.cells #[.int .i64 xk, .int .i64 xa, .int .i64 xf] 31)
                    have hr5 := h4s.r5
                    rw [List.length_map] at hr5
                    have hl5 : (L.map Prod.snd)[i]? = some ⟨xk, xa, xf⟩ := by rw [List.getElem?_map, HK.out.2.2.2]; rfl
                    have m0 := (row_cell hr5 ((obs_get hl5 0 (by decide)).trans rfl)).1
                    have m1 := (row_cell hr5 ((obs_get hl5 1 (by decide)).trans rfl)).1
                    have m2 := (row_cell hr5 ((obs_get hl5 2 (by decide)).trans rfl)).1
                    rw [Nat.add_zero] at m0
                    have H4 := hid h4s
                    have hi0 : (0 : Int) ≤ (i : Int) := by omega
                    have hi1 : (i : Int) < (L.length : Int) := by omega
                    clear D h4 hB4 h4s hr5 hl5 cg H3
                    go_wp2_with fail
                    go_quiet (fail)
                    go_wp2_with fail
                    go_meet
                    case rel => exact ⟨_, hid ⟨H4.out.drewN _, HK.out.2.1⟩⟩
                  | false =>
                    go_wp2_with fail
                    go_meet
                    case rel => exact ⟨_, hid ⟨H3.out, HK.out.1.mono (Nat.le_succ _)⟩⟩
                case rest =>
                  obtain ⟨T2, hU⟩ := hcut
                  clear H3 HK c0
                  obtain ⟨gx, capx, ex, hcap, hrun⟩ := (hU.out.1.drewN 1).cut4 i (by rw [List.length_map]; exact hiL) (by rw [List.length_map]; omega)
                  obtain ⟨rfl, rfl⟩ : gx = g ∧ capx = k4 := by
                    simp at ex
                    exact ⟨ex.1.symm, ex.2.symm⟩
                  rw [List.length_map] at hcap
                  obtain ⟨gy, capy, ey, hcap5, _⟩ := hU.out.1.cut5 i (by rw [List.length_map]; exact hiL) (by rw [List.length_map]; omega)
                  obtain ⟨rfl, rfl⟩ : gy = g5 ∧ capy = k5 := by
                    simp at ey
                    exact ⟨ey.1.symm, ey.2.symm⟩
                  rw [List.length_map] at hcap5
                  have hi0 : (0 : Int) ≤ (i : Int) := by omega
                  have hi1 : (i : Int) < (L.length : Int) := by omega
                  have hi2 : i ≤ capx := by omega
                  have hi3 : i + 1 ≤ L.length := by omega
                  have hi4 : i ≤ capy := by omega
                  have hi5 : (i : Int) + 1 ≤ (L.length : Int) := by omega
                  have hi6 : (0 : Int) ≤ (i : Int) + 1 := by omega
                  have hi7 : (L.length : Int) ≤ (capx : Int) := by omega
                  have hi8 : (L.length : Int) ≤ (capy : Int) := by omega
                  have hiA : (i : Int) ≤ (capx : Int) := by omega
                  have hiB : (i : Int) ≤ (capy : Int) := by omega
                  have hiW : IntKind.i64.wrap ((i : Int) + 1) = (i : Int) + 1 := by rw [IntKind.wrap_i64]; omega
                  clear ex ey
                  by_cases c4 : capx = i + 1
                  · have HC4 := hid c4
                    clear c4
                    by_cases c5 : capy = i + 1
                    · have HC5 := hid c5
                      clear c5
                      obtain ⟨v1, wa, v, wb, hr1, hr2, hU2⟩ := hrun (⟨gx, 0, none⟩ : Addr) capx (capx - (i + 1)) (by rw [List.length_map]; exact .inl (by have := HC4.out; omega))
                      obtain ⟨gz, capz, ez, _, hrun5⟩ := (hU2.drewN 1).cut5 i (by rw [List.length_map]; exact hiL) (by rw [List.length_map]; omega)
                      obtain ⟨rfl, rfl⟩ : gz = gy ∧ capz = capy := by
                        simp at ez
                        exact ⟨ez.1.symm, ez.2.symm⟩
                      obtain ⟨v1', wa', v', wb', hr1', hr2', hU3⟩ := hrun5 (⟨gz, 0, none⟩ : Addr) capz (capz - (i + 1)) (by rw [List.length_map]; exact .inl (by have := HC5.out; omega))
                      rw [List.length_map] at hr2 hr2'
                      have HU := hid (And.intro hU3 hU.out.2)
                      have HR := hid (And.intro hr1 (And.intro hr2 (And.intro hr1' hr2')))
                      clear hrun ez hrun5 hU hU2 hU3 hr1 hr2 hr1' hr2'
                      generalize L.length = ln at *
                      go_wp2_with fail
                      go_region_held3 (fun _ => True) (trivial)
                        (first
                          | (refine step_append_run _ wa v1 (by rfl) _ _ 36 (by rfl) (.slice (some ⟨wc.heap.size, 0, none⟩) 0 0) (.slice (some ⟨gx, 0, none⟩) i capx) (by rfl) (by rfl) HR.out.1 ?_)
                          | (refine step_append_run _ wb v (by rfl) _ _ 36 (by rfl) v1 (.slice (some (⟨gx, 0, none⟩ : Addr)) (ln - (i + 1)) (capx - (i + 1))) (by rfl) (by show Value.slice (if capx = i + 1 then some (⟨gx, 0, none⟩ : Addr) else some ⟨gx, i + 1, none⟩) (ln - (i + 1)) (capx - (i + 1)) = _; rw [if_pos HC4.out]) HR.out.2.1 ?_))
                      go_wp2_with fail
                      go_region_held3 (fun _ => True) (trivial)
                        (first
                          | (refine step_append_run _ wa' v1' (by rfl) _ _ 58 (by rfl) (.slice (some ⟨wb.heap.size, 0, none⟩) 0 0) (.slice (some ⟨gz, 0, none⟩) i capz) (by rfl) (by rfl) HR.out.2.2.1 ?_)
                          | (refine step_append_run _ wb' v' (by rfl) _ _ 58 (by rfl) v1' (.slice (some (⟨gz, 0, none⟩ : Addr)) (ln - (i + 1)) (capz - (i + 1))) (by rfl) (by show Value.slice (if capz = i + 1 then some (⟨gz, 0, none⟩ : Addr) else some ⟨gz, (i + 1) * 3, none⟩) (ln - (i + 1)) (capz - (i + 1)) = _; rw [if_pos HC5.out]) HR.out.2.2.2 ?_))
                      go_wp2_with fail
                      refine ⟨⟨j + 1, by omega, by go_num, T2, L.eraseIdx i, hid ⟨?_, HU.out.2⟩⟩, by simp [intOf]; omega⟩
                      have hu := HU.out.1
                      rw [← eraseIdx_map', ← eraseIdx_map'] at hu
                      exact hu
                    · have HC5 := hid c5
                      clear c5
                      obtain ⟨v1, wa, v, wb, hr1, hr2, hU2⟩ := hrun (⟨gx, 0, none⟩ : Addr) capx (capx - (i + 1)) (by rw [List.length_map]; exact .inl (by have := HC4.out; omega))
                      obtain ⟨gz, capz, ez, _, hrun5⟩ := (hU2.drewN 1).cut5 i (by rw [List.length_map]; exact hiL) (by rw [List.length_map]; omega)
                      obtain ⟨rfl, rfl⟩ : gz = gy ∧ capz = capy := by
                        simp at ez
                        exact ⟨ez.1.symm, ez.2.symm⟩
                      obtain ⟨v1', wa', v', wb', hr1', hr2', hU3⟩ := hrun5 (⟨gz, (i + 1) * 3, none⟩ : Addr) capz (capz - (i + 1)) (by exact .inr rfl)
                      rw [List.length_map] at hr2 hr2'
                      have HU := hid (And.intro hU3 hU.out.2)
                      have HR := hid (And.intro hr1 (And.intro hr2 (And.intro hr1' hr2')))
                      clear hrun ez hrun5 hU hU2 hU3 hr1 hr2 hr1' hr2'
                      generalize L.length = ln at *
                      go_wp2_with fail
                      go_region_held3 (fun _ => True) (trivial)
                        (first
                          | (refine step_append_run _ wa v1 (by rfl) _ _ 36 (by rfl) (.slice (some ⟨wc.heap.size, 0, none⟩) 0 0) (.slice (some ⟨gx, 0, none⟩) i capx) (by rfl) (by rfl) HR.out.1 ?_)
                          | (refine step_append_run _ wb v (by rfl) _ _ 36 (by rfl) v1 (.slice (some (⟨gx, 0, none⟩ : Addr)) (ln - (i + 1)) (capx - (i + 1))) (by rfl) (by show Value.slice (if capx = i + 1 then some (⟨gx, 0, none⟩ : Addr) else some ⟨gx, i + 1, none⟩) (ln - (i + 1)) (capx - (i + 1)) = _; rw [if_pos HC4.out]) HR.out.2.1 ?_))
                      go_wp2_with fail
                      go_region_held3 (fun _ => True) (trivial)
                        (first
                          | (refine step_append_run _ wa' v1' (by rfl) _ _ 58 (by rfl) (.slice (some ⟨wb.heap.size, 0, none⟩) 0 0) (.slice (some ⟨gz, 0, none⟩) i capz) (by rfl) (by rfl) HR.out.2.2.1 ?_)
                          | (refine step_append_run _ wb' v' (by rfl) _ _ 58 (by rfl) v1' (.slice (some (⟨gz, (i + 1) * 3, none⟩ : Addr)) (ln - (i + 1)) (capz - (i + 1))) (by rfl) (by show Value.slice (if capz = i + 1 then some (⟨gz, 0, none⟩ : Addr) else some ⟨gz, (i + 1) * 3, none⟩) (ln - (i + 1)) (capz - (i + 1)) = _; rw [if_neg HC5.out]) HR.out.2.2.2 ?_))
                      go_wp2_with fail
                      refine ⟨⟨j + 1, by omega, by go_num, T2, L.eraseIdx i, hid ⟨?_, HU.out.2⟩⟩, by simp [intOf]; omega⟩
                      have hu := HU.out.1
                      rw [← eraseIdx_map', ← eraseIdx_map'] at hu
                      exact hu
                  · have HC4 := hid c4
                    clear c4
                    by_cases c5 : capy = i + 1
                    · have HC5 := hid c5
                      clear c5
                      obtain ⟨v1, wa, v, wb, hr1, hr2, hU2⟩ := hrun (⟨gx, i + 1, none⟩ : Addr) capx (capx - (i + 1)) (by exact .inr rfl)
                      obtain ⟨gz, capz, ez, _, hrun5⟩ := (hU2.drewN 1).cut5 i (by rw [List.length_map]; exact hiL) (by rw [List.length_map]; omega)
                      obtain ⟨rfl, rfl⟩ : gz = gy ∧ capz = capy := by
                        simp at ez
                        exact ⟨ez.1.symm, ez.2.symm⟩
                      obtain ⟨v1', wa', v', wb', hr1', hr2', hU3⟩ := hrun5 (⟨gz, 0, none⟩ : Addr) capz (capz - (i + 1)) (by rw [List.length_map]; exact .inl (by have := HC5.out; omega))
                      rw [List.length_map] at hr2 hr2'
                      have HU := hid (And.intro hU3 hU.out.2)
                      have HR := hid (And.intro hr1 (And.intro hr2 (And.intro hr1' hr2')))
                      clear hrun ez hrun5 hU hU2 hU3 hr1 hr2 hr1' hr2'
                      generalize L.length = ln at *
                      go_wp2_with fail
                      go_region_held3 (fun _ => True) (trivial)
                        (first
                          | (refine step_append_run _ wa v1 (by rfl) _ _ 36 (by rfl) (.slice (some ⟨wc.heap.size, 0, none⟩) 0 0) (.slice (some ⟨gx, 0, none⟩) i capx) (by rfl) (by rfl) HR.out.1 ?_)
                          | (refine step_append_run _ wb v (by rfl) _ _ 36 (by rfl) v1 (.slice (some (⟨gx, i + 1, none⟩ : Addr)) (ln - (i + 1)) (capx - (i + 1))) (by rfl) (by show Value.slice (if capx = i + 1 then some (⟨gx, 0, none⟩ : Addr) else some ⟨gx, i + 1, none⟩) (ln - (i + 1)) (capx - (i + 1)) = _; rw [if_neg HC4.out]) HR.out.2.1 ?_))
                      go_wp2_with fail
                      go_region_held3 (fun _ => True) (trivial)
                        (first
                          | (refine step_append_run _ wa' v1' (by rfl) _ _ 58 (by rfl) (.slice (some ⟨wb.heap.size, 0, none⟩) 0 0) (.slice (some ⟨gz, 0, none⟩) i capz) (by rfl) (by rfl) HR.out.2.2.1 ?_)
                          | (refine step_append_run _ wb' v' (by rfl) _ _ 58 (by rfl) v1' (.slice (some (⟨gz, 0, none⟩ : Addr)) (ln - (i + 1)) (capz - (i + 1))) (by rfl) (by show Value.slice (if capz = i + 1 then some (⟨gz, 0, none⟩ : Addr) else some ⟨gz, (i + 1) * 3, none⟩) (ln - (i + 1)) (capz - (i + 1)) = _; rw [if_pos HC5.out]) HR.out.2.2.2 ?_))
                      go_wp2_with fail
                      refine ⟨⟨j + 1, by omega, by go_num, T2, L.eraseIdx i, hid ⟨?_, HU.out.2⟩⟩, by simp [intOf]; omega⟩
                      have hu := HU.out.1
                      rw [← eraseIdx_map', ← eraseIdx_map'] at hu
                      exact hu
                    · have HC5 := hid c5
                      clear c5
                      obtain ⟨v1, wa, v, wb, hr1, hr2, hU2⟩ := hrun (⟨gx, i + 1, none⟩ : Addr) capx (capx - (i + 1)) (by exact .inr rfl)
                      obtain ⟨gz, capz, ez, _, hrun5⟩ := (hU2.drewN 1).cut5 i (by rw [List.length_map]; exact hiL) (by rw [List.length_map]; omega)
                      obtain ⟨rfl, rfl⟩ : gz = gy ∧ capz = capy := by
                        simp at ez
                        exact ⟨ez.1.symm, ez.2.symm⟩
                      obtain ⟨v1', wa', v', wb', hr1', hr2', hU3⟩ := hrun5 (⟨gz, (i + 1) * 3, none⟩ : Addr) capz (capz - (i + 1)) (by exact .inr rfl)
                      rw [List.length_map] at hr2 hr2'
                      have HU := hid (And.intro hU3 hU.out.2)
                      have HR := hid (And.intro hr1 (And.intro hr2 (And.intro hr1' hr2')))
                      clear hrun ez hrun5 hU hU2 hU3 hr1 hr2 hr1' hr2'
                      generalize L.length = ln at *
                      go_wp2_with fail
                      go_region_held3 (fun _ => True) (trivial)
                        (first
                          | (refine step_append_run _ wa v1 (by rfl) _ _ 36 (by rfl) (.slice (some ⟨wc.heap.size, 0, none⟩) 0 0) (.slice (some ⟨gx, 0, none⟩) i capx) (by rfl) (by rfl) HR.out.1 ?_)
                          | (refine step_append_run _ wb v (by rfl) _ _ 36 (by rfl) v1 (.slice (some (⟨gx, i + 1, none⟩ : Addr)) (ln - (i + 1)) (capx - (i + 1))) (by rfl) (by show Value.slice (if capx = i + 1 then some (⟨gx, 0, none⟩ : Addr) else some ⟨gx, i + 1, none⟩) (ln - (i + 1)) (capx - (i + 1)) = _; rw [if_neg HC4.out]) HR.out.2.1 ?_))
                      go_wp2_with fail
                      go_region_held3 (fun _ => True) (trivial)
                        (first
                          | (refine step_append_run _ wa' v1' (by rfl) _ _ 58 (by rfl) (.slice (some ⟨wb.heap.size, 0, none⟩) 0 0) (.slice (some ⟨gz, 0, none⟩) i capz) (by rfl) (by rfl) HR.out.2.2.1 ?_)
                          | (refine step_append_run _ wb' v' (by rfl) _ _ 58 (by rfl) v1' (.slice (some (⟨gz, (i + 1) * 3, none⟩ : Addr)) (ln - (i + 1)) (capz - (i + 1))) (by rfl) (by show Value.slice (if capz = i + 1 then some (⟨gz, 0, none⟩ : Addr) else some ⟨gz, (i + 1) * 3, none⟩) (ln - (i + 1)) (capz - (i + 1)) = _; rw [if_neg HC5.out]) HR.out.2.2.2 ?_))
                      go_wp2_with fail
                      refine ⟨⟨j + 1, by omega, by go_num, T2, L.eraseIdx i, hid ⟨?_, HU.out.2⟩⟩, by simp [intOf]; omega⟩
                      have hu := HU.out.1
                      rw [← eraseIdx_map', ← eraseIdx_map'] at hu
                      exact hu
    · go_wp2_with fail
      clear hlt hj
      go_loopw [13] (fun c wx => ∃ m : Nat, m ≤ L.length ∧ c = .int .i64 (m : Int) ∧ Hid (Us w2 wx (.slice a4 L.length k4) u5 w1.heap.size w1 T (L.map Prod.fst) (L.map Prod.snd) ∧ Lv T L j)) (fun c _ => L.length - (intOf c).toNat)
      case atStart => exact ⟨0, Nat.zero_le _, rfl, hS⟩
      case round =>
        obtain ⟨m, hm, rfl, hM⟩ := hrel
        clear hS
        have hln := hM.out.2.few
        by_cases hlt2 : m < L.length
        · as_aux_lemma =>
            obtain ⟨x, hxi⟩ : ∃ x, L[m]? = some x := ⟨_, List.getElem?_eq_getElem hlt2⟩
            have hxm := List.mem_of_getElem? hxi
            have hxlt := hM.out.2.lt hxm
            have his := hM.out.2.is hxm
            have hel := hM.out.2.el x hxm
            have eg : getA T x.1 = (x.2, 0) := by unfold getA; rw [if_pos his, hel.2.2]
            have ep : peekA T x.1 = (x.2, 0) := by
              have hp : pkB T x.1 = true := by
                unfold pkB
                rw [hel.1, hel.2.1]
                simp
              unfold peekA; rw [if_pos hp, hel.2.2]
            have hr4 := hM.out.1.r4
            rw [List.length_map] at hr4
            have hlm : m < (L.map Prod.fst).length := by rw [List.length_map]; exact hlt2
            obtain ⟨g, rfl, cg⟩ := row_at hr4 (hds_get hlm)
            obtain ⟨g5, k5, e5⟩ := row_shape hM.out.1.r5 (by rw [List.length_map]; omega)
            rw [List.length_map] at e5
            subst e5
            rw [show (L.map Prod.fst)[m]?.getD 0 = x.1 by rw [List.getElem?_map, hxi]; rfl] at cg
            have hx4 : x.1 < 4294967296 := by omega
            have C := hM.out.1.ht.get x.1 hx4
            rw [eg] at C
            have CC := hid C
            have HP := hid (fun (wx : World) (hu : Us w2 wx (.slice (some ⟨g, 0, none⟩) L.length k4) (.slice (some ⟨g5, 0, none⟩) L.length k5) w1.heap.size w1 T (L.map Prod.fst) (L.map Prod.snd)) => (show Calls Try.prog 11 #[.pointer (some ⟨w1.heap.size, 0, none⟩), .int .u32 (x.1 : Int)] wx (ObPost wx x.2 0) ∧ wx.cell? ⟨g, m, none⟩ = some (.int .u32 (x.1 : Int)) by
              have h1 := hu.ht.peek x.1 hx4
              rw [ep] at h1
              have hr := hu.r4
              rw [List.length_map] at hr
              have h2 := (row_cell hr (hds_get hlm)).1
              rw [List.getElem?_map, hxi] at h2
              exact ⟨h1, h2⟩))
            have HL := hid hxi
            clear hxm hxlt his hel eg ep hr4 hlm hxi C
            obtain ⟨hx, ⟨xk, xa, xf⟩⟩ := x
            dsimp only at cg hx4
            simp only at CC HP
            go_wp2_with fail
            refine CC.out.mono ?_
            rintro e w3 ⟨rfl, hb3⟩
            unfold obv
            have h3 := (hM.out.1.below hb3).alloc (.cells #[.int .i64 xk, .int .i64 xa, .int .i64 xf] 31)
            have p3 := heap_alloc_new w3 (.cells #[.int .i64 xk, .int .i64 xa, .int .i64 xf] 31)
            obtain ⟨hq1, cg3⟩ := HP.out _ h3
            have CP := hid hq1
            have H3 := hid (And.intro h3 (And.intro p3 hM.out.2))
            clear CC h3 hb3 p3 hq1 HP hM cg
            go_wp2_with fail
            refine CP.out.mono ?_
            rintro e w4 ⟨rfl, hb4⟩
            unfold obv
            have h4 := (H3.out.1.below hb4).alloc (.cells #[.int .i64 xk, .int .i64 xa, .int .i64 xf] 31)
            have p4 := alloc_keep (.cells #[.int .i64 xk, .int .i64 xa, .int .i64 xf] 31) (bel_keep hb4 H3.out.2.1)
            have q4 := heap_alloc_new w4 (.cells #[.int .i64 xk, .int .i64 xa, .int .i64 xf] 31)
            obtain ⟨⟨x0, x1, x2⟩, _⟩ := row3 p4
            obtain ⟨⟨y0, y1, y2⟩, _⟩ := row3 q4
            have hr5 := h4.r5
            rw [List.length_map] at hr5
            have hl5 : (L.map Prod.snd)[m]? = some ⟨xk, xa, xf⟩ := by rw [List.getElem?_map, HL.out]; rfl
            have m0 := (row_cell hr5 ((obs_get hl5 0 (by decide)).trans rfl)).1
            have m1 := (row_cell hr5 ((obs_get hl5 1 (by decide)).trans rfl)).1
            have m2 := (row_cell hr5 ((obs_get hl5 2 (by decide)).trans rfl)).1
            rw [Nat.add_zero] at m0
            have H4 := hid (And.intro h4 H3.out.2.2)
            have hi0 : (0 : Int) ≤ (m : Int) := by omega
            have hi1 : (m : Int) < (L.length : Int) := by omega
            clear CP h4 hb4 p4 q4 hr5 hl5 H3 cg3
            go_wp2_with fail
            go_quiet (fail)
            go_wp2_with fail
            exact ⟨⟨m + 1, by omega, by go_num, hid ⟨H4.out.1.drewN _, H4.out.2⟩⟩, by simp [intOf]; omega⟩
        · as_aux_lemma =>
            have hsum := hM.out.2.sum
            have hnum := hM.out.2.num
            have C := hM.out.1.ht.live
            rw [hnum] at C
            have CC := hid C
            have HN := hid hnum
            obtain ⟨r0, hr0⟩ : ∃ r0, r0 = cn T 0 256 := ⟨_, rfl⟩
            obtain ⟨z0, hz0⟩ : ∃ z0, z0 = cn T 2 256 := ⟨_, rfl⟩
            rw [← hr0, ← hz0] at hsum
            have hs1 : (r0 : Int) + (L.length : Int) + (z0 : Int) = 256 := by omega
            have hr1 : (r0 : Int) ≤ 256 := by omega
            have hz1 : (z0 : Int) ≤ 256 := by omega
            have HR := hid (And.intro hr0 hz0)
            clear C hsum hnum hr0 hz0
            go_wp2_with fail
            refine CC.out.mono ?_
            rintro e w3 ⟨a3, c3, rfl, hb3⟩
            have h3 := hM.out.1.below hb3
            have C := h3.ht.room
            rw [← HR.out.1] at C
            have D := hid C
            have H3 := hid h3
            clear CC C hb3 h3 hM
            go_wp2_with fail
            refine D.out.mono ?_
            rintro e w4 ⟨rfl, hb4⟩
            have h4 := H3.out.below hb4
            have C := h4.ht.live
            rw [HN.out] at C
            have E := hid C
            have H4 := hid h4
            clear D C hb4 h4 H3
            go_wp2_with fail
            refine E.out.mono ?_
            rintro e w5 ⟨a5, c5, rfl, hb5⟩
            have h5 := H4.out.below hb5
            have C := h5.ht.zombies
            rw [← HR.out.2] at C
            have D := hid C
            have H5 := hid h5
            clear E C hb5 h5 H4
            go_wp2_with fail
            refine D.out.mono ?_
            rintro e w6 ⟨a6, c6, rfl, hb6⟩
            have H6 := hid (H5.out.below hb6)
            clear D hb6 H5
            go_wp2_with fail
            go_ret
            exact ⟨rfl, Below.of_below B1.out B1.out.size H6.out.ht.bel⟩
end Go.Proofs.Ytoahfeckadaomaa.handleUnlike
