/- The walk of HandleActs: what comes ahead of the loop. -/
import Derived.Test.YtoahfeckadaomaaQ2
import Derived.Deep.CutRange
import Derived.Deep.CutBlock
namespace Go.Proofs.Ytoahfeckadaomaa.handleActs
open Go.RowKit Go.Proofs.Ytoahfeckadaomaa

theorem row6 {w : World} {g : Nat} {x0 x1 x2 x3 x4 x5 : Value} {t : TypeId} (h : w.heap[g]? = some (.cells #[x0, x1, x2, x3, x4, x5] t)) :
    w.cell? ⟨g, 0, none⟩ = some x0 ∧ w.cell? ⟨g, 1, none⟩ = some x1 ∧ w.cell? ⟨g, 2, none⟩ = some x2 ∧ w.cell? ⟨g, 3, none⟩ = some x3 ∧ w.cell? ⟨g, 4, none⟩ = some x4 ∧ w.cell? ⟨g, 5, none⟩ = some x5 :=
  ⟨by rw [cell_of_row _ _ _ _ _ _ h]; rfl, by rw [cell_of_row _ _ _ _ _ _ h]; rfl, by rw [cell_of_row _ _ _ _ _ _ h]; rfl, by rw [cell_of_row _ _ _ _ _ _ h]; rfl, by rw [cell_of_row _ _ _ _ _ _ h]; rfl, by rw [cell_of_row _ _ _ _ _ _ h]; rfl⟩
set_option maxRecDepth 100000 in
theorem core_long (a : Option Addr) (len cap : Nat) (w : World) (hl : (400 : Int) < (len : Int)) :
    Calls Try.prog 3 #[.slice a len cap] w fun e w' => e = .returned (.bool true) ∧ Below w.heap.size w w' := by
  go_enter Try.func3, Try.ntmps3
  go_wp2_with (go_at_call 7; refine (alive_true _).mono ?_; rintro e w1 ⟨rfl, hb1⟩)
  go_ret
  exact ⟨rfl, hb1⟩

set_option maxRecDepth 100000 in
set_option maxHeartbeats 8000000 in
theorem core (a : Option Addr) (len cap : Nat) (w : World) (hA : Acts w w.heap.size a len) (hl : (len : Int) ≤ 400) :
    Calls Try.prog 3 #[.slice a len cap] w fun e w' => e = .returned (.bool true) ∧ Below w.heap.size w w' := by
  have HA := hid hA
  have hdl : decide ((400 : Int) < (len : Int)) = false := decide_eq_false (by omega)
  clear hA
  go_enter Try.func3, Try.ntmps3
  go_wp2_with fail
  refine (alive_true _).mono ?_
  rintro e w1 ⟨rfl, hb1⟩
  have B1 := hid hb1
  clear hb1
  go_wp2_with fail
  refine (put_nil ⟨0, 0, 0⟩ _).mono ?_
  rintro e w2 ⟨rfl, hb2⟩
  have B2 := hid (Below.of_below B1.out B1.out.size hb2)
  clear hb2 B1
  go_wp2_with fail
  refine (get_nil 0 _).mono ?_
  rintro e w3 ⟨rfl, hb3⟩
  unfold obv noOb
  have B3 := hid ((Below.of_below B2.out B2.out.size hb3).alloc (Below.of_below B2.out B2.out.size hb3).size (.cells #[.int .i64 0, .int .i64 0, .int .i64 0] 31))
  clear hb3 B2
  go_wp2_with fail
  refine (free_nil 0 _).mono ?_
  rintro e w4 ⟨rfl, hb4⟩
  unfold obv noOb
  have B4 := hid ((Below.of_below B3.out B3.out.size hb4).alloc (Below.of_below B3.out B3.out.size hb4).size (.cells #[.int .i64 0, .int .i64 0, .int .i64 0] 31))
  clear hb4 B3
  go_wp2_with fail
  refine (peek_nil 0 _).mono ?_
  rintro e w5 ⟨rfl, hb5⟩
  unfold obv noOb
  have B5 := hid ((Below.of_below B4.out B4.out.size hb5).alloc (Below.of_below B4.out B4.out.size hb5).size (.cells #[.int .i64 0, .int .i64 0, .int .i64 0] 31))
  clear hb5 B4
  go_wp2_with fail
  refine (room_nil _).mono ?_
  rintro e w6 ⟨rfl, hb6⟩
  have B6 := hid (Below.of_below B5.out B5.out.size hb6)
  clear hb6 B5
  go_wp2_with fail
  refine (kill_nil 0 _).mono ?_
  rintro e w7 ⟨rfl, hb7⟩
  have B7 := hid (Below.of_below B6.out B6.out.size hb7)
  clear hb7 B6
  go_wp2_with fail
  refine (live_nil _).mono ?_
  rintro e w8 ⟨rfl, hb8⟩
  have B8 := hid (Below.of_below B7.out B7.out.size hb8)
  clear hb8 B7
  go_wp2_with fail
  refine (zombies_nil _).mono ?_
  rintro e w9 ⟨rfl, hb9⟩
  have B9 := hid (Below.of_below B8.out B8.out.size hb9)
  clear hb9 B8
  go_wp2_with fail
  refine (age_nil 0 0 _).mono ?_
  rintro e w10 ⟨rfl, rfl⟩
  go_wp2_with fail
  refine (Ht.new w10).mono ?_
  rintro e w11 ⟨rfl, h11⟩
  have hz := zero44 w11
  have HT := hid (show Two w10 (w11.alloc (.cells zr 44)) w10.heap.size w11.heap.size T0 from ⟨h11.alloc _, Rb.new _, h11.bel.size, by have := h11.tb.lt; omega⟩)
  clear h11
  go_wp2_with fail
  clear hz
  go_loopw [14] (fun c wr => ∃ j : Nat, j ≤ len ∧ c = .int .i64 (j : Int) ∧ ∃ T, Hid (Two w10 wr w10.heap.size w11.heap.size T)) (fun c _ => len - (intOf c).toNat)
  case atStart => exact ⟨0, Nat.zero_le _, rfl, _, HT⟩
  case round =>
    obtain ⟨j, hj, rfl, T, hS⟩ := hrel
    clear HT
    by_cases hlt : j < len
    · have hX := hid (Below.of_below B9.out B9.out.size hS.out.low)
      obtain ⟨s, o, x, rfl, hx, hsl⟩ := HA.out.at hX.out hlt
      obtain ⟨kd, nn, hh, ⟨ok, oa, of⟩⟩ := x
      have c0 : wr.cell? ⟨s, o + j * 6, none⟩ = some (.int .i64 kd) := hx.c0
      have c1 : wr.cell? ⟨s, o + j * 6 + 1, none⟩ = some (.int .i64 nn) := hx.c1
      have c2 : wr.cell? ⟨s, o + j * 6 + 2, none⟩ = some (.int .u32 (hh : Int)) := hx.c2
      have c3 : wr.cell? ⟨s, o + j * 6 + 3, none⟩ = some (.int .i64 ok) := hx.c3
      have c4 : wr.cell? ⟨s, o + j * 6 + 4, none⟩ = some (.int .i64 oa) := hx.c4
      have c5 : wr.cell? ⟨s, o + j * 6 + 5, none⟩ = some (.int .i64 of) := hx.c5
      have hhl : hh < 4294967296 := hx.lt
      have hbk := hx.bk
      clear hx hX
      go_upto_region 20 with fail
      obtain ⟨bx, hbx⟩ : ∃ bx, bx = wr.heap.size := ⟨_, rfl⟩
      have HM : Hid (Two w10 (wr.alloc (.cells #[.int .i64 kd, .int .i64 nn, .int .u32 (hh : Int), .int .i64 ok, .int .i64 oa, .int .i64 of] 46)) w10.heap.size w11.heap.size T ∧ (wr.alloc (.cells #[.int .i64 kd, .int .i64 nn, .int .u32 (hh : Int), .int .i64 ok, .int .i64 oa, .int .i64 of] 46)).heap[bx]? = some (.cells #[.int .i64 kd, .int .i64 nn, .int .u32 (hh : Int), .int .i64 ok, .int .i64 oa, .int .i64 of] 46)) := hid ⟨hS.out.alloc _, by rw [hbx]; exact heap_alloc_new _ _⟩
      have hbb : bx ≠ w10.heap.size := by have := hS.out.ht.tb.lt; omega
      have hbr : bx ≠ w11.heap.size := by have := hS.out.rb.lt; omega
      rw [← hbx]
      clear hS c0 c1 c2 c3 c4 c5 hbx
      go_cut [122] from 117 to 121 (fun t wc => t = .bool (decide (kd = 3 ∨ kd = 4)) ∧ Hid (Two w10 wc w10.heap.size w11.heap.size T ∧ wc.heap[bx]? = some (.cells #[.int .i64 kd, .int .i64 nn, .int .u32 (hh : Int), .int .i64 ok, .int .i64 oa, .int .i64 of] 46)))
      case first =>
        by_cases q3 : kd = 3
        · subst q3
          go_wp2_with fail
          go_meet
          case rel => exact ⟨by simp, HM⟩
        · have q3' : (kd == 3) = false := by rw [beq_eq_false_iff_ne]; exact q3
          by_cases q4 : kd = 4
          · subst q4
            go_wp2_with fail
            go_meet
            case rel => exact ⟨by simp, HM⟩
          · have q4' : (kd == 4) = false := by rw [beq_eq_false_iff_ne]; exact q4
            have E := hid (show decide (kd = 3 ∨ kd = 4) = false from decide_eq_false (by omega))
            clear q3 q4
            go_wp2_with fail
            go_meet
            case rel => exact ⟨by rw [E.out], HM⟩
      case rest =>
        clear HM
        obtain ⟨rfl, hM⟩ := hcut
        obtain ⟨b34, hb34⟩ : ∃ b34, b34 = decide (kd = 3 ∨ kd = 4) := ⟨_, rfl⟩
        rw [← hb34]
        have HB := hid hb34
        clear hb34
        go_upto_if 122 with fail
        go_cut [16, 17, 18] from 123 to 144 (fun t16 t17 _ wd => ∃ (h : Nat) (kd2 : Int), t16 = .int .u32 (h : Int) ∧ t17 = .int .i64 kd2 ∧ h < 4294967296 ∧ Hid (Two w10 wd w10.heap.size w11.heap.size T ∧ wd.heap[bx]? = some (.cells #[.int .i64 kd, .int .i64 nn, .int .u32 (hh : Int), .int .i64 ok, .int .i64 oa, .int .i64 of] 46)))
        case first =>
          cases b34 with
          | false =>
            go_wp2_with fail
            go_meet
            case rel => exact ⟨hh, kd, rfl, rfl, hhl, hM⟩
          | true =>
            have hkd : ∃ sN : Nat, kd - 2 = (sN : Int) ∧ -9223372036854775808 ≤ kd ∧ kd ≤ 4 := by
              have e : decide (kd = 3 ∨ kd = 4) = true := HB.out.symm
              rcases of_decide_eq_true e with e | e
              · exact ⟨1, by omega, by omega, by omega⟩
              · exact ⟨2, by omega, by omega, by omega⟩
            obtain ⟨sN, hk2, hk3, hk4⟩ := hkd
            have C := hid (rall_any hM.out.1.rb hM.out.1.ht.wf sN)
            clear HB hbk
            go_wp2_with fail
            refine C.out.mono ?_
            rintro e w13 ⟨v, rfl, hr, hb⟩
            obtain ⟨av, cv, rfl, _⟩ := row_cells hr
            have hM2 := hid (And.intro (hM.out.1.below hb) (bel_keep hb hM.out.2))
            have d1 := (row6 hM2.out.2).2.1
            have HRW := hid hr
            have hwf := hid hM.out.1.ht.wf
            clear hr hb hM C
            have hln := hs_len T sN 256
            by_cases q1 : 0 ≤ nn
            · by_cases q2 : 0 < (hs T sN 256).length
              · obtain ⟨n0, rfl⟩ := Int.eq_ofNat_of_zero_le q1
                obtain ⟨m, hm0⟩ : ∃ m, m = n0 % (hs T sN 256).length := ⟨_, rfl⟩
                have hml : m < (hs T sN 256).length := by rw [hm0]; exact Nat.mod_lt _ q2
                have hm1 : (n0 : Int) % ((hs T sN 256).length : Int) = (m : Int) := by rw [hm0, Int.natCast_emod]
                have hm2 : (n0 : Int).tmod ((hs T sN 256).length : Int) = (m : Int) := by rw [← hm1]; exact Int.tmod_eq_emod_of_nonneg q1
                obtain ⟨g, rfl, cg⟩ := row_at HRW.out (hds_get hml)
                have hmem : (hs T sN 256)[m]?.getD 0 < 4294967296 := by
                  have e : (hs T sN 256)[m]?.getD 0 ∈ hs T sN 256 := by rw [List.getElem?_eq_getElem hml]; exact List.getElem_mem _
                  obtain ⟨i, hi, _, e2⟩ := hs_mem.1 e
                  rw [e2]
                  have := hOf_lt hi (hwf.out i hi).2
                  omega
                have hq0 : ((hs T sN 256).length : Int) ≠ 0 := by omega
                have hq1 : (0 : Int) < ((hs T sN 256).length : Int) := by omega
                have hq2 : (((hs T sN 256).length : Int) == 0) = false := by rw [beq_eq_false_iff_ne]; omega
                have hq3 : ((hs T sN 256).length == 0) = false := by rw [beq_eq_false_iff_ne]; omega
                clear hm0 HRW hwf
                generalize (hs T sN 256)[m]?.getD 0 = x at *
                generalize (hs T sN 256).length = ln at *
                go_wp2_with fail
                go_meet
                case rel => exact ⟨x, _, rfl, rfl, hmem, hM2⟩
              · have hz0 : (hs T sN 256).length = 0 := by omega
                have hz1 : decide ((0 : Int) < (((hs T sN 256).length : Nat) : Int)) = false := decide_eq_false (by omega)
                have hz2 : decide (0 < (hs T sN 256).length) = false := decide_eq_false q2
                clear hz0 HRW hwf
                generalize (hs T sN 256).length = ln at *
                go_wp2_with fail
                go_meet
                case rel => exact ⟨hh, _, rfl, rfl, hhl, hM2⟩
            · go_wp2_with fail
              go_meet
              case rel => exact ⟨hh, _, rfl, rfl, hhl, hM2⟩
        case rest =>
          obtain ⟨h, kd2, rfl, rfl, hh2, hM2⟩ := hcut
          clear hM HB hbk
          go_upto_block 2 with fail
          go_cut [19, 20, 21, 22, 23, 24, 25, 26, 27] from 146 to 217 (fun t19 _ _ _ _ _ _ _ _ wd => t19 = .bool true ∧ ∃ T', Hid (Two w10 wd w10.heap.size w11.heap.size T'))
          case first =>
            by_cases q0 : kd2 = 0
            · subst q0
              obtain ⟨q, hq⟩ := first_ex T
              obtain ⟨_, _, _, d3, d4, d5⟩ := row6 hM2.out.2
              have C := hid (hM2.out.1.of (hM2.out.1.ht.put q hq ⟨ok, oa, of⟩))
              have D := hid (fun wx (hx : Mid w10 wx w10.heap.size w11.heap.size T (putA T q ⟨ok, oa, of⟩).2.2) => hx.of (rput_any hx.rb hx.wf q hq ⟨ok, oa, of⟩))
              have BX := hid hM2.out.2
              clear hM2 hq
              generalize putA T q ⟨ok, oa, of⟩ = R at *
              obtain ⟨r1, r2, T'⟩ := R
              simp only at C D
              unfold obv at C D
              go_wp2_with fail
              refine C.out.mono ?_
              rintro e w14 ⟨rfl, h14, hB14⟩
              have b14 := hB14.keep BX.out hbb
              obtain ⟨_, _, _, d3, d4, d5⟩ := row6 b14
              have E := hid (D.out w14 h14)
              clear C D BX h14 hB14 b14
              go_wp2_with fail
              refine E.out.mono ?_
              rintro e w15 ⟨rfl, h15, _⟩
              have H15 := hid h15
              clear E h15
              go_wp2_with fail
              go_meet
              case rel => exact ⟨by simp, T', H15⟩
            have q0' : (kd2 == 0) = false := by rw [beq_eq_false_iff_ne]; exact q0
            by_cases q1 : kd2 = 1
            · subst q1
              have C := hid (hM2.out.1.of (hM2.out.1.ht.kill h hh2))
              have D := hid (fun wx (hx : Mid w10 wx w10.heap.size w11.heap.size T (killA T h).2) => hx.of (rkill_any hx.rb h hh2))
              clear hM2
              generalize killA T h = R at *
              obtain ⟨r1, T'⟩ := R
              simp only at C D
              go_wp2_with fail
              refine C.out.mono ?_
              rintro e w14 ⟨rfl, h14, _⟩
              have E := hid (D.out w14 h14)
              clear C D h14
              go_wp2_with fail
              refine E.out.mono ?_
              rintro e w15 ⟨rfl, h15, _⟩
              have H15 := hid h15
              clear E h15
              go_wp2_with fail
              go_meet
              case rel => exact ⟨by simp, T', H15⟩
            have q1' : (kd2 == 1) = false := by rw [beq_eq_false_iff_ne]; exact q1
            by_cases q2 : kd2 = 2
            · subst q2
              have C := hid (hM2.out.1.of (hM2.out.1.ht.free h hh2))
              have D := hid (fun wx (hx : Mid w10 wx w10.heap.size w11.heap.size T (freeA T h).2.2) => hx.of (rfree_any hx.rb hx.wf h hh2))
              clear hM2
              generalize freeA T h = R at *
              obtain ⟨⟨fk, fa, ff⟩, r2, T'⟩ := R
              simp only at C D
              go_wp2_with fail
              refine C.out.mono ?_
              rintro e w14 ⟨rfl, h14, _⟩
              unfold obv
              have h14a := h14.alloc (.cells #[.int .i64 fk, .int .i64 fa, .int .i64 ff] 31)
              have p14 := heap_alloc_new w14 (.cells #[.int .i64 fk, .int .i64 fa, .int .i64 ff] 31)
              have hne14 : w14.heap.size ≠ w11.heap.size := by have := h14.rb.lt; omega
              have E := hid (D.out _ h14a)
              have P := hid p14
              clear C D h14 h14a p14
              go_wp2_with fail
              refine E.out.mono ?_
              rintro e w15 ⟨rfl, h15, hB15⟩
              unfold obv
              have p15 := hB15.keep P.out hne14
              have hs15 : w14.heap.size < w15.heap.size := lt_of p15
              obtain ⟨⟨m0, m1, m2⟩, _⟩ := row3 p15
              have H15 := hid (h15.alloc (.cells #[.int .i64 fk, .int .i64 fa, .int .i64 ff] 31))
              clear E h15 P hB15 p15
              go_wp2_with fail
              go_meet
              case rel => exact ⟨by simp, T', H15⟩
            have q2' : (kd2 == 2) = false := by rw [beq_eq_false_iff_ne]; exact q2
            by_cases q5 : kd2 = 5
            · subst q5
              obtain ⟨_, d1, d2, _⟩ := row6 hM2.out.2
              have C := hid (hM2.out.1.drew.of (hM2.out.1.drew.ht.ageA nn (IntKind.i64.wrap (hh : Int))))
              have D := hid (fun wx (hx : Mid w10 wx w10.heap.size w11.heap.size T (ageR T nn (IntKind.i64.wrap (hh : Int)))) => hx.of (rage_any hx.rb nn (IntKind.i64.wrap (hh : Int))))
              have BX := hid (show wc.drew.heap[bx]? = some (.cells #[.int .i64 kd, .int .i64 nn, .int .u32 (hh : Int), .int .i64 ok, .int .i64 oa, .int .i64 of] 46) from hM2.out.2)
              clear hM2
              generalize ageB T nn (IntKind.i64.wrap (hh : Int)) = r1 at *
              generalize ageR T nn (IntKind.i64.wrap (hh : Int)) = T' at *
              go_wp2_with fail
              go_region_held3 (fun wx => wx.cell? ⟨bx, 1, none⟩ = some (.int .i64 nn) ∧ wx.cell? ⟨bx, 2, none⟩ = some (.int .u32 (hh : Int))) (first | exact ⟨n1, n2⟩ | exact ⟨m1, m2⟩ | exact ⟨d1, d2⟩)
                (first
                  | (go_at_call 16; refine C.out.mono ?_; rintro e w14 ⟨rfl, h14, hB14⟩; have b14 := hB14.keep BX.out hbb; have m1 := (row6 b14).2.1; have m2 := (row6 b14).2.2.1; have B14 := hid b14; have E := hid (D.out w14 h14); clear h14 hB14 b14)
                  | (go_at_call 22; refine E.out.mono ?_; rintro e w15 ⟨rfl, h15, hB15⟩; have n1 := (row6 (hB15.keep B14.out hbr)).2.1; have n2 := (row6 (hB15.keep B14.out hbr)).2.2.1; have H15 := hid h15; clear h15 hB15))
              go_wp2_with fail
              go_meet
              case rel => exact ⟨by simp, T', H15⟩
            have q5' : (kd2 == 5) = false := by rw [beq_eq_false_iff_ne]; exact q5
            go_wp2_with fail
            go_meet
            case rel => exact ⟨rfl, T, hM2.out.1⟩
          case rest =>
            obtain ⟨rfl, T', hT⟩ := hcut
            clear hM2
            have C := hid (hT.out.ht.get h hh2)
            have D := hid (fun wx (hx : Two w10 wx w10.heap.size w11.heap.size T') => rget_any hx.rb h hh2)
            have C2 := hid (fun wx (hx : Two w10 wx w10.heap.size w11.heap.size T') => hx.ht.peek h hh2)
            have D2 := hid (fun wx (hx : Two w10 wx w10.heap.size w11.heap.size T') => rpeek_any hx.rb h hh2)
            obtain ⟨nr, hnr⟩ : ∃ nr, nr = cn T' 0 256 := ⟨_, rfl⟩
            have C3 := hid (fun wx (hx : Two w10 wx w10.heap.size w11.heap.size T') => hx.ht.room)
            have D3 := hid (fun wx (hx : Two w10 wx w10.heap.size w11.heap.size T') => rroom_any hx.rb hx.ht.wf)
            rw [← hnr] at C3 D3
            clear hnr
            generalize getA T' h = R1 at *
            generalize peekA T' h = R2 at *
            obtain ⟨⟨gk, ga, gf⟩, eg⟩ := R1
            obtain ⟨⟨pk, pa, pf'⟩, ep⟩ := R2
            simp only at C D C2 D2
            go_wp2_with fail
            refine C.out.mono ?_
            rintro e w14 ⟨rfl, hb14⟩
            unfold obv
            have h14 := (hT.out.below hb14).alloc (.cells #[.int .i64 gk, .int .i64 ga, .int .i64 gf] 31)
            have p14 := heap_alloc_new w14 (.cells #[.int .i64 gk, .int .i64 ga, .int .i64 gf] 31)
            have E := hid (D.out _ h14)
            have H14 := hid (And.intro h14 p14)
            clear C D hT hb14 h14 p14
            go_wp2_with fail
            refine E.out.mono ?_
            rintro e w15 ⟨rfl, hb15⟩
            unfold obv
            have h15 := (H14.out.1.below hb15).alloc (.cells #[.int .i64 gk, .int .i64 ga, .int .i64 gf] 31)
            have p15 := alloc_keep (.cells #[.int .i64 gk, .int .i64 ga, .int .i64 gf] 31) (bel_keep hb15 H14.out.2)
            have r15 := heap_alloc_new w15 (.cells #[.int .i64 gk, .int .i64 ga, .int .i64 gf] 31)
            have F := hid (C2.out _ h15)
            have H15 := hid (And.intro h15 (And.intro p15 r15))
            clear C2 E hb15 h15 p15 r15 H14
            go_wp2_with fail
            refine F.out.mono ?_
            rintro e w16 ⟨rfl, hb16⟩
            unfold obv
            have h16 := (H15.out.1.below hb16).alloc (.cells #[.int .i64 pk, .int .i64 pa, .int .i64 pf'] 31)
            have p16 := alloc_keep (.cells #[.int .i64 pk, .int .i64 pa, .int .i64 pf'] 31) (bel_keep hb16 H15.out.2.1)
            have r16 := alloc_keep (.cells #[.int .i64 pk, .int .i64 pa, .int .i64 pf'] 31) (bel_keep hb16 H15.out.2.2)
            have q16 := heap_alloc_new w16 (.cells #[.int .i64 pk, .int .i64 pa, .int .i64 pf'] 31)
            have G := hid (D2.out _ h16)
            have H16 := hid (And.intro h16 (And.intro p16 (And.intro r16 q16)))
            clear D2 F hb16 h16 p16 r16 q16 H15
            go_wp2_with fail
            refine G.out.mono ?_
            rintro e w17 ⟨rfl, hb17⟩
            unfold obv
            have h17 := (H16.out.1.below hb17).alloc (.cells #[.int .i64 pk, .int .i64 pa, .int .i64 pf'] 31)
            have p17 := bel_keep hb17 H16.out.2.1
            have r17 := bel_keep hb17 H16.out.2.2.1
            have q17 := bel_keep hb17 H16.out.2.2.2
            obtain ⟨⟨x0, x1, x2⟩, _⟩ := row3 p17
            obtain ⟨⟨y0, y1, y2⟩, _⟩ := row3 r17
            obtain ⟨⟨z0, z1, z2⟩, _⟩ := row3 q17
            have l1 := lt_of p17
            have l2 := lt_of r17
            have l3 := lt_of q17
            have A3 := hid (C3.out _ h17)
            have H17 := hid h17
            clear C3 G hb17 h17 p17 r17 q17 H16
            go_wp2_with fail
            refine A3.out.mono ?_
            rintro e w18 ⟨rfl, hb18⟩
            have h18 := H17.out.below hb18
            have B3 := hid (D3.out _ h18)
            have H18 := hid h18
            clear A3 D3 hb18 h18 H17 x0 x1 x2 y0 y1 y2 z0 z1 z2 l1 l2 l3
            go_wp2_with fail
            refine B3.out.mono ?_
            rintro e w19 ⟨rfl, hb19⟩
            have H19 := hid (H18.out.below hb19)
            clear B3 hb19 H18
            go_wp2_with fail
            exact ⟨⟨j + 1, by omega, by go_num, T', H19⟩, by simp [intOf]; omega⟩
    · have C := hid (live_any hS.out.ht.tb hS.out.ht.wf)
      have hX0 := Below.of_below B9.out B9.out.size hS.out.low
      have HX := hid hX0
      clear hX0
      go_wp2_with fail
      refine C.out.mono ?_
      rintro e w14 ⟨v14, rfl, r14, hb14⟩
      have h14 := hS.out.below hb14
      have D := hid (rall_any h14.rb h14.ht.wf 1)
      have H14 := hid (And.intro h14 r14)
      clear C h14 r14 hb14
      go_wp2_with fail
      refine D.out.mono ?_
      rintro e w15 ⟨v15, rfl, r15, hb15⟩
      have h15 := H14.out.1.below hb15
      have C := hid (same_any (World.ownsRow.bel H14.out.2 hb15 (Nat.le_refl _)) r15 (hs_len _ _ _))
      have H15 := hid h15
      clear D h15 r15 hb15 H14
      go_wp2_with fail
      refine C.out.mono ?_
      rintro e w16 ⟨rfl, q16, rfl⟩
      have h16 := H15.out.drewN q16
      have D := hid (zombies_any h16.ht.tb h16.ht.wf)
      have H16 := hid h16
      clear C h16 H15
      go_wp2_with fail
      refine D.out.mono ?_
      rintro e w17 ⟨v17, rfl, r17, hb17⟩
      have h17 := H16.out.below hb17
      have C := hid (rall_any h17.rb h17.ht.wf 2)
      have H17 := hid (And.intro h17 r17)
      clear D h17 r17 hb17 H16
      go_wp2_with fail
      refine C.out.mono ?_
      rintro e w18 ⟨v18, rfl, r18, hb18⟩
      have h18 := H17.out.1.below hb18
      have D := hid (same_any (World.ownsRow.bel H17.out.2 hb18 (Nat.le_refl _)) r18 (hs_len _ _ _))
      have H18 := hid h18
      clear C h18 r18 hb18 H17
      go_wp2_with fail
      refine D.out.mono ?_
      rintro e w19 ⟨rfl, q19, rfl⟩
      have H19 := hid (H18.out.drewN q19)
      clear D H18
      go_wp2_with fail
      go_ret
      exact ⟨rfl, Below.of_below B9.out B9.out.size H19.out.low⟩
end Go.Proofs.Ytoahfeckadaomaa.handleActs
