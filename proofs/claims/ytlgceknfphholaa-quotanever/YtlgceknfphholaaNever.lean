/- For every limit and every list of acts: no use is ever more than its limit, each is what was charged and its children's limits, and all that is charged together is never more than the root's: QuotaNever returns true. Conditions: none. -/
import Derived.Test.YtlgceknfphholaaK
import Derived.Test.YtlgceknfphholaaRows
import Derived.Deep.CutRange
namespace Go.Proofs.Ytlgceknfphholaa.quotaNever
open Go.ChangeShapes Go.WideShapes Go.ChangeAt Go.RowKit Go.Proofs.Ytlgceknfphholaa

theorem core_nil (n : Int) (a : Option Addr) (len cap : Nat) (w : World) (h : n < 0 ∨ 1073741824 < n) :
    Calls Try.prog 4 #[.int .i64 n, .slice a len cap] w fun e w' => e = .returned (.bool true) ∧ Below w.heap.size w w' := by
  have HN := hid (fun w => new_bad n w h)
  clear h
  by_cases hl : (100 : Int) < (len : Int)
  · go_enter Try.func4, Try.ntmps4
    go_wp2_with (first | (go_at_call 8; refine (alive_true _).mono ?_; rintro e w1 ⟨rfl, hb1⟩) | (go_at_call 9; refine (HN.out _).mono ?_; rintro e w' ⟨rfl, rfl⟩))
    go_ret
    exact ⟨rfl, hb1⟩
  · go_enter Try.func4, Try.ntmps4
    go_wp2_with (first | (go_at_call 8; refine (alive_true _).mono ?_; rintro e w1 ⟨rfl, hb1⟩) | (go_at_call 9; refine (HN.out _).mono ?_; rintro e w' ⟨rfl, rfl⟩))
    go_ret
    exact ⟨rfl, hb1⟩
theorem core_long (n : Nat) (a : Option Addr) (len cap : Nat) (w : World) (h : (n : Int) ≤ 1073741824) (hl : (100 : Int) < (len : Int)) :
    Calls Try.prog 4 #[.int .i64 (n : Int), .slice a len cap] w fun e w' => e = .returned (.bool true) ∧ Below w.heap.size w w' := by
  go_enter Try.func4, Try.ntmps4
  go_wp2_with fail
  refine (alive_true _).mono ?_
  rintro e w1 ⟨rfl, hb1⟩
  go_wp2_with fail
  refine (St.new w1 n (by omega)).mono ?_
  rintro e w2 ⟨p, rfl, h2⟩
  go_wp2_with fail
  go_ret
  exact ⟨rfl, Below.of_below hb1 hb1.size h2.bel⟩

theorem take_chg {l : List Fac} {k : Nat} {f : Fac} (h : l[k]? = some f) : total (l.take (k + 1)) = total (l.take k) + f.chg := by
  unfold total; rw [take_snoc h, List.map_append, List.sum_append]; simp
theorem take_total (l : List Fac) (k : Nat) : total (l.take k) ≤ total l := by
  unfold total
  exact sub_sum (List.Sublist.map _ (List.take_sublist _ _))
theorem take_kids (l : List Fac) (k : Nat) (i : Int) : (kids (l.take k) i).sum ≤ (kids l i).sum := by
  unfold kids
  exact sub_sum (List.Sublist.filterMap _ (List.take_sublist _ _))

set_option maxRecDepth 100000 in
set_option maxHeartbeats 4000000 in
theorem core (n : Nat) (a : Option Addr) (len cap : Nat) (w : World) (hA : Acts w w.heap.size a len) (h : (n : Int) ≤ 1073741824) (hl : (len : Int) ≤ 100) :
    Calls Try.prog 4 #[.int .i64 (n : Int), .slice a len cap] w fun e w' => e = .returned (.bool true) ∧ Below w.heap.size w w' := by
  have HA := hid hA
  have hdl : decide ((100 : Int) < (len : Int)) = false := decide_eq_false (by omega)
  clear hA
  go_enter Try.func4, Try.ntmps4
  go_wp2_with fail
  refine (alive_true _).mono ?_
  rintro e w1 ⟨rfl, hb1⟩
  have HB1 := hid hb1
  clear hb1
  go_wp2_with fail
  refine (St.new w1 n (by omega)).mono ?_
  rintro e w2 ⟨p, rfl, h2⟩
  have H2 := hid h2
  clear h2
  go_wp2_with fail
  go_loopw [6] (fun t wr => ∃ j : Nat, j ≤ len ∧ t = .int .i64 (j : Int) ∧ ∃ l nxt, nxt ≤ j + 1 ∧ Hid (St n w1 wr p l nxt)) (fun t _ => len - (intOf t).toNat)
  case atStart => exact ⟨0, Nat.zero_le _, rfl, _, 1, Nat.le_refl _, H2⟩
  case round =>
    obtain ⟨j, hj, rfl, l, nxt, hnx, hS⟩ := hrel
    clear H2
    by_cases hlt : j < len
    · have hX := hid (Below.of_below HB1.out HB1.out.size hS.out.bel)
      obtain ⟨s, o, x, rfl, hx, hs⟩ := HA.out.at hX.out hlt
      obtain ⟨kd, ii, nn⟩ := x
      have c0 : wr.cell? ⟨s, o + j * 3, none⟩ = some (.int .i64 kd) := hx.c0
      have c1 : wr.cell? ⟨s, o + j * 3 + 1, none⟩ = some (.int .i64 ii) := hx.c1
      have c2 : wr.cell? ⟨s, o + j * 3 + 2, none⟩ = some (.int .i64 nn) := hx.c2
      have hS0 := hid (hS.out.below ((Below.refl _ _).alloc (Nat.le_refl _) (.cells #[.int .i64 kd, .int .i64 ii, .int .i64 nn] 38)))
      have hnx2 : nxt ≤ 1073741824 := by omega
      clear hx hS hX
      go_upto_if 36 with fail
      refine unblock ?_
      go_cut [8] from 24 to 137 (fun _ wc => ∃ l nxt, nxt ≤ j + 2 ∧ Hid (St n w1 wc p l nxt))
      case first =>
        by_cases q0 : kd = 0
        · subst q0
          go_wp2_with fail
          refine (hS0.out.carve hnx2 ii nn).mono ?_
          rintro e w3 ⟨rfl, h3⟩
          have h3b := (hS0.out.inv.carveA ii nn).2
          have H3 := hid h3
          clear h3
          go_wp2_with fail
          go_meet
          case rel => exact ⟨_, _, by omega, H3⟩
        have q0' : (kd == 0) = false := by rw [beq_eq_false_iff_ne]; exact q0
        by_cases q1 : kd = 1
        · subst q1
          go_wp2_with fail
          refine (hS0.out.close ii).mono ?_
          rintro e w3 ⟨rfl, h3⟩
          have H3 := hid h3
          clear h3
          go_wp2_with fail
          go_meet
          case rel => exact ⟨_, _, by omega, H3⟩
        have q1' : (kd == 1) = false := by rw [beq_eq_false_iff_ne]; exact q1
        by_cases q2 : kd = 2
        · subst q2
          go_wp2_with fail
          refine (hS0.out.charge ii nn).mono ?_
          rintro e w3 ⟨rfl, h3⟩
          have H3 := hid h3
          clear h3
          go_wp2_with fail
          go_meet
          case rel => exact ⟨_, _, by omega, H3⟩
        have q2' : (kd == 2) = false := by rw [beq_eq_false_iff_ne]; exact q2
        by_cases q3 : kd = 3
        · subst q3
          go_wp2_with fail
          refine (hS0.out.refund ii nn).mono ?_
          rintro e w3 ⟨rfl, h3⟩
          have H3 := hid h3
          clear h3
          go_wp2_with fail
          go_meet
          case rel => exact ⟨_, _, by omega, H3⟩
        have q3' : (kd == 3) = false := by rw [beq_eq_false_iff_ne]; exact q3
        go_wp2_with fail
        go_meet
        case rel => exact ⟨_, _, by omega, hS0⟩
      case rest =>
        obtain ⟨l2, nxt2, hn2, hS2⟩ := hcut
        clear hS0 c0 c1 c2 hnx hnx2
        go_wp2_with fail
        refine hS2.out.ids.mono ?_
        rintro e w4 ⟨v, rfl, hO, hb4⟩
        obtain ⟨g, cv, rfl, _, hgl, hid4⟩ := ids_row hO hS2.out.inv.pos
        have HS4 := hid (hS2.out.below hb4)
        have HID := hid hid4
        have hfew := HS4.out.inv.few
        have htot := HS4.out.inv.total
        clear hO hb4 hid4 hS2
        go_wp2_with fail
        go_loopw [9, 10] (fun al kk wq => ∃ t : Nat, t ≤ l2.length ∧ kk = .int .i64 (t : Int) ∧ al = .int .i64 ((total (l2.take t) : Nat) : Int) ∧ Below w4.heap.size w4 wq) (fun _ kk _ => l2.length - (intOf kk).toNat)
        case atStart => exact ⟨0, Nat.zero_le _, rfl, rfl, Below.refl _ _⟩
        case round =>
          obtain ⟨t, ht, rfl, rfl, hq⟩ := hrel
          by_cases hlt2 : t < l2.length
          · obtain ⟨f, hf⟩ : ∃ f, l2[t]? = some f := ⟨_, List.getElem?_eq_getElem hlt2⟩
            have hm := List.mem_of_getElem? hf
            have hx := HID.out t f hf
            obtain ⟨r1, r2, r3, r4⟩ := HS4.out.reads hm
            have hSq := HS4.out.below hq
            have k1 := hSq.charged (f.id : Int)
            rw [r1] at k1
            have hxq := (hq.cell (p := ⟨g, t, none⟩) hgl).trans hx
            have ht1 := take_chg hf
            have ht2 := take_total l2 (t + 1)
            rw [ht1] at ht2
            have hft := HS4.out.inv.kids_sum hm
            have K1 := hid k1
            have HT1 := hid ht1
            have HX := hid (And.intro hf (And.intro hm (And.intro r2 r4)))
            clear hf hm r1 r2 r3 r4 k1 ht1 hx
            have hfit := hft.1
            have hlim := hft.2.1
            have hub : f.chg + (kids l2 f.id).sum ≤ 1073741824 := by unfold useOf at hfit; omega
            clear hft
            generalize total (l2.take t) = T at *
            obtain ⟨ch, hch⟩ : ∃ ch, ch = f.chg := ⟨_, rfl⟩
            obtain ⟨fi, hfi⟩ : ∃ fi, fi = f.id := ⟨_, rfl⟩
            rw [← hch] at K1 HT1 ht2 hub
            rw [← hfi] at K1 hxq hub
            have HE := hid (And.intro hch hfi)
            clear hch hfi
            go_wp2_with fail
            refine K1.out.mono ?_
            rintro e w5 ⟨rfl, rfl⟩
            go_wp2_with fail
            go_loopw [11, 12] (fun u mm wz => ∃ s : Nat, s ≤ l2.length ∧ mm = .int .i64 (s : Int) ∧ u = .int .i64 ((ch + (kids (l2.take s) (fi : Int)).sum : Nat) : Int) ∧ Below w4.heap.size w4 wz) (fun _ mm _ => l2.length - (intOf mm).toNat)
            case atStart => exact ⟨0, Nat.zero_le _, rfl, rfl, hq⟩
            case round =>
              obtain ⟨s2, hs2, rfl, rfl, hz⟩ := hrel
              clear hq
              have hxz := (hz.cell (p := ⟨g, t, none⟩) hgl).trans (HID.out t f HX.out.1)
              rw [← HE.out.2] at hxz
              by_cases hlt3 : s2 < l2.length
              · obtain ⟨f2, hf2⟩ : ∃ f, l2[s2]? = some f := ⟨_, List.getElem?_eq_getElem hlt3⟩
                have hm2 := List.mem_of_getElem? hf2
                have hx2 := (hz.cell (p := ⟨g, s2, none⟩) hgl).trans (HID.out s2 f2 hf2)
                obtain ⟨_, i2, i3, _⟩ := HS4.out.reads hm2
                have HP := hid (fun q => (((HS4.out.below hz).drewN q).parent (f2.id : Int)))
                rw [i3] at HP
                have HLM := hid (fun q => (((HS4.out.below hz).drewN q).limit (f2.id : Int)))
                rw [i2] at HLM
                have hk1 := kids_next hf2 (fi : Int)
                have hk2 := take_kids l2 (s2 + 1) (fi : Int)
                have HK := hid hk1
                rw [hk1] at hk2
                clear hk1 i2 i3 hm2 hf2
                by_cases hp : f2.par = (fi : Int)
                · have hp' : (f2.par == (fi : Int)) = true := by rw [beq_iff_eq]; exact hp
                  rw [if_pos hp] at hk2 HK
                  rw [List.sum_append] at hk2
                  simp only [List.sum_cons, List.sum_nil, Nat.add_zero] at hk2
                  have HKS : Hid ((kids (l2.take (s2 + 1)) (fi : Int)).sum = (kids (l2.take s2) (fi : Int)).sum + f2.lim) := by rw [HK.out, List.sum_append]; exact hid rfl
                  generalize (kids (l2.take s2) (fi : Int)).sum = K at *
                  generalize (kids l2 (fi : Int)).sum = KS at *
                  generalize f2.lim = m2 at *
                  generalize f2.id = i2 at *
                  generalize f2.par = fp at *
                  clear hp HK
                  go_wp2_with fail
                  go_quiet ((go_at_call 18; exact Calls.quiet_of_same (HP.out _)))
                  go_wp2_with fail
                  refine (HLM.out _).mono ?_
                  rintro e w6 ⟨rfl, rfl⟩
                  go_wp2_with fail
                  exact ⟨⟨s2 + 1, by omega, by go_num, by rw [HKS.out]; go_num, Below.drewN hz _⟩, by simp [intOf]; omega⟩
                · have hp' : (f2.par == (fi : Int)) = false := by rw [beq_eq_false_iff_ne]; exact hp
                  rw [if_neg hp, List.append_nil] at HK
                  generalize f2.lim = m2 at *
                  generalize f2.id = i2 at *
                  generalize f2.par = fp at *
                  clear hp hk2
                  go_wp2_with fail
                  go_quiet ((go_at_call 18; exact Calls.quiet_of_same (HP.out _)))
                  go_wp2_with fail
                  exact ⟨⟨s2 + 1, by omega, by go_num, by rw [HK.out], Below.drewN hz _⟩, by simp [intOf]; omega⟩
              · obtain rfl : s2 = l2.length := by omega
                rw [List.take_length]
                have k4 := (HS4.out.below hz).use (f.id : Int)
                rw [HX.out.2.2.2, show useOf l2 f = f.chg + (kids l2 f.id).sum from rfl, ← HE.out.1, ← HE.out.2] at k4
                have K4 := hid k4
                have hle : ch + (kids l2 (fi : Int)).sum ≤ f.lim := by rw [HE.out.1, HE.out.2]; exact hfit
                clear k4
                generalize ch + (kids l2 (fi : Int)).sum = U at *
                go_wp2_with fail
                refine K4.out.mono ?_
                rintro e w6 ⟨rfl, hb6⟩
                have hz6 := hz.trans (hb6.mono hz.size)
                have hx6 := (hz6.cell (p := ⟨g, t, none⟩) hgl).trans (HID.out t f HX.out.1)
                rw [← HE.out.2] at hx6
                have k5 := (HS4.out.below hz6).limit (f.id : Int)
                rw [HX.out.2.2.1, ← HE.out.2] at k5
                have k6 := (HS4.out.below hz6).charged (f.id : Int)
                rw [(HS4.out.reads HX.out.2.1).1, ← HE.out.1, ← HE.out.2] at k6
                have K5 := hid k5
                have K6 := hid k6
                have hUl : ¬ (f.lim < U) := by omega
                clear k5 k6 hb6 hz
                generalize f.lim = fl at *
                go_wp2_with fail
                refine K5.out.mono ?_
                rintro e w7 ⟨rfl, rfl⟩
                go_wp2_with fail
                refine K6.out.mono ?_
                rintro e w8 ⟨rfl, rfl⟩
                go_wp2_with fail
                exact ⟨⟨t + 1, by omega, by go_num, by rw [HT1.out]; go_num, hz6⟩, by simp [intOf]; omega⟩
          · obtain rfl : t = l2.length := by omega
            rw [List.take_length]
            have hle : ¬ (n < total l2) := by omega
            have HF := hid (HS4.out.below hq)
            generalize total l2 = T at *
            go_wp2_with fail
            exact ⟨⟨j + 1, by omega, by go_num, l2, nxt2, by omega, HF⟩, by simp [intOf]; omega⟩
    · go_wp2_with fail
      refine (alive_true _).mono ?_
      rintro e w3 ⟨rfl, hb3⟩
      go_wp2_with fail
      go_ret
      exact ⟨rfl, Below.of_below (Below.of_below HB1.out HB1.out.size hS.out.bel) (Nat.le_trans HB1.out.size hS.out.bel.size) hb3⟩

theorem walk (a0 : Int) (a1 : Option Addr) (len1 cap1 : Nat) (w : World) (w1 : Acts w w.heap.size a1 len1) :
    Calls Try.prog 4 #[.int .i64 a0, .slice a1 len1 cap1] w fun e w' => e = .returned (.bool true) ∧ Below w.heap.size w w' := by
  by_cases h : a0 < 0 ∨ 1073741824 < a0
  · exact core_nil a0 a1 len1 cap1 w h
  obtain ⟨n, rfl⟩ := Int.eq_ofNat_of_zero_le (show 0 ≤ a0 by omega)
  by_cases hl : (100 : Int) < (len1 : Int)
  · exact core_long n a1 len1 cap1 w (by omega) hl
  · exact core n a1 len1 cap1 w w1 (by omega) (by omega)

theorem own : ownKnob Try.prog.godebug = none := by kernel_rfl
theorem laidOut : laidOutB Try.prog = true := by kernel_rfl

set_option maxRecDepth 100000 in
theorem lifted (os : Os) (started : os.Started) (H : Type) (enc : TypeId × Value → H) :
    ReturnsInHanded {} Try.checked os 4 .any (Rows.quotaNeverSpec.pre6 enc Try.prog Try.f4 Rows.quotaNeverRow.domain false) (Rows.quotaNeverSpec.post enc Try.prog Try.f4 false true false false) := by
  refine returnsInHanded_of_change (C := Try.checked) own started (by kernel_rfl) Try.func4
    (ChangeSpec.witness6 (enc := enc) (C := Try.checked) false ⟨#[], #[.int .i64 0, .slice none 0 0], []⟩ 8 (by kernel_rfl) (by kernel_rfl) (by kernel_rfl) (by kernel_rfl)) ?_
  intro W base args ds gs before hval0 hW hcnd _
  have hval : ∀ (j : Nat) t v, Try.f4.params[j]? = some t → args[j]? = some v → Value.okWide Try.prog W .any base t v := hval0
  have hW' := hW
  obtain ⟨p, q, hA0, hV, rfl, hfz, hnd⟩ := hW
  have hA : DataW.TrodAll enc Try.prog W 0 (fun _ => true) true Try.f4.params.toList args.toList ds p := hA0
  rw [Try.params4] at hA hval
  obtain ⟨v0, vs0, d0, ds0, p0, q0, hargs, rfl, rfl, h0, r0⟩ := trodAll_cons hA
  obtain ⟨v1, vs1, d1, ds1, p1, q1, rfl, rfl, rfl, h1, r1⟩ := trodAll_cons r0
  obtain ⟨rfl, rfl, rfl⟩ := trodAll_nil r1
  obtain rfl : args = #[v0, v1] := by cases args; simp_all
  obtain ⟨rfl, rfl⟩ := trodVars_none hV
  obtain ⟨a0, rfl, rfl, rfl, w0⟩ := open_int Try.underlying3 (hval 0 3 v0 rfl rfl) h0
  obtain ⟨a1, len1, cap1, rfl⟩ := okWide_slice Try.underlying22 (hval 1 22 v1 rfl rfl)
  have k1 := h1
  have lt1 : ∀ x ∈ p1, x.block < W.heap.size := by obtain ⟨m, hm⟩ := k1; exact DataW.trod_lt m _ _ _ hm
  have w1 : Acts W W.heap.size a1 len1 := by
    obtain ⟨fuel, hf⟩ := h1
    exact acts_of (cap := cap1) (by simpa [Value.cells] using hf)
  clear hA0 hval0
  refine (walk a0 a1 len1 cap1 W w1).mono fun e W' ⟨he, bel⟩ => ?_
  subst he
  exact ⟨_, rfl, _, _, _, [], _, [], hW', trodAll_mk1 (shut_bool Try.underlying4 _), (trodAll_cons_mk (shut_int Try.underlying3 w0) (trodAll_cons_mk (Below.trod laidOut (by kernel_rfl) (of_decide_eq_true (by kernel_rfl)) k1 bel lt1) trodAll_mk0)), rfl, bel.frame _, fun h => by cases h⟩

theorem proved : Rows.QuotaNeverSaid :=
  OpenClaim.holds_of_wide 4 Try.f4 rfl rfl rfl rfl rfl rfl rfl ⟨rfl, rfl, rfl, rfl, rfl⟩ rfl rfl rfl rfl rfl (by kernel_rfl) Try.func4 (by kernel_rfl)
    (of_decide_eq_true (by kernel_rfl)) (by unfold Func.isWrapper; first | (rw [if_pos (by decide +kernel)]; kernel_rfl) | (rw [if_neg (by decide +kernel)]; exact ⟨rfl, rfl⟩))
    (fun os started H enc _ => lifted os started H enc)

end Go.Proofs.Ytlgceknfphholaa.quotaNever
