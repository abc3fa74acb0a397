/- The walk of GraceActs. -/
import Derived.Test.YtgoennbbpndiiaaS
namespace Go.Proofs.Ytgoennbbpndiiaa.graceActs
open Go.RowKit Go.Maps Go.Shelf Go.Proofs.Ytgoennbbpndiiaa

theorem core_long (p : Int) (a : Option Addr) (n cap : Nat) (w : World) (hl : (60 : Int) < (n : Int)) :
    Calls Try.prog 3 #[.int .i64 p, .slice a n cap] w fun e w' => e = .returned (.bool true) ∧ Below w.heap.size w w' := by
  go_enter Try.func3, Try.ntmps3
  go_wp2_with (go_at_call 6; refine (alive_true _).mono ?_; rintro e w' ⟨rfl, hb⟩)
  go_ret
  exact ⟨rfl, hb⟩
set_option maxRecDepth 100000 in
set_option maxHeartbeats 2000000 in
theorem core_bad (p : Int) (a : Option Addr) (n cap : Nat) (w : World) (hl : (n : Int) ≤ 60) (hp : p < 1 ∨ 16 < p) :
    Calls Try.prog 3 #[.int .i64 p, .slice a n cap] w fun e w' => e = .returned (.bool true) ∧ Below w.heap.size w w' := by
  have hm : decide (1 ≤ p ∧ p ≤ 16) = false := by simp; omega
  have HM := hid (fun wx => may_any p wx)
  rw [hm] at HM
  have HP := hid hp
  clear hm hp
  go_enter Try.func3, Try.ntmps3
  go_wp2_with (first
    | (go_at_call 6; refine (alive_true _).mono ?_; rintro e w1 ⟨rfl, hb1⟩; have HB1 := hid hb1; clear hb1)
    | (go_at_call 7; refine (new_no p _ HP.out).mono ?_; rintro e w2 ⟨rfl, rfl⟩)
    | (go_at_call 8; refine (HM.out _).mono ?_; rintro e w3 ⟨rfl, rfl⟩)
    | (go_at_call 9; refine (period_nil _).mono ?_; rintro e w4 ⟨rfl, rfl⟩)
    | (go_at_call 10; refine (add_nil _ _ _ _).mono ?_; rintro e w5 ⟨rfl, ew5⟩; have HB5 : Hid (Below w.heap.size w w5) := hid (by rw [ew5]; exact HB1.out.alloc HB1.out.size _); clear ew5)
    | (go_at_call 11; refine (tick_nil _).mono ?_; rintro e w6 ⟨rfl, hb6⟩; have HB6 := hid (HB5.out.trans (hb6.mono HB5.out.size)); clear hb6)
    | (go_at_call 12; refine (list_nil _).mono ?_; rintro e w7 ⟨u7, rfl, hr7, hb7⟩; obtain ⟨a7, cap7, rfl, _⟩ := hr7.slice; rw [List.length_nil]; have HB7 := hid (HB6.out.trans (hb7.mono HB6.out.size)); clear hb7 hr7)
    | (go_at_call 13; refine (left_nil _ _).mono ?_; rintro e w8 ⟨rfl, rfl⟩))
  go_ret
  exact ⟨rfl, HB7.out⟩

set_option maxRecDepth 100000 in
set_option maxHeartbeats 4000000 in
theorem core (p : Int) (a : Option Addr) (nl cap : Nat) (w : World) (hA : Acts w w.heap.size a nl) (hl : (nl : Int) ≤ 60) (hp1 : 1 ≤ p) (hp16 : p ≤ 16) :
    Calls Try.prog 3 #[.int .i64 p, .slice a nl cap] w fun e w' => e = .returned (.bool true) ∧ Below w.heap.size w w' := by
  have HA := hid hA
  have hm : decide (1 ≤ p ∧ p ≤ 16) = true := by simp; omega
  have HM := hid (fun wx => may_any p wx)
  rw [hm] at HM
  clear hA hm
  go_enter Try.func3, Try.ntmps3
  go_wp2_with (first
    | (go_at_call 6; refine (alive_true _).mono ?_; rintro e w1 ⟨rfl, hb1⟩; have HB1 := hid hb1; clear hb1)
    | (go_at_call 7; refine (new_any p _ hp1 hp16).mono ?_; rintro e w2 ⟨rfl, ew2⟩; have EW2 := hid ew2; clear ew2)
    | (go_at_call 8; refine (HM.out _).mono ?_; rintro e w3 ⟨rfl, rfl⟩))
  have hG := Gq.new w1 p
  rw [← EW2.out] at hG
  have hr0 := Rp.new w3 p
  have hb3 : Below w3.heap.size w3 (w3.alloc (.cells #[.int .i64 p, .slice none 0 0, .slice none 0 0] 34)) := (Below.refl _ _).alloc (Nat.le_refl _) _
  have hle : w1.heap.size < w3.heap.size := lt_of hG.qu.hd
  have h0 : Bo w1 (w3.alloc (.cells #[.int .i64 p, .slice none 0 0, .slice none 0 0] 34)) w1.heap.size (.slice none 0 0) w3.heap.size (.slice none 0 0) (.slice none 0 0) p [] :=
    ⟨hG.below hb3, hr0, Good.nil, by omega, fun k h1 h2 => by
      rcases h1 with rfl | h1
      · rcases h2 with h2 | h2 | h2
        · omega
        · cases h2
        · cases h2
      · cases h1⟩
  have H0 := hid h0
  have hrle : w.heap.size ≤ w3.heap.size := by have := HB1.out.size; omega
  obtain ⟨r, hr⟩ : ∃ r, r = w3.heap.size := ⟨_, rfl⟩
  rw [← hr] at H0 hrle ⊢
  clear hG hr0 hb3 hle h0 EW2 hr HM
  go_loopw [7] (fun iv wr => ∃ (i : Nat) (l : List (Int × Int)) (v vL vT : Value), i ≤ nl ∧ iv = .int .i64 (i : Int) ∧ l.length ≤ 30 * i ∧ Hid (Bo w1 wr w1.heap.size v r vL vT p l)) (fun iv _ => nl - (intOf iv).toNat)
  case atStart => exact ⟨0, [], _, _, _, Nat.zero_le _, rfl, Nat.le_refl _, H0⟩
  case round =>
    obtain ⟨i, l, v, vL, vT, hi, rfl, hll, H4⟩ := hrel
    clear H0
    by_cases hin : i < nl
    · have hin' : (i : Int) < (nl : Int) := by omega
      obtain ⟨s0, o0, x, rfl, hD, hs0⟩ := HA.out.at (HB1.out.trans (H4.out.gq.bel.mono HB1.out.size)) hin
      have c0 := hD.c0
      have c1 := hD.c1
      have hA4 := heap_alloc_new wr (.cells #[.slice x.a x.xs.length x.cap, .int .i64 x.n] 36)
      have hb4 : Below wr.heap.size wr (wr.alloc (.cells #[.slice x.a x.xs.length x.cap, .int .i64 x.n] 36)) := (Below.refl _ _).alloc (Nat.le_refl _) _
      have H5 := hid (H4.out.below hb4)
      have HD5 := hid (hD.below hs0 (hb4.mono (Nat.le_trans HB1.out.size H4.out.gq.bel.size)))
      have hkbO : ¬ Own w1.heap.size v wr.heap.size := fun h => by have := (H4.out.gq.qu.lt h).2; omega
      have hkbR : ¬ ROwn r vL vT wr.heap.size := fun h => by have := (H4.out.rq.lt h).2; omega
      have hw4s : wr.heap.size < (wr.alloc (.cells #[.slice x.a x.xs.length x.cap, .int .i64 x.n] 36)).heap.size := by simp
      by_cases hx30 : 30 < x.xs.length
      · have d1 : decide ((30 : Int) < (x.xs.length : Int)) = true := by simp; omega
        have HF := hid (Below.of_below HB1.out HB1.out.size H5.out.gq.bel)
        clear hA4 hb4 H5 HD5 hkbO hkbR hw4s hD H4
        go_wp2_with fail
        go_ret
        exact ⟨rfl, HF.out⟩
      by_cases hn30 : 30 < x.n
      · have d1 : decide ((30 : Int) < (x.xs.length : Int)) = false := by simp; omega
        have d2 : decide ((30 : Int) < x.n) = true := by simp; omega
        have HF := hid (Below.of_below HB1.out HB1.out.size H5.out.gq.bel)
        clear hA4 hb4 H5 HD5 hkbO hkbR hw4s hD H4
        go_wp2_with fail
        go_ret
        exact ⟨rfl, HF.out⟩
      have d1 : decide ((30 : Int) < (x.xs.length : Int)) = false := by simp; omega
      have d2 : decide ((30 : Int) < x.n) = false := by simp; omega
      have hx30' : x.xs.length ≤ 30 := by omega
      have hradd := radd_any H5.out.rq _ x.xs (HD5.out.get (Nat.le_trans HB1.out.size H5.out.gq.bel.size) (fun k hk => Nat.le_trans hrle (H5.out.rq.lt hk).1)) (by rw [List.length_map]; omega) (by rw [List.length_map]; omega)
      have HRA := hid hradd
      obtain ⟨w4, hw4⟩ : ∃ w4, w4 = wr.alloc (.cells #[.slice x.a x.xs.length x.cap, .int .i64 x.n] 36) := ⟨_, rfl⟩
      obtain ⟨kb, hkb⟩ : ∃ kb, kb = wr.heap.size := ⟨_, rfl⟩
      have HW4 := hid (And.intro hw4 hkb)
      rw [← hw4] at H5 HRA hw4s hA4 HD5
      rw [← hkb] at hkbO hkbR hw4s hA4
      clear hradd hD hw4 hb4 H4 hkb
      go_wp2_with fail
      rw [← HW4.out.1, ← HW4.out.2]
      refine HRA.out.mono ?_
      rintro e w5 ⟨rfl, vL5, vT5, hL5⟩
      obtain ⟨g5, r5, s5⟩ := Bo.right H5.out.gq H5.out.rq H5.out.le H5.out.sep hL5
      have k5 := hL5.keep hw4s hkbR
      have hA5 : w5.heap[kb]? = some (.cells #[.slice x.a x.xs.length x.cap, .int .i64 x.n] 36) := k5.1.trans hA4
      have hB5 : Below w.heap.size w4 w5 := ⟨hL5.turn.os, hL5.turn.tape, hL5.turn.output, hL5.turn.size, fun k hk => hL5.turn.block k (by have := (H5.out.rq.lt (.inl rfl)).2; omega) (fun ho => by have := (H5.out.rq.lt ho).1; omega)⟩
      have hD6 := (HD5.out.below hs0 hB5).below hs0 ((Below.refl _ w5).drew)
      have g5d := g5.below ((Below.refl _ w5).drew)
      have r5d := r5.below ((Below.refl _ w5).drew) (Nat.le_refl _)
      have hadd := add_any g5d.qu _ x.xs (hD6.get (Nat.le_trans HB1.out.size g5d.bel.size) (fun k hk => Nat.le_trans HB1.out.size (g5.qu.lt hk).1)) (by omega)
      obtain ⟨N1, hN1⟩ : ∃ N1, N1 = l.length + x.xs.length := ⟨_, rfl⟩
      rw [← hN1] at hadd
      have eN1 : (l.map (·.1) ++ x.xs).length = N1 := by rw [List.length_append, List.length_map, hN1]
      obtain ⟨aL5, cL5, rfl, _⟩ := r5.rowL.slice
      rw [eN1] at hL5 r5 r5d s5 k5
      have HAD := hid hadd
      have HG5 := hid (And.intro g5d (And.intro r5d (And.intro s5 (And.intro k5.2 hN1))))
      have hkb5 : ¬ Own w1.heap.size v kb := hkbO
      have hkl : kb < w5.heap.size := lt_of hA5
      have hrl : r < w5.heap.size := (r5.lt (.inl rfl)).2
      have q0 : w5.drew.cell? ⟨kb, 0, none⟩ = some (.slice x.a x.xs.length x.cap) := by rw [cell_of_row _ _ _ _ _ _ (show w5.drew.heap[kb]? = _ from hA5)]; rfl
      have q1 : w5.drew.cell? ⟨r, 1, none⟩ = some (.slice aL5 N1 cL5) := r5d.c1
      have HA5 := hid hA5
      have hNN : ((N1 : Int) != (N1 : Int)) = false := by simp
      have HR5 := hid r5d.hd
      have HKR := hid s5
      have HGd := hid (And.intro H5.out.good H5.out.le)
      clear hadd eN1 hL5 g5 r5 s5 k5 hA5 hB5 hD6 g5d r5d HRA H5 hA4 hw4s hkbO hkbR c0 c1 hN1
      go_wp2_with fail
      go_region_held3 (fun wx => wx.cell? ⟨kb, 0, none⟩ = some (.slice x.a x.xs.length x.cap) ∧ wx.cell? ⟨r, 1, none⟩ = some (.slice aL5 N1 cL5)) (first | exact ⟨m0, m1⟩ | exact ⟨q0, q1⟩)
        (first
          | (go_at_call 10; refine HAD.out.mono ?_; rintro e w6 ⟨rfl, v6, hL6⟩;
             have m0 : w6.cell? ⟨kb, 0, none⟩ = some (.slice x.a x.xs.length x.cap) := by rw [cell_of_row _ _ _ _ _ _ ((hL6.keep hkl hkb5).1.trans HA5.out)]; rfl
             have m1 : w6.cell? ⟨r, 1, none⟩ = some (.slice aL5 N1 cL5) := by rw [cell_of_row _ _ _ _ _ _ ((hL6.keep hrl (fun ho => HKR.out _ ho (.inl rfl))).1.trans HR5.out)]; rfl))
      obtain ⟨g6, r6, s6⟩ := Bo.left HG5.out.1 HG5.out.2.1 HG5.out.2.2.1 hL6
      have k6 := hL6.keep hkl hkb5
      have h6 : Bo w1 w6 w1.heap.size v6 r (.slice aL5 N1 cL5) vT5 p (l ++ x.xs.map fun y => (y, p)) := ⟨g6, by rw [fst_add, snd_add]; exact r6, HGd.out.1.add hp1 _, HGd.out.2, s6⟩
      have hl6 : (l ++ x.xs.map fun y => (y, p)).length ≤ 30 * (i + 1) := by rw [List.length_append, List.length_map]; omega
      have H6 : Hid (Bo w1 w6 w1.heap.size v6 r (.slice aL5 N1 cL5) vT5 p (l ++ x.xs.map fun y => (y, p)) ∧ w6.heap[kb]? = some (.cells #[.slice x.a x.xs.length x.cap, .int .i64 x.n] 36) ∧ ¬ Own w1.heap.size v6 kb ∧ ¬ ROwn r (.slice aL5 N1 cL5) vT5 kb) := hid ⟨h6, k6.1.trans HA5.out, k6.2, HG5.out.2.2.2.1⟩
      have HD6 := hid hs0
      clear g6 r6 s6 k6 h6 hL6 HG5 HGd HKR HR5 HA5 HAD q0 q1 m0 m1 hkl hrl hkb5 HW4 HD5
      generalize (l ++ x.xs.map fun y => (y, p)) = l6 at *
      generalize (Value.slice aL5 N1 cL5) = vL6 at *
      go_wp2_with fail
      go_loopw [9] (fun kv wr2 => ∃ (k : Nat) (l2 : List (Int × Int)) (v2 vL2 vT2 : Value), k ≤ x.n.toNat ∧ kv = .int .i64 (k : Int) ∧ l2.length ≤ 30 * (i + 1) ∧ Hid (Bo w1 wr2 w1.heap.size v2 r vL2 vT2 p l2 ∧ wr2.heap[kb]? = some (.cells #[.slice x.a x.xs.length x.cap, .int .i64 x.n] 36) ∧ ¬ Own w1.heap.size v2 kb ∧ ¬ ROwn r vL2 vT2 kb)) (fun kv _ => x.n.toNat - (intOf kv).toNat)
      case atStart => exact ⟨0, l6, _, _, _, Nat.zero_le _, rfl, hl6, H6⟩
      case round =>
        obtain ⟨k, l2, v2, vL2, vT2, hk, rfl, hl2, H7⟩ := hrel
        clear H6
        have ckb : wr.cell? ⟨kb, 1, none⟩ = some (.int .i64 x.n) := by rw [cell_of_row _ _ _ _ _ _ H7.out.2.1]; rfl
        by_cases hkt : k < x.n.toNat
        · have hkt2 : (k : Int) < x.n := by omega
          have hkb7 : kb < wr.heap.size := lt_of H7.out.2.1
          have hbd : ∀ t ∈ l2, -1000 ≤ t.2 ∧ t.2 ≤ 1000 := fun t ht => by have := H7.out.1.good.bound t ht; omega
          have HTI := hid (tick_any H7.out.1.gq.qu (by omega) hbd)
          clear hbd
          go_wp2_with fail
          refine HTI.out.mono ?_
          rintro e w7 ⟨u7, v7, rfl, hr7, hL7, _⟩
          obtain ⟨g7, r7, s7⟩ := Bo.left H7.out.1.gq H7.out.1.rq H7.out.1.sep hL7
          have k7 := hL7.keep hkb7 H7.out.2.2.1
          have HTR := hid (rtick_any r7 H7.out.1.good hp16 (by omega))
          have hu7 : ∀ q, u7.ownBlock = some q → q < w7.heap.size ∧ ¬ ROwn r vL2 vT2 q := fun q hq => ⟨(hr7.own q hq).2, fun ho => by have := (H7.out.1.rq.lt ho).2; have := (hr7.own q hq).1; omega⟩
          have H8 := hid (And.intro g7 (And.intro r7 (And.intro s7 (And.intro k7 (And.intro hr7 hu7)))))
          obtain ⟨a7, c7, rfl, _⟩ := hr7.slice
          have hkb8 : kb < w7.heap.size := Nat.lt_of_lt_of_le hkb7 hL7.turn.size
          clear g7 r7 s7 k7 hr7 hu7 hL7 HTI
          go_wp2_with fail
          refine HTR.out.mono ?_
          rintro e w8 ⟨u8, vL8, vT8, rfl, hr8, hL8, _⟩
          obtain ⟨g8, r8, s8⟩ := Bo.right H8.out.1 H8.out.2.1 H7.out.1.le H8.out.2.2.1 hL8
          have k8 := hL8.keep hkb8 H7.out.2.2.2
          have hr7' := H8.out.2.2.2.2.1.other hL8.turn.size (fun q hq => (hL8.keep (H8.out.2.2.2.2.2 q hq).1 (H8.out.2.2.2.2.2 q hq).2).1)
          have hlen : (restOf (tickA l2)).length ≤ 30 * (i + 1) := Nat.le_trans (rest_len l2) hl2
          have hdl : (dueOf (tickA l2)).length ≤ 100000 := Nat.le_trans (due_len l2) (by omega)
          have HSM := hid (same_any hr7' hr8 hdl)
          have h8 : Bo w1 w8 w1.heap.size v7 r vL8 vT8 p (restOf (tickA l2)) := ⟨g8, r8, H7.out.1.good.rest, H7.out.1.le, s8⟩
          have H9 : Hid (Bo w1 w8 w1.heap.size v7 r vL8 vT8 p (restOf (tickA l2)) ∧ w8.heap[kb]? = some (.cells #[.slice x.a x.xs.length x.cap, .int .i64 x.n] 36) ∧ ¬ Own w1.heap.size v7 kb ∧ ¬ ROwn r vL8 vT8 kb) := hid ⟨h8, k8.1.trans (H8.out.2.2.2.1.1.trans H7.out.2.1), H8.out.2.2.2.1.2, k8.2⟩
          obtain ⟨a8, c8, rfl, _⟩ := hr8.slice
          clear g8 r8 s8 k8 hr7' h8 hL8 hr8 HTR H8 hdl
          go_wp2_with fail
          refine HSM.out.mono ?_
          rintro e w9 ⟨rfl, q9, rfl⟩
          have H10 : Hid (Bo w1 (w8.drewN q9) w1.heap.size v7 r vL8 vT8 p (restOf (tickA l2)) ∧ (w8.drewN q9).heap[kb]? = some (.cells #[.slice x.a x.xs.length x.cap, .int .i64 x.n] 36) ∧ ¬ Own w1.heap.size v7 kb ∧ ¬ ROwn r vL8 vT8 kb) := hid ⟨H9.out.1.drewN q9, H9.out.2.1, H9.out.2.2⟩
          clear H9 HSM
          go_wp2_with fail
          exact ⟨⟨k + 1, _, v7, vL8, vT8, by omega, by go_num, hlen, H10⟩, by simp [intOf]; omega⟩
        · have hkt2 : ¬ ((k : Int) < x.n) := by omega
          obtain ⟨aL, cL, rfl, _⟩ := H7.out.1.rq.rowL.slice
          obtain ⟨n, hn⟩ : ∃ n, n = l2.length := ⟨_, rfl⟩
          have en : (l2.map (·.1)).length = n := by rw [List.length_map, hn]
          rw [en] at H7
          have hn2 : n ≤ 30 * (i + 1) := by omega
          have HLI : Hid (∀ wx : World, Below wr.heap.size wr wx → Calls Try.prog 12 #[.pointer (some ⟨w1.heap.size, 0, none⟩)] wx (fun e w' => ∃ a cap, e = .returned (.slice a n cap) ∧ OR w' wx.heap.size 1 (.slice a n cap) n (nums (l2.map (·.1))) ∧ Below wx.heap.size wx w')) := hid (fun wx hb =>
            (list_any (H7.out.1.gq.qu.below hb (Nat.le_refl _)) (by omega)).mono (fun e w' ⟨u, he, hr, hb'⟩ => by
              rw [en] at hr
              obtain ⟨a, c, rfl, _⟩ := hr.slice
              exact ⟨a, c, he, hr, hb'⟩))
          have HSA : Hid (∀ (wx : World) (B : Nat) (a : Option Addr) (cap : Nat), Below wr.heap.size wr wx → OR wx B 1 (.slice a n cap) n (nums (l2.map (·.1))) → Calls Try.prog 15 #[.slice a n cap, .slice aL n cL] wx (fun e w' => e = .returned (.bool true) ∧ Below wx.heap.size wx w')) := hid (fun wx B a cap hb hr =>
            (same_any (xs := l2.map (·.1)) (by rw [en]; exact hr) (H7.out.1.rq.rowL.below hb (Nat.le_refl _)) (by omega)).mono (fun e w' ⟨h1, q, h2⟩ => ⟨h1, by rw [h2]; exact Below.drewN (Below.refl _ _) q⟩))
          have hLE : ∀ (z : Int) (wx : World), Below wr.heap.size wr wx → Calls Try.prog 13 #[.pointer (some ⟨w1.heap.size, 0, none⟩), .int .i64 z] wx (fun e w' => e = .returned (.int .i64 (leftA l2 z)) ∧ Below wx.heap.size wx w') := fun z wx hb =>
            left_any (H7.out.1.gq.qu.below hb (Nat.le_refl _)) (by omega) z
          have hOF : ∀ (z : Int) (wx : World), Below wr.heap.size wr wx → Calls Try.prog 17 #[.pointer (some ⟨r, 0, none⟩), .int .i64 z] wx (fun e w' => e = .returned (.int .i64 (leftA l2 z)) ∧ Below wx.heap.size wx w') := fun z wx hb =>
            (of_any (H7.out.1.rq.below hb (Nat.le_refl _)) (by omega) z).mono (fun e w' ⟨h1, h2⟩ => ⟨h1, by rw [h2]; exact Below.refl _ _⟩)
          have HLE1 := hid (hLE x.n)
          have HOF1 := hid (hOF x.n)
          have hkb7 : kb < wr.heap.size := lt_of H7.out.2.1
          have hr7 : r < wr.heap.size := (H7.out.1.rq.lt (.inl rfl)).2
          have hcr : wr.cell? ⟨r, 1, none⟩ = some (.slice aL n cL) := H7.out.1.rq.c1
          have H8 := hid H7.out.1
          have hb0 : Below wr.heap.size wr wr.drew := (Below.refl _ wr).drew
          by_cases hnz : n = 0
          · have HC : Hid (∀ wx : World, Below wr.heap.size wr wx → wx.cell? ⟨kb, 1, none⟩ = some (.int .i64 x.n) ∧ wx.cell? ⟨r, 1, none⟩ = some (.slice aL n cL)) := hid (fun wx hb => ⟨(hb.cell (p := ⟨kb, 1, none⟩) hkb7).trans ckb, (hb.cell (p := ⟨r, 1, none⟩) hr7).trans hcr⟩)
            obtain ⟨z0, z1⟩ := HC.out _ hb0
            have hd1 : decide ((0 : Int) < (n : Int)) = false := by simp; omega
            have hd2 : decide (0 < n) = false := by simp; omega
            clear hLE hOF H7 hkb7 hr7 hcr en hnz hn hk
            generalize leftA l2 x.n = y at *
            have hyy : (y != y) = false := by simp
            go_wp2_with fail
            refine wp_region_held_drew (S := (fun wx => wx.cell? ⟨kb, 1, none⟩ = some (.int .i64 x.n) ∧ wx.cell? ⟨r, 1, none⟩ = some (.slice aL n cL))) (by kernel_rfl) ⟨z0, z1⟩ (fun hHeld => ?_)
            refine takeH (i := 0) (some 96) (.pointer (some ⟨w1.heap.size, 0, none⟩)) rfl rfl (by kernel_rfl) (by kernel_rfl) (by kernel_rfl) (fun _ _ _ h => h) (Or.inl ⟨by rfl, ?_⟩) (by assumption) ?_
            · (intro w hSw; (try dsimp only at hSw); go_simp)
            simp only [Act.put, List.setIfInBounds_toArray, List.set_cons_zero, List.set_cons_succ]
            refine takeH (i := 2) (some 98) (.pointer (some ⟨r, 0, none⟩)) rfl rfl (by kernel_rfl) (by kernel_rfl) (by kernel_rfl) (fun _ _ _ h => h) (Or.inl ⟨by rfl, ?_⟩) (by assumption) ?_
            · (intro w hSw; (try dsimp only at hSw); go_simp)
            simp only [Act.put, List.setIfInBounds_toArray, List.set_cons_zero, List.set_cons_succ]
            refine takeH (i := 3) (some 99) (.pointer (some ⟨r, 0, none⟩)) rfl rfl (by kernel_rfl) (by kernel_rfl) (by kernel_rfl) (fun _ _ _ h => h) (Or.inl ⟨by rfl, ?_⟩) (by assumption) ?_
            · (intro w hSw; (try dsimp only at hSw); go_simp)
            simp only [Act.put, List.setIfInBounds_toArray, List.set_cons_zero, List.set_cons_succ]
            refine takeH (i := 4) (some 100) (.pointer (some ⟨r, 1, none⟩)) rfl rfl (by kernel_rfl) (by kernel_rfl) (by kernel_rfl) (fun _ _ _ h => h) (Or.inl ⟨by rfl, ?_⟩) (by assumption) ?_
            · (intro w hSw; (try dsimp only at hSw); go_simp)
            simp only [Act.put, List.setIfInBounds_toArray, List.set_cons_zero, List.set_cons_succ]
            refine takeH (i := 5) (some 101) (.slice aL n cL) rfl rfl (by kernel_rfl) (by kernel_rfl) (by kernel_rfl) (fun _ _ _ h => h) (Or.inl ⟨by rfl, ?_⟩) (by assumption) ?_
            · (intro w hSw; (try dsimp only at hSw); go_simp)
            simp only [Act.put, List.setIfInBounds_toArray, List.set_cons_zero, List.set_cons_succ]
            refine wpAnyH_ready (rs := [1]) (by kernel_rfl) (by simp) ?_
            refine AllReadyH.cons (by simp only [List.getElem?_toArray, List.getElem?_cons_succ, List.getElem?_cons_zero]; rfl) (fun KK hK => ?_) AllReadyH.nil
            go_simp
            refine (HLI.out _ hb0).mono ?_
            rintro e wA ⟨aA, cA, rfl, hrA, hhA⟩
            have hbA := hb0.trans (hhA.mono hb0.size)
            obtain ⟨mA0, mA1⟩ := HC.out wA hbA
            clear hhA
            go_wp2_with fail
            refine hK.out _ _ ⟨mA0, mA1⟩ (fun hHeld => ?_)
            clear hK KK
            try simp only [Act.put, List.setIfInBounds_toArray, List.set_cons_zero, List.set_cons_succ]
            refine wpAnyH_ready (rs := [6]) (by kernel_rfl) (by simp) ?_
            refine AllReadyH.cons (by simp only [List.getElem?_toArray, List.getElem?_cons_succ, List.getElem?_cons_zero]; rfl) (fun KK hK => ?_) AllReadyH.nil
            go_simp
            refine (HSA.out _ _ _ _ hbA hrA).mono ?_
            rintro e wB ⟨rfl, hhB⟩
            have hbB := hbA.trans (hhB.mono hbA.size)
            obtain ⟨mB0, mB1⟩ := HC.out wB hbB
            clear hhB
            go_wp2_with fail
            refine hK.out _ _ ⟨mB0, mB1⟩ (fun hHeld => ?_)
            clear hK KK
            try simp only [Act.put, List.setIfInBounds_toArray, List.set_cons_zero, List.set_cons_succ]
            refine takeH (i := 7) (some 103) (.bool false) rfl rfl (by kernel_rfl) (by kernel_rfl) (by kernel_rfl) (fun _ _ _ h => h) (Or.inl ⟨by rfl, ?_⟩) (by assumption) ?_
            · (intro w hSw; (try dsimp only at hSw); go_simp)
            simp only [Act.put, List.setIfInBounds_toArray, List.set_cons_zero, List.set_cons_succ]
            refine takeH (i := 8) (some 104) (.bool false) rfl rfl (by kernel_rfl) (by kernel_rfl) (by kernel_rfl) (fun _ _ _ h => h) (Or.inl ⟨by rfl, ?_⟩) (by assumption) ?_
            · (intro w hSw; (try dsimp only at hSw); go_simp)
            simp only [Act.put, List.setIfInBounds_toArray, List.set_cons_zero, List.set_cons_succ]
            refine takeH (i := 9) (some 105) (.pointer (some ⟨w1.heap.size, 0, none⟩)) rfl rfl (by kernel_rfl) (by kernel_rfl) (by kernel_rfl) (fun _ _ _ h => h) (Or.inl ⟨by rfl, ?_⟩) (by assumption) ?_
            · (intro w hSw; (try dsimp only at hSw); go_simp)
            simp only [Act.put, List.setIfInBounds_toArray, List.set_cons_zero, List.set_cons_succ]
            refine takeH (i := 10) (some 106) (.pointer (some ⟨kb, 1, none⟩)) rfl rfl (by kernel_rfl) (by kernel_rfl) (by kernel_rfl) (fun _ _ _ h => h) (Or.inl ⟨by rfl, ?_⟩) (by assumption) ?_
            · (intro w hSw; (try dsimp only at hSw); go_simp)
            simp only [Act.put, List.setIfInBounds_toArray, List.set_cons_zero, List.set_cons_succ]
            refine takeH (i := 11) (some 107) (.int .i64 x.n) rfl rfl (by kernel_rfl) (by kernel_rfl) (by kernel_rfl) (fun _ _ _ h => h) (Or.inl ⟨by rfl, ?_⟩) (by assumption) ?_
            · (intro w hSw; (try dsimp only at hSw); go_simp)
            simp only [Act.put, List.setIfInBounds_toArray, List.set_cons_zero, List.set_cons_succ]
            refine takeH (i := 13) (some 109) (.pointer (some ⟨r, 0, none⟩)) rfl rfl (by kernel_rfl) (by kernel_rfl) (by kernel_rfl) (fun _ _ _ h => h) (Or.inl ⟨by rfl, ?_⟩) (by assumption) ?_
            · (intro w hSw; (try dsimp only at hSw); go_simp)
            simp only [Act.put, List.setIfInBounds_toArray, List.set_cons_zero, List.set_cons_succ]
            refine takeH (i := 14) (some 110) (.pointer (some ⟨kb, 1, none⟩)) rfl rfl (by kernel_rfl) (by kernel_rfl) (by kernel_rfl) (fun _ _ _ h => h) (Or.inl ⟨by rfl, ?_⟩) (by assumption) ?_
            · (intro w hSw; (try dsimp only at hSw); go_simp)
            simp only [Act.put, List.setIfInBounds_toArray, List.set_cons_zero, List.set_cons_succ]
            refine takeH (i := 15) (some 111) (.int .i64 x.n) rfl rfl (by kernel_rfl) (by kernel_rfl) (by kernel_rfl) (fun _ _ _ h => h) (Or.inl ⟨by rfl, ?_⟩) (by assumption) ?_
            · (intro w hSw; (try dsimp only at hSw); go_simp)
            simp only [Act.put, List.setIfInBounds_toArray, List.set_cons_zero, List.set_cons_succ]
            refine wpAnyH_ready (rs := [12]) (by kernel_rfl) (by simp) ?_
            refine AllReadyH.cons (by simp only [List.getElem?_toArray, List.getElem?_cons_succ, List.getElem?_cons_zero]; rfl) (fun KK hK => ?_) AllReadyH.nil
            go_simp
            refine (HLE1.out _ hbB).mono ?_
            rintro e wC ⟨rfl, hhC⟩
            have hbC := hbB.trans (hhC.mono hbB.size)
            obtain ⟨mC0, mC1⟩ := HC.out wC hbC
            clear hhC
            go_wp2_with fail
            refine hK.out _ _ ⟨mC0, mC1⟩ (fun hHeld => ?_)
            clear hK KK
            try simp only [Act.put, List.setIfInBounds_toArray, List.set_cons_zero, List.set_cons_succ]
            refine wpAnyH_ready (rs := [16]) (by kernel_rfl) (by simp) ?_
            refine AllReadyH.cons (by simp only [List.getElem?_toArray, List.getElem?_cons_succ, List.getElem?_cons_zero]; rfl) (fun KK hK => ?_) AllReadyH.nil
            go_simp
            refine (HOF1.out _ hbC).mono ?_
            rintro e wD ⟨rfl, hhD⟩
            have hbD := hbC.trans (hhD.mono hbC.size)
            obtain ⟨mD0, mD1⟩ := HC.out wD hbD
            clear hhD
            go_wp2_with fail
            refine hK.out _ _ ⟨mD0, mD1⟩ (fun hHeld => ?_)
            clear hK KK
            try simp only [Act.put, List.setIfInBounds_toArray, List.set_cons_zero, List.set_cons_succ]
            refine takeH (i := 17) (some 113) (.bool false) rfl rfl (by kernel_rfl) (by kernel_rfl) (by kernel_rfl) (fun _ _ _ h => h) (Or.inl ⟨by rfl, ?_⟩) (by assumption) ?_
            · (intro w hSw; (try dsimp only at hSw); go_simp)
            simp only [Act.put, List.setIfInBounds_toArray, List.set_cons_zero, List.set_cons_succ]
            refine takeH (i := 18) (some 114) (.bool false) rfl rfl (by kernel_rfl) (by kernel_rfl) (by kernel_rfl) (fun _ _ _ h => h) (Or.inl ⟨by rfl, ?_⟩) (by assumption) ?_
            · (intro w hSw; (try dsimp only at hSw); go_simp)
            simp only [Act.put, List.setIfInBounds_toArray, List.set_cons_zero, List.set_cons_succ]
            refine takeH (i := 19) (some 115) (.bool false) rfl rfl (by kernel_rfl) (by kernel_rfl) (by kernel_rfl) (fun _ _ _ h => h) (Or.inl ⟨by rfl, ?_⟩) (by assumption) ?_
            · (intro w hSw; (try dsimp only at hSw); go_simp)
            simp only [Act.put, List.setIfInBounds_toArray, List.set_cons_zero, List.set_cons_succ]
            refine takeH (i := 20) (some 116) (.pointer (some ⟨r, 0, none⟩)) rfl rfl (by kernel_rfl) (by kernel_rfl) (by kernel_rfl) (fun _ _ _ h => h) (Or.inl ⟨by rfl, ?_⟩) (by assumption) ?_
            · (intro w hSw; (try dsimp only at hSw); go_simp)
            simp only [Act.put, List.setIfInBounds_toArray, List.set_cons_zero, List.set_cons_succ]
            refine takeH (i := 21) (some 117) (.pointer (some ⟨r, 0, none⟩)) rfl rfl (by kernel_rfl) (by kernel_rfl) (by kernel_rfl) (fun _ _ _ h => h) (Or.inl ⟨by rfl, ?_⟩) (by assumption) ?_
            · (intro w hSw; (try dsimp only at hSw); go_simp)
            simp only [Act.put, List.setIfInBounds_toArray, List.set_cons_zero, List.set_cons_succ]
            refine takeH (i := 22) (some 118) (.pointer (some ⟨r, 1, none⟩)) rfl rfl (by kernel_rfl) (by kernel_rfl) (by kernel_rfl) (fun _ _ _ h => h) (Or.inl ⟨by rfl, ?_⟩) (by assumption) ?_
            · (intro w hSw; (try dsimp only at hSw); go_simp)
            simp only [Act.put, List.setIfInBounds_toArray, List.set_cons_zero, List.set_cons_succ]
            refine takeH (i := 23) (some 119) (.slice aL n cL) rfl rfl (by kernel_rfl) (by kernel_rfl) (by kernel_rfl) (fun _ _ _ h => h) (Or.inl ⟨by rfl, ?_⟩) (by assumption) ?_
            · (intro w hSw; (try dsimp only at hSw); go_simp)
            simp only [Act.put, List.setIfInBounds_toArray, List.set_cons_zero, List.set_cons_succ]
            refine takeH (i := 24) (some 120) (.int .i64 (n : Int)) rfl rfl (by kernel_rfl) (by kernel_rfl) (by kernel_rfl) (fun _ _ _ h => h) (Or.inl ⟨by rfl, ?_⟩) (by assumption) ?_
            · (intro w hSw; (try dsimp only at hSw); go_simp)
            simp only [Act.put, List.setIfInBounds_toArray, List.set_cons_zero, List.set_cons_succ]
            refine takeH (i := 25) (some 121) (.bool false) rfl rfl (by kernel_rfl) (by kernel_rfl) (by kernel_rfl) (fun _ _ _ h => h) (Or.inl ⟨by rfl, ?_⟩) (by assumption) ?_
            · (intro w hSw; (try dsimp only at hSw); go_simp)
            simp only [Act.put, List.setIfInBounds_toArray, List.set_cons_zero, List.set_cons_succ]
            refine takeH (i := 26) (some 122) (.bool false) rfl rfl (by kernel_rfl) (by kernel_rfl) (by kernel_rfl) (fun _ _ _ h => h) (Or.inl ⟨by rfl, ?_⟩) (by assumption) ?_
            · (intro w hSw; (try dsimp only at hSw); go_simp)
            simp only [Act.put, List.setIfInBounds_toArray, List.set_cons_zero, List.set_cons_succ]
            refine takeH (i := 27) (some 123) undef rfl rfl (by kernel_rfl) (by kernel_rfl) (by kernel_rfl) (fun _ _ _ h => h) (Or.inr ⟨by rfl, rfl⟩) (by assumption) ?_
            simp only [Act.put, List.setIfInBounds_toArray, List.set_cons_zero, List.set_cons_succ]
            refine takeH (i := 28) (some 124) undef rfl rfl (by kernel_rfl) (by kernel_rfl) (by kernel_rfl) (fun _ _ _ h => h) (Or.inr ⟨by rfl, rfl⟩) (by assumption) ?_
            simp only [Act.put, List.setIfInBounds_toArray, List.set_cons_zero, List.set_cons_succ]
            refine takeH (i := 29) (some 125) undef rfl rfl (by kernel_rfl) (by kernel_rfl) (by kernel_rfl) (fun _ _ _ h => h) (Or.inr ⟨by rfl, rfl⟩) (by assumption) ?_
            simp only [Act.put, List.setIfInBounds_toArray, List.set_cons_zero, List.set_cons_succ]
            refine takeH (i := 30) (some 126) undef rfl rfl (by kernel_rfl) (by kernel_rfl) (by kernel_rfl) (fun _ _ _ h => h) (Or.inr ⟨by rfl, rfl⟩) (by assumption) ?_
            simp only [Act.put, List.setIfInBounds_toArray, List.set_cons_zero, List.set_cons_succ]
            refine takeH (i := 31) (some 127) undef rfl rfl (by kernel_rfl) (by kernel_rfl) (by kernel_rfl) (fun _ _ _ h => h) (Or.inr ⟨by rfl, rfl⟩) (by assumption) ?_
            simp only [Act.put, List.setIfInBounds_toArray, List.set_cons_zero, List.set_cons_succ]
            refine takeH (i := 32) (some 128) undef rfl rfl (by kernel_rfl) (by kernel_rfl) (by kernel_rfl) (fun _ _ _ h => h) (Or.inr ⟨by rfl, rfl⟩) (by assumption) ?_
            simp only [Act.put, List.setIfInBounds_toArray, List.set_cons_zero, List.set_cons_succ]
            refine takeH (i := 33) (some 129) undef rfl rfl (by kernel_rfl) (by kernel_rfl) (by kernel_rfl) (fun _ _ _ h => h) (Or.inr ⟨by rfl, rfl⟩) (by assumption) ?_
            simp only [Act.put, List.setIfInBounds_toArray, List.set_cons_zero, List.set_cons_succ]
            refine takeH (i := 34) (some 130) undef rfl rfl (by kernel_rfl) (by kernel_rfl) (by kernel_rfl) (fun _ _ _ h => h) (Or.inr ⟨by rfl, rfl⟩) (by assumption) ?_
            simp only [Act.put, List.setIfInBounds_toArray, List.set_cons_zero, List.set_cons_succ]
            refine takeH (i := 35) (some 131) undef rfl rfl (by kernel_rfl) (by kernel_rfl) (by kernel_rfl) (fun _ _ _ h => h) (Or.inr ⟨by rfl, rfl⟩) (by assumption) ?_
            simp only [Act.put, List.setIfInBounds_toArray, List.set_cons_zero, List.set_cons_succ]
            refine takeH (i := 36) (some 132) undef rfl rfl (by kernel_rfl) (by kernel_rfl) (by kernel_rfl) (fun _ _ _ h => h) (Or.inr ⟨by rfl, rfl⟩) (by assumption) ?_
            simp only [Act.put, List.setIfInBounds_toArray, List.set_cons_zero, List.set_cons_succ]
            refine takeH (i := 37) (some 133) undef rfl rfl (by kernel_rfl) (by kernel_rfl) (by kernel_rfl) (fun _ _ _ h => h) (Or.inr ⟨by rfl, rfl⟩) (by assumption) ?_
            simp only [Act.put, List.setIfInBounds_toArray, List.set_cons_zero, List.set_cons_succ]
            refine takeH (i := 38) (some 134) undef rfl rfl (by kernel_rfl) (by kernel_rfl) (by kernel_rfl) (fun _ _ _ h => h) (Or.inr ⟨by rfl, rfl⟩) (by assumption) ?_
            simp only [Act.put, List.setIfInBounds_toArray, List.set_cons_zero, List.set_cons_succ]
            refine takeH (i := 39) (some 135) undef rfl rfl (by kernel_rfl) (by kernel_rfl) (by kernel_rfl) (fun _ _ _ h => h) (Or.inr ⟨by rfl, rfl⟩) (by assumption) ?_
            simp only [Act.put, List.setIfInBounds_toArray, List.set_cons_zero, List.set_cons_succ]
            refine takeH (i := 40) (some 136) undef rfl rfl (by kernel_rfl) (by kernel_rfl) (by kernel_rfl) (fun _ _ _ h => h) (Or.inr ⟨by rfl, rfl⟩) (by assumption) ?_
            simp only [Act.put, List.setIfInBounds_toArray, List.set_cons_zero, List.set_cons_succ]
            refine takeH (i := 41) (some 137) undef rfl rfl (by kernel_rfl) (by kernel_rfl) (by kernel_rfl) (fun _ _ _ h => h) (Or.inr ⟨by rfl, rfl⟩) (by assumption) ?_
            simp only [Act.put, List.setIfInBounds_toArray, List.set_cons_zero, List.set_cons_succ]
            refine takeH (i := 42) (some 138) undef rfl rfl (by kernel_rfl) (by kernel_rfl) (by kernel_rfl) (fun _ _ _ h => h) (Or.inr ⟨by rfl, rfl⟩) (by assumption) ?_
            simp only [Act.put, List.setIfInBounds_toArray, List.set_cons_zero, List.set_cons_succ]
            refine takeH (i := 43) (some 139) undef rfl rfl (by kernel_rfl) (by kernel_rfl) (by kernel_rfl) (fun _ _ _ h => h) (Or.inr ⟨by rfl, rfl⟩) (by assumption) ?_
            simp only [Act.put, List.setIfInBounds_toArray, List.set_cons_zero, List.set_cons_succ]
            refine takeH (i := 44) (some 140) (.bool false) rfl rfl (by kernel_rfl) (by kernel_rfl) (by kernel_rfl) (fun _ _ _ h => h) (Or.inl ⟨by rfl, ?_⟩) (by assumption) ?_
            · (intro w hSw; (try dsimp only at hSw); go_simp)
            simp only [Act.put, List.setIfInBounds_toArray, List.set_cons_zero, List.set_cons_succ]
            refine takeH (i := 45) (some 141) (.bool false) rfl rfl (by kernel_rfl) (by kernel_rfl) (by kernel_rfl) (fun _ _ _ h => h) (Or.inl ⟨by rfl, ?_⟩) (by assumption) ?_
            · (intro w hSw; (try dsimp only at hSw); go_simp)
            simp only [Act.put, List.setIfInBounds_toArray, List.set_cons_zero, List.set_cons_succ]
            refine wpAnyH_done (by kernel_rfl) ?_ _
            have H9 := hid (H8.out.below hbD)
            clear HLI HSA HLE1 HOF1 HC
            go_wp2_with fail
            exact ⟨⟨i + 1, l2, v2, _, vT2, by omega, by go_num, by omega, H9⟩, by simp [intOf]; omega⟩
          · obtain ⟨gL, oL, rfl, _, cx0⟩ := H7.out.1.rq.rowL.at (nums_at (k := 0) (x := (l2[0]'(by omega)).1) (by rw [List.getElem?_map, List.getElem?_eq_getElem (by omega)]; rfl))
            rw [Nat.add_zero] at cx0
            generalize (l2[0]'(by omega)).1 = x0 at *
            have hgL : gL < wr.heap.size := (H7.out.1.rq.rowL.own gL rfl).2
            have HLE2 := hid (hLE x0)
            have HOF2 := hid (hOF x0)
            have HC : Hid (∀ wx : World, Below wr.heap.size wr wx → wx.cell? ⟨kb, 1, none⟩ = some (.int .i64 x.n) ∧ wx.cell? ⟨r, 1, none⟩ = some (.slice (some ⟨gL, oL, none⟩) n cL) ∧ wx.cell? ⟨gL, oL, none⟩ = some (.int .i64 x0)) := hid (fun wx hb => ⟨(hb.cell (p := ⟨kb, 1, none⟩) hkb7).trans ckb, (hb.cell (p := ⟨r, 1, none⟩) hr7).trans hcr, (hb.cell (p := ⟨gL, oL, none⟩) hgL).trans cx0⟩)
            obtain ⟨z0, z1, z2⟩ := HC.out _ hb0
            have hd1 : (0 : Int) < (n : Int) := by omega
            have hd2 : 0 < n := by omega
            clear hLE hOF H7 hkb7 hr7 hcr en hnz hn hk cx0 hgL
            generalize leftA l2 x.n = y at *
            generalize leftA l2 x0 = z at *
            have hyy : (y != y) = false := by simp
            have hzz : (z != z) = false := by simp
            go_wp2_with fail
            refine wp_region_held_drew (S := (fun wx => wx.cell? ⟨kb, 1, none⟩ = some (.int .i64 x.n) ∧ wx.cell? ⟨r, 1, none⟩ = some (.slice (some ⟨gL, oL, none⟩) n cL) ∧ wx.cell? ⟨gL, oL, none⟩ = some (.int .i64 x0))) (by kernel_rfl) ⟨z0, z1, z2⟩ (fun hHeld => ?_)
            refine takeH (i := 0) (some 96) (.pointer (some ⟨w1.heap.size, 0, none⟩)) rfl rfl (by kernel_rfl) (by kernel_rfl) (by kernel_rfl) (fun _ _ _ h => h) (Or.inl ⟨by rfl, ?_⟩) (by assumption) ?_
            · (intro w hSw; (try dsimp only at hSw); go_simp)
            simp only [Act.put, List.setIfInBounds_toArray, List.set_cons_zero, List.set_cons_succ]
            refine takeH (i := 2) (some 98) (.pointer (some ⟨r, 0, none⟩)) rfl rfl (by kernel_rfl) (by kernel_rfl) (by kernel_rfl) (fun _ _ _ h => h) (Or.inl ⟨by rfl, ?_⟩) (by assumption) ?_
            · (intro w hSw; (try dsimp only at hSw); go_simp)
            simp only [Act.put, List.setIfInBounds_toArray, List.set_cons_zero, List.set_cons_succ]
            refine takeH (i := 3) (some 99) (.pointer (some ⟨r, 0, none⟩)) rfl rfl (by kernel_rfl) (by kernel_rfl) (by kernel_rfl) (fun _ _ _ h => h) (Or.inl ⟨by rfl, ?_⟩) (by assumption) ?_
            · (intro w hSw; (try dsimp only at hSw); go_simp)
            simp only [Act.put, List.setIfInBounds_toArray, List.set_cons_zero, List.set_cons_succ]
            refine takeH (i := 4) (some 100) (.pointer (some ⟨r, 1, none⟩)) rfl rfl (by kernel_rfl) (by kernel_rfl) (by kernel_rfl) (fun _ _ _ h => h) (Or.inl ⟨by rfl, ?_⟩) (by assumption) ?_
            · (intro w hSw; (try dsimp only at hSw); go_simp)
            simp only [Act.put, List.setIfInBounds_toArray, List.set_cons_zero, List.set_cons_succ]
            refine takeH (i := 5) (some 101) (.slice (some ⟨gL, oL, none⟩) n cL) rfl rfl (by kernel_rfl) (by kernel_rfl) (by kernel_rfl) (fun _ _ _ h => h) (Or.inl ⟨by rfl, ?_⟩) (by assumption) ?_
            · (intro w hSw; (try dsimp only at hSw); go_simp)
            simp only [Act.put, List.setIfInBounds_toArray, List.set_cons_zero, List.set_cons_succ]
            refine wpAnyH_ready (rs := [1]) (by kernel_rfl) (by simp) ?_
            refine AllReadyH.cons (by simp only [List.getElem?_toArray, List.getElem?_cons_succ, List.getElem?_cons_zero]; rfl) (fun KK hK => ?_) AllReadyH.nil
            go_simp
            refine (HLI.out _ hb0).mono ?_
            rintro e wA ⟨aA, cA, rfl, hrA, hhA⟩
            have hbA := hb0.trans (hhA.mono hb0.size)
            obtain ⟨mA0, mA1, mA2⟩ := HC.out wA hbA
            clear hhA
            go_wp2_with fail
            refine hK.out _ _ ⟨mA0, mA1, mA2⟩ (fun hHeld => ?_)
            clear hK KK
            try simp only [Act.put, List.setIfInBounds_toArray, List.set_cons_zero, List.set_cons_succ]
            refine wpAnyH_ready (rs := [6]) (by kernel_rfl) (by simp) ?_
            refine AllReadyH.cons (by simp only [List.getElem?_toArray, List.getElem?_cons_succ, List.getElem?_cons_zero]; rfl) (fun KK hK => ?_) AllReadyH.nil
            go_simp
            refine (HSA.out _ _ _ _ hbA hrA).mono ?_
            rintro e wB ⟨rfl, hhB⟩
            have hbB := hbA.trans (hhB.mono hbA.size)
            obtain ⟨mB0, mB1, mB2⟩ := HC.out wB hbB
            clear hhB
            go_wp2_with fail
            refine hK.out _ _ ⟨mB0, mB1, mB2⟩ (fun hHeld => ?_)
            clear hK KK
            try simp only [Act.put, List.setIfInBounds_toArray, List.set_cons_zero, List.set_cons_succ]
            refine takeH (i := 7) (some 103) (.bool false) rfl rfl (by kernel_rfl) (by kernel_rfl) (by kernel_rfl) (fun _ _ _ h => h) (Or.inl ⟨by rfl, ?_⟩) (by assumption) ?_
            · (intro w hSw; (try dsimp only at hSw); go_simp)
            simp only [Act.put, List.setIfInBounds_toArray, List.set_cons_zero, List.set_cons_succ]
            refine takeH (i := 8) (some 104) (.bool false) rfl rfl (by kernel_rfl) (by kernel_rfl) (by kernel_rfl) (fun _ _ _ h => h) (Or.inl ⟨by rfl, ?_⟩) (by assumption) ?_
            · (intro w hSw; (try dsimp only at hSw); go_simp)
            simp only [Act.put, List.setIfInBounds_toArray, List.set_cons_zero, List.set_cons_succ]
            refine takeH (i := 9) (some 105) (.pointer (some ⟨w1.heap.size, 0, none⟩)) rfl rfl (by kernel_rfl) (by kernel_rfl) (by kernel_rfl) (fun _ _ _ h => h) (Or.inl ⟨by rfl, ?_⟩) (by assumption) ?_
            · (intro w hSw; (try dsimp only at hSw); go_simp)
            simp only [Act.put, List.setIfInBounds_toArray, List.set_cons_zero, List.set_cons_succ]
            refine takeH (i := 10) (some 106) (.pointer (some ⟨kb, 1, none⟩)) rfl rfl (by kernel_rfl) (by kernel_rfl) (by kernel_rfl) (fun _ _ _ h => h) (Or.inl ⟨by rfl, ?_⟩) (by assumption) ?_
            · (intro w hSw; (try dsimp only at hSw); go_simp)
            simp only [Act.put, List.setIfInBounds_toArray, List.set_cons_zero, List.set_cons_succ]
            refine takeH (i := 11) (some 107) (.int .i64 x.n) rfl rfl (by kernel_rfl) (by kernel_rfl) (by kernel_rfl) (fun _ _ _ h => h) (Or.inl ⟨by rfl, ?_⟩) (by assumption) ?_
            · (intro w hSw; (try dsimp only at hSw); go_simp)
            simp only [Act.put, List.setIfInBounds_toArray, List.set_cons_zero, List.set_cons_succ]
            refine takeH (i := 13) (some 109) (.pointer (some ⟨r, 0, none⟩)) rfl rfl (by kernel_rfl) (by kernel_rfl) (by kernel_rfl) (fun _ _ _ h => h) (Or.inl ⟨by rfl, ?_⟩) (by assumption) ?_
            · (intro w hSw; (try dsimp only at hSw); go_simp)
            simp only [Act.put, List.setIfInBounds_toArray, List.set_cons_zero, List.set_cons_succ]
            refine takeH (i := 14) (some 110) (.pointer (some ⟨kb, 1, none⟩)) rfl rfl (by kernel_rfl) (by kernel_rfl) (by kernel_rfl) (fun _ _ _ h => h) (Or.inl ⟨by rfl, ?_⟩) (by assumption) ?_
            · (intro w hSw; (try dsimp only at hSw); go_simp)
            simp only [Act.put, List.setIfInBounds_toArray, List.set_cons_zero, List.set_cons_succ]
            refine takeH (i := 15) (some 111) (.int .i64 x.n) rfl rfl (by kernel_rfl) (by kernel_rfl) (by kernel_rfl) (fun _ _ _ h => h) (Or.inl ⟨by rfl, ?_⟩) (by assumption) ?_
            · (intro w hSw; (try dsimp only at hSw); go_simp)
            simp only [Act.put, List.setIfInBounds_toArray, List.set_cons_zero, List.set_cons_succ]
            refine wpAnyH_ready (rs := [12]) (by kernel_rfl) (by simp) ?_
            refine AllReadyH.cons (by simp only [List.getElem?_toArray, List.getElem?_cons_succ, List.getElem?_cons_zero]; rfl) (fun KK hK => ?_) AllReadyH.nil
            go_simp
            refine (HLE1.out _ hbB).mono ?_
            rintro e wC ⟨rfl, hhC⟩
            have hbC := hbB.trans (hhC.mono hbB.size)
            obtain ⟨mC0, mC1, mC2⟩ := HC.out wC hbC
            clear hhC
            go_wp2_with fail
            refine hK.out _ _ ⟨mC0, mC1, mC2⟩ (fun hHeld => ?_)
            clear hK KK
            try simp only [Act.put, List.setIfInBounds_toArray, List.set_cons_zero, List.set_cons_succ]
            refine wpAnyH_ready (rs := [16]) (by kernel_rfl) (by simp) ?_
            refine AllReadyH.cons (by simp only [List.getElem?_toArray, List.getElem?_cons_succ, List.getElem?_cons_zero]; rfl) (fun KK hK => ?_) AllReadyH.nil
            go_simp
            refine (HOF1.out _ hbC).mono ?_
            rintro e wD ⟨rfl, hhD⟩
            have hbD := hbC.trans (hhD.mono hbC.size)
            obtain ⟨mD0, mD1, mD2⟩ := HC.out wD hbD
            clear hhD
            go_wp2_with fail
            refine hK.out _ _ ⟨mD0, mD1, mD2⟩ (fun hHeld => ?_)
            clear hK KK
            try simp only [Act.put, List.setIfInBounds_toArray, List.set_cons_zero, List.set_cons_succ]
            refine takeH (i := 17) (some 113) (.bool false) rfl rfl (by kernel_rfl) (by kernel_rfl) (by kernel_rfl) (fun _ _ _ h => h) (Or.inl ⟨by rfl, ?_⟩) (by assumption) ?_
            · (intro w hSw; (try dsimp only at hSw); go_simp)
            simp only [Act.put, List.setIfInBounds_toArray, List.set_cons_zero, List.set_cons_succ]
            refine takeH (i := 18) (some 114) (.bool false) rfl rfl (by kernel_rfl) (by kernel_rfl) (by kernel_rfl) (fun _ _ _ h => h) (Or.inl ⟨by rfl, ?_⟩) (by assumption) ?_
            · (intro w hSw; (try dsimp only at hSw); go_simp)
            simp only [Act.put, List.setIfInBounds_toArray, List.set_cons_zero, List.set_cons_succ]
            refine takeH (i := 19) (some 115) (.bool false) rfl rfl (by kernel_rfl) (by kernel_rfl) (by kernel_rfl) (fun _ _ _ h => h) (Or.inl ⟨by rfl, ?_⟩) (by assumption) ?_
            · (intro w hSw; (try dsimp only at hSw); go_simp)
            simp only [Act.put, List.setIfInBounds_toArray, List.set_cons_zero, List.set_cons_succ]
            refine takeH (i := 20) (some 116) (.pointer (some ⟨r, 0, none⟩)) rfl rfl (by kernel_rfl) (by kernel_rfl) (by kernel_rfl) (fun _ _ _ h => h) (Or.inl ⟨by rfl, ?_⟩) (by assumption) ?_
            · (intro w hSw; (try dsimp only at hSw); go_simp)
            simp only [Act.put, List.setIfInBounds_toArray, List.set_cons_zero, List.set_cons_succ]
            refine takeH (i := 21) (some 117) (.pointer (some ⟨r, 0, none⟩)) rfl rfl (by kernel_rfl) (by kernel_rfl) (by kernel_rfl) (fun _ _ _ h => h) (Or.inl ⟨by rfl, ?_⟩) (by assumption) ?_
            · (intro w hSw; (try dsimp only at hSw); go_simp)
            simp only [Act.put, List.setIfInBounds_toArray, List.set_cons_zero, List.set_cons_succ]
            refine takeH (i := 22) (some 118) (.pointer (some ⟨r, 1, none⟩)) rfl rfl (by kernel_rfl) (by kernel_rfl) (by kernel_rfl) (fun _ _ _ h => h) (Or.inl ⟨by rfl, ?_⟩) (by assumption) ?_
            · (intro w hSw; (try dsimp only at hSw); go_simp)
            simp only [Act.put, List.setIfInBounds_toArray, List.set_cons_zero, List.set_cons_succ]
            refine takeH (i := 23) (some 119) (.slice (some ⟨gL, oL, none⟩) n cL) rfl rfl (by kernel_rfl) (by kernel_rfl) (by kernel_rfl) (fun _ _ _ h => h) (Or.inl ⟨by rfl, ?_⟩) (by assumption) ?_
            · (intro w hSw; (try dsimp only at hSw); go_simp)
            simp only [Act.put, List.setIfInBounds_toArray, List.set_cons_zero, List.set_cons_succ]
            refine takeH (i := 24) (some 120) (.int .i64 (n : Int)) rfl rfl (by kernel_rfl) (by kernel_rfl) (by kernel_rfl) (fun _ _ _ h => h) (Or.inl ⟨by rfl, ?_⟩) (by assumption) ?_
            · (intro w hSw; (try dsimp only at hSw); go_simp)
            simp only [Act.put, List.setIfInBounds_toArray, List.set_cons_zero, List.set_cons_succ]
            refine takeH (i := 25) (some 121) (.bool true) rfl rfl (by kernel_rfl) (by kernel_rfl) (by kernel_rfl) (fun _ _ _ h => h) (Or.inl ⟨by rfl, ?_⟩) (by assumption) ?_
            · (intro w hSw; (try dsimp only at hSw); go_simp)
            simp only [Act.put, List.setIfInBounds_toArray, List.set_cons_zero, List.set_cons_succ]
            refine takeH (i := 26) (some 122) (.bool true) rfl rfl (by kernel_rfl) (by kernel_rfl) (by kernel_rfl) (fun _ _ _ h => h) (Or.inl ⟨by rfl, ?_⟩) (by assumption) ?_
            · (intro w hSw; (try dsimp only at hSw); go_simp)
            simp only [Act.put, List.setIfInBounds_toArray, List.set_cons_zero, List.set_cons_succ]
            refine takeH (i := 27) (some 123) (.pointer (some ⟨w1.heap.size, 0, none⟩)) rfl rfl (by kernel_rfl) (by kernel_rfl) (by kernel_rfl) (fun _ _ _ h => h) (Or.inl ⟨by rfl, ?_⟩) (by assumption) ?_
            · (intro w hSw; (try dsimp only at hSw); go_simp)
            simp only [Act.put, List.setIfInBounds_toArray, List.set_cons_zero, List.set_cons_succ]
            refine takeH (i := 28) (some 124) (.pointer (some ⟨r, 0, none⟩)) rfl rfl (by kernel_rfl) (by kernel_rfl) (by kernel_rfl) (fun _ _ _ h => h) (Or.inl ⟨by rfl, ?_⟩) (by assumption) ?_
            · (intro w hSw; (try dsimp only at hSw); go_simp)
            simp only [Act.put, List.setIfInBounds_toArray, List.set_cons_zero, List.set_cons_succ]
            refine takeH (i := 29) (some 125) (.pointer (some ⟨r, 0, none⟩)) rfl rfl (by kernel_rfl) (by kernel_rfl) (by kernel_rfl) (fun _ _ _ h => h) (Or.inl ⟨by rfl, ?_⟩) (by assumption) ?_
            · (intro w hSw; (try dsimp only at hSw); go_simp)
            simp only [Act.put, List.setIfInBounds_toArray, List.set_cons_zero, List.set_cons_succ]
            refine takeH (i := 30) (some 126) (.pointer (some ⟨r, 1, none⟩)) rfl rfl (by kernel_rfl) (by kernel_rfl) (by kernel_rfl) (fun _ _ _ h => h) (Or.inl ⟨by rfl, ?_⟩) (by assumption) ?_
            · (intro w hSw; (try dsimp only at hSw); go_simp)
            simp only [Act.put, List.setIfInBounds_toArray, List.set_cons_zero, List.set_cons_succ]
            refine takeH (i := 31) (some 127) (.slice (some ⟨gL, oL, none⟩) n cL) rfl rfl (by kernel_rfl) (by kernel_rfl) (by kernel_rfl) (fun _ _ _ h => h) (Or.inl ⟨by rfl, ?_⟩) (by assumption) ?_
            · (intro w hSw; (try dsimp only at hSw); go_simp)
            simp only [Act.put, List.setIfInBounds_toArray, List.set_cons_zero, List.set_cons_succ]
            refine takeH (i := 32) (some 128) (.pointer (some ⟨gL, oL, none⟩)) rfl rfl (by kernel_rfl) (by kernel_rfl) (by kernel_rfl) (fun _ _ _ h => h) (Or.inl ⟨by rfl, ?_⟩) (by assumption) ?_
            · (intro w hSw; (try dsimp only at hSw); go_simp)
            simp only [Act.put, List.setIfInBounds_toArray, List.set_cons_zero, List.set_cons_succ]
            refine takeH (i := 33) (some 129) (.int .i64 x0) rfl rfl (by kernel_rfl) (by kernel_rfl) (by kernel_rfl) (fun _ _ _ h => h) (Or.inl ⟨by rfl, ?_⟩) (by assumption) ?_
            · (intro w hSw; (try dsimp only at hSw); go_simp)
            simp only [Act.put, List.setIfInBounds_toArray, List.set_cons_zero, List.set_cons_succ]
            refine takeH (i := 35) (some 131) (.pointer (some ⟨r, 0, none⟩)) rfl rfl (by kernel_rfl) (by kernel_rfl) (by kernel_rfl) (fun _ _ _ h => h) (Or.inl ⟨by rfl, ?_⟩) (by assumption) ?_
            · (intro w hSw; (try dsimp only at hSw); go_simp)
            simp only [Act.put, List.setIfInBounds_toArray, List.set_cons_zero, List.set_cons_succ]
            refine takeH (i := 36) (some 132) (.pointer (some ⟨r, 0, none⟩)) rfl rfl (by kernel_rfl) (by kernel_rfl) (by kernel_rfl) (fun _ _ _ h => h) (Or.inl ⟨by rfl, ?_⟩) (by assumption) ?_
            · (intro w hSw; (try dsimp only at hSw); go_simp)
            simp only [Act.put, List.setIfInBounds_toArray, List.set_cons_zero, List.set_cons_succ]
            refine takeH (i := 37) (some 133) (.pointer (some ⟨r, 0, none⟩)) rfl rfl (by kernel_rfl) (by kernel_rfl) (by kernel_rfl) (fun _ _ _ h => h) (Or.inl ⟨by rfl, ?_⟩) (by assumption) ?_
            · (intro w hSw; (try dsimp only at hSw); go_simp)
            simp only [Act.put, List.setIfInBounds_toArray, List.set_cons_zero, List.set_cons_succ]
            refine takeH (i := 38) (some 134) (.pointer (some ⟨r, 1, none⟩)) rfl rfl (by kernel_rfl) (by kernel_rfl) (by kernel_rfl) (fun _ _ _ h => h) (Or.inl ⟨by rfl, ?_⟩) (by assumption) ?_
            · (intro w hSw; (try dsimp only at hSw); go_simp)
            simp only [Act.put, List.setIfInBounds_toArray, List.set_cons_zero, List.set_cons_succ]
            refine takeH (i := 39) (some 135) (.slice (some ⟨gL, oL, none⟩) n cL) rfl rfl (by kernel_rfl) (by kernel_rfl) (by kernel_rfl) (fun _ _ _ h => h) (Or.inl ⟨by rfl, ?_⟩) (by assumption) ?_
            · (intro w hSw; (try dsimp only at hSw); go_simp)
            simp only [Act.put, List.setIfInBounds_toArray, List.set_cons_zero, List.set_cons_succ]
            refine takeH (i := 40) (some 136) (.pointer (some ⟨gL, oL, none⟩)) rfl rfl (by kernel_rfl) (by kernel_rfl) (by kernel_rfl) (fun _ _ _ h => h) (Or.inl ⟨by rfl, ?_⟩) (by assumption) ?_
            · (intro w hSw; (try dsimp only at hSw); go_simp)
            simp only [Act.put, List.setIfInBounds_toArray, List.set_cons_zero, List.set_cons_succ]
            refine takeH (i := 41) (some 137) (.int .i64 x0) rfl rfl (by kernel_rfl) (by kernel_rfl) (by kernel_rfl) (fun _ _ _ h => h) (Or.inl ⟨by rfl, ?_⟩) (by assumption) ?_
            · (intro w hSw; (try dsimp only at hSw); go_simp)
            simp only [Act.put, List.setIfInBounds_toArray, List.set_cons_zero, List.set_cons_succ]
            refine wpAnyH_ready (rs := [34]) (by kernel_rfl) (by simp) ?_
            refine AllReadyH.cons (by simp only [List.getElem?_toArray, List.getElem?_cons_succ, List.getElem?_cons_zero]; rfl) (fun KK hK => ?_) AllReadyH.nil
            go_simp
            refine (HLE2.out _ hbD).mono ?_
            rintro e wE ⟨rfl, hhE⟩
            have hbE := hbD.trans (hhE.mono hbD.size)
            obtain ⟨mE0, mE1, mE2⟩ := HC.out wE hbE
            clear hhE
            go_wp2_with fail
            refine hK.out _ _ ⟨mE0, mE1, mE2⟩ (fun hHeld => ?_)
            clear hK KK
            try simp only [Act.put, List.setIfInBounds_toArray, List.set_cons_zero, List.set_cons_succ]
            refine wpAnyH_ready (rs := [42]) (by kernel_rfl) (by simp) ?_
            refine AllReadyH.cons (by simp only [List.getElem?_toArray, List.getElem?_cons_succ, List.getElem?_cons_zero]; rfl) (fun KK hK => ?_) AllReadyH.nil
            go_simp
            refine (HOF2.out _ hbE).mono ?_
            rintro e wF ⟨rfl, hhF⟩
            have hbF := hbE.trans (hhF.mono hbE.size)
            obtain ⟨mF0, mF1, mF2⟩ := HC.out wF hbF
            clear hhF
            go_wp2_with fail
            refine hK.out _ _ ⟨mF0, mF1, mF2⟩ (fun hHeld => ?_)
            clear hK KK
            try simp only [Act.put, List.setIfInBounds_toArray, List.set_cons_zero, List.set_cons_succ]
            refine takeH (i := 43) (some 139) (.bool false) rfl rfl (by kernel_rfl) (by kernel_rfl) (by kernel_rfl) (fun _ _ _ h => h) (Or.inl ⟨by rfl, ?_⟩) (by assumption) ?_
            · (intro w hSw; (try dsimp only at hSw); go_simp)
            simp only [Act.put, List.setIfInBounds_toArray, List.set_cons_zero, List.set_cons_succ]
            refine takeH (i := 44) (some 140) (.bool false) rfl rfl (by kernel_rfl) (by kernel_rfl) (by kernel_rfl) (fun _ _ _ h => h) (Or.inl ⟨by rfl, ?_⟩) (by assumption) ?_
            · (intro w hSw; (try dsimp only at hSw); go_simp)
            simp only [Act.put, List.setIfInBounds_toArray, List.set_cons_zero, List.set_cons_succ]
            refine takeH (i := 45) (some 141) (.bool false) rfl rfl (by kernel_rfl) (by kernel_rfl) (by kernel_rfl) (fun _ _ _ h => h) (Or.inl ⟨by rfl, ?_⟩) (by assumption) ?_
            · (intro w hSw; (try dsimp only at hSw); go_simp)
            simp only [Act.put, List.setIfInBounds_toArray, List.set_cons_zero, List.set_cons_succ]
            refine wpAnyH_done (by kernel_rfl) ?_ _
            have H9 := hid (H8.out.below hbF)
            clear HLI HSA HLE1 HOF1 HC HLE2 HOF2
            go_wp2_with fail
            exact ⟨⟨i + 1, l2, v2, _, vT2, by omega, by go_num, by omega, H9⟩, by simp [intOf]; omega⟩
    · obtain rfl : i = nl := by omega
      go_wp2_with fail
      refine (period_any H4.out.gq.qu).mono ?_
      rintro e w6 ⟨rfl, rfl⟩
      have hpp : (p == p) = true := beq_self_eq_true _
      go_wp2_with fail
      go_ret
      exact ⟨rfl, Below.of_below HB1.out HB1.out.size H4.out.gq.bel⟩
end Go.Proofs.Ytgoennbbpndiiaa.graceActs
