/- For every list of acts and every order: a block is there just if some free block is of its order, or a greater one, and one that is taken and given back at once leaves all as it was: BuddyFits returns true. Condition: math/bits' own tables start as the program's text lays them (the card ties that). -/
import Derived.Test.YtcacgickbmfjnaaDoorCards
import Derived.Test.YtcacgickbmfjnaaDoorTie
import Derived.Test.YtcacgickbmfjnaaDoorSm
namespace Go.Proofs.YtcacgickbmfjnaaDoor.buddyFits
open Go.ChangeShapes Go.WideShapes Go.ChangeAt Go.RowKit Go.Proofs.YtcacgickbmfjnaaDoor

theorem core_long (a : Option Addr) (len cap : Nat) (x : Int) (w : World) (hT : Tab w) (hl : (100 : Int) < len) :
    Calls Tryd.prog 6 #[.slice a len cap, .int .i64 x] w fun e w' => e = .returned (.bool true) ∧ Below w.heap.size w w' := by
  have HT := hid hT
  clear hT
  go_enter Tryd.func6, Tryd.ntmps6
  go_wp2_with fail
  refine (alive_true _ HT.out).mono ?_
  rintro e w1 ⟨rfl, hb1⟩
  go_wp2_with fail
  go_ret
  exact ⟨rfl, hb1⟩

/-- A block more is used: so many pages less are free. -/
theorem pages_less {K : Nat} {B B' : St} (h : Inv K B) (hn : NoHeld B) (h' : Inv K B') (hn' : NoHeld B') {o n : Nat} (hp : Plus B B' o n) (hu : B o n ≠ .used) : pages K (isK B' .free) (K + 1) + 2 ^ o = pages K (isK B .free) (K + 1) := by
  have e1 := pages_all h hn
  have e2 := pages_all h' hn'
  obtain ⟨ho, hlt⟩ := h'.inn o n (by rw [(hp o n).2 (.inr ⟨rfl, rfl⟩)]; simp)
  have e3 := pages_more (K := K) (f := isK B .used) (g := isK B' .used) (o := o) (n := n) (decide_eq_false hu) (fun k i => by
    unfold isK
    rw [Bool.eq_iff_iff]
    simp [hp k i]) hlt (N := K + 1) (by omega)
  omega
theorem pages_same {K : Nat} {B B' : St} (hf : ∀ k i, B k i = .free ↔ B' k i = .free) : pages K (isK B .free) (K + 1) = pages K (isK B' .free) (K + 1) :=
  pages_congr fun k i _ => by
    unfold isK
    rw [Bool.eq_iff_iff]
    simp [hf k i]
theorem back {B B1 B2 : St} {o n : Nat} (hp : Plus B B1 o n) (hu : B o n ≠ .used) (hl : Less B1 B2 o n) : SameUsed B B2 := fun k i => by
  rw [hl k i, hp k i]
  constructor
  · intro hb
    refine ⟨.inl hb, ?_⟩
    rintro ⟨rfl, rfl⟩
    exact hu hb
  · rintro ⟨hb | hb, hne⟩
    · exact hb
    · exact absurd hb hne

set_option maxRecDepth 100000 in
set_option maxHeartbeats 4000000 in
theorem core (a : Option Addr) (len cap : Nat) (ord : Int) (w : World) (hT : Tab w) (hA : Acts w a len) (hl : (len : Int) ≤ 100) (word : (Lit.int .i64 ord).wf = true) :
    Calls Tryd.prog 6 #[.slice a len cap, .int .i64 ord] w fun e w' => e = .returned (.bool true) ∧ Below w.heap.size w w' := by
  have HT := hid hT
  have HA := hid hA
  have hpos := hT.pos
  clear hT hA
  go_enter Tryd.func6, Tryd.ntmps6
  go_wp2_with fail
  refine (alive_true _ HT.out).mono ?_
  rintro e w1 ⟨rfl, hb1⟩
  go_wp2_with fail
  refine (newG w1 (HT.out.below hb1 hpos)).mono ?_
  rintro e w2 ⟨p, m, bf, gf, rfl, hG2, hown, hb2⟩
  have hX2 := Below.of_below hb1 hb1.size hb2
  have HG2 := hid hG2
  have HOWN : Hid (∀ x, Own m 7 gf x → w.heap.size ≤ x) := fun x hx => Nat.le_trans hb1.size (hown x hx)
  clear hG2 hown hb1 hb2
  go_wp2_with fail
  go_loopw [6] (fun t wr => ∃ j : Nat, j ≤ len ∧ t = .int .i64 (j : Int) ∧ (∃ B, Hid (Good wr p m 7 bf gf B j)) ∧ Below w.heap.size w wr) (fun t _ => len - (intOf t).toNat)
  case atStart => exact ⟨0, Nat.zero_le _, rfl, ⟨_, HG2⟩, hX2⟩
  case round =>
    obtain ⟨j, hj, rfl, ⟨B, hG⟩, hX⟩ := hrel
    clear HG2 hX2
    by_cases hlj : j < len
    · go_wp2_with fail
      refine (got_used wr p m 7 bf gf B j hG.out (by omega)).mono ?_
      rintro e w3 ⟨aU, cU, U, rfl, hU, hUl, hRU, hb3⟩
      have hX3 := Below.of_below hX hX.size hb3
      have HG3 := hid (hG.out.below hb3)
      have hbase := hid hG.out.lown
      obtain ⟨s, o, kd, n, rfl, hs, c0, c1, wk, wn⟩ := HA.out.at hX3 (Nat.le_refl _) hlj
      have HU := hid (And.intro hU hRU)
      clear hU hRU hb3 hX hG
      have hj1 : (j : Int) < (len : Int) := by omega
      by_cases hk0 : kd = 0
      · subst hk0
        go_wp2_with fail
        refine (took_any w3 p m 7 bf gf B j n HG3.out (HT.out.below hX3 hpos) (by omega)).mono ?_
        rintro e w4 ⟨at4, er4, B4, rfl, ht4, hG4, _⟩
        have hX4 := Below.of_turn hX3 hX3.size ht4 HOWN.out
        have HG4 := hid hG4
        clear hG4 ht4 HG3 hX3 HU c0 c1
        go_wp2_with fail
        exact ⟨⟨j + 1, by omega, by go_num, ⟨_, HG4⟩, hX4⟩, by simp [intOf]; omega⟩
      · have hk1 : (kd == 0) = false := by simpa using hk0
        by_cases hcond : 0 ≤ n ∧ 0 < U.length
        · obtain ⟨nn, rfl⟩ := Int.eq_ofNat_of_zero_le hcond.1
          have hul : 0 < U.length := hcond.2
          obtain ⟨t, ht⟩ : ∃ t, t = nn % U.length := ⟨_, rfl⟩
          have htl : t < U.length := by rw [ht]; exact Nat.mod_lt _ hul
          obtain ⟨⟨pp, kk⟩, hx⟩ : ∃ x, U[t]? = some x := ⟨_, List.getElem?_eq_getElem htl⟩
          obtain ⟨ii, hbu, hadr⟩ := HU.out.1.blk hx
          obtain ⟨g, rfl, d0, d1⟩ := HU.out.2.at hx
          have hmod : (nn : Int) % (U.length : Int) = (t : Int) := by rw [ht]; exact (Int.natCast_emod nn U.length).symm
          have hmod' : (nn : Int).tmod (U.length : Int) = (t : Int) := by rw [Int.tmod_eq_emod_of_nonneg (by omega)]; exact hmod
          have hu0 : ((U.length : Int) == 0) = false := by rw [beq_eq_false_iff_ne]; omega
          have hu1 : (0 : Int) < (U.length : Int) := by omega
          have ht1 : (t : Int) < (U.length : Int) := by omega
          have hnb := (bounds_i64 wn).2
          have HBU := hid (And.intro hbu hadr)
          clear hbu hadr hx ht hcond
          go_wp2_with fail
          refine (gave_any w3 p m 7 bf gf B j kk ii _ HG3.out HBU.out.1 HBU.out.2).mono ?_
          rintro e w4 ⟨B4, rfl, ht4, hG4, _⟩
          have hX4 := Below.of_turn hX3 hX3.size ht4 HOWN.out
          have HG4 : Hid (Good w4 p m 7 bf gf B4 (j + 1)) := hG4.more (by omega)
          clear hG4 ht4 HG3 hX3 HU c0 c1 d0 d1
          go_wp2_with fail
          exact ⟨⟨j + 1, by omega, by go_num, ⟨_, HG4⟩, hX4⟩, by simp [intOf]; omega⟩
        · have HG4 : Hid (Good w3 p m 7 bf gf B (j + 1)) := HG3.out.more (by omega)
          clear HG3 HU
          by_cases hn0 : 0 ≤ n
          · have hul : ¬ ((0 : Int) < (U.length : Int)) := by omega
            clear hcond
            go_wp2_with fail
            exact ⟨⟨j + 1, by omega, by go_num, ⟨_, HG4⟩, hX3⟩, by simp [intOf]; omega⟩
          · have hn1 : ¬ ((0 : Int) ≤ n) := hn0
            clear hcond
            go_wp2_with fail
            exact ⟨⟨j + 1, by omega, by go_num, ⟨_, HG4⟩, hX3⟩, by simp [intOf]; omega⟩
    · go_wp2_with fail
      refine (got_free wr p m 7 bf gf B j hG.out (HT.out.below hX hpos)).mono ?_
      rintro e w3 ⟨aF, cF, F, rfl, hF, hFl, hRF, hb3⟩
      have hX3 := Below.of_below hX hX.size hb3
      have HG3 := hid (hG.out.below hb3)
      have hbase := hid hG.out.lown
      obtain ⟨b0, hb0⟩ : ∃ b0, b0 = wr.heap.size := ⟨_, rfl⟩
      rw [← hb0] at hRF hbase
      have HF := hid (And.intro hF hRF)
      clear hF hRF hb3 hX hG hb0
      go_wp2_with fail
      refine (got_used w3 p m 7 bf gf B j HG3.out (by omega)).mono ?_
      rintro e w4 ⟨aU, cU, U, rfl, hU, hUl, hRU, hb4⟩
      have hX4 := Below.of_below hX3 hX3.size hb4
      have HG4 := hid (HG3.out.below hb4)
      have hbase4 := hid HG3.out.lown
      obtain ⟨b4, hb40⟩ : ∃ b4, b4 = w3.heap.size := ⟨_, rfl⟩
      rw [← hb40] at hRU hbase4
      have HFU := hid (And.intro HF.out.1 (And.intro (HF.out.2.below hb4) (And.intro hU hRU)))
      clear hU hRU hb4 hX3 HG3 hb40 HF
      go_wp2_with fail
      refine (left_any w4 p m 7 bf gf B j HG4.out.2.2 HG4.out.1).mono ?_
      rintro e w5 ⟨rfl, rfl⟩
      obtain ⟨pg, hpg⟩ : ∃ pg, pg = pages 7 (isK B .free) (7 + 1) := ⟨_, rfl⟩
      have hpgb : pg ≤ 128 := by rw [hpg]; exact pages_le HG4.out.1 HG4.out.2.1
      rw [← hpg]
      have HPG := hid hpg
      clear hpg
      go_wp2_with fail
      refine (greatest_any w5 p m 7 bf gf B j HG4.out.2.2 HG4.out.1 (HT.out.below hX4 hpos)).mono ?_
      rintro e w6 ⟨top, rfl, htop, rfl⟩
      have HTOP := hid htop
      clear htop
      go_wp2_with fail
      refine (took_any w6 p m 7 bf gf B j ord HG4.out (HT.out.below hX4 hpos) (by omega)).mono ?_
      rintro e w7 ⟨at7, er7, B7, rfl, ht7, hG7, hcase⟩
      have hX7 := Below.of_turn hX4 hX4.size ht7 HOWN.out
      have HG7 := hid hG7
      have HR7 : Hid (Rd w7 b0 aF F ∧ Rd w7 b4 aU U) := ⟨HFU.out.2.1.turn ht7 hbase.out, HFU.out.2.2.2.turn ht7 hbase4.out⟩
      clear hG7 ht7 hX4
      rcases hcase with ⟨rfl, rfl, ⟨rfl, hbad⟩ | ⟨rfl, o, rfl, ho, hno⟩⟩ | ⟨rfl, o, k, i, n, rfl, ho, hl', rfl, hadr, hnu, hplus⟩
      · rcases hbad with hbad | hbad
        · go_wp2_with fail
          go_ret
          exact ⟨rfl, hX7⟩
        · have hb7 : (7 : Int) < ord := by omega
          have hb8 : ¬ (ord < 0) := by omega
          go_wp2_with fail
          go_ret
          exact ⟨rfl, hX7⟩
      · have htop' : ¬ ((o : Int) ≤ top) := by
          rcases HTOP.out with ⟨rfl, _⟩ | ⟨k, i, rfl, hb, _⟩
          · omega
          · intro hle
            exact hno k i (by omega) hb
        have ho7 : (o : Int) ≤ 7 := by omega
        clear hno
        go_wp2_with fail
        refine (got_free w7 p m 7 bf gf B7 (j + 1) HG7.out (HT.out.below hX7 hpos)).mono ?_
        rintro e w10 ⟨aF2, cF2, F2, rfl, hF2, hF2l, hRF2, hb10⟩
        have hX10 := Below.of_below hX7 hX7.size hb10
        have HG10 := hid (HG7.out.below hb10)
        obtain rfl : F = F2 := HFU.out.1.ext hF2 (fun _ _ => Iff.rfl)
        have HR10 := hid (And.intro (HR7.out.1.below hb10) (And.intro (HR7.out.2.below hb10) hRF2))
        clear hF2 hRF2 hb10 HG7 hX7 HR7
        go_wp2_with fail
        refine (same_true w10 F aF2 aF _ _ cF2 cF HR10.out.2.2 HR10.out.1 hFl).mono ?_
        rintro e w11 ⟨rfl, hb11⟩
        have hX11 := Below.of_below hX10 hX10.size hb11
        have HG11 := hid (HG10.out.below hb11)
        have HR11 := hid (HR10.out.2.1.below hb11)
        clear hb11 HG10 hX10 HR10
        go_wp2_with fail
        refine (got_used w11 p m 7 bf gf B7 (j + 1) HG11.out (by omega)).mono ?_
        rintro e w12 ⟨aU2, cU2, U2, rfl, hU2, hU2l, hRU2, hb12⟩
        have hX12 := Below.of_below hX11 hX11.size hb12
        have HG12 := hid (HG11.out.below hb12)
        obtain rfl : U = U2 := HFU.out.2.2.1.ext hU2 (fun _ _ => Iff.rfl)
        have HR12 := hid (And.intro (HR11.out.below hb12) hRU2)
        clear hU2 hRU2 hb12 HG11 hX11 HR11
        go_wp2_with fail
        refine (same_true w12 U aU2 aU _ _ cU2 cU HR12.out.2 HR12.out.1 hUl).mono ?_
        rintro e w13 ⟨rfl, hb13⟩
        have hX13 := Below.of_below hX12 hX12.size hb13
        have HG13 := hid (HG12.out.below hb13)
        clear hb13 HG12 hX12 HR12
        go_wp2_with fail
        refine (left_any w13 p m 7 bf gf B7 (j + 1) HG13.out.2.2 HG13.out.1).mono ?_
        rintro e w14 ⟨rfl, rfl⟩
        rw [← HPG.out]
        go_wp2_with fail
        go_ret
        exact ⟨rfl, hX13⟩
      · have htop' : (o : Int) ≤ top := by
          rcases HTOP.out with ⟨_, h⟩ | ⟨k', i', rfl, _, h⟩
          · exact absurd hl'.2.1 (h k i)
          · have := h k i hl'.2.1
            have := hl'.1
            omega
        have ho7 : (o : Int) ≤ 7 := by omega
        have hpl := pages_less HG4.out.1 HG4.out.2.1 HG7.out.1 HG7.out.2.1 hplus hnu
        have hou : B7 o n = .used := (hplus o n).2 (.inr ⟨rfl, rfl⟩)
        obtain ⟨pg7, hpg7⟩ : ∃ pg7, pg7 = pages 7 (isK B7 .free) (7 + 1) := ⟨_, rfl⟩
        obtain ⟨q, hq⟩ : ∃ q, q = 2 ^ o := ⟨_, rfl⟩
        have hsk := shl_eq o q hq
        rw [← hpg7, ← HPG.out, ← hq] at hpl
        have HPG7 := hid hpg7
        have HPL := hid (And.intro hplus (And.intro hnu hou))
        rw [← hadr]
        have HAD := hid hadr
        have ho64 : o < 64 := by omega
        clear hplus hnu hpg7 hq hl' hou hadr
        go_wp2_with fail
        refine (left_any w7 p m 7 bf gf B7 (j + 1) HG7.out.2.2 HG7.out.1).mono ?_
        rintro e w8 ⟨rfl, rfl⟩
        rw [← HPG7.out]
        have hsub : (pg : Int) * 1024 - 1024 * (q : Int) = (pg7 : Int) * 1024 := by omega
        go_wp2_with fail
        refine (gave_any w8 p m 7 bf gf B7 (j + 1) o n _ HG7.out HPL.out.2.2 rfl).mono ?_
        rintro e w9 ⟨B9, rfl, ht9, hG9, hls⟩
        have hX9 := Below.of_turn hX7 hX7.size ht9 HOWN.out
        have HG9 := hid hG9
        have HR9 : Hid (Rd w9 b0 aF F ∧ Rd w9 b4 aU U) := ⟨HR7.out.1.turn ht9 hbase.out, HR7.out.2.turn ht9 hbase4.out⟩
        have hsu := back HPL.out.1 HPL.out.2.1 hls
        have hfi := free_iff HG4.out.1 HG4.out.2.1 HG9.out.1 HG9.out.2.1 hsu
        have HSU := hid (And.intro hsu hfi)
        clear hG9 ht9 hls hsu hfi HG7 HR7 hX7
        go_wp2_with fail
        refine (got_free w9 p m 7 bf gf B9 (j + 1) HG9.out (HT.out.below hX9 hpos)).mono ?_
        rintro e w10 ⟨aF2, cF2, F2, rfl, hF2, hF2l, hRF2, hb10⟩
        have hX10 := Below.of_below hX9 hX9.size hb10
        have HG10 := hid (HG9.out.below hb10)
        obtain rfl : F = F2 := HFU.out.1.ext hF2 HSU.out.2
        have HR10 := hid (And.intro (HR9.out.1.below hb10) (And.intro (HR9.out.2.below hb10) hRF2))
        clear hF2 hRF2 hb10 HG9 hX9 HR9
        go_wp2_with fail
        refine (same_true w10 F aF2 aF _ _ cF2 cF HR10.out.2.2 HR10.out.1 hFl).mono ?_
        rintro e w11 ⟨rfl, hb11⟩
        have hX11 := Below.of_below hX10 hX10.size hb11
        have HG11 := hid (HG10.out.below hb11)
        have HR11 := hid (HR10.out.2.1.below hb11)
        clear hb11 HG10 hX10 HR10
        go_wp2_with fail
        refine (got_used w11 p m 7 bf gf B9 (j + 1) HG11.out (by omega)).mono ?_
        rintro e w12 ⟨aU2, cU2, U2, rfl, hU2, hU2l, hRU2, hb12⟩
        have hX12 := Below.of_below hX11 hX11.size hb12
        have HG12 := hid (HG11.out.below hb12)
        obtain rfl : U = U2 := HFU.out.2.2.1.ext hU2 HSU.out.1
        have HR12 := hid (And.intro (HR11.out.below hb12) hRU2)
        clear hU2 hRU2 hb12 HG11 hX11 HR11
        go_wp2_with fail
        refine (same_true w12 U aU2 aU _ _ cU2 cU HR12.out.2 HR12.out.1 hUl).mono ?_
        rintro e w13 ⟨rfl, hb13⟩
        have hX13 := Below.of_below hX12 hX12.size hb13
        have HG13 := hid (HG12.out.below hb13)
        clear hb13 HG12 hX12 HR12
        go_wp2_with fail
        refine (left_any w13 p m 7 bf gf B9 (j + 1) HG13.out.2.2 HG13.out.1).mono ?_
        rintro e w14 ⟨rfl, rfl⟩
        rw [← pages_same HSU.out.2, ← HPG.out]
        go_wp2_with fail
        go_ret
        exact ⟨rfl, hX13⟩

theorem walk (a0 : Option Addr) (len0 cap0 : Nat) (a1 : Int) (w : World) (hT : Tab w) (w0 : Acts w a0 len0) (w1 : (Lit.int .i64 a1).wf = true) :
    Calls Tryd.prog 6 #[.slice a0 len0 cap0, .int .i64 a1] w fun e w' => e = .returned (.bool true) ∧ Below w.heap.size w w' := by
  by_cases hl : (100 : Int) < len0
  · exact core_long a0 len0 cap0 a1 w hT hl
  exact core a0 len0 cap0 a1 w hT w0 (by omega) w1

/-- WHAT THE WALK GIVES, FOR EVERY ARGUMENT AND EVERY WORLD THAT HOLDS THE TABLES. -/
theorem contract (H : Type) (enc : TypeId × Value → H) (W : World) (base : Nat) (args : Array Value) (ds gs : List (DataW H)) (before : List MemPlace)
    (hval : ∀ (j : Nat) t v, Tryd.f6.params[j]? = some t → args[j]? = some v → Value.okWide Tryd.prog W .any base t v)
    (hW : DataW.Whole enc Tryd.prog Tryd.f6.params.toList Rows.buddyFitsSpec.vars false W args.toList ds gs before) (hL : laidMetH Tryd.prog Rows.buddyFitsRow.laid W) :
    Calls Tryd.prog 6 args W fun e W' => ∃ v, e = .returned v ∧ Rows.buddyFitsSpec.post enc Tryd.prog Tryd.f6 false true false false W args v W' := by
  have hW' := hW
  obtain ⟨p, q, hA0, hV, rfl, hfz, hnd⟩ := hW
  have hA : DataW.TrodAll enc Tryd.prog W 0 (fun _ => true) true Tryd.f6.params.toList args.toList ds p := hA0
  rw [Tryd.params6] at hA hval
  obtain ⟨v0, vs0, d0, ds0, p0, q0, hargs, rfl, rfl, h0, r0⟩ := trodAll_cons hA
  obtain ⟨v1, vs1, d1, ds1, p1, q1, rfl, rfl, rfl, h1, r1⟩ := trodAll_cons r0
  obtain ⟨rfl, rfl, rfl⟩ := trodAll_nil r1
  obtain rfl : args = #[v0, v1] := by cases args; simp_all
  obtain ⟨rfl, rfl⟩ := trodVars_none hV
  have k0 := h0
  have lt0 : ∀ x ∈ p0, x.block < W.heap.size := by obtain ⟨m, hm⟩ := k0; exact DataW.trod_lt m _ _ _ hm
  obtain ⟨a0, len0, cap0, rfl⟩ := okWide_slice Tryd.underlying22 (hval 0 22 v0 rfl rfl)
  obtain ⟨a1, rfl, rfl, rfl, w1⟩ := open_int Tryd.underlying3 (hval 1 3 v1 rfl rfl) h1
  have w0 : Acts W a0 len0 := by
    obtain ⟨fuel, hf⟩ := h0
    exact acts_of (cap := cap0) (by simpa [Value.cells] using hf)
  clear hA0
  refine (walk a0 len0 cap0 a1 W (tab_of hL) w0 w1).mono fun e W' ⟨he, bel⟩ => ?_
  subst he
  exact ⟨_, rfl, _, _, _, [], _, [], hW', trodAll_mk1 (shut_bool Tryd.underlying4 _), (trodAll_cons_mk (Below.trod laidOut (by kernel_rfl) (of_decide_eq_true (by kernel_rfl)) k0 bel lt0) (trodAll_cons_mk (shut_int Tryd.underlying3 w1) trodAll_mk0)), rfl, bel.frame _, fun h => by cases h⟩

theorem laid_met (os : Os) : laidMet Tryd.prog Rows.buddyFitsRow.laid (({ World.holding Tryd.prog os ⟨#[], #[], []⟩ with heap := ((World.holding Tryd.prog os ⟨#[], #[], []⟩).heap.modify 0 (lays tabInts32)).modify 1 (lays tabInts) } : World).forCall (fun _ _ => 0) ⟨#[], #[.slice none 0 0, .int .i64 0], []⟩).memory :=
  laidMet_of_run' 8 (by kernel_rfl) (by kernel_rfl)
theorem reads (os : Os) {H : Type} (enc : TypeId × Value → H) : ∃ places, DataW.whole enc Tryd.prog (({ World.holding Tryd.prog os ⟨#[], #[], []⟩ with heap := ((World.holding Tryd.prog os ⟨#[], #[], []⟩).heap.modify 0 (lays tabInts32)).modify 1 (lays tabInts) } : World).forCall (fun _ _ => 0) ⟨#[], #[.slice none 0 0, .int .i64 0], []⟩).memory Tryd.f6.params.toList Rows.buddyFitsSpec.vars false #[Value.slice none 0 0, .int .i64 0].toList 8 = some ([.nil, .lit (.int .i64 0)], [], places) :=
  ⟨[], by kernel_rfl⟩

set_option maxRecDepth 100000 in
theorem lifted (os : Os) (started : os.Started) (H : Type) (enc : TypeId × Value → H) (F : Stop.Interp) :
    ReturnsInHanded {} Tryd.checked os 6 .any ((OpenSpec.ofChange Rows.buddyFitsSpec).preRow enc Tryd.prog Tryd.f6 Rows.buddyFitsRow.domain false Rows.buddyFitsRow.laid) (((OpenSpec.ofChange Rows.buddyFitsSpec).at F).post enc Tryd.prog Tryd.f6 false true false false) := by
  obtain ⟨places, hx⟩ := reads os enc
  refine returnsInHanded_of_row (C := Tryd.checked) (s := OpenSpec.ofChange Rows.buddyFitsSpec) own started (by kernel_rfl) Tryd.func6
    (witness_row_at (enc := enc) (C := Tryd.checked) false ({ World.holding Tryd.prog os ⟨#[], #[], []⟩ with heap := ((World.holding Tryd.prog os ⟨#[], #[], []⟩).heap.modify 0 (lays tabInts32)).modify 1 (lays tabInts) } : World) #[.slice none 0 0, .int .i64 0] rfl (by kernel_rfl) (by kernel_rfl) (by kernel_rfl)
      (OpenSpec.preRow_of_cond 8 hx (by kernel_rfl) (fun k hk => by cases hk) (by kernel_rfl) (laid_met os))) ?_
  intro W base args ds gs before hval hW _ _ _ hL _ _
  exact contract H enc W base args ds gs before hval hW hL

theorem said : Rows.BuddyFitsSaid :=
  OpenClaim.holds_of_cond 6 Tryd.f6 rfl rfl rfl rfl rfl rfl rfl ⟨rfl, rfl, rfl, rfl, rfl⟩ rfl rfl rfl rfl rfl (by kernel_rfl) Tryd.func6 (by kernel_rfl)
    (of_decide_eq_true (by kernel_rfl)) (by unfold Func.isWrapper; first | (rw [if_pos (by decide +kernel)]; kernel_rfl) | (rw [if_neg (by decide +kernel)]; exact ⟨rfl, rfl⟩))
    (fun os started H enc _ F => by rw [OpenClaim.pre_eq_preRow]; exact lifted os started H enc F)

/-- No parameter wants a stand-in; the program's own looks are off. -/
theorem plain (f : FuncId) (fn : Func) (hf : Tryd.pinned.checked.prog.funcNamed "quartermaster/quartermasterlaw03.BuddyFits" = some f) (hfn : Tryd.pinned.checked.prog.funcs[f]? = some fn) :
    false = Tryd.pinned.checked.prog.looks [] ∧ ∀ (j : Nat) t, fn.params[j]? = some t → Tryd.pinned.checked.prog.wantsStandIn t = false := by
  obtain rfl : f = 6 := Option.some.inj ((show Tryd.prog.funcNamed "quartermaster/quartermasterlaw03.BuddyFits" = some 6 by kernel_rfl).symm.trans hf) |>.symm
  obtain rfl : fn = Tryd.f6 := (Option.some.inj (Tryd.func6.symm.trans hfn)).symm
  refine ⟨by kernel_rfl, fun j t ht => ?_⟩
  rw [Tryd.params6] at ht
  have hm : t = 22 ∨ t = 3 := by simpa using Array.mem_of_getElem? ht
  rcases hm with rfl | rfl
  · exact (show Tryd.prog.wantsStandIn 22 = false by kernel_rfl)
  · exact (show Tryd.prog.wantsStandIn 3 = false by kernel_rfl)

theorem card : Rows.BuddyFitsCardSaid :=
  Claim7.holds_tied_plain_at .later [] _ _ _ _ said (fun _ h => by cases h) (by kernel_rfl) (fun _ h => by cases h) buddyFits_row_tie rfl ⟨rfl, rfl⟩ (by kernel_rfl) rfl plain (by kernel_rfl)
end Go.Proofs.YtcacgickbmfjnaaDoor.buddyFits
