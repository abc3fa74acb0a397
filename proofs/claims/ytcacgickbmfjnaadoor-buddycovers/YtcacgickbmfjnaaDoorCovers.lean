/- For every list of acts and every number: free and used blocks together cover all, none of them twice, all along, and when all are given back, in whichever order, there is one free block: BuddyCovers returns true. Condition: math/bits' own tables start as the program's text lays them (the card ties that). -/
import Derived.Test.YtcacgickbmfjnaaDoorCards
import Derived.Test.YtcacgickbmfjnaaDoorTie
import Derived.Test.YtcacgickbmfjnaaDoorFr
namespace Go.Proofs.YtcacgickbmfjnaaDoor.buddyCovers
open Go.ChangeShapes Go.WideShapes Go.ChangeAt Go.RowKit Go.Proofs.YtcacgickbmfjnaaDoor

theorem core_long (a : Option Addr) (len cap : Nat) (x : Int) (w : World) (hT : Tab w) (hl : (100 : Int) < len) :
    Calls Tryd.prog 4 #[.slice a len cap, .int .u8 x] w fun e w' => e = .returned (.bool true) ∧ Below w.heap.size w w' := by
  have HT := hid hT
  clear hT
  go_enter Tryd.func4, Tryd.ntmps4
  go_wp2_with fail
  refine (alive_true _ HT.out).mono ?_
  rintro e w1 ⟨rfl, hb1⟩
  go_wp2_with fail
  go_ret
  exact ⟨rfl, hb1⟩

theorem turn_ne {s j f n : Nat} (h1 : s < j) (h2 : j < n) : (s + f) % n ≠ (j + f) % n := by
  intro h
  have h3 := Nat.sub_mod_eq_zero_of_mod_eq h.symm
  rw [show j + f - (s + f) = j - s from by omega, Nat.mod_eq_of_lt (by omega)] at h3
  omega
theorem turn_all {t n : Nat} (f : Nat) (ht : t < n) : ∃ s, s < n ∧ (s + f) % n = t := by
  refine ⟨(t + n - f % n) % n, Nat.mod_lt _ (by omega), ?_⟩
  have hr := Nat.mod_lt f (show 0 < n by omega)
  have hf := Nat.div_add_mod f n
  rw [Nat.mod_add_mod]
  have e : t + n - f % n + f = t + n * (f / n + 1) := by rw [Nat.mul_add, Nat.mul_one]; omega
  rw [e, Nat.add_mul_mod_self_left, Nat.mod_eq_of_lt ht]

/-- Of the used blocks of the list those are left that were not given back yet. -/
def LeftU (B : St) (U : List (Nat × Nat)) (f j : Nat) : Prop := ∀ k i, B k i = .used ↔ ∃ t, t < U.length ∧ U[t]? = some (i * 2 ^ k, k) ∧ ∀ s, s < j → (s + f) % U.length ≠ t
theorem LeftU.start {B : St} {U : List (Nat × Nat)} (h : Lst B .used U) (f : Nat) : LeftU B U f 0 := fun k i => by
  constructor
  · intro hb
    have hm := (h.mem (i * 2 ^ k) k).2 ⟨i, rfl, hb⟩
    obtain ⟨t, ht, he⟩ := List.getElem_of_mem hm
    exact ⟨t, ht, by rw [List.getElem?_eq_getElem ht, he], fun s hs => by omega⟩
  · rintro ⟨t, ht, he, _⟩
    obtain ⟨i', e, hb⟩ := (h.mem _ _).1 (List.mem_of_getElem? he)
    rwa [Nat.eq_of_mul_eq_mul_right (Nat.two_pow_pos _) e]
theorem rise_inj {U : List (Nat × Nat)} (h : Rise U) {s t : Nat} {x : Nat × Nat} (hs : U[s]? = some x) (ht : U[t]? = some x) : s = t := by
  obtain ⟨l1, e1⟩ := List.getElem?_eq_some_iff.1 hs
  obtain ⟨l2, e2⟩ := List.getElem?_eq_some_iff.1 ht
  have hp := List.pairwise_iff_getElem.1 h
  apply Decidable.byContradiction
  intro hne
  by_cases hlt : s < t
  · have := hp s t l1 l2 hlt
    rw [e1, e2] at this; omega
  · have := hp t s l2 l1 (by omega)
    rw [e1, e2] at this; omega
theorem LeftU.this {B : St} {U : List (Nat × Nat)} {f j k i : Nat} (h : LeftU B U f j) (hj : j < U.length) (he : U[(j + f) % U.length]? = some (i * 2 ^ k, k)) : B k i = .used :=
  (h k i).2 ⟨_, Nat.mod_lt _ (by omega), he, fun s hs => turn_ne hs hj⟩
theorem LeftU.step {B B' : St} {U : List (Nat × Nat)} {f j k0 i0 : Nat} (hr : Rise U) (h : LeftU B U f j) (he : U[(j + f) % U.length]? = some (i0 * 2 ^ k0, k0)) (hl : Less B B' k0 i0) : LeftU B' U f (j + 1) := fun k i => by
  rw [hl k i, h k i]
  constructor
  · rintro ⟨⟨t, ht, e, hs⟩, hne⟩
    refine ⟨t, ht, e, fun s hs' => ?_⟩
    by_cases es : s = j
    · subst es
      intro e2
      rw [e2, e] at he
      have h3 : i * 2 ^ k = i0 * 2 ^ k0 ∧ k = k0 := by simpa using he
      obtain ⟨h4, rfl⟩ := h3
      exact hne ⟨rfl, Nat.eq_of_mul_eq_mul_right (Nat.two_pow_pos _) h4⟩
    · exact hs s (by omega)
  · rintro ⟨t, ht, e, hs⟩
    refine ⟨⟨t, ht, e, fun s hs' => hs s (by omega)⟩, ?_⟩
    rintro ⟨rfl, rfl⟩
    exact hs j (by omega) (rise_inj hr he e)
theorem LeftU.none {B : St} {U : List (Nat × Nat)} {f : Nat} (h : LeftU B U f U.length) : ∀ k i, B k i ≠ .used := fun k i hb => by
  obtain ⟨t, ht, _, hs⟩ := (h k i).1 hb
  obtain ⟨s, h1, h2⟩ := turn_all f ht
  exact hs s h1 h2
theorem no_used {B : St} {V : List (Nat × Nat)} (hu : ∀ k i, B k i ≠ .used) (h : Lst B .used V) : V.length = 0 := by
  match V, h with
  | [], _ => rfl
  | (p, k) :: V, h =>
    obtain ⟨i, _, hb⟩ := (h.mem p k).1 (by simp)
    exact absurd hb (hu k i)

set_option maxRecDepth 100000 in
set_option maxHeartbeats 4000000 in
theorem core (a : Option Addr) (len cap from_ : Nat) (w : World) (hT : Tab w) (hA : Acts w a len) (hl : (len : Int) ≤ 100) (hfrom : from_ < 256) :
    Calls Tryd.prog 4 #[.slice a len cap, .int .u8 (from_ : Int)] w fun e w' => e = .returned (.bool true) ∧ Below w.heap.size w w' := by
  have HT := hid hT
  have HA := hid hA
  have hpos := hT.pos
  clear hT hA
  go_enter Tryd.func4, Tryd.ntmps4
  go_wp2_with fail
  refine (alive_true _ HT.out).mono ?_
  rintro e w1 ⟨rfl, hb1⟩
  go_wp2_with fail
  refine (newG w1 (HT.out.below hb1 hpos)).mono ?_
  rintro e w2 ⟨p, m, bf, gf, rfl, hG2, hown, hb2⟩
  have hX2 := Below.of_below hb1 hb1.size hb2
  have HG2 := hid hG2
  have HOWN : Hid (∀ x, Own m 7 gf x → w.heap.size ≤ x) := fun x hx => Nat.le_trans hb1.size (hown x hx)
  clear hG2 hown hb1 hb2
  go_wp2_with fail
  go_loopw [6] (fun t wr => ∃ j : Nat, j ≤ len ∧ t = .int .i64 (j : Int) ∧ (∃ B, Hid (Good wr p m 7 bf gf B j)) ∧ Below w.heap.size w wr) (fun t _ => len - (intOf t).toNat)
  case atStart => exact ⟨0, Nat.zero_le _, rfl, ⟨_, HG2⟩, hX2⟩
  case round =>
    obtain ⟨j, hj, rfl, ⟨B, hG⟩, hX⟩ := hrel
    clear HG2 hX2
    by_cases hlj : j < len
    · go_wp2_with fail
      refine (got_used wr p m 7 bf gf B j hG.out (by omega)).mono ?_
      rintro e w3 ⟨aU, cU, U, rfl, hU, hUl, hRU, hb3⟩
      have hX3 := Below.of_below hX hX.size hb3
      have HG3 := hid (hG.out.below hb3)
      have hbase := hid hG.out.lown
      obtain ⟨s, o, kd, n, rfl, hs, c0, c1, wk, wn⟩ := HA.out.at hX3 (Nat.le_refl _) hlj
      have HU := hid (And.intro hU hRU)
      clear hU hRU hb3 hX hG
      have hj1 : (j : Int) < (len : Int) := by omega
      by_cases hk0 : kd = 0
      · subst hk0
        go_wp2_with fail
        refine (took_any w3 p m 7 bf gf B j n HG3.out (HT.out.below hX3 hpos) (by omega)).mono ?_
        rintro e w4 ⟨at4, er4, B4, rfl, ht4, hG4, _⟩
        have hX4 := Below.of_turn hX3 hX3.size ht4 HOWN.out
        have HG4 := hid hG4
        clear hG4 ht4 HG3 hX3 HU c0 c1
        go_wp2_with fail
        refine (got_free w4 p m 7 bf gf B4 (j + 1) HG4.out (HT.out.below hX4 hpos)).mono ?_
        rintro e w5 ⟨aF, cF, F, rfl, hF, hFl, hRF, hb5⟩
        have hX5 := Below.of_below hX4 hX4.size hb5
        have HG5 := hid (HG4.out.below hb5)
        have HF := hid (And.intro hF hRF)
        clear hF hRF hb5 HG4 hX4
        go_wp2_with fail
        refine (got_used w5 p m 7 bf gf B4 (j + 1) HG5.out (by omega)).mono ?_
        rintro e w6 ⟨aV, cV, V, rfl, hV, hVl, hRV, hb6⟩
        have hX6 := Below.of_below hX5 hX5.size hb6
        have HG6 := hid (HG5.out.below hb6)
        have HFV := hid (And.intro HF.out.1 (And.intro (HF.out.2.below hb6) (And.intro hV hRV)))
        clear hV hRV hb6 HG5 hX5 HF
        go_wp2_with fail
        refine (cover_true w6 7 _ _ B4 F V aF aV cF cV HG6.out.1 HG6.out.2.1 (by omega) HFV.out.1 HFV.out.2.2.1 HFV.out.2.1 HFV.out.2.2.2 hFl hVl).mono ?_
        rintro e w7 ⟨rfl, rfl⟩
        clear HFV
        go_wp2_with fail
        exact ⟨⟨j + 1, by omega, by go_num, ⟨_, HG6⟩, hX6⟩, by simp [intOf]; omega⟩
      · have hk1 : (kd == 0) = false := by simpa using hk0
        by_cases hcond : 0 ≤ n ∧ 0 < U.length
        · obtain ⟨nn, rfl⟩ := Int.eq_ofNat_of_zero_le hcond.1
          have hul : 0 < U.length := hcond.2
          obtain ⟨t, ht⟩ : ∃ t, t = nn % U.length := ⟨_, rfl⟩
          have htl : t < U.length := by rw [ht]; exact Nat.mod_lt _ hul
          obtain ⟨⟨pp, kk⟩, hx⟩ : ∃ x, U[t]? = some x := ⟨_, List.getElem?_eq_getElem htl⟩
          obtain ⟨ii, hbu, hadr⟩ := HU.out.1.blk hx
          obtain ⟨g, rfl, d0, d1⟩ := HU.out.2.at hx
          have hmod : (nn : Int) % (U.length : Int) = (t : Int) := by rw [ht]; exact (Int.natCast_emod nn U.length).symm
          have hmod' : (nn : Int).tmod (U.length : Int) = (t : Int) := by rw [Int.tmod_eq_emod_of_nonneg (by omega)]; exact hmod
          have hu0 : ((U.length : Int) == 0) = false := by rw [beq_eq_false_iff_ne]; omega
          have hu1 : (0 : Int) < (U.length : Int) := by omega
          have ht1 : (t : Int) < (U.length : Int) := by omega
          have hnb := (bounds_i64 wn).2
          have HBU := hid (And.intro hbu hadr)
          clear hbu hadr hx ht hcond
          go_wp2_with fail
          refine (gave_any w3 p m 7 bf gf B j kk ii _ HG3.out HBU.out.1 HBU.out.2).mono ?_
          rintro e w4 ⟨B4, rfl, ht4, hG4, _⟩
          have hX4 := Below.of_turn hX3 hX3.size ht4 HOWN.out
          have HG4 : Hid (Good w4 p m 7 bf gf B4 (j + 1)) := hG4.more (by omega)
          clear hG4 ht4 HG3 hX3 HU c0 c1 d0 d1
          go_wp2_with fail
          refine (got_free w4 p m 7 bf gf B4 (j + 1) HG4.out (HT.out.below hX4 hpos)).mono ?_
          rintro e w5 ⟨aF, cF, F, rfl, hF, hFl, hRF, hb5⟩
          have hX5 := Below.of_below hX4 hX4.size hb5
          have HG5 := hid (HG4.out.below hb5)
          have HF := hid (And.intro hF hRF)
          clear hF hRF hb5 HG4 hX4
          go_wp2_with fail
          refine (got_used w5 p m 7 bf gf B4 (j + 1) HG5.out (by omega)).mono ?_
          rintro e w6 ⟨aV, cV, V, rfl, hV, hVl, hRV, hb6⟩
          have hX6 := Below.of_below hX5 hX5.size hb6
          have HG6 := hid (HG5.out.below hb6)
          have HFV := hid (And.intro HF.out.1 (And.intro (HF.out.2.below hb6) (And.intro hV hRV)))
          clear hV hRV hb6 HG5 hX5 HF
          go_wp2_with fail
          refine (cover_true w6 7 _ _ B4 F V aF aV cF cV HG6.out.1 HG6.out.2.1 (by omega) HFV.out.1 HFV.out.2.2.1 HFV.out.2.1 HFV.out.2.2.2 hFl hVl).mono ?_
          rintro e w7 ⟨rfl, rfl⟩
          clear HFV
          go_wp2_with fail
          exact ⟨⟨j + 1, by omega, by go_num, ⟨_, HG6⟩, hX6⟩, by simp [intOf]; omega⟩
        · have HG4 : Hid (Good w3 p m 7 bf gf B (j + 1)) := HG3.out.more (by omega)
          have hX4 := hX3
          have hw4 : w3 = w3 := rfl
          clear hw4 HG3 hX3 HU
          by_cases hn0 : 0 ≤ n
          · have hul : ¬ ((0 : Int) < (U.length : Int)) := by omega
            clear hcond
            go_wp2_with fail
            refine (got_free w3 p m 7 bf gf B (j + 1) HG4.out (HT.out.below hX4 hpos)).mono ?_
            rintro e w5 ⟨aF, cF, F, rfl, hF, hFl, hRF, hb5⟩
            have hX5 := Below.of_below hX4 hX4.size hb5
            have HG5 := hid (HG4.out.below hb5)
            have HF := hid (And.intro hF hRF)
            clear hF hRF hb5 HG4 hX4
            go_wp2_with fail
            refine (got_used w5 p m 7 bf gf B (j + 1) HG5.out (by omega)).mono ?_
            rintro e w6 ⟨aV, cV, V, rfl, hV, hVl, hRV, hb6⟩
            have hX6 := Below.of_below hX5 hX5.size hb6
            have HG6 := hid (HG5.out.below hb6)
            have HFV := hid (And.intro HF.out.1 (And.intro (HF.out.2.below hb6) (And.intro hV hRV)))
            clear hV hRV hb6 HG5 hX5 HF
            go_wp2_with fail
            refine (cover_true w6 7 _ _ B F V aF aV cF cV HG6.out.1 HG6.out.2.1 (by omega) HFV.out.1 HFV.out.2.2.1 HFV.out.2.1 HFV.out.2.2.2 hFl hVl).mono ?_
            rintro e w7 ⟨rfl, rfl⟩
            clear HFV
            go_wp2_with fail
            exact ⟨⟨j + 1, by omega, by go_num, ⟨_, HG6⟩, hX6⟩, by simp [intOf]; omega⟩
          · have hn1 : ¬ ((0 : Int) ≤ n) := hn0
            clear hcond
            go_wp2_with fail
            refine (got_free w3 p m 7 bf gf B (j + 1) HG4.out (HT.out.below hX4 hpos)).mono ?_
            rintro e w5 ⟨aF, cF, F, rfl, hF, hFl, hRF, hb5⟩
            have hX5 := Below.of_below hX4 hX4.size hb5
            have HG5 := hid (HG4.out.below hb5)
            have HF := hid (And.intro hF hRF)
            clear hF hRF hb5 HG4 hX4
            go_wp2_with fail
            refine (got_used w5 p m 7 bf gf B (j + 1) HG5.out (by omega)).mono ?_
            rintro e w6 ⟨aV, cV, V, rfl, hV, hVl, hRV, hb6⟩
            have hX6 := Below.of_below hX5 hX5.size hb6
            have HG6 := hid (HG5.out.below hb6)
            have HFV := hid (And.intro HF.out.1 (And.intro (HF.out.2.below hb6) (And.intro hV hRV)))
            clear hV hRV hb6 HG5 hX5 HF
            go_wp2_with fail
            refine (cover_true w6 7 _ _ B F V aF aV cF cV HG6.out.1 HG6.out.2.1 (by omega) HFV.out.1 HFV.out.2.2.1 HFV.out.2.1 HFV.out.2.2.2 hFl hVl).mono ?_
            rintro e w7 ⟨rfl, rfl⟩
            clear HFV
            go_wp2_with fail
            exact ⟨⟨j + 1, by omega, by go_num, ⟨_, HG6⟩, hX6⟩, by simp [intOf]; omega⟩
    · go_wp2_with fail
      refine (got_used wr p m 7 bf gf B j hG.out (by omega)).mono ?_
      rintro e w3 ⟨aU, cU, U, rfl, hU, hUl, hRU, hb3⟩
      have hX3 := Below.of_below hX hX.size hb3
      have HG3 := hid (hG.out.below hb3)
      have hbase := hid hG.out.lown
      obtain ⟨b0, hb0⟩ : ∃ b0, b0 = wr.heap.size := ⟨_, rfl⟩
      rw [← hb0] at hRU hbase
      have HU := hid (And.intro hU.rise hRU)
      have HL := hid (LeftU.start hU from_)
      have HMEM : Hid (∀ p k, (p, k) ∈ U → ∃ i, p = i * 2 ^ k) := fun p k hm => by
        obtain ⟨i, e, _⟩ := (hU.mem p k).1 hm
        exact ⟨i, e⟩
      clear hU hRU hb3 hX hG hb0
      go_wp2_with fail
      go_loopw [9] (fun t wq => ∃ i : Nat, i ≤ U.length ∧ t = .int .i64 (i : Int) ∧ (∃ B, Hid (Good wq p m 7 bf gf B j ∧ LeftU B U from_ i)) ∧ Hid (Rd wq b0 aU U) ∧ Below w.heap.size w wq) (fun t _ => U.length - (intOf t).toNat)
      case atStart => exact ⟨0, Nat.zero_le _, rfl, ⟨B, HG3.out, HL.out⟩, HU.out.2, hX3⟩
      case round =>
        obtain ⟨i, hi, rfl, ⟨B2, hB2⟩, hR2, hX2⟩ := hrel
        clear HL HG3 hX3
        by_cases hil : i < U.length
        · obtain ⟨t, ht⟩ : ∃ t, t = (i + from_) % U.length := ⟨_, rfl⟩
          have htl : t < U.length := by rw [ht]; exact Nat.mod_lt _ (by omega)
          obtain ⟨⟨pp, kk⟩, hx⟩ : ∃ x, U[t]? = some x := ⟨_, List.getElem?_eq_getElem htl⟩
          obtain ⟨ii, hbu, hpp⟩ : ∃ ii, B2 kk ii = .used ∧ pp = ii * 2 ^ kk := by
            have hx' := hx
            rw [ht] at hx'
            have hdiv : ∃ ii, pp = ii * 2 ^ kk := HMEM.out pp kk (List.mem_of_getElem? hx)
            obtain ⟨ii, rfl⟩ := hdiv
            exact ⟨ii, hB2.out.2.this hil hx', rfl⟩
          subst hpp
          obtain ⟨g, rfl, d0, d1⟩ := hR2.out.at hx
          rw [ht] at hx
          have HX := hid hx
          have hmod : ((i : Int) + (from_ : Int)) % (U.length : Int) = (t : Int) := by rw [ht, ← Int.natCast_add]; exact (Int.natCast_emod _ U.length).symm
          have hmod' : ((i : Int) + (from_ : Int)).tmod (U.length : Int) = (t : Int) := by rw [Int.tmod_eq_emod_of_nonneg (by omega)]; exact hmod
          have hu0 : ((U.length : Int) == 0) = false := by rw [beq_eq_false_iff_ne]; omega
          have hu1 : (0 : Int) < (U.length : Int) := by omega
          have hi1 : (i : Int) < (U.length : Int) := by omega
          have ht1 : (t : Int) < (U.length : Int) := by omega
          have HBU := hid hbu
          clear hbu hx ht
          go_wp2_with fail
          refine (gave_any wr p m 7 bf gf B2 j kk ii _ hB2.out.1 HBU.out rfl).mono ?_
          rintro e w4 ⟨B4, rfl, ht4, hG4, hls⟩
          have hX4 := Below.of_turn hX2 hX2.size ht4 HOWN.out
          have HB4 : Hid (Good w4 p m 7 bf gf B4 j ∧ LeftU B4 U from_ (i + 1)) := ⟨hG4, hB2.out.2.step HU.out.1 HX.out hls⟩
          have HR4 : Hid (Rd w4 b0 (some ⟨g, 0, none⟩) U) := hR2.out.turn ht4 hbase.out
          clear ht4 hG4 hls hX2 hR2 hB2 d0 d1
          go_wp2_with fail
          exact ⟨⟨i + 1, by omega, by go_num, ⟨B4, HB4⟩, HR4, hX4⟩, by simp [intOf]; omega⟩
        · obtain rfl : i = U.length := by omega
          have hnone := hid hB2.out.2.none
          have HG5 := hid hB2.out.1
          clear hB2 hR2
          go_wp2_with fail
          refine (got_free wr p m 7 bf gf B2 j HG5.out (HT.out.below hX2 hpos)).mono ?_
          rintro e w5 ⟨aF, cF, F, rfl, hF, hFl, hRF, hb5⟩
          have hX5 := Below.of_below hX2 hX2.size hb5
          have HG6 := hid (HG5.out.below hb5)
          obtain rfl := whole_list HG6.out.1 HG6.out.2.1 hF hnone.out
          obtain ⟨g, rfl, d0, d1⟩ := hRF.at (j := 0) (p := 0) (k := 7) rfl
          have hgl : g < w5.heap.size := block_lt_of_cell d0
          clear hF hRF hb5 HG5 hX2
          go_wp2_with fail
          refine (alive_true w5 (HT.out.below hX5 hpos)).mono ?_
          rintro e w6 ⟨rfl, hb6⟩
          have hX6 := Below.of_below hX5 hX5.size hb6
          have HG7 := hid (HG6.out.below hb6)
          have e0 : w6.cell? ⟨g, 0, none⟩ = some (.int .i64 0) := (hb6.cell (p := ⟨g, 0, none⟩) hgl).trans d0
          have e1 : w6.cell? ⟨g, 1, none⟩ = some (.int .i64 7) := (hb6.cell (p := ⟨g, 1, none⟩) hgl).trans d1
          clear hb6 HG6 hX5 d0 d1
          go_wp2_with fail
          refine (got_used w6 p m 7 bf gf B2 j HG7.out (by omega)).mono ?_
          rintro e w8 ⟨aV, cV, V, rfl, hV, hVl, hRV, hb8⟩
          have hX8 := Below.of_below hX6 hX6.size hb8
          have hv0 := no_used hnone.out hV
          rw [hv0]
          clear hV hRV hb8
          go_wp2_with fail
          go_ret
          exact ⟨rfl, hX8⟩

theorem walk (a0 : Option Addr) (len0 cap0 : Nat) (a1 : Int) (w : World) (hT : Tab w) (w0 : Acts w a0 len0) (w1 : (Lit.int .u8 a1).wf = true) :
    Calls Tryd.prog 4 #[.slice a0 len0 cap0, .int .u8 a1] w fun e w' => e = .returned (.bool true) ∧ Below w.heap.size w w' := by
  have b1 := bounds_u8 w1
  by_cases hl : (100 : Int) < len0
  · exact core_long a0 len0 cap0 a1 w hT hl
  obtain ⟨n, rfl⟩ := Int.eq_ofNat_of_zero_le b1.1
  exact core a0 len0 cap0 n w hT w0 (by omega) (by omega)

/-- WHAT THE WALK GIVES, FOR EVERY ARGUMENT AND EVERY WORLD THAT HOLDS THE TABLES. -/
theorem contract (H : Type) (enc : TypeId × Value → H) (W : World) (base : Nat) (args : Array Value) (ds gs : List (DataW H)) (before : List MemPlace)
    (hval : ∀ (j : Nat) t v, Tryd.f4.params[j]? = some t → args[j]? = some v → Value.okWide Tryd.prog W .any base t v)
    (hW : DataW.Whole enc Tryd.prog Tryd.f4.params.toList Rows.buddyCoversSpec.vars false W args.toList ds gs before) (hL : laidMetH Tryd.prog Rows.buddyCoversRow.laid W) :
    Calls Tryd.prog 4 args W fun e W' => ∃ v, e = .returned v ∧ Rows.buddyCoversSpec.post enc Tryd.prog Tryd.f4 false true false false W args v W' := by
  have hW' := hW
  obtain ⟨p, q, hA0, hV, rfl, hfz, hnd⟩ := hW
  have hA : DataW.TrodAll enc Tryd.prog W 0 (fun _ => true) true Tryd.f4.params.toList args.toList ds p := hA0
  rw [Tryd.params4] at hA hval
  obtain ⟨v0, vs0, d0, ds0, p0, q0, hargs, rfl, rfl, h0, r0⟩ := trodAll_cons hA
  obtain ⟨v1, vs1, d1, ds1, p1, q1, rfl, rfl, rfl, h1, r1⟩ := trodAll_cons r0
  obtain ⟨rfl, rfl, rfl⟩ := trodAll_nil r1
  obtain rfl : args = #[v0, v1] := by cases args; simp_all
  obtain ⟨rfl, rfl⟩ := trodVars_none hV
  have k0 := h0
  have lt0 : ∀ x ∈ p0, x.block < W.heap.size := by obtain ⟨m, hm⟩ := k0; exact DataW.trod_lt m _ _ _ hm
  obtain ⟨a0, len0, cap0, rfl⟩ := okWide_slice Tryd.underlying22 (hval 0 22 v0 rfl rfl)
  obtain ⟨a1, rfl, rfl, rfl, w1⟩ := open_int Tryd.underlying5 (hval 1 5 v1 rfl rfl) h1
  have w0 : Acts W a0 len0 := by
    obtain ⟨fuel, hf⟩ := h0
    exact acts_of (cap := cap0) (by simpa [Value.cells] using hf)
  clear hA0
  refine (walk a0 len0 cap0 a1 W (tab_of hL) w0 w1).mono fun e W' ⟨he, bel⟩ => ?_
  subst he
  exact ⟨_, rfl, _, _, _, [], _, [], hW', trodAll_mk1 (shut_bool Tryd.underlying4 _), (trodAll_cons_mk (Below.trod laidOut (by kernel_rfl) (of_decide_eq_true (by kernel_rfl)) k0 bel lt0) (trodAll_cons_mk (shut_int Tryd.underlying5 w1) trodAll_mk0)), rfl, bel.frame _, fun h => by cases h⟩

theorem laid_met (os : Os) : laidMet Tryd.prog Rows.buddyCoversRow.laid (({ World.holding Tryd.prog os ⟨#[], #[], []⟩ with heap := ((World.holding Tryd.prog os ⟨#[], #[], []⟩).heap.modify 0 (lays tabInts32)).modify 1 (lays tabInts) } : World).forCall (fun _ _ => 0) ⟨#[], #[.slice none 0 0, .int .u8 0], []⟩).memory :=
  laidMet_of_run' 8 (by kernel_rfl) (by kernel_rfl)
theorem reads (os : Os) {H : Type} (enc : TypeId × Value → H) : ∃ places, DataW.whole enc Tryd.prog (({ World.holding Tryd.prog os ⟨#[], #[], []⟩ with heap := ((World.holding Tryd.prog os ⟨#[], #[], []⟩).heap.modify 0 (lays tabInts32)).modify 1 (lays tabInts) } : World).forCall (fun _ _ => 0) ⟨#[], #[.slice none 0 0, .int .u8 0], []⟩).memory Tryd.f4.params.toList Rows.buddyCoversSpec.vars false #[Value.slice none 0 0, .int .u8 0].toList 8 = some ([.nil, .lit (.int .u8 0)], [], places) :=
  ⟨[], by kernel_rfl⟩

set_option maxRecDepth 100000 in
theorem lifted (os : Os) (started : os.Started) (H : Type) (enc : TypeId × Value → H) (F : Stop.Interp) :
    ReturnsInHanded {} Tryd.checked os 4 .any ((OpenSpec.ofChange Rows.buddyCoversSpec).preRow enc Tryd.prog Tryd.f4 Rows.buddyCoversRow.domain false Rows.buddyCoversRow.laid) (((OpenSpec.ofChange Rows.buddyCoversSpec).at F).post enc Tryd.prog Tryd.f4 false true false false) := by
  obtain ⟨places, hx⟩ := reads os enc
  refine returnsInHanded_of_row (C := Tryd.checked) (s := OpenSpec.ofChange Rows.buddyCoversSpec) own started (by kernel_rfl) Tryd.func4
    (witness_row_at (enc := enc) (C := Tryd.checked) false ({ World.holding Tryd.prog os ⟨#[], #[], []⟩ with heap := ((World.holding Tryd.prog os ⟨#[], #[], []⟩).heap.modify 0 (lays tabInts32)).modify 1 (lays tabInts) } : World) #[.slice none 0 0, .int .u8 0] rfl (by kernel_rfl) (by kernel_rfl) (by kernel_rfl)
      (OpenSpec.preRow_of_cond 8 hx (by kernel_rfl) (fun k hk => by cases hk) (by kernel_rfl) (laid_met os))) ?_
  intro W base args ds gs before hval hW _ _ _ hL _ _
  exact contract H enc W base args ds gs before hval hW hL

theorem said : Rows.BuddyCoversSaid :=
  OpenClaim.holds_of_cond 4 Tryd.f4 rfl rfl rfl rfl rfl rfl rfl ⟨rfl, rfl, rfl, rfl, rfl⟩ rfl rfl rfl rfl rfl (by kernel_rfl) Tryd.func4 (by kernel_rfl)
    (of_decide_eq_true (by kernel_rfl)) (by unfold Func.isWrapper; first | (rw [if_pos (by decide +kernel)]; kernel_rfl) | (rw [if_neg (by decide +kernel)]; exact ⟨rfl, rfl⟩))
    (fun os started H enc _ F => by rw [OpenClaim.pre_eq_preRow]; exact lifted os started H enc F)

/-- No parameter wants a stand-in; the program's own looks are off. -/
theorem plain (f : FuncId) (fn : Func) (hf : Tryd.pinned.checked.prog.funcNamed "quartermaster/quartermasterlaw03.BuddyCovers" = some f) (hfn : Tryd.pinned.checked.prog.funcs[f]? = some fn) :
    false = Tryd.pinned.checked.prog.looks [] ∧ ∀ (j : Nat) t, fn.params[j]? = some t → Tryd.pinned.checked.prog.wantsStandIn t = false := by
  obtain rfl : f = 4 := Option.some.inj ((show Tryd.prog.funcNamed "quartermaster/quartermasterlaw03.BuddyCovers" = some 4 by kernel_rfl).symm.trans hf) |>.symm
  obtain rfl : fn = Tryd.f4 := (Option.some.inj (Tryd.func4.symm.trans hfn)).symm
  refine ⟨by kernel_rfl, fun j t ht => ?_⟩
  rw [Tryd.params4] at ht
  have hm : t = 22 ∨ t = 5 := by simpa using Array.mem_of_getElem? ht
  rcases hm with rfl | rfl
  · exact (show Tryd.prog.wantsStandIn 22 = false by kernel_rfl)
  · exact (show Tryd.prog.wantsStandIn 5 = false by kernel_rfl)

theorem card : Rows.BuddyCoversCardSaid :=
  Claim7.holds_tied_plain_at .later [] _ _ _ _ said (fun _ h => by cases h) (by kernel_rfl) (fun _ h => by cases h) buddyCovers_row_tie rfl ⟨rfl, rfl⟩ (by kernel_rfl) rfl plain (by kernel_rfl)
end Go.Proofs.YtcacgickbmfjnaaDoor.buddyCovers
