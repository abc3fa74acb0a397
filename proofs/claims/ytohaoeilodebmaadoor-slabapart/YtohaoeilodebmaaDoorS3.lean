/- The library's heap over the open slabs: the contract of down. -/
import Derived.Test.YtohaoeilodebmaaDoorS2
namespace Go.Proofs.YtohaoeilodebmaaDoor
open Go.RowKit Go.Maps

theorem Hc.at_end {w : World} {c g cap n : Nat} {L sb bm : Nat → Nat} (h : Hc w c g cap n L sb bm) : n ≤ 1048576 := h.few
theorem swp_far (L : Nat → Nat) {i j nn : Nat} (hi : i < nn) (hj : j < nn) : ∀ k, nn ≤ k → swp L i j k = L k := fun k hk => swp_o L (by omega) (by omega)
/-- How far down it has come. -/
def Dn (L L' : Nat → Nat) (i0 ii nn : Nat) : Prop := Geno L' nn ii ∧ ((ii = i0 ∧ L' = L) ∨ (i0 < ii ∧ ii < nn ∧ (0 < ii → L' ((ii - 1) / 2) ≤ L' ii))) ∧ SameSet L L' nn ∧ ∀ k, nn ≤ k → L' k = L k
def DownPost (w : World) (c g cap n : Nat) (L sb bm : Nat → Nat) (i0 nn : Nat) (e : Ending) (w' : World) : Prop :=
  ∃ (moved : Bool) (L' : Nat → Nat), e = .returned (.bool moved) ∧ Hc w' c g cap n L' sb bm ∧ (moved = true → Hpo L' nn) ∧ (moved = false → L' = L ∧ Upo L nn i0) ∧ SameSet L L' nn ∧ (∀ k, nn ≤ k → L' k = L k) ∧ Turn (fun x => x = g ∨ ∃ k, k < n ∧ x = sb (L k)) w w'
theorem Dn.done {w' w : World} {c g cap n : Nat} {L L' sb bm : Nat → Nat} {i0 ii nn : Nat} (h : Dn L L' i0 ii nn) (hc : ∀ k, 0 < k → k < nn → (k - 1) / 2 = ii → L' ii ≤ L' k) (hH : Hc w' c g cap n L' sb bm) (ht : Turn (fun x => x = g ∨ ∃ k, k < n ∧ x = sb (L k)) w w') :
    DownPost w c g cap n L sb bm i0 nn (.returned (.bool (decide (i0 < ii)))) w' := by
  refine ⟨_, L', rfl, hH, fun hm => ?_, fun hm => ?_, h.2.2.1, h.2.2.2, ht⟩
  · have hm' := of_decide_eq_true hm
    rcases h.2.1 with ⟨e, _⟩ | ⟨_, _, hp⟩
    · omega
    · exact h.1.done hp hc
  · have hm' := of_decide_eq_false hm
    rcases h.2.1 with ⟨e, e'⟩ | ⟨hp, _⟩
    · subst e e'
      exact ⟨rfl, h.1.up hc⟩
    · exact absurd hp hm'
theorem Dn.step {L L' : Nat → Nat} {i0 ii nn j : Nat} (h : Dn L L' i0 ii nn) (hi : ii < nn) (hj : (j - 1) / 2 = ii) (h0 : 0 < j) (hn : j < nn) (hl : L' j < L' ii) (hm : ∀ k, 0 < k → k < nn → (k - 1) / 2 = ii → L' j ≤ L' k) : Dn L (swp L' ii j) i0 j nn := by
  obtain ⟨h1, h2⟩ := h.1.step hj h0 hn hl hm
  refine ⟨h1, .inr ⟨?_, hn, h2⟩, h.2.2.1.trans (SameSet.swp hi hn), fun k hk => (swp_far L' hi hn k hk).trans (h.2.2.2 k hk)⟩
  rcases h.2.1 with ⟨e, _⟩ | ⟨hp, _⟩ <;> omega

set_option maxRecDepth 100000 in
set_option maxHeartbeats 4000000 in
theorem down_any (w : World) (c g cap n : Nat) (L sb bm : Nat → Nat) (i0 nn : Nat) (h : Hc w c g cap n L sb bm) (hg : Geno L nn i0) (hi : i0 ≤ nn) (hnn : nn ≤ n) :
    Calls Tryd.prog 72 #[.iface 89 (.pointer (some ⟨c, 3, none⟩)), .int .i64 (i0 : Int), .int .i64 (nn : Int)] w (DownPost w c g cap n L sb bm i0 nn) := by
  have hn := h.few
  have HH := hid (And.intro h hg)
  clear h hg
  go_enter Tryd.func72, Tryd.ntmps72
  go_wp2_with fail
  go_loopw [7] (fun t wr => ∃ ii : Nat, ii ≤ nn ∧ t = .int .i64 (ii : Int) ∧ (∃ L', Hid (Hc wr c g cap n L' sb bm ∧ Dn L L' i0 ii nn)) ∧ Turn (fun x => x = g ∨ ∃ k, k < n ∧ x = sb (L k)) w wr) (fun t _ => nn - (intOf t).toNat)
  case atStart => exact ⟨i0, hi, rfl, ⟨L, HH.out.1, HH.out.2, .inl ⟨rfl, rfl⟩, SameSet.refl L nn, fun _ _ => rfl⟩, Turn.refl _ _⟩
  case round =>
    obtain ⟨ii, hii, rfl, ⟨L', hL⟩, ht⟩ := hrel
    have HSET : Hid (∀ k, k < n → ∃ k', k' < n ∧ L' k = L k') := fun k hk => by
      by_cases e : k < nn
      · obtain ⟨k', h1, h2⟩ := hL.out.2.2.2.1.1 k e
        exact ⟨k', by omega, h2⟩
      · exact ⟨k, hk, hL.out.2.2.2.2 k (by omega)⟩
    obtain ⟨j1, hj1⟩ : ∃ j1 : Nat, j1 = 2 * ii + 1 := ⟨_, rfl⟩
    obtain ⟨j2, hj2⟩ : ∃ j2 : Nat, j2 = 2 * ii + 2 := ⟨_, rfl⟩
    have e1 : 2 * (ii : Int) + 1 = (j1 : Int) := by omega
    have e2 : (j1 : Int) + 1 = (j2 : Int) := by omega
    have b1 : j1 ≤ 2097153 := by omega
    have b2 : j2 ≤ 2097154 := by omega
    have HJ := hid (And.intro hj1 hj2)
    clear hj1 hj2
    by_cases hd1 : nn ≤ j1
    · have hd1' : (nn : Int) ≤ (j1 : Int) := by omega
      have HC := hid (hL.out.2.done (fun k h0 hk he => by have := HJ.out.1; omega) hL.out.1 ht)
      go_wp2_with fail
      go_ret
      simpa using HC.out
    · have hd1' : ¬ ((nn : Int) ≤ (j1 : Int)) := by omega
      have hd0 : ¬ ((j1 : Int) < 0) := by omega
      have hii2 : ii < nn := by have := HJ.out.1; omega
      by_cases hd2 : j2 < nn
      · have hd2' : (j2 : Int) < (nn : Int) := by omega
        have hml := meth_less ⟨c, 3, none⟩ wr _ _ _ hL.out.1.cell
        go_wp2_with fail
        refine (less_any wr g cap n L' sb bm j2 j1 hL.out.1.mem (by omega) (by omega)).mono ?_
        rintro e w1 ⟨rfl, q, rfl⟩
        have HD := hid (hL.out.1.drewN q)
        have hT1 := ht.drewN q
        have hmd := meth_less ⟨c, 3, none⟩ (wr.drewN q) _ _ _ HD.out.cell
        clear hml
        generalize wr.drewN q = wd at *
        by_cases hless : L' j2 < L' j1
        · rw [decide_eq_true hless]
          have HM : Hid (∀ k, 0 < k → k < nn → (k - 1) / 2 = ii → L' j2 ≤ L' k) := fun k h0 hk he => by
            have := HJ.out
            rcases (show k = j1 ∨ k = j2 by omega) with rfl | rfl <;> omega
          go_wp2_with fail
          refine (less_any (wd) g cap n L' sb bm j2 ii HD.out.mem (by omega) (by omega)).mono ?_
          rintro e w2 ⟨rfl, q2, rfl⟩
          by_cases hls : L' j2 < L' ii
          · rw [decide_eq_true hls]
            have HD2 := hid (HD.out.drewN q2)
            have hms := meth_swap ⟨c, 3, none⟩ ((wd).drewN q2) _ _ _ HD2.out.cell
            go_wp2_with fail
            refine (swap_any ((wd).drewN q2) g cap n L' sb bm ii j2 HD2.out.mem (by omega) (by omega)).mono ?_
            rintro e w3 ⟨rfl, hm3, ht3⟩
            have HC3 := hid (HD2.out.swapped (by omega) (by omega) hm3 ht3)
            have HDN : Hid (Dn L (swp L' ii j2) i0 j2 nn) := hL.out.2.step hii2 (by have := HJ.out; omega) (by have := HJ.out; omega) (by omega) hls HM.out
            have hT3 := (hT1.drewN q2).trans (ht3.wide (S' := fun x => x = g ∨ ∃ k, k < n ∧ x = sb (L k)) (by
              rintro x (e | e | e)
              · exact .inl e
              · obtain ⟨k, hk, e'⟩ := HSET.out ii (by omega)
                exact .inr ⟨k, hk, by rw [e, e']⟩
              · obtain ⟨k, hk, e'⟩ := HSET.out j2 (by omega)
                exact .inr ⟨k, hk, by rw [e, e']⟩))
            have hmeas : nn - j2 < nn - ii := by have := HJ.out; omega
            clear hm3 ht3 hms
            go_wp2_with fail
            exact ⟨⟨j2, by omega, rfl, ⟨_, HC3.out, HDN.out⟩, hT3⟩, by simpa [intOf] using hmeas⟩
          · rw [decide_eq_false hls]
            have HC := hid (hL.out.2.done (fun k h0 hk he => by have := HM.out k h0 hk he; omega) (HD.out.drewN q2) (hT1.drewN q2))
            go_wp2_with fail
            go_ret
            simpa using HC.out
        · rw [decide_eq_false hless]
          have HM : Hid (∀ k, 0 < k → k < nn → (k - 1) / 2 = ii → L' j1 ≤ L' k) := fun k h0 hk he => by
            have := HJ.out
            rcases (show k = j1 ∨ k = j2 by omega) with rfl | rfl <;> omega
          go_wp2_with fail
          refine (less_any (wd) g cap n L' sb bm j1 ii HD.out.mem (by omega) (by omega)).mono ?_
          rintro e w2 ⟨rfl, q2, rfl⟩
          by_cases hls : L' j1 < L' ii
          · rw [decide_eq_true hls]
            have HD2 := hid (HD.out.drewN q2)
            have hms := meth_swap ⟨c, 3, none⟩ ((wd).drewN q2) _ _ _ HD2.out.cell
            go_wp2_with fail
            refine (swap_any ((wd).drewN q2) g cap n L' sb bm ii j1 HD2.out.mem (by omega) (by omega)).mono ?_
            rintro e w3 ⟨rfl, hm3, ht3⟩
            have HC3 := hid (HD2.out.swapped (by omega) (by omega) hm3 ht3)
            have HDN : Hid (Dn L (swp L' ii j1) i0 j1 nn) := hL.out.2.step hii2 (by have := HJ.out; omega) (by have := HJ.out; omega) (by omega) hls HM.out
            have hT3 := (hT1.drewN q2).trans (ht3.wide (S' := fun x => x = g ∨ ∃ k, k < n ∧ x = sb (L k)) (by
              rintro x (e | e | e)
              · exact .inl e
              · obtain ⟨k, hk, e'⟩ := HSET.out ii (by omega)
                exact .inr ⟨k, hk, by rw [e, e']⟩
              · obtain ⟨k, hk, e'⟩ := HSET.out j1 (by omega)
                exact .inr ⟨k, hk, by rw [e, e']⟩))
            have hmeas : nn - j1 < nn - ii := by have := HJ.out; omega
            clear hm3 ht3 hms
            go_wp2_with fail
            exact ⟨⟨j1, by omega, rfl, ⟨_, HC3.out, HDN.out⟩, hT3⟩, by simpa [intOf] using hmeas⟩
          · rw [decide_eq_false hls]
            have HC := hid (hL.out.2.done (fun k h0 hk he => by have := HM.out k h0 hk he; omega) (HD.out.drewN q2) (hT1.drewN q2))
            go_wp2_with fail
            go_ret
            simpa using HC.out
      · have hd2' : ¬ ((j2 : Int) < (nn : Int)) := by omega
        have HD := hid hL.out.1
        have hT1 := ht
        have hmd := meth_less ⟨c, 3, none⟩ wr _ _ _ HD.out.cell
        have HM : Hid (∀ k, 0 < k → k < nn → (k - 1) / 2 = ii → L' j1 ≤ L' k) := fun k h0 hk he => by
          have := HJ.out
          obtain rfl : k = j1 := by omega
          exact Nat.le_refl _
        go_wp2_with fail
        refine (less_any (wr) g cap n L' sb bm j1 ii HD.out.mem (by omega) (by omega)).mono ?_
        rintro e w2 ⟨rfl, q2, rfl⟩
        by_cases hls : L' j1 < L' ii
        · rw [decide_eq_true hls]
          have HD2 := hid (HD.out.drewN q2)
          have hms := meth_swap ⟨c, 3, none⟩ ((wr).drewN q2) _ _ _ HD2.out.cell
          go_wp2_with fail
          refine (swap_any ((wr).drewN q2) g cap n L' sb bm ii j1 HD2.out.mem (by omega) (by omega)).mono ?_
          rintro e w3 ⟨rfl, hm3, ht3⟩
          have HC3 := hid (HD2.out.swapped (by omega) (by omega) hm3 ht3)
          have HDN : Hid (Dn L (swp L' ii j1) i0 j1 nn) := hL.out.2.step hii2 (by have := HJ.out; omega) (by have := HJ.out; omega) (by omega) hls HM.out
          have hT3 := (hT1.drewN q2).trans (ht3.wide (S' := fun x => x = g ∨ ∃ k, k < n ∧ x = sb (L k)) (by
            rintro x (e | e | e)
            · exact .inl e
            · obtain ⟨k, hk, e'⟩ := HSET.out ii (by omega)
              exact .inr ⟨k, hk, by rw [e, e']⟩
            · obtain ⟨k, hk, e'⟩ := HSET.out j1 (by omega)
              exact .inr ⟨k, hk, by rw [e, e']⟩))
          have hmeas : nn - j1 < nn - ii := by have := HJ.out; omega
          clear hm3 ht3 hms
          go_wp2_with fail
          exact ⟨⟨j1, by omega, rfl, ⟨_, HC3.out, HDN.out⟩, hT3⟩, by simpa [intOf] using hmeas⟩
        · rw [decide_eq_false hls]
          have HC := hid (hL.out.2.done (fun k h0 hk he => by have := HM.out k h0 hk he; omega) (HD.out.drewN q2) (hT1.drewN q2))
          go_wp2_with fail
          go_ret
          simpa using HC.out
end Go.Proofs.YtohaoeilodebmaaDoor
