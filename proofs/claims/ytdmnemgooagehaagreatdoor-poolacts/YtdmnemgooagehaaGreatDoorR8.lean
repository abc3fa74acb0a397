/- Which sizes an allocator may have, by the program and by the document; the document's allocator, new. -/
import Derived.Test.YtdmnemgooagehaaGreatDoorR5
namespace Go.Proofs.YtdmnemgooagehaaGreatDoor
open Go.RowKit Go.Maps

theorem cnt_zero {f : Nat → Bool} : ∀ {n : Nat}, cnt f n = 0 → ∀ i, i < n → f i = false
  | 0, _, i, hi => by omega
  | n + 1, h, i, hi => by
    unfold cnt at h
    by_cases e : i = n
    · subst e
      cases hf : f i
      · rfl
      · rw [hf] at h; simp at h
    · exact cnt_zero (n := n) (by omega) i (by omega)
theorem cnt_one {f : Nat → Bool} : ∀ {n : Nat}, cnt f n = 1 → ∃ j, j < n ∧ f j = true ∧ ∀ i, i < n → i ≠ j → f i = false
  | 0, h => by unfold cnt at h; omega
  | n + 1, h => by
    unfold cnt at h
    cases hf : f n
    · rw [hf] at h
      obtain ⟨j, h1, h2, h3⟩ := cnt_one (n := n) (by simpa using h)
      refine ⟨j, by omega, h2, fun i hi hne => ?_⟩
      by_cases e : i = n
      · rw [e]; exact hf
      · exact h3 i (by omega) hne
    · rw [hf] at h
      exact ⟨n, by omega, hf, fun i hi hne => cnt_zero (n := n) (by simpa using h) i (by omega)⟩
theorem pop_one {x : Nat} (h : pop x = 1) (hx : x < 2 ^ 64) : ∃ j, j < 64 ∧ x = 2 ^ j := by
  obtain ⟨j, h1, h2, h3⟩ := cnt_one (f := x.testBit) (n := 64) h
  refine ⟨j, h1, Nat.eq_of_testBit_eq fun i => ?_⟩
  rw [Nat.testBit_two_pow]
  by_cases e : j = i
  · subst e; simp [h2]
  · rw [decide_eq_false e]
    by_cases hi : i < 64
    · exact h3 i hi (fun e' => e e'.symm)
    · exact Nat.testBit_lt_two_pow (Nat.lt_of_lt_of_le hx (Nat.pow_le_pow_right (by omega) (by omega)))

theorem powm_le (j k : Nat) (h : j ≤ k) : (65536 * 2 ^ j : Int) ≤ 65536 * 2 ^ k := by
  have : (2 ^ j : Nat) ≤ 2 ^ k := Nat.pow_le_pow_right (by decide) h
  have h2 : ((2 ^ j : Nat) : Int) ≤ ((2 ^ k : Nat) : Int) := by exact_mod_cast this
  simp at h2
  omega
theorem powm_top (k : Nat) (h : k < 14) : (65536 * 2 ^ k : Int) < 1073741824 := by
  have := powm_le k 13 (by omega)
  have e : (65536 * 2 ^ 13 : Int) = 536870912 := by decide
  omega

/-- May's answer tells whether a size is one of the fifteen. -/
def MayIs (size : Int) (f : Bool) : Prop := (f = true → ∃ k : Nat, k ≤ 14 ∧ size = 65536 * 2 ^ k) ∧ (f = false → ∀ k : Nat, k ≤ 14 → size ≠ 65536 * 2 ^ k)
def MayPost (size : Int) (w : World) (e : Ending) (w' : World) : Prop := ∃ f : Bool, e = .returned (.bool f) ∧ w' = w ∧ MayIs size f

set_option maxHeartbeats 1000000 in
theorem may1_any (size : Int) (w : World) : Calls Tryz.prog 93 #[.int .i64 size] w (MayPost size w) := by
  go_enter Tryz.func93, Tryz.ntmps93
  go_wp2
  go_loop [3] (fun n => ∃ k : Nat, k ≤ 14 ∧ n = .int .i64 (65536 * 2 ^ k) ∧ Hid (k = 0 ∨ (65536 * 2 ^ (k - 1) : Int) < size)) (fun n => (1073741824 - intOf n).toNat)
  case atStart => exact ⟨0, by omega, by simp, .inl rfl⟩
  case round =>
    obtain ⟨k, hk, rfl, hprev⟩ := hrel
    have hpos : (0 : Int) < 65536 * 2 ^ k := by have := powm_le 0 k (by omega); simp at this; omega
    have hmax : (65536 * 2 ^ k : Int) ≤ 1073741824 := by
      have := powm_le k 14 hk
      have e : (65536 * 2 ^ 14 : Int) = 1073741824 := by decide
      omega
    have hnx : Hid ((65536 * 2 ^ k : Int) * 2 = 65536 * 2 ^ (k + 1)) := by show _ = _; rw [Int.pow_succ]; omega
    have hfin : Hid (¬ ((65536 * 2 ^ k : Int) < size ∧ (65536 * 2 ^ k : Int) < 1073741824) → MayIs size ((65536 * 2 ^ k : Int) == size)) := by
      intro hn
      refine ⟨?_, ?_⟩
      · intro h; exact ⟨k, hk, (beq_iff_eq.1 h).symm⟩
      · intro h j hj he
        have hne := beq_eq_false_iff_ne.1 h
        by_cases hjk : j < k
        · rcases hprev with h0 | h0
          · omega
          · have := powm_le j (k - 1) (by omega); omega
        · have h1 := powm_le k j (by omega)
          by_cases h2 : (65536 * 2 ^ k : Int) < size
          · by_cases h3 : k < 14
            · exact hn ⟨h2, powm_top k h3⟩
            · have : j = k := by omega
              subst this; exact hne he.symm
          · omega
    have htop : Hid ((65536 * 2 ^ k : Int) < 1073741824 → k < 14) := by
      intro h
      by_cases h3 : k < 14
      · exact h3
      · have e : k = 14 := by omega
        subst e; have : (65536 * 2 ^ 14 : Int) = 1073741824 := by decide
        omega
    generalize hn : (65536 * 2 ^ k : Int) = n at *
    have HN := hid hn
    clear hn
    by_cases h1 : n < size
    · by_cases h2 : n < 1073741824
      · go_wp2
        exact ⟨⟨k + 1, by have := htop.out h2; omega, by rw [hnx.out], .inr (by rw [Nat.add_sub_cancel, HN.out]; exact h1)⟩, by simp [intOf]; omega⟩
      · have hf := hfin.out (by omega)
        go_wp2
        go_ret
        exact ⟨_, rfl, rfl, hf⟩
    · have hf := hfin.out (by omega)
      go_wp2
      go_ret
      exact ⟨_, rfl, rfl, hf⟩
/-- A size that is none. -/
theorem newB_no (s : Int) (w : World) (hs : ∀ k : Nat, k ≤ 14 → s ≠ 65536 * 2 ^ k) : Calls Tryz.prog 7 #[.int .i64 s] w fun e w' => e = .returned (.pointer none) ∧ w' = w := by
  by_cases h1 : s < 65536
  · exact newB_small s w h1
  by_cases h2 : 1073741824 < s
  · exact newB_great s w h2
  obtain ⟨x, hx⟩ : ∃ x : Nat, (x : Int) = s := ⟨s.toNat, by omega⟩
  have hp : pop x ≠ 1 := by
    intro h
    obtain ⟨j, hj, e⟩ := pop_one h (by have : (2 : Nat) ^ 64 = 18446744073709551616 := by decide
                                       omega)
    have h16 : 16 ≤ j := by
      apply Decidable.byContradiction
      intro hn
      have := Nat.pow_le_pow_right (n := 2) (by omega) (show j ≤ 15 by omega)
      have e2 : (2 : Nat) ^ 15 = 32768 := by decide
      omega
    have h30 : j ≤ 30 := by
      apply Decidable.byContradiction
      intro hn
      have := Nat.pow_le_pow_right (n := 2) (by omega) (show 31 ≤ j by omega)
      have e2 : (2 : Nat) ^ 31 = 2147483648 := by decide
      omega
    obtain ⟨k, rfl⟩ : ∃ k, j = 16 + k := ⟨j - 16, by omega⟩
    refine hs k (by omega) ?_
    rw [← hx, e, Nat.pow_add]
    simp
  obtain ⟨n, hn⟩ : ∃ n, n = pop x := ⟨_, rfl⟩
  have hn64 : n ≤ 64 := by rw [hn]; exact pop_le x
  have hp' : ((n : Int) != 1) = true := by rw [← hn] at hp; simp; omega
  have hx64 : x < 18446744073709551616 := by omega
  have hcon := fun w => onesU_any x w hx64
  rw [hx, ← hn] at hcon
  have HC := hid hcon
  clear hs hp hn hcon hx64 hx
  go_enter Tryz.func7, Tryz.ntmps7
  go_wp2_with fail
  refine (HC.out _).mono ?_
  rintro e w' ⟨rfl, rfl⟩
  go_wp2_with fail
  go_ret
  exact ⟨rfl, rfl⟩

theorem begin_free (K : Nat) : Lst (begin_ K) .free [(0, K)] := by
  refine ⟨by simp [Rise], fun p k => ?_⟩
  constructor
  · intro h
    obtain ⟨rfl, rfl⟩ : p = 0 ∧ k = K := by simpa using h
    exact ⟨0, by simp, by simp [begin_]⟩
  · rintro ⟨i, rfl, hb⟩
    unfold begin_ at hb
    split at hb
    · rename_i hc; obtain ⟨rfl, rfl⟩ := hc; simp
    · cases hb
theorem begin_used (K : Nat) : Lst (begin_ K) .used [] := by
  refine ⟨by simp [Rise], fun p k => ?_⟩
  constructor
  · intro h; cases h
  · rintro ⟨i, rfl, hb⟩
    unfold begin_ at hb
    split at hb <;> cases hb
def RNewPost (w : World) (K : Nat) (e : Ending) (w' : World) : Prop := ∃ r vF, e = .returned (.pointer (some ⟨r, 0, none⟩)) ∧ RefM w' r (fun x => w.heap.size ≤ x) K (begin_ K) vF (.slice none 0 0) [(0, K)] [] ∧ Below w.heap.size w w'
set_option maxHeartbeats 1000000 in
theorem rnew_any (K : Nat) (w : World) (hK : K ≤ 20) : Calls Tryz.prog 17 #[.int .i64 ((1024 * 2 ^ K : Nat) : Int)] w (RNewPost w K) := by
  obtain ⟨S, hS⟩ : ∃ S : Int, S = ((1024 * 2 ^ K : Nat) : Int) := ⟨_, rfl⟩
  rw [← hS]
  have HS := hid hS
  clear hS
  go_enter Tryz.func17, Tryz.ntmps17
  go_wp2_with fail
  go_loop [3] (fun t => ∃ k : Nat, k ≤ K ∧ t = .int .i64 (k : Int)) (fun t => K - (intOf t).toNat)
  case atStart => exact ⟨0, by omega, rfl⟩
  case round =>
    obtain ⟨k, hk, rfl⟩ := hrel
    obtain ⟨q, hq⟩ : ∃ q : Int, ((1024 * 2 ^ k : Nat) : Int) = q := ⟨_, rfl⟩
    have hlt : Hid (q < S ↔ k < K) := by
      show _ ↔ _
      rw [HS.out, ← hq]
      constructor
      · intro h
        apply Decidable.byContradiction
        intro hn
        have := Nat.pow_le_pow_right (n := 2) (by omega) (show K ≤ k by omega)
        omega
      · intro h
        have := Nat.pow_lt_pow_right (a := 2) (by omega) h
        omega
    have HQ := hid hq
    clear hq
    go_wp2_with fail
    refine (rsize_any k _ (by omega)).mono ?_
    rintro e w1 ⟨rfl, rfl⟩
    rw [HQ.out]
    by_cases h : k < K
    · have hd : decide (q < S) = true := decide_eq_true (hlt.out.2 h)
      have hd2 : q < S := hlt.out.2 h
      go_wp2_with fail
      go_round
      case rel => exact ⟨k + 1, by omega, by go_num⟩
      case measure => simp [intOf]; omega
    · obtain rfl : k = K := by omega
      have hd : decide (q < S) = false := decide_eq_false (fun h' => h (hlt.out.1 h'))
      have hd2 : ¬ (q < S) := fun h' => h (hlt.out.1 h')
      go_wp2_with fail
      go_ret
      have hb1 : Below w1.heap.size w1 ((w1.alloc (.cells #[.int .i64 0, .int .i64 (k : Int)] 132)).alloc (.cells #[.int .i64 (k : Int), .slice (some ⟨w1.heap.size, 0, none⟩) 1 1, .slice none 0 0] 53)) := ((Below.refl w1.heap.size w1).alloc (Nat.le_refl _) _).alloc (by simp) _
      have hF : ((w1.alloc (.cells #[.int .i64 0, .int .i64 (k : Int)] 132)).alloc (.cells #[.int .i64 (k : Int), .slice (some ⟨w1.heap.size, 0, none⟩) 1 1, .slice none 0 0] 53)).heap[w1.heap.size]? = some (.cells #[.int .i64 0, .int .i64 (k : Int)] 132) := heap_alloc2_old w1 _ _
      refine ⟨w1.heap.size + 1, .slice (some ⟨w1.heap.size, 0, none⟩) 1 1, rfl, ⟨?_, ⟨_, 1, rfl, .inr ⟨_, rfl, Nat.zero_le _, by simp; omega, fun j p k' hj => ?_⟩, by simp, by omega, .inr ⟨_, rfl⟩⟩, ⟨none, 0, rfl, .inl rfl, by simp, by omega, .inl ⟨rfl, rfl, rfl⟩⟩, begin_free k, begin_used k, .inr (by simp [Value.ownBlock]), .inl rfl, .inr (fun x e => Nat.le_of_eq (by simpa [Value.ownBlock] using e)), .inl rfl, Nat.le_succ _, (fun x hx => Nat.le_trans (by simp; omega) hx), hK⟩, hb1⟩
      · have := heap_alloc_new (w1.alloc (.cells #[.int .i64 0, .int .i64 (k : Int)] 132)) (.cells #[.int .i64 (k : Int), .slice (some ⟨w1.heap.size, 0, none⟩) 1 1, .slice none 0 0] 53)
        simpa using this
      · have hj0 : j = 0 := by
          have := (List.getElem?_eq_some_iff.1 hj).1
          simp at this; exact this
        subst hj0
        obtain ⟨rfl, rfl⟩ : p = 0 ∧ k' = k := by simpa [eq_comm] using hj
        exact ⟨by rw [cell_of_row _ _ _ _ _ _ hF]; rfl, by rw [cell_of_row _ _ _ _ _ _ hF]; rfl⟩
end Go.Proofs.YtdmnemgooagehaaGreatDoor
