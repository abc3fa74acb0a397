/- Which sizes an arena may have: the program's New, and the document's May. -/
import Derived.Test.YtaoahbobofdimaaH
namespace Go.Proofs.Ytaoahbobofdimaa
open Go.RowKit

theorem pow_le (j k : Nat) (h : j ≤ k) : (65536 * 2 ^ j : Int) ≤ 65536 * 2 ^ k := by
  have : (2 ^ j : Nat) ≤ 2 ^ k := Nat.pow_le_pow_right (by decide) h
  have h2 : ((2 ^ j : Nat) : Int) ≤ ((2 ^ k : Nat) : Int) := by exact_mod_cast this
  simp at h2
  omega

theorem pow_top (k : Nat) (h : k < 14) : (65536 * 2 ^ k : Int) < 1073741824 := by
  have := pow_le k 13 (by omega)
  have e : (65536 * 2 ^ 13 : Int) = 536870912 := by decide
  omega

/-- May's answer tells whether a size is one of the fifteen. -/
def MayIs (size : Int) (f : Bool) : Prop := (f = true → ∃ k : Nat, k ≤ 14 ∧ size = 65536 * 2 ^ k) ∧ (f = false → ∀ k : Nat, k ≤ 14 → size ≠ 65536 * 2 ^ k)
def MayPost (size : Int) (w : World) (e : Ending) (w' : World) : Prop := ∃ f : Bool, e = .returned (.bool f) ∧ w' = w ∧ MayIs size f

set_option maxHeartbeats 1000000 in
theorem may_any (size : Int) (w : World) : Calls Try.prog 11 #[.int .i64 size] w (MayPost size w) := by
  go_enter Try.func11, Try.ntmps11
  go_wp2
  go_loop [3] (fun n => ∃ k : Nat, k ≤ 14 ∧ n = .int .i64 (65536 * 2 ^ k) ∧ Hid (k = 0 ∨ (65536 * 2 ^ (k - 1) : Int) < size)) (fun n => (1073741824 - intOf n).toNat)
  case atStart => exact ⟨0, by omega, by simp, .inl rfl⟩
  case round =>
    obtain ⟨k, hk, rfl, hprev⟩ := hrel
    have hpos : (0 : Int) < 65536 * 2 ^ k := by have := pow_le 0 k (by omega); simp at this; omega
    have hmax : (65536 * 2 ^ k : Int) ≤ 1073741824 := by
      have := pow_le k 14 hk
      have e : (65536 * 2 ^ 14 : Int) = 1073741824 := by decide
      omega
    have hnx : Hid ((65536 * 2 ^ k : Int) * 2 = 65536 * 2 ^ (k + 1)) := by show _ = _; rw [Int.pow_succ]; omega
    have hfin : Hid (¬ ((65536 * 2 ^ k : Int) < size ∧ (65536 * 2 ^ k : Int) < 1073741824) → MayIs size ((65536 * 2 ^ k : Int) == size)) := by
      intro hn
      refine ⟨?_, ?_⟩
      · intro h; exact ⟨k, hk, (beq_iff_eq.1 h).symm⟩
      · intro h j hj he
        have hne := beq_eq_false_iff_ne.1 h
        by_cases hjk : j < k
        · rcases hprev with h0 | h0
          · omega
          · have := pow_le j (k - 1) (by omega); omega
        · have h1 := pow_le k j (by omega)
          by_cases h2 : (65536 * 2 ^ k : Int) < size
          · by_cases h3 : k < 14
            · exact hn ⟨h2, pow_top k h3⟩
            · have : j = k := by omega
              subst this; exact hne he.symm
          · omega
    have htop : Hid ((65536 * 2 ^ k : Int) < 1073741824 → k < 14) := by
      intro h
      by_cases h3 : k < 14
      · exact h3
      · have e : k = 14 := by omega
        subst e; have : (65536 * 2 ^ 14 : Int) = 1073741824 := by decide
        omega
    generalize hn : (65536 * 2 ^ k : Int) = n at *
    have HN := hid hn
    clear hn
    by_cases h1 : n < size
    · by_cases h2 : n < 1073741824
      · go_wp2
        exact ⟨⟨k + 1, by have := htop.out h2; omega, by rw [hnx.out], .inr (by rw [Nat.add_sub_cancel, HN.out]; exact h1)⟩, by simp [intOf]; omega⟩
      · have hf := hfin.out (by omega)
        go_wp2
        go_ret
        exact ⟨_, rfl, rfl, hf⟩
    · have hf := hfin.out (by omega)
      go_wp2
      go_ret
      exact ⟨_, rfl, rfl, hf⟩

end Go.Proofs.Ytaoahbobofdimaa
