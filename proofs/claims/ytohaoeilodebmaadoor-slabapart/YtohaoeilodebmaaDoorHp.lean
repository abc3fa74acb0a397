/- A heap in a row, the least one first: what a swap on the way up and on the way down leaves. No program is named here. -/
import Derived.Test.YtohaoeilodebmaaDoorN
namespace Go.Proofs.YtohaoeilodebmaaDoor

/-- Two places of a row are swapped. -/
def swp (L : Nat → Nat) (i j : Nat) : Nat → Nat := fun k => if k = i then L j else if k = j then L i else L k
theorem swp_l (L : Nat → Nat) (i j : Nat) : swp L i j i = L j := by simp [swp]
theorem swp_r (L : Nat → Nat) (i j : Nat) : swp L i j j = L i := by
  unfold swp
  by_cases h : j = i
  · subst h; simp
  · simp [h]
theorem swp_o (L : Nat → Nat) {i j k : Nat} (h : k ≠ i) (h' : k ≠ j) : swp L i j k = L k := by simp [swp, h, h']

/-- The heap's order among the first n. -/
def Hpo (L : Nat → Nat) (n : Nat) : Prop := ∀ k, 0 < k → k < n → L ((k - 1) / 2) ≤ L k
/-- All is in order but what stands at j, which may be too small. -/
def Upo (L : Nat → Nat) (n j : Nat) : Prop := (∀ k, 0 < k → k < n → k ≠ j → L ((k - 1) / 2) ≤ L k) ∧ ∀ k, 0 < k → k < n → (k - 1) / 2 = j → 0 < j → L ((j - 1) / 2) ≤ L k
/-- All is in order but what stands at i, which may be too small or too great. -/
def Geno (L : Nat → Nat) (n i : Nat) : Prop := (∀ k, 0 < k → k < n → k ≠ i → (k - 1) / 2 ≠ i → L ((k - 1) / 2) ≤ L k) ∧ ∀ k, 0 < k → k < n → (k - 1) / 2 = i → 0 < i → L ((i - 1) / 2) ≤ L k

theorem Hpo.up {L : Nat → Nat} {n : Nat} (h : Hpo L n) : Upo L (n + 1) n := by
  refine ⟨fun k h0 hk hne => h k h0 (by omega), fun k h0 hk he hn => by omega⟩
theorem Upo.done {L : Nat → Nat} {n j : Nat} (h : Upo L n j) (hj : 0 < j → L ((j - 1) / 2) ≤ L j) : Hpo L n := by
  intro k h0 hk
  by_cases e : k = j
  · subst e; exact hj h0
  · exact h.1 k h0 hk e
theorem Upo.step {L : Nat → Nat} {n j : Nat} (h : Upo L n j) (hj : 0 < j) (hn : j < n) (hlt : L j < L ((j - 1) / 2)) : Upo (swp L ((j - 1) / 2) j) n ((j - 1) / 2) := by
  obtain ⟨i, hi⟩ : ∃ i, i = (j - 1) / 2 := ⟨_, rfl⟩
  rw [← hi] at hlt ⊢
  have hij : i ≠ j := by omega
  refine ⟨fun k h0 hk hne => ?_, fun k h0 hk he h0i => ?_⟩
  · by_cases e : k = j
    · subst e
      rw [← hi, swp_l, swp_r]; omega
    · rw [swp_o L hne e]
      by_cases e2 : (k - 1) / 2 = i
      · rw [e2, swp_l]
        have := h.1 k h0 hk e
        rw [e2] at this; omega
      · by_cases e3 : (k - 1) / 2 = j
        · rw [e3, swp_r]
          have := h.2 k h0 hk e3 hj
          rw [← hi] at this; exact this
        · rw [swp_o L e2 e3]; exact h.1 k h0 hk e
  · have hpi : (i - 1) / 2 ≠ i := by omega
    have hpj : (i - 1) / 2 ≠ j := by omega
    rw [swp_o L hpi hpj]
    have h1 := h.1 i h0i (by omega) hij
    by_cases e : k = j
    · subst e; rw [swp_r]; exact h1
    · rw [swp_o L (by omega) e]
      have h2 := h.1 k h0 hk e
      rw [he] at h2; omega

/-- What stands at i was replaced. -/
theorem Hpo.gen {L L' : Nat → Nat} {n m i : Nat} (h : Hpo L m) (hn : n ≤ m) (hi : i < m) (he : ∀ k, k < n → k ≠ i → L' k = L k) : Geno L' n i := by
  refine ⟨fun k h0 hk hne hp => ?_, fun k h0 hk hp h0i => ?_⟩
  · rw [he k hk hne, he _ (by omega) hp]; exact h k h0 (by omega)
  · rw [he k hk (by omega), he _ (by omega) (by omega)]
    have h1 := h k h0 (by omega)
    have h2 := h i h0i hi
    rw [hp] at h1; omega
/-- Nothing below is less: it may be too small alone. -/
theorem Geno.up {L : Nat → Nat} {n i : Nat} (h : Geno L n i) (hc : ∀ k, 0 < k → k < n → (k - 1) / 2 = i → L i ≤ L k) : Upo L n i := by
  refine ⟨fun k h0 hk hne => ?_, h.2⟩
  by_cases e : (k - 1) / 2 = i
  · rw [e]; exact hc k h0 hk e
  · exact h.1 k h0 hk hne e
theorem Geno.done {L : Nat → Nat} {n i : Nat} (h : Geno L n i) (hp : 0 < i → L ((i - 1) / 2) ≤ L i) (hc : ∀ k, 0 < k → k < n → (k - 1) / 2 = i → L i ≤ L k) : Hpo L n := (h.up hc).done hp
/-- A step down, to the lesser one of those below. -/
theorem Geno.step {L : Nat → Nat} {n i j : Nat} (h : Geno L n i) (hj : (j - 1) / 2 = i) (h0 : 0 < j) (hn : j < n) (hl : L j < L i) (hm : ∀ k, 0 < k → k < n → (k - 1) / 2 = i → L j ≤ L k) :
    Geno (swp L i j) n j ∧ (0 < j → swp L i j ((j - 1) / 2) ≤ swp L i j j) := by
  have hij : i ≠ j := by omega
  refine ⟨⟨fun k hk0 hk hne hp => ?_, fun k hk0 hk hp _ => ?_⟩, fun _ => by rw [hj, swp_l, swp_r]; omega⟩
  · by_cases e : k = i
    · subst e
      rw [swp_l, swp_o L (by omega) hp]
      exact h.2 j h0 hn hj hk0
    · rw [swp_o L e hne]
      by_cases e2 : (k - 1) / 2 = i
      · rw [e2, swp_l]; exact hm k hk0 hk e2
      · rw [swp_o L e2 hp]; exact h.1 k hk0 hk e e2
  · rw [hj, swp_l, swp_o L (by omega) (by omega)]
    have := h.1 k hk0 hk (by omega) (by omega)
    rw [hp] at this; exact this
end Go.Proofs.YtohaoeilodebmaaDoor
