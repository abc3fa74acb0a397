/- Things by the times at which they came: what is due, and what is left. No program is named here. -/
import Derived.Test.YtgoennbbpndiiaaF
namespace Go.Proofs.Ytgoennbbpndiiaa

/-- The things d to c, which came at those times, at the time now. -/
def ql (came : Nat → Int) (p now : Int) (d c : Nat) : List (Int × Int) := (List.range' d (c - d)).map fun (j : Nat) => ((j : Int), came j + p - now)
structure St (came : Nat → Int) (p now : Int) (d c : Nat) : Prop where
  le : d ≤ c
  past : ∀ j, j < c → came j ≤ now
  mono : ∀ i j, i ≤ j → j < c → came i ≤ came j
  wait : ∀ j, d ≤ j → j < c → now < came j + p
section
variable {came came' : Nat → Int} {p now : Int} {d c : Nat}
theorem ql_len : (ql came p now d c).length = c - d := by simp [ql]
theorem ql_cons (h : d < c) : ql came p now d c = ((d : Int), came d + p - now) :: ql came p now (d + 1) c := by
  unfold ql
  obtain ⟨k, hk⟩ : ∃ k, c - d = k + 1 := ⟨c - d - 1, by omega⟩
  rw [hk, List.range'_succ, List.map_cons, show c - (d + 1) = k by omega]
theorem ql_none : ql came p now d d = [] := by simp [ql]
theorem ql_add (h : d ≤ c) (hc : came' c = now) (ho : ∀ j, j < c → came' j = came j) : ql came' p now d (c + 1) = ql came p now d c ++ [((c : Int), p)] := by
  unfold ql
  rw [show c + 1 - d = (c - d) + 1 by omega, List.range'_concat, List.map_append]
  congr 1
  · apply List.map_congr_left
    intro j hj
    rw [ho j (by have := List.mem_range'_1.1 hj; omega)]
  · simp only [List.map_cons, List.map_nil]
    rw [show d + 1 * (c - d) = c by omega, hc]
    simp; omega
theorem ql_tick : tickA (ql came p now d c) = ql came p (now + 1) d c := by
  unfold tickA ql
  rw [List.map_map]
  apply List.map_congr_left
  intro j _
  simp; omega
theorem ql_bound (h : St came p now d c) (hp : p ≤ 16) : ∀ t ∈ ql came p now d c, -1000 ≤ t.2 ∧ t.2 ≤ 1000 := by
  intro t ht
  obtain ⟨j, hj, rfl⟩ := List.mem_map.1 ht
  have hj2 := List.mem_range'_1.1 hj
  have h1 := h.wait j (by omega) (by omega)
  have h2 := h.past j (by omega)
  simp only; omega
theorem St.add (h : St came p now d c) (hp : 1 ≤ p) (hc : came' c = now) (ho : ∀ j, j < c → came' j = came j) : St came' p now d (c + 1) := by
  refine ⟨by have := h.le; omega, fun j hj => ?_, fun i j hij hj => ?_, fun j h1 h2 => ?_⟩
  · by_cases e : j = c
    · subst e; omega
    · rw [ho j (by omega)]; exact h.past j (by omega)
  · by_cases e : j = c
    · subst e
      by_cases e2 : i = j
      · subst e2; omega
      · rw [ho i (by omega), hc]; exact h.past i (by omega)
    · rw [ho j (by omega), ho i (by omega)]; exact h.mono i j hij (by omega)
  · by_cases e : j = c
    · subst e; omega
    · rw [ho j (by omega)]; exact h.wait j h1 (by omega)
/-- A tick: so many are due, and just those. -/
theorem St.tick (h : St came p now d c) : ∃ m, St came p (now + 1) (d + m) c ∧ dueOf (tickA (ql came p now d c)) = (List.range' d m).map (fun (j : Nat) => (j : Int)) ∧ restOf (tickA (ql came p now d c)) = ql came p (now + 1) (d + m) c ∧ ∀ j, d ≤ j → j < d + m → came j + p = now + 1 := by
  rw [ql_tick]
  suffices H : ∀ n d, c - d = n → d ≤ c → (∀ j, d ≤ j → j < c → now < came j + p) → ∃ m, d + m ≤ c ∧ (∀ j, d + m ≤ j → j < c → now + 1 < came j + p) ∧ dueOf (ql came p (now + 1) d c) = (List.range' d m).map (fun (j : Nat) => (j : Int)) ∧ restOf (ql came p (now + 1) d c) = ql came p (now + 1) (d + m) c ∧ ∀ j, d ≤ j → j < d + m → came j + p = now + 1 by
    obtain ⟨m, h1, h2, h3, h4, h5⟩ := H _ d rfl h.le h.wait
    exact ⟨m, ⟨h1, fun j hj => by have := h.past j hj; omega, h.mono, h2⟩, h3, h4, h5⟩
  intro n
  induction n with
  | zero =>
    intro d hn hd _
    obtain rfl : d = c := by omega
    exact ⟨0, Nat.le_refl _, fun j _ _ => by omega, by rw [ql_none]; rfl, by rw [Nat.add_zero, ql_none]; rfl, fun j _ _ => by omega⟩
  | succ n ih =>
    intro d hn hd hw
    have hlt : d < c := by omega
    have h0 := hw d (Nat.le_refl _) hlt
    by_cases e : came d + p = now + 1
    · obtain ⟨m, h1, h2, h3, h4, h5⟩ := ih (d + 1) (by omega) (by omega) (fun j h1 h2 => hw j (by omega) h2)
      have hz : came d + p - (now + 1) = 0 := by omega
      refine ⟨m + 1, by omega, fun j hj => h2 j (by omega), ?_, ?_, fun j hj hj2 => ?_⟩
      · rw [ql_cons hlt, hz, (due_yes _ _).1, h3, List.range'_succ, List.map_cons]
      · rw [ql_cons hlt, hz, (due_yes _ _).2, h4, show d + 1 + m = d + (m + 1) by omega]
      · by_cases e2 : j = d
        · subst e2; exact e
        · exact h5 j (by omega) (by omega)
    · have hn := due_no (t := ((d : Int), came d + p - (now + 1))) (by simp only; omega) (ql came p (now + 1) (d + 1) c)
      refine ⟨0, hd, fun j hj hj2 => ?_, by rw [ql_cons hlt, hn.1]; rfl, by rw [Nat.add_zero, ql_cons hlt, hn.2], fun j _ _ => by omega⟩
      have := hw j (by omega) hj2
      have h1 := h.mono d j (by omega) hj2
      omega
end
end Go.Proofs.Ytgoennbbpndiiaa
