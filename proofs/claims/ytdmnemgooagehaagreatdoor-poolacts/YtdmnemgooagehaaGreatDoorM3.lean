/- Lists of blocks with one less, with one more, the best one of a list, and how many pages a list has. No program is named here. -/
import Derived.Test.YtdmnemgooagehaaGreatDoorWb
namespace Go.Proofs.YtdmnemgooagehaaGreatDoor

theorem rise_at {U : List (Nat × Nat)} (h : Rise U) {s t : Nat} {x : Nat × Nat} (hs : U[s]? = some x) (ht : U[t]? = some x) : s = t := by
  obtain ⟨l1, e1⟩ := List.getElem?_eq_some_iff.1 hs
  obtain ⟨l2, e2⟩ := List.getElem?_eq_some_iff.1 ht
  have hp := List.pairwise_iff_getElem.1 h
  apply Decidable.byContradiction
  intro hne
  by_cases hlt : s < t
  · have := hp s t l1 l2 hlt
    rw [e1, e2] at this; omega
  · have := hp t s l2 l1 (by omega)
    rw [e1, e2] at this; omega
theorem rise_lt {U : List (Nat × Nat)} (h : Rise U) {s t : Nat} {x y : Nat × Nat} (hs : U[s]? = some x) (ht : U[t]? = some y) (hxy : x.1 < y.1) : s < t := by
  obtain ⟨l1, e1⟩ := List.getElem?_eq_some_iff.1 hs
  obtain ⟨l2, e2⟩ := List.getElem?_eq_some_iff.1 ht
  have hp := List.pairwise_iff_getElem.1 h
  apply Decidable.byContradiction
  intro hne
  by_cases e : s = t
  · subst e; rw [e1] at e2; rw [e2] at hxy; omega
  · have := hp t s l2 l1 (by omega)
    rw [e1, e2] at this; omega

theorem Lst.erase {A B : St} {x : Kind} {L : List (Nat × Nat)} (h : Lst A x L) {i k n : Nat} (hi : L[i]? = some (n * 2 ^ k, k)) (hB : ∀ k' j, B k' j = x ↔ (A k' j = x ∧ ¬ (k' = k ∧ j = n))) : Lst B x (L.eraseIdx i) := by
  refine ⟨List.Pairwise.sublist (List.eraseIdx_sublist L i) h.rise, fun p k' => ?_⟩
  rw [List.mem_eraseIdx_iff_getElem?]
  constructor
  · rintro ⟨j, hj, e⟩
    obtain ⟨n', rfl, hb⟩ := (h.mem p k').1 (List.mem_of_getElem? e)
    refine ⟨n', rfl, (hB k' n').2 ⟨hb, ?_⟩⟩
    rintro ⟨rfl, rfl⟩
    exact hj (rise_at h.rise e hi)
  · rintro ⟨n', rfl, hb⟩
    obtain ⟨h1, h2⟩ := (hB k' n').1 hb
    obtain ⟨j, hj, e⟩ := List.getElem_of_mem ((h.mem _ _).2 ⟨n', rfl, h1⟩)
    have e' : L[j]? = some (n' * 2 ^ k', k') := by rw [List.getElem?_eq_getElem hj, e]
    refine ⟨j, ?_, e'⟩
    rintro rfl
    rw [hi] at e'
    obtain ⟨e1, rfl⟩ : n * 2 ^ k = n' * 2 ^ k' ∧ k = k' := by simpa using e'
    exact h2 ⟨rfl, (Nat.eq_of_mul_eq_mul_right (Nat.two_pow_pos _) e1).symm⟩

theorem Lst.insert {A B : St} {x : Kind} {L : List (Nat × Nat)} (h : Lst A x L) {t k n : Nat} (h1 : ∀ y ∈ L.take t, y.1 < n * 2 ^ k) (h2 : ∀ y ∈ L.drop t, n * 2 ^ k < y.1) (hB : ∀ k' j, B k' j = x ↔ (A k' j = x ∨ k' = k ∧ j = n)) : Lst B x (L.take t ++ (n * 2 ^ k, k) :: L.drop t) := by
  refine ⟨?_, fun p k' => ?_⟩
  · have hr := h.rise
    rw [← List.take_append_drop t L] at hr
    obtain ⟨r1, r2, r3⟩ := List.pairwise_append.1 hr
    refine List.pairwise_append.2 ⟨r1, List.pairwise_cons.2 ⟨h2, r2⟩, fun a ha b hb => ?_⟩
    rcases List.mem_cons.1 hb with rfl | hb
    · exact h1 a ha
    · exact r3 a ha b hb
  · have hm : (p, k') ∈ L.take t ++ (n * 2 ^ k, k) :: L.drop t ↔ (p, k') ∈ L ∨ (p, k') = (n * 2 ^ k, k) := by
      conv => rhs; rw [← List.take_append_drop t L]
      simp only [List.mem_append, List.mem_cons]
      constructor
      · rintro (h | h | h)
        · exact .inl (.inl h)
        · exact .inr h
        · exact .inl (.inr h)
      · rintro ((h | h) | h)
        · exact .inl h
        · exact .inr (.inr h)
        · exact .inr (.inl h)
    rw [hm, h.mem]
    constructor
    · rintro (⟨n', rfl, hb⟩ | e)
      · exact ⟨n', rfl, (hB _ _).2 (.inl hb)⟩
      · obtain ⟨rfl, rfl⟩ : p = n * 2 ^ k ∧ k' = k := by simpa using e
        exact ⟨n, rfl, (hB _ _).2 (.inr ⟨rfl, rfl⟩)⟩
    · rintro ⟨n', rfl, hb⟩
      rcases (hB _ _).1 hb with hb | ⟨rfl, rfl⟩
      · exact .inl ⟨n', rfl, hb⟩
      · exact .inr rfl

/-- Where put stops: all behind are greater, and the one ahead isn't. -/
theorem put_place {K : Nat} {A B : St} {x : Kind} {L : List (Nat × Nat)} (hA : Lst A x L) (hi : Inv K B) (hx : x ≠ .no) {t k n : Nat} (hB : ∀ k' j, B k' j = x ↔ (A k' j = x ∨ k' = k ∧ j = n)) (hn : A k n ≠ x)
    (hr : ∀ j p k' : Nat, t ≤ j → L[j]? = some (p, k') → n * 2 ^ k < p) (hl : t = 0 ∨ ∃ p k', L[t - 1]? = some (p, k') ∧ p ≤ n * 2 ^ k) :
    (∀ y ∈ L.take t, y.1 < n * 2 ^ k) ∧ ∀ y ∈ L.drop t, n * 2 ^ k < y.1 := by
  have hne : ∀ p k', (p, k') ∈ L → p ≠ n * 2 ^ k := by
    rintro p k' hm rfl
    obtain ⟨n', e, hb⟩ := (hA.mem _ _).1 hm
    obtain ⟨rfl, rfl⟩ := begins hi (k := k) (i := n) (k' := k') (i' := n') (by rw [(hB k n).2 (.inr ⟨rfl, rfl⟩)]; exact hx) (by rw [(hB k' n').2 (.inl hb)]; exact hx) e
    exact hn hb
  constructor
  · rintro ⟨p, k'⟩ hy
    rcases hl with rfl | ⟨q, kq, hq, hle⟩
    · simp at hy
    · obtain ⟨j, hj, e⟩ := List.getElem_of_mem hy
      have hj' : j < t := by have := List.length_take_le t L; omega
      have e' : L[j]? = some (p, k') := by
        rw [← e, List.getElem_take, List.getElem?_eq_getElem]
      have hq' := hne q kq (List.mem_of_getElem? hq)
      by_cases ej : j = t - 1
      · subst ej
        rw [hq] at e'
        obtain ⟨rfl, rfl⟩ : q = p ∧ kq = k' := by simpa using e'
        show q < _; omega
      · obtain ⟨l1, e1⟩ := List.getElem?_eq_some_iff.1 e'
        obtain ⟨l2, e2⟩ := List.getElem?_eq_some_iff.1 hq
        have := List.pairwise_iff_getElem.1 hA.rise j (t - 1) l1 l2 (by omega)
        rw [e1, e2] at this
        show p < _
        simp at this
        omega
  · rintro ⟨p, k'⟩ hy
    obtain ⟨j, hj, e⟩ := List.getElem_of_mem hy
    have e' : L[t + j]? = some (p, k') := by
      rw [← e, List.getElem_drop, List.getElem?_eq_getElem]
    exact hr (t + j) p k' (by omega) e'

theorem rise_len {N : Nat} : ∀ (L : List (Nat × Nat)) (m : Nat), Rise L → (∀ x ∈ L, m ≤ x.1 ∧ x.1 < N) → m ≤ N → L.length + m ≤ N
  | [], m, _, _, h => by simpa using h
  | a :: L, m, hr, hx, hm => by
    have hr' := List.pairwise_cons.1 hr
    have ha := hx a (by simp)
    have := rise_len L (a.1 + 1) hr'.2 (fun x hxL => ⟨hr'.1 x hxL, (hx x (by simp [hxL])).2⟩) (by omega)
    simp
    omega
theorem Lst.len {K : Nat} {B : St} {x : Kind} {L : List (Nat × Nat)} (h : Lst B x L) (hi : Inv K B) (hx : x ≠ .no) : L.length ≤ 2 ^ K := by
  have := rise_len (N := 2 ^ K) L 0 h.rise (fun y hy => ⟨Nat.zero_le _, by
    have := (h.lt hi hx (p := y.1) (k := y.2) hy).2
    have := Nat.two_pow_pos y.2
    omega⟩) (Nat.zero_le _)
  omega

/-- The best one of the first i: of at least that order, the least, the first of these. -/
def Best (L : List (Nat × Nat)) (o i : Nat) (b : Int) : Prop :=
  (b = -1 ∧ ∀ j p k : Nat, j < i → L[j]? = some (p, k) → k < o) ∨
  ∃ j p k : Nat, b = (j : Int) ∧ j < i ∧ L[j]? = some (p, k) ∧ o ≤ k ∧ (∀ j' p' k' : Nat, j' < i → L[j']? = some (p', k') → o ≤ k' → k ≤ k') ∧ ∀ j' p' k' : Nat, j' < j → L[j']? = some (p', k') → o ≤ k' → k < k'
/-- How many pages a list has. -/
def lpages (L : List (Nat × Nat)) : Nat := (L.map fun x => 2 ^ x.2).sum
theorem pages_list {K : Nat} : ∀ (L : List (Nat × Nat)) (f : Nat → Nat → Bool), L.Nodup → (∀ k i, f k i = true ↔ (i * 2 ^ k, k) ∈ L) → (∀ p k, (p, k) ∈ L → ∃ i, p = i * 2 ^ k ∧ k ≤ K ∧ i < 2 ^ (K - k)) → pages K f (K + 1) = lpages L
  | [], f, _, hf, _ => by
    have e : ∀ N, pages K f N = 0 := by
      intro N
      induction N with
      | zero => rfl
      | succ N ih =>
        show pages K f N + cnt (f N) (2 ^ (K - N)) * 2 ^ N = 0
        have : ∀ m, cnt (f N) m = 0 := by
          intro m
          induction m with
          | zero => rfl
          | succ m ih2 =>
            show cnt (f N) m + (f N m).toNat = 0
            have : f N m = false := by
              cases h : f N m
              · rfl
              · have := (hf N m).1 h; cases this
            rw [ih2, this]; rfl
        rw [ih, this]; simp
    exact e _
  | (p, k) :: L, f, hn, hf, hw => by
    obtain ⟨i, rfl, hk, hi⟩ := hw p k (by simp)
    have hn' := List.nodup_cons.1 hn
    have hnot : ∀ k' i', (i' * 2 ^ k', k') = (i * 2 ^ k, k) ↔ k' = k ∧ i' = i := by
      intro k' i'
      constructor
      · intro e
        obtain ⟨e1, rfl⟩ : i' * 2 ^ k' = i * 2 ^ k ∧ k' = k := by simpa using e
        exact ⟨rfl, Nat.eq_of_mul_eq_mul_right (Nat.two_pow_pos _) e1⟩
      · rintro ⟨rfl, rfl⟩; rfl
    have ih := pages_list (K := K) L (fun k' i' => decide ((i' * 2 ^ k', k') ∈ L)) hn'.2 (fun k' i' => by simp) (fun p' k' hm => hw p' k' (by simp [hm]))
    rw [pages_more (K := K) (f := fun k' i' => decide ((i' * 2 ^ k', k') ∈ L)) (g := f) (o := k) (n := i) (decide_eq_false hn'.1) (fun k' i' => by
      rw [Bool.eq_iff_iff, hf, List.mem_cons, hnot]
      simp only [Bool.or_eq_true, decide_eq_true_eq]
      exact or_comm) hi (N := K + 1) (by omega), ih]
    simp [lpages]
    omega
theorem Lst.pages {K : Nat} {B : St} {L : List (Nat × Nat)} (h : Lst B .free L) (hi : Inv K B) : pages K (isK B .free) (K + 1) = lpages L := by
  refine pages_list L _ (h.rise.imp fun hab e => by rw [e] at hab; omega) (fun k i => ?_) (fun p k hm => ?_)
  · unfold isK
    rw [decide_eq_true_eq, h.mem]
    constructor
    · intro hb; exact ⟨i, rfl, hb⟩
    · rintro ⟨i', e, hb⟩
      rwa [Nat.eq_of_mul_eq_mul_right (Nat.two_pow_pos _) e]
  · obtain ⟨i, rfl, hb⟩ := (h.mem p k).1 hm
    obtain ⟨h1, h2⟩ := hi.inn k i (by rw [hb]; simp)
    exact ⟨i, rfl, h1, h2⟩
end Go.Proofs.YtdmnemgooagehaaGreatDoor
