/- The links behind a node's leaving, and behind its coming. No program is named here. -/
import Derived.Test.YtiechmcfafhfaaaB
namespace Go.Proofs.Ytiechmcfafhfaaa
open Go.RowKit

section
variable {w w' : World} {nb : Nat → Nat} {e : Nd} {L : List Nd} {last : Nat}
theorem NdAt.s0 {ks sibs : List Nat} (h : NdAt w nb e ks sibs) : ∀ j, 3 ≤ j → j < 8 → (w.cell? ⟨nb e.id, j, none⟩).isSome = true := by
  intro j h1 h2
  obtain ⟨v6, e6, _⟩ := h.c6
  obtain ⟨v7, e7, _⟩ := h.c7
  rcases (show j = 3 ∨ j = 4 ∨ j = 5 ∨ j = 6 ∨ j = 7 by omega) with rfl | rfl | rfl | rfl | rfl
  · rw [h.c3]; rfl
  · rw [h.c4]; rfl
  · rw [h.c5]; rfl
  · rw [e6]; rfl
  · rw [e7]; rfl
theorem Links.some (h : Links w nb L) {i : Nat} (hi : ∃ f ∈ L, f.id = i) : ∀ j, 3 ≤ j → j < 8 → (w.cell? ⟨nb i, j, none⟩).isSome = true := by
  obtain ⟨f, hf, rfl⟩ := hi
  exact (h f hf).s0
theorem eld_some (h : Links w nb L) {q : Nat} {o : Option Nat} (hq : ∃ f ∈ L, f.id = q) (ho : ∀ a, o = some a → ∃ f ∈ L, f.id = a) : (w.cell? ⟨(eldA nb q o).1, (eldA nb q o).2, none⟩).isSome = true := by
  cases o with
  | none => exact h.some hq 4 (by omega) (by omega)
  | some a => exact h.some (ho a rfl) 7 (by omega) (by omega)
theorem yng_some (h : Links w nb L) {q : Nat} {o : Option Nat} (hq : ∃ f ∈ L, f.id = q) (ho : ∀ a, o = some a → ∃ f ∈ L, f.id = a) : (w.cell? ⟨(yngA nb q o).1, (yngA nb q o).2, none⟩).isSome = true := by
  cases o with
  | none => exact h.some hq 5 (by omega) (by omega)
  | some a => exact h.some (ho a rfl) 6 (by omega) (by omega)
theorem leave_blk {n a i b j x : Nat} {t : TypeId} {va vb : Value} (h : ∃ cs, w.heap[x]? = some (.cells cs t)) : ∃ cs, (leaveW w n a i b j va vb).heap[x]? = some (.cells cs t) := blk_set (blk_set (blk_set (blk_set (blk_set h))))

/-- The links behind a node's leaving. -/
theorem links_leave (hL : Links w nb L) (h : Wf L last) (ho : Own1 nb L) (he : e ∈ L) (hp : e.par ≠ 0) {s t : List Nat} (hk : kids L e.par = s ++ e.id :: t) :
    Links (leaveW w (nb e.id) (eldA nb e.par s.getLast?).1 (eldA nb e.par s.getLast?).2 (yngA nb e.par t.head?).1 (yngA nb e.par t.head?).2 (optr nb s.getLast?) (optr nb t.head?)) nb (move L e 0) := by
  have hnd := h.kids_nodup e.par
  rw [hk] at hnd
  obtain ⟨n1, n2, n3⟩ := nodup_mid hnd
  have inK : ∀ {x}, x ∈ s ∨ x ∈ t → x ≠ e.id ∧ ∃ f ∈ L, f.id = x ∧ f.par = e.par := by
    intro x hx
    have hm : x ∈ kids L e.par := by rw [hk]; simp; rcases hx with h | h <;> simp [h]
    refine ⟨fun hh => ?_, (mem_kids.1 hm).2⟩
    subst hh
    rcases hx with h | h
    · exact n1 h
    · exact n2 h
  have hq : ∃ f ∈ L, f.id = e.par := (h.par e he).2.resolve_left hp
  have hqn : e.par ≠ e.id := by have := (h.par e he).1; omega
  have hsL : ∀ a, s.getLast? = some a → ∃ f ∈ L, f.id = a := fun a ha => by
    obtain ⟨_, f, hf, e1, _⟩ := inK (.inl (List.mem_of_getLast? ha))
    exact ⟨f, hf, e1⟩
  have htL : ∀ a, t.head? = some a → ∃ f ∈ L, f.id = a := fun a ha => by
    obtain ⟨_, f, hf, e1, _⟩ := inK (.inr (List.mem_of_mem_head? ha))
    exact ⟨f, hf, e1⟩
  have hc := fun x k => leave_cell (va := optr nb s.getLast?) (vb := optr nb t.head?) (eld_some hL hq hsL) (yng_some hL hq htL) ((hL e he).s0 3 (by omega) (by omega)) ((hL e he).s0 6 (by omega) (by omega)) ((hL e he).s0 7 (by omega) (by omega)) x k
  have nbi : ∀ i j, (∃ f ∈ L, f.id = i) → (∃ f ∈ L, f.id = j) → (nb i = nb j ↔ i = j) := by
    rintro i j ⟨f, hf, rfl⟩ ⟨g, hg, rfl⟩
    exact ⟨fun hh => ho f hf g hg hh, fun hh => by rw [hh]⟩
  have heL : ∃ f ∈ L, f.id = e.id := ⟨e, he, rfl⟩
  -- what each cell is now
  have eld : ∀ x k, (∃ f ∈ L, f.id = x) → ((nb x = (eldA nb e.par s.getLast?).1 ∧ k = (eldA nb e.par s.getLast?).2) ↔ (s.getLast? = none ∧ x = e.par ∧ k = 4 ∨ s.getLast? = some x ∧ k = 7)) := by
    intro x k hx
    cases hs : s.getLast? with
    | none => simp [eldA, nbi x e.par hx hq]
    | some a =>
      show (nb x = nb a ∧ k = 7) ↔ _
      rw [nbi x a hx (hsL a hs)]
      constructor
      · rintro ⟨rfl, rfl⟩; exact .inr ⟨rfl, rfl⟩
      · rintro (⟨h1, _⟩ | ⟨h1, h2⟩)
        · cases h1
        · exact ⟨(Option.some.inj h1).symm, h2⟩
  have yng : ∀ x k, (∃ f ∈ L, f.id = x) → ((nb x = (yngA nb e.par t.head?).1 ∧ k = (yngA nb e.par t.head?).2) ↔ (t.head? = none ∧ x = e.par ∧ k = 5 ∨ t.head? = some x ∧ k = 6)) := by
    intro x k hx
    cases hs : t.head? with
    | none => simp [yngA, nbi x e.par hx hq]
    | some a =>
      show (nb x = nb a ∧ k = 6) ↔ _
      rw [nbi x a hx (htL a hs)]
      constructor
      · rintro ⟨rfl, rfl⟩; exact .inr ⟨rfl, rfl⟩
      · rintro (⟨h1, _⟩ | ⟨h1, h2⟩)
        · cases h1
        · exact ⟨(Option.some.inj h1).symm, h2⟩
  have cell : ∀ x k, (∃ f ∈ L, f.id = x) → (leaveW w (nb e.id) (eldA nb e.par s.getLast?).1 (eldA nb e.par s.getLast?).2 (yngA nb e.par t.head?).1 (yngA nb e.par t.head?).2 (optr nb s.getLast?) (optr nb t.head?)).cell? ⟨nb x, k, none⟩ =
      if x = e.id ∧ (k = 7 ∨ k = 6 ∨ k = 3) then some (.pointer none) else if t.head? = none ∧ x = e.par ∧ k = 5 ∨ t.head? = some x ∧ k = 6 then some (optr nb s.getLast?)
      else if s.getLast? = none ∧ x = e.par ∧ k = 4 ∨ s.getLast? = some x ∧ k = 7 then some (optr nb t.head?) else w.cell? ⟨nb x, k, none⟩ := by
    intro x k hx
    rw [hc]
    simp only [nbi x e.id hx heL, eld x k hx, yng x k hx]
    by_cases a : x = e.id
    · by_cases b7 : k = 7
      · simp [a, b7]
      · by_cases b6 : k = 6
        · simp [a, b6]
        · by_cases b3 : k = 3
          · simp [a, b3]
          · simp [b7, b6, b3]
    · simp [a]
  have hblk := fun x => leave_blk (w := w) (n := nb e.id) (a := (eldA nb e.par s.getLast?).1) (i := (eldA nb e.par s.getLast?).2) (b := (yngA nb e.par t.head?).1) (j := (yngA nb e.par t.head?).2) (x := x) (t := 66) (va := optr nb s.getLast?) (vb := optr nb t.head?)
  generalize leaveW w (nb e.id) (eldA nb e.par s.getLast?).1 (eldA nb e.par s.getLast?).2 (yngA nb e.par t.head?).1 (yngA nb e.par t.head?).2 (optr nb s.getLast?) (optr nb t.head?) = W at cell hblk ⊢
  have hkm : ∀ i, kids (move L e 0) i = (kids L i).filter (fun k => k != e.id) := by
    intro i
    rw [kids_move]
    by_cases h0 : i = 0
    · simp [h0]
    · simp [Ne.symm h0]
  have hkq : kids (move L e 0) e.par = s ++ t := by rw [hkm, hk, filter_mid hnd]
  have hko : ∀ i, i ≠ e.par → kids (move L e 0) i = kids L i := by
    intro i hi
    rw [hkm, filter_none]
    intro hm
    obtain ⟨_, f, hf, e1, e2⟩ := mem_kids.1 hm
    rw [h.inj hf he e1] at e2
    exact hi e2.symm
  intro x hx
  rcases mem_move.1 hx with ⟨hxL, hne⟩ | rfl
  · have H := hL x hxL
    have hxi : ∃ f ∈ L, f.id = x.id := ⟨x, hxL, rfl⟩
    have keep : ∀ k, k < 4 → W.cell? ⟨nb x.id, k, none⟩ = w.cell? ⟨nb x.id, k, none⟩ := by
      intro k hk4
      rw [cell x.id k hxi, if_neg (fun hh => hne hh.1), if_neg (by omega), if_neg (by omega)]
    refine ⟨hblk _ H.blk, by rw [keep _ (by omega)]; exact H.c0, by rw [keep _ (by omega)]; exact H.c1, by rw [keep _ (by omega)]; exact H.c2, by rw [keep _ (by omega)]; exact H.c3, ?_, ?_, ?_, ?_⟩
    · rw [cell x.id 4 hxi, if_neg (fun hh => hne hh.1), if_neg (by omega)]
      by_cases hq2 : x.id = e.par
      · rw [hq2, hkq]
        cases hs : s with
        | nil => simp
        | cons y r =>
          rw [if_neg (by simp)]
          have := H.c4
          rw [hq2, hk, hs] at this
          simpa using this
      · rw [if_neg (by simp [hq2]), hko _ hq2]
        exact H.c4
    · rw [cell x.id 5 hxi, if_neg (fun hh => hne hh.1)]
      by_cases hq2 : x.id = e.par
      · rw [hq2, hkq]
        cases ht : t with
        | nil => simp
        | cons y r =>
          rw [if_neg (by simp), if_neg (by simp)]
          have := H.c5
          rw [hq2, hk, ht] at this
          rw [this, List.getLast?_append, List.getLast?_append]
          simp [List.getLast?_cons]
      · rw [if_neg (by simp [hq2]), if_neg (by simp), hko _ hq2]
        exact H.c5
    · obtain ⟨v, e6, h6⟩ := H.c6
      refine ⟨if t.head? = some x.id then optr nb s.getLast? else v, ?_, ?_⟩
      · rw [cell x.id 6 hxi, if_neg (fun hh => hne hh.1)]
        by_cases hh : t.head? = some x.id
        · simp [hh]
        · simp [hh, e6]
      · by_cases hq2 : x.par = e.par
        · rw [hq2, hkq]
          rw [hq2, hk] at h6
          exact ahead_gone hnd h6
        · rw [hko _ hq2, if_neg]
          · exact h6
          · intro hh
            obtain ⟨_, f, hf, e1, e2⟩ := inK (.inr (List.mem_of_mem_head? hh))
            rw [h.inj hf hxL e1] at e2
            exact hq2 e2
    · obtain ⟨v, e7, h70, h7⟩ := H.c7
      refine ⟨if s.getLast? = some x.id then optr nb t.head? else v, ?_, ?_, ?_⟩
      · rw [cell x.id 7 hxi, if_neg (fun hh => hne hh.1), if_neg (by omega)]
        by_cases hh : s.getLast? = some x.id
        · simp [hh]
        · simp [hh, e7]
      · intro h0
        rw [if_neg]
        · exact h70 h0
        · intro hh
          obtain ⟨_, f, hf, e1, e2⟩ := inK (.inl (List.mem_of_getLast? hh))
          rw [h.inj hf hxL e1] at e2
          exact hp (e2.symm.trans h0)
      · by_cases hq2 : x.par = e.par
        · rw [hq2, hkq]
          rw [hq2, hk] at h7
          exact behind_gone hnd h7
        · rw [hko _ hq2, if_neg]
          · exact h7
          · intro hh
            obtain ⟨_, f, hf, e1, e2⟩ := inK (.inl (List.mem_of_getLast? hh))
            rw [h.inj hf hxL e1] at e2
            exact hq2 e2
  · have H := hL e he
    have ts : t.head? ≠ some e.id := fun hh => n2 (List.mem_of_mem_head? hh)
    have ss : s.getLast? ≠ some e.id := fun hh => n1 (List.mem_of_getLast? hh)
    have keep : ∀ k, k ≠ 3 → k ≠ 6 → k ≠ 7 → W.cell? ⟨nb e.id, k, none⟩ = w.cell? ⟨nb e.id, k, none⟩ := by
      intro k k3 k6 k7
      rw [cell e.id k heL, if_neg (by omega), if_neg (by simp [Ne.symm hqn, ts]), if_neg (by simp [Ne.symm hqn, ss])]
    show NdAt W nb { e with par := 0 } (kids (move L e 0) e.id) (kids (move L e 0) 0)
    rw [hko e.id (Ne.symm hqn), kids_zero]
    refine ⟨hblk _ H.blk, ?_, ?_, ?_, ?_, ?_, ?_, ⟨.pointer none, ?_, fun s t hst => by simp at hst⟩, ⟨.pointer none, ?_, fun _ => rfl, fun s t hst => by simp at hst⟩⟩
    · exact (keep 0 (by omega) (by omega) (by omega)).trans H.c0
    · exact (keep 1 (by omega) (by omega) (by omega)).trans H.c1
    · exact (keep 2 (by omega) (by omega) (by omega)).trans H.c2
    · show W.cell? ⟨nb e.id, 3, none⟩ = _
      rw [cell e.id 3 heL, if_pos ⟨rfl, by omega⟩]
      rfl
    · exact (keep 4 (by omega) (by omega) (by omega)).trans H.c4
    · exact (keep 5 (by omega) (by omega) (by omega)).trans H.c5
    · show W.cell? ⟨nb e.id, 6, none⟩ = _
      rw [cell e.id 6 heL, if_pos ⟨rfl, by omega⟩]
    · show W.cell? ⟨nb e.id, 7, none⟩ = _
      rw [cell e.id 7 heL, if_pos ⟨rfl, by omega⟩]

/-- Who stands at the end. -/
theorem ahead_more {f : Option Nat → Value} {l : List Nat} {n x : Nat} {v : Value} (hx : x ≠ n) (h : ∀ s1 t1, l = s1 ++ x :: t1 → v = f s1.getLast?) : ∀ s1 t1, l ++ [n] = s1 ++ x :: t1 → v = f s1.getLast? := by
  intro s1 t1 e1
  rcases List.append_eq_append_iff.1 e1 with ⟨a, rfl, e2⟩ | ⟨c, e2, e3⟩
  · cases a with
    | nil => simp at e2; exact absurd e2.1.symm hx
    | cons y r => simp at e2
  · cases c with
    | nil => simp at e3; exact absurd e3.1 hx
    | cons y r =>
      obtain ⟨rfl, _⟩ : x = y ∧ t1 = r ++ [n] := by simpa using e3
      exact h s1 r e2
theorem behind_more {f : Option Nat → Value} {l : List Nat} {n x : Nat} {v : Value} (hx : x ≠ n) (hl : l.Nodup) (h : ∀ s1 t1, l = s1 ++ x :: t1 → v = f t1.head?) : ∀ s1 t1, l ++ [n] = s1 ++ x :: t1 → (if l.getLast? = some x then f (some n) else v) = f t1.head? := by
  intro s1 t1 e1
  rcases List.append_eq_append_iff.1 e1 with ⟨a, rfl, e2⟩ | ⟨c, e2, e3⟩
  · cases a with
    | nil => simp at e2; exact absurd e2.1.symm hx
    | cons y r => simp at e2
  · cases c with
    | nil => simp at e3; exact absurd e3.1 hx
    | cons y r =>
      obtain ⟨rfl, rfl⟩ : x = y ∧ t1 = r ++ [n] := by simpa using e3
      subst e2
      cases r with
      | nil => simp
      | cons z r =>
        rw [if_neg]
        · rw [h s1 (z :: r) rfl]; rfl
        · intro hh
          rw [List.getLast?_append] at hh
          have : (x :: z :: r).getLast? = some x := by simpa using hh
          rw [List.getLast?_cons_cons] at this
          rw [List.nodup_append] at hl
          exact (List.nodup_cons.1 hl.2.1).1 (List.mem_of_getLast? this)
theorem at_end {l s1 t1 : List Nat} {n : Nat} (hn : n ∉ l) (e1 : l ++ [n] = s1 ++ n :: t1) : s1 = l ∧ t1 = [] := by
  rcases List.append_eq_append_iff.1 e1 with ⟨a, rfl, e2⟩ | ⟨c, e2, e3⟩
  · cases a with
    | nil => simp at e2; exact ⟨by simp, e2⟩
    | cons y r => simp at e2
  · cases c with
    | nil => simp at e3 e2; exact ⟨e2.symm, e3⟩
    | cons y r =>
      obtain ⟨rfl, _⟩ : n = y ∧ t1 = r ++ [n] := by simpa using e3
      exact absurd (by rw [e2]; simp) hn

/-- A node comes to a parent. -/
def joinW (w : World) (n q a i : Nat) (va : Value) : World := (((w.setCell ⟨n, 3, none⟩ (ptr q)).setCell ⟨n, 6, none⟩ va).setCell ⟨a, i, none⟩ (ptr n)).setCell ⟨q, 5, none⟩ (ptr n)
theorem join_cell {n q a i : Nat} {va : Value} (h1 : (w.cell? ⟨a, i, none⟩).isSome = true) (h3 : (w.cell? ⟨n, 3, none⟩).isSome = true) (h6 : (w.cell? ⟨n, 6, none⟩).isSome = true) (h5 : (w.cell? ⟨q, 5, none⟩).isSome = true) (x k : Nat) :
    (joinW w n q a i va).cell? ⟨x, k, none⟩ = if x = q ∧ k = 5 then some (ptr n) else if x = a ∧ k = i then some (ptr n) else if x = n ∧ k = 6 then some va else if x = n ∧ k = 3 then some (ptr q) else w.cell? ⟨x, k, none⟩ := by
  unfold joinW
  rw [cell_set (some_set (some_set (some_set h3 h6) (some_set h3 h1)) (some_set (some_set h3 h6) (some_set h3 h5))), cell_set (some_set (some_set h3 h6) (some_set h3 h1)), cell_set (some_set h3 h6), cell_set h3]
theorem join_blk {n q a i x : Nat} {t : TypeId} {va : Value} (h : ∃ cs, w.heap[x]? = some (.cells cs t)) : ∃ cs, (joinW w n q a i va).heap[x]? = some (.cells cs t) := blk_set (blk_set (blk_set (blk_set h)))

/-- The links behind a node's coming. -/
theorem links_join (hL : Links w nb L) (h : Wf L last) (ho : Own1 nb L) (he : e ∈ L) (hp : e.par = 0) {q : Nat} (hq0 : q ≠ 0) (hq : ∃ f ∈ L, f.id = q) (hqn : q ≠ e.id) :
    Links (joinW w (nb e.id) (nb q) (eldA nb q (kids L q).getLast?).1 (eldA nb q (kids L q).getLast?).2 (optr nb (kids L q).getLast?)) nb (move L e q) := by
  have inK : ∀ {i x}, x ∈ kids L i → x ≠ e.id ∧ ∃ f ∈ L, f.id = x ∧ f.par = i := by
    intro i x hx
    obtain ⟨h0, f, hf, e1, e2⟩ := mem_kids.1 hx
    refine ⟨fun hh => ?_, f, hf, e1, e2⟩
    rw [h.inj hf he (e1.trans hh)] at e2
    omega
  have hnd := h.kids_nodup q
  have hkl : ∀ a, (kids L q).getLast? = some a → ∃ f ∈ L, f.id = a := fun a ha => by
    obtain ⟨_, f, hf, e1, _⟩ := inK (List.mem_of_getLast? ha)
    exact ⟨f, hf, e1⟩
  have heL : ∃ f ∈ L, f.id = e.id := ⟨e, he, rfl⟩
  have hc := fun x k => join_cell (va := optr nb (kids L q).getLast?) (eld_some hL hq hkl) ((hL e he).s0 3 (by omega) (by omega)) ((hL e he).s0 6 (by omega) (by omega)) (hL.some hq 5 (by omega) (by omega)) x k
  have nbi : ∀ i j, (∃ f ∈ L, f.id = i) → (∃ f ∈ L, f.id = j) → (nb i = nb j ↔ i = j) := by
    rintro i j ⟨f, hf, rfl⟩ ⟨g, hg, rfl⟩
    exact ⟨fun hh => ho f hf g hg hh, fun hh => by rw [hh]⟩
  have eld : ∀ x k, (∃ f ∈ L, f.id = x) → ((nb x = (eldA nb q (kids L q).getLast?).1 ∧ k = (eldA nb q (kids L q).getLast?).2) ↔ ((kids L q).getLast? = none ∧ x = q ∧ k = 4 ∨ (kids L q).getLast? = some x ∧ k = 7)) := by
    intro x k hx
    cases hs : (kids L q).getLast? with
    | none => simp [eldA, nbi x q hx hq]
    | some a =>
      show (nb x = nb a ∧ k = 7) ↔ _
      rw [nbi x a hx (hkl a hs)]
      constructor
      · rintro ⟨rfl, rfl⟩; exact .inr ⟨rfl, rfl⟩
      · rintro (⟨h1, _⟩ | ⟨h1, h2⟩)
        · cases h1
        · exact ⟨(Option.some.inj h1).symm, h2⟩
  have cell : ∀ x k, (∃ f ∈ L, f.id = x) → (joinW w (nb e.id) (nb q) (eldA nb q (kids L q).getLast?).1 (eldA nb q (kids L q).getLast?).2 (optr nb (kids L q).getLast?)).cell? ⟨nb x, k, none⟩ =
      if x = q ∧ k = 5 then some (ptr (nb e.id)) else if (kids L q).getLast? = none ∧ x = q ∧ k = 4 ∨ (kids L q).getLast? = some x ∧ k = 7 then some (ptr (nb e.id))
      else if x = e.id ∧ k = 6 then some (optr nb (kids L q).getLast?) else if x = e.id ∧ k = 3 then some (ptr (nb q)) else w.cell? ⟨nb x, k, none⟩ := by
    intro x k hx
    rw [hc]
    simp only [nbi x e.id hx heL, nbi x q hx hq, eld x k hx]
  have hblk := fun x => join_blk (w := w) (n := nb e.id) (q := nb q) (a := (eldA nb q (kids L q).getLast?).1) (i := (eldA nb q (kids L q).getLast?).2) (x := x) (t := 66) (va := optr nb (kids L q).getLast?)
  generalize joinW w (nb e.id) (nb q) (eldA nb q (kids L q).getLast?).1 (eldA nb q (kids L q).getLast?).2 (optr nb (kids L q).getLast?) = W at cell hblk ⊢
  have hkq : kids (move L e q) q = kids L q ++ [e.id] := by
    rw [kids_move, filter_none (fun hm => (inK hm).1 rfl), if_pos ⟨hq0, rfl⟩]
  have hko : ∀ i, i ≠ q → kids (move L e q) i = kids L i := by
    intro i hi
    rw [kids_move, filter_none (fun hm => (inK hm).1 rfl), if_neg (fun hh => hi hh.2.symm), List.append_nil]
  have hel : (kids L q).getLast? ≠ some e.id := fun hh => (inK (List.mem_of_getLast? hh)).1 rfl
  intro x hx
  rcases mem_move.1 hx with ⟨hxL, hne⟩ | rfl
  · have H := hL x hxL
    have hxi : ∃ f ∈ L, f.id = x.id := ⟨x, hxL, rfl⟩
    have keep : ∀ k, k < 4 → W.cell? ⟨nb x.id, k, none⟩ = w.cell? ⟨nb x.id, k, none⟩ := by
      intro k hk4
      rw [cell x.id k hxi, if_neg (by omega), if_neg (by omega), if_neg (fun hh => hne hh.1), if_neg (fun hh => hne hh.1)]
    refine ⟨hblk _ H.blk, by rw [keep _ (by omega)]; exact H.c0, by rw [keep _ (by omega)]; exact H.c1, by rw [keep _ (by omega)]; exact H.c2, by rw [keep _ (by omega)]; exact H.c3, ?_, ?_, ?_, ?_⟩
    · rw [cell x.id 4 hxi, if_neg (by omega)]
      by_cases hq2 : x.id = q
      · rw [hq2, hkq]
        cases hs : kids L q with
        | nil => simp [optr]
        | cons y r =>
          rw [if_neg (by simp), if_neg (fun hh => hne (hq2.trans hh.1)), if_neg (fun hh => hne (hq2.trans hh.1))]
          have := H.c4
          rw [hq2, hs] at this
          simpa using this
      · rw [if_neg (by simp [hq2]), if_neg (fun hh => hne hh.1), if_neg (fun hh => hne hh.1), hko _ hq2]
        exact H.c4
    · rw [cell x.id 5 hxi]
      by_cases hq2 : x.id = q
      · rw [if_pos ⟨hq2, rfl⟩, hq2, hkq]
        simp [optr]
      · rw [if_neg (fun hh => hq2 hh.1), if_neg (by simp), if_neg (fun hh => hne hh.1), if_neg (fun hh => hne hh.1), hko _ hq2]
        exact H.c5
    · obtain ⟨v, e6, h6⟩ := H.c6
      refine ⟨v, ?_, ?_⟩
      · rw [cell x.id 6 hxi, if_neg (by omega), if_neg (by omega), if_neg (fun hh => hne hh.1), if_neg (fun hh => hne hh.1)]
        exact e6
      · by_cases hq2 : x.par = q
        · rw [hq2, hkq]
          rw [hq2] at h6
          exact ahead_more hne h6
        · rw [hko _ hq2]
          exact h6
    · obtain ⟨v, e7, h70, h7⟩ := H.c7
      refine ⟨if (kids L q).getLast? = some x.id then optr nb (some e.id) else v, ?_, ?_, ?_⟩
      · rw [cell x.id 7 hxi, if_neg (by omega)]
        by_cases hh : (kids L q).getLast? = some x.id
        · simp [hh, optr]
        · rw [if_neg (by simp [hh]), if_neg (fun hh => hne hh.1), if_neg (fun hh => hne hh.1), if_neg hh]
          exact e7
      · intro h0
        rw [if_neg]
        · exact h70 h0
        · intro hh
          obtain ⟨_, f, hf, e1, e2⟩ := inK (List.mem_of_getLast? hh)
          rw [h.inj hf hxL e1] at e2
          exact hq0 (e2.symm.trans h0)
      · by_cases hq2 : x.par = q
        · rw [hq2, hkq]
          rw [hq2] at h7
          exact behind_more hne hnd h7
        · rw [hko _ hq2, if_neg]
          · exact h7
          · intro hh
            obtain ⟨_, f, hf, e1, e2⟩ := inK (List.mem_of_getLast? hh)
            rw [h.inj hf hxL e1] at e2
            exact hq2 e2
  · have H := hL e he
    have keep : ∀ k, k ≠ 3 → k ≠ 6 → W.cell? ⟨nb e.id, k, none⟩ = w.cell? ⟨nb e.id, k, none⟩ := by
      intro k k3 k6
      rw [cell e.id k heL, if_neg (fun hh => hqn hh.1.symm), if_neg (by simp [Ne.symm hqn, hel]), if_neg (fun hh => k6 hh.2), if_neg (fun hh => k3 hh.2)]
    show NdAt W nb { e with par := q } (kids (move L e q) e.id) (kids (move L e q) q)
    rw [hko e.id (Ne.symm hqn), hkq]
    obtain ⟨v7, e7, h70, _⟩ := H.c7
    refine ⟨hblk _ H.blk, ?_, ?_, ?_, ?_, ?_, ?_, ⟨optr nb (kids L q).getLast?, ?_, fun s1 t1 hst => ?_⟩, ⟨v7, ?_, fun hh => absurd hh hq0, fun s1 t1 hst => ?_⟩⟩
    · exact (keep 0 (by omega) (by omega)).trans H.c0
    · exact (keep 1 (by omega) (by omega)).trans H.c1
    · exact (keep 2 (by omega) (by omega)).trans H.c2
    · show W.cell? ⟨nb e.id, 3, none⟩ = some (optr nb (if q = 0 then none else some q))
      rw [cell e.id 3 heL, if_neg (by omega), if_neg (by omega), if_neg (by omega), if_pos ⟨rfl, rfl⟩, if_neg hq0]
      rfl
    · exact (keep 4 (by omega) (by omega)).trans H.c4
    · exact (keep 5 (by omega) (by omega)).trans H.c5
    · show W.cell? ⟨nb e.id, 6, none⟩ = _
      rw [cell e.id 6 heL, if_neg (by omega), if_neg (by omega), if_pos ⟨rfl, rfl⟩]
    · rw [(at_end (fun hm => (inK hm).1 rfl) hst).1]
    · exact (keep 7 (by omega) (by omega)).trans e7
    · rw [(at_end (fun hm => (inK hm).1 rfl) hst).2, h70 hp]
      rfl
/-- A root comes to the end of the row of roots: nothing turns. -/
theorem links_root (hL : Links w nb L) (h : Wf L last) (he : e ∈ L) (hp : e.par = 0) : Links w nb (move L e 0) := by
  have hk : ∀ i, kids (move L e 0) i = kids L i := by
    intro i
    rw [kids_move, filter_none, if_neg (by omega), List.append_nil]
    intro hm
    obtain ⟨h0, f, hf, e1, e2⟩ := mem_kids.1 hm
    rw [h.inj hf he e1] at e2
    omega
  intro x hx
  rw [hk, hk]
  rcases mem_move.1 hx with ⟨hxL, _⟩ | rfl
  · exact hL x hxL
  · have : ({ e with par := 0 } : Nd) = e := by cases e; simp at hp; subst hp; rfl
    rw [this]
    exact hL e he
/-- Some went: the others' links are as they were, when all below each that went did, and no parent of one that went is left. -/
theorem links_less (hL : Links w nb L) {D : List Nat} (h1 : ∀ e ∈ L, e.par ∈ D → e.id ∈ D) (h2 : ∀ e ∈ L, e.id ∈ D → e.par ≠ 0 → e.par ∈ D) : Links w nb (less L D) := by
  intro x hx
  obtain ⟨hxL, hxD⟩ := mem_less.1 hx
  have hk : ∀ i, i ∉ D → kids (less L D) i = kids L i := by
    intro i hi
    rw [kids_less, List.filter_eq_self]
    intro k hk
    obtain ⟨h0, f, hf, e1, e2⟩ := mem_kids.1 hk
    simp
    intro hd
    have := h2 f hf (by rw [e1]; exact hd) (by rw [e2]; exact h0)
    rw [e2] at this
    exact hi this
  rw [hk _ hxD, hk _ (fun hd => hxD (h1 x hxL hd))]
  exact hL x hxL
end
end Go.Proofs.Ytiechmcfafhfaaa
