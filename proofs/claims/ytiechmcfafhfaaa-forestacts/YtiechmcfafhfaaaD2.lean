/- Contracts of node's leave and join, over the links of all nodes. -/
import Derived.Test.YtiechmcfafhfaaaD
namespace Go.Proofs.Ytiechmcfafhfaaa
open Go.RowKit Go.Maps Go.Shelf

section
variable {w w' : World}
variable {nb : Nat → Nat} {e : Nd} {L : List Nd} {last : Nat}
/-- The nodes' blocks. -/
def NOwn (nb : Nat → Nat) (L : List Nd) (k : Nat) : Prop := ∃ f ∈ L, k = nb f.id
theorem turn_set {S : Nat → Prop} {a i : Nat} {v : Value} (h : Turn S w w') (ha : S a) : Turn S w (w'.setCell ⟨a, i, none⟩ v) := h.but ((But.refl a w').setCell (.inl rfl) v) (.inl ha)
theorem leave_turn {S : Nat → Prop} {n a i b j : Nat} {va vb : Value} (h1 : S n) (h2 : S a) (h3 : S b) : Turn S w (leaveW w n a i b j va vb) :=
  turn_set (turn_set (turn_set (turn_set (turn_set (Turn.refl _ _) h2) h3) h1) h1) h1
theorem join_turn {S : Nat → Prop} {n q a i : Nat} {va : Value} (h1 : S n) (h2 : S a) (h3 : S q) : Turn S w (joinW w n q a i va) := turn_set (turn_set (turn_set (turn_set (Turn.refl _ _) h1) h1) h2) h3
theorem Links.drewN (h : Links w nb L) (k : Nat) : Links (w.drewN k) nb L := h.other (fun _ _ => rfl)
theorem Links.froz (h : Links w nb L) {i : Nat} (hi : ∃ f ∈ L, f.id = i) (j : Nat) : w.frozen? ⟨nb i, j, none⟩ = false := by
  obtain ⟨f, hf, rfl⟩ := hi
  exact (h f hf).frozen j
/-- What leave leaves. -/
def LinkPost (w : World) (nb : Nat → Nat) (L L' : List Nd) (en : Ending) (w' : World) : Prop := en = .returned (.tuple #[]) ∧ Links w' nb L' ∧ Turn (NOwn nb L) w w' ∧ w'.heap.size = w.heap.size
theorem split_at {l : List Nat} {n : Nat} (h : n ∈ l) : ∃ s t, l = s ++ n :: t := List.append_of_mem h
theorem sib (he : e ∈ L) (hp : e.par ≠ 0) : e.id ∈ kids L e.par := mem_kids.2 ⟨hp, e, he, rfl, rfl⟩
theorem leave_any (hL : Links w nb L) (h : Wf L last) (ho : Own1 nb L) (he : e ∈ L) : Calls Try.prog 31 #[ptr (nb e.id)] w (LinkPost w nb L (move L e 0)) := by
  have H := hL e he
  by_cases hp : e.par = 0
  · refine (root_mem w _ (by rw [H.c3, if_pos hp]; rfl)).mono ?_
    rintro en w' ⟨rfl, rfl⟩
    exact ⟨rfl, links_root hL h he hp, Turn.refl _ _, rfl⟩
  · obtain ⟨s, t, hk⟩ := split_at (sib he hp)
    have hnd := h.kids_nodup e.par
    rw [hk] at hnd
    obtain ⟨n1, n2, n3⟩ := nodup_mid hnd
    have hq : ∃ f ∈ L, f.id = e.par := (h.par e he).2.resolve_left hp
    have heL : ∃ f ∈ L, f.id = e.id := ⟨e, he, rfl⟩
    have hqn : e.id ≠ e.par := by have := (h.par e he).1; omega
    have inL : ∀ x, x ∈ kids L e.par → ∃ f ∈ L, f.id = x := fun x hx => by
      obtain ⟨_, f, hf, e1, _⟩ := mem_kids.1 hx
      exact ⟨f, hf, e1⟩
    have nbn : ∀ i j, (∃ f ∈ L, f.id = i) → (∃ f ∈ L, f.id = j) → i ≠ j → nb i ≠ nb j := by
      rintro i j ⟨f, hf, rfl⟩ ⟨g, hg, rfl⟩ hn hh
      exact hn (ho f hf g hg hh)
    have nown : ∀ i, (∃ f ∈ L, f.id = i) → NOwn nb L (nb i) := by
      rintro i ⟨f, hf, rfl⟩
      exact ⟨f, hf, rfl⟩
    have h3 := H.c3
    rw [if_neg hp] at h3
    obtain ⟨v6, e6, h6⟩ := H.c6
    obtain ⟨v7, e7, _, h7⟩ := H.c7
    rw [h6 s t hk] at e6
    rw [h7 s t hk] at e7
    have hl := links_leave hL h ho he hp hk
    have hsL : ∀ a, s.getLast? = some a → a ∈ kids L e.par := fun a ha => by rw [hk]; exact List.mem_append_left _ (List.mem_of_getLast? ha)
    have htL : ∀ a, t.head? = some a → a ∈ kids L e.par := fun a ha => by rw [hk]; exact List.mem_append_right _ (List.mem_cons_of_mem _ (List.mem_of_mem_head? ha))
    have hsn : ∀ a, s.getLast? = some a → e.id ≠ a := fun a ha hh => n1 (by rw [hh]; exact List.mem_of_getLast? ha)
    have htn : ∀ a, t.head? = some a → e.id ≠ a := fun a ha hh => n2 (by rw [hh]; exact List.mem_of_mem_head? ha)
    have f3 := hL.froz heL 3
    have f6 := hL.froz heL 6
    have f7 := hL.froz heL 7
    have nq := nbn _ _ heL hq hqn
    cases hs : s.getLast? with
    | none =>
      cases ht : t.head? with
      | none =>
        rw [hs, ht] at hl
        rw [hs] at e6
        rw [ht] at e7
        refine (leave_00 w _ _ h3 e6 e7 (hL.some hq 4 (by omega) (by omega)) (hL.some hq 5 (by omega) (by omega)) (hL.froz hq 4) (hL.froz hq 5) f3 f6 f7).mono ?_
        rintro en w' ⟨rfl, k, rfl⟩
        exact ⟨rfl, hl.drewN k, (leave_turn (nown _ heL) (nown _ hq) (nown _ hq)).drewN k, by simp [leaveW]⟩
      | some b =>
        rw [hs, ht] at hl
        rw [hs] at e6
        rw [ht] at e7
        have hb := inL _ (htL b ht)
        refine (leave_01 w _ _ (nb b) h3 e6 e7 (hL.some hq 4 (by omega) (by omega)) (hL.some hb 6 (by omega) (by omega)) (hL.froz hq 4) (hL.froz hb 6) f3 f6 f7 (nbn _ _ heL hb (htn b ht))).mono ?_
        rintro en w' ⟨rfl, k, rfl⟩
        exact ⟨rfl, hl.drewN k, (leave_turn (nown _ heL) (nown _ hq) (nown _ hb)).drewN k, by simp [leaveW]⟩
    | some a =>
      have ha := inL _ (hsL a hs)
      cases ht : t.head? with
      | none =>
        rw [hs, ht] at hl
        rw [hs] at e6
        rw [ht] at e7
        refine (leave_10 w _ _ (nb a) h3 e6 e7 (hL.some ha 7 (by omega) (by omega)) (hL.some hq 5 (by omega) (by omega)) (hL.froz ha 7) (hL.froz hq 5) f3 f6 f7 (nbn _ _ heL ha (hsn a hs)) nq).mono ?_
        rintro en w' ⟨rfl, k, rfl⟩
        exact ⟨rfl, hl.drewN k, (leave_turn (nown _ heL) (nown _ ha) (nown _ hq)).drewN k, by simp [leaveW]⟩
      | some b =>
        rw [hs, ht] at hl
        rw [hs] at e6
        rw [ht] at e7
        have hb := inL _ (htL b ht)
        refine (leave_11 w _ _ (nb a) (nb b) h3 e6 e7 (hL.some ha 7 (by omega) (by omega)) (hL.some hb 6 (by omega) (by omega)) (hL.froz ha 7) (hL.froz hb 6) f3 f6 f7 (nbn _ _ heL ha (hsn a hs)) (nbn _ _ heL hb (htn b ht))).mono ?_
        rintro en w' ⟨rfl, k, rfl⟩
        exact ⟨rfl, hl.drewN k, (leave_turn (nown _ heL) (nown _ ha) (nown _ hb)).drewN k, by simp [leaveW]⟩
/-- The pointer to a parent; nil of 0. -/
def pptr (nb : Nat → Nat) (q : Nat) : Value := optr nb (if q = 0 then none else some q)
theorem join_any (hL : Links w nb L) (h : Wf L last) (ho : Own1 nb L) (he : e ∈ L) (hp : e.par = 0) {q : Nat} (hq : q = 0 ∨ ∃ f ∈ L, f.id = q) (hqn : q < e.id) : Calls Try.prog 30 #[ptr (nb e.id), pptr nb q] w (LinkPost w nb L (move L e q)) := by
  have H := hL e he
  by_cases h0 : q = 0
  · subst h0
    refine (join_nil w _).mono ?_
    rintro en w' ⟨rfl, rfl⟩
    exact ⟨rfl, links_root hL h he hp, Turn.refl _ _, rfl⟩
  · have hq := hq.resolve_left h0
    have hl := links_join hL h ho he hp h0 hq (by omega)
    have hv : pptr nb q = ptr (nb q) := by unfold pptr; rw [if_neg h0]; rfl
    rw [hv]
    obtain ⟨f, hf, hfq⟩ := hq
    have h5 := (hL f hf).c5
    rw [hfq] at h5
    have hq : ∃ f ∈ L, f.id = q := ⟨f, hf, hfq⟩
    have heL : ∃ f ∈ L, f.id = e.id := ⟨e, he, rfl⟩
    have nbn : ∀ i j, (∃ f ∈ L, f.id = i) → (∃ f ∈ L, f.id = j) → i ≠ j → nb i ≠ nb j := by
      rintro i j ⟨f, hf, rfl⟩ ⟨g, hg, rfl⟩ hn hh
      exact hn (ho f hf g hg hh)
    have nown : ∀ i, (∃ f ∈ L, f.id = i) → NOwn nb L (nb i) := by
      rintro i ⟨f, hf, rfl⟩
      exact ⟨f, hf, rfl⟩
    obtain ⟨v6, e6, _⟩ := H.c6
    have nq := nbn _ _ heL hq (by omega)
    cases hs : (kids L q).getLast? with
    | none =>
      rw [hs] at hl h5
      refine (join_0 w _ _ _ _ H.c3 e6 h5 (hL.some hq 4 (by omega) (by omega)) (hL.froz hq 4) (hL.froz hq 5) (hL.froz heL 3) (hL.froz heL 6)).mono ?_
      rintro en w' ⟨rfl, rfl⟩
      exact ⟨rfl, hl, join_turn (nown _ heL) (nown _ hq) (nown _ hq), by simp [joinW]⟩
    | some a =>
      rw [hs] at hl h5
      obtain ⟨_, g, hg, hga, hgp⟩ := mem_kids.1 (List.mem_of_getLast? hs)
      have ha : ∃ f ∈ L, f.id = a := ⟨g, hg, hga⟩
      have hna : e.id ≠ a := fun hh => by
        rw [h.inj hg he (hga.trans hh.symm)] at hgp
        omega
      refine (join_1 w _ _ (nb a) _ _ H.c3 e6 h5 (hL.some ha 7 (by omega) (by omega)) (hL.froz ha 7) (hL.froz hq 5) (hL.froz heL 3) (hL.froz heL 6)).mono ?_
      rintro en w' ⟨rfl, rfl⟩
      exact ⟨rfl, hl, join_turn (nown _ heL) (nown _ ha) (nown _ hq), by simp [joinW]⟩
end
end Go.Proofs.Ytiechmcfafhfaaa
