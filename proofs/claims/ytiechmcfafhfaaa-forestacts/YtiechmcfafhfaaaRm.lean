/- What the document's own forest does, as lists. No program is named here. -/
import Derived.Test.YtiechmcfafhfaaaW
namespace Go.Proofs.Ytiechmcfafhfaaa
open Go.RowKit Go.Maps Go.Shelf

section
variable {L M : List Nd} {last : Nat} {e : Nd}
theorem less_one (L : List Nd) (i : Nat) : less L [i] = L.filter (fun x => x.id != i) := by
  unfold less
  apply List.filter_congr
  intro x _
  by_cases h : x.id = i <;> simp [h]
theorem take_drop_less (h : L.Pairwise (fun a b => a.id ≠ b.id)) {k : Nat} (hk : L[k]? = some e) : L.take k ++ L.drop (k + 1) = less L [e.id] := by
  rw [less_one]
  induction L generalizing k with
  | nil => cases hk
  | cons x xs ih =>
    obtain ⟨h1, h2⟩ := List.pairwise_cons.1 h
    cases k with
    | zero =>
      obtain rfl : x = e := by simpa using hk
      rw [List.filter_cons_of_neg (by simp), List.filter_eq_self.2 (fun y hy => by have := h1 y hy; simp; exact fun e => this e.symm)]
      rfl
    | succ k =>
      have hk' : xs[k]? = some e := by simpa using hk
      rw [List.take_succ_cons, List.drop_succ_cons, List.cons_append, ih h2 hk', List.filter_cons_of_pos]
      have := h1 e (List.mem_of_getElem? hk')
      simpa using this
theorem less_less (L : List Nd) (D : List Nat) (i : Nat) : less (less L D) [i] = less L (D ++ [i]) := by rw [less_snoc, less_one]
theorem less_ids (h : L.Pairwise (fun a b => a.id ≠ b.id)) (D : List Nat) : (less L D).Pairwise (fun a b => a.id ≠ b.id) := h.sublist List.filter_sublist
theorem less_len (L : List Nd) (D : List Nat) : (less L D).length ≤ L.length := List.length_filter_le _ _
/-- Children, by any number. -/
def kz (L : List Nd) (x : Int) : List Int := if x = 0 then [] else (L.filter (fun e => (e.par : Int) == x)).map (fun e => (e.id : Int))
theorem kz_eq (x : Int) : 0 ≤ x → kz L x = zs (kids L x.toNat) := by
  intro h0
  obtain ⟨n, rfl⟩ := Int.eq_ofNat_of_zero_le h0
  unfold kz kids zs
  by_cases h : n = 0
  · subst h; simp
  · rw [if_neg (by omega), if_neg (by show ¬ ((n : Int).toNat = 0); omega), List.map_map]
    have : L.filter (fun e => (e.par : Int) == (n : Int)) = L.filter (fun e => e.par == (n : Int).toNat) := List.filter_congr (fun f _ => by
      rw [Bool.eq_iff_iff, beq_iff_eq, beq_iff_eq]; omega)
    rw [this]
    rfl
theorem kz_neg (x : Int) (h : x < 0) : kz L x = zs (kids L x.toNat) := by
  have e1 : x.toNat = 0 := by omega
  rw [e1, show kids L 0 = [] from rfl]
  unfold kz
  rw [if_neg (by omega), List.filter_eq_nil_iff.2 (fun f _ => by simp; omega)]
  rfl
theorem kz_kids (L : List Nd) (x : Int) : kz L x = zs (kids L x.toNat) := by
  by_cases h : x < 0
  · exact kz_neg x h
  · exact kz_eq x (by omega)
/-- A row's children, so far. -/
def kzt (L : List Nd) (x : Int) : List Int := (L.filter (fun e => (e.par : Int) == x)).map (fun e => (e.id : Int))
theorem kzt_step {x : Int} {k : Nat} (hk : L[k]? = some e) : kzt (L.take (k + 1)) x = kzt (L.take k) x ++ (if (e.par : Int) = x then [(e.id : Int)] else []) := by
  unfold kzt
  rw [List.take_add_one, hk, List.filter_append, List.map_append]
  by_cases h : (e.par : Int) = x <;> simp [h]
theorem kzt_len (L : List Nd) (x : Int) : (kzt L x).length ≤ L.length := by unfold kzt; rw [List.length_map]; exact List.length_filter_le _ _
theorem post_step (L : List Nd) {ks : List Nat} {k x : Nat} (hk : ks[k]? = some x) : post L (ks.take (k + 1)) = post L (ks.take k) ++ below L x ++ [x] := by
  rw [List.take_add_one, hk, post_append, List.append_assoc]
  unfold post
  simp
/-- Lift's children so far. -/
def liftT (L : List Nd) (i q : Nat) (ks : List Nat) : List Nd := ks.foldl (fun M k => mv M k q) (less L [i])
theorem liftT_all (L : List Nd) (i q : Nat) : liftT L i q (kids L i) = lifted L i q := rfl
theorem liftT_step (L : List Nd) (i q : Nat) {ks : List Nat} {k x : Nat} (hk : ks[k]? = some x) : liftT L i q (ks.take (k + 1)) = mv (liftT L i q (ks.take k)) x q := by
  unfold liftT
  rw [List.take_add_one, hk, List.foldl_append]
  rfl
theorem move_ids (h : M.Pairwise (fun a b => a.id ≠ b.id)) (f : Nd) (q : Nat) : (move M f q).Pairwise (fun a b => a.id ≠ b.id) := by
  unfold move
  rw [List.pairwise_append]
  exact ⟨h.sublist List.filter_sublist, by simp, fun a ha b hb => by
    obtain rfl := List.mem_singleton.1 hb
    simpa using (List.mem_filter.1 ha).2⟩
theorem mv_ids (h : M.Pairwise (fun a b => a.id ≠ b.id)) (k q : Nat) : (mv M k q).Pairwise (fun a b => a.id ≠ b.id) := by
  unfold mv
  split
  · exact move_ids h _ q
  · exact h
theorem mv_has {k q y : Nat} (hy : ∃ f ∈ M, f.id = y) : ∃ f ∈ mv M k q, f.id = y := by
  obtain ⟨f, hf, rfl⟩ := hy
  unfold mv
  split
  · rename_i e he
    by_cases h1 : f.id = e.id
    · exact ⟨_, mem_move.2 (.inr rfl), h1.symm⟩
    · exact ⟨f, mem_move.2 (.inl ⟨hf, h1⟩), rfl⟩
  · exact ⟨f, hf, rfl⟩
theorem mv_len (h : M.Pairwise (fun a b => a.id ≠ b.id)) (k q : Nat) : (mv M k q).length = M.length := by
  unfold mv
  split
  · rename_i e he
    have hm := List.mem_of_find?_eq_some he
    have := filter_one h hm
    have := List.length_pos_of_mem hm
    unfold move
    rw [List.length_append, List.length_singleton]
    omega
  · rfl
theorem liftT_ids (h : L.Pairwise (fun a b => a.id ≠ b.id)) (i q : Nat) (ks : List Nat) : (liftT L i q ks).Pairwise (fun a b => a.id ≠ b.id) := by
  have key : ∀ (l : List Nat) (M : List Nd), M.Pairwise (fun a b => a.id ≠ b.id) → (l.foldl (fun M k => mv M k q) M).Pairwise (fun a b => a.id ≠ b.id) := by
    intro l
    induction l with
    | nil => intro M h; exact h
    | cons x r ih => intro M h; exact ih _ (mv_ids h x q)
  exact key _ _ (less_ids h _)
theorem liftT_has (i q : Nat) (ks : List Nat) {y : Nat} (hy : ∃ f ∈ L, f.id = y) (hn : y ≠ i) : ∃ f ∈ liftT L i q ks, f.id = y := by
  have key : ∀ (l : List Nat) (M : List Nd), (∃ f ∈ M, f.id = y) → ∃ f ∈ l.foldl (fun M k => mv M k q) M, f.id = y := by
    intro l
    induction l with
    | nil => intro M h; exact h
    | cons x r ih => intro M h; exact ih _ (mv_has h)
  obtain ⟨f, hf, rfl⟩ := hy
  exact key _ _ ⟨f, mem_less.2 ⟨hf, by simpa using hn⟩, rfl⟩
theorem liftT_len (h : L.Pairwise (fun a b => a.id ≠ b.id)) (i q : Nat) (ks : List Nat) : (liftT L i q ks).length ≤ L.length := by
  have key : ∀ (l : List Nat) (M : List Nd), M.Pairwise (fun a b => a.id ≠ b.id) → (l.foldl (fun M k => mv M k q) M).length = M.length := by
    intro l
    induction l with
    | nil => intro M _; rfl
    | cons x r ih => intro M h; exact (ih _ (mv_ids h x q)).trans (mv_len h x q)
  unfold liftT
  rw [key _ _ (less_ids h _)]
  exact less_len L _
/-- A number that is there stands somewhere. -/
theorem at_there (h : L.Pairwise (fun a b => a.id ≠ b.id)) (he : e ∈ L) : ∃ k : Nat, L[k]? = some e ∧ k < L.length ∧ ∀ (j : Nat) f, j < k → L[j]? = some f → (f.id : Int) ≠ (e.id : Int) := by
  obtain ⟨k, hk, rfl⟩ := List.getElem_of_mem he
  refine ⟨k, List.getElem?_eq_getElem hk, hk, fun j f hj hf => ?_⟩
  obtain ⟨hjl, rfl⟩ := List.getElem?_eq_some_iff.1 hf
  have := List.pairwise_iff_getElem.1 h j k hjl hk hj
  omega
end
end Go.Proofs.Ytiechmcfafhfaaa
