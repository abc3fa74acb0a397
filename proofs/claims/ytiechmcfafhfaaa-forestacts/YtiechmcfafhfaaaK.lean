/- What Cut, Remove and Lift make of a forest; what is found stays the same when nodes move. -/
import Derived.Test.YtiechmcfafhfaaaJ
namespace Go.Proofs.Ytiechmcfafhfaaa
open Go.RowKit Go.Maps Go.Shelf

/-- A node without its place. -/
def key (e : Nd) : Nat × Int × Int := (e.id, e.sp, e.sl)
/-- The same nodes, of the same owners. -/
def Alike (L P : List Nd) : Prop := (P.map key).Perm (L.map key)
theorem Alike.refl (L : List Nd) : Alike L L := List.Perm.refl _
theorem Alike.trans {A B C : List Nd} (h : Alike A B) (k : Alike B C) : Alike A C := List.Perm.trans k h
theorem Alike.len {L P : List Nd} (h : Alike L P) : P.length = L.length := by have := List.Perm.length_eq h; simpa using this
theorem Alike.mem {L P : List Nd} (h : Alike L P) {e : Nd} (he : e ∈ P) : ∃ f ∈ L, f.id = e.id ∧ f.sp = e.sp ∧ f.sl = e.sl := by
  have : key e ∈ L.map key := (List.Perm.mem_iff h).1 (List.mem_map.2 ⟨e, he, rfl⟩)
  obtain ⟨f, hf, e1⟩ := List.mem_map.1 this
  simp [key] at e1
  exact ⟨f, hf, e1⟩
theorem Alike.symm {L P : List Nd} (h : Alike L P) : Alike P L := List.Perm.symm h
theorem Alike.less {L P : List Nd} (h : Alike L P) (D : List Nat) : Alike (less L D) (less P D) := by
  have e : ∀ M : List Nd, (Go.Proofs.Ytiechmcfafhfaaa.less M D).map key = (M.map key).filter (fun k => !D.contains k.1) := by
    intro M
    unfold Go.Proofs.Ytiechmcfafhfaaa.less
    rw [List.filter_map]
    rfl
  unfold Alike
  rw [e, e]
  exact List.Perm.filter _ h
theorem perm_out {L : List Nd} (h : L.Pairwise (fun a b => a.id ≠ b.id)) {e : Nd} (he : e ∈ L) : L.Perm (L.filter (fun x => x.id != e.id) ++ [e]) := by
  induction L with
  | nil => cases he
  | cons y r ih =>
    obtain ⟨h1, h2⟩ := List.pairwise_cons.1 h
    rcases List.mem_cons.1 he with rfl | he
    · rw [List.filter_cons_of_neg (by simp), List.filter_eq_self.2 (fun a ha => by simpa using Ne.symm (h1 a ha))]
      exact (List.perm_append_singleton _ _).symm
    · rw [List.filter_cons_of_pos (by simpa using h1 e he)]
      exact List.Perm.cons _ (ih h2 he)
theorem Wf.alike {L : List Nd} {last : Nat} (h : Wf L last) {e : Nd} (he : e ∈ L) (q : Nat) : Alike L (Go.Proofs.Ytiechmcfafhfaaa.move L e q) := by
  unfold Alike Go.Proofs.Ytiechmcfafhfaaa.move
  rw [List.map_append]
  have := (perm_out h.ids he).map key
  rw [List.map_append] at this
  exact this.symm
section
variable {w w' : World} {p m1 m2 : Nat} {nb : Nat → Nat} {L P : List Nd} {last : Nat} {e : Nd}
theorem NodeF.alike (h : Alike L P) (v : Value) (b : Nat) : NodeF nb L v b ↔ NodeF nb P v b := by
  constructor
  · rintro ⟨f, hf, rfl, rfl⟩
    obtain ⟨g, hg, e1, _, _⟩ := h.symm.mem hf
    exact ⟨g, hg, by rw [e1], by rw [e1]⟩
  · rintro ⟨f, hf, rfl, rfl⟩
    obtain ⟨g, hg, e1, _, _⟩ := h.mem hf
    exact ⟨g, hg, by rw [e1], by rw [e1]⟩
theorem OwnF.alike (h : Alike L P) (v : Value) (b : Nat) : OwnF nb L v b ↔ OwnF nb P v b := by
  constructor
  · rintro ⟨f, hf, rfl, rfl⟩
    obtain ⟨g, hg, e1, e2, e3⟩ := h.symm.mem hf
    exact ⟨g, hg, by rw [e2, e3], by rw [e1]⟩
  · rintro ⟨f, hf, rfl, rfl⟩
    obtain ⟨g, hg, e1, e2, e3⟩ := h.mem hf
    exact ⟨g, hg, by rw [e2, e3], by rw [e1]⟩
theorem FM.alike (h : FM w p m1 m2 nb last L) (ha : Alike L P) : FM w p m1 m2 nb last P :=
  ⟨h.head, by rw [ha.len]; exact h.nodes.congr (NodeF.alike ha), by rw [ha.len]; exact h.owners.congr (OwnF.alike ha)⟩
theorem FM.other (h : FM w p m1 m2 nb last L) (hp : w'.heap[p]? = w.heap[p]?) (h1 : w'.heap[m1]? = w.heap[m1]?) (h2 : w'.heap[m2]? = w.heap[m2]?) : FM w' p m1 m2 nb last L := ⟨hp.trans h.head, h.nodes.other h1, h.owners.other h2⟩
theorem Fo.fm (h : Fo w p m1 m2 nb last L) : FM w p m1 m2 nb last L := ⟨h.head, h.nodes, h.owners⟩
theorem Own1.alike (h : Own1 nb L) (ha : Alike L P) : Own1 nb P := by
  intro a hA b hB e1
  obtain ⟨f, hf, e2, _⟩ := ha.mem hA
  obtain ⟨g, hg, e3, _⟩ := ha.mem hB
  rw [← e2, ← e3] at e1
  rw [← e2, ← e3]
  exact h f hf g hg e1
theorem Own1.less (h : Own1 nb L) (D : List Nat) : Own1 nb (less L D) := fun a ha b hb e => h a (mem_less.1 ha).1 b (mem_less.1 hb).1 e
theorem NOwn.alike (ha : Alike L P) {k : Nat} (h : NOwn nb P k) : NOwn nb L k := by
  obtain ⟨f, hf, rfl⟩ := h
  obtain ⟨g, hg, e1, _⟩ := ha.mem hf
  exact ⟨g, hg, by rw [e1]⟩
theorem NOwn.less {D : List Nat} {k : Nat} (h : NOwn nb (less L D) k) : NOwn nb L k := by
  obtain ⟨f, hf, rfl⟩ := h
  exact ⟨f, (mem_less.1 hf).1, rfl⟩
/-- What is below goes along. -/
theorem Wf.down (h : Wf L last) (hl : last < 400) {i : Nat} : ∀ f ∈ L, (f.par ∈ below L i → f.id ∈ below L i) ∧ (f.par = i → i ≠ 0 → f.id ∈ below L i) := by
  intro f hf
  refine ⟨fun hp => (h.below_iff hl i f.id).2 (.inr ⟨f.par, hp, mem_kids.2 ⟨fun h0 => ?_, f, hf, rfl, rfl⟩⟩), fun hp h0 => (h.below_iff hl i f.id).2 (.inl (mem_kids.2 ⟨h0, f, hf, rfl, hp⟩))⟩
  have := (h.below_in hp).1
  omega
theorem Wf.up (h : Wf L last) {i : Nat} : ∀ f ∈ L, f.id ∈ below L i → f.par = i ∨ f.par ∈ below L i := fun f hf hb => h.bel_up 400 i f.id hb f hf rfl
/-- The links behind a cut. -/
theorem links_cut (hL : Links w nb L) (h : Wf L last) (hl : last < 400) (ho : Own1 nb L) (he : e ∈ L) : Links ((w.setCell ⟨nb e.id, 4, none⟩ (.pointer none)).setCell ⟨nb e.id, 5, none⟩ (.pointer none)) nb (less L (below L e.id)) := by
  have h0 : e.id ≠ 0 := by have := (h.lo e he).1; omega
  have hE := hL e he
  intro f hf
  obtain ⟨hfL, hfD⟩ := mem_less.1 hf
  have H := hL f hfL
  have hp1 : f.par ≠ e.id := fun hh => hfD ((h.down hl f hfL).2 hh h0)
  have hp2 : f.par ∉ below L e.id := fun hh => hfD ((h.down hl f hfL).1 hh)
  have keep : ∀ i, i ≠ e.id → i ∉ below L e.id → kids (less L (below L e.id)) i = kids L i := by
    intro i h1 h2
    rw [kids_less, List.filter_eq_self]
    intro k hk
    obtain ⟨_, g, hg, e1, e2⟩ := mem_kids.1 hk
    simp
    intro hd
    rcases h.up g hg (by rw [e1]; exact hd) with h3 | h3
    · exact h1 (e2.symm.trans h3)
    · exact h2 (by rw [← e2]; exact h3)
  have sm : (w.cell? ⟨nb e.id, 4, none⟩).isSome = true := by rw [hE.c4]; rfl
  have sm5 : ((w.setCell ⟨nb e.id, 4, none⟩ (.pointer none)).cell? ⟨nb e.id, 5, none⟩).isSome = true := some_set sm (by rw [hE.c5]; rfl)
  have cell : ∀ k, ((w.setCell ⟨nb e.id, 4, none⟩ (.pointer none)).setCell ⟨nb e.id, 5, none⟩ (.pointer none)).cell? ⟨nb f.id, k, none⟩ = if f.id = e.id ∧ (k = 4 ∨ k = 5) then some (.pointer none) else w.cell? ⟨nb f.id, k, none⟩ := by
    intro k
    rw [cell_set sm5, cell_set sm]
    have hnb : nb f.id = nb e.id ↔ f.id = e.id := ⟨fun hh => ho f hfL e he hh, fun hh => by rw [hh]⟩
    simp only [hnb]
    by_cases a : f.id = e.id
    · by_cases b4 : k = 4
      · simp [a, b4]
      · by_cases b5 : k = 5
        · simp [a, b5]
        · simp [b4, b5]
    · simp [a]
  have blk : ∃ cs, ((w.setCell ⟨nb e.id, 4, none⟩ (.pointer none)).setCell ⟨nb e.id, 5, none⟩ (.pointer none)).heap[nb f.id]? = some (.cells cs 66) := blk_set (blk_set H.blk)
  generalize (w.setCell ⟨nb e.id, 4, none⟩ (.pointer none)).setCell ⟨nb e.id, 5, none⟩ (.pointer none) = W at cell blk ⊢
  have same : ∀ k, k ≠ 4 → k ≠ 5 → W.cell? ⟨nb f.id, k, none⟩ = w.cell? ⟨nb f.id, k, none⟩ := fun k h4 h5 => by rw [cell k, if_neg (by omega)]
  rw [keep _ hp1 hp2]
  refine ⟨blk, (same 0 (by omega) (by omega)).trans H.c0, (same 1 (by omega) (by omega)).trans H.c1, (same 2 (by omega) (by omega)).trans H.c2, (same 3 (by omega) (by omega)).trans H.c3, ?_, ?_, ?_, ?_⟩
  · rw [cell 4]
    by_cases a : f.id = e.id
    · rw [if_pos ⟨a, .inl rfl⟩]
      have : kids (less L (below L e.id)) f.id = [] := by
        rw [List.eq_nil_iff_forall_not_mem]
        intro k hk
        obtain ⟨_, g, hg, e1, e2⟩ := mem_kids.1 hk
        obtain ⟨hgL, hgD⟩ := mem_less.1 hg
        exact hgD ((h.down hl g hgL).2 (e2.trans a) h0)
      rw [this]
      rfl
    · rw [if_neg (fun hh => a hh.1), keep _ a hfD]
      exact H.c4
  · rw [cell 5]
    by_cases a : f.id = e.id
    · rw [if_pos ⟨a, .inr rfl⟩]
      have : kids (less L (below L e.id)) f.id = [] := by
        rw [List.eq_nil_iff_forall_not_mem]
        intro k hk
        obtain ⟨_, g, hg, e1, e2⟩ := mem_kids.1 hk
        obtain ⟨hgL, hgD⟩ := mem_less.1 hg
        exact hgD ((h.down hl g hgL).2 (e2.trans a) h0)
      rw [this]
      rfl
    · rw [if_neg (fun hh => a hh.1), keep _ a hfD]
      exact H.c5
  · obtain ⟨v, e6, h6⟩ := H.c6
    exact ⟨v, (same 6 (by omega) (by omega)).trans e6, h6⟩
  · obtain ⟨v, e7, h7⟩ := H.c7
    exact ⟨v, (same 7 (by omega) (by omega)).trans e7, h7⟩
theorem less_move (e : Nd) (q : Nat) {D : List Nat} (hD : e.id ∈ D) : less (move L e q) D = less L D := by
  unfold less move
  rw [List.filter_append, List.filter_filter, List.filter_cons_of_neg (by simpa using hD), List.filter_nil, List.append_nil]
  apply List.filter_congr
  intro x _
  by_cases h : x.id = e.id
  · simp [h, hD]
  · simp [h]
end
end Go.Proofs.Ytiechmcfafhfaaa
