/- Calls at any number; what a cut leaves; arrays of marks. -/
import Derived.Test.YtiechmcfafhfaaaT
namespace Go.Proofs.Ytiechmcfafhfaaa
open Go.RowKit Go.Maps Go.Shelf

/-- An array of the law's own. -/
structure Mk (w : World) (G n : Nat) (f : Nat → Value) : Prop where
  cell : ∀ i, i < n → w.cell? ⟨G, i, none⟩ = some (f i)
  fr : ∀ i, w.frozen? ⟨G, i, none⟩ = false
  lt : G < w.heap.size
section
variable {v w w' : World} {p m1 m2 : Nat} {nb nb' : Nat → Nat} {L R : List Nd} {last last' : Nat} {e : Nd} {G n : Nat} {f : Nat → Value}
theorem Mk.other (h : Mk w G n f) (hs : w.heap.size ≤ w'.heap.size) (ho : w'.heap[G]? = w.heap[G]?) : Mk w' G n f :=
  ⟨fun i hi => by rw [World.cell?_of_block (a := ⟨G, i, none⟩) ho]; exact h.cell i hi, fun i => by rw [World.frozen?_of_block (a := ⟨G, i, none⟩) ho]; exact h.fr i, Nat.lt_of_lt_of_le h.lt hs⟩
theorem Mk.below {B : Nat} (h : Mk w G n f) (hb : Below B w w') (hB : w.heap.size ≤ B) : Mk w' G n f := h.other hb.size (hb.block G (by have := h.lt; omega))
theorem Mk.drewN (h : Mk w G n f) (k : Nat) : Mk (w.drewN k) G n f := ⟨h.cell, h.fr, h.lt⟩
theorem Mk.set (h : Mk w G n f) {x : Nat} (hx : x < n) (u : Value) : Mk (w.setCell ⟨G, x, none⟩ u) G n (fun i => if i = x then u else f i) := by
  have hs : (w.cell? ⟨G, x, none⟩).isSome = true := by rw [h.cell x hx]; rfl
  refine ⟨fun i hi => ?_, fun i => by rw [World.frozen?_setCell]; exact h.fr i, by simpa using h.lt⟩
  rw [cell_set hs]
  by_cases e1 : i = x
  · subst e1; simp
  · simp [e1, h.cell i hi]
theorem mk_new (w : World) (n : Nat) (u : Value) (cs : Array Value) (t : TypeId) (hc : ∀ i, i < n → cs[i]? = some u) : Mk (w.alloc (.cells cs t)) w.heap.size n (fun _ => u) := by
  have hA := heap_alloc_new w (.cells cs t)
  exact ⟨fun i hi => by rw [cell_of_row _ _ _ _ _ _ hA]; exact hc i hi, fun i => frozen_of_row _ _ _ _ _ hA, by simp⟩

theorem zero56 (w : World) : (zeroValue 56).run Try.prog w = .ok (.agg (Array.replicate 110 (.bool false))) w := by kernel_rfl
theorem zero58 (w : World) : (zeroValue 58).run Try.prog w = .ok (.agg (Array.replicate 70 (.int .i64 0))) w := by kernel_rfl
theorem rep_at {n i : Nat} {u : Value} (h : i < n) : (Array.replicate n u)[i]? = some u := by simp [h]
theorem kids_none (h : Wf L last) {i : Nat} (hn : ¬ ∃ f ∈ L, f.id = i) : kids L i = [] := by
  rw [List.eq_nil_iff_forall_not_mem]
  intro k hk
  obtain ⟨h0, f, hf, _, hp⟩ := mem_kids.1 hk
  have := (h.par f hf).2.resolve_left (by rw [hp]; exact h0)
  rw [hp] at this
  exact hn this
theorem below_none (h : Wf L last) (hl : last < 400) {i : Nat} (hn : ¬ ∃ f ∈ L, f.id = i) : below L i = [] := by
  rw [h.below_eq hl, kids_none h hn]
  rfl
theorem not_there {i : Nat} (hn : ¬ ∃ f ∈ L, f.id = i) : ¬ There L (i : Int) := by
  rintro ⟨f, hf, e1⟩
  exact hn ⟨f, hf, by omega⟩
theorem z_below' (h : Fz v w p m1 m2 nb last L) {i : Nat} (hi : i < 1000) : Calls Try.prog 16 #[ptr p, .int .i64 (i : Int)] w (NumPost w (zs (below L i))) := by
  by_cases hn : ∃ f ∈ L, f.id = i
  · obtain ⟨f, hf, rfl⟩ := hn
    exact fbelow_hit h.fo hf
  · rw [below_none h.fo.wf h.fo.few hn]
    exact fbelow_miss h.fo (by unfold I64; omega) (not_there hn)
theorem z_kids' (h : Fz v w p m1 m2 nb last L) {i : Nat} (hi : i < 1000) : Calls Try.prog 15 #[ptr p, .int .i64 (i : Int)] w (NumPost w (zs (kids L i))) := by
  by_cases hn : ∃ f ∈ L, f.id = i
  · obtain ⟨f, hf, rfl⟩ := hn
    exact fkids_hit h.fo hf
  · rw [kids_none h.fo.wf hn]
    exact fkids_miss h.fo (by unfold I64; omega) (not_there hn)
/-- Who is somebody's parent. -/
def parOf (L : List Nd) (i : Nat) : Nat := match L.find? (fun e => e.id == i) with
  | some e => e.par
  | none => 0
theorem Wf.parOf (h : Wf L last) (he : e ∈ L) : parOf L e.id = e.par := by unfold Go.Proofs.Ytiechmcfafhfaaa.parOf; rw [find_of h.ids he]
theorem parOf_none {i : Nat} (hn : ¬ ∃ f ∈ L, f.id = i) : parOf L i = 0 := by
  unfold parOf
  cases hf : L.find? (fun x => x.id == i) with
  | none => rfl
  | some g => exact absurd ⟨g, List.mem_of_find?_eq_some hf, by simpa using List.find?_some hf⟩ hn
theorem z_parent' (h : Fz v w p m1 m2 nb last L) {i : Nat} (hi : i < 1000) : Calls Try.prog 13 #[ptr p, .int .i64 (i : Int)] w fun en w' => en = .returned (.int .i64 (parOf L i : Int)) ∧ w' = w := by
  by_cases hn : ∃ f ∈ L, f.id = i
  · obtain ⟨f, hf, rfl⟩ := hn
    rw [h.fo.wf.parOf hf]
    exact parent_hit h.fo hf
  · rw [parOf_none hn]
    exact parent_miss h.fo (by unfold I64; omega) (not_there hn)
/-- A cut, at any number. -/
theorem z_cut' (h : Fz v w p m1 m2 nb last L) {i : Nat} (hi : i < 1000) : Calls Try.prog 17 #[ptr p, .int .i64 (i : Int)] w fun en w' => ∃ a cap, en = .returned (.slice a (below L i).length cap) ∧ OR w' w.heap.size 2 (.slice a (below L i).length cap) (below L i).length (flat ((below L i).map (ownOf L))) ∧ Fz v w' p m1 m2 nb last (less L (below L i)) ∧ Tr (FOwn p m1 m2 nb L) (FOwn p m1 m2 nb (less L (below L i))) w w' := by
  by_cases hn : ∃ f ∈ L, f.id = i
  · obtain ⟨f, hf, rfl⟩ := hn
    refine (cut_hit h.fo hf).mono ?_
    intro en w' hk
    have hz := z_went h hk
    obtain ⟨a, cap, rfl, ho, _⟩ := hk
    exact ⟨a, cap, rfl, ho, hz⟩
  · rw [below_none h.fo.wf h.fo.few hn, less_nil]
    refine (cut_miss h.fo (by unfold I64; omega) (not_there hn)).mono ?_
    rintro en w' ⟨rfl, rfl⟩
    exact ⟨none, 0, rfl, OR.nil _ _ _, h, tr_refl _ (Below.refl _ _)⟩
theorem less_count (h : Wf L last) {D : List Nat} (hd : D.Nodup) (hin : ∀ x ∈ D, ∃ f ∈ L, f.id = x) : (less L D).length + D.length = L.length := by
  have hnL : (L.map (·.id)).Nodup := by rw [List.nodup_iff_pairwise_ne, List.pairwise_map]; exact h.ids
  have hnR : ((less L D).map (·.id) ++ D).Nodup := by
    rw [List.nodup_append]
    refine ⟨by rw [List.nodup_iff_pairwise_ne, List.pairwise_map]; exact h.ids.sublist List.filter_sublist, hd, fun a ha b hb hab => ?_⟩
    subst hab
    obtain ⟨f, hf, rfl⟩ := List.mem_map.1 ha
    exact (mem_less.1 hf).2 hb
  have := nodup_len_eq hnR hnL (fun x => by
    rw [List.mem_append, List.mem_map, List.mem_map]
    constructor
    · rintro (⟨f, hf, rfl⟩ | hx)
      · exact ⟨f, (mem_less.1 hf).1, rfl⟩
      · exact hin x hx
    · rintro ⟨f, hf, rfl⟩
      by_cases hd : f.id ∈ D
      · exact .inr hd
      · exact .inl ⟨f, mem_less.2 ⟨hf, hd⟩, rfl⟩)
  simpa using this
theorem cut_kids (h : Wf L last) (hl : last < 400) (i : Nat) (hi : i ≠ 0) : kids (less L (below L i)) i = [] := by
  rw [List.eq_nil_iff_forall_not_mem]
  intro k hk
  obtain ⟨_, g, hg, e1, e2⟩ := mem_kids.1 hk
  obtain ⟨hgL, hgD⟩ := mem_less.1 hg
  exact hgD ((h.down hl g hgL).2 e2 hi)
end
end Go.Proofs.Ytiechmcfafhfaaa
