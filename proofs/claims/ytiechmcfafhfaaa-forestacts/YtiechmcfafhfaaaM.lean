/- A forest as a list of nodes, in the order in which they came to their parents: children, all below, what goes. No program is named here. -/
import Derived.KernelRfl
namespace Go.Proofs.Ytiechmcfafhfaaa

/-- A node: its number, its parent's (0: a root), its owner's space and slot. -/
structure Nd where
  id : Nat
  par : Nat
  sp : Int
  sl : Int
/-- A node's children; none of 0. -/
def kids (L : List Nd) (q : Nat) : List Nat := if q = 0 then [] else (L.filter (fun e => e.par == q)).map (·.id)
/-- What every forest keeps. -/
structure Wf (L : List Nd) (last : Nat) : Prop where
  lo : ∀ e ∈ L, 1 ≤ e.id ∧ e.id ≤ last
  ids : L.Pairwise (fun a b => a.id ≠ b.id)
  own : L.Pairwise (fun a b => ¬ (a.sp = b.sp ∧ a.sl = b.sl))
  par : ∀ e ∈ L, e.par < e.id ∧ (e.par = 0 ∨ ∃ f ∈ L, f.id = e.par)

theorem pair_inj {α : Type} {R : α → α → Prop} (hs : ∀ a b, R a b → R b a) {l : List α} (h : l.Pairwise R) {a b : α} (ha : a ∈ l) (hb : b ∈ l) (hn : ¬ R a b) : a = b := by
  obtain ⟨i, hi, rfl⟩ := List.getElem_of_mem ha
  obtain ⟨j, hj, rfl⟩ := List.getElem_of_mem hb
  rcases Nat.lt_trichotomy i j with hl | rfl | hl
  · exact absurd (List.pairwise_iff_getElem.1 h i j hi hj hl) hn
  · rfl
  · exact absurd (hs _ _ (List.pairwise_iff_getElem.1 h j i hj hi hl)) hn

section
variable {L : List Nd} {last : Nat}
theorem Wf.inj (h : Wf L last) {a b : Nd} (ha : a ∈ L) (hb : b ∈ L) (e : a.id = b.id) : a = b := pair_inj (fun _ _ h => Ne.symm h) h.ids ha hb (fun hn => hn e)
theorem Wf.owner (h : Wf L last) {a b : Nd} (ha : a ∈ L) (hb : b ∈ L) (e1 : a.sp = b.sp) (e2 : a.sl = b.sl) : a = b :=
  pair_inj (fun _ _ h h' => h ⟨h'.1.symm, h'.2.symm⟩) h.own ha hb (fun hn => hn ⟨e1, e2⟩)
theorem Wf.nil (n : Nat) : Wf [] n := ⟨by simp, by simp, by simp, by simp⟩
theorem Wf.more (h : Wf L last) {n : Nat} (hn : last ≤ n) : Wf L n := ⟨fun e he => ⟨(h.lo e he).1, Nat.le_trans (h.lo e he).2 hn⟩, h.ids, h.own, h.par⟩
theorem kids_zero (L : List Nd) : kids L 0 = [] := rfl
theorem mem_kids {k q : Nat} : k ∈ kids L q ↔ q ≠ 0 ∧ ∃ e ∈ L, e.id = k ∧ e.par = q := by
  unfold kids
  split
  · rename_i h; simp [h]
  · rename_i h
    simp only [List.mem_map, List.mem_filter, beq_iff_eq]
    constructor
    · rintro ⟨e, ⟨h1, h2⟩, h3⟩
      exact ⟨h, e, h1, h3, h2⟩
    · rintro ⟨_, e, h1, h3, h2⟩
      exact ⟨e, ⟨h1, h2⟩, h3⟩
theorem Wf.kids_nodup (h : Wf L last) (q : Nat) : (kids L q).Nodup := by
  unfold kids
  split
  · simp
  · rw [List.nodup_iff_pairwise_ne, List.pairwise_map]
    exact h.ids.sublist (List.filter_sublist)
theorem Wf.kid (h : Wf L last) {k q : Nat} (hk : k ∈ kids L q) : q < k ∧ k ≤ last ∧ q ≠ 0 := by
  obtain ⟨h0, e, he, rfl, rfl⟩ := mem_kids.1 hk
  exact ⟨(h.par e he).1, (h.lo e he).2, h0⟩

/-- All below a node, by so many steps down. -/
def bel (L : List Nd) : Nat → Nat → List Nat
  | 0, _ => []
  | f + 1, i => (kids L i).flatMap fun k => bel L f k ++ [k]
/-- All below a node. -/
def below (L : List Nd) (i : Nat) : List Nat := bel L 400 i
/-- Nodes, each behind all below it. -/
def post (L : List Nd) (l : List Nat) : List Nat := l.flatMap fun k => below L k ++ [k]
theorem flatMap_eq {α β : Type} {l : List α} {f g : α → List β} (h : ∀ x ∈ l, f x = g x) : l.flatMap f = l.flatMap g := by
  induction l with
  | nil => rfl
  | cons x xs ih => rw [List.flatMap_cons, List.flatMap_cons, h x (by simp), ih (fun y hy => h y (by simp [hy]))]
theorem Wf.bel_eq (h : Wf L last) : ∀ (f g i : Nat), last < f + i → last < g + i → bel L f i = bel L g i := by
  intro f
  induction f with
  | zero =>
    intro g i hf hg
    have hn : kids L i = [] := by
      rw [List.eq_nil_iff_forall_not_mem]
      intro k hk
      have := h.kid hk
      omega
    cases g with
    | zero => rfl
    | succ g => unfold bel; rw [hn]; rfl
  | succ f ih =>
    intro g i hf hg
    cases g with
    | zero =>
      have hn : kids L i = [] := by
        rw [List.eq_nil_iff_forall_not_mem]
        intro k hk
        have := h.kid hk
        omega
      unfold bel; rw [hn]; rfl
    | succ g =>
      unfold bel
      exact flatMap_eq fun k hk => by
        have := h.kid hk
        rw [ih g k (by omega) (by omega)]
theorem Wf.below_eq (h : Wf L last) (hl : last < 400) (i : Nat) : below L i = post L (kids L i) := by
  show bel L (399 + 1) i = _
  unfold bel post
  exact flatMap_eq fun k hk => by
    have := h.kid hk
    show _ = bel L 400 k ++ [k]
    rw [h.bel_eq 399 400 k (by omega) (by omega)]
theorem post_append (L : List Nd) (a b : List Nat) : post L (a ++ b) = post L a ++ post L b := by unfold post; rw [List.flatMap_append]
theorem Wf.post_snoc (h : Wf L last) (hl : last < 400) (a : List Nat) (x : Nat) : post L (a ++ [x]) = post L (a ++ kids L x) ++ [x] := by
  rw [post_append, post_append, ← h.below_eq hl x, List.append_assoc]
  unfold post
  simp
theorem post_nil (L : List Nd) : post L [] = [] := rfl
theorem below_zero (L : List Nd) : below L 0 = [] := rfl
/-- Who is below: what comes down from it. -/
theorem Wf.bel_iff (h : Wf L last) : ∀ (f i x : Nat), last < f + i → (x ∈ bel L f i ↔ x ∈ kids L i ∨ ∃ k ∈ bel L f i, x ∈ kids L k) := by
  intro f
  induction f with
  | zero =>
    intro i x hf
    unfold bel
    simp
    intro hk
    have := h.kid hk
    omega
  | succ f ih =>
    intro i x hf
    unfold bel
    simp only [List.mem_flatMap, List.mem_append, List.mem_singleton]
    constructor
    · rintro ⟨k, hk, hx | rfl⟩
      · have hkk := h.kid hk
        rcases (ih k x (by omega)).1 hx with h1 | ⟨j, hj, h1⟩
        · exact .inr ⟨k, ⟨k, hk, .inr rfl⟩, h1⟩
        · exact .inr ⟨j, ⟨k, hk, .inl hj⟩, h1⟩
      · exact .inl hk
    · rintro (hk | ⟨j, ⟨k, hk, hj | rfl⟩, hx⟩)
      · exact ⟨x, hk, .inr rfl⟩
      · have hkk := h.kid hk
        exact ⟨k, hk, .inl ((ih k x (by omega)).2 (.inr ⟨j, hj, hx⟩))⟩
      · have hkk := h.kid hk
        exact ⟨j, hk, .inl ((ih j x (by omega)).2 (.inl hx))⟩
theorem Wf.below_iff (h : Wf L last) (hl : last < 400) (i x : Nat) : x ∈ below L i ↔ x ∈ kids L i ∨ ∃ k ∈ below L i, x ∈ kids L k := h.bel_iff 400 i x (by omega)
theorem Wf.bel_in (h : Wf L last) : ∀ (f i x : Nat), x ∈ bel L f i → i < x ∧ i ≠ 0 ∧ ∃ e ∈ L, e.id = x := by
  intro f
  induction f with
  | zero => intro i x hx; cases hx
  | succ f ih =>
    intro i x hx
    unfold bel at hx
    simp only [List.mem_flatMap, List.mem_append, List.mem_singleton] at hx
    obtain ⟨k, hk, hx | rfl⟩ := hx
    · have hkk := h.kid hk
      have := ih k x hx
      exact ⟨by omega, hkk.2.2, this.2.2⟩
    · have hkk := h.kid hk
      obtain ⟨_, e, he, e1, _⟩ := mem_kids.1 hk
      exact ⟨hkk.1, hkk.2.2, e, he, e1⟩
theorem Wf.below_in (h : Wf L last) {i x : Nat} (hx : x ∈ below L i) : i < x ∧ i ≠ 0 ∧ ∃ e ∈ L, e.id = x := h.bel_in 400 i x hx
/-- Nobody is below two that aren't below one another: so none is told twice. -/
theorem Wf.bel_up (h : Wf L last) : ∀ (f i x : Nat), x ∈ bel L f i → ∀ e ∈ L, e.id = x → e.par = i ∨ e.par ∈ bel L f i := by
  intro f
  induction f with
  | zero => intro i x hx; cases hx
  | succ f ih =>
    intro i x hx e he hex
    unfold bel at hx ⊢
    simp only [List.mem_flatMap, List.mem_append, List.mem_singleton] at hx ⊢
    obtain ⟨k, hk, hx | rfl⟩ := hx
    · rcases ih k x hx e he hex with h1 | h1
      · exact .inr ⟨k, hk, .inr h1⟩
      · exact .inr ⟨k, hk, .inl h1⟩
    · obtain ⟨_, e', he', e1, e2⟩ := mem_kids.1 hk
      rw [h.inj he he' (hex.trans e1.symm)]
      exact .inl e2
theorem Wf.apart (h : Wf L last) : ∀ (x : Nat) (f g i j : Nat), x ∈ bel L f i → x ∈ bel L g j → i = j ∨ i ∈ bel L g j ∨ j ∈ bel L f i := by
  intro x
  induction x using Nat.strongRecOn with
  | _ x ih =>
    intro f g i j h1 h2
    obtain ⟨_, _, e, he, hex⟩ := h.bel_in f i x h1
    have hlt := (h.par e he).1
    rcases h.bel_up f i x h1 e he hex with a | a <;> rcases h.bel_up g j x h2 e he hex with b | b
    · exact .inl (a.symm.trans b)
    · rw [a] at b; exact .inr (.inl b)
    · rw [b] at a; exact .inr (.inr a)
    · exact ih e.par (by omega) f g i j a b
theorem Wf.bel_nodup (h : Wf L last) : ∀ (f i : Nat), (bel L f i).Nodup := by
  intro f
  induction f with
  | zero => intro i; unfold bel; simp
  | succ f ih =>
    intro i
    unfold bel
    have hk := h.kids_nodup i
    have hm : ∀ k ∈ kids L i, k ∈ kids L i := fun _ h => h
    generalize hl : kids L i = l at hk hm ⊢
    have hin : ∀ k ∈ l, k ∈ kids L i := fun k hk => by rw [hl]; exact hk
    clear hm hl
    induction l with
    | nil => simp
    | cons k r ih2 =>
      rw [List.flatMap_cons]
      obtain ⟨hn1, hn2⟩ := List.nodup_cons.1 hk
      rw [List.nodup_append]
      refine ⟨?_, ih2 hn2 (fun y hy => hin y (by simp [hy])), ?_⟩
      · rw [List.nodup_append]
        refine ⟨ih k, by simp, fun a ha b hb => ?_⟩
        obtain rfl := List.mem_singleton.1 hb
        have := h.bel_in f b a ha
        omega
      · intro a ha b hb
        rintro rfl
        simp only [List.mem_flatMap, List.mem_append, List.mem_singleton] at ha hb
        obtain ⟨j, hj, hb⟩ := hb
        have hne : k ≠ j := fun e => hn1 (by rw [e]; exact hj)
        have hki := hin k (by simp)
        have hji := hin j (by simp [hj])
        have up : ∀ u v, u ∈ kids L i → v ∈ kids L i → u ∉ bel L f v := by
          intro u v hu hv hb
          obtain ⟨_, e, he, e1, e2⟩ := mem_kids.1 hu
          have hv2 := h.kid hv
          rcases h.bel_up f v u hb e he e1 with h3 | h3
          · omega
          · have := h.bel_in f v e.par h3; omega
        rcases ha with ha | rfl <;> rcases hb with hb | e
        · rcases h.apart a f f k j ha hb with h1 | h1 | h1
          · exact hne h1
          · exact up k j hki hji h1
          · exact up j k hji hki h1
        · rw [e] at ha; exact up j k hji hki ha
        · exact up a j hki hji hb
        · exact hne e
theorem Wf.below_nodup (h : Wf L last) (i : Nat) : (below L i).Nodup := h.bel_nodup 400 i
theorem nodup_len {l m : List Nat} (hl : l.Nodup) (h : ∀ x ∈ l, x ∈ m) : l.length ≤ m.length := by
  induction l generalizing m with
  | nil => simp
  | cons a r ih =>
    obtain ⟨h1, h2⟩ := List.nodup_cons.1 hl
    have ha := h a (by simp)
    have := ih (m := m.erase a) h2 (fun x hx => by
      have hne : x ≠ a := fun e => h1 (by rw [← e]; exact hx)
      exact (List.mem_erase_of_ne hne).2 (h x (by simp [hx])))
    rw [List.length_erase_of_mem ha] at this
    have : 0 < m.length := List.length_pos_of_mem ha
    simp
    omega
theorem Wf.below_len (h : Wf L last) (i : Nat) : (below L i).length ≤ L.length := by
  have := nodup_len (h.below_nodup i) (m := L.map (·.id)) (fun x hx => by
    obtain ⟨_, _, e, he, rfl⟩ := h.below_in hx
    exact List.mem_map.2 ⟨e, he, rfl⟩)
  simpa using this
theorem Wf.kids_len (h : Wf L last) (i : Nat) : (kids L i).length ≤ L.length := by
  have := nodup_len (h.kids_nodup i) (m := L.map (·.id)) (fun x hx => by
    obtain ⟨_, e, he, rfl, _⟩ := mem_kids.1 hx
    exact List.mem_map.2 ⟨e, he, rfl⟩)
  simpa using this
theorem Wf.len (h : Wf L last) : L.length ≤ last := by
  have := nodup_len (l := L.map (·.id)) (m := (List.range (last + 1)).tail) (by rw [List.nodup_iff_pairwise_ne, List.pairwise_map]; exact h.ids) (fun x hx => by
    obtain ⟨e, he, rfl⟩ := List.mem_map.1 hx
    have := h.lo e he
    rw [List.range_succ_eq_map, List.tail_cons, List.mem_map]
    exact ⟨e.id - 1, List.mem_range.2 (by omega), by omega⟩)
  simpa using this

/-- A node comes to a parent, behind all (to 0: a root). -/
def move (L : List Nd) (e : Nd) (q : Nat) : List Nd := L.filter (fun x => x.id != e.id) ++ [{ e with par := q }]
/-- What is left when some went. -/
def less (L : List Nd) (D : List Nat) : List Nd := L.filter fun x => !D.contains x.id
theorem mem_move {e x : Nd} {q : Nat} : x ∈ move L e q ↔ (x ∈ L ∧ x.id ≠ e.id) ∨ x = { e with par := q } := by
  unfold move; simp [List.mem_filter]
theorem mem_less {x : Nd} {D : List Nat} : x ∈ less L D ↔ x ∈ L ∧ x.id ∉ D := by
  unfold less; simp [List.mem_filter]
theorem kids_move (L : List Nd) (e : Nd) (q i : Nat) : kids (move L e q) i = (kids L i).filter (fun k => k != e.id) ++ (if i ≠ 0 ∧ q = i then [e.id] else []) := by
  unfold kids move
  by_cases h0 : i = 0
  · simp [h0]
  · simp only [h0, if_false]
    rw [List.filter_append, List.map_append, List.filter_map, List.filter_filter, List.filter_filter]
    congr 1
    · congr 1
      apply List.filter_congr
      intro x _
      simp [Bool.and_comm]
    · by_cases hq : q = i <;> simp [hq, h0]
theorem kids_less (D : List Nat) (i : Nat) : kids (less L D) i = (kids L i).filter (fun k => !D.contains k) := by
  unfold kids less
  by_cases h0 : i = 0
  · simp [h0]
  · simp only [h0, if_false]
    rw [List.filter_map, List.filter_filter, List.filter_filter]
    congr 1
    apply List.filter_congr
    intro x _
    simp [Bool.and_comm]
theorem Wf.move (h : Wf L last) {e : Nd} (he : e ∈ L) {q : Nat} (hq : q < e.id) (hq2 : q = 0 ∨ ∃ f ∈ L, f.id = q) : Wf (move L e q) last := by
  have keep : ∀ f ∈ L, f.id = e.id ∨ f ∈ Go.Proofs.Ytiechmcfafhfaaa.move L e q := fun f hf => by
    by_cases e1 : f.id = e.id
    · exact .inl e1
    · exact .inr (mem_move.2 (.inl ⟨hf, e1⟩))
  have there : ∀ i, (∃ f ∈ L, f.id = i) → ∃ f ∈ Go.Proofs.Ytiechmcfafhfaaa.move L e q, f.id = i := by
    rintro i ⟨f, hf, rfl⟩
    rcases keep f hf with e1 | e1
    · exact ⟨_, mem_move.2 (.inr rfl), e1.symm⟩
    · exact ⟨f, e1, rfl⟩
  refine ⟨fun x hx => ?_, ?_, ?_, fun x hx => ?_⟩
  · rcases mem_move.1 hx with ⟨h1, _⟩ | rfl
    · exact h.lo x h1
    · exact h.lo e he
  · unfold Go.Proofs.Ytiechmcfafhfaaa.move
    rw [List.pairwise_append]
    exact ⟨h.ids.sublist List.filter_sublist, by simp, fun a ha b hb => by
      obtain rfl := List.mem_singleton.1 hb
      simpa using (List.mem_filter.1 ha).2⟩
  · unfold Go.Proofs.Ytiechmcfafhfaaa.move
    rw [List.pairwise_append]
    exact ⟨h.own.sublist List.filter_sublist, by simp, fun a ha b hb => by
      obtain rfl := List.mem_singleton.1 hb
      obtain ⟨h1, h2⟩ := List.mem_filter.1 ha
      rintro ⟨e1, e2⟩
      have := h.owner h1 he e1 e2
      simp [this] at h2⟩
  · rcases mem_move.1 hx with ⟨h1, _⟩ | rfl
    · exact ⟨(h.par x h1).1, (h.par x h1).2.imp id (there _)⟩
    · exact ⟨hq, hq2.imp id (there _)⟩
/-- Some go, and all below each of them. -/
theorem Wf.less (h : Wf L last) {D : List Nat} (hD : ∀ e ∈ L, e.par ∈ D → e.id ∈ D) : Wf (less L D) last := by
  refine ⟨fun x hx => h.lo x (mem_less.1 hx).1, h.ids.sublist List.filter_sublist, h.own.sublist List.filter_sublist, fun x hx => ?_⟩
  obtain ⟨h1, h2⟩ := mem_less.1 hx
  refine ⟨(h.par x h1).1, (h.par x h1).2.imp id ?_⟩
  rintro ⟨f, hf, e⟩
  exact ⟨f, mem_less.2 ⟨hf, fun hd => h2 (hD x h1 (by rw [← e]; exact hd))⟩, e⟩
/-- One more. -/
theorem Wf.add (h : Wf L last) {q : Nat} (hq : q = 0 ∨ ∃ f ∈ L, f.id = q) {sp sl : Int} (ho : ∀ f ∈ L, ¬ (f.sp = sp ∧ f.sl = sl)) : Wf (L ++ [⟨last + 1, q, sp, sl⟩]) (last + 1) := by
  have hlt : q < last + 1 := by
    rcases hq with rfl | ⟨f, hf, rfl⟩
    · omega
    · have := h.lo f hf; omega
  refine ⟨fun x hx => ?_, ?_, ?_, fun x hx => ?_⟩
  · rcases List.mem_append.1 hx with h1 | h1
    · have := h.lo x h1; omega
    · obtain rfl := List.mem_singleton.1 h1
      exact ⟨by show 1 ≤ last + 1; omega, Nat.le_refl _⟩
  · rw [List.pairwise_append]
    exact ⟨h.ids, by simp, fun a ha b hb => by
      obtain rfl := List.mem_singleton.1 hb
      have := h.lo a ha
      show a.id ≠ last + 1
      omega⟩
  · rw [List.pairwise_append]
    exact ⟨h.own, by simp, fun a ha b hb => by
      obtain rfl := List.mem_singleton.1 hb
      exact ho a ha⟩
  · rcases List.mem_append.1 hx with h1 | h1
    · refine ⟨(h.par x h1).1, (h.par x h1).2.imp id ?_⟩
      rintro ⟨f, hf, e⟩
      exact ⟨f, List.mem_append_left _ hf, e⟩
    · obtain rfl := List.mem_singleton.1 h1
      refine ⟨hlt, hq.imp id ?_⟩
      rintro ⟨f, hf, e⟩
      exact ⟨f, List.mem_append_left _ hf, e⟩
theorem kids_add (L : List Nd) (e : Nd) (i : Nat) : kids (L ++ [e]) i = kids L i ++ (if i ≠ 0 ∧ e.par = i then [e.id] else []) := by
  unfold kids
  by_cases h0 : i = 0
  · simp [h0]
  · simp only [h0, if_false]
    rw [List.filter_append, List.map_append]
    congr 1
    by_cases hq : e.par = i <;> simp [hq, h0]
end
end Go.Proofs.Ytiechmcfafhfaaa
