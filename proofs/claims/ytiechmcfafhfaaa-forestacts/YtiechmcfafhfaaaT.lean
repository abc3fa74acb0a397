/- Forests that are laid by bytes; what Lift does to children and to all below. -/
import Derived.Test.YtiechmcfafhfaaaS
namespace Go.Proofs.Ytiechmcfafhfaaa
open Go.RowKit Go.Maps Go.Shelf

theorem tmod_cast (x k : Nat) : (x : Int).tmod (k : Int) = ((x % k : Nat) : Int) := by
  first | rfl | (rw [Int.tmod_eq_emod_of_nonneg (by omega)]; simp)
/-- Bytes that came in. -/
def Bys (w : World) (B : Nat) (a : Option Addr) (ns : List Nat) : Prop := (∀ x ∈ ns, x ≤ 255) ∧ (ns.length = 0 ∨ ∃ s o, a = some ⟨s, o, none⟩ ∧ s < B ∧ ∀ j, j < ns.length → w.cell? ⟨s, o + j, none⟩ = some (.int .u8 ((ns[j]?.getD 0 : Nat) : Int)))
theorem Bys.at {w w' : World} {B j : Nat} {a : Option Addr} {ns : List Nat} (h : Bys w B a ns) (hb : Below B w w') (hj : j < ns.length) : ∃ s o, a = some ⟨s, o, none⟩ ∧ ns[j]?.getD 0 ≤ 255 ∧ w'.cell? ⟨s, o + j, none⟩ = some (.int .u8 ((ns[j]?.getD 0 : Nat) : Int)) := by
  rcases h.2 with h0 | ⟨s, o, rfl, hs, hc⟩
  · omega
  · exact ⟨s, o, rfl, by rw [List.getElem?_eq_getElem hj]; exact h.1 _ (List.getElem_mem hj), (hb.cell (p := ⟨s, o + j, none⟩) hs).trans (hc j hj)⟩
/-- The forest that so many bytes lay: each is a node below one of those ahead of it, or a root. -/
def grow (ns : List Nat) (own : Nat → Int × Int) : Nat → List Nd
  | 0 => []
  | k + 1 => grow ns own k ++ [⟨k + 1, ns[k]?.getD 0 % (k + 1), (own k).1, (own k).2⟩]
theorem grow_mem {ns : List Nat} {own : Nat → Int × Int} : ∀ {n : Nat} {e : Nd}, e ∈ grow ns own n ↔ ∃ j, j < n ∧ e = ⟨j + 1, ns[j]?.getD 0 % (j + 1), (own j).1, (own j).2⟩ := by
  intro n
  induction n with
  | zero => intro e; simp [grow]
  | succ n ih =>
    intro e
    unfold grow
    rw [List.mem_append, ih, List.mem_singleton]
    constructor
    · rintro (⟨j, hj, rfl⟩ | rfl)
      · exact ⟨j, by omega, rfl⟩
      · exact ⟨n, by omega, rfl⟩
    · rintro ⟨j, hj, rfl⟩
      by_cases h : j = n
      · subst h; exact .inr rfl
      · exact .inl ⟨j, by omega, rfl⟩
theorem grow_id {ns : List Nat} {own : Nat → Int × Int} {n i : Nat} (h : 1 ≤ i ∧ i ≤ n) : ∃ e ∈ grow ns own n, e.id = i := ⟨_, grow_mem.2 ⟨i - 1, by omega, rfl⟩, by show i - 1 + 1 = i; omega⟩
theorem grow_len (ns : List Nat) (own : Nat → Int × Int) : ∀ n, (grow ns own n).length = n := by
  intro n
  induction n with
  | zero => rfl
  | succ n ih => unfold grow; rw [List.length_append, ih]; rfl
theorem grow_par {ns : List Nat} {own : Nat → Int × Int} {k : Nat} : Par (grow ns own k) (((ns[k]?.getD 0 % (k + 1) : Nat)) : Int) (ns[k]?.getD 0 % (k + 1)) := by
  refine ⟨rfl, ?_⟩
  by_cases h : ns[k]?.getD 0 % (k + 1) = 0
  · exact .inl h
  · have := Nat.mod_lt (ns[k]?.getD 0) (show 0 < k + 1 by omega)
    exact .inr (grow_id (by omega))
section
variable {v w w' : World} {p m1 m2 : Nat} {nb nb' : Nat → Nat} {L R : List Nd} {last last' : Nat} {e : Nd}
/-- One node more. -/
theorem z_grow {ns : List Nat} {own : Nat → Int × Int} {k : Nat} (h : Fz v w p m1 m2 nb k (grow ns own k)) (hk : k < 300) (ho : ∀ i j, i < j → j ≤ k → own i ≠ own j) (hs : ∀ i, i ≤ k → I64 (own i).1 ∧ I64 (own i).2) {x a b : Int} (hx : x = ((ns[k]?.getD 0 % (k + 1) : Nat) : Int)) (ha : a = (own k).1) (hb : b = (own k).2) :
    Calls Try.prog 9 #[ptr p, .int .i64 x, .int .i64 a, .int .i64 b] w fun en w' => en = .returned (.tuple #[.int .i64 ((k : Int) + 1), .int .i64 0]) ∧ ∃ nb', Fz v w' p m1 m2 nb' (k + 1) (grow ns own (k + 1)) ∧ Tr (FOwn p m1 m2 nb (grow ns own k)) (FOwn p m1 m2 nb' (grow ns own (k + 1))) w w' := by
  subst hx ha hb
  refine z_add h (by omega) grow_par (hs k (Nat.le_refl _)).1 (hs k (Nat.le_refl _)).2 (fun e he => ?_) (by omega) rfl rfl
  obtain ⟨j, hj, rfl⟩ := grow_mem.1 he
  rintro ⟨e1, e2⟩
  exact ho j k hj (Nat.le_refl _) (Prod.ext e1 e2)
/-- Below and Kids of a parent's number, 0 too. -/
theorem z_below (h : Fz v w p m1 m2 nb last L) {q : Nat} (hq : q = 0 ∨ ∃ f ∈ L, f.id = q) : Calls Try.prog 16 #[ptr p, .int .i64 (q : Int)] w (NumPost w (zs (below L q))) := by
  by_cases h0 : q = 0
  · subst h0
    exact fbelow_miss h.fo (by unfold I64; omega) h.fo.not0
  · obtain ⟨f, hf, rfl⟩ := hq.resolve_left h0
    exact fbelow_hit h.fo hf
theorem z_kids (h : Fz v w p m1 m2 nb last L) {q : Nat} (hq : q = 0 ∨ ∃ f ∈ L, f.id = q) : Calls Try.prog 15 #[ptr p, .int .i64 (q : Int)] w (NumPost w (zs (kids L q))) := by
  by_cases h0 : q = 0
  · subst h0
    exact fkids_miss h.fo (by unfold I64; omega) h.fo.not0
  · obtain ⟨f, hf, rfl⟩ := hq.resolve_left h0
    exact fkids_hit h.fo hf
end

/-- The nodes that are left when one was lifted. -/
theorem lifted_mem {L : List Nd} {last : Nat} (h : Wf L last) {i q : Nat} (hi : i ≠ 0) {g : Nd} : g ∈ lifted L i q ↔ ∃ f ∈ L, f.id ≠ i ∧ g = { f with par := if f.par = i then q else f.par } := by
  have key : ∀ (l : List Nat) (M : List Nd), l.Nodup → M.Pairwise (fun a b => a.id ≠ b.id) → (∀ x ∈ l, ∃ f ∈ M, f.id = x) →
      ((l.foldl (fun M k => mv M k q) M).Pairwise (fun a b => a.id ≠ b.id) ∧ ∀ g, g ∈ l.foldl (fun M k => mv M k q) M ↔ ∃ f ∈ M, g = { f with par := if f.id ∈ l then q else f.par }) := by
    intro l
    induction l with
    | nil =>
      intro M _ hp _
      exact ⟨hp, fun g => ⟨fun hg => ⟨g, hg, by simp⟩, fun ⟨f, hf, e⟩ => by simp at e; subst e; exact hf⟩⟩
    | cons x r ih =>
      intro M hnd hp hin
      obtain ⟨n1, n2⟩ := List.nodup_cons.1 hnd
      obtain ⟨f0, hf0, rfl⟩ := hin x (by simp)
      rw [List.foldl_cons, mv_of hp hf0]
      have hp2 : (move M f0 q).Pairwise (fun a b => a.id ≠ b.id) := by
        unfold move
        rw [List.pairwise_append]
        exact ⟨hp.sublist List.filter_sublist, by simp, fun a ha b hb => by
          obtain rfl := List.mem_singleton.1 hb
          simpa using (List.mem_filter.1 ha).2⟩
      obtain ⟨k1, k2⟩ := ih (move M f0 q) n2 hp2 (fun x hx => by
        obtain ⟨f, hf, rfl⟩ := hin x (by simp [hx])
        exact ⟨f, mem_move.2 (.inl ⟨hf, fun e => n1 (by rw [← e]; exact hx)⟩), rfl⟩)
      refine ⟨k1, fun g => (k2 g).trans ⟨?_, ?_⟩⟩
      · rintro ⟨f, hf, rfl⟩
        rcases mem_move.1 hf with ⟨h1, h2⟩ | rfl
        · exact ⟨f, h1, by simp [h2]⟩
        · exact ⟨f0, hf0, by simp⟩
      · rintro ⟨f, hf, rfl⟩
        by_cases e : f.id = f0.id
        · have : f = f0 := pair_inj (fun _ _ h => Ne.symm h) hp hf hf0 (fun hn => hn e)
          subst this
          exact ⟨_, mem_move.2 (.inr rfl), by simp⟩
        · exact ⟨f, mem_move.2 (.inl ⟨hf, e⟩), by simp [e]⟩
  obtain ⟨_, k2⟩ := key (kids L i) (less L [i]) (h.kids_nodup i) (h.ids.sublist List.filter_sublist) (fun x hx => by
    obtain ⟨_, f, hf, rfl, hp⟩ := mem_kids.1 hx
    have := (h.kid hx).1
    exact ⟨f, mem_less.2 ⟨hf, by simp; omega⟩, rfl⟩)
  refine (k2 g).trans ⟨?_, ?_⟩
  · rintro ⟨f, hf, rfl⟩
    obtain ⟨h1, h2⟩ := mem_less.1 hf
    refine ⟨f, h1, by simpa using h2, ?_⟩
    have : f.id ∈ kids L i ↔ f.par = i := ⟨fun hm => by
      obtain ⟨_, f2, hf2, e1, e2⟩ := mem_kids.1 hm
      rw [h.inj hf2 h1 e1] at e2; exact e2, fun hp => mem_kids.2 ⟨hi, f, h1, rfl, hp⟩⟩
    simp only [this]
  · rintro ⟨f, hf, hne, rfl⟩
    refine ⟨f, mem_less.2 ⟨hf, by simpa using hne⟩, ?_⟩
    have : f.id ∈ kids L i ↔ f.par = i := ⟨fun hm => by
      obtain ⟨_, f2, hf2, e1, e2⟩ := mem_kids.1 hm
      rw [h.inj hf2 hf e1] at e2; exact e2, fun hp => mem_kids.2 ⟨hi, f, hf, rfl, hp⟩⟩
    simp only [this]
theorem nodup_len_eq {l m : List Nat} (hl : l.Nodup) (hm : m.Nodup) (h : ∀ x, x ∈ l ↔ x ∈ m) : l.length = m.length :=
  Nat.le_antisymm (nodup_len hl (fun x hx => (h x).1 hx)) (nodup_len hm (fun x hx => (h x).2 hx))
section
variable {L : List Nd} {last : Nat} {e : Nd}
/-- How many children the parent has then. -/
theorem lifted_kids (h : Wf L last) (he : e ∈ L) (hp : e.par ≠ 0) (hR : Wf (lifted L e.id e.par) last) : (kids (lifted L e.id e.par) e.par).length + 1 = (kids L e.par).length + (kids L e.id).length := by
  have h0 : e.id ≠ 0 := by have := (h.lo e he).1; omega
  have hlt := (h.par e he).1
  have hin : e.id ∈ kids L e.par := sib he hp
  have hnd : ((kids L e.par).erase e.id ++ kids L e.id).Nodup := by
    rw [List.nodup_append]
    refine ⟨(h.kids_nodup _).erase _, h.kids_nodup _, fun a ha b hb hab => ?_⟩
    subst hab
    obtain ⟨_, f, hf, e1, e2⟩ := mem_kids.1 (List.mem_of_mem_erase ha)
    obtain ⟨_, g, hg, e3, e4⟩ := mem_kids.1 hb
    rw [h.inj hf hg (e1.trans e3.symm)] at e2
    omega
  have := nodup_len_eq (hR.kids_nodup e.par) hnd (fun x => by
    rw [mem_kids, List.mem_append, List.Nodup.mem_erase_iff (h.kids_nodup _), mem_kids, mem_kids]
    constructor
    · rintro ⟨_, g, hg, rfl, e2⟩
      obtain ⟨f, hf, hne, rfl⟩ := (lifted_mem h h0).1 hg
      by_cases hfp : f.par = e.id
      · exact .inr ⟨h0, f, hf, rfl, hfp⟩
      · simp [hfp] at e2
        exact .inl ⟨hne, hp, f, hf, rfl, e2⟩
    · rintro (⟨hne, _, f, hf, rfl, e2⟩ | ⟨_, f, hf, rfl, e2⟩)
      · exact ⟨hp, _, (lifted_mem h h0).2 ⟨f, hf, hne, rfl⟩, rfl, by simp [e2]⟩
      · have : f.id ≠ e.id := fun hh => by
          rw [h.inj hf he hh] at e2; omega
        exact ⟨hp, _, (lifted_mem h h0).2 ⟨f, hf, this, rfl⟩, rfl, by simp [e2]⟩)
  rw [List.length_append, List.length_erase_of_mem hin] at this
  have := List.length_pos_of_mem hin
  omega
/-- How many are below the parent then. -/
theorem lifted_below (h : Wf L last) (hl : last < 400) (he : e ∈ L) (hp : e.par ≠ 0) (hR : Wf (lifted L e.id e.par) last) : (below (lifted L e.id e.par) e.par).length + 1 = (below L e.par).length := by
  have h0 : e.id ≠ 0 := by have := (h.lo e he).1; omega
  have hlt := (h.par e he).1
  have hin : e.id ∈ below L e.par := (h.below_iff hl _ _).2 (.inl (sib he hp))
  have mem : ∀ b, (∃ f ∈ L, f.id = b ∧ b ≠ e.id) → (b ∈ below (lifted L e.id e.par) e.par ↔ b ∈ below L e.par) := by
    intro b
    induction b using Nat.strongRecOn with
    | _ b ih =>
      rintro ⟨f, hf, rfl, hne⟩
      have hfR : ({ f with par := if f.par = e.id then e.par else f.par } : Nd) ∈ lifted L e.id e.par := (lifted_mem h h0).2 ⟨f, hf, hne, rfl⟩
      have upR : f.id ∈ below (lifted L e.id e.par) e.par ↔ (if f.par = e.id then e.par else f.par) = e.par ∨ (if f.par = e.id then e.par else f.par) ∈ below (lifted L e.id e.par) e.par :=
        ⟨fun hb => hR.up _ hfR hb, fun hb => hb.elim (fun h1 => (hR.down hl _ hfR).2 h1 hp) (fun h1 => (hR.down hl _ hfR).1 h1)⟩
      have upL : f.id ∈ below L e.par ↔ f.par = e.par ∨ f.par ∈ below L e.par := ⟨fun hb => h.up _ hf hb, fun hb => hb.elim (fun h1 => (h.down hl _ hf).2 h1 hp) (fun h1 => (h.down hl _ hf).1 h1)⟩
      rw [upR, upL]
      by_cases hfp : f.par = e.id
      · rw [if_pos hfp, hfp]
        exact ⟨fun _ => .inr hin, fun _ => .inl rfl⟩
      · rw [if_neg hfp]
        by_cases hz : f.par = 0
        · constructor
          · rintro (h1 | h1)
            · exact .inl h1
            · have := (hR.below_in h1).1; omega
          · rintro (h1 | h1)
            · exact .inl h1
            · have := (h.below_in h1).1; omega
        · rw [ih f.par (h.par f hf).1 (by
            obtain ⟨g, hg, e1⟩ := (h.par f hf).2.resolve_left hz
            exact ⟨g, hg, e1, hfp⟩)]
  have := nodup_len_eq (hR.below_nodup e.par) ((h.below_nodup e.par).erase e.id) (fun x => by
    rw [List.Nodup.mem_erase_iff (h.below_nodup _)]
    constructor
    · intro hx
      obtain ⟨_, _, g, hg, rfl⟩ := hR.below_in hx
      obtain ⟨f, hf, hne, rfl⟩ := (lifted_mem h h0).1 hg
      exact ⟨hne, (mem f.id ⟨f, hf, rfl, hne⟩).1 hx⟩
    · rintro ⟨hne, hx⟩
      obtain ⟨_, _, f, hf, rfl⟩ := h.below_in hx
      exact (mem f.id ⟨f, hf, rfl, hne⟩).2 hx)
  rw [List.length_erase_of_mem hin] at this
  have := List.length_pos_of_mem hin
  omega
theorem lifted_len (h : Wf L last) (he : e ∈ L) (hR : Alike (less L [e.id]) (lifted L e.id e.par)) : (lifted L e.id e.par).length + 1 = L.length := by
  rw [hR.len]
  have : less L [e.id] = L.filter (fun x => x.id != e.id) := by
    unfold less
    apply List.filter_congr
    intro x _
    by_cases h : x.id = e.id <;> simp [h]
  rw [this, filter_one h.ids he]
  have := List.length_pos_of_mem he
  omega
end
end Go.Proofs.Ytiechmcfafhfaaa
