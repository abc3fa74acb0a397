/- Factories as a list: what is carved, closed, charged and refunded, and what follows. No program is named here. -/
import Derived.Test.YtlgceknfphholaaL
namespace Go.Proofs.Ytlgceknfphholaa

structure Fac where
  id : Nat
  par : Int
  lim : Nat
  chg : Nat

/-- The limits of a factory's children. -/
def kids (l : List Fac) (i : Int) : List Nat := l.filterMap fun f => if f.par = i then some f.lim else none
def useOf (l : List Fac) (f : Fac) : Nat := f.chg + (kids l f.id).sum
def the (l : List Fac) (i : Int) : Option Fac := l.find? fun f => decide ((f.id : Int) = i)
def setC (l : List Fac) (i : Int) (c : Nat) : List Fac := l.map fun f => if (f.id : Int) = i then { f with chg := c } else f
def del (l : List Fac) (i : Int) : List Fac := l.filter fun f => decide ((f.id : Int) ≠ i)

structure Inv (N : Nat) (l : List Fac) (nxt : Nat) : Prop where
  up : l.Pairwise fun a b => a.id < b.id
  low : ∀ f ∈ l, f.id < nxt
  root : ∃ f ∈ l, f.id = 0 ∧ f.lim = N
  par : ∀ f ∈ l, (f.id = 0 ∧ f.par = -1) ∨ (f.id ≠ 0 ∧ ∃ g ∈ l, f.par = (g.id : Int))
  fit : ∀ f ∈ l, useOf l f ≤ f.lim
  lim : ∀ f ∈ l, f.lim ≤ 1073741824
  few : l.length ≤ 32

theorem the_none {l : List Fac} {i : Int} : the l i = none ↔ ∀ f ∈ l, (f.id : Int) ≠ i := by
  unfold the; rw [List.find?_eq_none]; simp
theorem the_some {l : List Fac} {i : Int} {f : Fac} (h : the l i = some f) : f ∈ l ∧ (f.id : Int) = i := by
  unfold the at h
  exact ⟨List.mem_of_find?_eq_some h, by simpa using List.find?_some h⟩
theorem same_of {l : List Fac} (hu : l.Pairwise fun a b => a.id < b.id) {f g : Fac} (hf : f ∈ l) (hg : g ∈ l) (e : f.id = g.id) : f = g := by
  obtain ⟨j, hj, rfl⟩ := List.getElem_of_mem hf
  obtain ⟨k, hk, rfl⟩ := List.getElem_of_mem hg
  rw [List.pairwise_iff_getElem] at hu
  rcases Nat.lt_trichotomy j k with h | h | h
  · have := hu j k hj hk h; omega
  · subst h; rfl
  · have := hu k j hk hj h; omega
theorem the_mem {l : List Fac} (hu : l.Pairwise fun a b => a.id < b.id) {f : Fac} (hf : f ∈ l) : the l (f.id : Int) = some f := by
  cases h : the l (f.id : Int) with
  | none => exact absurd rfl (the_none.1 h f hf)
  | some g =>
    obtain ⟨hg, e⟩ := the_some h
    rw [same_of hu hg hf (by omega)]

theorem kids_append (l m : List Fac) (i : Int) : kids (l ++ m) i = kids l i ++ kids m i := by unfold kids; rw [List.filterMap_append]
theorem kids_setC (l : List Fac) (i : Int) (c : Nat) (j : Int) : kids (setC l i c) j = kids l j := by
  unfold kids setC
  rw [List.filterMap_map]
  congr 1
  funext f
  simp only [Function.comp]
  split <;> rfl
theorem kids_one (x : Fac) (i : Int) : kids [x] i = if x.par = i then [x.lim] else [] := by
  unfold kids
  simp only [List.filterMap_cons, List.filterMap_nil]
  split <;> rename_i h <;> split at h <;> simp_all
theorem sub_sum {a b : List Nat} (h : a.Sublist b) : a.sum ≤ b.sum := by
  induction h with
  | slnil => exact Nat.le_refl _
  | cons x _ ih => rw [List.sum_cons]; omega
  | cons_cons x _ ih => rw [List.sum_cons, List.sum_cons]; omega
theorem kids_del_le (l : List Fac) (i j : Int) : (kids (del l i) j).sum ≤ (kids l j).sum := by
  unfold kids del
  exact sub_sum (List.Sublist.filterMap _ List.filter_sublist)

theorem mem_setC {l : List Fac} {i : Int} {c : Nat} {f : Fac} (h : f ∈ setC l i c) : (f ∈ l ∧ (f.id : Int) ≠ i) ∨ ∃ g ∈ l, (g.id : Int) = i ∧ f = { g with chg := c } := by
  unfold setC at h
  obtain ⟨g, hg, rfl⟩ := List.mem_map.1 h
  split
  · rename_i e; exact .inr ⟨g, hg, e, rfl⟩
  · rename_i e; exact .inl ⟨hg, e⟩
theorem mem_setC_id {l : List Fac} {i : Int} {c : Nat} {f : Fac} (h : f ∈ setC l i c) : ∃ g ∈ l, g.id = f.id ∧ g.par = f.par ∧ g.lim = f.lim := by
  rcases mem_setC h with ⟨h, _⟩ | ⟨g, hg, _, rfl⟩
  · exact ⟨f, h, rfl, rfl, rfl⟩
  · exact ⟨g, hg, rfl, rfl, rfl⟩
theorem setC_mem {l : List Fac} {i : Int} {c : Nat} {g : Fac} (h : g ∈ l) : ∃ f ∈ setC l i c, f.id = g.id ∧ f.par = g.par ∧ f.lim = g.lim := by
  refine ⟨_, List.mem_map.2 ⟨g, h, rfl⟩, ?_⟩
  split <;> exact ⟨rfl, rfl, rfl⟩
theorem mem_del {l : List Fac} {i : Int} {f : Fac} : f ∈ del l i ↔ f ∈ l ∧ (f.id : Int) ≠ i := by unfold del; simp
theorem setC_ids (l : List Fac) (i : Int) (c : Nat) : (setC l i c).map Fac.id = l.map Fac.id := by
  unfold setC; rw [List.map_map]; congr 1; funext f; simp only [Function.comp]; split <;> rfl
theorem setC_len (l : List Fac) (i : Int) (c : Nat) : (setC l i c).length = l.length := by simp [setC]

theorem kids_none {l : List Fac} {i : Int} (h : ∀ f ∈ l, f.par ≠ i) : kids l i = [] := by
  unfold kids; rw [List.filterMap_eq_nil_iff]; intro f hf; rw [if_neg (h f hf)]
theorem kids_nil {l : List Fac} {i : Int} (h : kids l i = []) : ∀ f ∈ l, f.par ≠ i := by
  unfold kids at h; rw [List.filterMap_eq_nil_iff] at h
  intro f hf e
  have := h f hf
  rw [if_pos e] at this; cases this
theorem kids_le {l : List Fac} {i : Int} : ∀ x ∈ kids l i, ∃ f ∈ l, f.lim = x := by
  intro x hx
  unfold kids at hx
  obtain ⟨f, hf, e⟩ := List.mem_filterMap.1 hx
  split at e
  · exact ⟨f, hf, by simpa using e⟩
  · cases e
theorem kids_len (l : List Fac) (i : Int) : (kids l i).length ≤ l.length := by unfold kids; exact List.length_filterMap_le _ _

section
variable {N nxt : Nat} {l : List Fac}
theorem Inv.new (N : Nat) (h : N ≤ 1073741824) : Inv N [⟨0, -1, N, 0⟩] 1 := by
  refine ⟨by simp, by simp, ⟨_, List.mem_singleton.2 rfl, rfl, rfl⟩, by simp, ?_, by simpa using h, by simp⟩
  intro f hf
  rw [List.mem_singleton] at hf
  subst hf
  unfold useOf
  rw [kids_one, if_neg (by show ¬ ((-1 : Int) = ((0 : Nat) : Int)); decide)]
  simp

theorem Inv.add (h : Inv N l nxt) {p : Fac} (hp : p ∈ l) {n : Nat} (hn : useOf l p + n ≤ p.lim) (hl : l.length < 32) : Inv N (l ++ [⟨nxt, (p.id : Int), n, 0⟩]) (nxt + 1) := by
  have hnp := h.low p hp
  have h0 : 0 < nxt := by omega
  have hpl := h.lim p hp
  refine ⟨?_, ?_, ?_, ?_, ?_, ?_, by simp; omega⟩
  · rw [List.pairwise_append]
    refine ⟨h.up, by simp, fun a ha b hb => ?_⟩
    rw [List.mem_singleton] at hb; subst hb
    exact h.low a ha
  · intro f hf
    rcases List.mem_append.1 hf with hf | hf
    · have := h.low f hf; omega
    · rw [List.mem_singleton] at hf; subst hf; show nxt < nxt + 1; omega
  · obtain ⟨f, hf, e⟩ := h.root
    exact ⟨f, List.mem_append.2 (.inl hf), e⟩
  · intro f hf
    rcases List.mem_append.1 hf with hf | hf
    · rcases h.par f hf with e | ⟨e, g, hg, e2⟩
      · exact .inl e
      · exact .inr ⟨e, g, List.mem_append.2 (.inl hg), e2⟩
    · rw [List.mem_singleton] at hf; subst hf
      exact .inr ⟨by show nxt ≠ 0; omega, p, List.mem_append.2 (.inl hp), rfl⟩
  · intro f hf
    unfold useOf
    rw [kids_append, kids_one]
    rcases List.mem_append.1 hf with hf | hf
    · have := h.fit f hf
      unfold useOf at this
      by_cases e : (p.id : Int) = (f.id : Int)
      · rw [if_pos e]
        have e2 : p = f := same_of h.up hp hf (by omega)
        subst e2
        unfold useOf at hn
        simp; omega
      · rw [if_neg e]; simpa using this
    · rw [List.mem_singleton] at hf; subst hf
      rw [if_neg (by show ¬ ((p.id : Int) = (nxt : Int)); omega), kids_none (i := ((nxt : Nat) : Int)) (fun g hg e => by
        rcases h.par g hg with ⟨_, e2⟩ | ⟨_, g2, hg2, e2⟩
        · omega
        · have := h.low g2 hg2; omega)]
      simp
  · intro f hf
    rcases List.mem_append.1 hf with hf | hf
    · exact h.lim f hf
    · rw [List.mem_singleton] at hf; subst hf; show n ≤ _; unfold useOf at hn; omega

theorem Inv.setC (h : Inv N l nxt) {p : Fac} (hp : p ∈ l) {c : Nat} (hc : c + (kids l p.id).sum ≤ p.lim) : Inv N (setC l p.id c) nxt := by
  refine ⟨?_, ?_, ?_, ?_, ?_, ?_, by rw [setC_len]; exact h.few⟩
  · have := h.up
    have e : ∀ m : List Fac, m.Pairwise (fun a b => a.id < b.id) ↔ (m.map Fac.id).Pairwise (· < ·) := fun m => by rw [List.pairwise_map]
    rw [e] at this ⊢
    rw [setC_ids]; exact this
  · intro f hf
    obtain ⟨g, hg, e, _⟩ := mem_setC_id hf
    have := h.low g hg; omega
  · obtain ⟨f, hf, e1, e2⟩ := h.root
    obtain ⟨g, hg, i1, _, i3⟩ := setC_mem (i := p.id) (c := c) hf
    exact ⟨g, hg, by omega, by omega⟩
  · intro f hf
    obtain ⟨g, hg, e1, e2, _⟩ := mem_setC_id hf
    rcases h.par g hg with ⟨a, b⟩ | ⟨a, g2, hg2, b⟩
    · exact .inl ⟨by omega, by omega⟩
    · obtain ⟨g3, hg3, i1, _, _⟩ := setC_mem (i := p.id) (c := c) hg2
      exact .inr ⟨by omega, g3, hg3, by rw [← e2, b, i1]⟩
  · intro f hf
    unfold useOf
    rw [kids_setC]
    rcases mem_setC hf with ⟨hf, _⟩ | ⟨g, hg, e, rfl⟩
    · exact h.fit f hf
    · have e2 : g = p := same_of h.up hg hp (by omega)
      subst e2
      exact hc
  · intro f hf
    obtain ⟨g, hg, _, _, e⟩ := mem_setC_id hf
    rw [← e]; exact h.lim g hg

theorem Inv.del (h : Inv N l nxt) {p : Fac} (h0 : p.id ≠ 0) (hk : kids l p.id = []) : Inv N (del l p.id) nxt := by
  refine ⟨h.up.filter _, fun f hf => h.low f (mem_del.1 hf).1, ?_, ?_, ?_, fun f hf => h.lim f (mem_del.1 hf).1, Nat.le_trans (List.length_filter_le _ _) h.few⟩
  · obtain ⟨f, hf, e1, e2⟩ := h.root
    exact ⟨f, mem_del.2 ⟨hf, by omega⟩, e1, e2⟩
  · intro f hf
    obtain ⟨hf, hne⟩ := mem_del.1 hf
    rcases h.par f hf with e | ⟨a, g, hg, b⟩
    · exact .inl e
    · refine .inr ⟨a, g, mem_del.2 ⟨hg, fun e => ?_⟩, b⟩
      exact kids_nil hk f hf (by rw [b, e])
  · intro f hf
    have := h.fit f (mem_del.1 hf).1
    have := kids_del_le l p.id f.id
    unfold useOf at *
    omega
end

/-- By places. -/
theorem split_at {l : List Fac} (hu : l.Pairwise fun a b => a.id < b.id) {k : Nat} {f : Fac} (hk : l[k]? = some f) : l = l.take k ++ f :: l.drop (k + 1) ∧ (∀ g ∈ l.take k, g.id ≠ f.id) ∧ (∀ g ∈ l.drop (k + 1), g.id ≠ f.id) := by
  obtain ⟨hlt, e⟩ := List.getElem?_eq_some_iff.1 hk
  have h1 : l = l.take k ++ f :: l.drop (k + 1) := by
    rw [← e, ← List.drop_eq_getElem_cons hlt, List.take_append_drop]
  refine ⟨h1, ?_, ?_⟩
  · intro g hg
    rw [h1, List.pairwise_append] at hu
    have := hu.2.2 g hg f (by simp)
    omega
  · intro g hg
    rw [h1, List.pairwise_append, List.pairwise_cons] at hu
    have := hu.2.1.1 g hg
    omega
theorem del_at {l : List Fac} (hu : l.Pairwise fun a b => a.id < b.id) {k : Nat} {f : Fac} (hk : l[k]? = some f) : del l f.id = l.take k ++ l.drop (k + 1) := by
  obtain ⟨h1, h2, h3⟩ := split_at hu hk
  unfold del
  conv => lhs; rw [h1]
  rw [List.filter_append, List.filter_cons, if_neg (by simp), List.filter_eq_self.2 (fun g hg => by have := h2 g hg; simp; omega), List.filter_eq_self.2 (fun g hg => by have := h3 g hg; simp; omega)]
theorem setC_at {l : List Fac} (hu : l.Pairwise fun a b => a.id < b.id) {k : Nat} {f : Fac} (hk : l[k]? = some f) (c : Nat) : setC l f.id c = l.take k ++ { f with chg := c } :: l.drop (k + 1) := by
  obtain ⟨h1, h2, h3⟩ := split_at hu hk
  unfold setC
  conv => lhs; rw [h1]
  rw [List.map_append, List.map_cons, if_pos rfl]
  congr 1
  · conv => rhs; rw [← List.map_id (l.take k)]
    exact List.map_congr_left (fun g hg => by have := h2 g hg; rw [if_neg (by omega)]; rfl)
  · congr 1
    conv => rhs; rw [← List.map_id (l.drop (k + 1))]
    exact List.map_congr_left (fun g hg => by have := h3 g hg; rw [if_neg (by omega)]; rfl)
theorem the_at {l : List Fac} {i : Int} {f : Fac} (h : the l i = some f) : ∃ k, l[k]? = some f ∧ k < l.length ∧ (f.id : Int) = i ∧ ∀ j g, j < k → l[j]? = some g → (g.id : Int) ≠ i := by
  unfold the at h
  rw [List.find?_eq_some_iff_getElem] at h
  obtain ⟨h1, k, hk, e, h2⟩ := h
  refine ⟨k, by rw [← e]; exact List.getElem?_eq_getElem hk, hk, by simpa using h1, fun j g hj hg => ?_⟩
  have h3 := h2 j hj
  obtain ⟨hl, e2⟩ := List.getElem?_eq_some_iff.1 hg
  rw [e2] at h3
  simpa using h3

theorem setC_setC (l : List Fac) (i : Int) (c d : Nat) : setC (setC l i c) i d = setC l i d := by
  unfold setC
  rw [List.map_map]
  congr 1; funext f; simp only [Function.comp]
  split <;> rfl
theorem setC_self {l : List Fac} (hu : l.Pairwise fun a b => a.id < b.id) {f : Fac} (hf : f ∈ l) : setC l f.id f.chg = l := by
  unfold setC
  conv => rhs; rw [← List.map_id l]
  apply List.map_congr_left
  intro g hg
  by_cases e : (g.id : Int) = (f.id : Int)
  · rw [if_pos e, same_of hu hg hf (by omega)]; rfl
  · rw [if_neg e]; rfl

/-- All that is charged together is not more than the root's limit. -/
def total (l : List Fac) : Nat := (l.map Fac.chg).sum
theorem sum_kids (l : List Fac) (i : Int) : (kids l i).sum = (l.map fun g => if g.par = i then g.lim else 0).sum := by
  unfold kids
  induction l with
  | nil => rfl
  | cons a r ih =>
    rw [List.filterMap_cons, List.map_cons, List.sum_cons, ← ih]
    by_cases e : a.par = i
    · simp [e]
    · simp [e]
theorem sum_swap (l m : List Fac) (F : Fac → Fac → Nat) : (l.map fun f => (m.map fun g => F f g).sum).sum = (m.map fun g => (l.map fun f => F f g).sum).sum := by
  have hz : ∀ m : List Fac, (m.map fun _ => 0).sum = 0 := fun m => by induction m with
    | nil => rfl
    | cons a r ih => rw [List.map_cons, List.sum_cons, ih]
  have ha : ∀ (m : List Fac) (P Q : Fac → Nat), (m.map fun g => P g + Q g).sum = (m.map P).sum + (m.map Q).sum := fun m P Q => by
    induction m with
    | nil => rfl
    | cons a r ih => rw [List.map_cons, List.map_cons, List.map_cons, List.sum_cons, List.sum_cons, List.sum_cons, ih]; omega
  induction l with
  | nil => rw [List.map_nil, List.sum_nil]; exact (hz m).symm
  | cons a r ih =>
    rw [List.map_cons, List.sum_cons, ih, ← ha]
    congr 1
theorem sum_le {l : List Fac} {P Q : Fac → Nat} (h : ∀ f ∈ l, P f ≤ Q f) : (l.map P).sum ≤ (l.map Q).sum := by
  induction l with
  | nil => exact Nat.le_refl _
  | cons a r ih =>
    rw [List.map_cons, List.map_cons, List.sum_cons, List.sum_cons]
    have := h a (by simp)
    have := ih (fun f hf => h f (by simp [hf]))
    omega
theorem sum_add (l : List Fac) (P Q : Fac → Nat) : (l.map fun g => P g + Q g).sum = (l.map P).sum + (l.map Q).sum := by
  induction l with
  | nil => rfl
  | cons a r ih => rw [List.map_cons, List.map_cons, List.map_cons, List.sum_cons, List.sum_cons, List.sum_cons, ih]; omega
theorem sum_mem {l : List Fac} {P : Fac → Nat} {f : Fac} (h : f ∈ l) : P f ≤ (l.map P).sum := by
  induction l with
  | nil => cases h
  | cons a r ih =>
    rw [List.map_cons, List.sum_cons]
    rcases List.mem_cons.1 h with rfl | h
    · omega
    · have := ih h; omega
theorem Inv.total {N nxt : Nat} {l : List Fac} (h : Inv N l nxt) : total l ≤ N := by
  have h1 : (l.map fun f => useOf l f).sum ≤ (l.map fun f => f.lim).sum := sum_le (fun f hf => h.fit f hf)
  have h2 : (l.map fun f => useOf l f).sum = Ytlgceknfphholaa.total l + (l.map fun f => (kids l f.id).sum).sum := sum_add l _ _
  have h3 : (l.map fun f => (kids l f.id).sum).sum = (l.map fun g => (l.map fun f => if g.par = (f.id : Int) then g.lim else 0).sum).sum := by
    rw [← sum_swap l l (fun f g => if g.par = (f.id : Int) then g.lim else 0)]
    congr 1
    exact List.map_congr_left (fun f _ => sum_kids l f.id)
  have h4 : (l.map fun g => if g.id = 0 then 0 else g.lim).sum ≤ (l.map fun g => (l.map fun f => if g.par = (f.id : Int) then g.lim else 0).sum).sum := by
    apply sum_le
    intro g hg
    rcases h.par g hg with ⟨e, _⟩ | ⟨e, p, hp, e2⟩
    · rw [if_pos e]; exact Nat.zero_le _
    · rw [if_neg e]
      refine Nat.le_trans ?_ (sum_mem (P := fun f => if g.par = (f.id : Int) then g.lim else 0) hp)
      show g.lim ≤ if g.par = (p.id : Int) then g.lim else 0
      rw [if_pos e2]; exact Nat.le_refl _
  have h5 : (l.map fun f => f.lim).sum = (l.map fun g => if g.id = 0 then g.lim else 0).sum + (l.map fun g => if g.id = 0 then 0 else g.lim).sum := by
    rw [← sum_add]
    congr 1
    apply List.map_congr_left
    intro f _
    split <;> omega
  have h6 : (l.map fun g => if g.id = 0 then g.lim else 0).sum ≤ N := by
    obtain ⟨r, hr, e1, e2⟩ := h.root
    have hu := h.up
    clear h1 h2 h3 h4 h5
    have : ∀ m : List Fac, m.Pairwise (fun a b => a.id < b.id) → (∀ f ∈ m, f.id = 0 → f.lim = N) → (m.map fun g => if g.id = 0 then g.lim else 0).sum ≤ N := by
      intro m
      induction m with
      | nil => intro _ _; exact Nat.zero_le _
      | cons a t ih =>
        intro hp hm
        rw [List.map_cons, List.sum_cons]
        rw [List.pairwise_cons] at hp
        by_cases e : a.id = 0
        · have hz : (t.map fun g => if g.id = 0 then g.lim else 0).sum = 0 := by
            have : ∀ f ∈ t, (if f.id = 0 then f.lim else 0) ≤ 0 := fun f hf => by
              have := hp.1 f hf
              rw [if_neg (by omega)]; exact Nat.le_refl _
            have h7 := sum_le (Q := fun _ => 0) this
            have h8 : (t.map fun _ : Fac => 0).sum = 0 := by
              clear this h7 hp hm ih
              induction t with
              | nil => rfl
              | cons a r ih => rw [List.map_cons, List.sum_cons, ih]
            omega
          rw [if_pos e, hz, hm a (by simp) e]; omega
        · rw [if_neg e]
          have := ih hp.2 (fun f hf => hm f (by simp [hf]))
          omega
    refine this l hu (fun f hf e => ?_)
    rw [same_of hu hf hr (by omega), e2]
  omega

/-- What the calls answer, and what they leave. -/
def carveA (l : List Fac) (nxt : Nat) (p n : Int) : Int × Int × List Fac × Nat :=
  match the l p with
  | none => (0, 6, l, nxt)
  | some f => if n < 0 then (0, 1, l, nxt) else if (f.lim : Int) - (useOf l f : Int) < n then (0, 5, l, nxt) else if 32 ≤ l.length then (0, 11, l, nxt) else ((nxt : Int), 0, l ++ [⟨nxt, p, n.toNat, 0⟩], nxt + 1)
def closeA (l : List Fac) (i : Int) : Int × List Fac :=
  match the l i with
  | none => (6, l)
  | some f => if i = 0 then (1, l) else if 0 < (kids l i).length ∨ 0 < useOf l f then (12, l) else (0, del l i)
def chargeA (l : List Fac) (i n : Int) : Int × List Fac :=
  match the l i with
  | none => (6, l)
  | some f => if n < 0 then (1, l) else if (f.lim : Int) - (useOf l f : Int) < n then (5, l) else (0, setC l i (f.chg + n.toNat))
def refundA (l : List Fac) (i n : Int) : Int × List Fac :=
  match the l i with
  | none => (6, l)
  | some f => if n < 0 ∨ (f.chg : Int) < n then (1, l) else (0, setC l i (f.chg - n.toNat))
def limA (l : List Fac) (i : Int) : Int := match the l i with | none => 0 | some f => f.lim
def useA (l : List Fac) (i : Int) : Int := match the l i with | none => 0 | some f => useOf l f
def chgA (l : List Fac) (i : Int) : Int := match the l i with | none => 0 | some f => f.chg
def parA (l : List Fac) (i : Int) : Int := match the l i with | none => -1 | some f => f.par

section
variable {N nxt : Nat} {l : List Fac}
theorem Inv.carveA (h : Inv N l nxt) (p n : Int) : Inv N (carveA l nxt p n).2.2.1 (carveA l nxt p n).2.2.2 ∧ (carveA l nxt p n).2.2.2 ≤ nxt + 1 := by
  unfold Ytlgceknfphholaa.carveA
  split
  · exact ⟨h, by show nxt ≤ _; omega⟩
  · rename_i f hf
    obtain ⟨hm, rfl⟩ := the_some hf
    split
    · exact ⟨h, by show nxt ≤ _; omega⟩
    split
    · exact ⟨h, by show nxt ≤ _; omega⟩
    split
    · exact ⟨h, by show nxt ≤ _; omega⟩
    · exact ⟨h.add hm (by omega) (by omega), Nat.le_refl _⟩
theorem Inv.closeA (h : Inv N l nxt) (i : Int) : Inv N (closeA l i).2 nxt := by
  unfold Ytlgceknfphholaa.closeA
  split
  · exact h
  · rename_i f hf
    obtain ⟨hm, rfl⟩ := the_some hf
    split
    · exact h
    split
    · exact h
    · exact h.del (by omega) (List.eq_nil_of_length_eq_zero (by omega))
theorem Inv.chargeA (h : Inv N l nxt) (i n : Int) : Inv N (chargeA l i n).2 nxt := by
  unfold Ytlgceknfphholaa.chargeA
  split
  · exact h
  · rename_i f hf
    obtain ⟨hm, rfl⟩ := the_some hf
    split
    · exact h
    split
    · exact h
    · exact h.setC hm (by unfold useOf at *; omega)
theorem Inv.refundA (h : Inv N l nxt) (i n : Int) : Inv N (refundA l i n).2 nxt := by
  unfold Ytlgceknfphholaa.refundA
  split
  · exact h
  · rename_i f hf
    obtain ⟨hm, rfl⟩ := the_some hf
    split
    · exact h
    · have := h.fit f hm
      exact h.setC hm (by unfold useOf at *; omega)
end
end Go.Proofs.Ytlgceknfphholaa
