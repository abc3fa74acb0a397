/- Plain facts on worlds of which all but some blocks are as they were. No program is named here. · Factories as a list: what is carved, closed, charged and refunded, and what follows. No program is named here. · A tree of factories in memory, and the contracts of package quota's functions that turn nothing. · Contracts of carved, Ids, Limit, Use, Charged and Parent. · Contracts of charge, refund, Charge and Refund. · Contracts of Charge and Refund. · Contracts of add, New and Carve. · Contracts of New and Carve. -/
import Derived.WalkKit
import Derived.WalkSpells
import Derived.WalkLawsBesides
import Derived.Laws.CopyOwn
import Derived.Test.YtdmnemgooagehaaGreatDoorChecked
import Derived.Deep.AppendLies
import Derived.Deep.RegionHeld3
import Derived.Laws.OwnMore
import Derived.BigQuiet
import Derived.OwnWalk
import Derived.KernelRfl
import Derived.Deep.Cut
namespace Go.Proofs.YtdmnemgooagehaaGreatDoor.Qu
open Go.RowKit

/-- All blocks that were there, but for one, are as they were. -/
structure But (g : Nat) (w w' : World) : Prop where
  os : w'.os = w.os
  tape : w'.tape = w.tape
  output : w'.output = w.output
  size : w.heap.size ≤ w'.heap.size
  block : ∀ k, k < w.heap.size → k ≠ g → w'.heap[k]? = w.heap[k]?

theorem But.refl (g : Nat) (w : World) : But g w w := ⟨rfl, rfl, rfl, Nat.le_refl _, fun _ _ _ => rfl⟩
theorem But.trans {g : Nat} {a b c : World} (h : But g a b) (k : But g b c) : But g a c :=
  ⟨k.os.trans h.os, k.tape.trans h.tape, k.output.trans h.output, Nat.le_trans h.size k.size,
   fun i hi hg => (k.block i (Nat.lt_of_lt_of_le hi h.size) hg).trans (h.block i hi hg)⟩
theorem But.of_below {g : Nat} {w w' : World} (h : Below w.heap.size w w') : But g w w' :=
  ⟨h.os, h.tape, h.output, h.size, fun k hk _ => h.block k hk⟩
theorem But.drew {g : Nat} {a w : World} (h : But g a w) : But g a w.drew := ⟨h.os, h.tape, h.output, h.size, h.block⟩
theorem But.alloc {g : Nat} {a w : World} (h : But g a w) (o : Obj) : But g a (w.alloc o) :=
  h.trans ⟨rfl, rfl, rfl, by simp, fun k hk _ => Below.heap_alloc _ _ _ hk⟩
theorem But.setCell {g : Nat} {a w : World} (h : But g a w) {p : Addr} (hp : p.block = g ∨ a.heap.size ≤ p.block) (u : Value) : But g a (w.setCell p u) :=
  ⟨h.os, h.tape, h.output, by simpa using h.size, fun k hk hg => by
    rw [Below.heap_setCell _ _ _ _ (by rcases hp with hp | hp <;> omega)]; exact h.block k hk hg⟩
theorem But.setRow {g : Nat} {a w : World} (h : But g a w) {k : Nat} (hp : k = g ∨ a.heap.size ≤ k) (cs : Array Value) : But g a (w.setRow k cs) :=
  ⟨h.os, h.tape, h.output, by simpa using h.size, fun j hj hg => by
    rw [setRow_other w k j cs (by rcases hp with hp | hp <;> omega)]; exact h.block j hj hg⟩
theorem Below.of_but {B g : Nat} {w0 w w' : World} (hb : Below B w0 w) (hB : B ≤ w.heap.size) (h : But g w w') (hg : B ≤ g) : Below B w0 w' :=
  ⟨h.os.trans hb.os, h.tape.trans hb.tape, h.output.trans hb.output, Nat.le_trans hb.size h.size,
   fun k hk => (h.block k (by omega) (by omega)).trans (hb.block k hk)⟩
theorem Below.of_below {B : Nat} {w0 w w' : World} (hb : Below B w0 w) (hB : B ≤ w.heap.size) (h : Below w.heap.size w w') : Below B w0 w' :=
  hb.trans (h.mono hB)

theorem addr_add (g o j : Nat) : (⟨g, o, none⟩ : Addr).add j = ⟨g, o + j, none⟩ := by unfold Addr.add; split <;> simp_all
theorem setRow_alloc (w : World) (c cs : Array Value) (t : TypeId) : (w.alloc (.cells c t)).setRow w.heap.size cs = w.alloc (.cells cs t) := by
  unfold World.setRow World.alloc
  congr 1
  apply Array.ext
  · simp
  · intro i h1 h2
    simp only [Array.getElem_modify, Array.getElem_push]
    split
    · rename_i h; subst h; simp
    · rename_i h
      have h3 : i < w.heap.size := by simp at h2; omega
      simp [h3]

theorem hid {p : Prop} (h : p) : Hid p := h
/-- An append whose run is known. -/
theorem wpList_append_run {P : Program} {w w' : World} {ops : Array Oper} {rest : List Oper} {o : Oper} {a : Act} {Q : Exit → Act → World → Prop} (hgd : o.guard = none) (d s : Operand) (dT sT : TypeId)
    (ho : o.op = .call { callee := .builtin .append, args := #[d, s], argTypes := #[dT, sT] }) (vd vs v : Value) (hd : a.eval d = vd) (hs : a.eval s = vs)
    (hrun : (Builtin.append_ #[dT, sT] o.type #[vd, vs]).run P w = .ok v w')
    (h : wpList P ops Q rest (a.put o.dst v) w') : wpList P ops Q (o :: rest) a w := by
  refine wpList_plain hgd fun K hK => ?_
  unfold Oper.wp
  simp [execOp, ho, resolve, invoke, builtin, hd, hs, hrun, Result.andThen]
  exact hK _ _ h

theorem ret_bool {a b : Bool} (h : a = b) : Ending.returned (.bool a) = .returned (.bool b) := by rw [h]
theorem ret_int {k : IntKind} {a b : Int} (h : a = b) : Ending.returned (.int k a) = .returned (.int k b) := by rw [h]

/-- All blocks that were there, but for some, are as they were. -/
structure Turn (S : Nat → Prop) (w w' : World) : Prop where
  os : w'.os = w.os
  tape : w'.tape = w.tape
  output : w'.output = w.output
  size : w.heap.size ≤ w'.heap.size
  block : ∀ k, k < w.heap.size → ¬ S k → w'.heap[k]? = w.heap[k]?
theorem Turn.refl (S : Nat → Prop) (w : World) : Turn S w w := ⟨rfl, rfl, rfl, Nat.le_refl _, fun _ _ _ => rfl⟩
theorem Turn.trans {S : Nat → Prop} {a b c : World} (h : Turn S a b) (k : Turn S b c) : Turn S a c :=
  ⟨k.os.trans h.os, k.tape.trans h.tape, k.output.trans h.output, Nat.le_trans h.size k.size, fun i hi hg => (k.block i (Nat.lt_of_lt_of_le hi h.size) hg).trans (h.block i hi hg)⟩
theorem Turn.of_below {S : Nat → Prop} {w w' : World} (h : Below w.heap.size w w') : Turn S w w' := ⟨h.os, h.tape, h.output, h.size, fun k hk _ => h.block k hk⟩
theorem Turn.of_but {S : Nat → Prop} {w w' : World} {g : Nat} (h : But g w w') (hS : S g ∨ w.heap.size ≤ g) : Turn S w w' :=
  ⟨h.os, h.tape, h.output, h.size, fun k hk hn => h.block k hk (fun e => by subst e; rcases hS with h1 | h1; exact hn h1; omega)⟩
theorem Turn.drewN {S : Nat → Prop} {a w : World} (h : Turn S a w) (k : Nat) : Turn S a (w.drewN k) := ⟨h.os, h.tape, h.output, h.size, h.block⟩
theorem Turn.drew {S : Nat → Prop} {a w : World} (h : Turn S a w) : Turn S a w.drew := ⟨h.os, h.tape, h.output, h.size, h.block⟩
theorem Turn.alloc {S : Nat → Prop} {a w : World} (h : Turn S a w) (o : Obj) : Turn S a (w.alloc o) := h.trans (Turn.of_below ((Below.refl _ _).alloc (Nat.le_refl _) _))
theorem Turn.then {S : Nat → Prop} {a w w' : World} {g : Nat} (h : Turn S a w) (k : But g w w') (hS : S g ∨ w.heap.size ≤ g) : Turn S a w' := h.trans (Turn.of_but k hS)
theorem Below.of_turn {S : Nat → Prop} {Bd : Nat} {w0 w w' : World} (hb : Below Bd w0 w) (hB : Bd ≤ w.heap.size) (h : Turn S w w') (hS : ∀ k, S k → Bd ≤ k) : Below Bd w0 w' :=
  ⟨h.os.trans hb.os, h.tape.trans hb.tape, h.output.trans hb.output, Nat.le_trans hb.size h.size, fun k hk => (h.block k (by omega) (fun hs => by have := hS k hs; omega)).trans (hb.block k hk)⟩
theorem Turn.of_grown {S : Nat → Prop} {w w' : World} {r : Option Nat} (h : w.grownBy w' r) (hS : ∀ j, r = some j → S j ∨ w.heap.size ≤ j) : Turn S w w' :=
  ⟨h.os, h.tape, h.output, h.size, fun k hk hn => h.block k hk (fun e => by rcases hS k (by rw [← e]) with h1 | h1; exact hn h1; omega)⟩

theorem setCell_head {w : World} {r j : Nat} {cs : Array Value} {t : TypeId} (h : w.heap[r]? = some (.cells cs t)) (v : Value) : (w.setCell ⟨r, j, none⟩ v).heap[r]? = some (.cells (cs.setIfInBounds j v) t) := heap_setCell_same _ r j _ _ _ h
theorem _root_.Go.World.ownsRow.other {w w' : World} {base : Nat} {e : TypeId} {size : Nat} {v : Value} {n : Nat} {xs : List Value} (h : w.ownsRow base e size v n xs) (ho : ∀ g, v.ownBlock = some g → w'.heap[g]? = w.heap[g]?) : w'.ownsRow base e size v n xs := by
  refine ⟨h.1, ?_⟩
  rcases h.2 with h2 | ⟨g, cap, cur, rfl, hb, hg, r⟩
  · exact .inl h2
  · exact .inr ⟨g, cap, cur, rfl, hb, (ho g rfl).trans hg, r⟩

end Go.Proofs.YtdmnemgooagehaaGreatDoor.Qu

namespace Go.Proofs.YtdmnemgooagehaaGreatDoor.Qu

structure Fac where
  id : Nat
  par : Int
  lim : Nat
  chg : Nat

/-- The limits of a factory's children. -/
def kids (l : List Fac) (i : Int) : List Nat := l.filterMap fun f => if f.par = i then some f.lim else none
def useOf (l : List Fac) (f : Fac) : Nat := f.chg + (kids l f.id).sum
def the (l : List Fac) (i : Int) : Option Fac := l.find? fun f => decide ((f.id : Int) = i)
def setC (l : List Fac) (i : Int) (c : Nat) : List Fac := l.map fun f => if (f.id : Int) = i then { f with chg := c } else f
def del (l : List Fac) (i : Int) : List Fac := l.filter fun f => decide ((f.id : Int) ≠ i)

structure Inv (N : Nat) (l : List Fac) (nxt : Nat) : Prop where
  up : l.Pairwise fun a b => a.id < b.id
  low : ∀ f ∈ l, f.id < nxt
  root : ∃ f ∈ l, f.id = 0 ∧ f.lim = N
  par : ∀ f ∈ l, (f.id = 0 ∧ f.par = -1) ∨ (f.id ≠ 0 ∧ ∃ g ∈ l, f.par = (g.id : Int))
  fit : ∀ f ∈ l, useOf l f ≤ f.lim
  lim : ∀ f ∈ l, f.lim ≤ 1073741824
  few : l.length ≤ 32

theorem the_none {l : List Fac} {i : Int} : the l i = none ↔ ∀ f ∈ l, (f.id : Int) ≠ i := by
  unfold the; rw [List.find?_eq_none]; simp
theorem the_some {l : List Fac} {i : Int} {f : Fac} (h : the l i = some f) : f ∈ l ∧ (f.id : Int) = i := by
  unfold the at h
  exact ⟨List.mem_of_find?_eq_some h, by simpa using List.find?_some h⟩
theorem same_of {l : List Fac} (hu : l.Pairwise fun a b => a.id < b.id) {f g : Fac} (hf : f ∈ l) (hg : g ∈ l) (e : f.id = g.id) : f = g := by
  obtain ⟨j, hj, rfl⟩ := List.getElem_of_mem hf
  obtain ⟨k, hk, rfl⟩ := List.getElem_of_mem hg
  rw [List.pairwise_iff_getElem] at hu
  rcases Nat.lt_trichotomy j k with h | h | h
  · have := hu j k hj hk h; omega
  · subst h; rfl
  · have := hu k j hk hj h; omega
theorem the_mem {l : List Fac} (hu : l.Pairwise fun a b => a.id < b.id) {f : Fac} (hf : f ∈ l) : the l (f.id : Int) = some f := by
  cases h : the l (f.id : Int) with
  | none => exact absurd rfl (the_none.1 h f hf)
  | some g =>
    obtain ⟨hg, e⟩ := the_some h
    rw [same_of hu hg hf (by omega)]

theorem kids_append (l m : List Fac) (i : Int) : kids (l ++ m) i = kids l i ++ kids m i := by unfold kids; rw [List.filterMap_append]
theorem kids_setC (l : List Fac) (i : Int) (c : Nat) (j : Int) : kids (setC l i c) j = kids l j := by
  unfold kids setC
  rw [List.filterMap_map]
  congr 1
  funext f
  simp only [Function.comp]
  split <;> rfl
theorem kids_one (x : Fac) (i : Int) : kids [x] i = if x.par = i then [x.lim] else [] := by
  unfold kids
  simp only [List.filterMap_cons, List.filterMap_nil]
  split <;> rename_i h <;> split at h <;> simp_all
theorem sub_sum {a b : List Nat} (h : a.Sublist b) : a.sum ≤ b.sum := by
  induction h with
  | slnil => exact Nat.le_refl _
  | cons x _ ih => rw [List.sum_cons]; omega
  | cons_cons x _ ih => rw [List.sum_cons, List.sum_cons]; omega
theorem kids_del_le (l : List Fac) (i j : Int) : (kids (del l i) j).sum ≤ (kids l j).sum := by
  unfold kids del
  exact sub_sum (List.Sublist.filterMap _ List.filter_sublist)

theorem mem_setC {l : List Fac} {i : Int} {c : Nat} {f : Fac} (h : f ∈ setC l i c) : (f ∈ l ∧ (f.id : Int) ≠ i) ∨ ∃ g ∈ l, (g.id : Int) = i ∧ f = { g with chg := c } := by
  unfold setC at h
  obtain ⟨g, hg, rfl⟩ := List.mem_map.1 h
  split
  · rename_i e; exact .inr ⟨g, hg, e, rfl⟩
  · rename_i e; exact .inl ⟨hg, e⟩
theorem mem_setC_id {l : List Fac} {i : Int} {c : Nat} {f : Fac} (h : f ∈ setC l i c) : ∃ g ∈ l, g.id = f.id ∧ g.par = f.par ∧ g.lim = f.lim := by
  rcases mem_setC h with ⟨h, _⟩ | ⟨g, hg, _, rfl⟩
  · exact ⟨f, h, rfl, rfl, rfl⟩
  · exact ⟨g, hg, rfl, rfl, rfl⟩
theorem setC_mem {l : List Fac} {i : Int} {c : Nat} {g : Fac} (h : g ∈ l) : ∃ f ∈ setC l i c, f.id = g.id ∧ f.par = g.par ∧ f.lim = g.lim := by
  refine ⟨_, List.mem_map.2 ⟨g, h, rfl⟩, ?_⟩
  split <;> exact ⟨rfl, rfl, rfl⟩
theorem mem_del {l : List Fac} {i : Int} {f : Fac} : f ∈ del l i ↔ f ∈ l ∧ (f.id : Int) ≠ i := by unfold del; simp
theorem setC_ids (l : List Fac) (i : Int) (c : Nat) : (setC l i c).map Fac.id = l.map Fac.id := by
  unfold setC; rw [List.map_map]; congr 1; funext f; simp only [Function.comp]; split <;> rfl
theorem setC_len (l : List Fac) (i : Int) (c : Nat) : (setC l i c).length = l.length := by simp [setC]

theorem kids_none {l : List Fac} {i : Int} (h : ∀ f ∈ l, f.par ≠ i) : kids l i = [] := by
  unfold kids; rw [List.filterMap_eq_nil_iff]; intro f hf; rw [if_neg (h f hf)]
theorem kids_nil {l : List Fac} {i : Int} (h : kids l i = []) : ∀ f ∈ l, f.par ≠ i := by
  unfold kids at h; rw [List.filterMap_eq_nil_iff] at h
  intro f hf e
  have := h f hf
  rw [if_pos e] at this; cases this
theorem kids_le {l : List Fac} {i : Int} : ∀ x ∈ kids l i, ∃ f ∈ l, f.lim = x := by
  intro x hx
  unfold kids at hx
  obtain ⟨f, hf, e⟩ := List.mem_filterMap.1 hx
  split at e
  · exact ⟨f, hf, by simpa using e⟩
  · cases e
theorem kids_len (l : List Fac) (i : Int) : (kids l i).length ≤ l.length := by unfold kids; exact List.length_filterMap_le _ _

section
variable {N nxt : Nat} {l : List Fac}
theorem Inv.new (N : Nat) (h : N ≤ 1073741824) : Inv N [⟨0, -1, N, 0⟩] 1 := by
  refine ⟨by simp, by simp, ⟨_, List.mem_singleton.2 rfl, rfl, rfl⟩, by simp, ?_, by simpa using h, by simp⟩
  intro f hf
  rw [List.mem_singleton] at hf
  subst hf
  unfold useOf
  rw [kids_one, if_neg (by show ¬ ((-1 : Int) = ((0 : Nat) : Int)); decide)]
  simp

theorem Inv.add (h : Inv N l nxt) {p : Fac} (hp : p ∈ l) {n : Nat} (hn : useOf l p + n ≤ p.lim) (hl : l.length < 32) : Inv N (l ++ [⟨nxt, (p.id : Int), n, 0⟩]) (nxt + 1) := by
  have hnp := h.low p hp
  have h0 : 0 < nxt := by omega
  have hpl := h.lim p hp
  refine ⟨?_, ?_, ?_, ?_, ?_, ?_, by simp; omega⟩
  · rw [List.pairwise_append]
    refine ⟨h.up, by simp, fun a ha b hb => ?_⟩
    rw [List.mem_singleton] at hb; subst hb
    exact h.low a ha
  · intro f hf
    rcases List.mem_append.1 hf with hf | hf
    · have := h.low f hf; omega
    · rw [List.mem_singleton] at hf; subst hf; show nxt < nxt + 1; omega
  · obtain ⟨f, hf, e⟩ := h.root
    exact ⟨f, List.mem_append.2 (.inl hf), e⟩
  · intro f hf
    rcases List.mem_append.1 hf with hf | hf
    · rcases h.par f hf with e | ⟨e, g, hg, e2⟩
      · exact .inl e
      · exact .inr ⟨e, g, List.mem_append.2 (.inl hg), e2⟩
    · rw [List.mem_singleton] at hf; subst hf
      exact .inr ⟨by show nxt ≠ 0; omega, p, List.mem_append.2 (.inl hp), rfl⟩
  · intro f hf
    unfold useOf
    rw [kids_append, kids_one]
    rcases List.mem_append.1 hf with hf | hf
    · have := h.fit f hf
      unfold useOf at this
      by_cases e : (p.id : Int) = (f.id : Int)
      · rw [if_pos e]
        have e2 : p = f := same_of h.up hp hf (by omega)
        subst e2
        unfold useOf at hn
        simp; omega
      · rw [if_neg e]; simpa using this
    · rw [List.mem_singleton] at hf; subst hf
      rw [if_neg (by show ¬ ((p.id : Int) = (nxt : Int)); omega), kids_none (i := ((nxt : Nat) : Int)) (fun g hg e => by
        rcases h.par g hg with ⟨_, e2⟩ | ⟨_, g2, hg2, e2⟩
        · omega
        · have := h.low g2 hg2; omega)]
      simp
  · intro f hf
    rcases List.mem_append.1 hf with hf | hf
    · exact h.lim f hf
    · rw [List.mem_singleton] at hf; subst hf; show n ≤ _; unfold useOf at hn; omega

theorem Inv.setC (h : Inv N l nxt) {p : Fac} (hp : p ∈ l) {c : Nat} (hc : c + (kids l p.id).sum ≤ p.lim) : Inv N (setC l p.id c) nxt := by
  refine ⟨?_, ?_, ?_, ?_, ?_, ?_, by rw [setC_len]; exact h.few⟩
  · have := h.up
    have e : ∀ m : List Fac, m.Pairwise (fun a b => a.id < b.id) ↔ (m.map Fac.id).Pairwise (· < ·) := fun m => by rw [List.pairwise_map]
    rw [e] at this ⊢
    rw [setC_ids]; exact this
  · intro f hf
    obtain ⟨g, hg, e, _⟩ := mem_setC_id hf
    have := h.low g hg; omega
  · obtain ⟨f, hf, e1, e2⟩ := h.root
    obtain ⟨g, hg, i1, _, i3⟩ := setC_mem (i := p.id) (c := c) hf
    exact ⟨g, hg, by omega, by omega⟩
  · intro f hf
    obtain ⟨g, hg, e1, e2, _⟩ := mem_setC_id hf
    rcases h.par g hg with ⟨a, b⟩ | ⟨a, g2, hg2, b⟩
    · exact .inl ⟨by omega, by omega⟩
    · obtain ⟨g3, hg3, i1, _, _⟩ := setC_mem (i := p.id) (c := c) hg2
      exact .inr ⟨by omega, g3, hg3, by rw [← e2, b, i1]⟩
  · intro f hf
    unfold useOf
    rw [kids_setC]
    rcases mem_setC hf with ⟨hf, _⟩ | ⟨g, hg, e, rfl⟩
    · exact h.fit f hf
    · have e2 : g = p := same_of h.up hg hp (by omega)
      subst e2
      exact hc
  · intro f hf
    obtain ⟨g, hg, _, _, e⟩ := mem_setC_id hf
    rw [← e]; exact h.lim g hg

theorem Inv.del (h : Inv N l nxt) {p : Fac} (h0 : p.id ≠ 0) (hk : kids l p.id = []) : Inv N (del l p.id) nxt := by
  refine ⟨h.up.filter _, fun f hf => h.low f (mem_del.1 hf).1, ?_, ?_, ?_, fun f hf => h.lim f (mem_del.1 hf).1, Nat.le_trans (List.length_filter_le _ _) h.few⟩
  · obtain ⟨f, hf, e1, e2⟩ := h.root
    exact ⟨f, mem_del.2 ⟨hf, by omega⟩, e1, e2⟩
  · intro f hf
    obtain ⟨hf, hne⟩ := mem_del.1 hf
    rcases h.par f hf with e | ⟨a, g, hg, b⟩
    · exact .inl e
    · refine .inr ⟨a, g, mem_del.2 ⟨hg, fun e => ?_⟩, b⟩
      exact kids_nil hk f hf (by rw [b, e])
  · intro f hf
    have := h.fit f (mem_del.1 hf).1
    have := kids_del_le l p.id f.id
    unfold useOf at *
    omega
end

/-- By places. -/
theorem split_at {l : List Fac} (hu : l.Pairwise fun a b => a.id < b.id) {k : Nat} {f : Fac} (hk : l[k]? = some f) : l = l.take k ++ f :: l.drop (k + 1) ∧ (∀ g ∈ l.take k, g.id ≠ f.id) ∧ (∀ g ∈ l.drop (k + 1), g.id ≠ f.id) := by
  obtain ⟨hlt, e⟩ := List.getElem?_eq_some_iff.1 hk
  have h1 : l = l.take k ++ f :: l.drop (k + 1) := by
    rw [← e, ← List.drop_eq_getElem_cons hlt, List.take_append_drop]
  refine ⟨h1, ?_, ?_⟩
  · intro g hg
    rw [h1, List.pairwise_append] at hu
    have := hu.2.2 g hg f (by simp)
    omega
  · intro g hg
    rw [h1, List.pairwise_append, List.pairwise_cons] at hu
    have := hu.2.1.1 g hg
    omega
theorem del_at {l : List Fac} (hu : l.Pairwise fun a b => a.id < b.id) {k : Nat} {f : Fac} (hk : l[k]? = some f) : del l f.id = l.take k ++ l.drop (k + 1) := by
  obtain ⟨h1, h2, h3⟩ := split_at hu hk
  unfold del
  conv => lhs; rw [h1]
  rw [List.filter_append, List.filter_cons, if_neg (by simp), List.filter_eq_self.2 (fun g hg => by have := h2 g hg; simp; omega), List.filter_eq_self.2 (fun g hg => by have := h3 g hg; simp; omega)]
theorem setC_at {l : List Fac} (hu : l.Pairwise fun a b => a.id < b.id) {k : Nat} {f : Fac} (hk : l[k]? = some f) (c : Nat) : setC l f.id c = l.take k ++ { f with chg := c } :: l.drop (k + 1) := by
  obtain ⟨h1, h2, h3⟩ := split_at hu hk
  unfold setC
  conv => lhs; rw [h1]
  rw [List.map_append, List.map_cons, if_pos rfl]
  congr 1
  · conv => rhs; rw [← List.map_id (l.take k)]
    exact List.map_congr_left (fun g hg => by have := h2 g hg; rw [if_neg (by omega)]; rfl)
  · congr 1
    conv => rhs; rw [← List.map_id (l.drop (k + 1))]
    exact List.map_congr_left (fun g hg => by have := h3 g hg; rw [if_neg (by omega)]; rfl)
theorem the_at {l : List Fac} {i : Int} {f : Fac} (h : the l i = some f) : ∃ k, l[k]? = some f ∧ k < l.length ∧ (f.id : Int) = i ∧ ∀ j g, j < k → l[j]? = some g → (g.id : Int) ≠ i := by
  unfold the at h
  rw [List.find?_eq_some_iff_getElem] at h
  obtain ⟨h1, k, hk, e, h2⟩ := h
  refine ⟨k, by rw [← e]; exact List.getElem?_eq_getElem hk, hk, by simpa using h1, fun j g hj hg => ?_⟩
  have h3 := h2 j hj
  obtain ⟨hl, e2⟩ := List.getElem?_eq_some_iff.1 hg
  rw [e2] at h3
  simpa using h3

theorem setC_setC (l : List Fac) (i : Int) (c d : Nat) : setC (setC l i c) i d = setC l i d := by
  unfold setC
  rw [List.map_map]
  congr 1; funext f; simp only [Function.comp]
  split <;> rfl
theorem setC_self {l : List Fac} (hu : l.Pairwise fun a b => a.id < b.id) {f : Fac} (hf : f ∈ l) : setC l f.id f.chg = l := by
  unfold setC
  conv => rhs; rw [← List.map_id l]
  apply List.map_congr_left
  intro g hg
  by_cases e : (g.id : Int) = (f.id : Int)
  · rw [if_pos e, same_of hu hg hf (by omega)]; rfl
  · rw [if_neg e]; rfl

/-- All that is charged together is not more than the root's limit. -/
def total (l : List Fac) : Nat := (l.map Fac.chg).sum
theorem sum_kids (l : List Fac) (i : Int) : (kids l i).sum = (l.map fun g => if g.par = i then g.lim else 0).sum := by
  unfold kids
  induction l with
  | nil => rfl
  | cons a r ih =>
    rw [List.filterMap_cons, List.map_cons, List.sum_cons, ← ih]
    by_cases e : a.par = i
    · simp [e]
    · simp [e]
theorem sum_swap (l m : List Fac) (F : Fac → Fac → Nat) : (l.map fun f => (m.map fun g => F f g).sum).sum = (m.map fun g => (l.map fun f => F f g).sum).sum := by
  have hz : ∀ m : List Fac, (m.map fun _ => 0).sum = 0 := fun m => by induction m with
    | nil => rfl
    | cons a r ih => rw [List.map_cons, List.sum_cons, ih]
  have ha : ∀ (m : List Fac) (P Q : Fac → Nat), (m.map fun g => P g + Q g).sum = (m.map P).sum + (m.map Q).sum := fun m P Q => by
    induction m with
    | nil => rfl
    | cons a r ih => rw [List.map_cons, List.map_cons, List.map_cons, List.sum_cons, List.sum_cons, List.sum_cons, ih]; omega
  induction l with
  | nil => rw [List.map_nil, List.sum_nil]; exact (hz m).symm
  | cons a r ih =>
    rw [List.map_cons, List.sum_cons, ih, ← ha]
    congr 1
theorem sum_le {l : List Fac} {P Q : Fac → Nat} (h : ∀ f ∈ l, P f ≤ Q f) : (l.map P).sum ≤ (l.map Q).sum := by
  induction l with
  | nil => exact Nat.le_refl _
  | cons a r ih =>
    rw [List.map_cons, List.map_cons, List.sum_cons, List.sum_cons]
    have := h a (by simp)
    have := ih (fun f hf => h f (by simp [hf]))
    omega
theorem sum_add (l : List Fac) (P Q : Fac → Nat) : (l.map fun g => P g + Q g).sum = (l.map P).sum + (l.map Q).sum := by
  induction l with
  | nil => rfl
  | cons a r ih => rw [List.map_cons, List.map_cons, List.map_cons, List.sum_cons, List.sum_cons, List.sum_cons, ih]; omega
theorem sum_mem {l : List Fac} {P : Fac → Nat} {f : Fac} (h : f ∈ l) : P f ≤ (l.map P).sum := by
  induction l with
  | nil => cases h
  | cons a r ih =>
    rw [List.map_cons, List.sum_cons]
    rcases List.mem_cons.1 h with rfl | h
    · omega
    · have := ih h; omega
theorem Inv.total {N nxt : Nat} {l : List Fac} (h : Inv N l nxt) : total l ≤ N := by
  have h1 : (l.map fun f => useOf l f).sum ≤ (l.map fun f => f.lim).sum := sum_le (fun f hf => h.fit f hf)
  have h2 : (l.map fun f => useOf l f).sum = Qu.total l + (l.map fun f => (kids l f.id).sum).sum := sum_add l _ _
  have h3 : (l.map fun f => (kids l f.id).sum).sum = (l.map fun g => (l.map fun f => if g.par = (f.id : Int) then g.lim else 0).sum).sum := by
    rw [← sum_swap l l (fun f g => if g.par = (f.id : Int) then g.lim else 0)]
    congr 1
    exact List.map_congr_left (fun f _ => sum_kids l f.id)
  have h4 : (l.map fun g => if g.id = 0 then 0 else g.lim).sum ≤ (l.map fun g => (l.map fun f => if g.par = (f.id : Int) then g.lim else 0).sum).sum := by
    apply sum_le
    intro g hg
    rcases h.par g hg with ⟨e, _⟩ | ⟨e, p, hp, e2⟩
    · rw [if_pos e]; exact Nat.zero_le _
    · rw [if_neg e]
      refine Nat.le_trans ?_ (sum_mem (P := fun f => if g.par = (f.id : Int) then g.lim else 0) hp)
      show g.lim ≤ if g.par = (p.id : Int) then g.lim else 0
      rw [if_pos e2]; exact Nat.le_refl _
  have h5 : (l.map fun f => f.lim).sum = (l.map fun g => if g.id = 0 then g.lim else 0).sum + (l.map fun g => if g.id = 0 then 0 else g.lim).sum := by
    rw [← sum_add]
    congr 1
    apply List.map_congr_left
    intro f _
    split <;> omega
  have h6 : (l.map fun g => if g.id = 0 then g.lim else 0).sum ≤ N := by
    obtain ⟨r, hr, e1, e2⟩ := h.root
    have hu := h.up
    clear h1 h2 h3 h4 h5
    have : ∀ m : List Fac, m.Pairwise (fun a b => a.id < b.id) → (∀ f ∈ m, f.id = 0 → f.lim = N) → (m.map fun g => if g.id = 0 then g.lim else 0).sum ≤ N := by
      intro m
      induction m with
      | nil => intro _ _; exact Nat.zero_le _
      | cons a t ih =>
        intro hp hm
        rw [List.map_cons, List.sum_cons]
        rw [List.pairwise_cons] at hp
        by_cases e : a.id = 0
        · have hz : (t.map fun g => if g.id = 0 then g.lim else 0).sum = 0 := by
            have : ∀ f ∈ t, (if f.id = 0 then f.lim else 0) ≤ 0 := fun f hf => by
              have := hp.1 f hf
              rw [if_neg (by omega)]; exact Nat.le_refl _
            have h7 := sum_le (Q := fun _ => 0) this
            have h8 : (t.map fun _ : Fac => 0).sum = 0 := by
              clear this h7 hp hm ih
              induction t with
              | nil => rfl
              | cons a r ih => rw [List.map_cons, List.sum_cons, ih]
            omega
          rw [if_pos e, hz, hm a (by simp) e]; omega
        · rw [if_neg e]
          have := ih hp.2 (fun f hf => hm f (by simp [hf]))
          omega
    refine this l hu (fun f hf e => ?_)
    rw [same_of hu hf hr (by omega), e2]
  omega

/-- What the calls answer, and what they leave. -/
def carveA (l : List Fac) (nxt : Nat) (p n : Int) : Int × Int × List Fac × Nat :=
  match the l p with
  | none => (0, 6, l, nxt)
  | some f => if n < 0 then (0, 1, l, nxt) else if (f.lim : Int) - (useOf l f : Int) < n then (0, 5, l, nxt) else if 32 ≤ l.length then (0, 11, l, nxt) else ((nxt : Int), 0, l ++ [⟨nxt, p, n.toNat, 0⟩], nxt + 1)
def closeA (l : List Fac) (i : Int) : Int × List Fac :=
  match the l i with
  | none => (6, l)
  | some f => if i = 0 then (1, l) else if 0 < (kids l i).length ∨ 0 < useOf l f then (12, l) else (0, del l i)
def chargeA (l : List Fac) (i n : Int) : Int × List Fac :=
  match the l i with
  | none => (6, l)
  | some f => if n < 0 then (1, l) else if (f.lim : Int) - (useOf l f : Int) < n then (5, l) else (0, setC l i (f.chg + n.toNat))
def refundA (l : List Fac) (i n : Int) : Int × List Fac :=
  match the l i with
  | none => (6, l)
  | some f => if n < 0 ∨ (f.chg : Int) < n then (1, l) else (0, setC l i (f.chg - n.toNat))
def limA (l : List Fac) (i : Int) : Int := match the l i with | none => 0 | some f => f.lim
def useA (l : List Fac) (i : Int) : Int := match the l i with | none => 0 | some f => useOf l f
def chgA (l : List Fac) (i : Int) : Int := match the l i with | none => 0 | some f => f.chg
def parA (l : List Fac) (i : Int) : Int := match the l i with | none => -1 | some f => f.par

section
variable {N nxt : Nat} {l : List Fac}
theorem Inv.carveA (h : Inv N l nxt) (p n : Int) : Inv N (carveA l nxt p n).2.2.1 (carveA l nxt p n).2.2.2 ∧ (carveA l nxt p n).2.2.2 ≤ nxt + 1 := by
  unfold Qu.carveA
  split
  · exact ⟨h, by show nxt ≤ _; omega⟩
  · rename_i f hf
    obtain ⟨hm, rfl⟩ := the_some hf
    split
    · exact ⟨h, by show nxt ≤ _; omega⟩
    split
    · exact ⟨h, by show nxt ≤ _; omega⟩
    split
    · exact ⟨h, by show nxt ≤ _; omega⟩
    · exact ⟨h.add hm (by omega) (by omega), Nat.le_refl _⟩
theorem Inv.closeA (h : Inv N l nxt) (i : Int) : Inv N (closeA l i).2 nxt := by
  unfold Qu.closeA
  split
  · exact h
  · rename_i f hf
    obtain ⟨hm, rfl⟩ := the_some hf
    split
    · exact h
    split
    · exact h
    · exact h.del (by omega) (List.eq_nil_of_length_eq_zero (by omega))
theorem Inv.chargeA (h : Inv N l nxt) (i n : Int) : Inv N (chargeA l i n).2 nxt := by
  unfold Qu.chargeA
  split
  · exact h
  · rename_i f hf
    obtain ⟨hm, rfl⟩ := the_some hf
    split
    · exact h
    split
    · exact h
    · exact h.setC hm (by unfold useOf at *; omega)
theorem Inv.refundA (h : Inv N l nxt) (i n : Int) : Inv N (refundA l i n).2 nxt := by
  unfold Qu.refundA
  split
  · exact h
  · rename_i f hf
    obtain ⟨hm, rfl⟩ := the_some hf
    split
    · exact h
    · have := h.fit f hm
      exact h.setC hm (by unfold useOf at *; omega)
end
end Go.Proofs.YtdmnemgooagehaaGreatDoor.Qu

namespace Go.Proofs.YtdmnemgooagehaaGreatDoor.Qu
open Go.RowKit

theorem Turn.but {S : Nat → Prop} {a w w' : World} {g : Nat} (h : Turn S a w) (k : But g w w') (hS : S g ∨ a.heap.size ≤ g) : Turn S a w' :=
  ⟨k.os.trans h.os, k.tape.trans h.tape, k.output.trans h.output, Nat.le_trans h.size k.size, fun i hi hg => (k.block i (Nat.lt_of_lt_of_le hi h.size) (fun e => by subst e; rcases hS with h1 | h1; exact hg h1; omega)).trans (h.block i hi hg)⟩
theorem Turn.bel {S : Nat → Prop} {a w w' : World} (h : Turn S a w) (hb : Below w.heap.size w w') : Turn S a w' := h.trans (Turn.of_below hb)
theorem Turn.wide {S S' : Nat → Prop} {a w : World} (h : Turn S a w) (hs : ∀ x, S x → S' x) : Turn S' a w := ⟨h.os, h.tape, h.output, h.size, fun k hk hn => h.block k hk (fun e => hn (hs k e))⟩
theorem Below.drewN {B : Nat} {a w : World} (h : Below B a w) (k : Nat) : Below B a (w.drewN k) := ⟨h.os, h.tape, h.output, h.size, h.block⟩
theorem _root_.Go.World.ownsRow.drewN {w : World} {base : Nat} {e : TypeId} {size : Nat} {v : Value} {n : Nat} {xs : List Value} (h : w.ownsRow base e size v n xs) (k : Nat) : (w.drewN k).ownsRow base e size v n xs := h
theorem _root_.Go.World.ownsRow.bel {w w' : World} {base B : Nat} {e : TypeId} {size : Nat} {v : Value} {n : Nat} {xs : List Value} (h : w.ownsRow base e size v n xs) (hb : Below B w w') (hB : w.heap.size ≤ B) : w'.ownsRow base e size v n xs := by
  refine h.other (fun g hg => ?_)
  rcases h.2 with ⟨rfl, _⟩ | ⟨g', cap, cur, rfl, _, h2, _⟩
  · cases hg
  · obtain rfl : g' = g := by simpa [Value.ownBlock] using hg
    exact hb.block _ (by have := (Array.getElem?_eq_some_iff.1 h2).1; omega)
theorem own_block {w : World} {base : Nat} {e : TypeId} {size : Nat} {v : Value} {k : Nat} {xs : List Value} (h : w.ownsRow base e size v k xs) : ∀ r, v.ownBlock = some r → base ≤ r ∧ r < w.heap.size := by
  rcases h.2 with ⟨rfl, _⟩ | ⟨g, cap, cur, rfl, hb, h2, _⟩
  · intro r hr; cases hr
  · intro r hr
    obtain rfl : g = r := by simpa [Value.ownBlock] using hr
    exact ⟨hb, (Array.getElem?_eq_some_iff.1 h2).1⟩
/-- A row of single cells, read. -/
theorem row_cells {w : World} {base : Nat} {e : TypeId} {v : Value} {n : Nat} {xs : List Value} (h : w.ownsRow base e 1 v n xs) : ∃ a cap, v = .slice a n cap ∧ ∀ k u, xs[k]? = some u → ∃ g, a = some ⟨g, 0, none⟩ ∧ w.cell? ⟨g, k, none⟩ = some u := by
  obtain ⟨hl, h⟩ := h
  rcases h with ⟨rfl, rfl⟩ | ⟨g, cap, cur, rfl, _, h2, _, _, _, ht⟩
  · refine ⟨none, 0, rfl, fun k u hk => ?_⟩
    obtain rfl : xs = [] := List.eq_nil_of_length_eq_zero (by simpa using hl)
    cases hk
  · refine ⟨_, cap, rfl, fun k u hk => ⟨g, rfl, ?_⟩⟩
    rw [cell_of_row _ _ _ _ _ _ h2]
    rw [← ht] at hk
    have hlt : k < n := by
      obtain ⟨hh, _⟩ := List.getElem?_eq_some_iff.1 hk
      simp at hh; omega
    rw [List.getElem?_take_of_lt (by omega), Array.getElem?_toList] at hk
    exact hk
theorem row_at {w : World} {base : Nat} {e : TypeId} {a : Option Addr} {n cap k : Nat} {xs : List Value} {u : Value} (h : w.ownsRow base e 1 (.slice a n cap) n xs) (hk : xs[k]? = some u) : ∃ g, a = some ⟨g, 0, none⟩ ∧ w.cell? ⟨g, k, none⟩ = some u := by
  obtain ⟨a', cap', e, hh⟩ := row_cells h
  obtain ⟨rfl, rfl⟩ : a = a' ∧ cap = cap' := by simpa using e
  exact hh k u hk

def nats (l : List Nat) : List Value := l.map fun (n : Nat) => .int .i64 (n : Int)
theorem nats_get (l : List Nat) {k : Nat} (h : k < l.length) : (nats l)[k]? = some (.int .i64 ((l[k]?.getD 0 : Nat) : Int)) := by
  simp [nats, h]
def ptrs (fb : Nat → Nat) (l : List Fac) : List Value := l.map fun f => .pointer (some ⟨fb f.id, 0, none⟩)
def cellsF (f : Fac) : Array Value := #[.int .i64 (f.lim : Int), .int .i64 (f.chg : Int), .int .i64 (f.id : Int), .int .i64 f.par]

structure Qm (w : World) (p : Nat) (a : Option Addr) (cap : Nat) (l : List Fac) (nxt : Nat) (fb : Nat → Nat) : Prop where
  head : w.heap[p]? = some (.cells #[.slice a l.length cap, .int .i64 (nxt : Int)] 163)
  row : w.ownsRow 0 153 1 (.slice a l.length cap) l.length (ptrs fb l)
  fac : ∀ f ∈ l, w.heap[fb f.id]? = some (.cells (cellsF f) 160)
  one : ∀ f ∈ l, ∀ g ∈ l, fb f.id = fb g.id → f.id = g.id
  rp : (Value.slice a 0 0).ownBlock ≠ some p
  rf : ∀ f ∈ l, (Value.slice a 0 0).ownBlock ≠ some (fb f.id)
  fp : ∀ f ∈ l, fb f.id ≠ p

/-- The blocks that are the tree's own. -/
def Own (p : Nat) (a : Option Addr) (fb : Nat → Nat) (l : List Fac) (x : Nat) : Prop := x = p ∨ (Value.slice a 0 0).ownBlock = some x ∨ ∃ f ∈ l, x = fb f.id
theorem slice_own (a : Option Addr) (n cap : Nat) : (Value.slice a n cap).ownBlock = (Value.slice a 0 0).ownBlock := by cases a <;> rfl

section
variable {w w' : World} {p cap nxt : Nat} {a : Option Addr} {l : List Fac} {fb : Nat → Nat}
theorem Qm.lt (h : Qm w p a cap l nxt fb) {x : Nat} (hx : Own p a fb l x) : x < w.heap.size := by
  rcases hx with rfl | hx | ⟨f, hf, rfl⟩
  · exact (Array.getElem?_eq_some_iff.1 h.head).1
  · exact (own_block h.row x (by rw [slice_own]; exact hx)).2
  · exact (Array.getElem?_eq_some_iff.1 (h.fac f hf)).1
theorem Qm.other (h : Qm w p a cap l nxt fb) (ho : ∀ x, Own p a fb l x → w'.heap[x]? = w.heap[x]?) : Qm w' p a cap l nxt fb :=
  ⟨(ho p (.inl rfl)).trans h.head, h.row.other (fun g hg => ho g (.inr (.inl (by rw [slice_own] at hg; exact hg)))), fun f hf => (ho _ (.inr (.inr ⟨f, hf, rfl⟩))).trans (h.fac f hf), h.one, h.rp, h.rf, h.fp⟩
theorem Qm.below (h : Qm w p a cap l nxt fb) (hb : Below w.heap.size w w') : Qm w' p a cap l nxt fb := h.other (fun x hx => hb.block x (h.lt hx))
theorem Qm.turn {S : Nat → Prop} (h : Qm w p a cap l nxt fb) (hb : Turn S w w') (hS : ∀ x, Own p a fb l x → ¬ S x) : Qm w' p a cap l nxt fb := h.other (fun x hx => hb.block x (h.lt hx) (hS x hx))
theorem Qm.drewN (h : Qm w p a cap l nxt fb) (k : Nat) : Qm (w.drewN k) p a cap l nxt fb := h.other (fun _ _ => rfl)
theorem Qm.cell (h : Qm w p a cap l nxt fb) : w.cell? ⟨p, 0, none⟩ = some (.slice a l.length cap) := by rw [cell_of_row _ _ _ _ _ _ h.head]; rfl
theorem Qm.cell1 (h : Qm w p a cap l nxt fb) : w.cell? ⟨p, 1, none⟩ = some (.int .i64 (nxt : Int)) := by rw [cell_of_row _ _ _ _ _ _ h.head]; rfl
theorem Qm.ptr (h : Qm w p a cap l nxt fb) {k : Nat} {f : Fac} (hk : l[k]? = some f) : ∃ g, a = some ⟨g, 0, none⟩ ∧ w.cell? ⟨g, k, none⟩ = some (.pointer (some ⟨fb f.id, 0, none⟩)) :=
  row_at h.row (by unfold ptrs; rw [List.getElem?_map, hk]; rfl)
theorem Qm.lim (h : Qm w p a cap l nxt fb) {f : Fac} (hf : f ∈ l) : w.cell? ⟨fb f.id, 0, none⟩ = some (.int .i64 (f.lim : Int)) := by rw [cell_of_row _ _ _ _ _ _ (h.fac f hf)]; rfl
theorem Qm.chg (h : Qm w p a cap l nxt fb) {f : Fac} (hf : f ∈ l) : w.cell? ⟨fb f.id, 1, none⟩ = some (.int .i64 (f.chg : Int)) := by rw [cell_of_row _ _ _ _ _ _ (h.fac f hf)]; rfl
theorem Qm.id (h : Qm w p a cap l nxt fb) {f : Fac} (hf : f ∈ l) : w.cell? ⟨fb f.id, 2, none⟩ = some (.int .i64 (f.id : Int)) := by rw [cell_of_row _ _ _ _ _ _ (h.fac f hf)]; rfl
theorem Qm.par (h : Qm w p a cap l nxt fb) {f : Fac} (hf : f ∈ l) : w.cell? ⟨fb f.id, 3, none⟩ = some (.int .i64 f.par) := by rw [cell_of_row _ _ _ _ _ _ (h.fac f hf)]; rfl
end

theorem info3 : (Tryz.prog.info? 3).map (fun i => (i.zero, i.size, i.bytes)) = some (some (.int .i64 0), 1, 8) := by kernel_rfl
theorem info57 : (Tryz.prog.info? 153).map (fun i => (i.zero, i.size, i.bytes)) = some (some (.pointer none), 1, 8) := by kernel_rfl

theorem take_sum (xs : List Nat) {k : Nat} (h : k < xs.length) : (xs.take (k + 1)).sum = (xs.take k).sum + xs[k]?.getD 0 := by
  rw [List.take_add_one, List.sum_append]
  simp [h]
theorem take_le (xs : List Nat) (k : Nat) : (xs.take k).sum ≤ xs.sum := sub_sum (List.take_sublist _ _)

theorem sum_any (w : World) (base : Nat) (v : Value) (xs : List Nat) (h : w.ownsRow base 3 1 v xs.length (nats xs)) (hs : xs.sum ≤ 1073741824) (hl : xs.length ≤ 32) :
    Calls Tryz.prog 144 #[v] w fun e w' => e = .returned (.int .i64 (xs.sum : Int)) ∧ w' = w := by
  obtain ⟨a, cap, rfl, hc⟩ := row_cells h
  have HC := hid hc
  clear hc h
  go_enter Tryz.func144, Tryz.ntmps144
  go_wp2
  go_loop [3, 8] (fun s i => ∃ k : Nat, k ≤ xs.length ∧ i = .int .i64 k ∧ s = .int .i64 ((xs.take k).sum : Nat)) (fun _ i => xs.length - (intOf i).toNat)
  case atStart => exact ⟨0, Nat.zero_le _, rfl, rfl⟩
  case round =>
    obtain ⟨k, hk, rfl, rfl⟩ := hrel
    by_cases hlt : k < xs.length
    · obtain ⟨g, rfl, hx⟩ := HC.out k _ (nats_get xs hlt)
      have h1 := take_sum xs hlt
      have h2 := take_le xs (k + 1)
      have H1 := hid h1
      rw [h1] at h2
      clear h1
      generalize xs[k]?.getD 0 = x at *
      generalize (xs.take k).sum = s at *
      go_wp2
      exact ⟨⟨k + 1, by omega, by go_num, by rw [H1.out]; go_num⟩, by simp [intOf]; omega⟩
    · obtain rfl : k = xs.length := by omega
      rw [List.take_length]
      go_wp2
      go_ret
      exact ⟨rfl, rfl⟩

theorem use_any (w : World) (base b : Nat) (v : Value) (xs : List Nat) (c : Nat) (h : w.ownsRow base 3 1 v xs.length (nats xs)) (hc : w.cell? ⟨b, 1, none⟩ = some (.int .i64 (c : Int))) (hs : c + xs.sum ≤ 1073741824) (hl : xs.length ≤ 32) :
    Calls Tryz.prog 109 #[.pointer (some ⟨b, 0, none⟩), v] w fun e w' => e = .returned (.int .i64 ((c + xs.sum : Nat) : Int)) ∧ ∃ q, w' = w.drewN q := by
  have HR := hid h
  clear h
  obtain ⟨s, hse⟩ : ∃ s, s = xs.sum := ⟨_, rfl⟩
  have HS := fun n => sum_any (w.drewN n) base v xs (HR.out.drewN n) (by omega) hl
  rw [← hse] at HS hs ⊢
  have HS2 := hid HS
  clear hse HS
  go_enter Tryz.func109, Tryz.ntmps109
  go_wp2_with fail
  go_quiet ((go_at_call 144; exact Calls.quiet_of_same (HS2.out _)))
  go_wp2_with fail
  go_ret
  exact ⟨by first | rfl | exact ret_int (by omega), nq, rfl⟩

theorem fits_no (w : World) (b : Nat) (v : Value) (n : Int) (hn : n < 0) :
    Calls Tryz.prog 104 #[.pointer (some ⟨b, 0, none⟩), .int .i64 n, v] w fun e w' => e = .returned (.int .i64 1) ∧ w' = w := by
  go_enter Tryz.func104, Tryz.ntmps104
  go_wp2_with fail
  go_ret
  exact ⟨rfl, rfl⟩
theorem fits_any (w : World) (base b : Nat) (v : Value) (xs : List Nat) (c m : Nat) (n : Int) (h : w.ownsRow base 3 1 v xs.length (nats xs)) (h0 : w.cell? ⟨b, 0, none⟩ = some (.int .i64 (m : Int))) (hc : w.cell? ⟨b, 1, none⟩ = some (.int .i64 (c : Int))) (hs : c + xs.sum ≤ 1073741824) (hm : m ≤ 1073741824) (hl : xs.length ≤ 32) (hn : 0 ≤ n) :
    Calls Tryz.prog 104 #[.pointer (some ⟨b, 0, none⟩), .int .i64 n, v] w fun e w' => e = .returned (.int .i64 (if (m : Int) - ((c + xs.sum : Nat) : Int) < n then 5 else 0)) ∧ ∃ q, w' = w.drewN q := by
  have HR := hid h
  clear h
  obtain ⟨s, hse⟩ : ∃ s, s = c + xs.sum := ⟨_, rfl⟩
  have HS := fun k => use_any (w.drewN k) base b v xs c (HR.out.drewN k) hc (by omega) hl
  rw [← hse] at HS hs ⊢
  have HS2 := hid HS
  clear hse HS
  by_cases hd : (m : Int) - (s : Int) < n
  · rw [if_pos hd]
    go_enter Tryz.func104, Tryz.ntmps104
    go_wp2_with fail
    go_quiet ((go_at_call 109; exact Calls.quiet_of (HS2.out _)))
    go_wp2_with fail
    go_ret
    exact ⟨rfl, nq, rfl⟩
  · rw [if_neg hd]
    go_enter Tryz.func104, Tryz.ntmps104
    go_wp2_with fail
    go_quiet ((go_at_call 109; exact Calls.quiet_of (HS2.out _)))
    go_wp2_with fail
    go_ret
    exact ⟨rfl, nq, rfl⟩

section
variable {w : World} {p cap nxt : Nat} {a : Option Addr} {l : List Fac} {fb : Nat → Nat}

theorem find_nil (i : Int) (w : World) : Calls Tryz.prog 103 #[.pointer none, .int .i64 i] w fun e w' => e = .returned (.tuple #[.pointer none, .int .i64 1]) ∧ w' = w := by
  go_enter Tryz.func103, Tryz.ntmps103
  go_wp2
  go_ret2
  exact ⟨rfl, rfl⟩
theorem find_none (h : Qm w p a cap l nxt fb) (hl : l.length ≤ 32) (i : Int) (hi : the l i = none) :
    Calls Tryz.prog 103 #[.pointer (some ⟨p, 0, none⟩), .int .i64 i] w fun e w' => e = .returned (.tuple #[.pointer none, .int .i64 6]) ∧ w' = w := by
  have c0 := h.cell
  have HQ := hid h
  have HI := hid hi
  clear h hi
  go_enter Tryz.func103, Tryz.ntmps103
  go_wp2
  go_loop [15] (fun i => ∃ k : Nat, k ≤ l.length ∧ i = .int .i64 k) (fun i => l.length - (intOf i).toNat)
  case atStart => exact ⟨0, Nat.zero_le _, rfl⟩
  case round =>
    obtain ⟨k, hk, rfl⟩ := hrel
    by_cases hlt : k < l.length
    · obtain ⟨f, hf⟩ : ∃ f, l[k]? = some f := ⟨_, List.getElem?_eq_getElem hlt⟩
      have hm := List.mem_of_getElem? hf
      obtain ⟨g, rfl, hx⟩ := HQ.out.ptr hf
      have h2 := HQ.out.id hm
      have hne := the_none.1 HI.out f hm
      have hne2 : ((f.id : Int) == i) = false := by rw [beq_eq_false_iff_ne]; exact hne
      generalize fb f.id = b at *
      generalize f.id = fi at *
      go_wp2
      exact ⟨⟨k + 1, by omega, by go_num⟩, by simp [intOf]; omega⟩
    · go_wp2
      go_ret2
      exact ⟨rfl, rfl⟩
theorem find_some (h : Qm w p a cap l nxt fb) (hl : l.length ≤ 32) (i : Int) (f : Fac) (hi : the l i = some f) :
    Calls Tryz.prog 103 #[.pointer (some ⟨p, 0, none⟩), .int .i64 i] w fun e w' => e = .returned (.tuple #[.pointer (some ⟨fb f.id, 0, none⟩), .int .i64 0]) ∧ w' = w := by
  have c0 := h.cell
  obtain ⟨n, hn, hnl, hid', hno⟩ := the_at hi
  have HQ := hid h
  have HN := hid (And.intro hn hno)
  have HID := hid hid'
  obtain ⟨b, hb⟩ : ∃ b, b = fb f.id := ⟨_, rfl⟩
  rw [← hb]
  have HB := hid hb
  clear h hi hn hno hid' hb
  go_enter Tryz.func103, Tryz.ntmps103
  go_wp2
  go_loop [15] (fun i => ∃ k : Nat, k ≤ n ∧ i = .int .i64 k) (fun i => l.length - (intOf i).toNat)
  case atStart => exact ⟨0, Nat.zero_le _, rfl⟩
  case round =>
    obtain ⟨k, hk, rfl⟩ := hrel
    have hlt : k < l.length := by omega
    by_cases hkn : k < n
    · obtain ⟨f', hf⟩ : ∃ f, l[k]? = some f := ⟨_, List.getElem?_eq_getElem hlt⟩
      have hm := List.mem_of_getElem? hf
      obtain ⟨g, rfl, hx⟩ := HQ.out.ptr hf
      have h2 := HQ.out.id hm
      have hne := HN.out.2 k f' hkn hf
      have hne2 : ((f'.id : Int) == i) = false := by rw [beq_eq_false_iff_ne]; exact hne
      generalize fb f'.id = b' at *
      generalize f'.id = fi at *
      go_wp2
      exact ⟨⟨k + 1, by omega, by go_num⟩, by simp [intOf]; omega⟩
    · obtain rfl : k = n := by omega
      have hm := List.mem_of_getElem? HN.out.1
      obtain ⟨g, rfl, hx⟩ := HQ.out.ptr HN.out.1
      have h2 := HQ.out.id hm
      have hne2 : ((f.id : Int) == i) = true := by rw [beq_iff_eq]; exact HID.out
      rw [← HB.out] at hx h2
      clear HB HN HID
      generalize f.id = fi at *
      go_wp2
      go_ret2
      exact ⟨rfl, rfl⟩
end
end Go.Proofs.YtdmnemgooagehaaGreatDoor.Qu

namespace Go.Proofs.YtdmnemgooagehaaGreatDoor.Qu
open Go.RowKit

def RowPost (xs : List Nat) (w : World) (e : Ending) (w' : World) : Prop := ∃ v, e = .returned v ∧ w'.ownsRow w.heap.size 3 1 v xs.length (nats xs) ∧ Below w.heap.size w w'
theorem nats_snoc (xs : List Nat) (n : Nat) : nats (xs ++ [n]) = nats xs ++ [.int .i64 (n : Int)] := by simp [nats]
theorem take_snoc {l : List Fac} {k : Nat} {f : Fac} (h : l[k]? = some f) : l.take (k + 1) = l.take k ++ [f] := by rw [List.take_add_one, h]; rfl
theorem kids_next {l : List Fac} {k : Nat} {f : Fac} (h : l[k]? = some f) (i : Int) : kids (l.take (k + 1)) i = kids (l.take k) i ++ if f.par = i then [f.lim] else [] := by
  rw [take_snoc h, kids_append, kids_one]
theorem kids_take_len (l : List Fac) (k : Nat) (i : Int) : (kids (l.take k) i).length ≤ k := Nat.le_trans (kids_len _ _) (List.length_take_le _ _)

section
variable {w : World} {p cap nxt : Nat} {a : Option Addr} {l : List Fac} {fb : Nat → Nat}

set_option maxHeartbeats 2000000 in
theorem carved_any (h : Qm w p a cap l nxt fb) (hl : l.length ≤ 32) (i : Int) : Calls Tryz.prog 105 #[.pointer (some ⟨p, 0, none⟩), .int .i64 i] w (RowPost (kids l i) w) := by
  have c0 := h.cell
  obtain ⟨i0, hi0, hz0, hz1, hz2⟩ := info_parts info3
  have HIF := hid (And.intro hi0 (And.intro hz0 (And.intro hz1 hz2)))
  have HQ := hid h
  clear h hi0 hz0 hz1 hz2
  go_enter Tryz.func105, Tryz.ntmps105
  go_wp2
  go_loopw [5, 13] (fun v t wr => ∃ k : Nat, k ≤ l.length ∧ t = .int .i64 k ∧ Hid (wr.ownsRow w.heap.size 3 1 v (kids (l.take k) i).length (nats (kids (l.take k) i))) ∧ Below w.heap.size w wr) (fun _ t _ => l.length - (intOf t).toNat)
  case atStart => exact ⟨0, Nat.zero_le _, rfl, World.ownsRow_nil _ _ _ _, Below.refl _ _⟩
  case round =>
    obtain ⟨k, hk, rfl, hO, hX⟩ := hrel
    by_cases hlt : k < l.length
    · obtain ⟨f, hf⟩ : ∃ f, l[k]? = some f := ⟨_, List.getElem?_eq_getElem hlt⟩
      have hm := List.mem_of_getElem? hf
      have hQ := HQ.out.below hX
      obtain ⟨g, rfl, hx⟩ := hQ.ptr hf
      have h0 := hQ.lim hm
      have h3 := hQ.par hm
      have HK := hid (kids_next hf i)
      have hkl := kids_take_len l k i
      clear hQ hf hm c0
      generalize fb f.id = b at *
      generalize f.lim = m at *
      by_cases he : f.par = i
      · have he2 : (f.par == i) = true := by rw [beq_iff_eq]; exact he
        rw [if_pos he] at HK
        generalize f.par = fp at *
        generalize kids (l.take k) i = K at *
        go_wp2_with (first
          | (at_builtin; refine wpList_append_own _ rfl _ _ 34 rfl w.heap.size 3 i0 (.int .i64 0) 1 8 Tryz.underlying34 HIF.out.1 HIF.out.2.1 HIF.out.2.2.1 HIF.out.2.2.2 rfl (by decide) _ _ _ rfl (hO.out.alloc _) ⟨wr.heap.size, 0, none⟩ 1 1 [.int .i64 (m : Int)] rfl rfl ?c1 ?c2 ?c3 ?c4 ?c5 ?_)
          | fail)
        case c1 =>
          intro j u hj
          rw [addr_add, Nat.zero_add, cell_of_row _ _ _ _ _ _ (heap_alloc_new _ _), ← hj]
          match j, hj with
          | 0, _ => rfl
        case c2 =>
          intro u hu
          simp at hu
          subst hu; rfl
        case c3 => unfold maxLen; omega
        case c4 => omega
        case c5 => have := hX.size; simp; omega
        intro v' w5 hown' hgrow _
        have hX5 : Below w.heap.size w w5 := Below.grown (hX.alloc hX.size _) hgrow (by have := hX.size; simp; omega) (fun r hr => (own_block hO.out r hr).1)
        have HO : Hid (w5.ownsRow w.heap.size 3 1 v' (K ++ [m]).length (nats (K ++ [m]))) := by
          rw [nats_snoc, List.length_append]; exact hown'
        clear hown' hgrow hX hO
        go_wp2_with fail
        exact ⟨⟨k + 1, by omega, by go_num, by rw [HK.out]; exact HO, hX5⟩, by simp [intOf]; omega⟩
      · have he2 : (f.par == i) = false := by rw [beq_eq_false_iff_ne]; exact he
        rw [if_neg he, List.append_nil] at HK
        generalize f.par = fp at *
        go_wp2_with fail
        exact ⟨⟨k + 1, by omega, by go_num, by rw [HK.out]; exact hO, hX⟩, by simp [intOf]; omega⟩
    · obtain rfl : k = l.length := by omega
      rw [List.take_length] at hO
      go_wp2_with fail
      go_ret
      exact ⟨_, rfl, hO.out, hX⟩

theorem carved_drew (h : Qm w p a cap l nxt fb) (hl : l.length ≤ 32) (i : Int) : Calls Tryz.prog 105 #[.pointer (some ⟨p, 0, none⟩), .int .i64 i] w.drew (RowPost (kids l i) w) :=
  (carved_any (w := w.drew) (h.other (fun _ _ => rfl)) hl i).mono fun _ _ ⟨v, he, ho, hb⟩ => ⟨v, he, ho, ⟨hb.os, hb.tape, hb.output, hb.size, hb.block⟩⟩

theorem useT_nil (i : Int) (w : World) : Calls Tryz.prog 47 #[.pointer none, .int .i64 i] w fun e w' => e = .returned (.int .i64 0) ∧ w' = w := by
  go_enter Tryz.func47, Tryz.ntmps47
  go_wp2_with (go_at_call 103; refine (find_nil i _).mono ?_; rintro e w' ⟨rfl, rfl⟩)
  go_ret
  exact ⟨rfl, rfl⟩

/-- Kids of one who is there, in the invariant. -/
theorem Inv.kids_sum {N nxt : Nat} {l : List Fac} (h : Inv N l nxt) {f : Fac} (hf : f ∈ l) : useOf l f ≤ f.lim ∧ f.lim ≤ 1073741824 ∧ (kids l f.id).length ≤ 32 := ⟨h.fit f hf, h.lim f hf, Nat.le_trans (kids_len _ _) h.few⟩

def UsePost (z : Int) (w : World) (e : Ending) (w' : World) : Prop := e = .returned (.int .i64 z) ∧ Below w.heap.size w w'
set_option maxHeartbeats 2000000 in
theorem useT_any {N : Nat} (h : Qm w p a cap l nxt fb) (hI : Inv N l nxt) (i : Int) : Calls Tryz.prog 47 #[.pointer (some ⟨p, 0, none⟩), .int .i64 i] w (UsePost (useA l i) w) := by
  have HQ := hid h
  have hl := hI.few
  clear h
  cases hi : the l i with
  | none =>
    rw [show useA l i = 0 from by unfold useA; rw [hi]]
    have HI := hid hi
    clear hi
    go_enter Tryz.func47, Tryz.ntmps47
    go_wp2_with (go_at_call 103; refine (find_none HQ.out hl i HI.out).mono ?_; rintro e w' ⟨rfl, rfl⟩)
    go_ret
    exact ⟨rfl, Below.refl _ _⟩
  | some f =>
    rw [show useA l i = useOf l f from by unfold useA; rw [hi]]
    obtain ⟨hm, he⟩ := the_some hi
    have hk := hI.kids_sum hm
    rw [show kids l f.id = kids l i from by rw [he]] at hk
    have hu : useOf l f = f.chg + (kids l i).sum := by unfold useOf; rw [he]
    rw [hu] at hk ⊢
    have hb1 : fb f.id < w.heap.size := HQ.out.lt (.inr (.inr ⟨f, hm, rfl⟩))
    have hc := hid (HQ.out.chg hm)
    have HF := hid (find_some HQ.out hl i f hi)
    have HC := hid (carved_drew HQ.out hl i)
    have HK := hid hk
    clear hi HQ hI hu he hm hk
    generalize fb f.id = b at *
    generalize kids l i = xs at *
    have hk1 : f.chg + xs.sum ≤ 1073741824 := by have := HK.out; omega
    have hk2 : xs.length ≤ 32 := HK.out.2.2
    have HU := hid (fun (v : Value) (w1 : World) (ho : w1.ownsRow w.heap.size 3 1 v xs.length (nats xs)) (hX : Below w.heap.size w w1) => use_any w1 w.heap.size b v xs f.chg ho ((hX.cell (p := ⟨b, 1, none⟩) hb1).trans hc.out) hk1 hk2)
    clear hk1 hk2 HK hc hb1
    go_enter Tryz.func47, Tryz.ntmps47
    go_wp2_with (go_at_call 103; refine HF.out.mono ?_; rintro e w' ⟨rfl, rfl⟩)
    go_region_held3 (fun _ => True) (trivial) (first
      | (go_at_call 105; refine HC.out.mono ?_; rintro e w1 ⟨v, rfl, hO, hX⟩)
      | (go_at_call 109; refine (HU.out v w1 hO hX).mono ?_; rintro e w2 ⟨rfl, q, rfl⟩))
    go_wp2_with fail
    go_ret
    exact ⟨rfl, Below.drewN hX q⟩
end
end Go.Proofs.YtdmnemgooagehaaGreatDoor.Qu

namespace Go.Proofs.YtdmnemgooagehaaGreatDoor.Qu
open Go.RowKit

/-- A tree in memory, whose own blocks are among Z. -/
def Qt (Z : Nat → Prop) (w : World) (p : Nat) (l : List Fac) (nxt : Nat) : Prop := ∃ a cap fb, Qm w p a cap l nxt fb ∧ ∀ x, Own p a fb l x → Z x
theorem Qt.below {Z : Nat → Prop} {w w' : World} {p nxt : Nat} {l : List Fac} (h : Qt Z w p l nxt) (hb : Below w.heap.size w w') : Qt Z w' p l nxt := by
  obtain ⟨a, cap, fb, hq, hz⟩ := h
  exact ⟨a, cap, fb, hq.below hb, hz⟩
theorem Qt.turn {Z S : Nat → Prop} {w w' : World} {p nxt : Nat} {l : List Fac} (h : Qt Z w p l nxt) (hb : Turn S w w') (hS : ∀ x, Z x → ¬ S x) : Qt Z w' p l nxt := by
  obtain ⟨a, cap, fb, hq, hz⟩ := h
  exact ⟨a, cap, fb, hq.turn hb (fun x hx => hS x (hz x hx)), hz⟩
theorem Qt.narrow {Z : Nat → Prop} {w : World} {p nxt : Nat} {l : List Fac} (h : Qt Z w p l nxt) : Qt (fun x => Z x ∧ x < w.heap.size) w p l nxt := by
  obtain ⟨a, cap, fb, hq, hz⟩ := h
  exact ⟨a, cap, fb, hq, fun x hx => ⟨hz x hx, hq.lt hx⟩⟩
theorem Qt.wide {Z Z' : Nat → Prop} {w : World} {p nxt : Nat} {l : List Fac} (h : Qt Z w p l nxt) (hz' : ∀ x, Z x → Z' x) : Qt Z' w p l nxt := by
  obtain ⟨a, cap, fb, hq, hz⟩ := h
  exact ⟨a, cap, fb, hq, fun x hx => hz' x (hz x hx)⟩

theorem ptrs_ids (fb : Nat → Nat) (l : List Fac) : ptrs fb l = (l.map Fac.id).map fun i => .pointer (some ⟨fb i, 0, none⟩) := by
  unfold ptrs; rw [List.map_map]; rfl
theorem ptrs_setC (fb : Nat → Nat) (l : List Fac) (i : Int) (c : Nat) : ptrs fb (setC l i c) = ptrs fb l := by rw [ptrs_ids, ptrs_ids, setC_ids]

section
variable {w : World} {p cap nxt : Nat} {a : Option Addr} {l : List Fac} {fb : Nat → Nat}
theorem Qm.setC (h : Qm w p a cap l nxt fb) (hu : l.Pairwise fun a b => a.id < b.id) {f : Fac} (hf : f ∈ l) (c : Nat) : Qm (w.setCell ⟨fb f.id, 1, none⟩ (.int .i64 (c : Int))) p a cap (setC l f.id c) nxt fb := by
  have ho : ∀ x, x ≠ fb f.id → (w.setCell ⟨fb f.id, 1, none⟩ (.int .i64 (c : Int))).heap[x]? = w.heap[x]? := fun x hx => Below.heap_setCell _ _ _ _ hx
  refine ⟨?_, ?_, ?_, ?_, h.rp, ?_, ?_⟩
  · rw [ho p (fun e => h.fp f hf e.symm), setC_len]; exact h.head
  · rw [setC_len, ptrs_setC]
    exact h.row.other (fun g hg => ho g (fun e => h.rf f hf (by rw [slice_own] at hg; rw [hg, e])))
  · intro x hx
    rcases mem_setC hx with ⟨hx, hne⟩ | ⟨g, hg, he, rfl⟩
    · rw [ho _ (fun e => hne (by have := h.one x hx f hf e; omega))]
      exact h.fac x hx
    · have e2 : g = f := same_of hu hg hf (by omega)
      subst e2
      show (w.setCell ⟨fb g.id, 1, none⟩ (.int .i64 (c : Int))).heap[fb g.id]? = _
      rw [setCell_head (h.fac g hg)]; rfl
  · intro x hx y hy e
    obtain ⟨x', hx', e1, _⟩ := mem_setC_id hx
    obtain ⟨y', hy', e2, _⟩ := mem_setC_id hy
    rw [← e1, ← e2] at e ⊢
    exact h.one x' hx' y' hy' e
  · intro x hx
    obtain ⟨x', hx', e1, _⟩ := mem_setC_id hx
    rw [← e1]; exact h.rf x' hx'
  · intro x hx
    obtain ⟨x', hx', e1, _⟩ := mem_setC_id hx
    rw [← e1]; exact h.fp x' hx'
theorem own_setC {x : Nat} {i : Int} {c : Nat} (h : Own p a fb (setC l i c) x) : Own p a fb l x := by
  rcases h with h | h | ⟨f, hf, rfl⟩
  · exact .inl h
  · exact .inr (.inl h)
  · obtain ⟨g, hg, e, _⟩ := mem_setC_id hf
    exact .inr (.inr ⟨g, hg, by rw [e]⟩)
end

set_option maxHeartbeats 1000000 in
theorem charge_no (w : World) (b : Nat) (v : Value) (n : Int) (hn : n < 0) :
    Calls Tryz.prog 142 #[.pointer (some ⟨b, 0, none⟩), .int .i64 n, v] w fun e w' => e = .returned (.int .i64 1) ∧ w' = w := by
  have HF := hid (fits_no w b v n hn)
  clear hn
  go_enter Tryz.func142, Tryz.ntmps142
  go_wp2_with (go_at_call 104; refine HF.out.mono ?_; rintro e w1 ⟨rfl, rfl⟩)
  go_ret
  exact ⟨rfl, rfl⟩
set_option maxHeartbeats 1000000 in
theorem charge_full (w : World) (base b : Nat) (v : Value) (xs : List Nat) (c m : Nat) (n : Int) (h : w.ownsRow base 3 1 v xs.length (nats xs)) (h0 : w.cell? ⟨b, 0, none⟩ = some (.int .i64 (m : Int))) (hc : w.cell? ⟨b, 1, none⟩ = some (.int .i64 (c : Int))) (hs : c + xs.sum ≤ 1073741824) (hm : m ≤ 1073741824) (hl : xs.length ≤ 32) (hn : 0 ≤ n) (hf : (m : Int) - ((c + xs.sum : Nat) : Int) < n) :
    Calls Tryz.prog 142 #[.pointer (some ⟨b, 0, none⟩), .int .i64 n, v] w fun e w' => e = .returned (.int .i64 5) ∧ ∃ q, w' = w.drewN q := by
  have HF := fits_any w base b v xs c m n h h0 hc hs hm hl hn
  rw [if_pos hf] at HF
  have HF2 := hid HF
  clear HF h h0 hc hs hm hl hn hf
  go_enter Tryz.func142, Tryz.ntmps142
  go_wp2_with (go_at_call 104; refine HF2.out.mono ?_; rintro e w1 ⟨rfl, q, rfl⟩)
  go_ret
  exact ⟨rfl, q, rfl⟩
set_option maxHeartbeats 1000000 in
theorem charge_ok (w : World) (base b : Nat) (v : Value) (xs : List Nat) (c m n : Nat) (h : w.ownsRow base 3 1 v xs.length (nats xs)) (h0 : w.cell? ⟨b, 0, none⟩ = some (.int .i64 (m : Int))) (hc : w.cell? ⟨b, 1, none⟩ = some (.int .i64 (c : Int))) (hfr : w.frozen? ⟨b, 1, none⟩ = false) (hs : c + xs.sum ≤ 1073741824) (hm : m ≤ 1073741824) (hl : xs.length ≤ 32) (hf : ¬ (m : Int) - ((c + xs.sum : Nat) : Int) < (n : Int)) :
    Calls Tryz.prog 142 #[.pointer (some ⟨b, 0, none⟩), .int .i64 (n : Int), v] w fun e w' => e = .returned (.int .i64 0) ∧ ∃ q, w' = (w.drewN q).setCell ⟨b, 1, none⟩ (.int .i64 ((c + n : Nat) : Int)) := by
  have HF := fits_any w base b v xs c m n h h0 hc hs hm hl (by omega)
  rw [if_neg hf] at HF
  have HF2 := hid HF
  have hcn : c + n ≤ 1073741824 := by omega
  clear HF h h0 hs hm hl hf
  go_enter Tryz.func142, Tryz.ntmps142
  go_wp2_with (go_at_call 104; refine HF2.out.mono ?_; rintro e w1 ⟨rfl, q, rfl⟩)
  go_ret
  exact ⟨rfl, q, by congr 1⟩

theorem refund_bad (w : World) (b c : Nat) (n : Int) (hc : w.cell? ⟨b, 1, none⟩ = some (.int .i64 (c : Int))) (hn : n < 0 ∨ (c : Int) < n) :
    Calls Tryz.prog 143 #[.pointer (some ⟨b, 0, none⟩), .int .i64 n] w fun e w' => e = .returned (.int .i64 1) ∧ w' = w := by
  by_cases h1 : n < 0
  · clear hn
    go_enter Tryz.func143, Tryz.ntmps143
    go_wp2_with fail
    go_ret
    exact ⟨rfl, rfl⟩
  · have h2 : (c : Int) < n := by omega
    clear hn
    go_enter Tryz.func143, Tryz.ntmps143
    go_wp2_with fail
    go_ret
    exact ⟨rfl, rfl⟩
theorem refund_ok (w : World) (b c n : Nat) (hc : w.cell? ⟨b, 1, none⟩ = some (.int .i64 (c : Int))) (hfr : w.frozen? ⟨b, 1, none⟩ = false) (hcl : c ≤ 1073741824) (hn : n ≤ c) :
    Calls Tryz.prog 143 #[.pointer (some ⟨b, 0, none⟩), .int .i64 (n : Int)] w fun e w' => e = .returned (.int .i64 0) ∧ w' = w.setCell ⟨b, 1, none⟩ (.int .i64 ((c - n : Nat) : Int)) := by
  have h1 : ¬ ((n : Int) < 0) := by omega
  have h2 : ¬ ((c : Int) < (n : Int)) := by omega
  have h3 : (c : Int) - (n : Int) = ((c - n : Nat) : Int) := by omega
  have h4 : c - n ≤ 1073741824 := by omega
  generalize c - n = d at *
  go_enter Tryz.func143, Tryz.ntmps143
  go_wp2_with fail
  go_ret
  exact ⟨rfl, by first | rfl | congr 2⟩
end Go.Proofs.YtdmnemgooagehaaGreatDoor.Qu

namespace Go.Proofs.YtdmnemgooagehaaGreatDoor.Qu
open Go.RowKit

theorem chargeT_nil (i n : Int) (w : World) : Calls Tryz.prog 95 #[.pointer none, .int .i64 i, .int .i64 n] w fun e w' => e = .returned (.int .i64 1) ∧ w' = w := by
  go_enter Tryz.func95, Tryz.ntmps95
  go_wp2_with (go_at_call 103; refine (find_nil i _).mono ?_; rintro e w' ⟨rfl, rfl⟩)
  go_ret
  exact ⟨rfl, rfl⟩
theorem refundT_nil (i n : Int) (w : World) : Calls Tryz.prog 96 #[.pointer none, .int .i64 i, .int .i64 n] w fun e w' => e = .returned (.int .i64 1) ∧ w' = w := by
  go_enter Tryz.func96, Tryz.ntmps96
  go_wp2_with (go_at_call 103; refine (find_nil i _).mono ?_; rintro e w' ⟨rfl, rfl⟩)
  go_ret
  exact ⟨rfl, rfl⟩

def ActPost (Z : Nat → Prop) (w : World) (p : Nat) (er : Int) (l' : List Fac) (nxt' : Nat) (e : Ending) (w' : World) : Prop := e = .returned (.int .i64 er) ∧ Qt Z w' p l' nxt' ∧ Turn Z w w'

theorem of_below_drewN {B : Nat} {w w' : World} (h : Below B w w') (k : Nat) : Below B w (w'.drewN k) := ⟨h.os, h.tape, h.output, h.size, h.block⟩

section
variable {Z : Nat → Prop} {N : Nat} {w : World} {p nxt : Nat} {l : List Fac}
set_option maxHeartbeats 2000000 in
theorem chargeT_any (h : Qt Z w p l nxt) (hI : Inv N l nxt) (i n : Int) : Calls Tryz.prog 95 #[.pointer (some ⟨p, 0, none⟩), .int .i64 i, .int .i64 n] w (ActPost Z w p (chargeA l i n).1 (chargeA l i n).2 nxt) := by
  have hl := hI.few
  cases hi : the l i with
  | none =>
    rw [show chargeA l i n = (6, l) from by unfold chargeA; rw [hi]]
    obtain ⟨a, cap, fb, hq, hz⟩ := id h
    have HF := hid (find_none hq hl i hi)
    have HQ := hid h
    clear h hq hz hi hI hl
    go_enter Tryz.func95, Tryz.ntmps95
    go_wp2_with (go_at_call 103; refine HF.out.mono ?_; rintro e w' ⟨rfl, rfl⟩)
    go_ret
    exact ⟨rfl, HQ.out, Turn.refl _ _⟩
  | some f =>
    obtain ⟨a, cap, fb, hq, hz⟩ := id h
    have HF := hid (find_some hq hl i f hi)
    have HQ := hid h
    have HZ := hid hz
    obtain ⟨hm, he⟩ := the_some hi
    have hk := hI.kids_sum hm
    rw [show kids l f.id = kids l i from by rw [he]] at hk
    have hu : useOf l f = f.chg + (kids l i).sum := by unfold useOf; rw [he]
    have HC := hid (carved_drew hq hl i)
    have hup := hI.up
    have hbl : fb f.id < w.heap.size := hq.lt (.inr (.inr ⟨f, hm, rfl⟩))
    have hown : Z (fb f.id) := hz _ (.inr (.inr ⟨f, hm, rfl⟩))
    by_cases hn : n < 0
    · rw [show chargeA l i n = (1, l) from by unfold chargeA; rw [hi]; simp [hn]]
      have HN := hid hn
      clear h hq hz hi hI hl hm he hk hu hup hbl hown hn HZ
      generalize fb f.id = b at *
      go_enter Tryz.func95, Tryz.ntmps95
      go_wp2_with (go_at_call 103; refine HF.out.mono ?_; rintro e w' ⟨rfl, rfl⟩)
      go_region_held3 (fun _ => True) (trivial) (first
        | (go_at_call 105; refine HC.out.mono ?_; rintro e w1 ⟨v, rfl, hO, hX⟩)
        | (go_at_call 142; refine (charge_no w1 b v n HN.out).mono ?_; rintro e w2 ⟨rfl, rfl⟩))
      go_wp2_with fail
      go_ret
      exact ⟨rfl, HQ.out.below hX, Turn.of_below hX⟩
    by_cases hf : (f.lim : Int) - (useOf l f : Int) < n
    · rw [show chargeA l i n = (5, l) from by unfold chargeA; rw [hi]; simp [hn, hf]]
      rw [hu] at hf hk
      have HU := hid (fun (v : Value) (w1 : World) (ho : w1.ownsRow w.heap.size 3 1 v (kids l i).length (nats (kids l i))) (hX : Below w.heap.size w w1) => charge_full w1 w.heap.size (fb f.id) v (kids l i) f.chg f.lim n ho ((hX.cell (p := ⟨fb f.id, 0, none⟩) hbl).trans (hq.lim hm)) ((hX.cell (p := ⟨fb f.id, 1, none⟩) hbl).trans (hq.chg hm)) (by omega) hk.2.1 hk.2.2 (by omega) hf)
      clear h hq hz hi hI hl hm he hk hu hup hbl hown hn hf HZ
      generalize fb f.id = b at *
      go_enter Tryz.func95, Tryz.ntmps95
      go_wp2_with (go_at_call 103; refine HF.out.mono ?_; rintro e w' ⟨rfl, rfl⟩)
      go_region_held3 (fun _ => True) (trivial) (first
        | (go_at_call 105; refine HC.out.mono ?_; rintro e w1 ⟨v, rfl, hO, hX⟩)
        | (go_at_call 142; refine (HU.out v w1 hO hX).mono ?_; rintro e w2 ⟨rfl, q, rfl⟩))
      go_wp2_with fail
      go_ret
      exact ⟨rfl, HQ.out.below (of_below_drewN hX q), Turn.of_below (of_below_drewN hX q)⟩
    · obtain ⟨m, rfl⟩ := Int.eq_ofNat_of_zero_le (show 0 ≤ n by omega)
      rw [show chargeA l i (m : Int) = (0, setC l i (f.chg + m)) from by unfold chargeA; rw [hi]; simp [hn, hf]]
      rw [hu] at hf hk
      have HU := hid (fun (v : Value) (w1 : World) (ho : w1.ownsRow w.heap.size 3 1 v (kids l i).length (nats (kids l i))) (hX : Below w.heap.size w w1) => charge_ok w1 w.heap.size (fb f.id) v (kids l i) f.chg f.lim m ho ((hX.cell (p := ⟨fb f.id, 0, none⟩) hbl).trans (hq.lim hm)) ((hX.cell (p := ⟨fb f.id, 1, none⟩) hbl).trans (hq.chg hm)) (frozen_of_row _ _ _ _ _ ((hX.block _ hbl).trans (hq.fac f hm))) (by omega) hk.2.1 hk.2.2 hf)
      have HE := hid (And.intro hq (And.intro hup (And.intro hm (And.intro he hown))))
      clear h hq hz hi hI hl hm he hk hu hup hbl hown hn hf
      obtain ⟨b, hb⟩ : ∃ b, b = fb f.id := ⟨_, rfl⟩
      rw [← hb] at HF HU
      have HB := hid hb
      clear hb
      go_enter Tryz.func95, Tryz.ntmps95
      go_wp2_with (go_at_call 103; refine HF.out.mono ?_; rintro e w' ⟨rfl, rfl⟩)
      go_region_held3 (fun _ => True) (trivial) (first
        | (go_at_call 105; refine HC.out.mono ?_; rintro e w1 ⟨v, rfl, hO, hX⟩)
        | (go_at_call 142; refine (HU.out v w1 hO hX).mono ?_; rintro e w2 ⟨rfl, q, rfl⟩))
      go_wp2_with fail
      go_ret
      refine ⟨rfl, ⟨a, cap, fb, ?_, fun x hx => HZ.out x (own_setC hx)⟩, ?_⟩
      · have := ((HE.out.1.below (of_below_drewN hX q))).setC HE.out.2.1 HE.out.2.2.1 (f.chg + m)
        rw [HE.out.2.2.2.1, ← HB.out] at this
        exact this
      · exact (Turn.of_below (of_below_drewN hX q)).but (But.setCell (But.refl b _) (.inl rfl) _) (.inl (by rw [HB.out]; exact HE.out.2.2.2.2))

set_option maxHeartbeats 2000000 in
theorem refundT_any (h : Qt Z w p l nxt) (hI : Inv N l nxt) (i n : Int) : Calls Tryz.prog 96 #[.pointer (some ⟨p, 0, none⟩), .int .i64 i, .int .i64 n] w (ActPost Z w p (refundA l i n).1 (refundA l i n).2 nxt) := by
  have hl := hI.few
  cases hi : the l i with
  | none =>
    rw [show refundA l i n = (6, l) from by unfold refundA; rw [hi]]
    obtain ⟨a, cap, fb, hq, hz⟩ := id h
    have HF := hid (find_none hq hl i hi)
    have HQ := hid h
    clear h hq hz hi hI hl
    go_enter Tryz.func96, Tryz.ntmps96
    go_wp2_with (go_at_call 103; refine HF.out.mono ?_; rintro e w' ⟨rfl, rfl⟩)
    go_ret
    exact ⟨rfl, HQ.out, Turn.refl _ _⟩
  | some f =>
    obtain ⟨a, cap, fb, hq, hz⟩ := id h
    have HF := hid (find_some hq hl i f hi)
    have HQ := hid h
    have HZ := hid hz
    obtain ⟨hm, he⟩ := the_some hi
    have hk := hI.kids_sum hm
    have hcl : f.chg ≤ 1073741824 := by unfold useOf at hk; omega
    have hup := hI.up
    have hown : Z (fb f.id) := hz _ (.inr (.inr ⟨f, hm, rfl⟩))
    by_cases hn : n < 0 ∨ (f.chg : Int) < n
    · rw [show refundA l i n = (1, l) from by unfold refundA; rw [hi]; simp [hn]]
      have HN := hid (refund_bad w (fb f.id) f.chg n (hq.chg hm) hn)
      clear h hq hz hi hI hl hm he hk hup hown hn HZ hcl
      generalize fb f.id = b at *
      go_enter Tryz.func96, Tryz.ntmps96
      go_wp2_with (first | (go_at_call 103; refine HF.out.mono ?_; rintro e w' ⟨rfl, rfl⟩) | (go_at_call 143; refine HN.out.mono ?_; rintro e w' ⟨rfl, rfl⟩))
      go_ret
      exact ⟨rfl, HQ.out, Turn.refl _ _⟩
    · obtain ⟨m, rfl⟩ := Int.eq_ofNat_of_zero_le (show 0 ≤ n by omega)
      rw [show refundA l i (m : Int) = (0, setC l i (f.chg - m)) from by unfold refundA; rw [hi]; simp only [hn, if_false, Int.toNat_natCast]]
      have HN := hid (refund_ok w (fb f.id) f.chg m (hq.chg hm) (frozen_of_row _ _ _ _ _ (hq.fac f hm)) hcl (by omega))
      have HE := hid (And.intro hq (And.intro hup (And.intro hm (And.intro he hown))))
      clear h hq hz hi hI hl hm he hk hup hown hn hcl
      obtain ⟨b, hb⟩ : ∃ b, b = fb f.id := ⟨_, rfl⟩
      rw [← hb] at HF HN
      have HB := hid hb
      clear hb
      go_enter Tryz.func96, Tryz.ntmps96
      go_wp2_with (first | (go_at_call 103; refine HF.out.mono ?_; rintro e w' ⟨rfl, rfl⟩) | (go_at_call 143; refine HN.out.mono ?_; rintro e w' ⟨rfl, rfl⟩))
      go_ret
      refine ⟨rfl, ⟨a, cap, fb, ?_, fun x hx => HZ.out x (own_setC hx)⟩, ?_⟩
      · have := HE.out.1.setC HE.out.2.1 HE.out.2.2.1 (f.chg - m)
        rw [HE.out.2.2.2.1, ← HB.out] at this
        exact this
      · exact (Turn.refl _ _).but (But.setCell (But.refl b _) (.inl rfl) _) (.inl (by rw [HB.out]; exact HE.out.2.2.2.2))
end
end Go.Proofs.YtdmnemgooagehaaGreatDoor.Qu

namespace Go.Proofs.YtdmnemgooagehaaGreatDoor.Qu
open Go.RowKit

def AddPost (w : World) (p : Nat) (S : Nat → Prop) (l : List Fac) (nxt : Nat) (par : Int) (m : Nat) (e : Ending) (w' : World) : Prop :=
  e = .returned (.int .i64 (nxt : Int)) ∧ (∃ a' cap' fb', Qm w' p a' cap' (l ++ [⟨nxt, par, m, 0⟩]) (nxt + 1) fb' ∧ ∀ x, Own p a' fb' (l ++ [⟨nxt, par, m, 0⟩]) x → S x ∨ w.heap.size ≤ x) ∧ Turn S w w'

def fbx (fb : Nat → Nat) (n b : Nat) : Nat → Nat := fun i => if i = n then b else fb i
theorem fbx_new (fb : Nat → Nat) (n b : Nat) : fbx fb n b n = b := by simp [fbx]
theorem fbx_old (fb : Nat → Nat) {n b i : Nat} (h : i ≠ n) : fbx fb n b i = fb i := by simp [fbx, h]

section
variable {w : World} {p cap nxt : Nat} {a : Option Addr} {l : List Fac} {fb : Nat → Nat}
set_option maxHeartbeats 2000000 in
theorem add_any (h : Qm w p a cap l nxt fb) (hl : l.length ≤ 32) (hlow : ∀ f ∈ l, f.id < nxt) (hn : nxt ≤ 1073741824) (par : Int) (m : Nat) :
    Calls Tryz.prog 106 #[.pointer (some ⟨p, 0, none⟩), .int .i64 par, .int .i64 (m : Int)] w (AddPost w p (Own p a fb l) l nxt par m) := by
  obtain ⟨i0, hi0, hz0, hz1, hz2⟩ := info_parts info57
  have HIF := hid (And.intro hi0 (And.intro hz0 (And.intro hz1 hz2)))
  have HQ := hid h
  have HL := hid hlow
  have c0 := h.cell
  have c1 := h.cell1
  have hpl : p < w.heap.size := h.lt (.inl rfl)
  clear h hi0 hz0 hz1 hz2 hlow
  go_enter Tryz.func106, Tryz.ntmps106
  go_upto_region 2 with fail
  have hfl : (w.alloc (.cells #[.int .i64 (m : Int), .int .i64 0, .int .i64 (nxt : Int), .int .i64 par] 160)).heap[w.heap.size]? = some (.cells #[.int .i64 (m : Int), .int .i64 0, .int .i64 (nxt : Int), .int .i64 par] 160) := heap_alloc_new _ _
  have hb1 : Below w.heap.size w (w.alloc (.cells #[.int .i64 (m : Int), .int .i64 0, .int .i64 (nxt : Int), .int .i64 par] 160)) := (Below.refl _ _).alloc (Nat.le_refl _) _
  have hs1 : (w.alloc (.cells #[.int .i64 (m : Int), .int .i64 0, .int .i64 (nxt : Int), .int .i64 par] 160)).heap.size = w.heap.size + 1 := by simp
  generalize w.alloc (.cells #[.int .i64 (m : Int), .int .i64 0, .int .i64 (nxt : Int), .int .i64 par] 160) = w1 at *
  have hQ1 := HQ.out.below hb1
  have c01 := hQ1.cell
  have HQ1 := hid hQ1
  have HF1 := hid hfl
  have HS1 := hid hs1
  clear c0 c1 hfl hQ1 hs1
  go_wp2_with (first
    | (at_builtin; refine wpList_append_lies _ rfl _ _ 161 rfl 0 153 i0 (.pointer none) 1 8 Tryz.underlying161 HIF.out.1 HIF.out.2.1 HIF.out.2.2.1 HIF.out.2.2.2 rfl (by decide) _ _ _ rfl (HQ1.out.row.alloc _) ⟨w1.heap.size, 0, none⟩ 1 1 [.pointer (some ⟨w.heap.size, 0, none⟩)] rfl rfl ?c1 ?c2 (by decide) ?c3 ?c4 (Nat.zero_le _) _ rfl ?_)
    | fail)
  case c1 =>
    intro j u hj
    rw [addr_add, Nat.zero_add, cell_of_row _ _ _ _ _ _ (heap_alloc_new _ _), ← hj]
    match j, hj with
    | 0, _ => rfl
  case c2 =>
    intro u hu
    simp at hu
    rw [hu]; rfl
  case c3 => unfold maxLen; omega
  case c4 => omega
  intro g2 cap2 w2 hown2 hg2 hat2 hlt2
  have hs1 := HS1.out
  have hgrow : ∀ x, x < w1.heap.size → (Value.slice a l.length cap).ownBlock ≠ some x → w2.heap[x]? = w1.heap[x]? := fun x hx hne => by
    rw [hg2.block x (by simp; omega) (fun e => hne e.symm), Below.heap_alloc w1 _ x hx]
  have hp2 : w2.heap[p]? = some (.cells #[.slice a l.length cap, .int .i64 (nxt : Int)] 163) := by
    rw [hgrow p (by omega) (by rw [slice_own]; exact HQ.out.rp)]; exact HQ1.out.head
  have hf2 : w2.heap[w.heap.size]? = some (.cells #[.int .i64 (m : Int), .int .i64 0, .int .i64 (nxt : Int), .int .i64 par] 160) := by
    rw [hgrow w.heap.size (by omega) (fun e => by have := (own_block HQ.out.row _ e).2; omega)]; exact HF1.out
  have hT2 : Turn (Own p a fb l) w w2 := by
    refine (Turn.of_below (hb1.alloc hb1.size _)).trans ⟨hg2.os, hg2.tape, hg2.output, hg2.size, fun i hi hn => hg2.block i hi (fun e => hn (.inr (.inl ?_)))⟩
    rw [← slice_own a l.length cap]; exact e.symm
  have hfac2 : ∀ f ∈ l, w2.heap[fb f.id]? = some (.cells (cellsF f) 160) := fun f hf => by
    rw [hgrow _ (HQ1.out.lt (.inr (.inr ⟨f, hf, rfl⟩))) (by rw [slice_own]; exact HQ.out.rf f hf)]; exact HQ1.out.fac f hf
  have hgp : g2 ≠ p := by
    rintro rfl
    rcases hat2 with e | e
    · exact HQ.out.rp (by rw [← slice_own a l.length cap]; exact e)
    · first | omega | (simp at e; omega)
  have hgf : g2 ≠ w.heap.size := by
    rintro rfl
    rcases hat2 with e | e
    · have := (own_block HQ.out.row _ e).2; omega
    · first | omega | (simp at e; omega)
  have hgfs : ∀ f ∈ l, g2 ≠ fb f.id := fun f hf e0 => by
    subst e0
    rcases hat2 with e | e
    · exact HQ.out.rf f hf (by rw [← slice_own a l.length cap]; exact e)
    · have := HQ.out.lt (.inr (.inr ⟨f, hf, rfl⟩)); first | omega | (simp at e; omega)
  have hgS : (Own p a fb l) g2 ∨ w.heap.size ≤ g2 := by
    rcases hat2 with e | e
    · exact .inl (.inr (.inl (by rw [← slice_own a l.length cap]; exact e)))
    · right; first | omega | (simp at e; omega)
  have q0 : w2.cell? ⟨p, 0, none⟩ = some (.slice a l.length cap) := by rw [cell_of_row _ _ _ _ _ _ hp2]; rfl
  have q1 : w2.cell? ⟨p, 1, none⟩ = some (.int .i64 (nxt : Int)) := by rw [cell_of_row _ _ _ _ _ _ hp2]; rfl
  have f0 := frozen_of_row w2 p 0 _ _ hp2
  have f1 := frozen_of_row w2 p 1 _ _ hp2
  have q2 : w2.cell? ⟨w.heap.size, 2, none⟩ = some (.int .i64 (nxt : Int)) := by rw [cell_of_row _ _ _ _ _ _ hf2]; rfl
  have hpw : p ≠ w.heap.size := by omega
  have hpw' : w.heap.size ≠ p := by omega
  have H2 := hid (And.intro hown2 (And.intro hp2 (And.intro hf2 (And.intro hfac2 (And.intro hgp (And.intro hgf (And.intro hgfs (And.intro hgS hT2))))))))
  clear hown2 hg2 hat2 hgrow hp2 hf2 hfac2 hgp hgf hgfs hgS hT2 c01 hs1
  obtain ⟨wf, hwf⟩ : ∃ wf, wf = w.heap.size := ⟨_, rfl⟩
  rw [← hwf] at q2 hpw hpw' ⊢
  have HWF := hid hwf
  clear hwf
  go_wp2_with fail
  go_ret
  refine ⟨rfl, ⟨some ⟨g2, 0, none⟩, cap2, fbx fb nxt w.heap.size, ?_, ?_⟩, ?_⟩
  · have ho : ∀ x, x ≠ p → ((w2.setCell ⟨p, 0, none⟩ (.slice (some ⟨g2, 0, none⟩) (l.length + 1) cap2)).setCell ⟨p, 1, none⟩ (.int .i64 ((nxt : Int) + 1))).heap[x]? = w2.heap[x]? := fun x hx => by
      rw [Below.heap_setCell _ _ _ _ hx, Below.heap_setCell _ _ _ _ hx]
    have hptr : ptrs (fbx fb nxt w.heap.size) (l ++ [⟨nxt, par, m, 0⟩]) = ptrs fb l ++ [.pointer (some ⟨w.heap.size, 0, none⟩)] := by
      unfold ptrs
      rw [List.map_append]
      congr 1
      · apply List.map_congr_left
        intro f hf
        rw [fbx_old fb (by have := HL.out f hf; omega)]
      · rw [List.map_cons, List.map_nil, fbx_new]
    have hneid : ∀ f ∈ l, f.id ≠ nxt := fun f hf => by have := HL.out f hf; omega
    refine ⟨?_, ?_, ?_, ?_, ?_, ?_, ?_⟩
    · rw [setCell_head (setCell_head H2.out.2.1 _) _, List.length_append]; rfl
    · rw [hptr, List.length_append]
      exact H2.out.1.other (fun g hg => by
        obtain rfl : g2 = g := by simpa [Value.ownBlock] using hg
        exact ho _ H2.out.2.2.2.2.1)
    · intro f hf
      rcases List.mem_append.1 hf with hf | hf
      · rw [fbx_old fb (hneid f hf), ho _ (HQ.out.fp f hf)]; exact H2.out.2.2.2.1 f hf
      · rw [List.mem_singleton] at hf; subst hf
        show ((w2.setCell _ _).setCell _ _).heap[fbx fb nxt w.heap.size nxt]? = _
        rw [fbx_new, ho _ (by rw [← HWF.out]; exact hpw')]; exact H2.out.2.2.1
    · have hlt : ∀ f ∈ l, fb f.id ≠ w.heap.size := fun f hf => by have := HQ.out.lt (.inr (.inr ⟨f, hf, rfl⟩)); omega
      intro f hf g hg e
      rcases List.mem_append.1 hf with hf | hf <;> rcases List.mem_append.1 hg with hg | hg
      · rw [fbx_old fb (hneid f hf), fbx_old fb (hneid g hg)] at e
        exact HQ.out.one f hf g hg e
      · rw [List.mem_singleton] at hg; subst hg
        rw [fbx_old fb (hneid f hf), fbx_new] at e
        exact absurd e (hlt f hf)
      · rw [List.mem_singleton] at hf; subst hf
        rw [fbx_old fb (hneid g hg), fbx_new] at e
        exact absurd e.symm (hlt g hg)
      · rw [List.mem_singleton] at hf hg; subst hf; subst hg; rfl
    · intro e
      exact H2.out.2.2.2.2.1 (by simpa [Value.ownBlock] using e)
    · intro f hf e
      have e : g2 = fbx fb nxt w.heap.size f.id := by simpa [Value.ownBlock] using e
      rcases List.mem_append.1 hf with hf | hf
      · rw [fbx_old fb (hneid f hf)] at e
        exact H2.out.2.2.2.2.2.2.1 f hf e
      · rw [List.mem_singleton] at hf; subst hf
        rw [fbx_new] at e
        exact H2.out.2.2.2.2.2.1 e
    · intro f hf e
      rcases List.mem_append.1 hf with hf | hf
      · rw [fbx_old fb (hneid f hf)] at e; exact HQ.out.fp f hf e
      · rw [List.mem_singleton] at hf; subst hf
        rw [fbx_new] at e; omega
  · intro x hx
    rcases hx with rfl | hx | ⟨f, hf, rfl⟩
    · exact .inl (.inl rfl)
    · obtain rfl : g2 = x := by simpa [Value.ownBlock] using hx
      exact H2.out.2.2.2.2.2.2.2.1
    · rcases List.mem_append.1 hf with hf | hf
      · left; rw [fbx_old fb (by have := HL.out f hf; omega)]; exact .inr (.inr ⟨f, hf, rfl⟩)
      · rw [List.mem_singleton] at hf; subst hf
        right; show w.heap.size ≤ fbx fb nxt w.heap.size nxt; rw [fbx_new]; exact Nat.le_refl _
  · exact (H2.out.2.2.2.2.2.2.2.2.but (But.setCell (But.refl p _) (.inl rfl) _) (.inl (.inl rfl))).but (But.setCell (But.refl p _) (.inl rfl) _) (.inl (.inl rfl))
end
end Go.Proofs.YtdmnemgooagehaaGreatDoor.Qu

namespace Go.Proofs.YtdmnemgooagehaaGreatDoor.Qu
open Go.RowKit

theorem new_bad (n : Int) (w : World) (h : n < 0 ∨ 1073741824 < n) : Calls Tryz.prog 92 #[.int .i64 n] w fun e w' => e = .returned (.pointer none) ∧ w' = w := by
  by_cases h1 : n < 0
  · clear h
    go_enter Tryz.func92, Tryz.ntmps92
    go_wp2_with fail
    go_ret
    exact ⟨rfl, rfl⟩
  · have h2 : 1073741824 < n := by omega
    clear h
    go_enter Tryz.func92, Tryz.ntmps92
    go_wp2_with fail
    go_ret
    exact ⟨rfl, rfl⟩

def NewPost (m : Nat) (w : World) (e : Ending) (w' : World) : Prop := ∃ p, e = .returned (.pointer (some ⟨p, 0, none⟩)) ∧ Qt (fun x => w.heap.size ≤ x) w' p [⟨0, -1, m, 0⟩] 1 ∧ Below w.heap.size w w'
set_option maxHeartbeats 1000000 in
theorem new_ok (m : Nat) (w : World) (h : (m : Int) ≤ 1073741824) : Calls Tryz.prog 92 #[.int .i64 (m : Int)] w (NewPost m w) := by
  have h1 : ¬ ((m : Int) < 0) := by omega
  have h2 : ¬ ((1073741824 : Int) < (m : Int)) := by omega
  have hq : Qm (w.alloc (.cells #[.slice none 0 0, .int .i64 0] 163)) w.heap.size none 0 [] 0 (fun _ => 0) :=
    ⟨heap_alloc_new _ _, World.ownsRow_nil _ _ _ _, by simp, by simp, by simp [Value.ownBlock], by simp, by simp⟩
  have HA := hid (add_any hq (by simp) (by simp) (by omega) (-1) m)
  have hb : Below w.heap.size w (w.alloc (.cells #[.slice none 0 0, .int .i64 0] 163)) := (Below.refl _ _).alloc (Nat.le_refl _) _
  clear hq
  go_enter Tryz.func92, Tryz.ntmps92
  go_wp2_with (go_at_call 106; refine HA.out.mono ?_; rintro e w1 ⟨rfl, ⟨a', cap', fb', hq, ho⟩, ht⟩)
  go_ret
  refine ⟨w.heap.size, rfl, ⟨a', cap', fb', hq, fun x hx => ?_⟩, Below.of_turn hb (by have := hb.size; omega) ht ?_⟩
  · rcases ho x hx with (rfl | e | ⟨f, hf, _⟩) | h
    · exact Nat.le_refl _
    · cases e
    · cases hf
    · simp at h; omega
  · rintro k (rfl | e | ⟨f, hf, _⟩)
    · exact Nat.le_refl _
    · cases e
    · cases hf

def CarvePost (Z : Nat → Prop) (w : World) (p : Nat) (r : Int × Int × List Fac × Nat) (e : Ending) (w' : World) : Prop := e = .returned (.tuple #[.int .i64 r.1, .int .i64 r.2.1]) ∧ Qt Z w' p r.2.2.1 r.2.2.2 ∧ Turn Z w w'

theorem carve_nil (i n : Int) (w : World) : Calls Tryz.prog 44 #[.pointer none, .int .i64 i, .int .i64 n] w fun e w' => e = .returned (.tuple #[.int .i64 0, .int .i64 1]) ∧ w' = w := by
  go_enter Tryz.func44, Tryz.ntmps44
  go_wp2_with (go_at_call 103; refine (find_nil i _).mono ?_; rintro e w' ⟨rfl, rfl⟩)
  go_ret2
  exact ⟨rfl, rfl⟩

section
variable {Z : Nat → Prop} {N : Nat} {w : World} {p nxt : Nat} {l : List Fac}
set_option maxHeartbeats 2000000 in
theorem carve_any (h : Qt Z w p l nxt) (hI : Inv N l nxt) (hZ : ∀ x, w.heap.size ≤ x → Z x) (hnx : nxt ≤ 1073741824) (i n : Int) : Calls Tryz.prog 44 #[.pointer (some ⟨p, 0, none⟩), .int .i64 i, .int .i64 n] w (CarvePost Z w p (carveA l nxt i n)) := by
  have hl := hI.few
  cases hi : the l i with
  | none =>
    rw [show carveA l nxt i n = (0, 6, l, nxt) from by unfold carveA; rw [hi]]
    obtain ⟨a, cap, fb, hq, hz⟩ := id h
    have HF := hid (find_none hq hl i hi)
    have HQ := hid h
    clear h hq hz hi hI hl hZ
    go_enter Tryz.func44, Tryz.ntmps44
    go_wp2_with (go_at_call 103; refine HF.out.mono ?_; rintro e w' ⟨rfl, rfl⟩)
    go_ret2
    exact ⟨rfl, HQ.out, Turn.refl _ _⟩
  | some f =>
    obtain ⟨a, cap, fb, hq, hz⟩ := id h
    have HF := hid (find_some hq hl i f hi)
    have HQ := hid h
    have HZ := hid hz
    obtain ⟨hm, he⟩ := the_some hi
    have hk := hI.kids_sum hm
    rw [show kids l f.id = kids l i from by rw [he]] at hk
    have hu : useOf l f = f.chg + (kids l i).sum := by unfold useOf; rw [he]
    have HC := hid (carved_drew hq hl i)
    have hbl : fb f.id < w.heap.size := hq.lt (.inr (.inr ⟨f, hm, rfl⟩))
    by_cases hn : n < 0
    · rw [show carveA l nxt i n = (0, 1, l, nxt) from by unfold carveA; rw [hi]; simp [hn]]
      have HN := hid hn
      clear h hq hz hi hI hl hm he hk hu hbl hn HZ hZ
      generalize fb f.id = b at *
      go_enter Tryz.func44, Tryz.ntmps44
      go_wp2_with (go_at_call 103; refine HF.out.mono ?_; rintro e w' ⟨rfl, rfl⟩)
      go_region_held3 (fun _ => True) (trivial) (first
        | (go_at_call 105; refine HC.out.mono ?_; rintro e w1 ⟨v, rfl, hO, hX⟩)
        | (go_at_call 104; refine (fits_no w1 b v n HN.out).mono ?_; rintro e w2 ⟨rfl, rfl⟩))
      go_wp2_with fail
      go_ret2
      exact ⟨rfl, HQ.out.below hX, Turn.of_below hX⟩
    by_cases hf : (f.lim : Int) - (useOf l f : Int) < n
    · rw [show carveA l nxt i n = (0, 5, l, nxt) from by unfold carveA; rw [hi]; simp [hn, hf]]
      rw [hu] at hf hk
      have HU := fun (v : Value) (w1 : World) (ho : w1.ownsRow w.heap.size 3 1 v (kids l i).length (nats (kids l i))) (hX : Below w.heap.size w w1) => fits_any w1 w.heap.size (fb f.id) v (kids l i) f.chg f.lim n ho ((hX.cell (p := ⟨fb f.id, 0, none⟩) hbl).trans (hq.lim hm)) ((hX.cell (p := ⟨fb f.id, 1, none⟩) hbl).trans (hq.chg hm)) (by omega) hk.2.1 hk.2.2 (by omega)
      simp only [if_pos hf] at HU
      have HU2 := hid HU
      clear h hq hz hi hI hl hm he hk hu hbl hn hf HZ HU hZ
      generalize fb f.id = b at *
      go_enter Tryz.func44, Tryz.ntmps44
      go_wp2_with (go_at_call 103; refine HF.out.mono ?_; rintro e w' ⟨rfl, rfl⟩)
      go_region_held3 (fun _ => True) (trivial) (first
        | (go_at_call 105; refine HC.out.mono ?_; rintro e w1 ⟨v, rfl, hO, hX⟩)
        | (go_at_call 104; refine (HU2.out v w1 hO hX).mono ?_; rintro e w2 ⟨rfl, q, rfl⟩))
      go_wp2_with fail
      go_ret2
      exact ⟨rfl, HQ.out.below (of_below_drewN hX q), Turn.of_below (of_below_drewN hX q)⟩
    · obtain ⟨m, rfl⟩ := Int.eq_ofNat_of_zero_le (show 0 ≤ n by omega)
      have HU := fun (v : Value) (w1 : World) (ho : w1.ownsRow w.heap.size 3 1 v (kids l i).length (nats (kids l i))) (hX : Below w.heap.size w w1) => fits_any w1 w.heap.size (fb f.id) v (kids l i) f.chg f.lim m ho ((hX.cell (p := ⟨fb f.id, 0, none⟩) hbl).trans (hq.lim hm)) ((hX.cell (p := ⟨fb f.id, 1, none⟩) hbl).trans (hq.chg hm)) (by omega) hk.2.1 hk.2.2 (by omega)
      simp only [← hu, if_neg hf] at HU
      have HU2 := hid HU
      have hcp := hq.cell
      have hpl : p < w.heap.size := hq.lt (.inl rfl)
      have HE := hid (And.intro hq (And.intro hI.low hZ))
      by_cases hf32 : 32 ≤ l.length
      · rw [show carveA l nxt i (m : Int) = (0, 11, l, nxt) from by unfold carveA; rw [hi]; simp [hn, hf, hf32]]
        have h32 : (32 : Int) ≤ (l.length : Int) := by omega
        clear h hq hz hi hI hl hm he hk hu hbl hn hf HU hf32 hZ
        generalize fb f.id = b at *
        go_enter Tryz.func44, Tryz.ntmps44
        go_wp2_with (go_at_call 103; refine HF.out.mono ?_; rintro e w' ⟨rfl, rfl⟩)
        go_region_held3 (fun _ => True) (trivial) (first
          | (go_at_call 105; refine HC.out.mono ?_; rintro e w1 ⟨v, rfl, hO, hX⟩)
          | (go_at_call 104; refine (HU2.out v w1 hO hX).mono ?_; rintro e w2 ⟨rfl, q, rfl⟩))
        have hcp1 := (hX.cell (p := ⟨p, 0, none⟩) hpl).trans hcp
        go_wp2_with fail
        go_ret2
        exact ⟨rfl, HQ.out.below (of_below_drewN hX q), Turn.of_below (of_below_drewN hX q)⟩
      · rw [show carveA l nxt i (m : Int) = ((nxt : Int), 0, l ++ [⟨nxt, i, m, 0⟩], nxt + 1) from by unfold carveA; rw [hi]; simp [hn, hf, hf32]]
        have h32 : ¬ ((32 : Int) ≤ (l.length : Int)) := by omega
        clear h hq hz hi hI hm he hk hu hbl hn hf HU hf32 hZ
        generalize fb f.id = b at *
        go_enter Tryz.func44, Tryz.ntmps44
        go_wp2_with (go_at_call 103; refine HF.out.mono ?_; rintro e w' ⟨rfl, rfl⟩)
        go_region_held3 (fun _ => True) (trivial) (first
          | (go_at_call 105; refine HC.out.mono ?_; rintro e w1 ⟨v, rfl, hO, hX⟩)
          | (go_at_call 104; refine (HU2.out v w1 hO hX).mono ?_; rintro e w2 ⟨rfl, q, rfl⟩))
        have hcp1 := (hX.cell (p := ⟨p, 0, none⟩) hpl).trans hcp
        have HX := hid (of_below_drewN hX q)
        have HA := hid (add_any (HE.out.1.below HX.out) hl HE.out.2.1 hnx i m)
        go_wp2_with (go_at_call 106; refine HA.out.mono ?_; rintro e w3 ⟨rfl, ⟨a', cap', fb', hq, ho⟩, ht⟩)
        go_ret2
        refine ⟨rfl, ⟨a', cap', fb', hq, fun x hx => ?_⟩, (Turn.of_below HX.out).trans (ht.wide HZ.out)⟩
        rcases ho x hx with e | e
        · exact HZ.out x e
        · exact HE.out.2.2 x (Nat.le_trans HX.out.size e)
end
end Go.Proofs.YtdmnemgooagehaaGreatDoor.Qu
