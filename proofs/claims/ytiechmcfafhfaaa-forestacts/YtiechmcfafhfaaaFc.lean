/- What an act of a law does to both forests, and what is read of both. -/
import Derived.Test.YtiechmcfafhfaaaFb
namespace Go.Proofs.Ytiechmcfafhfaaa
open Go.RowKit Go.Maps Go.Shelf

section
variable {v w w' : World} {p m1 m2 r last last' last2 last3 b : Nat} {nb nb' : Nat → Nat} {L R L2 M2 : List Nd} {u u' : Value} {o : Obj}
/-- Find, at whatever owner. -/
theorem zz_find (h : Fz v w p m1 m2 nb last L) {x y : Int} (hx : I64 x) (hy : I64 y) : Calls Try.prog 12 #[ptr p, .int .i64 x, .int .i64 y] w fun en w' => en = .returned (.int .i64 (findI L x y)) ∧ w' = w := by
  by_cases hn : ∃ f ∈ L, f.sp = x ∧ f.sl = y
  · obtain ⟨f, hf, rfl, rfl⟩ := hn
    have e1 : findI L f.sp f.sl = (f.id : Int) := by
      unfold findI
      cases hd : L.find? (fun e => e.sp == f.sp && e.sl == f.sl) with
      | none => exact absurd (List.find?_eq_none.1 hd f hf) (by simp)
      | some g =>
        have h1 : g.sp = f.sp ∧ g.sl = f.sl := by simpa using List.find?_some hd
        have h2 : g = f := pair_inj (fun a b h h2 => h ⟨h2.1.symm, h2.2.symm⟩) h.fo.wf.own (List.mem_of_find?_eq_some hd) hf (fun hh => hh h1)
        rw [h2]
    rw [e1]
    exact find_hit h.fo hf
  · rw [findI_not hn]
    exact find_miss h.fo hx hy (fun e he hh => hn ⟨e, he, hh⟩)
theorem Fa.drew (h : Fa v w p m1 m2 nb last L r u last2 L2 b o) : Fa v w.drew p m1 m2 nb last L r u last2 L2 b o :=
  ⟨⟨⟨h.fb.fz.fo.same (fun _ _ => rfl), ⟨h.fb.fz.bel.os, h.fb.fz.bel.tape, h.fb.fz.bel.output, h.fb.fz.bel.size, h.fb.fz.bel.block⟩, h.fb.fz.own⟩, ⟨h.fb.rf.hd, h.fb.rf.row.drew⟩, h.fb.own, h.fb.sep⟩, h.act, h.nf, h.nr⟩
/-- The program's nodes went. -/
def PGone (w v : World) (p m1 m2 : Nat) (nb : Nat → Nat) (last : Nat) (L : List Nd) (r : Nat) (u : Value) (last2 : Nat) (L2 : List Nd) (b : Nat) (o : Obj) (D : List Nat) (en : Ending) (w' : World) : Prop :=
  ∃ a cap, en = .returned (.slice a D.length cap) ∧ OR w' w.heap.size 2 (.slice a D.length cap) D.length (flat (D.map (ownOf L))) ∧ Fa v w' p m1 m2 nb last (less L D) r u last2 L2 b o ∧ Tr (FOwn p m1 m2 nb L) (FOwn p m1 m2 nb (less L D)) w w' ∧ ∀ g, (Value.slice a D.length cap).ownBlock = some g → ¬ ROwn r u g
/-- The document's nodes went. -/
def QGone (w v : World) (p m1 m2 : Nat) (nb : Nat → Nat) (last : Nat) (L : List Nd) (r : Nat) (u : Value) (last2 : Nat) (L2 : List Nd) (b : Nat) (o : Obj) (D : List Nat) (en : Ending) (w' : World) : Prop :=
  ∃ a cap, en = .returned (.slice a D.length cap) ∧ OR w' w.heap.size 2 (.slice a D.length cap) D.length (flat (D.map (ownOf L2))) ∧ ∃ u', Fa v w' p m1 m2 nb last L r u' last2 (less L2 D) b o ∧ Tr (ROwn r u) (ROwn r u') w w' ∧ ∀ g, (Value.slice a D.length cap).ownBlock = some g → ¬ FOwn p m1 m2 nb L g
theorem pc_cut (h : Fa v w p m1 m2 nb last L r u last2 L2 b o) {x : Int} (hx : I64 x) : Calls Try.prog 17 #[ptr p, .int .i64 x] w (PGone w v p m1 m2 nb last L r u last2 L2 b o (below L x.toNat)) := by
  refine (zz_cut h.fb.fz hx).mono ?_
  rintro en w' ⟨a, cap, rfl, ho, hz, ht⟩
  exact ⟨a, cap, rfl, ho, h.prog hz ht, ht, fun g e hk => by have := (ho.own g e).1; have := (h.fb.rf.lt hk).2; omega⟩
theorem pc_rem (h : Fa v w p m1 m2 nb last L r u last2 L2 b o) {x : Int} (hx : I64 x) : Calls Try.prog 18 #[ptr p, .int .i64 x] w (PGone w v p m1 m2 nb last L r u last2 L2 b o (goneZ L x)) := by
  refine (zz_remove h.fb.fz hx).mono ?_
  rintro en w' ⟨a, cap, rfl, ho, hz, ht⟩
  exact ⟨a, cap, rfl, ho, h.prog hz ht, ht, fun g e hk => by have := (ho.own g e).1; have := (h.fb.rf.lt hk).2; omega⟩
theorem rc_cut (h : Fa v w p m1 m2 nb last L r u last2 L2 b o) (hw : Wf L2 last3) (hl : last3 < 400) (x : Int) : Calls Try.prog 22 #[ptr r, .int .i64 x] w (QGone w v p m1 m2 nb last L r u last2 L2 b o (below L2 x.toNat)) := by
  refine (rcut_any h.fb.rf hw hl x).mono ?_
  rintro en w' ⟨a, cap, rfl, ho, u', hr, ht, _⟩
  exact ⟨a, cap, rfl, ho, u', h.ref hr ht, ht, fun g e hk => by have := (ho.own g e).1; have := h.fb.fz.fo.lt hk; omega⟩
theorem rc_rem (h : Fa v w p m1 m2 nb last L r u last2 L2 b o) (hw : Wf L2 last3) (hl : last3 < 400) (x : Int) : Calls Try.prog 23 #[ptr r, .int .i64 x] w (QGone w v p m1 m2 nb last L r u last2 L2 b o (goneZ L2 x)) := by
  refine (rremove_any h.fb.rf hw hl x).mono ?_
  rintro en w' ⟨a, cap, rfl, ho, u', hr, ht, _⟩
  exact ⟨a, cap, rfl, ho, u', h.ref hr ht, ht, fun g e hk => by have := (ho.own g e).1; have := h.fb.fz.fo.lt hk; omega⟩
theorem pc_lift (h : Fa v w p m1 m2 nb last L r u last2 L2 b o) {x : Int} (hx : I64 x) : Calls Try.prog 11 #[ptr p, .int .i64 x] w fun en w' => en = .returned (.int .i64 (liftE L x)) ∧ Fa v w' p m1 m2 nb last (liftZ L x) r u last2 L2 b o := by
  refine (zz_lift h.fb.fz hx).mono ?_
  rintro en w' ⟨rfl, hz, ht⟩
  exact ⟨rfl, h.prog hz ht⟩
theorem rc_lift (h : Fa v w p m1 m2 nb last L r u last2 L2 b o) (hw : Wf L2 last3) (hl : last3 < 400) (x : Int) : Calls Try.prog 24 #[ptr r, .int .i64 x] w fun en w' => en = .returned (.int .i64 (liftE L2 x)) ∧ ∃ u', Fa v w' p m1 m2 nb last L r u' last2 (liftZ L2 x) b o := by
  refine (rlift_any h.fb.rf hw hl x).mono ?_
  rintro en w' ⟨rfl, u', hr, ht⟩
  exact ⟨rfl, u', h.ref hr ht⟩
theorem pc_add (h : Fa v w p m1 m2 nb last L r u last2 L2 b o) (hl : last + 1 < 400) {x y z : Int} (hx : I64 x) (hy : I64 y) (hz : I64 z) : Calls Try.prog 9 #[ptr p, .int .i64 x, .int .i64 y, .int .i64 z] w fun en w' => en = .returned (.tuple #[.int .i64 (addI L last x y z), .int .i64 (addE L x y z)]) ∧
    ∃ nb', Fa v w' p m1 m2 nb' (addN L last x y z) (addL L last x y z) r u last2 L2 b o := by
  refine (zz_add h.fb.fz hl hx hy hz).mono ?_
  rintro en w' ⟨rfl, nb', hq, ht⟩
  exact ⟨rfl, nb', h.prog hq ht⟩
theorem rc_add (h : Fa v w p m1 m2 nb last L r u last2 L2 b o) (hw : Wf L2 last2) (hl : last2 < 400) (x y z : Int) : Calls Try.prog 20 #[ptr r, .int .i64 x, spot y z] w fun en w' => en = .returned (.tuple #[.int .i64 (addI L2 last2 x y z), .int .i64 (addE L2 x y z)]) ∧
    ∃ u', Fa v w' p m1 m2 nb last L r u' (addN L2 last2 x y z) (addL L2 last2 x y z) b o := by
  refine (radd_any h.fb.rf hw hl x y z).mono ?_
  rintro en w' ⟨rfl, u', hr, ht⟩
  exact ⟨rfl, u', h.ref hr ht⟩
theorem spots_n {b1 b2 n : Nat} {v1 v2 : Value} {xs : List (Int × Int)} (hn : xs.length = n) (h1 : OR w b1 2 v1 n (flat xs)) (h2 : OR w b2 2 v2 n (flat xs)) (hl : n ≤ 100000) : Calls Try.prog 21 #[v1, v2] w fun en w' => en = .returned (.bool true) ∧ ∃ q, w' = w.drewN q := by
  subst hn
  exact spots_any h1 h2 hl
theorem act_cells {k x y z : Int} (h : w.heap[b]? = some (.cells #[.int .i64 k, .int .i64 x, .int .i64 y, .int .i64 z] 46)) : w.cell? ⟨b, 0, none⟩ = some (.int .i64 k) ∧ w.cell? ⟨b, 1, none⟩ = some (.int .i64 x) ∧ w.cell? ⟨b, 2, none⟩ = some (.int .i64 y) ∧ w.cell? ⟨b, 3, none⟩ = some (.int .i64 z) :=
  ⟨by rw [cell_of_row _ _ _ _ _ _ h]; rfl, by rw [cell_of_row _ _ _ _ _ _ h]; rfl, by rw [cell_of_row _ _ _ _ _ _ h]; rfl, by rw [cell_of_row _ _ _ _ _ _ h]; rfl⟩
theorem node_cells {k x y z : Int} (h : w.heap[b]? = some (.cells #[.int .i64 k, .int .i64 x, .int .i64 y, .int .i64 z] 53)) : w.cell? ⟨b, 0, none⟩ = some (.int .i64 k) ∧ w.cell? ⟨b, 1, none⟩ = some (.int .i64 x) ∧ w.cell? ⟨b, 2, none⟩ = some (.int .i64 y) ∧ w.cell? ⟨b, 3, none⟩ = some (.int .i64 z) :=
  ⟨by rw [cell_of_row _ _ _ _ _ _ h]; rfl, by rw [cell_of_row _ _ _ _ _ _ h]; rfl, by rw [cell_of_row _ _ _ _ _ _ h]; rfl, by rw [cell_of_row _ _ _ _ _ _ h]; rfl⟩
end
end Go.Proofs.Ytiechmcfafhfaaa
