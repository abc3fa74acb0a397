/- Both forests at once: the program's and the document's. -/
import Derived.Test.YtiechmcfafhfaaaRl
import Derived.Test.YtiechmcfafhfaaaRa
namespace Go.Proofs.Ytiechmcfafhfaaa
open Go.RowKit Go.Maps Go.Shelf

/-- Both forests, made behind v, apart from one another. -/
structure Fb (v w : World) (p m1 m2 : Nat) (nb : Nat → Nat) (last : Nat) (L : List Nd) (r : Nat) (u : Value) (last2 : Nat) (L2 : List Nd) : Prop where
  fz : Fz v w p m1 m2 nb last L
  rf : Rf w r u last2 L2
  own : ∀ k, ROwn r u k → v.heap.size ≤ k
  sep : ∀ k, ROwn r u k → ¬ FOwn p m1 m2 nb L k
section
variable {v w w' : World} {p m1 m2 r last last' last2 last3 : Nat} {nb nb' : Nat → Nat} {L R L2 M2 : List Nd} {u u' : Value}
theorem Fb.below (h : Fb v w p m1 m2 nb last L r u last2 L2) (hb : Below w.heap.size w w') : Fb v w' p m1 m2 nb last L r u last2 L2 := ⟨h.fz.below hb, h.rf.below hb (Nat.le_refl _), h.own, h.sep⟩
theorem Fb.drewN (h : Fb v w p m1 m2 nb last L r u last2 L2) (k : Nat) : Fb v (w.drewN k) p m1 m2 nb last L r u last2 L2 := ⟨h.fz.drewN k, h.rf.drewN k, h.own, h.sep⟩
/-- The program's forest has turned. -/
theorem Fb.prog (h : Fb v w p m1 m2 nb last L r u last2 L2) (hz : Fz v w' p m1 m2 nb' last' R) (ht : Tr (FOwn p m1 m2 nb L) (FOwn p m1 m2 nb' R) w w') : Fb v w' p m1 m2 nb' last' R r u last2 L2 :=
  ⟨hz, h.rf.same ht.turn.size (fun k hk => ht.turn.block k (h.rf.lt hk).2 (h.sep k hk)), h.own, fun k hk hf => (ht.own k hf).elim (h.sep k hk) (fun h2 => by have := (h.rf.lt hk).2; omega)⟩
/-- The document's forest has turned. -/
theorem Fb.ref (h : Fb v w p m1 m2 nb last L r u last2 L2) (hr : Rf w' r u' last3 M2) (ht : Tr (ROwn r u) (ROwn r u') w w') : Fb v w' p m1 m2 nb last L r u' last3 M2 :=
  ⟨⟨h.fz.fo.same (fun k hk => ht.turn.block k (h.fz.fo.lt hk) (fun hr => h.sep k hr hk)), Below.of_turn h.fz.bel h.fz.bel.size ht.turn h.own, h.fz.own⟩, hr, fun k hk => (ht.own k hk).elim (h.own k) (fun h2 => Nat.le_trans h.fz.bel.size h2), fun k hk hf => (ht.own k hk).elim (fun h2 => h.sep k h2 hf) (fun h2 => by have := h.fz.fo.lt hf; omega)⟩
theorem Rf.fresh (w : World) : Rf (w.alloc (.cells #[.slice none 0 0, .int .i64 0] 42)) w.heap.size (.slice none 0 0) 0 [] := ⟨heap_alloc_new _ _, OR.nil _ _ _⟩
theorem Fb.start (h : Fz v w p m1 m2 nb 0 []) : Fb v (w.alloc (.cells #[.slice none 0 0, .int .i64 0] 42)) p m1 m2 nb 0 [] w.heap.size (.slice none 0 0) 0 [] := by
  have hk : ∀ k, ROwn w.heap.size (.slice none 0 0) k → k = w.heap.size := fun k hk => by
    rcases hk with rfl | e
    · rfl
    · cases e
  refine ⟨h.below ((Below.refl _ _).alloc (Nat.le_refl _) _), Rf.fresh w, fun k e => by rw [hk k e]; exact h.bel.size, fun k e hf => ?_⟩
  rw [hk k e] at hf
  have := h.fo.lt hf
  omega
end
/-- Both forests, and a block of the law's own that is neither's. -/
structure Fa (v w : World) (p m1 m2 : Nat) (nb : Nat → Nat) (last : Nat) (L : List Nd) (r : Nat) (u : Value) (last2 : Nat) (L2 : List Nd) (b : Nat) (o : Obj) : Prop where
  fb : Fb v w p m1 m2 nb last L r u last2 L2
  act : w.heap[b]? = some o
  nf : ¬ FOwn p m1 m2 nb L b
  nr : ¬ ROwn r u b
section
variable {v w w' : World} {p m1 m2 r last last' last2 last3 b : Nat} {nb nb' : Nat → Nat} {L R L2 M2 : List Nd} {u u' : Value} {o : Obj}
theorem Fb.act (h : Fb v w p m1 m2 nb last L r u last2 L2) (o : Obj) : Fa v (w.alloc o) p m1 m2 nb last L r u last2 L2 w.heap.size o :=
  ⟨h.below ((Below.refl _ _).alloc (Nat.le_refl _) _), heap_alloc_new _ _, fun hf => by have := h.fz.fo.lt hf; omega, fun hr => by have := (h.rf.lt hr).2; omega⟩
theorem Fa.below (h : Fa v w p m1 m2 nb last L r u last2 L2 b o) (hb : Below w.heap.size w w') : Fa v w' p m1 m2 nb last L r u last2 L2 b o := ⟨h.fb.below hb, (hb.block b (lt_of h.act)).trans h.act, h.nf, h.nr⟩
theorem Fa.drewN (h : Fa v w p m1 m2 nb last L r u last2 L2 b o) (k : Nat) : Fa v (w.drewN k) p m1 m2 nb last L r u last2 L2 b o := ⟨h.fb.drewN k, h.act, h.nf, h.nr⟩
theorem Fa.prog (h : Fa v w p m1 m2 nb last L r u last2 L2 b o) (hz : Fz v w' p m1 m2 nb' last' R) (ht : Tr (FOwn p m1 m2 nb L) (FOwn p m1 m2 nb' R) w w') : Fa v w' p m1 m2 nb' last' R r u last2 L2 b o :=
  ⟨h.fb.prog hz ht, (ht.keep (lt_of h.act) h.nf).1.trans h.act, (ht.keep (lt_of h.act) h.nf).2.1, h.nr⟩
theorem Fa.ref (h : Fa v w p m1 m2 nb last L r u last2 L2 b o) (hr : Rf w' r u' last3 M2) (ht : Tr (ROwn r u) (ROwn r u') w w') : Fa v w' p m1 m2 nb last L r u' last3 M2 b o :=
  ⟨h.fb.ref hr ht, (ht.keep (lt_of h.act) h.nr).1.trans h.act, h.nf, (ht.keep (lt_of h.act) h.nr).2.1⟩
/-- What one of both answers stays when the other one is called. -/
theorem rowp {base size n : Nat} {x : Value} {xs : List Value} (ho : OR w base size x n xs) (hn : ∀ k, ROwn r u k → k < base) (ht : Tr (ROwn r u) (ROwn r u') w w') : OR w' base size x n xs :=
  (ho.tr ht (fun g e hk => by have := hn g hk; have := (ho.own g e).1; omega)).1
theorem rowr {base size n : Nat} {x : Value} {xs : List Value} (ho : OR w base size x n xs) (hn : ∀ k, FOwn p m1 m2 nb L k → k < base) (ht : Tr (FOwn p m1 m2 nb L) (FOwn p m1 m2 nb' R) w w') : OR w' base size x n xs :=
  (ho.tr ht (fun g e hk => by have := hn g hk; have := (ho.own g e).1; omega)).1
end
end Go.Proofs.Ytiechmcfafhfaaa
