/- Contract of Tick: a tick is taken off each, and what is due is collected. -/
import Derived.Test.YtgoennbbpndiiaaE
namespace Go.Proofs.Ytgoennbbpndiiaa
open Go.RowKit Go.Maps Go.Shelf
attribute [local go_sem] Oper.semAt_some

def tickA (l : List (Int × Int)) : List (Int × Int) := l.map fun t => (t.1, t.2 - 1)
def decK (k : Nat) (l : List (Int × Int)) : List (Int × Int) := (l.take k).map (fun t => (t.1, t.2 - 1)) ++ l.drop k
theorem decK_zero (l : List (Int × Int)) : decK 0 l = l := by simp [decK]
theorem decK_all (l : List (Int × Int)) : decK l.length l = tickA l := by simp [decK, tickA]
theorem decK_len (k : Nat) (l : List (Int × Int)) : (decK k l).length = l.length := by simp [decK]; omega
theorem decK_at {k : Nat} {l : List (Int × Int)} (h : k < l.length) : (decK k l)[k]? = some l[k] := by
  unfold decK
  rw [List.getElem?_append_right (by simp; omega)]
  simp [List.length_take, Nat.min_eq_left (Nat.le_of_lt h)]
theorem decK_next {k : Nat} {l : List (Int × Int)} (h : k < l.length) : (decK k l).set k (l[k].1, l[k].2 - 1) = decK (k + 1) l := by
  unfold decK
  rw [List.set_append_right _ _ (by simp; omega)]
  rw [List.drop_eq_getElem_cons h, show k - (List.map (fun t : Int × Int => (t.1, t.2 - 1)) (List.take k l)).length = 0 by simp; omega, List.set_cons_zero]
  rw [List.take_add_one, List.getElem?_eq_getElem h, Option.toList_some, List.map_append, List.append_assoc]
  rfl
theorem flat_set {l : List (Int × Int)} {k : Nat} {t : Int × Int} (h : l[k]? = some t) (u : Int) : (flat l).set (k * 2 + 1) (.int .i64 u) = flat (l.set k (t.1, u)) := by
  induction l generalizing k with
  | nil => cases h
  | cons x xs ih =>
    have e : ∀ y ys, flat (y :: ys) = .int .i64 y.1 :: .int .i64 y.2 :: flat ys := fun y ys => by unfold flat; rw [List.flatMap_cons]; rfl
    rw [e]
    cases k with
    | zero => obtain rfl : x = t := by simpa using h
              rw [List.set_cons_zero, e]; rfl
    | succ k =>
      rw [show (k + 1) * 2 + 1 = k * 2 + 1 + 1 + 1 by omega, List.set_cons_succ, List.set_cons_succ, ih (k := k) (by simpa using h), List.set_cons_succ, e]

section
variable {w : World} {b : Nat} {v : Value} {p : Int} {l : List (Int × Int)}
/-- The ticks of one thing are set. -/
theorem Qu.setLeft {g off cap n : Nat} {k : Nat} {t : Int × Int} (h : Qu w b (.slice (some ⟨g, off, none⟩) n cap) p l) (hk : l[k]? = some t) (u : Int) :
    w.frozen? ⟨g, off + k * 2 + 1, none⟩ = false ∧ Left w b (.slice (some ⟨g, off, none⟩) n cap) p (l.set k (t.1, u)) (.slice (some ⟨g, off, none⟩) n cap) (w.setCell ⟨g, off + k * 2 + 1, none⟩ (.int .i64 u)) := by
  have hr0 := h.row
  obtain ⟨_, cap2, e2, _⟩ := hr0.slice
  obtain ⟨_, rfl, rfl⟩ : some (⟨g, off, none⟩ : Addr) = _ ∧ n = l.length ∧ cap = cap2 := by simpa using e2
  have hkl := (List.getElem?_eq_some_iff.1 hk).1
  obtain ⟨hr, hf⟩ := OR.set (u := .int .i64 u) hr0 (k * 2 + 1) (by omega)
  rw [← Nat.add_assoc] at hr hf
  have hg := hr0.own g rfl
  refine ⟨hf, ⟨⟨(Below.heap_setCell _ _ _ _ (by show b ≠ g; omega)).trans h.hd, ?_⟩, (Turn.refl _ _).but (But.setCell (But.refl g _) (.inl rfl) _) (.inl (.inr rfl)), fun k e => .inl e⟩⟩
  rw [flat_set hk] at hr
  rw [List.length_set]
  exact hr
theorem Left.below {w' w2 : World} {v' : Value} {l' : List (Int × Int)} (h : Left w b v p l' v' w') (hown : ∀ k, v'.ownBlock = some k → v.ownBlock = some k) (hq : Qu w b v p l) (hb : Below w.heap.size w' w2) : Left w b v p l' v' w2 := by
  refine ⟨h.qu.same hb.size (fun k hk => hb.block k ?_), ⟨hb.os.trans h.turn.os, hb.tape.trans h.turn.tape, hb.output.trans h.turn.output, Nat.le_trans h.turn.size hb.size, fun k hk hn => (hb.block k hk).trans (h.turn.block k hk hn)⟩, h.own⟩
  · rcases hk with rfl | hk
    · exact (hq.lt (.inl rfl)).2
    · exact (hq.lt (.inr (hown k hk))).2

/-- What a tick keeps while what is due is collected: s is the heap's size where the loop begins. -/
structure Tk (w : World) (b : Nat) (v : Value) (p : Int) (s : Nat) (pre : List Int) (rest : List (Int × Int)) (W : World) : Prop where
  len : rest.length ≤ 100000
  plen : pre.length + rest.length ≤ 100000
  box : W.heap[s + 1]? = some (.cells #[.pointer (some ⟨b, 0, none⟩)] 24)
  left : ∃ v', Left w b v p rest v' W ∧ ∀ k, v'.ownBlock = some k → v.ownBlock = some k
  acc : ∃ u, Boxed W s 29 u ∧ OR W (s + 4) 1 u pre.length (nums pre)
  size : s + 4 ≤ W.heap.size
theorem below_putObj {W : World} {s l : Nat} {o' : Obj} (hl : s ≤ l) (hs : s ≤ W.heap.size) : Below s W (W.putObj l o') := (Below.refl _ W).grown (grownBy_putObj' W l o') hs (fun k e => by cases e; exact hl)
/-- The first thing is cut off. -/
theorem Tk.cut {pre : List Int} {x : Int} {rest : List (Int × Int)} {W : World} {v1 v2 : Value} (hq : Qu w b v p l) (h : Tk w b v p w.heap.size pre ((x, 0) :: rest) W) (h1 : Qu W b v1 p ((x, 0) :: rest)) (h2 : Left W b v1 p rest v2 (W.drew.setCell ⟨b, 1, none⟩ v2)) :
    b < w.heap.size ∧ ∃ v3 u, Left w b v p rest v3 (W.drew.setCell ⟨b, 1, none⟩ v2) ∧ (∀ k, v3.ownBlock = some k → v.ownBlock = some k) ∧ Boxed (W.drew.setCell ⟨b, 1, none⟩ v2) w.heap.size 29 u ∧ OR (W.drew.setCell ⟨b, 1, none⟩ v2) (w.heap.size + 4) 1 u pre.length (nums pre) ∧
      ∀ k, k ≠ b → (W.drew.setCell ⟨b, 1, none⟩ v2).heap[k]? = W.heap[k]? := by
  have hbl : b < w.heap.size := (hq.lt (.inl rfl)).2
  obtain ⟨v', hL, hown⟩ := h.left
  obtain rfl : v' = v1 := by
    have e := hL.qu.hd.symm.trans h1.hd
    simpa using e
  obtain ⟨u, hu, hr⟩ := h.acc
  have hblk : ∀ k, k ≠ b → (W.drew.setCell ⟨b, 1, none⟩ v2).heap[k]? = W.heap[k]? := fun k hk => Below.heap_setCell _ _ _ _ hk
  refine ⟨hbl, v2, u, hL.trans h2, fun k e => ?_, (hblk _ (by omega)).trans hu, hr.other (by simp) (fun g e => hblk g (by have := (hr.own g e).1; omega)), hblk⟩
  rcases h2.own k e with e1 | e1
  · exact hown k e1
  · have := (h2.qu.lt (.inr e)).2
    simp at this
    have : k < W.heap.size := this
    omega
/-- A number that is due is collected. -/
theorem Tk.body {pre : List Int} {x : Int} {rest : List (Int × Int)} {W : World} {v3 u : Value} {oB oR oD : Obj} (hq : Qu w b v p l) (hlen : pre.length + rest.length < 100000) (hL : Left w b v p rest v3 W) (hown : ∀ k, v3.ownBlock = some k → v.ownBlock = some k)
    (hu : Boxed W w.heap.size 29 u) (hr : OR W (w.heap.size + 4) 1 u pre.length (nums pre)) (hbox : W.heap[w.heap.size + 1]? = some (.cells #[.pointer (some ⟨b, 0, none⟩)] 24)) (hD : W.heap[w.heap.size + 2]? = some oD) (hlp : w.heap.size + 4 ≤ W.heap.size) :
    ∃ a cap W3, (Builtin.append_ #[29, 29] 29 #[u, .slice (some ⟨W.heap.size, 0, none⟩) 1 1]).run Try.prog ((W.putObj (w.heap.size + 3) oB).alloc (.cells #[.int .i64 x] 3)) = .ok (.slice a (pre.length + 1) cap) W3 ∧
      Boxed (W.putObj (w.heap.size + 3) oB) w.heap.size 29 u ∧ Boxed W3 w.heap.size 29 u ∧
      (W3.setCell ⟨w.heap.size, 0, none⟩ (.slice a (pre.length + 1) cap)).heap[w.heap.size + 3]? = some oB ∧
      Tk w b v p w.heap.size (pre ++ [x]) rest ((W3.setCell ⟨w.heap.size, 0, none⟩ (.slice a (pre.length + 1) cap)).putObj (w.heap.size + 3) oR) ∧
      ((W3.setCell ⟨w.heap.size, 0, none⟩ (.slice a (pre.length + 1) cap)).putObj (w.heap.size + 3) oR).heap[w.heap.size + 2]? = some oD ∧
      ((W3.setCell ⟨w.heap.size, 0, none⟩ (.slice a (pre.length + 1) cap)).putObj (w.heap.size + 3) oR).heap[w.heap.size + 3]? = some oR := by
  have hbl : b < w.heap.size := (hq.lt (.inl rfl)).2
  generalize hs : w.heap.size = s at *
  have hp1 : ∀ k, k ≠ s + 3 → (W.putObj (s + 3) oB).heap[k]? = W.heap[k]? := fun k hk => World.putObj_heap_other hk
  have hr1 : OR (W.putObj (s + 3) oB) (s + 4) 1 u pre.length (nums pre) := hr.other (by simp) (fun g e => hp1 g (by have := (hr.own g e).1; omega))
  obtain ⟨a, cap, W3, hrun, hr3, hb3⟩ := num_append hr1 (by omega) (by simp; exact hlp) x W.heap.size (by simp)
  have hB1 : Boxed (W.putObj (s + 3) oB) s 29 u := (hp1 s (by omega)).trans hu
  have hB3 : Boxed W3 s 29 u := (hb3.block s (by omega)).trans hB1
  have hset : ∀ k, k ≠ s → (W3.setCell ⟨s, 0, none⟩ (.slice a (pre.length + 1) cap)).heap[k]? = W3.heap[k]? := fun k hk => Below.heap_setCell _ _ _ _ hk
  have h3s : s + 3 < (W.putObj (s + 3) oB).heap.size := by simp; omega
  have hf : ∀ k, k ≠ s → k ≠ s + 3 → k < s + 4 → ((W3.setCell ⟨s, 0, none⟩ (.slice a (pre.length + 1) cap)).putObj (s + 3) oR).heap[k]? = W.heap[k]? := fun k h1 h2 h3 =>
    ((World.putObj_heap_other h2).trans (hset k h1)).trans ((hb3.block k h3).trans (hp1 k h2))
  have hsz : W.heap.size ≤ W3.heap.size := by have := hb3.size; simp at this; exact this
  have hbel : Below s W ((W3.setCell ⟨s, 0, none⟩ (.slice a (pre.length + 1) cap)).putObj (s + 3) oR) := by
    have b1 : Below s W (W.putObj (s + 3) oB) := below_putObj (by omega) (by omega)
    have b2 : Below s W W3 := b1.trans (hb3.mono (by omega))
    exact (b2.setCell (p := ⟨s, 0, none⟩) (Nat.le_refl _) _).trans (below_putObj (by omega) (by simp; omega))
  refine ⟨a, cap, W3, hrun, hB1, hB3, ?_, ⟨by omega, by simp; omega, ?_, ⟨v3, hL.below hown hq (hs ▸ hbel), hown⟩, ⟨.slice a (pre.length + 1) cap, ?_, ?_⟩, ?_⟩, ?_, ?_⟩
  · rw [hset _ (by omega), hb3.block _ (by omega)]; exact World.putObj_heap_same (by omega)
  · rw [hf _ (by omega) (by omega) (by omega)]; exact hbox
  · exact (World.putObj_heap_other (by omega)).trans (hB3.set _)
  · refine hr3.other (by simp) (fun g e => ?_)
    have := (hr3.own g e).1
    exact (World.putObj_heap_other (by omega)).trans (hset g (by omega))
  · simp; omega
  · rw [hf _ (by omega) (by omega) (by omega)]; exact hD
  · exact World.putObj_heap_same (by simp; omega)
end
end Go.Proofs.Ytgoennbbpndiiaa
