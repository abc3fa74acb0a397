/- Contract of Add. -/
import Derived.Test.YtgoennbbpndiiaaA
namespace Go.Proofs.Ytgoennbbpndiiaa
open Go.RowKit Go.Maps Go.Shelf

def nums (l : List Int) : List Value := l.map fun x => .int .i64 x
theorem nums_at {l : List Int} {k : Nat} {x : Int} (h : l[k]? = some x) : (nums l)[k]? = some (.int .i64 x) := by unfold nums; rw [List.getElem?_map, h]; rfl
theorem nums_append (l m : List Int) : nums (l ++ m) = nums l ++ nums m := by unfold nums; rw [List.map_append]
theorem nums_len (l : List Int) : (nums l).length = l.length := by unfold nums; rw [List.length_map]

/-- Numbers that can be read, none of them in the blocks S. -/
def Src (w : World) (S : Nat → Prop) (v : Value) (l : List Int) : Prop :=
  ∃ a cap, v = .slice a l.length cap ∧ ∀ (k : Nat) x, l[k]? = some x → ∃ g off, a = some ⟨g, off, none⟩ ∧ ¬ S g ∧ g < w.heap.size ∧ w.cell? ⟨g, off + k, none⟩ = some (.int .i64 x)

/-- What a queue's turn leaves: all blocks that were there, but its own. -/
structure Left (w : World) (b : Nat) (v : Value) (p : Int) (l' : List (Int × Int)) (v' : Value) (w' : World) : Prop where
  qu : Qu w' b v' p l'
  turn : Turn (Own b v) w w'
  own : ∀ k, v'.ownBlock = some k → v.ownBlock = some k ∨ w.heap.size ≤ k
theorem Left.refl {w : World} {b : Nat} {v : Value} {p : Int} {l : List (Int × Int)} (h : Qu w b v p l) : Left w b v p l v w := ⟨h, Turn.refl _ _, fun _ e => .inl e⟩
theorem Left.trans {w w1 w2 : World} {b : Nat} {v v1 v2 : Value} {p : Int} {l1 l2 : List (Int × Int)} (h : Left w b v p l1 v1 w1) (k : Left w1 b v1 p l2 v2 w2) : Left w b v p l2 v2 w2 := by
  refine ⟨k.qu, ⟨k.turn.os.trans h.turn.os, k.turn.tape.trans h.turn.tape, k.turn.output.trans h.turn.output, Nat.le_trans h.turn.size k.turn.size, fun i hi hn => ?_⟩, fun i e => ?_⟩
  · refine (k.turn.block i (Nat.lt_of_lt_of_le hi h.turn.size) (fun ho => ?_)).trans (h.turn.block i hi hn)
    rcases ho with rfl | ho
    · exact hn (.inl rfl)
    · rcases h.own i ho with e | e
      · exact hn (.inr e)
      · omega
  · rcases k.own i e with e1 | e1
    · exact h.own i e1
    · exact .inr (Nat.le_trans h.turn.size e1)
theorem Left.keep {w w' : World} {b : Nat} {v v' : Value} {p : Int} {l' : List (Int × Int)} (h : Left w b v p l' v' w') {k : Nat} (hk : k < w.heap.size) (hn : ¬ Own b v k) : w'.heap[k]? = w.heap[k]? ∧ ¬ Own b v' k := by
  refine ⟨h.turn.block k hk hn, fun ho => ?_⟩
  rcases ho with rfl | ho
  · exact hn (.inl rfl)
  · rcases h.own k ho with e | e
    · exact hn (.inr e)
    · omega

section
variable {w : World} {b : Nat} {v : Value} {p : Int} {l : List (Int × Int)}
/-- One thing more: as the region does it. -/
theorem put_one (h : Qu w b v p l) (hl : l.length ≤ 100000) (x : Int) :
    ∃ v' w1, (Builtin.append_ #[42, 42] 42 #[v, .slice (some ⟨w.heap.size, 0, none⟩) 1 1]).run Try.prog (w.alloc (.cells #[.int .i64 x, .int .i64 p] 46)) = .ok v' w1 ∧ w1.heap[b]? = w.heap[b]? ∧
      Left w b v p (l ++ [(x, p)]) v' (w1.setCell ⟨b, 1, none⟩ v') := by
  obtain ⟨i0, hi, hz0, hz1, hz2⟩ := info_parts info46
  have hA : (w.alloc (.cells #[.int .i64 x, .int .i64 p] 46)).heap[w.heap.size]? = some (.cells #[.int .i64 x, .int .i64 p] 46) := heap_alloc_new _ _
  have hbl := lt_of h.hd
  obtain ⟨v', w1, hr, ho, hg, hb⟩ := OR.append (P := Try.prog) 42 42 46 i0 _ 2 16 Try.underlying42 hi hz0 hz1 hz2 rfl (by decide) (h.row.alloc (.cells #[.int .i64 x, .int .i64 p] 46)) ⟨w.heap.size, 0, none⟩ 1 1
    [.int .i64 x, .int .i64 p] rfl (fun j u hj => by
      rw [addr_add, Nat.zero_add, cell_of_row _ _ _ _ _ _ hA, ← hj]
      match j, hj with
      | 0, _ => rfl
      | 1, _ => rfl) (fun u hu => by simp at hu; rcases hu with rfl | rfl <;> rfl) (by unfold maxLen; omega) (by omega) (by simp; omega)
  have hown : ∀ k, v.ownBlock = some k → b + 1 ≤ k ∧ k < w.heap.size := h.row.own
  have hbb : w1.heap[b]? = w.heap[b]? := (hg.block b (by simp; omega) (fun e => by have := (hown b e.symm).1; omega)).trans (Below.heap_alloc _ _ _ hbl)
  have hbo : ∀ k, v'.ownBlock = some k → v.ownBlock = some k ∨ w.heap.size ≤ k := fun k e => by
    rcases hb with e1 | ⟨g, e1, e2⟩
    · exact .inl (e1.symm.trans e)
    · rw [e1] at e
      obtain rfl : g = k := by simpa using e
      exact .inr (by simp at e2; omega)
  have hT : Turn (Own b v) w w1 := ⟨hg.os, hg.tape, hg.output, by have := hg.size; simp at this; omega, fun k hk hn => (hg.block k (by simp; omega) (fun e => hn (.inr e.symm))).trans (Below.heap_alloc _ _ _ hk)⟩
  refine ⟨v', w1, hr, hbb, ⟨?_, ?_⟩, hT.but (But.setCell (But.refl b _) (.inl rfl) _) (.inl (.inl rfl)), hbo⟩
  · rw [setCell_head (hbb.trans h.hd)]; rfl
  · have : OR w1 (b + 1) 2 v' (l ++ [(x, p)]).length (flat (l ++ [(x, p)])) := by
      rw [flat_append, List.length_append]; exact ho
    refine this.other (by simp) (fun g e => Below.heap_setCell _ _ _ _ (by show g ≠ b; have := (this.own g e).1; omega))

set_option maxRecDepth 100000 in
set_option maxHeartbeats 1000000 in
theorem add_any (h : Qu w b v p l) (xv : Value) (xs : List Int) (hx : Src w (Own b v) xv xs) (hl : l.length + xs.length ≤ 100000) :
    Calls Try.prog 10 #[.pointer (some ⟨b, 0, none⟩), xv] w fun e w' => e = .returned (.int .i64 ((l.length + xs.length : Nat) : Int)) ∧ ∃ v', Left w b v p (l ++ xs.map fun x => (x, p)) v' w' := by
  obtain ⟨a, cap, rfl, hx⟩ := hx
  have HX := hid hx
  have HQ := hid h
  clear h hx
  go_enter Try.func10, Try.ntmps10
  go_wp2
  go_loopw [11] (fun c wr => ∃ (k : Nat) (v' : Value), k ≤ xs.length ∧ c = .int .i64 (k : Int) ∧ Hid (Left w b v p (l ++ (xs.take k).map fun x => (x, p)) v' wr)) (fun c _ => xs.length - (intOf c).toNat)
  case atStart => exact ⟨0, v, Nat.zero_le _, rfl, hid (by simpa using Left.refl HQ.out)⟩
  case round =>
    obtain ⟨k, v', hk, rfl, hL⟩ := hrel
    by_cases hlt : k < xs.length
    · have hk2 := List.getElem?_eq_getElem hlt
      obtain ⟨g, off, rfl, hng, hgl, hcx⟩ := HX.out k _ hk2
      have hgk := hL.out.keep hgl hng
      have cx : wr.cell? ⟨g, off + k, none⟩ = some (.int .i64 xs[k]) := (World.cell?_of_block (a := ⟨g, off + k, none⟩) hgk.1).trans hcx
      have e2 : xs.take (k + 1) = xs.take k ++ [xs[k]] := by rw [List.take_add_one, hk2]; rfl
      have hq := hL.out.qu.drewN 1
      obtain ⟨v2, w2, hr, hb2, hL2⟩ := put_one (w := wr.drewN 1) hq (by rw [List.length_append, List.length_map, List.length_take]; omega) xs[k]
      obtain ⟨a2, cap2, rfl, _⟩ := hL2.qu.row.slice
      obtain ⟨n2, hn2⟩ : ∃ n2, n2 = (l ++ List.map (fun x => (x, p)) (List.take k xs) ++ [(xs[k], p)]).length := ⟨_, rfl⟩
      rw [← hn2] at hL2 hr
      have hL3 : Left w b v p (l ++ (xs.take (k + 1)).map fun x => (x, p)) (.slice a2 n2 cap2) (w2.setCell ⟨b, 1, none⟩ (.slice a2 n2 cap2)) := by
        rw [e2, List.map_append, ← List.append_assoc]
        exact Left.trans (w1 := wr.drewN 1) ⟨hq, hL.out.turn.drewN 1, hL.out.own⟩ hL2
      have H3 := hid hL3
      have hbl : b < wr.heap.size := lt_of hq.hd
      have c0n : wr.cell? ⟨b, 0, none⟩ = some (.int .i64 p) := hq.c0
      have c1n : wr.cell? ⟨b, 1, none⟩ = some v' := hq.c1
      have c0 : wr.drew.cell? ⟨b, 0, none⟩ = some (.int .i64 p) := hq.c0
      have c1 : wr.drew.cell? ⟨b, 1, none⟩ = some v' := hq.c1
      have c1' : w2.cell? ⟨b, 1, none⟩ = some v' := by rw [cell_of_row _ _ _ _ _ _ (hb2.trans hq.hd)]; rfl
      have f1' : w2.frozen? ⟨b, 1, none⟩ = false := frozen_of_row _ _ _ _ _ (hb2.trans hq.hd)
      have hrr : (Builtin.append_ #[42, 42] 42 #[v', .slice (some ⟨wr.drew.heap.size, 0, none⟩) 1 1]).run Try.prog (wr.drew.alloc (.cells #[.int .i64 xs[k], .int .i64 p] 46)) = .ok (.slice a2 n2 cap2) w2 := hr
      clear hL hL2 hL3 hq hb2 hr e2 hk2 hgk HX HQ hn2
      generalize xs[k] = x at *
      go_wp2_with fail
      go_region_law (refine step_append_run _ w2 (.slice a2 n2 cap2) rfl _ _ 42 rfl _ _ rfl rfl hrr ?_)
      all_goals
        go_wp2_with fail
        exact ⟨⟨k + 1, .slice a2 n2 cap2, by omega, by go_num, H3⟩, by simp [intOf]; omega⟩
    · obtain rfl : k = xs.length := by omega
      rw [List.take_length] at hL
      have c1 := hL.out.qu.c1
      obtain ⟨a2, cap2, rfl, _⟩ := hL.out.qu.row.slice
      go_wp2
      go_ret
      exact ⟨by simp, _, hL.out⟩
end
end Go.Proofs.Ytgoennbbpndiiaa
