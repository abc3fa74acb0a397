/- HandleUnlike: an element cut out of a row; what stands all along. -/
import Derived.Test.YtoahfeckadaomaaU2
namespace Go.Proofs.Ytoahfeckadaomaa
open Go.RowKit Go.Maps Go.Shelf

theorem row_cell {w : World} {base : Nat} {e : TypeId} {size g n cap : Nat} {xs : List Value} (h : w.ownsRow base e size (.slice (some ⟨g, 0, none⟩) n cap) n xs) {k : Nat} {u : Value} (hu : xs[k]? = some u) : w.cell? ⟨g, k, none⟩ = some u ∧ g < w.heap.size := by
  obtain ⟨hl, h⟩ := h
  rcases h with ⟨e1, _⟩ | ⟨g', cap', cur, e1, _, h2, _, _, _, ht⟩
  · simp at e1
  · obtain ⟨rfl, _⟩ : g = g' ∧ cap = cap' := by simpa using e1
    refine ⟨?_, lt_of h2⟩
    rw [cell_of_row _ _ _ _ _ _ h2]
    rw [← ht] at hu
    have hlt : k < n * size := by
      obtain ⟨hh, _⟩ := List.getElem?_eq_some_iff.1 hu
      simp at hh; omega
    rw [List.getElem?_take_of_lt hlt, Array.getElem?_toList] at hu
    exact hu

theorem row_cap {w : World} {base : Nat} {e : TypeId} {size g n cap : Nat} {xs : List Value} (h : w.ownsRow base e size (.slice (some ⟨g, 0, none⟩) n cap) n xs) : n ≤ cap := by
  rcases h.2 with ⟨e1, _⟩ | ⟨g', cap', cur, e1, _, _, h3, _⟩
  · simp at e1
  · obtain ⟨_, rfl⟩ : g = g' ∧ cap = cap' := by simpa using e1
    exact h3
theorem row_shape {w : World} {base : Nat} {e : TypeId} {size n : Nat} {v : Value} {xs : List Value} (h : w.ownsRow base e size v n xs) (hn : 0 < n) : ∃ g cap, v = .slice (some ⟨g, 0, none⟩) n cap := by
  rcases h.2 with ⟨_, e2⟩ | ⟨g, cap, _, e1, _⟩
  · omega
  · exact ⟨g, cap, e1⟩

theorem cut_runs (t e : TypeId) (i0 : TypeInfo) (z : Value) (size bytes : Nat) (ht : Try.prog.underlying t = some (.slice e)) (hi : Try.prog.info? e = some i0) (hz : i0.zero = some z) (hs : i0.size = size) (hby : i0.bytes = bytes) (hzs : z.cells.size = size) (hsz : 0 < size) (hb24 : bytes ≤ 24)
    {w : World} {base g n cap : Nat} {xs : List Value} (h : w.ownsRow base e size (.slice (some ⟨g, 0, none⟩) n cap) n xs) (h1 : ∀ u ∈ xs, u.oneCell' = true) (i : Nat) (hin : i < n) (hn : n ≤ 300) (ad : Addr) (had : n = i + 1 ∨ ad = ⟨g, (i + 1) * size, none⟩) (c1 c2 : Nat) :
    ∃ v1 w2 v2 w3, (Builtin.append_ #[t, t] t #[.slice (some ⟨w.heap.size, 0, none⟩) 0 0, .slice (some ⟨g, 0, none⟩) i c1]).run Try.prog (w.alloc (.cells #[] e)) = .ok v1 w2 ∧
      (Builtin.append_ #[t, t] t #[v1, .slice (some ad) (n - (i + 1)) c2]).run Try.prog w2 = .ok v2 w3 ∧ w3.ownsRow w.heap.size e size v2 (n - 1) (xs.take (i * size) ++ xs.drop ((i + 1) * size)) ∧ Below w.heap.size w w3 := by
  have hxl : xs.length = n * size := h.1
  have hi1 : i * size ≤ n * size := Nat.mul_le_mul_right _ (by omega)
  have hi2 : (i + 1) * size ≤ n * size := Nat.mul_le_mul_right _ (by omega)
  have hin2 : i * bytes ≤ 300 * 24 := Nat.mul_le_mul (by omega) hb24
  have hin3 : (i + (n - (i + 1))) * bytes ≤ 300 * 24 := Nat.mul_le_mul (by omega) hb24
  have o1 : (w.alloc (.cells #[] e)).ownsRow w.heap.size e size (.slice (some ⟨w.heap.size, 0, none⟩) 0 0) 0 [] := ⟨by simp, .inr ⟨w.heap.size, 0, #[], rfl, Nat.le_refl _, heap_alloc_new _ _, Nat.le_refl _, Nat.zero_le _, by simp, by simp⟩⟩
  obtain ⟨v1, w2, hr1, ho1, hg1, _, _⟩ := run_append_own_at (P := Try.prog) (w := w.alloc (.cells #[] e)) w.heap.size t t e i0 z size bytes ht hi hz hs hby hzs hsz (.slice (some ⟨w.heap.size, 0, none⟩) 0 0) 0 [] o1 ⟨g, 0, none⟩ i c1 (xs.take (i * size)) (by rw [List.length_take]; omega) (fun j u hj => by
      rw [addr_add, Nat.zero_add]
      have hlt : j < i * size := by
        obtain ⟨hh, _⟩ := List.getElem?_eq_some_iff.1 hj
        rw [List.length_take] at hh; omega
      rw [List.getElem?_take_of_lt hlt] at hj
      obtain ⟨hc, hgl⟩ := row_cell h hj
      exact (((Below.refl _ w).alloc (Nat.le_refl _) (.cells #[] e)).cell (p := ⟨g, j, none⟩) hgl).trans hc) (fun u hu => h1 u (List.mem_of_mem_take hu)) (by unfold maxLen; omega) (by rw [Nat.zero_add]; omega) (by simp)
  rw [Nat.zero_add, List.nil_append] at ho1
  have hb1 : Below w.heap.size w w2 := ((Below.refl _ w).alloc (Nat.le_refl _) _).grown hg1 (by simp) (fun k e => Nat.le_of_eq (Option.some.inj (show some w.heap.size = some k from e)))
  obtain ⟨v2, w3, hr2, ho2, hg2, _, _⟩ := run_append_own_at (P := Try.prog) (w := w2) w.heap.size t t e i0 z size bytes ht hi hz hs hby hzs hsz v1 i (xs.take (i * size)) ho1 ad (n - (i + 1)) c2 (xs.drop ((i + 1) * size)) (by rw [List.length_drop, hxl, ← Nat.sub_mul]) (fun j u hj => by
      have hlt : (i + 1) * size + j < xs.length := by
        obtain ⟨hh, _⟩ := List.getElem?_eq_some_iff.1 hj
        rw [List.length_drop] at hh; omega
      rw [List.getElem?_drop] at hj
      rcases had with e | e
      · rw [e] at hxl; omega
      · rw [e, addr_add]
        obtain ⟨hc, hgl⟩ := row_cell h hj
        exact (hb1.cell (p := ⟨g, (i + 1) * size + j, none⟩) hgl).trans hc) (fun u hu => h1 u (List.mem_of_mem_drop hu)) (by unfold maxLen; omega) (by omega) hb1.size
  rw [show i + (n - (i + 1)) = n - 1 by omega] at ho2
  exact ⟨v1, w2, v2, w3, hr1, hr2, ho2, hb1.grown hg2 hb1.size (fun k e => (own_block ho1 k e).1)⟩

/-- What stands all along: the table, the handles that are kept, and the objects. -/
structure Us (w2 w : World) (v4 v5 : Value) (b : Nat) (v0 : World) (T : Nat → Pl) (l4 : List Nat) (l5 : List Ob) : Prop where
  ht : Ht v0 w b T
  r4 : w.ownsRow w2.heap.size 26 1 v4 l4.length (hds l4)
  r5 : w.ownsRow w2.heap.size 31 3 v5 l5.length (obs l5)
  lt : b < w2.heap.size
  le : w2.heap.size ≤ w.heap.size
  v0 : v0.heap.size ≤ w2.heap.size
section
variable {w2 w w' v0 : World} {v4 v5 : Value} {b : Nat} {T T' : Nat → Pl} {l4 : List Nat} {l5 : List Ob}
theorem Us.below (h : Us w2 w v4 v5 b v0 T l4 l5) (hb : Below w.heap.size w w') : Us w2 w' v4 v5 b v0 T l4 l5 :=
  ⟨h.ht.below hb, World.ownsRow.other h.r4 (fun g hg => hb.block g (own_block h.r4 g hg).2), World.ownsRow.other h.r5 (fun g hg => hb.block g (own_block h.r5 g hg).2), h.lt, Nat.le_trans h.le hb.size, h.v0⟩
theorem Us.alloc (h : Us w2 w v4 v5 b v0 T l4 l5) (o : Obj) : Us w2 (w.alloc o) v4 v5 b v0 T l4 l5 := h.below ((Below.refl _ w).alloc (Nat.le_refl _) _)
theorem Us.drewN (h : Us w2 w v4 v5 b v0 T l4 l5) (q : Nat) : Us w2 (w.drewN q) v4 v5 b v0 T l4 l5 := h.below (Below.drewN (Below.refl _ w) q)
theorem Us.but (h : Us w2 w v4 v5 b v0 T l4 l5) (ht : Ht v0 w' b T') (hb : But b w w') : Us w2 w' v4 v5 b v0 T' l4 l5 :=
  ⟨ht, World.ownsRow.other h.r4 (fun g hg => hb.block g (own_block h.r4 g hg).2 (by have := (own_block h.r4 g hg).1; have := h.lt; omega)), World.ownsRow.other h.r5 (fun g hg => hb.block g (own_block h.r5 g hg).2 (by have := (own_block h.r5 g hg).1; have := h.lt; omega)), h.lt, Nat.le_trans h.le hb.size, h.v0⟩
theorem rows_apart {base base' e e' size size' n n' : Nat} {v v' : Value} {xs xs' : List Value} (h : w.ownsRow base e size v n xs) (h' : w.ownsRow base' e' size' v' n' xs') (hne : e ≠ e') {g : Nat} (hg : v.ownBlock = some g) : v'.ownBlock ≠ some g := fun hg' => by
  rcases h.2 with ⟨rfl, _⟩ | ⟨g1, _, cur, rfl, _, h1, _⟩
  · cases hg
  · obtain rfl : g1 = g := by simpa [Value.ownBlock] using hg
    rcases h'.2 with ⟨rfl, _⟩ | ⟨g2, _, cur', rfl, _, h2, _⟩
    · cases hg'
    · obtain rfl : g2 = g1 := by simpa [Value.ownBlock] using hg'
      rw [h1] at h2
      have := Option.some.inj h2
      simp at this
      exact hne this.2
theorem Us.app4 {w4 : World} {v : Value} {l : List Nat} (h : Us w2 w v4 v5 b v0 T l4 l5) (o : Obj) (hg : (w.alloc o).grownBy w4 v4.ownBlock) (hr : w4.ownsRow w2.heap.size 26 1 v l.length (hds l)) : Us w2 w4 v v5 b v0 T l l5 := by
  have hb : Below w2.heap.size w w4 := ((Below.refl _ w).alloc h.le _).grown hg (by simp; have := h.le; omega) (fun k e => (own_block h.r4 k e).1)
  refine ⟨⟨h.ht.tb.same (hb.block b h.lt), h.ht.wf, h.ht.bel.trans (hb.mono h.v0), h.ht.le⟩, hr, World.ownsRow.other h.r5 (fun g e => ?_), h.lt, Nat.le_trans h.le hb.size, h.v0⟩
  have hl := (own_block h.r5 g e).2
  rw [hg.block g (by simp; omega) (fun e2 => rows_apart h.r5 h.r4 (by decide) e e2.symm), Below.heap_alloc _ _ _ hl]
theorem Us.app5 {w4 : World} {v : Value} {l : List Ob} (h : Us w2 w v4 v5 b v0 T l4 l5) (o : Obj) (hg : (w.alloc o).grownBy w4 v5.ownBlock) (hr : w4.ownsRow w2.heap.size 31 3 v l.length (obs l)) : Us w2 w4 v4 v b v0 T l4 l := by
  have hb : Below w2.heap.size w w4 := ((Below.refl _ w).alloc h.le _).grown hg (by simp; have := h.le; omega) (fun k e => (own_block h.r5 k e).1)
  refine ⟨⟨h.ht.tb.same (hb.block b h.lt), h.ht.wf, h.ht.bel.trans (hb.mono h.v0), h.ht.le⟩, World.ownsRow.other h.r4 (fun g e => ?_), hr, h.lt, Nat.le_trans h.le hb.size, h.v0⟩
  have hl := (own_block h.r4 g e).2
  rw [hg.block g (by simp; omega) (fun e2 => rows_apart h.r4 h.r5 (by decide) e e2.symm), Below.heap_alloc _ _ _ hl]
/-- One handle is cut out. -/
theorem Us.cut4 (h : Us w2 w v4 v5 b v0 T l4 l5) (i : Nat) (hi : i < l4.length) (hn : l4.length ≤ 300) : ∃ g cap, v4 = .slice (some ⟨g, 0, none⟩) l4.length cap ∧ l4.length ≤ cap ∧ ∀ (ad : Addr) (c1 c2 : Nat), (l4.length = i + 1 ∨ ad = ⟨g, i + 1, none⟩) →
    ∃ v1 wa v wb, (Builtin.append_ #[36, 36] 36 #[.slice (some ⟨w.heap.size, 0, none⟩) 0 0, .slice (some ⟨g, 0, none⟩) i c1]).run Try.prog (w.alloc (.cells #[] 26)) = .ok v1 wa ∧
      (Builtin.append_ #[36, 36] 36 #[v1, .slice (some ad) (l4.length - (i + 1)) c2]).run Try.prog wa = .ok v wb ∧ Us w2 wb v v5 b v0 T (l4.eraseIdx i) l5 := by
  obtain ⟨i0, hi0, hz0, hz1', hz2'⟩ := info_parts infoH
  obtain ⟨a, cap, rfl, hc⟩ := row_cells h.r4
  obtain ⟨g, rfl, _⟩ := hc i _ (hds_get hi)
  refine ⟨g, cap, rfl, row_cap h.r4, fun ad c1 c2 had => ?_⟩
  obtain ⟨v1, wa, v, wb, hr1, hr2, ho, hb⟩ := cut_runs 36 26 i0 _ 1 4 Try.underlying36 hi0 hz0 hz1' hz2' rfl (by decide) (by decide) h.r4 (hds_one _) i hi hn ad (by rw [Nat.mul_one]; exact had) c1 c2
  refine ⟨v1, wa, v, wb, hr1, hr2, ?_⟩
  have h2 := h.below hb
  refine ⟨h2.ht, ?_, h2.r5, h2.lt, h2.le, h2.v0⟩
  rw [Nat.mul_one, Nat.mul_one, hds_cut] at ho
  rw [List.length_eraseIdx_of_lt hi]
  exact ownsRow_low ho h.le
theorem Us.cut5 (h : Us w2 w v4 v5 b v0 T l4 l5) (i : Nat) (hi : i < l5.length) (hn : l5.length ≤ 300) : ∃ g cap, v5 = .slice (some ⟨g, 0, none⟩) l5.length cap ∧ l5.length ≤ cap ∧ ∀ (ad : Addr) (c1 c2 : Nat), (l5.length = i + 1 ∨ ad = ⟨g, (i + 1) * 3, none⟩) →
    ∃ v1 wa v wb, (Builtin.append_ #[58, 58] 58 #[.slice (some ⟨w.heap.size, 0, none⟩) 0 0, .slice (some ⟨g, 0, none⟩) i c1]).run Try.prog (w.alloc (.cells #[] 31)) = .ok v1 wa ∧
      (Builtin.append_ #[58, 58] 58 #[v1, .slice (some ad) (l5.length - (i + 1)) c2]).run Try.prog wa = .ok v wb ∧ Us w2 wb v4 v b v0 T l4 (l5.eraseIdx i) := by
  obtain ⟨i0, hi0, hz0, hz1', hz2'⟩ := info_parts infoO
  obtain ⟨g, cap, e⟩ : ∃ g cap, v5 = .slice (some ⟨g, 0, none⟩) l5.length cap := by
    rcases h.r5.2 with ⟨_, e2⟩ | ⟨g, cap, _, e1, _⟩
    · omega
    · exact ⟨g, cap, e1⟩
  subst e
  refine ⟨g, cap, rfl, row_cap h.r5, fun ad c1 c2 had => ?_⟩
  obtain ⟨v1, wa, v, wb, hr1, hr2, ho, hb⟩ := cut_runs 58 31 i0 _ 3 24 Try.underlying58 hi0 hz0 hz1' hz2' rfl (by decide) (by decide) h.r5 (obs_one _) i hi hn ad had c1 c2
  refine ⟨v1, wa, v, wb, hr1, hr2, ?_⟩
  have h2 := h.below hb
  refine ⟨h2.ht, h2.r4, ?_, h2.lt, h2.le, h2.v0⟩
  rw [obs_cut] at ho
  rw [List.length_eraseIdx_of_lt hi]
  exact ownsRow_low ho h.le
end
end Go.Proofs.Ytoahfeckadaomaa
