/- PoolActs: what the walk wants besides. -/
import Derived.Test.YtdmnemgooagehaaGreatDoorO8
namespace Go.Proofs.YtdmnemgooagehaaGreatDoor
open Go.RowKit Go.Maps

section
variable {w0 w w' : World} {H : Nat → Prop} {P : Pp} {R : Rw} {v v1 : Pv}
theorem Pa.arena (h : Pa w0 w H P R v) : Calls Tryz.prog 33 #[.pointer (some ⟨P.pb, 0, none⟩)] w fun e w' => e = .returned (.pointer (some ⟨P.ab, 0, none⟩)) ∧ w' = w := by
  obtain ⟨G, tg, rg, cap, vF, vB, F, Ub, vS, vU, hC, h1, h2⟩ := h
  exact h1.arena
theorem Pa.quota (h : Pa w0 w H P R v) : Calls Tryz.prog 34 #[.pointer (some ⟨P.pb, 0, none⟩)] w fun e w' => e = .returned (.pointer (some ⟨P.tb, 0, none⟩)) ∧ w' = w := by
  obtain ⟨G, tg, rg, cap, vF, vB, F, Ub, vS, vU, hC, h1, h2⟩ := h
  exact h1.quota
theorem Pa.pcost (h : Pa w0 w H P R v) (c : Int) : Calls Tryz.prog 41 #[.int .i64 c] w fun e w' => e = .returned (.int .i64 (costI c)) ∧ w' = w := by
  obtain ⟨G, tg, rg, cap, vF, vB, F, Ub, vS, vU, hC, h1, h2⟩ := h
  exact h1.cost c
theorem Pa.load (h : Pa w0 w H P R v) (a : Nat) (ha : a + 8 ≤ v.m.length) (h8 : a % 8 = 0) : Calls Tryz.prog 39 #[.pointer (some ⟨P.ab, 0, none⟩), .int .i64 (a : Int)] w fun e w' => e = .returned (.tuple #[.int .u64 (Ar.wordAt v.m a), .int .i64 0]) ∧ Below w.heap.size w w' := by
  obtain ⟨G, tg, rg, cap, vF, vB, F, Ub, vS, vU, hC, h1, h2⟩ := h
  exact h1.load a ha h8
theorem Pa.fill (h : Pa w0 w H P R v) (a n : Nat) (c : Int) (hx : a + n ≤ v.m.length) (h0 : 0 ≤ c) (h1 : c ≤ 255) : Calls Tryz.prog 40 #[.pointer (some ⟨P.ab, 0, none⟩), .int .i64 (a : Int), .int .i64 (n : Int), .int .u8 c] w fun e w' => e = .returned (.int .i64 0) ∧ Pa w0 w' H P R { v with m := Ar.putAt v.m a (List.replicate n c) } ∧ ∀ x, H x → w'.heap[x]? = w.heap[x]? := by
  obtain ⟨G, tg, rg, cap, vF, vB, F, Ub, vS, vU, hC, h1', h2⟩ := h
  refine (h1'.fill2 a n c hx h0 h1).mono ?_
  rintro e w' ⟨hk, rfl, hp⟩
  exact ⟨rfl, ⟨G, tg, rg, cap, vF, vB, F, Ub, vS, vU, hC, hp, h2.keep hk.1 (fun x hx => hk.2 x (.inl hx))⟩, fun x hx => hk.2 x (.inr hx)⟩
theorem Pa.rq (h : Pa w0 w H P R v) : w.cell? ⟨R.rp, 2, none⟩ = some (.pointer (some ⟨R.rq, 0, none⟩)) := by
  obtain ⟨G, tg, rg, cap, vF, vB, F, Ub, vS, vU, hC, h1, h2⟩ := h
  exact h2.c2
theorem PaM.rq (h : PaM w0 w H P R v v1) : w.cell? ⟨R.rp, 2, none⟩ = some (.pointer (some ⟨R.rq, 0, none⟩)) := by
  obtain ⟨G, tg, rg, cap, vF, vB, F, Ub, vS, vU, hC, h1, h2, _⟩ := h
  exact h2.c2
theorem PaM.below (h : PaM w0 w H P R v v1) (hb : Below w.heap.size w w') : PaM w0 w' H P R v v1 := by
  obtain ⟨G, tg, rg, cap, vF, vB, F, Ub, vS, vU, hC, h1, h2, h3⟩ := h
  refine ⟨G, tg, rg, cap, vF, vB, F, Ub, vS, vU, hC, h1.below hb, h2.below (fun x hx => ?_) hb, h3⟩
  obtain ⟨tag, _, _, _, h4⟩ := h1
  exact (h4 x (.inl hx)).1
end
/-- The act, in the law's own block. -/
def ActA (w : World) (kb : Nat) (kd f c n : Int) : Prop := w.heap[kb]? = some (.cells #[.int .i64 kd, .int .i64 f, .int .i64 c, .int .i64 n] 70)
section
variable {w w' : World} {kb : Nat} {kd f c n : Int}
theorem ActA.c0 (h : ActA w kb kd f c n) : w.cell? ⟨kb, 0, none⟩ = some (.int .i64 kd) := by rw [cell_of_row w kb 0 _ _ _ h]; rfl
theorem ActA.c1 (h : ActA w kb kd f c n) : w.cell? ⟨kb, 1, none⟩ = some (.int .i64 f) := by rw [cell_of_row w kb 1 _ _ _ h]; rfl
theorem ActA.c2 (h : ActA w kb kd f c n) : w.cell? ⟨kb, 2, none⟩ = some (.int .i64 c) := by rw [cell_of_row w kb 2 _ _ _ h]; rfl
theorem ActA.c3 (h : ActA w kb kd f c n) : w.cell? ⟨kb, 3, none⟩ = some (.int .i64 n) := by rw [cell_of_row w kb 3 _ _ _ h]; rfl
theorem ActA.lt (h : ActA w kb kd f c n) : kb < w.heap.size := lt_of h
theorem ActA.keep (h : ActA w kb kd f c n) (hk : w'.heap[kb]? = w.heap[kb]?) : ActA w' kb kd f c n := hk.trans h
theorem ActA.below (h : ActA w kb kd f c n) (hb : Below w.heap.size w w') : ActA w' kb kd f c n := (hb.block kb h.lt).trans h
end
end Go.Proofs.YtdmnemgooagehaaGreatDoor
