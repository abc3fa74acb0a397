/- The document's allocator in memory; contracts of its New, Order and Left. -/
import Derived.Test.YtdmnemgooagehaaGreatDoorR3
namespace Go.Proofs.YtdmnemgooagehaaGreatDoor
open Go.RowKit Go.Maps

/-- The document's allocator at block r: its lists, in blocks that are among Z, as all are that aren't there yet. -/
structure RefM (w : World) (r : Nat) (Z : Nat → Prop) (K : Nat) (B : St) (vF vU : Value) (F U : List (Nat × Nat)) : Prop where
  head : w.heap[r]? = some (.cells #[.int .i64 (K : Int), vF, vU] 53)
  sF : Slc w 0 vF F
  sU : Slc w 0 vU U
  lF : Lst B .free F
  lU : Lst B .used U
  aF : F.length = 0 ∨ vF.ownBlock ≠ some r
  aU : U.length = 0 ∨ vU.ownBlock ≠ some r
  oF : F.length = 0 ∨ ∀ x, vF.ownBlock = some x → Z x
  oU : U.length = 0 ∨ ∀ x, vU.ownBlock = some x → Z x
  br : Z r
  new : ∀ x, w.heap.size ≤ x → Z x
  small : K ≤ 20

theorem Slc.keep {w w' : World} {base : Nat} {v : Value} {L : List (Nat × Nat)} (h : Slc w base v L) (hs : w.heap.size ≤ w'.heap.size) (ho : L.length = 0 ∨ ∀ x, v.ownBlock = some x → w'.heap[x]? = w.heap[x]?) : Slc w' base v L := by
  obtain ⟨a, cap, rfl, hr, h1⟩ := h
  refine ⟨a, cap, rfl, ?_, h1⟩
  rcases hr with h | ⟨g, rfl, hb, hg, hc⟩
  · exact .inl h
  · rcases ho with ho | ho
    · exact .inl ho
    refine .inr ⟨g, rfl, hb, by omega, fun j p k hj => ?_⟩
    have e : ∀ o, w'.cell? ⟨g, o, none⟩ = w.cell? ⟨g, o, none⟩ := fun o => World.cell?_of_block (ho g rfl)
    rw [e, e]
    exact hc j p k hj
theorem Slc.lt {w : World} {base : Nat} {v : Value} {L : List (Nat × Nat)} (h : Slc w base v L) : L.length = 0 ∨ ∀ x, v.ownBlock = some x → base ≤ x ∧ x < w.heap.size := by
  obtain ⟨a, cap, rfl, hr, _⟩ := h
  rcases hr with h | ⟨g, rfl, hb, hg, _⟩
  · exact .inl h
  · refine .inr (fun x e => ?_)
    have : g = x := by simpa [Value.ownBlock] using e
    omega
section
variable {w w' : World} {r K : Nat} {Z : Nat → Prop} {B : St} {vF vU : Value} {F U : List (Nat × Nat)}
theorem RefM.lr (h : RefM w r Z K B vF vU F U) : r < w.heap.size := (Array.getElem?_eq_some_iff.1 h.head).1
theorem RefM.cK (h : RefM w r Z K B vF vU F U) : w.cell? ⟨r, 0, none⟩ = some (.int .i64 (K : Int)) := by rw [cell_of_row w r 0 _ _ _ h.head]; rfl
theorem RefM.cF (h : RefM w r Z K B vF vU F U) : w.cell? ⟨r, 1, none⟩ = some vF := by rw [cell_of_row w r 1 _ _ _ h.head]; rfl
theorem RefM.cU (h : RefM w r Z K B vF vU F U) : w.cell? ⟨r, 2, none⟩ = some vU := by rw [cell_of_row w r 2 _ _ _ h.head]; rfl
/-- What belongs to it stays. -/
theorem RefM.other (h : RefM w r Z K B vF vU F U) (hs : w.heap.size ≤ w'.heap.size) (ho : ∀ x, x < w.heap.size → Z x → w'.heap[x]? = w.heap[x]?) : RefM w' r Z K B vF vU F U :=
  ⟨by rw [ho r h.lr h.br]; exact h.head, h.sF.keep hs (by rcases h.sF.lt with e | e; exact .inl e; exact h.oF.imp id fun f x hx => ho x (e x hx).2 (f x hx)), h.sU.keep hs (by rcases h.sU.lt with e | e; exact .inl e; exact h.oU.imp id fun f x hx => ho x (e x hx).2 (f x hx)), h.lF, h.lU, h.aF, h.aU, h.oF, h.oU, h.br, fun x hx => h.new x (Nat.le_trans hs hx), h.small⟩
theorem RefM.below (h : RefM w r Z K B vF vU F U) (hb : Below w.heap.size w w') : RefM w' r Z K B vF vU F U := h.other hb.size fun x hx _ => hb.block x hx
theorem RefM.turn {S : Nat → Prop} (h : RefM w r Z K B vF vU F U) (ht : Turn S w w') (hS : ∀ x, S x → ¬ Z x) : RefM w' r Z K B vF vU F U :=
  h.other ht.size fun x hx hb => ht.block x hx fun hs => hS x hs hb
/-- Among other blocks. -/
theorem RefM.re {Z' : Nat → Prop} (h : RefM w r Z K B vF vU F U) (hZ : ∀ x, x < w.heap.size → Z x → Z' x) (hn : ∀ x, w.heap.size ≤ x → Z' x) : RefM w r Z' K B vF vU F U :=
  ⟨h.head, h.sF, h.sU, h.lF, h.lU, h.aF, h.aU, by rcases h.sF.lt with e | e; exact .inl e; exact h.oF.imp id fun f x hx => hZ x (e x hx).2 (f x hx), by rcases h.sU.lt with e | e; exact .inl e; exact h.oU.imp id fun f x hx => hZ x (e x hx).2 (f x hx), hZ r h.lr h.br, hn, h.small⟩
theorem RefM.congr {B' : St} (h : RefM w r Z K B vF vU F U) (hf : ∀ k i, B k i = .free ↔ B' k i = .free) (hu : SameUsed B B') : RefM w r Z K B' vF vU F U :=
  ⟨h.head, h.sF, h.sU, ⟨h.lF.rise, fun p k => (h.lF.mem p k).trans (exists_congr fun i => and_congr_right fun _ => hf k i)⟩, ⟨h.lU.rise, fun p k => (h.lU.mem p k).trans (exists_congr fun i => and_congr_right fun _ => hu k i)⟩, h.aF, h.aU, h.oF, h.oU, h.br, h.new, h.small⟩
end

/-- A slice of blocks, opened. -/
theorem Slc.open {w : World} {base : Nat} {v : Value} {L : List (Nat × Nat)} (h : Slc w base v L) : ∃ a cap, v = .slice a L.length cap ∧ Rd w base a L := by
  obtain ⟨a, cap, e, hr, _⟩ := h
  exact ⟨a, cap, e, hr⟩

theorem take_snoc {L : List (Nat × Nat)} {i : Nat} {x : Nat × Nat} (h : L[i]? = some x) : L.take (i + 1) = L.take i ++ [x] := by
  obtain ⟨hl, e⟩ := List.getElem?_eq_some_iff.1 h
  rw [List.take_succ_eq_append_getElem hl, e]

end Go.Proofs.YtdmnemgooagehaaGreatDoor
