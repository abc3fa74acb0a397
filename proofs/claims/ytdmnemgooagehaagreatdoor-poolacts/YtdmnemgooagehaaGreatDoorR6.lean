/- The document's allocator: what put and cut answer, told as slices; Take of an order that may be. -/
import Derived.Test.YtdmnemgooagehaaGreatDoorR5
namespace Go.Proofs.YtdmnemgooagehaaGreatDoor
open Go.RowKit Go.Maps

def CutPost2 (L : List (Nat × Nat)) (i : Nat) (w : World) (e : Ending) (w' : World) : Prop := ∃ a cap, e = .returned (.slice a (L.eraseIdx i).length cap) ∧ Slc w' w.heap.size (.slice a (L.eraseIdx i).length cap) (L.eraseIdx i) ∧ Below w.heap.size w w'
theorem cut_sl (w : World) (L : List (Nat × Nat)) (b i : Nat) (v : Value) (hR : Slc w b v L) (hl : L.length ≤ 100000000) (hi : i < L.length) :
    Calls Tryz.prog 87 #[v, .int .i64 (i : Int)] w (CutPost2 L i w) := by
  refine (cut_any w L b i v hR hl hi).mono ?_
  rintro e w' ⟨v, rfl, hs, hb⟩
  obtain ⟨a, c, rfl, _⟩ := hs.open
  exact ⟨a, c, rfl, hs, hb⟩
def PutPost2 (L : List (Nat × Nat)) (p k : Nat) (w : World) (e : Ending) (w' : World) : Prop := ∃ a cap t, e = .returned (.slice a (L.length + 1) cap) ∧ Stops L p t ∧ Slc w' w.heap.size (.slice a (L.length + 1) cap) (L.take t ++ (p, k) :: L.drop t) ∧ Below w.heap.size w w'
theorem put_len {L : List (Nat × Nat)} {t : Nat} (x : Nat × Nat) (h : t ≤ L.length) : (L.take t ++ x :: L.drop t).length = L.length + 1 := by
  rw [List.length_append, List.length_cons, List.length_take, List.length_drop]; omega
theorem put_sl (w : World) (L : List (Nat × Nat)) (b p k : Nat) (v : Value) (hR : Slc w b v L) (hl : L.length ≤ 100000000) (hp : p ≤ 1048576) (hk : k ≤ 20) :
    Calls Tryz.prog 88 #[v, .agg #[.int .i64 ((p * 1024 : Nat) : Int), .int .i64 (k : Int)]] w (PutPost2 L p k w) := by
  refine (put_any w L b p k v hR hl hp hk).mono ?_
  rintro e w' ⟨v, t, rfl, hst, hs, hb⟩
  obtain ⟨a, c, rfl, _⟩ := hs.open
  rw [put_len _ hst.1] at hs ⊢
  exact ⟨a, c, t, rfl, hst, hs, hb⟩
theorem put_slz (w : World) (L : List (Nat × Nat)) (b p k : Nat) (v : Value) (z : Int) (hz : z = ((p * 1024 : Nat) : Int)) (hR : Slc w b v L) (hl : L.length ≤ 100000000) (hp : p ≤ 1048576) (hk : k ≤ 20) :
    Calls Tryz.prog 88 #[v, .agg #[.int .i64 z, .int .i64 (k : Int)]] w (PutPost2 L p k w) := by
  subst hz
  exact put_sl w L b p k v hR hl hp hk

section
variable {w w' : World} {r K : Nat} {Z : Nat → Prop} {B B' : St} {vF vU v : Value} {F U : List (Nat × Nat)} {t k n : Nat}
theorem RefM.putF (h : RefM w r Z K B vF vU F U) (hb : Below w.heap.size w w') (hs : Slc w' w.heap.size v (F.take t ++ (n * 2 ^ k, k) :: F.drop t)) (hst : Stops F (n * 2 ^ k) t) (hi : Inv K B')
    (hB : ∀ k' j, B' k' j = .free ↔ (B k' j = .free ∨ k' = k ∧ j = n)) (hn : B k n ≠ .free) (hu : SameUsed B B') : RefM (w'.setCell ⟨r, 1, none⟩ v) r Z K B' v vU (F.take t ++ (n * 2 ^ k, k) :: F.drop t) U := by
  obtain ⟨h1, h2⟩ := put_place h.lF hi (by simp) hB hn hst.2.1 hst.2.2
  exact h.setF hb hs (h.lF.insert h1 h2 hB) hu
theorem RefM.putU (h : RefM w r Z K B vF vU F U) (hb : Below w.heap.size w w') (hs : Slc w' w.heap.size v (U.take t ++ (n * 2 ^ k, k) :: U.drop t)) (hst : Stops U (n * 2 ^ k) t) (hi : Inv K B')
    (hB : ∀ k' j, B' k' j = .used ↔ (B k' j = .used ∨ k' = k ∧ j = n)) (hn : B k n ≠ .used) (hf : ∀ k i, B k i = .free ↔ B' k i = .free) : RefM (w'.setCell ⟨r, 2, none⟩ v) r Z K B' vF v F (U.take t ++ (n * 2 ^ k, k) :: U.drop t) := by
  obtain ⟨h1, h2⟩ := put_place h.lU hi (by simp) hB hn hst.2.1 hst.2.2
  exact h.setU hb hs hf (h.lU.insert h1 h2 hB)
end
end Go.Proofs.YtdmnemgooagehaaGreatDoor
