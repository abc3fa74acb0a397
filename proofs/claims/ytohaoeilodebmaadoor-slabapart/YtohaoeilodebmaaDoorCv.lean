/- Lists of blocks as read, and the contract of cover. -/
import Derived.Test.YtohaoeilodebmaaDoorAl
namespace Go.Proofs.YtohaoeilodebmaaDoor
open Go.RowKit Go.Maps

/-- The slice reads as these blocks, in memory from base on. -/
def Rd (w : World) (base : Nat) (a : Option Addr) (L : List (Nat × Nat)) : Prop :=
  L.length = 0 ∨ ∃ g, a = some ⟨g, 0, none⟩ ∧ base ≤ g ∧ g < w.heap.size ∧ ∀ (j p k : Nat), L[j]? = some (p, k) → w.cell? ⟨g, j * 2, none⟩ = some (.int .i64 ((p * 1024 : Nat) : Int)) ∧ w.cell? ⟨g, j * 2 + 1, none⟩ = some (.int .i64 (k : Int))
theorem rd_of {w : World} {base : Nat} {v : Value} {L : List (Nat × Nat)} (h : w.ownsRow base 44 2 v L.length (bcells L)) : ∃ a cap, v = .slice a L.length cap ∧ Rd w base a L := by
  rcases h.2 with ⟨rfl, h0⟩ | ⟨g, cap, cur, rfl, hb, hr, _, _, _, ht⟩
  · exact ⟨none, 0, by rw [h0], .inl h0⟩
  · refine ⟨_, _, rfl, .inr ⟨g, rfl, hb, (Array.getElem?_eq_some_iff.1 hr).1, fun j p k hj => ?_⟩⟩
    obtain ⟨hlt, he⟩ := List.getElem?_eq_some_iff.1 hj
    have key : ∀ t, t < L.length * 2 → w.cell? ⟨g, t, none⟩ = some (encB L[t / 2]!)[t % 2]! := fun t ht2 => by
      rw [cell_of_row w g t _ _ _ hr, ← bcells_get L t ht2, ← ht, List.getElem?_take_of_lt ht2, Array.getElem?_toList]
    have e0 := key (j * 2) (by omega)
    have e1 := key (j * 2 + 1) (by omega)
    rw [show j * 2 / 2 = j from by omega, show j * 2 % 2 = 0 from by omega, getElem!_pos L j hlt, he] at e0
    rw [show (j * 2 + 1) / 2 = j from by omega, show (j * 2 + 1) % 2 = 1 from by omega, getElem!_pos L j hlt, he] at e1
    exact ⟨e0, e1⟩
theorem Rd.block {w w' : World} {base : Nat} {a : Option Addr} {L : List (Nat × Nat)} (h : Rd w base a L) (hs : w.heap.size ≤ w'.heap.size) (hb : ∀ g, base ≤ g → g < w.heap.size → w'.heap[g]? = w.heap[g]?) : Rd w' base a L := by
  rcases h with h | ⟨g, rfl, h1, h2, h3⟩
  · exact .inl h
  · refine .inr ⟨g, rfl, h1, by omega, fun j p k hj => ?_⟩
    have e : ∀ o, w'.cell? ⟨g, o, none⟩ = w.cell? ⟨g, o, none⟩ := fun o => World.cell?_of_block (hb g h1 h2)
    rw [e, e]
    exact h3 j p k hj
theorem Rd.turn {S : Nat → Prop} {w w' : World} {base : Nat} {a : Option Addr} {L : List (Nat × Nat)} (h : Rd w base a L) (ht : Turn S w w') (hS : ∀ x, S x → x < base) : Rd w' base a L :=
  h.block ht.size fun g h1 h2 => ht.block g h2 fun hs => by have := hS g hs; omega
theorem Rd.below {w w' : World} {base : Nat} {a : Option Addr} {L : List (Nat × Nat)} (h : Rd w base a L) (hb : Below w.heap.size w w') : Rd w' base a L :=
  h.block hb.size fun g _ h2 => hb.block g h2
theorem Rd.at {w : World} {base : Nat} {a : Option Addr} {L : List (Nat × Nat)} (h : Rd w base a L) {j p k : Nat} (hj : L[j]? = some (p, k)) : ∃ g, a = some ⟨g, 0, none⟩ ∧ w.cell? ⟨g, j * 2, none⟩ = some (.int .i64 ((p * 1024 : Nat) : Int)) ∧ w.cell? ⟨g, j * 2 + 1, none⟩ = some (.int .i64 (k : Int)) := by
  rcases h with h | ⟨g, rfl, _, _, h3⟩
  · have := (List.getElem?_eq_some_iff.1 hj).1; omega
  · exact ⟨g, rfl, h3 j p k hj⟩

theorem shl_eq (k q : Nat) (hq : q = 2 ^ k) : (2 : Int) ^ k = (q : Int) := by rw [hq]; simp

end Go.Proofs.YtohaoeilodebmaaDoor
