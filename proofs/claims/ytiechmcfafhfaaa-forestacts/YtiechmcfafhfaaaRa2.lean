/- The document's forest: Add, where it adds. -/
import Derived.Test.YtiechmcfafhfaaaRa1
namespace Go.Proofs.Ytiechmcfafhfaaa
open Go.RowKit Go.Maps Go.Shelf

section
variable {w w' : World} {r : Nat} {v : Value} {last last2 : Nat} {L : List Nd} {e : Nd}
/-- A new node's cells. -/
def NDo (last : Nat) (x a b : Int) : Obj := .cells #[.int .i64 ((last : Int) + 1), .int .i64 x, .int .i64 a, .int .i64 b] 53
def newNd (last : Nat) (x a b : Int) : Nd := ⟨last + 1, x.toNat, a, b⟩
theorem or_new (w : World) {x : Int} (hx : 0 ≤ x) (last : Nat) (a b : Int) : OR (w.alloc (.cells #[.int .i64 ((last : Int) + 1), .int .i64 x, .int .i64 a, .int .i64 b] 53)) w.heap.size 4 (.slice (some ⟨w.heap.size, 0, none⟩) 1 1) 1 (rflat [newNd last x a b]) := by
  have := or_node w (newNd last x a b)
  have e1 : (((newNd last x a b).id : Nat) : Int) = (last : Int) + 1 := by show ((last + 1 : Nat) : Int) = _; omega
  have e2 : (((newNd last x a b).par : Nat) : Int) = x := by show ((x.toNat : Nat) : Int) = _; omega
  rw [e1, e2] at this
  exact this
theorem World.size_alloc' (W : World) (o : Obj) : (W.alloc o).heap.size = W.heap.size + 1 := by simp
theorem radd_end {W w3 : World} {a4 : Option Addr} {n4 cap4 : Nat} {x a b : Int} (hW : Rf W r v (last + 1) L) (ht : Tr (ROwn r v) (ROwn r v) w W) (hb : Below W.heap.size W w3) (ho : OR w3 W.heap.size 4 (.slice a4 n4 cap4) n4 (rflat (L ++ [newNd last x a b]))) (hn : n4 = L.length + 1) (hE : addE L x a b = 0) :
    (w3.setCell ⟨r, 0, none⟩ (.slice a4 n4 cap4)).cell? ⟨r, 1, none⟩ = some (.int .i64 ((last : Int) + 1)) ∧ Hid (RAdd w r v last L x a b (.returned (.tuple #[.int .i64 ((last : Int) + 1), .int .i64 0])) (w3.setCell ⟨r, 0, none⟩ (.slice a4 n4 cap4))) := by
  have hr := lt_of hW.hd
  obtain ⟨k1, k2⟩ := Rf.put (R := L ++ [newNd last x a b]) hW (Turn.of_below hb) (by rw [List.length_append, List.length_singleton, ← hn]; exact OR.base ho (by omega)) (fun k e => .inr (by have := (ho.own k e).1; omega))
  have e1 : ((last + 1 : Nat) : Int) = (last : Int) + 1 := by omega
  have c1 := k1.c1
  rw [e1] at c1
  refine ⟨c1, hid ?_⟩
  unfold RAdd addI addN addL
  rw [hE, if_pos rfl, if_pos rfl, if_pos rfl]
  exact ⟨rfl, _, k1, ht.trans k2⟩
/-- What is read of the document's forest while Add is under way. -/
structure Rx (wx : World) (r : Nat) (s : Option Addr) (n cap : Nat) (last : Nat) (L : List Nd) (bx : Nat) (a b : Int) : Prop where
  row : OR wx (r + 1) 4 (.slice s n cap) n (rflat L)
  c0 : wx.cell? ⟨r, 0, none⟩ = some (.slice s n cap)
  f0 : wx.frozen? ⟨r, 0, none⟩ = false
  c1 : wx.cell? ⟨r, 1, none⟩ = some (.int .i64 ((last : Int) + 1))
  x0 : wx.cell? ⟨bx, 0, none⟩ = some (.int .i64 a)
  x1 : wx.cell? ⟨bx, 1, none⟩ = some (.int .i64 b)
theorem rx_of {W : World} {s : Option Addr} {cap bx : Nat} {a b : Int} (h : Rf W r (.slice s L.length cap) (last + 1) L) (hx : W.heap[bx]? = some (.cells #[.int .i64 a, .int .i64 b] 44)) : Hid (∀ wx, Below W.heap.size W wx → Rx wx r s L.length cap last L bx a b) := hid (fun wx hb => by
  have e1 : ((last + 1 : Nat) : Int) = (last : Int) + 1 := by omega
  have h2 := h.below hb (Nat.le_refl _)
  have c1 := h2.c1
  rw [e1] at c1
  have hx2 := (hb.block bx (lt_of hx)).trans hx
  exact ⟨h2.row, h2.c0, frozen_of_row wx r 0 _ _ h2.hd, c1, by rw [cell_of_row _ _ _ _ _ _ hx2]; rfl, by rw [cell_of_row _ _ _ _ _ _ hx2]; rfl⟩)
end
end Go.Proofs.Ytiechmcfafhfaaa
