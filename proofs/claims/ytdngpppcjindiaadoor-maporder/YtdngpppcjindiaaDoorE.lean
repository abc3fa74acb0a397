/- The function alive, by which every law begins. -/
import Derived.Test.YtdngpppcjindiaaDoorD
namespace Go.Proofs.YtdngpppcjindiaaDoor
open Go.RowKit

theorem Tab.pos {w : World} (h : Tab w) : 0 < w.heap.size := block_lt_of_cell (h 0 (by omega))
theorem Tab.below {w w' : World} {B : Nat} (h : Tab w) (hb : Below B w w') (h0 : 0 < B) : Tab w' := fun j hj => (hb.cell (p := ⟨0, j, none⟩) h0).trans (h j hj)
theorem Tab.same {w w' : World} (h : Tab w) (e : w'.heap = w.heap) : Tab w' := fun j hj => by
  rw [World.cell?_of_block (w := w) (by rw [e])]; exact h j hj

theorem Tab.drewN {w : World} (h : Tab w) (k : Nat) : Tab (w.drewN k) := h.same rfl
theorem Bits.drewN {w : World} {b g n : Nat} {ws : List Nat} (h : Bits w b g n ws) (k : Nat) : Bits (w.drewN k) b g n ws := h.same rfl

theorem set4 : setAll 10 true (List.replicate ((10 + 63) / 64) 0) [3, 3, 9, 10] = ([520], 2) := by decide +kernel
theorem count520 : count [520] = 2 := by decide +kernel
theorem bits520 : ∀ k : Fin 10, bit [520] k.val = (k.val == 3 || k.val == 9) := by decide +kernel
theorem first4 {r : Int} (h : FirstSo true [520] 4 10 r) : r = 9 := by
  rcases h with ⟨_, h⟩ | ⟨k, rfl, h1, h2, h3, _⟩
  · exact absurd (bits520 ⟨9, by omega⟩) (h 9 (by omega) (by omega))
  · have := bits520 ⟨k, h2⟩
    rw [h3] at this
    simp at this
    omega
theorem first10 {r : Int} (h : FirstSo true [520] 10 10 r) : r = -1 := by
  rcases h with ⟨h, _⟩ | ⟨k, rfl, h1, h2, _⟩
  · exact h
  · omega

set_option maxHeartbeats 1000000 in
theorem alive_true (w : World) (hT : Tab w) : Calls Tryd.prog 6 #[] w fun e w' => e = .returned (.bool true) ∧ Below w.heap.size w w' := by
  have HT := hid hT
  have hpos := hT.pos
  clear hT
  go_enter Tryd.func6, Tryd.ntmps6
  go_wp2_with fail
  refine (new_ok 10 _ (by omega)).mono ?_
  rintro e w1 ⟨b, g, rfl, hB1, hb1, hlb, hlg⟩
  have HB1 := hid hB1
  clear hB1
  go_wp2_with fail
  have hB2 := HB1.out.below ((Below.refl _ _).alloc (Nat.le_refl _) (.cells #[.int .i64 3, .int .i64 3, .int .i64 9, .int .i64 10] 3))
  have hgl := HB1.out.lt.2
  refine (set_any b g 10 _ true [3, 3, 9, 10] _ 4 _ hB2 (.inr ⟨w1.heap.size, 0, rfl, by omega, by simp, by
    intro j hj
    rw [cell_of_row _ _ _ _ _ _ (heap_alloc_new _ _), Nat.zero_add]
    match j, hj with
    | 0, _ | 1, _ | 2, _ | 3, _ => rfl⟩) (by simp)).mono ?_
  rintro e w2 ⟨rfl, hB, hb2⟩
  rw [set4] at hB ⊢
  have hX : Below w.heap.size w w2 := Below.of_but (hb1.alloc hb1.size _) (by have := hb1.size; simp; omega) hb2 hlg
  have HB := hid hB
  have HT2 := hid (HT.out.below hX hpos)
  clear hB hB2 HB1 hb1 hb2 hgl hlb hlg
  go_wp2_with fail
  refine (first_any b g 10 [520] true 4 _ HB.out HT2.out (by omega)).mono ?_
  rintro e w3 ⟨r, rfl, hr, rfl⟩
  obtain rfl := first4 hr
  clear hr
  go_wp2_with fail
  refine (get_in b g 10 [520] 3 _ HB.out (by omega)).mono ?_
  rintro e w4 ⟨rfl, k1, rfl⟩
  rw [show bit [520] 3 = true from bits520 ⟨3, by omega⟩]
  go_wp2_with fail
  refine (get_in b g 10 [520] 4 _ (HB.out.drewN _) (by omega)).mono ?_
  rintro e w5 ⟨rfl, k2, rfl⟩
  rw [show bit [520] 4 = false from bits520 ⟨4, by omega⟩]
  go_wp2_with fail
  refine (count_any b g 10 [520] _ (HB.out.drewN _)).mono ?_
  rintro e w6 ⟨rfl, rfl⟩
  rw [count520]
  go_wp2_with fail
  refine (len_cell b 10 _ (HB.out.drewN _).c0).mono ?_
  rintro e w7 ⟨rfl, rfl⟩
  go_wp2_with fail
  refine (run_true b g 10 [520] false 4 5 _ (HB.out.drewN _) (HT2.out.drewN _) (by omega) (by
    intro j h1 h2
    rw [bits520 ⟨j, by omega⟩]
    simp; omega)).mono ?_
  rintro e w8 ⟨rfl, rfl⟩
  go_wp2_with fail
  refine (run_false b g 10 [520] false 4 6 9 _ (HB.out.drewN _) (HT2.out.drewN _) (by omega) (by omega) (by omega) (by rw [show bit [520] 9 = true from bits520 ⟨9, by omega⟩]; simp)).mono ?_
  rintro e w9 ⟨rfl, rfl⟩
  go_wp2_with fail
  refine (first_any b g 10 [520] true 10 _ (HB.out.drewN _) (HT2.out.drewN _) (by omega)).mono ?_
  rintro e w10 ⟨r, rfl, hr, rfl⟩
  obtain rfl := first10 hr
  clear hr
  go_wp2_with fail
  refine (new_no _).mono ?_
  rintro e w11 ⟨rfl, rfl⟩
  go_wp2_with fail
  go_ret
  exact ⟨rfl, Below.drewN hX _⟩
end Go.Proofs.YtdngpppcjindiaaDoor
