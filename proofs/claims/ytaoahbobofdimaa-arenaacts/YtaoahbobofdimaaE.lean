/- The function alive, by which every law begins. -/
import Derived.Test.YtaoahbobofdimaaD
namespace Go.Proofs.Ytaoahbobofdimaa
open Go.RowKit

theorem pow64k : (bits .and .i64 65536 (65536 - 1) == 0) = true := by decide +kernel
theorem new_64k (w : World) :
    Calls Try.prog 10 #[.int .i64 65536] w fun e w' => ∃ b g, e = .returned (.pointer (some ⟨b, 0, none⟩)) ∧ Arena w' b g (zeros 65536) ∧ Below w.heap.size w w' ∧ w.heap.size ≤ b ∧ w.heap.size ≤ g :=
  new_ok 65536 w (by omega) (by omega) pow64k

def m1 : List Int := putAt (zeros 65536) 8 (wordsBytes [258, 7])
theorem m1_length : m1.length = 65536 := by
  unfold m1; rw [putAt_length _ _ _ (by rw [wordsBytes_length, zeros_length]; simp), zeros_length]
theorem m1_get (i : Nat) (h : i < 16) : m1[8 + i]? = (wordsBytes [258, 7])[i]? := by
  unfold m1
  rw [putAt_get _ _ _ (by rw [wordsBytes_length, zeros_length]; simp), if_neg (by omega), if_pos (by rw [wordsBytes_length]; simp; omega)]
  congr 1; omega
theorem m1_word : wordAt m1 16 = 7 := by
  unfold wordAt
  rw [m1_get 8 (by omega), m1_get 9 (by omega), m1_get 10 (by omega), m1_get 11 (by omega), m1_get 12 (by omega), m1_get 13 (by omega), m1_get 14 (by omega), m1_get 15 (by omega)]
  decide +kernel
theorem m1_cut : (m1.drop 8).take 3 = [2, 1, 0] := by
  apply List.ext_getElem?
  intro i
  rw [List.getElem?_take]
  by_cases h : i < 3
  · rw [if_pos h, List.getElem?_drop, m1_get i (by omega)]
    match i, h with
    | 0, _ | 1, _ | 2, _ => decide +kernel
  · rw [if_neg h, List.getElem?_eq_none (by simp; omega)]

theorem words2 : Word [258, 7] := by
  intro j
  match j with
  | 0 | 1 => simp
  | (n + 2) => simp
theorem byte9 : Byte [9] := by
  intro j
  match j with
  | 0 => simp
  | (n + 1) => simp

set_option maxHeartbeats 1000000 in
theorem alive_true (w : World) : Calls Try.prog 8 #[] w fun e w' => e = .returned (.bool true) ∧ Below w.heap.size w w' := by
  go_enter Try.func8, Try.ntmps8
  go_wp2_with fail
  refine (new_64k _).mono ?_
  rintro e w1 ⟨b, g, rfl, hA1, hb1, hlb, hlg⟩
  go_wp2_with fail
  have hA2 := hA1.below ((Below.refl _ _).alloc (Nat.le_refl _) (.cells #[.int .u64 258, .int .u64 7] 28))
  have hgl := hA1.lt.2
  have hbl := hA1.lt.1
  refine (store_ok b g _ [258, 7] 8 w1.heap.size 0 2 _ hA2 (by omega) (by rw [zeros_length]; simp) (by omega) (by simp) (by omega) (by
    intro j hj
    rw [cell_of_row _ _ _ _ _ _ (heap_alloc_new _ _), Nat.zero_add]
    match j, hj with
    | 0, _ | 1, _ => rfl) words2).mono ?_
  rintro e w2 ⟨rfl, hA, hb2⟩
  change Arena w2 b g m1 at hA
  have hB2 : Below w.heap.size w w2 := Below.of_but (hb1.alloc hb1.size _) (by have := hb1.size; simp; omega) hb2 hlg
  clear hA1 hA2 hb1 hb2 hgl hbl
  have hs2 := hB2.size
  go_wp2_with fail
  refine (load_ok b g m1 16 _ hA (by omega) (by rw [m1_length]; omega) (by omega)).mono ?_
  rintro e w3 ⟨rfl, hb3⟩
  rw [show (16 : Int).toNat = 16 from rfl, m1_word]
  have hA3 := hA.below hb3
  have hB3 := Below.of_below hB2 hB2.size hb3
  clear hA hb3 hs2 hB2
  go_wp2_with fail
  refine (read_ok b g m1 8 3 _ hA3 (by omega) (by omega) (by rw [m1_length]; omega)).mono ?_
  rintro e w4 ⟨rfl, hr4, hb4, hs4⟩
  rw [show (8 : Int).toNat = 8 from rfl, show (3 : Int).toNat = 3 from rfl, m1_cut] at hr4
  rw [show (3 : Int).toNat = 3 from rfl]
  have HR4 := hid hr4
  have hA4 := hA3.below hb4
  have hB4 := Below.of_below hB3 hB3.size hb4
  have hs3 := hB3.size
  clear hA3 hB3 hb4 hr4
  go_wp2_with fail
  refine (load_er b g m1.length 12 _ hA4.small (by omega) 3 (by decide) hA4.cell (by rw [m1_length]; decide)).mono ?_
  rintro e w4' ⟨rfl, rfl⟩
  go_wp2_with fail
  refine (size_cell b g m1.length _ hA4.cell).mono ?_
  rintro e w4'' ⟨rfl, rfl⟩
  rw [m1_length]
  go_wp2_with fail
  have hA5 := hA4.below ((Below.refl _ _).alloc (Nat.le_refl _) (.cells #[.int .u8 2, .int .u8 1, .int .u8 0] 5))
  have hB5 := hB4.alloc hB4.size (.cells #[.int .u8 2, .int .u8 1, .int .u8 0] 5)
  refine (same_true [2, 1, 0] w3.heap.size 0 3 (w3.heap.size + 1) 0 3 _ (by simp) (by simp; omega) (by simp; omega) (by
    intro j hj
    rw [cell_of_row _ _ _ _ _ _ ((Below.heap_alloc _ _ _ (by omega)).trans HR4.out), Nat.zero_add]
    match j, hj with
    | 0, _ | 1, _ | 2, _ => rfl) (by
    intro j hj
    rw [← hs4, cell_of_row _ _ _ _ _ _ (heap_alloc_new _ _), Nat.zero_add]
    match j, hj with
    | 0, _ | 1, _ | 2, _ => rfl)).mono ?_
  rintro e w5 ⟨rfl, hb5⟩
  have hA6 := hA5.below hb5
  have hB6 := Below.of_below hB5 hB5.size hb5
  clear hA4 hB4 hA5 hB5 HR4 hs4 hs3 hb5
  go_wp2_with fail
  have hA7 := hA6.below ((Below.refl _ _).alloc (Nat.le_refl _) (.cells #[.int .u64 1] 28))
  have hB7 := hB6.alloc hB6.size (.cells #[.int .u64 1] 28)
  refine (store_er b g m1.length 65536 _ 1 1 _ hA7.small (by omega) (by omega) 2 (by decide) hA7.cell (by rw [m1_length]; decide)).mono ?_
  rintro e w7 ⟨rfl, rfl⟩
  clear hA6 hB6
  go_wp2_with fail
  have hA8 := hA7.below ((Below.refl _ _).alloc (Nat.le_refl _) (.cells #[.int .u8 9] 5))
  have hB8 := hB7.alloc hB7.size (.cells #[.int .u8 9] 5)
  refine (write_ok b g m1 [9] 3 (w5.heap.size + 1) 0 1 _ hA8 (by omega) (by rw [m1_length]; simp) (by
    intro j hj
    rw [cell_of_row _ _ _ _ _ _ (heap_alloc2_new _ _ _), Nat.zero_add]
    match j, hj with
    | 0, _ => rfl) byte9).mono ?_
  rintro e w9 ⟨rfl, hA9, hb9⟩
  have hB9 := Below.of_but hB8 hB8.size hb9 hlg
  have hl9 : (putAt m1 (Int.toNat 3) [9]).length = 65536 := by rw [putAt_length _ _ _ (by rw [m1_length]; simp), m1_length]
  clear hA7 hB7 hA8 hB8 hb9
  go_wp2_with fail
  refine (fill_er b g (putAt m1 (Int.toNat 3) [9]).length 0 65537 1 _ hA9.small (by omega) hA9.cell (by rw [hl9]; decide)).mono ?_
  rintro e w10 ⟨rfl, rfl⟩
  clear hl9 hA9
  go_wp2_with fail
  refine (new_no 5 _ (by omega)).mono ?_
  rintro e w11 ⟨rfl, rfl⟩
  go_wp2_with fail
  go_ret
  exact ⟨rfl, hB9⟩
end Go.Proofs.Ytaoahbobofdimaa
