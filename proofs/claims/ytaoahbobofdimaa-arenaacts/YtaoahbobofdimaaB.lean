/- Contracts of joinBytes, splitWord, checkWords and Read: what each call answers and what it does to memory. -/
import Derived.Test.YtaoahbobofdimaaA
namespace Go.Proofs.Ytaoahbobofdimaa
open Go.RowKit

theorem wraps_u64 (n : Int) (h₀ : 0 ≤ n) (h₁ : n < 2 ^ 64) : IntKind.u64.wrap n = n := by rw [IntKind.wrap_u64]; omega
theorem bits_or_comm (k : IntKind) (x y : Int) : bits .or k x y = bits .or k y x := by
  simp only [bits]; rw [BitVec.or_comm]
theorem or_join (i : Nat) (x y : Int) (hx : 0 ≤ x) (hxi : x < 2 ^ i) (hy : 0 ≤ y) (hyi : y % 2 ^ i = 0) (hy64 : y < 2 ^ 64) (hx64 : x < 2 ^ 64) : bits .or .u64 x y = x + y := by
  rw [bits_or_comm, bits_join .u64 64 (by decide) wraps_u64 i y x hy hyi hy64 hx hxi hx64]; omega
theorem or_0 (x : Int) (h : 0 ≤ x) (h' : x < 2 ^ 64) : bits .or .u64 0 x = x := by
  rw [or_join 0 0 x (by omega) (by omega) h (by omega) h' (by omega)]; omega

def word8 (b0 b1 b2 b3 b4 b5 b6 b7 : Int) : Int := b0 + b1 * 256 + b2 * 65536 + b3 * 16777216 + b4 * 4294967296 + b5 * 1099511627776 + b6 * 281474976710656 + b7 * 72057594037927936

theorem join_math (b0 b1 b2 b3 b4 b5 b6 b7 : Int) (h0 : 0 ≤ b0) (h0' : b0 ≤ 255) (h1 : 0 ≤ b1) (h1' : b1 ≤ 255) (h2 : 0 ≤ b2) (h2' : b2 ≤ 255) (h3 : 0 ≤ b3) (h3' : b3 ≤ 255)
    (h4 : 0 ≤ b4) (h4' : b4 ≤ 255) (h5 : 0 ≤ b5) (h5' : b5 ≤ 255) (h6 : 0 ≤ b6) (h6' : b6 ≤ 255) (h7 : 0 ≤ b7) (h7' : b7 ≤ 255) :
    bits .or .u64 (bits .or .u64 (bits .or .u64 (bits .or .u64 (bits .or .u64 (bits .or .u64 (bits .or .u64 (bits .or .u64 0 b0) (b1 * 256)) (b2 * 65536)) (b3 * 16777216)) (b4 * 4294967296)) (b5 * 1099511627776)) (b6 * 281474976710656)) (b7 * 72057594037927936) = word8 b0 b1 b2 b3 b4 b5 b6 b7 := by
  rw [or_0 b0 h0 (by omega), or_join 8 b0 (b1 * 256) (by omega) (by omega) (by omega) (by omega) (by omega) (by omega),
    or_join 16 _ (b2 * 65536) (by omega) (by omega) (by omega) (by omega) (by omega) (by omega),
    or_join 24 _ (b3 * 16777216) (by omega) (by omega) (by omega) (by omega) (by omega) (by omega),
    or_join 32 _ (b4 * 4294967296) (by omega) (by omega) (by omega) (by omega) (by omega) (by omega),
    or_join 40 _ (b5 * 1099511627776) (by omega) (by omega) (by omega) (by omega) (by omega) (by omega),
    or_join 48 _ (b6 * 281474976710656) (by omega) (by omega) (by omega) (by omega) (by omega) (by omega),
    or_join 56 _ (b7 * 72057594037927936) (by omega) (by omega) (by omega) (by omega) (by omega) (by omega)]
  rfl

def bytes8 (b0 b1 b2 b3 b4 b5 b6 b7 : Int) : Array Value := #[.int .u8 b0, .int .u8 b1, .int .u8 b2, .int .u8 b3, .int .u8 b4, .int .u8 b5, .int .u8 b6, .int .u8 b7]

set_option maxHeartbeats 1000000 in
theorem join_any (b0 b1 b2 b3 b4 b5 b6 b7 : Int) (w : World) (h0 : 0 ≤ b0) (h0' : b0 ≤ 255) (h1 : 0 ≤ b1) (h1' : b1 ≤ 255) (h2 : 0 ≤ b2) (h2' : b2 ≤ 255) (h3 : 0 ≤ b3) (h3' : b3 ≤ 255)
    (h4 : 0 ≤ b4) (h4' : b4 ≤ 255) (h5 : 0 ≤ b5) (h5' : b5 ≤ 255) (h6 : 0 ≤ b6) (h6' : b6 ≤ 255) (h7 : 0 ≤ b7) (h7' : b7 ≤ 255) :
    Calls Try.prog 27 #[.agg #[.int .u8 b0, .int .u8 b1, .int .u8 b2, .int .u8 b3, .int .u8 b4, .int .u8 b5, .int .u8 b6, .int .u8 b7]] w fun e w' =>
      e = .returned (.int .u64 (word8 b0 b1 b2 b3 b4 b5 b6 b7)) ∧ w' = w.alloc (.cells #[.int .u8 b0, .int .u8 b1, .int .u8 b2, .int .u8 b3, .int .u8 b4, .int .u8 b5, .int .u8 b6, .int .u8 b7] 61) := by
  have i0 : ∀ w, (Instr.index 61 (.agg #[.int .u8 b0, .int .u8 b1, .int .u8 b2, .int .u8 b3, .int .u8 b4, .int .u8 b5, .int .u8 b6, .int .u8 b7]) (.int .i64 0)).run Try.prog w = .ok (.int .u8 b0) w := fun _ => by kernel_rfl
  have i1 : ∀ w, (Instr.index 61 (.agg #[.int .u8 b0, .int .u8 b1, .int .u8 b2, .int .u8 b3, .int .u8 b4, .int .u8 b5, .int .u8 b6, .int .u8 b7]) (.int .i64 1)).run Try.prog w = .ok (.int .u8 b1) w := fun _ => by kernel_rfl
  have i2 : ∀ w, (Instr.index 61 (.agg #[.int .u8 b0, .int .u8 b1, .int .u8 b2, .int .u8 b3, .int .u8 b4, .int .u8 b5, .int .u8 b6, .int .u8 b7]) (.int .i64 2)).run Try.prog w = .ok (.int .u8 b2) w := fun _ => by kernel_rfl
  have i3 : ∀ w, (Instr.index 61 (.agg #[.int .u8 b0, .int .u8 b1, .int .u8 b2, .int .u8 b3, .int .u8 b4, .int .u8 b5, .int .u8 b6, .int .u8 b7]) (.int .i64 3)).run Try.prog w = .ok (.int .u8 b3) w := fun _ => by kernel_rfl
  have i4 : ∀ w, (Instr.index 61 (.agg #[.int .u8 b0, .int .u8 b1, .int .u8 b2, .int .u8 b3, .int .u8 b4, .int .u8 b5, .int .u8 b6, .int .u8 b7]) (.int .i64 4)).run Try.prog w = .ok (.int .u8 b4) w := fun _ => by kernel_rfl
  have i5 : ∀ w, (Instr.index 61 (.agg #[.int .u8 b0, .int .u8 b1, .int .u8 b2, .int .u8 b3, .int .u8 b4, .int .u8 b5, .int .u8 b6, .int .u8 b7]) (.int .i64 5)).run Try.prog w = .ok (.int .u8 b5) w := fun _ => by kernel_rfl
  have i6 : ∀ w, (Instr.index 61 (.agg #[.int .u8 b0, .int .u8 b1, .int .u8 b2, .int .u8 b3, .int .u8 b4, .int .u8 b5, .int .u8 b6, .int .u8 b7]) (.int .i64 6)).run Try.prog w = .ok (.int .u8 b6) w := fun _ => by kernel_rfl
  have i7 : ∀ w, (Instr.index 61 (.agg #[.int .u8 b0, .int .u8 b1, .int .u8 b2, .int .u8 b3, .int .u8 b4, .int .u8 b5, .int .u8 b6, .int .u8 b7]) (.int .i64 7)).run Try.prog w = .ok (.int .u8 b7) w := fun _ => by kernel_rfl
  go_enter Try.func27, Try.ntmps27
  go_wp2
  refine wp_loop_rounds 9 ?_
  rw [rounds_succ]; go_wp2
  rw [rounds_succ]; go_wp2
  rw [rounds_succ]; go_wp2
  rw [rounds_succ]; go_wp2
  rw [rounds_succ]; go_wp2
  rw [rounds_succ]; go_wp2
  rw [rounds_succ]; go_wp2
  rw [rounds_succ]; go_wp2
  rw [rounds_succ]; go_wp2
  go_ret
  exact ⟨ret_int (join_math b0 b1 b2 b3 b4 b5 b6 b7 h0 h0' h1 h1' h2 h2' h3 h3' h4 h4' h5 h5' h6 h6' h7 h7'), rfl⟩

def agg8 (x : Int) : Array Value := #[.int .u8 (x % 256), .int .u8 (x / 256 % 256), .int .u8 (x / 65536 % 256), .int .u8 (x / 16777216 % 256), .int .u8 (x / 4294967296 % 256), .int .u8 (x / 1099511627776 % 256), .int .u8 (x / 281474976710656 % 256), .int .u8 (x / 72057594037927936)]

set_option maxHeartbeats 1000000 in
theorem split_any (x : Int) (w : World) (h0 : 0 ≤ x) (h1 : x < 18446744073709551616) :
    Calls Try.prog 29 #[.int .u64 x] w fun e w' =>
      e = .returned (.agg #[.int .u8 (x % 256), .int .u8 (x / 256 % 256), .int .u8 (x / 65536 % 256), .int .u8 (x / 16777216 % 256), .int .u8 (x / 4294967296 % 256), .int .u8 (x / 1099511627776 % 256), .int .u8 (x / 281474976710656 % 256), .int .u8 (x / 72057594037927936)]) ∧ Below w.heap.size w w' := by
  go_enter Try.func29, Try.ntmps29
  go_wp2
  refine wp_loop_rounds 9 ?_
  rw [rounds_succ]; go_wp2
  rw [rounds_succ]; go_wp2
  rw [rounds_succ]; go_wp2
  rw [rounds_succ]; go_wp2
  rw [rounds_succ]; go_wp2
  rw [rounds_succ]; go_wp2
  rw [rounds_succ]; go_wp2
  rw [rounds_succ]; go_wp2
  rw [rounds_succ]; go_wp2
  refine bodyPost_ret (v := .agg #[.int .u8 (x % 256), .int .u8 (x / 256 % 256), .int .u8 (x / 65536 % 256), .int .u8 (x / 16777216 % 256), .int .u8 (x / 4294967296 % 256), .int .u8 (x / 1099511627776 % 256), .int .u8 (x / 281474976710656 % 256), .int .u8 (x / 72057594037927936)]) (by simp [results, Try.results29, go_sem]) rfl ⟨rfl, ?_⟩
  exact ((Below.refl _ _).alloc (Nat.le_refl _) _).alloc (by simp) _

theorem checkWords_cell (b g : Nat) (n : Nat) (at_ : Int) (k : Nat) (w : World) (hn : n ≤ 1073741824) (ha : at_ < 9223372036854775808) (hk : k ≤ 1000000000000)
    (hc : w.cell? ⟨b, 0, none⟩ = some (.slice (some ⟨g, 0, none⟩) n n)) :
    Calls Try.prog 26 #[.pointer (some ⟨b, 0, none⟩), .int .i64 at_, .int .i64 k] w fun e w' => e = .returned (.int .i64 (if errRange n at_ (8 * k) = 2 then 2 else if at_ % 8 = 0 then 0 else 3)) ∧ w' = w := by
  by_cases h : errRange n at_ (8 * k) = 2
  · rw [if_pos h]
    go_enter Try.func26, Try.ntmps26
    go_wp2_with (go_at_call 28; refine (checkRange_cell b g n _ _ _ hn ha hc).mono ?_; rintro e w' ⟨rfl, rfl⟩; rw [Int.mul_comm, h])
    go_ret
    exact ⟨rfl, rfl⟩
  · have h0 : errRange n at_ (8 * k) = 0 := by unfold errRange at h ⊢; split <;> simp_all
    have h1 : 0 ≤ at_ := by unfold errRange at h0; split at h0 <;> simp_all
    rw [if_neg h]
    clear h
    have h0 := h0
    by_cases h8 : at_ % 8 = 0
    · rw [if_pos h8]
      have h8' : ((at_ % 8) != 0) = false := by simp [h8]
      clear h8
      go_enter Try.func26, Try.ntmps26
      go_wp2_with (go_at_call 28; refine (checkRange_cell b g n _ _ _ hn ha hc).mono ?_; rintro e w' ⟨rfl, rfl⟩; rw [Int.mul_comm, h0])
      go_ret
      exact ⟨rfl, rfl⟩
    · rw [if_neg h8]
      have h8' : ((at_ % 8) != 0) = true := by simp [h8]
      clear h8
      go_enter Try.func26, Try.ntmps26
      go_wp2_with (go_at_call 28; refine (checkRange_cell b g n _ _ _ hn ha hc).mono ?_; rintro e w' ⟨rfl, rfl⟩; rw [Int.mul_comm, h0])
      go_ret
      exact ⟨rfl, rfl⟩

theorem checkWords_nil (at_ k : Int) (w : World) :
    Calls Try.prog 26 #[.pointer none, .int .i64 at_, .int .i64 k] w fun e w' => e = .returned (.int .i64 1) ∧ w' = w := by
  go_enter Try.func26, Try.ntmps26
  go_wp2_with (go_at_call 28; refine (checkRange_nil _ _ _).mono ?_; rintro e w' ⟨rfl, rfl⟩)
  go_ret
  exact ⟨rfl, rfl⟩

theorem read_er (b g : Nat) (n : Nat) (at_ k : Int) (w : World) (hn : n ≤ 1073741824) (ha : at_ < 9223372036854775808)
    (hc : w.cell? ⟨b, 0, none⟩ = some (.slice (some ⟨g, 0, none⟩) n n)) (hr : errRange n at_ k = 2) :
    Calls Try.prog 13 #[.pointer (some ⟨b, 0, none⟩), .int .i64 at_, .int .i64 k] w fun e w' => e = .returned (.tuple #[.slice none 0 0, .int .i64 2]) ∧ w' = w := by
  go_enter Try.func13, Try.ntmps13
  go_wp2_with (go_at_call 28; refine (checkRange_cell b g n _ _ _ hn ha hc).mono ?_; rintro e w' ⟨rfl, rfl⟩; rw [hr])
  go_ret2
  exact ⟨rfl, rfl⟩

theorem read_nil (at_ k : Int) (w : World) :
    Calls Try.prog 13 #[.pointer none, .int .i64 at_, .int .i64 k] w fun e w' => e = .returned (.tuple #[.slice none 0 0, .int .i64 1]) ∧ w' = w := by
  go_enter Try.func13, Try.ntmps13
  go_wp2_with (go_at_call 28; refine (checkRange_nil _ _ _).mono ?_; rintro e w' ⟨rfl, rfl⟩)
  go_ret2
  exact ⟨rfl, rfl⟩

theorem read_none (b g : Nat) (n : Nat) (at_ : Nat) (w : World) (hn : n ≤ 1073741824) (ha : at_ ≤ n)
    (hc : w.cell? ⟨b, 0, none⟩ = some (.slice (some ⟨g, 0, none⟩) n n)) (hb : b < w.heap.size) :
    Calls Try.prog 13 #[.pointer (some ⟨b, 0, none⟩), .int .i64 at_, .int .i64 0] w fun e w' => e = .returned (.tuple #[.slice (some ⟨w.heap.size, 0, none⟩) 0 0, .int .i64 0]) ∧ w' = w.alloc (.cells #[] 5) := by
  have hmk : ∀ w, (Instr.makeSlice 32 (.int .i64 0) (.int .i64 0)).run Try.prog w = .ok (.slice (some ⟨w.heap.size, 0, none⟩) 0 0) (w.alloc (.cells #[] 5)) := by
    intro w
    have := run_make_row' (P := Try.prog) 32 5 (.int .u8 0) 1 Try.underlying32 info5 rfl .i64 .i64 0 (by omega) (by omega) w
    simpa [madeBytes, bv] using this
  have hcp := fun w d dc s sl sc => run_copy_none (P := Try.prog) w 32 32 3 5 d s 0 dc sl sc Try.underlying32 info5s (by simp)
  have hr : errRange n at_ 0 = 0 := er_d (by omega)
  by_cases hna : n = at_
  all_goals
    go_enter Try.func13, Try.ntmps13
    go_wp2_with (go_at_call 28; refine (checkRange_cell b g n _ _ _ hn (by omega) hc).mono ?_; rintro e w' ⟨rfl, rfl⟩; rw [hr])
    go_ret2
    exact ⟨rfl, rfl⟩

theorem read_some (b g : Nat) (m : List Int) (at_ k : Nat) (w : World) (hA : Arena w b g m) (ha : at_ + k ≤ m.length) (h0 : 0 < k) :
    Calls Try.prog 13 #[.pointer (some ⟨b, 0, none⟩), .int .i64 at_, .int .i64 k] w fun e w' => e = .returned (.tuple #[.slice (some ⟨w.heap.size, 0, none⟩) k k, .int .i64 0]) ∧ w' = w.alloc (.cells (bv ((m.drop at_).take k)) 5) := by
  have hmk := run_make_row' (P := Try.prog) 32 5 (.int .u8 0) 1 Try.underlying32 info5 rfl .i64 .i64 k (by have := hA.small; omega) (by have := hA.small; omega)
  have hlen : ((m.drop at_).take k).length = k := by simp; omega
  have hbl : b < w.heap.size := (Array.getElem?_eq_some_iff.1 hA.head).1
  have hgl : g < w.heap.size := (Array.getElem?_eq_some_iff.1 hA.body).1
  have hcp := run_copy_row (P := Try.prog) (w.alloc (.cells (madeCells #[.int .u8 0] k) 5)) 32 32 3 5 w.heap.size 0 k k ⟨g, at_, none⟩ (m.length - at_) (m.length - at_) (madeCells #[.int .u8 0] k) 5 (((m.drop at_).take k).map (Value.int .u8)) Try.underlying32 info5s
    (by rw [heap_alloc_new]) (by rw [List.length_map, hlen]; exact (Nat.min_eq_right (by omega)).symm)
    (by
      intro j v hj
      have hjk : j < k := by
        have := (List.getElem?_eq_some_iff.1 hj).1
        simp at this; omega
      rw [addr_add, World.cell?_alloc_lt (a := ⟨g, at_ + j, none⟩) (h := hgl), hA.at _ (by omega), ← hj]
      simp [hjk]
      rw [List.getElem?_eq_getElem (by omega)]
      rfl)
    (by simp [size_madeCells]; omega) (oneCell_map _)
  have hc := hA.cell
  have hn := hA.small
  have hr : errRange m.length at_ k = 0 := er_d (by omega)
  have hlt : at_ < m.length := by omega
  have hne : m.length ≠ at_ := by omega
  rw [setRow_alloc] at hcp
  rw [show (List.take 0 (madeCells #[.int .u8 0] k).toList ++ List.map (Value.int IntKind.u8) (List.take k (List.drop at_ m)) ++ List.drop (0 + (List.map (Value.int IntKind.u8) (List.take k (List.drop at_ m))).length) (madeCells #[.int .u8 0] k).toList).toArray = bv ((m.drop at_).take k) from by
    rw [List.length_map, hlen, List.drop_of_length_le (l := (madeCells #[.int .u8 0] k).toList) (i := 0 + k) (by rw [Array.length_toList, size_madeCells]; omega)]; simp [bv]] at hcp
  rw [List.length_map, hlen] at hcp
  clear hlen
  go_enter Try.func13, Try.ntmps13
  go_wp2_with (go_at_call 28; refine (checkRange_cell b g m.length _ _ _ hn (by omega) hc).mono ?_; rintro e w' ⟨rfl, rfl⟩; rw [hr])
  go_ret2
  exact ⟨rfl, rfl⟩
end Go.Proofs.Ytaoahbobofdimaa
