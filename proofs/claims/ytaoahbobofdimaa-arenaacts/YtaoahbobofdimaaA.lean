/- Contracts of package arena's functions: what each call answers and what it does to memory. -/
import Derived.Test.YtaoahbobofdimaaRows
import Derived.Test.YtaoahbobofdimaaL
import Derived.Deep.OwnRows
namespace Go.Proofs.Ytaoahbobofdimaa
open Go.RowKit

/-- The arena at block b has the bytes m, in block g. -/
structure Arena (w : World) (b g : Nat) (m : List Int) : Prop where
  head : w.heap[b]? = some (.cells #[.slice (some ⟨g, 0, none⟩) m.length m.length] 59)
  body : w.heap[g]? = some (.cells (bv m) 5)
  unlike : b ≠ g
  small : m.length ≤ 1073741824
  byte : ∀ i : Nat, 0 ≤ m[i]?.getD 0 ∧ m[i]?.getD 0 ≤ 255

theorem Arena.cell {w : World} {b g : Nat} {m : List Int} (h : Arena w b g m) : w.cell? ⟨b, 0, none⟩ = some (.slice (some ⟨g, 0, none⟩) m.length m.length) := by
  rw [cell_of_row w b 0 _ _ _ h.head]; rfl
theorem Arena.at {w : World} {b g : Nat} {m : List Int} (h : Arena w b g m) (i : Nat) (hi : i < m.length) : w.cell? ⟨g, i, none⟩ = some (.int .u8 (m[i]?.getD 0)) := by
  rw [cell_of_row w g i _ _ _ h.body, bv_get m i hi]

def errRange (n at_ k : Int) : Int := if at_ < 0 ∨ k < 0 ∨ n - at_ < k then 2 else 0
theorem er_a {n at_ k : Int} (h : at_ < 0) : errRange n at_ k = 2 := by simp [errRange, h]
theorem er_b {n at_ k : Int} (h : k < 0) : errRange n at_ k = 2 := by simp [errRange, h]
theorem er_c {n at_ k : Int} (h : (at_ < 0 ∨ k < 0) ∨ n - at_ < k) : errRange n at_ k = 2 := by
  unfold errRange; rw [if_pos (by omega)]
theorem er_d {n at_ k : Int} (h : (0 ≤ at_ ∧ 0 ≤ k) ∧ k ≤ n - at_) : errRange n at_ k = 0 := by
  unfold errRange; rw [if_neg (by omega)]

set_option maxHeartbeats 400000 in
theorem checkRange_cell (b g : Nat) (n : Nat) (at_ k : Int) (w : World) (hn : n ≤ 1073741824) (ha : at_ < 9223372036854775808)
    (hc : w.cell? ⟨b, 0, none⟩ = some (.slice (some ⟨g, 0, none⟩) n n)) :
    Calls Try.prog 28 #[.pointer (some ⟨b, 0, none⟩), .int .i64 at_, .int .i64 k] w fun e w' => e = .returned (.int .i64 (errRange n at_ k)) ∧ w' = w := by
  go_enter Try.func28, Try.ntmps28
  go_wp2
  · go_ret; exact ⟨ret_int (er_c ‹_›).symm, rfl⟩
  · go_ret; exact ⟨ret_int (er_d ‹_›).symm, rfl⟩
  · go_ret; exact ⟨ret_int (er_b ‹_›).symm, rfl⟩
  · go_ret; exact ⟨ret_int (er_a ‹_›).symm, rfl⟩

theorem checkRange_nil (at_ k : Int) (w : World) :
    Calls Try.prog 28 #[.pointer none, .int .i64 at_, .int .i64 k] w fun e w' => e = .returned (.int .i64 1) ∧ w' = w := by
  go_enter Try.func28, Try.ntmps28
  go_wp2
  go_ret
  exact ⟨rfl, rfl⟩

theorem size_nil (w : World) :
    Calls Try.prog 14 #[.pointer none] w fun e w' => e = .returned (.int .i64 0) ∧ w' = w := by
  go_enter Try.func14, Try.ntmps14
  go_wp2
  go_ret
  exact ⟨rfl, rfl⟩

theorem size_cell (b g : Nat) (n : Nat) (w : World) 
    (hc : w.cell? ⟨b, 0, none⟩ = some (.slice (some ⟨g, 0, none⟩) n n)) :
    Calls Try.prog 14 #[.pointer (some ⟨b, 0, none⟩)] w fun e w' => e = .returned (.int .i64 n) ∧ w' = w := by
  go_enter Try.func14, Try.ntmps14
  go_wp2
  go_ret
  exact ⟨rfl, rfl⟩

theorem info5 : (Try.prog.info? 5).map (fun i => (i.zero, i.size, i.bytes)) = some (some (.int .u8 0), 1, 1) := by kernel_rfl
theorem info5s : (Try.prog.info? 5).map (·.size) = some 1 := by kernel_rfl

set_option maxRecDepth 100000 in
theorem new_raw (n : Nat) (w : World) (h1 : (65536 : Int) ≤ n) (h2 : (n : Int) ≤ 1073741824) (hp : (bits .and .i64 n (n - 1) == 0) = true) :
    Calls Try.prog 10 #[.int .i64 n] w fun e w' => e = .returned (.pointer (some ⟨w.heap.size + 1, 0, none⟩)) ∧
      w' = (w.alloc (.cells (madeCells #[.int .u8 0] n) 5)).alloc (.cells #[.slice (some ⟨w.heap.size, 0, none⟩) n n] 59) := by
  have hmk := run_make_row' (P := Try.prog) 32 5 (.int .u8 0) 1 Try.underlying32 info5 rfl .i64 .i64 n (by omega) (by omega)
  go_enter Try.func10, Try.ntmps10
  go_wp2
  go_ret
  exact ⟨rfl, rfl⟩

theorem new_no (n : Int) (w : World) (h : n < 65536 ∨ 1073741824 < n) :
    Calls Try.prog 10 #[.int .i64 n] w fun e w' => e = .returned (.pointer none) ∧ w' = w := by
  rcases h with h | h
  · go_enter Try.func10, Try.ntmps10
    go_wp2
    go_ret
    exact ⟨rfl, rfl⟩
  · have h3 : ¬ n < 65536 := by omega
    go_enter Try.func10, Try.ntmps10
    go_wp2
    go_ret
    exact ⟨rfl, rfl⟩

theorem new_no2 (n : Int) (w : World) (h1 : 65536 ≤ n) (h2 : n ≤ 1073741824) (hp : (bits .and .i64 n (n - 1) == 0) = false) :
    Calls Try.prog 10 #[.int .i64 n] w fun e w' => e = .returned (.pointer none) ∧ w' = w := by
  go_enter Try.func10, Try.ntmps10
  go_wp2
  go_ret
  exact ⟨rfl, rfl⟩


theorem write_er (b g : Nat) (n : Nat) (at_ : Int) (src : Option Addr) (len cap : Nat) (w : World) (hn : n ≤ 1073741824) (ha : at_ < 9223372036854775808)
    (hc : w.cell? ⟨b, 0, none⟩ = some (.slice (some ⟨g, 0, none⟩) n n)) (hr : errRange n at_ len = 2) :
    Calls Try.prog 16 #[.pointer (some ⟨b, 0, none⟩), .int .i64 at_, .slice src len cap] w fun e w' => e = .returned (.int .i64 2) ∧ w' = w := by
  go_enter Try.func16, Try.ntmps16
  go_wp2_with (go_at_call 28; refine (checkRange_cell b g n _ _ _ hn ha hc).mono ?_; rintro e w' ⟨rfl, rfl⟩; rw [hr])
  go_ret
  exact ⟨rfl, rfl⟩

theorem write_nil (at_ : Int) (src : Option Addr) (len cap : Nat) (w : World)  :
    Calls Try.prog 16 #[.pointer none, .int .i64 at_, .slice src len cap] w fun e w' => e = .returned (.int .i64 1) ∧ w' = w := by
  go_enter Try.func16, Try.ntmps16
  go_wp2_with (go_at_call 28; refine (checkRange_nil _ _ _).mono ?_; rintro e w' ⟨rfl, rfl⟩)
  go_ret
  exact ⟨rfl, rfl⟩

/-- Write: nothing to write. -/
theorem write_none (b g : Nat) (n : Nat) (at_ : Nat) (src : Option Addr) (cap : Nat) (w : World) (hn : n ≤ 1073741824) (ha : at_ ≤ n)
    (hc : w.cell? ⟨b, 0, none⟩ = some (.slice (some ⟨g, 0, none⟩) n n)) :
    Calls Try.prog 16 #[.pointer (some ⟨b, 0, none⟩), .int .i64 at_, .slice src 0 cap] w fun e w' => e = .returned (.int .i64 0) ∧ w' = w := by
  have hcp := fun w d dl dc => run_copy_none (P := Try.prog) w 32 32 3 5 d src dl dc 0 cap Try.underlying32 info5s (by simp)
  have hr : errRange n at_ 0 = 0 := er_d (by omega)
  by_cases hna : n = at_
  all_goals
   go_enter Try.func16, Try.ntmps16
   go_wp2_with (go_at_call 28; refine (checkRange_cell b g n _ _ _ hn (by omega) hc).mono ?_; rintro e w' ⟨rfl, rfl⟩; rw [hr])
   go_ret
   exact ⟨rfl, rfl⟩

/-- Write: at least one byte. -/
theorem write_some (b g : Nat) (m cs : List Int) (at_ : Nat) (src : Addr) (cap : Nat) (w : World) (hA : Arena w b g m) (ha : at_ + cs.length ≤ m.length) (h0 : 0 < cs.length)
    (hsrc : ∀ j v, (cs.map (Value.int .u8))[j]? = some v → w.cell? (src.add j) = some v) :
    Calls Try.prog 16 #[.pointer (some ⟨b, 0, none⟩), .int .i64 at_, .slice (some src) cs.length cap] w fun e w' => e = .returned (.int .i64 0) ∧ w' = w.setRow g (bv (putAt m at_ cs)) := by
  have hcp := run_copy_row (P := Try.prog) w 32 32 3 5 g at_ (m.length - at_) (m.length - at_) src cs.length cap (bv m) 5 (cs.map (Value.int .u8)) Try.underlying32 info5s hA.body (by simp only [List.length_map]; exact (Nat.min_eq_left (by omega)).symm) hsrc (by simp [bv_size]; omega) (oneCell_map cs)
  have hc := hA.cell
  have hn := hA.small
  have hr : errRange m.length at_ cs.length = 0 := er_d (by omega)
  have hlt : at_ < m.length := by omega
  have hne : m.length ≠ at_ := by omega
  go_enter Try.func16, Try.ntmps16
  go_wp2_with (go_at_call 28; refine (checkRange_cell b g m.length _ _ _ hn (by omega) hc).mono ?_; rintro e w' ⟨rfl, rfl⟩; rw [hr])
  go_ret
  refine ⟨rfl, ?_⟩
  congr 1
  simp [bv, putAt, List.map_take, List.map_drop]
end Go.Proofs.Ytaoahbobofdimaa
