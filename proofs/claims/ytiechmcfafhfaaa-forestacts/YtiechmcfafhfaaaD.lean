/- Contracts of node's leave, join and number. -/
import Derived.Test.YtiechmcfafhfaaaC
import Derived.Test.YtiechmcfafhfaaaChecked
import Derived.Deep.RegionHeld3
import Derived.Deep.RegionLaw
import Derived.Deep.Cut
import Derived.BigQuiet
import Derived.KernelRfl
namespace Go.Proofs.Ytiechmcfafhfaaa
open Go.RowKit Go.Maps Go.Shelf

section
variable {w w' : World}
theorem root_mem (w : World) (n : Nat) (h3 : w.cell? ⟨n, 3, none⟩ = some (.pointer none)) : Calls Try.prog 31 #[ptr n] w fun e w' => e = .returned (.tuple #[]) ∧ w' = w := by
  go_enter Try.func31, Try.ntmps31
  go_wp2_with fail
  refine bodyPost_ret (results_none rfl _ _ _) rfl ?_
  exact ⟨rfl, rfl⟩
set_option maxHeartbeats 1000000 in
theorem leave_00 (w : World) (n q  : Nat) (h3 : w.cell? ⟨n, 3, none⟩ = some (ptr q)) (h6 : w.cell? ⟨n, 6, none⟩ = some (.pointer none)) (h7 : w.cell? ⟨n, 7, none⟩ = some (.pointer none))
    (s1 : (w.cell? ⟨q, 4, none⟩).isSome = true) (s2 : (w.cell? ⟨q, 5, none⟩).isSome = true) (f1 : w.frozen? ⟨q, 4, none⟩ = false) (f2 : w.frozen? ⟨q, 5, none⟩ = false)
    (f3 : w.frozen? ⟨n, 3, none⟩ = false) (f6 : w.frozen? ⟨n, 6, none⟩ = false) (f7 : w.frozen? ⟨n, 7, none⟩ = false) :
    Calls Try.prog 31 #[ptr n] w fun e w' => e = .returned (.tuple #[]) ∧ ∃ k, w' = (leaveW w n q 4 q 5 (.pointer none) (.pointer none)).drewN k := by
  obtain ⟨v1, c1⟩ := Option.isSome_iff_exists.1 s1
  obtain ⟨v2, c2⟩ := Option.isSome_iff_exists.1 s2
  clear s1 s2
  go_enter Try.func31, Try.ntmps31
  go_wp2_with fail
  go_region
  go_wp2_with fail
  go_region
  go_wp2_with fail
  go_end0
  exact ⟨rfl, 2, rfl⟩
set_option maxHeartbeats 1000000 in
theorem leave_01 (w : World) (n q b : Nat) (h3 : w.cell? ⟨n, 3, none⟩ = some (ptr q)) (h6 : w.cell? ⟨n, 6, none⟩ = some (.pointer none)) (h7 : w.cell? ⟨n, 7, none⟩ = some (ptr b))
    (s1 : (w.cell? ⟨q, 4, none⟩).isSome = true) (s2 : (w.cell? ⟨b, 6, none⟩).isSome = true) (f1 : w.frozen? ⟨q, 4, none⟩ = false) (f2 : w.frozen? ⟨b, 6, none⟩ = false)
    (f3 : w.frozen? ⟨n, 3, none⟩ = false) (f6 : w.frozen? ⟨n, 6, none⟩ = false) (f7 : w.frozen? ⟨n, 7, none⟩ = false) (hnb : n ≠ b) :
    Calls Try.prog 31 #[ptr n] w fun e w' => e = .returned (.tuple #[]) ∧ ∃ k, w' = (leaveW w n q 4 b 6 (.pointer none) (ptr b)).drewN k := by
  obtain ⟨v1, c1⟩ := Option.isSome_iff_exists.1 s1
  obtain ⟨v2, c2⟩ := Option.isSome_iff_exists.1 s2
  clear s1 s2
  go_enter Try.func31, Try.ntmps31
  go_wp2_with fail
  go_region
  go_wp2_with fail
  go_region
  go_wp2_with fail
  go_end0
  exact ⟨rfl, 2, rfl⟩
set_option maxHeartbeats 1000000 in
theorem leave_10 (w : World) (n q a : Nat) (h3 : w.cell? ⟨n, 3, none⟩ = some (ptr q)) (h6 : w.cell? ⟨n, 6, none⟩ = some (ptr a)) (h7 : w.cell? ⟨n, 7, none⟩ = some (.pointer none))
    (s1 : (w.cell? ⟨a, 7, none⟩).isSome = true) (s2 : (w.cell? ⟨q, 5, none⟩).isSome = true) (f1 : w.frozen? ⟨a, 7, none⟩ = false) (f2 : w.frozen? ⟨q, 5, none⟩ = false)
    (f3 : w.frozen? ⟨n, 3, none⟩ = false) (f6 : w.frozen? ⟨n, 6, none⟩ = false) (f7 : w.frozen? ⟨n, 7, none⟩ = false) (hna : n ≠ a) (hnq : n ≠ q) :
    Calls Try.prog 31 #[ptr n] w fun e w' => e = .returned (.tuple #[]) ∧ ∃ k, w' = (leaveW w n a 7 q 5 (ptr a) (.pointer none)).drewN k := by
  obtain ⟨v1, c1⟩ := Option.isSome_iff_exists.1 s1
  obtain ⟨v2, c2⟩ := Option.isSome_iff_exists.1 s2
  clear s1 s2
  go_enter Try.func31, Try.ntmps31
  go_wp2_with fail
  go_region
  go_wp2_with fail
  go_region
  go_wp2_with fail
  go_end0
  exact ⟨rfl, 2, rfl⟩
set_option maxHeartbeats 1000000 in
theorem leave_11 (w : World) (n q a b : Nat) (h3 : w.cell? ⟨n, 3, none⟩ = some (ptr q)) (h6 : w.cell? ⟨n, 6, none⟩ = some (ptr a)) (h7 : w.cell? ⟨n, 7, none⟩ = some (ptr b))
    (s1 : (w.cell? ⟨a, 7, none⟩).isSome = true) (s2 : (w.cell? ⟨b, 6, none⟩).isSome = true) (f1 : w.frozen? ⟨a, 7, none⟩ = false) (f2 : w.frozen? ⟨b, 6, none⟩ = false)
    (f3 : w.frozen? ⟨n, 3, none⟩ = false) (f6 : w.frozen? ⟨n, 6, none⟩ = false) (f7 : w.frozen? ⟨n, 7, none⟩ = false) (hna : n ≠ a) (hnb : n ≠ b) :
    Calls Try.prog 31 #[ptr n] w fun e w' => e = .returned (.tuple #[]) ∧ ∃ k, w' = (leaveW w n a 7 b 6 (ptr a) (ptr b)).drewN k := by
  obtain ⟨v1, c1⟩ := Option.isSome_iff_exists.1 s1
  obtain ⟨v2, c2⟩ := Option.isSome_iff_exists.1 s2
  clear s1 s2
  go_enter Try.func31, Try.ntmps31
  go_wp2_with fail
  go_region
  go_wp2_with fail
  go_region
  go_wp2_with fail
  go_end0
  exact ⟨rfl, 2, rfl⟩
set_option maxHeartbeats 1000000 in
theorem join_0 (w : World) (n q : Nat) (v3 v6 : Value) (h3 : w.cell? ⟨n, 3, none⟩ = some v3) (h6 : w.cell? ⟨n, 6, none⟩ = some v6) (h5 : w.cell? ⟨q, 5, none⟩ = some (.pointer none)) (s1 : (w.cell? ⟨q, 4, none⟩).isSome = true)
    (f1 : w.frozen? ⟨q, 4, none⟩ = false) (f2 : w.frozen? ⟨q, 5, none⟩ = false) (f3 : w.frozen? ⟨n, 3, none⟩ = false) (f6 : w.frozen? ⟨n, 6, none⟩ = false) :
    Calls Try.prog 30 #[ptr n, ptr q] w fun e w' => e = .returned (.tuple #[]) ∧ w' = joinW w n q q 4 (.pointer none) := by
  obtain ⟨v1, c1⟩ := Option.isSome_iff_exists.1 s1
  clear s1
  go_enter Try.func30, Try.ntmps30
  go_wp2_with fail
  go_end0
  exact ⟨rfl, rfl⟩
set_option maxHeartbeats 1000000 in
theorem join_1 (w : World) (n q a : Nat) (v3 v6 : Value) (h3 : w.cell? ⟨n, 3, none⟩ = some v3) (h6 : w.cell? ⟨n, 6, none⟩ = some v6) (h5 : w.cell? ⟨q, 5, none⟩ = some (ptr a)) (s1 : (w.cell? ⟨a, 7, none⟩).isSome = true)
    (f1 : w.frozen? ⟨a, 7, none⟩ = false) (f2 : w.frozen? ⟨q, 5, none⟩ = false) (f3 : w.frozen? ⟨n, 3, none⟩ = false) (f6 : w.frozen? ⟨n, 6, none⟩ = false) :
    Calls Try.prog 30 #[ptr n, ptr q] w fun e w' => e = .returned (.tuple #[]) ∧ w' = joinW w n q a 7 (ptr a) := by
  obtain ⟨v1, c1⟩ := Option.isSome_iff_exists.1 s1
  clear s1
  go_enter Try.func30, Try.ntmps30
  go_wp2_with fail
  go_end0
  exact ⟨rfl, rfl⟩
theorem join_nil (w : World) (n : Nat) : Calls Try.prog 30 #[ptr n, .pointer none] w fun e w' => e = .returned (.tuple #[]) ∧ w' = w := by
  go_enter Try.func30, Try.ntmps30
  go_wp2_with fail
  refine bodyPost_ret (results_none rfl _ _ _) rfl ?_
  exact ⟨rfl, rfl⟩
theorem number_nil (w : World) : Calls Try.prog 34 #[.pointer none] w fun e w' => e = .returned (.int .i64 0) ∧ w' = w := by
  go_enter Try.func34, Try.ntmps34
  go_wp2_with fail
  go_ret
  exact ⟨rfl, rfl⟩
theorem number_at (w : World) (n : Nat) (x : Int) (h0 : w.cell? ⟨n, 0, none⟩ = some (.int .i64 x)) : Calls Try.prog 34 #[ptr n] w fun e w' => e = .returned (.int .i64 x) ∧ w' = w := by
  go_enter Try.func34, Try.ntmps34
  go_wp2_with fail
  go_ret
  exact ⟨rfl, rfl⟩

end
end Go.Proofs.Ytiechmcfafhfaaa
