/- A queue in memory, and the contracts of package grace's functions that make or read one. -/
import Derived.Test.YtgoennbbpndiiaaO
import Derived.Test.YtgoennbbpndiiaaChecked
import Derived.Deep.RegionHeld3
import Derived.Deep.RegionLaw
import Derived.Deep.Cut
import Derived.BigQuiet
import Derived.KernelRfl
namespace Go.Proofs.Ytgoennbbpndiiaa
open Go.RowKit Go.Maps Go.Shelf

theorem info46 : (Try.prog.info? 46).map (fun i => (i.zero, i.size, i.bytes)) = some (some (.agg #[.int .i64 0, .int .i64 0]), 2, 16) := by kernel_rfl
theorem info3 : (Try.prog.info? 3).map (fun i => (i.zero, i.size, i.bytes)) = some (some (.int .i64 0), 1, 8) := by kernel_rfl
/-- Things: each is a number, and the ticks that are left of it. -/
def flat (l : List (Int × Int)) : List Value := l.flatMap fun t => [.int .i64 t.1, .int .i64 t.2]
theorem flat_len (l : List (Int × Int)) : (flat l).length = l.length * 2 := by
  induction l with
  | nil => rfl
  | cons x xs ih => unfold flat at *; rw [List.flatMap_cons, List.length_append, ih]; simp; omega
theorem flat_append (l m : List (Int × Int)) : flat (l ++ m) = flat l ++ flat m := by unfold flat; rw [List.flatMap_append]
theorem flat_at {l : List (Int × Int)} {k : Nat} {t : Int × Int} (h : l[k]? = some t) : (flat l)[k * 2]? = some (.int .i64 t.1) ∧ (flat l)[k * 2 + 1]? = some (.int .i64 t.2) := by
  induction l generalizing k with
  | nil => cases h
  | cons x xs ih =>
    have e : flat (x :: xs) = .int .i64 x.1 :: .int .i64 x.2 :: flat xs := by unfold flat; rw [List.flatMap_cons]; rfl
    rw [e]
    cases k with
    | zero => obtain rfl : x = t := by simpa using h
              exact ⟨rfl, rfl⟩
    | succ k =>
      have := ih (k := k) (by simpa using h)
      rw [show (k + 1) * 2 = k * 2 + 1 + 1 by omega]
      exact this
theorem flat_drop (l : List (Int × Int)) : (flat l).drop 2 = flat (l.drop 1) := by
  cases l with
  | nil => rfl
  | cons x xs => unfold flat; rw [List.flatMap_cons]; rfl

/-- A queue at block b; v is its row's value. -/
structure Qu (w : World) (b : Nat) (v : Value) (p : Int) (l : List (Int × Int)) : Prop where
  hd : w.heap[b]? = some (.cells #[.int .i64 p, v] 44)
  row : OR w (b + 1) 2 v l.length (flat l)
/-- The blocks of a queue. -/
def Own (b : Nat) (v : Value) (k : Nat) : Prop := k = b ∨ v.ownBlock = some k
section
variable {w w' : World} {b : Nat} {v : Value} {p : Int} {l : List (Int × Int)}
theorem Qu.lt (h : Qu w b v p l) {k : Nat} (hk : Own b v k) : b ≤ k ∧ k < w.heap.size := by
  rcases hk with rfl | hk
  · exact ⟨Nat.le_refl _, lt_of h.hd⟩
  · have := h.row.own k hk; omega
theorem Qu.same (h : Qu w b v p l) (hs : w.heap.size ≤ w'.heap.size) (ho : ∀ k, Own b v k → w'.heap[k]? = w.heap[k]?) : Qu w' b v p l :=
  ⟨(ho b (.inl rfl)).trans h.hd, h.row.other hs (fun g e => ho g (.inr e))⟩
theorem Qu.below {B : Nat} (h : Qu w b v p l) (hb : Below B w w') (hB : w.heap.size ≤ B) : Qu w' b v p l := h.same hb.size (fun k hk => hb.block k (by have := (h.lt hk).2; omega))
theorem Qu.drewN (h : Qu w b v p l) (k : Nat) : Qu (w.drewN k) b v p l := ⟨h.hd, h.row.drewN k⟩
theorem Qu.c0 (h : Qu w b v p l) : w.cell? ⟨b, 0, none⟩ = some (.int .i64 p) := by rw [cell_of_row _ _ _ _ _ _ h.hd]; rfl
theorem Qu.c1 (h : Qu w b v p l) : w.cell? ⟨b, 1, none⟩ = some v := by rw [cell_of_row _ _ _ _ _ _ h.hd]; rfl

theorem new_any (n : Int) (w : World) (h1 : 1 ≤ n) (h2 : n ≤ 16) : Calls Try.prog 7 #[.int .i64 n] w fun e w' => e = .returned (.pointer (some ⟨w.heap.size, 0, none⟩)) ∧ w' = w.alloc (.cells #[.int .i64 n, .slice none 0 0] 44) := by
  have d1 : decide (n < 1) = false := by simp; omega
  have d2 : decide (16 < n) = false := by simp; omega
  go_enter Try.func7, Try.ntmps7
  go_wp2
  go_ret
  exact ⟨rfl, rfl⟩
theorem new_no (n : Int) (w : World) (h1 : n < 1 ∨ 16 < n) : Calls Try.prog 7 #[.int .i64 n] w fun e w' => e = .returned (.pointer none) ∧ w' = w := by
  rcases Int.lt_or_le n 1 with h | h
  · have d1 : decide (n < 1) = true := by simp; omega
    go_enter Try.func7, Try.ntmps7
    go_wp2
    go_ret
    exact ⟨rfl, rfl⟩
  · have d1 : decide (n < 1) = false := by simp; omega
    have d2 : decide (16 < n) = true := by simp; omega
    go_enter Try.func7, Try.ntmps7
    go_wp2
    go_ret
    exact ⟨rfl, rfl⟩
theorem new_qu (n : Int) (w : World) : Qu (w.alloc (.cells #[.int .i64 n, .slice none 0 0] 44)) w.heap.size (.slice none 0 0) n [] := ⟨heap_alloc_new _ _, OR.nil _ _ _⟩
theorem may_any (n : Int) (w : World) : Calls Try.prog 8 #[.int .i64 n] w fun e w' => e = .returned (.bool (decide (1 ≤ n ∧ n ≤ 16))) ∧ w' = w := by
  by_cases h1 : 1 ≤ n
  · have d1 : decide (1 ≤ n) = true := by simp; omega
    have e : decide (1 ≤ n ∧ n ≤ 16) = decide (n ≤ 16) := by simp [h1]
    rw [e]
    go_enter Try.func8, Try.ntmps8
    go_wp2
    go_ret
    exact ⟨rfl, rfl⟩
  · have d1 : decide (1 ≤ n) = false := by simp; omega
    have e : decide (1 ≤ n ∧ n ≤ 16) = false := by simp; omega
    rw [e]
    go_enter Try.func8, Try.ntmps8
    go_wp2
    go_ret
    exact ⟨rfl, rfl⟩
theorem period_any (h : Qu w b v p l) : Calls Try.prog 9 #[.pointer (some ⟨b, 0, none⟩)] w fun e w' => e = .returned (.int .i64 p) ∧ w' = w := by
  have c0 := h.c0
  clear h
  go_enter Try.func9, Try.ntmps9
  go_wp2
  go_ret
  exact ⟨rfl, rfl⟩
theorem period_nil (w : World) : Calls Try.prog 9 #[.pointer none] w fun e w' => e = .returned (.int .i64 0) ∧ w' = w := by
  go_enter Try.func9, Try.ntmps9
  go_wp2
  go_ret
  exact ⟨rfl, rfl⟩
theorem all_any (h : Qu w b v p l) : Calls Try.prog 18 #[.pointer (some ⟨b, 0, none⟩)] w fun e w' => e = .returned v ∧ w' = w := by
  obtain ⟨a, cap, rfl, _⟩ := h.row.slice
  have c1 := h.c1
  clear h
  go_enter Try.func18, Try.ntmps18
  go_wp2
  go_ret
  exact ⟨rfl, rfl⟩
theorem all_nil (w : World) : Calls Try.prog 18 #[.pointer none] w fun e w' => e = .returned (.slice none 0 0) ∧ w' = w := by
  go_enter Try.func18, Try.ntmps18
  go_wp2
  go_ret
  exact ⟨rfl, rfl⟩
theorem due_any (q : Option Addr) (w : World) : Calls Try.prog 19 #[.pointer q] w fun e w' => e = .returned (.func (.func 20) #[] #[.pointer (some ⟨w.heap.size, 0, none⟩)]) ∧ w' = w.alloc (.cells #[.pointer q] 24) := by
  go_enter Try.func19, Try.ntmps19
  go_wp2
  go_ret
  exact ⟨rfl, rfl⟩
end
end Go.Proofs.Ytgoennbbpndiiaa
