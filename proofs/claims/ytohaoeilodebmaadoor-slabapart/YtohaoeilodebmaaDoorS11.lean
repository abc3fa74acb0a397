/- A new cache. -/
import Derived.Test.YtohaoeilodebmaaDoorS10
namespace Go.Proofs.YtohaoeilodebmaaDoor
open Go.RowKit Go.Maps

theorem snew_nil (z : Int) (w : World) : Calls Tryd.prog 24 #[.pointer none, .int .i64 z] w fun e w' => e = .returned (.pointer none) ∧ w' = w := by
  go_enter Tryd.func24, Tryd.ntmps24
  go_wp2
  go_ret
  exact ⟨rfl, rfl⟩
theorem snew_no (b : Nat) (z : Int) (w : World) (hz : z < 16 ∨ 512 < z ∨ z % 16 ≠ 0) : Calls Tryd.prog 24 #[.pointer (some ⟨b, 0, none⟩), .int .i64 z] w fun e w' => e = .returned (.pointer none) ∧ w' = w := by
  by_cases h1 : z < 16
  · go_enter Tryd.func24, Tryd.ntmps24
    go_wp2
    go_ret
    exact ⟨rfl, rfl⟩
  by_cases h2 : 512 < z
  · go_enter Tryd.func24, Tryd.ntmps24
    go_wp2
    go_ret
    exact ⟨rfl, rfl⟩
  have h3 : z % 16 ≠ 0 := by omega
  obtain ⟨r, hr⟩ : ∃ r, z.tmod 16 = r := ⟨_, rfl⟩
  have hr0 : (r != 0) = true := by
    rw [bne_iff_ne, ← hr, Int.tmod_eq_emod_of_nonneg (by omega)]; exact h3
  have hrb : 0 ≤ r ∧ r < 16 := by rw [← hr, Int.tmod_eq_emod_of_nonneg (by omega)]; omega
  clear hz h3
  go_enter Tryd.func24, Tryd.ntmps24
  go_wp2
  go_ret
  exact ⟨rfl, rfl⟩

def SNewPost (w : World) (b z : Nat) (e : Ending) (w' : World) : Prop := ∃ c m, e = .returned (.pointer (some ⟨c, 0, none⟩)) ∧ w'.heap[c]? = some (.cells #[.pointer (some ⟨b, 0, none⟩), .int .i64 (z : Int), .map (some m), .slice none 0 0] 79) ∧
  w'.heap[m]? = some (.map #[] 0) ∧ Below w.heap.size w w' ∧ w.heap.size ≤ c ∧ w.heap.size ≤ m ∧ c ≠ m
set_option maxRecDepth 100000 in
theorem snew_any (b z : Nat) (w : World) (h1 : 16 ≤ z) (h2 : z ≤ 512) (h3 : z % 16 = 0) : Calls Tryd.prog 24 #[.pointer (some ⟨b, 0, none⟩), .int .i64 (z : Int)] w (SNewPost w b z) := by
  have hmm := @run_makeMap Tryd.prog
  have hr : (z : Int).tmod 16 = 0 := by rw [Int.tmod_eq_emod_of_nonneg (by omega)]; omega
  have hr2 : (z : Int) % 16 = 0 := by omega
  clear h3
  go_enter Tryd.func24, Tryd.ntmps24
  go_wp2
  go_ret
  refine ⟨w.heap.size + 1, w.heap.size, rfl, ?_, heap_alloc2_old w _ _, ((Below.refl w.heap.size w).alloc (Nat.le_refl _) _).alloc (by simp) _, by omega, Nat.le_refl _, by omega⟩
  have := heap_alloc_new (w.alloc (.map #[] 0)) (.cells #[.pointer (some ⟨b, 0, none⟩), .int .i64 (z : Int), .map (some w.heap.size), .slice none 0 0] 79)
  simpa using this
end Go.Proofs.YtohaoeilodebmaaDoor
