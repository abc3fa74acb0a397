/- Slabs: contracts of newSlab, full, begin, Size, Many. -/
import Derived.Test.YtohaoeilodebmaaDoorS9
namespace Go.Proofs.YtohaoeilodebmaaDoor
open Go.RowKit Go.Maps

theorem size_nil (w : World) : Calls Tryd.prog 29 #[.pointer none] w fun e w' => e = .returned (.int .i64 0) ∧ w' = w := by
  go_enter Tryd.func29, Tryd.ntmps29
  go_wp2
  go_ret
  exact ⟨rfl, rfl⟩
theorem size_any (w : World) (c z : Nat) (h : w.cell? ⟨c, 1, none⟩ = some (.int .i64 (z : Int))) : Calls Tryd.prog 29 #[.pointer (some ⟨c, 0, none⟩)] w fun e w' => e = .returned (.int .i64 (z : Int)) ∧ w' = w := by
  go_enter Tryd.func29, Tryd.ntmps29
  go_wp2
  go_ret
  exact ⟨rfl, rfl⟩
theorem many_nil (w : World) : Calls Tryd.prog 30 #[.pointer none] w fun e w' => e = .returned (.int .i64 0) ∧ w' = w := by
  go_enter Tryd.func30, Tryd.ntmps30
  go_wp2
  go_ret
  exact ⟨rfl, rfl⟩
theorem many_any (w : World) (c z : Nat) (h : w.cell? ⟨c, 1, none⟩ = some (.int .i64 (z : Int))) (h1 : 16 ≤ z) (h2 : z ≤ 512) : Calls Tryd.prog 30 #[.pointer (some ⟨c, 0, none⟩)] w fun e w' => e = .returned (.int .i64 ((960 / z : Nat) : Int)) ∧ w' = w := by
  obtain ⟨k, hk⟩ : ∃ k : Nat, k = 960 / z := ⟨_, rfl⟩
  have hkb : k ≤ 960 := by rw [hk]; exact Nat.div_le_self _ _
  have hd : (960 : Int).tdiv (z : Int) = (k : Int) := by rw [hk, Int.tdiv_eq_ediv_of_nonneg (by omega)]; rfl
  have hz0 : ((z : Int) == 0) = false := by rw [beq_eq_false_iff_ne]; omega
  rw [← hk]
  clear hk
  go_enter Tryd.func30, Tryd.ntmps30
  go_wp2
  go_ret
  exact ⟨rfl, rfl⟩
theorem begin_any (w : World) (c z p i : Nat) (h : w.cell? ⟨c, 1, none⟩ = some (.int .i64 (z : Int))) (hz : z ≤ 512) (hp : p ≤ 1048576) (hi : i ≤ 1048576) :
    Calls Tryd.prog 48 #[.pointer (some ⟨c, 0, none⟩), .int .i64 ((p * 1024 : Nat) : Int), .int .i64 (i : Int)] w fun e w' => e = .returned (.int .i64 ((p * 1024 + 64 + i * z : Nat) : Int)) ∧ w' = w := by
  obtain ⟨a, ha⟩ : ∃ a : Nat, a = p * 1024 := ⟨_, rfl⟩
  obtain ⟨y, hy⟩ : ∃ y : Nat, y = i * z := ⟨_, rfl⟩
  have hm : (i : Int) * (z : Int) = (y : Int) := by rw [hy, Int.natCast_mul]
  have hyb : y ≤ 536870912 := by rw [hy]; exact Nat.le_trans (Nat.mul_le_mul hi hz) (by omega)
  have hab : a ≤ 1073741824 := by omega
  rw [← ha, ← hy]
  clear ha hy
  go_enter Tryd.func48, Tryd.ntmps48
  go_wp2
  go_ret
  refine ⟨?_, rfl⟩
  simp

def NewSlabPost (w : World) (p many : Nat) (e : Ending) (w' : World) : Prop := ∃ s b g, e = .returned (.pointer (some ⟨s, 0, none⟩)) ∧ w'.heap[s]? = some (.cells #[.pointer (some ⟨b, 0, none⟩), .int .i64 ((p * 1024 : Nat) : Int), .int .i64 0] 87) ∧
  Bits w' b g many (List.replicate ((many + 63) / 64) 0) ∧ Below w.heap.size w w' ∧ w.heap.size ≤ s ∧ w.heap.size ≤ b ∧ w.heap.size ≤ g ∧ s ≠ b ∧ s ≠ g
theorem newSlab_any (w : World) (p many : Nat) (hm : many ≤ 1000) : Calls Tryd.prog 71 #[.int .i64 ((p * 1024 : Nat) : Int), .int .i64 (many : Int)] w (NewSlabPost w p many) := by
  obtain ⟨a, ha⟩ : ∃ a : Nat, a = p * 1024 := ⟨_, rfl⟩
  rw [← ha]
  have HA := hid ha
  clear ha
  go_enter Tryd.func71, Tryd.ntmps71
  go_wp2_with fail
  refine (new_ok many w (by omega)).mono ?_
  rintro e w1 ⟨b, g, rfl, hB, hb, h1, h2⟩
  have HB := hid (And.intro hB (And.intro hb (And.intro h1 h2)))
  clear hB hb h1 h2
  go_wp2_with fail
  go_ret
  obtain ⟨hB, hb, h1, h2⟩ := HB.out
  have hX := hb.alloc hb.size (.cells #[.pointer (some ⟨b, 0, none⟩), .int .i64 (a : Int), .int .i64 0] 87)
  refine ⟨w1.heap.size, b, g, rfl, by rw [← HA.out]; exact heap_alloc_new w1 _, ⟨?_, ?_, hB.unlike, hB.small, hB.ok⟩, hX, hb.size, h1, h2, ?_, ?_⟩
  · exact (Below.heap_alloc w1 _ b hB.lt.1).trans hB.head
  · exact (Below.heap_alloc w1 _ g hB.lt.2).trans hB.body
  · have := hB.lt.1; omega
  · have := hB.lt.2; omega
theorem full_any (w : World) (s b g n : Nat) (ws : List Nat) (hs : w.cell? ⟨s, 0, none⟩ = some (.pointer (some ⟨b, 0, none⟩))) (hB : Bits w b g n ws) (hT : Tab w) :
    Calls Tryd.prog 51 #[.pointer (some ⟨s, 0, none⟩)] w fun e w' => ∃ f : Bool, e = .returned (.bool f) ∧ Hid (f = true ↔ ∀ j, j < n → bit ws j = true) ∧ w' = w := by
  have HB := hid (And.intro hB hT)
  clear hB hT
  go_enter Tryd.func51, Tryd.ntmps51
  go_wp2_with fail
  refine (first_any b g n ws false 0 w HB.out.1 HB.out.2 (by omega)).mono ?_
  rintro e w1 ⟨r, rfl, hr, rfl⟩
  rcases hr with ⟨rfl, hn⟩ | ⟨k, rfl, _, hk, hb, _⟩
  · have HN := hid hn
    clear hn
    go_wp2_with fail
    go_ret
    refine ⟨true, rfl, ⟨fun _ j hj => ?_, fun _ => rfl⟩, rfl⟩
    have := HN.out j (Nat.zero_le _) hj
    cases h : bit ws j
    · exact absurd h this
    · rfl
  · have HN := hid (And.intro hk hb)
    clear hk hb
    go_wp2_with fail
    go_ret
    refine ⟨false, rfl, Iff.intro (fun h => absurd h (by decide)) (fun h => ?_), rfl⟩
    have h1 := h k HN.out.1
    rw [HN.out.2] at h1
    exact absurd h1 (by decide)
end Go.Proofs.YtohaoeilodebmaaDoor
