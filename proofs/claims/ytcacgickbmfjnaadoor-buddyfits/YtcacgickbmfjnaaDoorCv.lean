/- Lists of blocks as read, and the contract of cover. -/
import Derived.Test.YtcacgickbmfjnaaDoorAl
namespace Go.Proofs.YtcacgickbmfjnaaDoor
open Go.RowKit Go.Maps

/-- The slice reads as these blocks, in memory from base on. -/
def Rd (w : World) (base : Nat) (a : Option Addr) (L : List (Nat × Nat)) : Prop :=
  L.length = 0 ∨ ∃ g, a = some ⟨g, 0, none⟩ ∧ base ≤ g ∧ g < w.heap.size ∧ ∀ (j p k : Nat), L[j]? = some (p, k) → w.cell? ⟨g, j * 2, none⟩ = some (.int .i64 ((p * 1024 : Nat) : Int)) ∧ w.cell? ⟨g, j * 2 + 1, none⟩ = some (.int .i64 (k : Int))
theorem rd_of {w : World} {base : Nat} {v : Value} {L : List (Nat × Nat)} (h : w.ownsRow base 44 2 v L.length (bcells L)) : ∃ a cap, v = .slice a L.length cap ∧ Rd w base a L := by
  rcases h.2 with ⟨rfl, h0⟩ | ⟨g, cap, cur, rfl, hb, hr, _, _, _, ht⟩
  · exact ⟨none, 0, by rw [h0], .inl h0⟩
  · refine ⟨_, _, rfl, .inr ⟨g, rfl, hb, (Array.getElem?_eq_some_iff.1 hr).1, fun j p k hj => ?_⟩⟩
    obtain ⟨hlt, he⟩ := List.getElem?_eq_some_iff.1 hj
    have key : ∀ t, t < L.length * 2 → w.cell? ⟨g, t, none⟩ = some (encB L[t / 2]!)[t % 2]! := fun t ht2 => by
      rw [cell_of_row w g t _ _ _ hr, ← bcells_get L t ht2, ← ht, List.getElem?_take_of_lt ht2, Array.getElem?_toList]
    have e0 := key (j * 2) (by omega)
    have e1 := key (j * 2 + 1) (by omega)
    rw [show j * 2 / 2 = j from by omega, show j * 2 % 2 = 0 from by omega, getElem!_pos L j hlt, he] at e0
    rw [show (j * 2 + 1) / 2 = j from by omega, show (j * 2 + 1) % 2 = 1 from by omega, getElem!_pos L j hlt, he] at e1
    exact ⟨e0, e1⟩
theorem Rd.block {w w' : World} {base : Nat} {a : Option Addr} {L : List (Nat × Nat)} (h : Rd w base a L) (hs : w.heap.size ≤ w'.heap.size) (hb : ∀ g, base ≤ g → g < w.heap.size → w'.heap[g]? = w.heap[g]?) : Rd w' base a L := by
  rcases h with h | ⟨g, rfl, h1, h2, h3⟩
  · exact .inl h
  · refine .inr ⟨g, rfl, h1, by omega, fun j p k hj => ?_⟩
    have e : ∀ o, w'.cell? ⟨g, o, none⟩ = w.cell? ⟨g, o, none⟩ := fun o => World.cell?_of_block (hb g h1 h2)
    rw [e, e]
    exact h3 j p k hj
theorem Rd.turn {S : Nat → Prop} {w w' : World} {base : Nat} {a : Option Addr} {L : List (Nat × Nat)} (h : Rd w base a L) (ht : Turn S w w') (hS : ∀ x, S x → x < base) : Rd w' base a L :=
  h.block ht.size fun g h1 h2 => ht.block g h2 fun hs => by have := hS g hs; omega
theorem Rd.below {w w' : World} {base : Nat} {a : Option Addr} {L : List (Nat × Nat)} (h : Rd w base a L) (hb : Below w.heap.size w w') : Rd w' base a L :=
  h.block hb.size fun g _ h2 => hb.block g h2
theorem Rd.at {w : World} {base : Nat} {a : Option Addr} {L : List (Nat × Nat)} (h : Rd w base a L) {j p k : Nat} (hj : L[j]? = some (p, k)) : ∃ g, a = some ⟨g, 0, none⟩ ∧ w.cell? ⟨g, j * 2, none⟩ = some (.int .i64 ((p * 1024 : Nat) : Int)) ∧ w.cell? ⟨g, j * 2 + 1, none⟩ = some (.int .i64 (k : Int)) := by
  rcases h with h | ⟨g, rfl, _, _, h3⟩
  · have := (List.getElem?_eq_some_iff.1 hj).1; omega
  · exact ⟨g, rfl, h3 j p k hj⟩

theorem shl_eq (k q : Nat) (hq : q = 2 ^ k) : (2 : Int) ^ k = (q : Int) := by rw [hq]; simp

set_option maxHeartbeats 4000000 in
set_option maxRecDepth 100000 in
theorem cover_true (w : World) (K b1 b2 : Nat) (B : St) (F U : List (Nat × Nat)) (aF aU : Option Addr) (cF cU : Nat) (hi : Inv K B) (hn : NoHeld B) (hK : K ≤ 20) (hF : Lst B .free F) (hU : Lst B .used U) (rF : Rd w b1 aF F) (rU : Rd w b2 aU U) (lF : F.length ≤ 100000000) (lU : U.length ≤ 100000000) :
    Calls Tryd.prog 23 #[.int .i64 ((1024 * 2 ^ K : Nat) : Int), .slice aF F.length cF, .slice aU U.length cU] w fun e w' => e = .returned (.bool true) ∧ w' = w := by
  obtain ⟨q, hq⟩ : ∃ q, q = 2 ^ K := ⟨_, rfl⟩
  have hq2 : q ≤ 1048576 := by rw [hq]; exact pow_le20 hK
  rw [← hq, Nat.mul_comm]
  have HQ := hid hq
  have HH := hid (And.intro hi (And.intro hn (And.intro hF hU)))
  have HRF := hid rF
  have HRU := hid rU
  clear hi hn hF hU rF rU hq
  go_enter Tryd.func23, Tryd.ntmps23
  go_wp2_with fail
  go_loop [7, 8, 9] (fun t7 t8 t9 => ∃ p i j : Nat, p ≤ q ∧ t7 = .int .i64 ((p * 1024 : Nat) : Int) ∧ t8 = .int .i64 (i : Int) ∧ t9 = .int .i64 (j : Int) ∧ Hid (Cov B F U p i j)) (fun t7 _ _ => q * 1024 - (intOf t7).toNat)
  case atStart => exact ⟨0, 0, 0, by omega, rfl, rfl, rfl, Cov.start B F U⟩
  case round =>
    obtain ⟨p, i, j, hpq, rfl, rfl, rfl, hC⟩ := hrel
    by_cases hlt : p < q
    · have hil := hC.out.il
      have hjl := hC.out.jl
      rcases cov_step HH.out.1 HH.out.2.1 HH.out.2.2.1 HH.out.2.2.2 hC.out (by rw [← HQ.out]; exact hlt) with ⟨k, h1, h2, h3, h4⟩ | ⟨hne, k, h1, h2, h3, h4⟩
      · obtain ⟨g, rfl, c0, c1⟩ := HRF.out.at h1
        have hilt : i < F.length := (List.getElem?_eq_some_iff.1 h1).1
        rw [← HQ.out] at h3
        have H4 := hid h4
        obtain ⟨s, hs⟩ : ∃ s, s = 2 ^ k := ⟨_, rfl⟩
        have hsk := shl_eq k s hs
        have hs1 : 0 < s := by rw [hs]; exact Nat.two_pow_pos _
        rw [← hs] at h3 H4
        clear h1 h4 hs
        have hi1 : (i : Int) < (F.length : Int) := by omega
        have hpl : ((p * 1024 : Nat) : Int) < ((q * 1024 : Nat) : Int) := by omega
        have hk64 : k < 64 := by omega
        go_wp2_with fail
        go_round
        case rel => exact ⟨p + s, i + 1, j, h3, by go_num, by go_num, rfl, H4⟩
        case measure => simp [intOf]; omega
      · obtain ⟨g, rfl, c0, c1⟩ := HRU.out.at h1
        have hjlt : j < U.length := (List.getElem?_eq_some_iff.1 h1).1
        rw [← HQ.out] at h3
        have H4 := hid h4
        obtain ⟨s, hs⟩ : ∃ s, s = 2 ^ k := ⟨_, rfl⟩
        have hsk := shl_eq k s hs
        have hs1 : 0 < s := by rw [hs]; exact Nat.two_pow_pos _
        rw [← hs] at h3 H4
        clear h1 h4 hs
        have hj1 : (j : Int) < (U.length : Int) := by omega
        have hpl : ((p * 1024 : Nat) : Int) < ((q * 1024 : Nat) : Int) := by omega
        have hk64 : k < 64 := by omega
        by_cases hil2 : i < F.length
        · obtain ⟨⟨p2, k2⟩, h5⟩ : ∃ x, F[i]? = some x := ⟨_, List.getElem?_eq_getElem hil2⟩
          obtain ⟨g2, rfl, d0, d1⟩ := HRF.out.at h5
          have hne2 := hne p2 k2 h5
          have hi1 : (i : Int) < (F.length : Int) := by omega
          have hcmp : (((p2 * 1024 : Nat) : Int) == ((p * 1024 : Nat) : Int)) = false := by simp; omega
          clear h5 hne
          go_wp2_with fail
          go_round
          case rel => exact ⟨p + s, i, j + 1, h3, by go_num, rfl, by go_num, H4⟩
          case measure => simp [intOf]; omega
        · have hi1 : ¬ ((i : Int) < (F.length : Int)) := by omega
          clear hne
          go_wp2_with fail
          go_round
          case rel => exact ⟨p + s, i, j + 1, h3, by go_num, rfl, by go_num, H4⟩
          case measure => simp [intOf]; omega
    · obtain rfl : p = q := by omega
      obtain ⟨rfl, rfl⟩ := cov_end HH.out.1 HH.out.2.2.1 HH.out.2.2.2 (by rw [← HQ.out]; exact hC.out)
      go_wp2_with fail
      go_ret
      exact ⟨rfl, rfl⟩
end Go.Proofs.YtcacgickbmfjnaaDoor
