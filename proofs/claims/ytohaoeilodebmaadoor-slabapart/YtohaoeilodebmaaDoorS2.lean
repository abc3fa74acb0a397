/- The library's heap over the open slabs: contracts of up. -/
import Derived.Test.YtohaoeilodebmaaDoorS1
namespace Go.Proofs.YtohaoeilodebmaaDoor
open Go.RowKit Go.Maps

/-- The heap that lies in the cache at block c. -/
structure Hc (w : World) (c g cap n : Nat) (L sb bm : Nat → Nat) : Prop where
  cell : w.cell? ⟨c, 3, none⟩ = some (.slice (some ⟨g, 0, none⟩) n cap)
  mem : Hm w g cap n L sb bm
  cg : c ≠ g
  cs : ∀ k, k < n → sb (L k) ≠ c
  few : n ≤ 1048576

def SameSet (L L' : Nat → Nat) (n : Nat) : Prop := (∀ k, k < n → ∃ k', k' < n ∧ L' k = L k') ∧ ∀ k, k < n → ∃ k', k' < n ∧ L k = L' k'
theorem SameSet.refl (L : Nat → Nat) (n : Nat) : SameSet L L n := ⟨fun k hk => ⟨k, hk, rfl⟩, fun k hk => ⟨k, hk, rfl⟩⟩
theorem SameSet.trans {L M N : Nat → Nat} {n : Nat} (h : SameSet L M n) (h' : SameSet M N n) : SameSet L N n := by
  refine ⟨fun k hk => ?_, fun k hk => ?_⟩
  · obtain ⟨k1, h1, e1⟩ := h'.1 k hk
    obtain ⟨k2, h2, e2⟩ := h.1 k1 h1
    exact ⟨k2, h2, e1.trans e2⟩
  · obtain ⟨k1, h1, e1⟩ := h.2 k hk
    obtain ⟨k2, h2, e2⟩ := h'.2 k1 h1
    exact ⟨k2, h2, e1.trans e2⟩
theorem SameSet.swp {L : Nat → Nat} {n i j : Nat} (hi : i < n) (hj : j < n) : SameSet L (swp L i j) n := by
  have hs : ∀ k, k < n → ∃ k', k' < n ∧ Go.Proofs.YtohaoeilodebmaaDoor.swp L i j k = L k' := fun k hk => by
    by_cases e1 : k = i
    · exact ⟨j, hj, by rw [e1, swp_l]⟩
    · by_cases e2 : k = j
      · exact ⟨i, hi, by rw [e2, swp_r]⟩
      · exact ⟨k, hk, swp_o L e1 e2⟩
  refine ⟨hs, fun k hk => ?_⟩
  by_cases e1 : k = i
  · exact ⟨j, hj, by rw [e1, swp_r]⟩
  · by_cases e2 : k = j
    · exact ⟨i, hi, by rw [e2, swp_l]⟩
    · exact ⟨k, hk, (swp_o L e1 e2).symm⟩

theorem Hc.drewN {w : World} {c g cap n : Nat} {L sb bm : Nat → Nat} (h : Hc w c g cap n L sb bm) (q : Nat) : Hc (w.drewN q) c g cap n L sb bm := ⟨h.cell, h.mem.other fun _ _ => rfl, h.cg, h.cs, h.few⟩
theorem Hc.swapped {w w' : World} {c g cap n : Nat} {L sb bm : Nat → Nat} {i j : Nat} (h : Hc w c g cap n L sb bm) (hi : i < n) (hj : j < n) (hm : Hm w' g cap n (swp L i j) sb bm) (ht : Turn (fun x => x = g ∨ x = sb (L i) ∨ x = sb (L j)) w w') : Hc w' c g cap n (swp L i j) sb bm := by
  have hl : c < w.heap.size := World.block_lt_of_cell? w ⟨c, 3, none⟩ h.cell
  have hb : w'.heap[c]? = w.heap[c]? := ht.block c hl (by
    rintro (e | e | e)
    · exact h.cg e
    · exact h.cs i hi e.symm
    · exact h.cs j hj e.symm)
  refine ⟨(World.cell?_of_block hb).trans h.cell, hm, h.cg, fun k hk => ?_, h.few⟩
  obtain ⟨k', hk', e⟩ := (SameSet.swp (L := L) hi hj).1 k hk
  rw [e]; exact h.cs k' hk'

theorem meth_less0 (a : Addr) (w : World) : (method 262 89 (.pointer (some a)) "Less").run Tryd.prog w = (loadVar 77 a >>= fun v => pure (129, v)).run Tryd.prog w := by kernel_rfl
theorem meth_swap0 (a : Addr) (w : World) : (method 262 89 (.pointer (some a)) "Swap").run Tryd.prog w = (loadVar 77 a >>= fun v => pure (130, v)).run Tryd.prog w := by kernel_rfl
theorem meth_len0 (a : Addr) (w : World) : (method 262 89 (.pointer (some a)) "Len").run Tryd.prog w = (loadVar 77 a >>= fun v => pure (49, v)).run Tryd.prog w := by kernel_rfl
theorem meth_push (a : Addr) (w : World) : (method 262 89 (.pointer (some a)) "Push").run Tryd.prog w = .ok (132, .pointer (some a)) w := by kernel_rfl
theorem meth_pop (a : Addr) (w : World) : (method 262 89 (.pointer (some a)) "Pop").run Tryd.prog w = .ok (131, .pointer (some a)) w := by kernel_rfl
theorem meth_less (a : Addr) (w : World) (b : Option Addr) (n cap : Nat) (h : w.cell? a = some (.slice b n cap)) : (method 262 89 (.pointer (some a)) "Less").run Tryd.prog w = .ok (129, .slice b n cap) w := by
  rw [meth_less0]; simp [h, go_sem]
theorem meth_swap (a : Addr) (w : World) (b : Option Addr) (n cap : Nat) (h : w.cell? a = some (.slice b n cap)) : (method 262 89 (.pointer (some a)) "Swap").run Tryd.prog w = .ok (130, .slice b n cap) w := by
  rw [meth_swap0]; simp [h, go_sem]
theorem meth_len (a : Addr) (w : World) (b : Option Addr) (n cap : Nat) (h : w.cell? a = some (.slice b n cap)) : (method 262 89 (.pointer (some a)) "Len").run Tryd.prog w = .ok (49, .slice b n cap) w := by
  rw [meth_len0]; simp [h, go_sem]

theorem Turn.wide {S S' : Nat → Prop} {a w : World} (h : Turn S a w) (hs : ∀ x, S x → S' x) : Turn S' a w := ⟨h.os, h.tape, h.output, h.size, fun i hi hn => h.block i hi (fun e => hn (hs i e))⟩

def UpPost (w : World) (c g cap n : Nat) (L sb bm : Nat → Nat) (nn : Nat) (e : Ending) (w' : World) : Prop := e = .returned (.tuple #[]) ∧ ∃ L', Hc w' c g cap n L' sb bm ∧ Hpo L' nn ∧ SameSet L L' nn ∧ (∀ k, nn ≤ k → L' k = L k) ∧ Turn (fun x => x = g ∨ ∃ k, k < n ∧ x = sb (L k)) w w'
set_option maxRecDepth 100000 in
set_option maxHeartbeats 2000000 in
theorem up_any (w : World) (c g cap n : Nat) (L sb bm : Nat → Nat) (j nn : Nat) (h : Hc w c g cap n L sb bm) (hu : Upo L nn j) (hj : j < nn) (hnn : nn ≤ n) :
    Calls Tryd.prog 73 #[.iface 89 (.pointer (some ⟨c, 3, none⟩)), .int .i64 (j : Int)] w (UpPost w c g cap n L sb bm nn) := by
  have hn := h.few
  have HH := hid (And.intro h hu)
  clear h hu
  go_enter Tryd.func73, Tryd.ntmps73
  go_wp2_with fail
  go_loopw [1] (fun t wr => ∃ jj : Nat, jj < nn ∧ t = .int .i64 (jj : Int) ∧ (∃ L', Hid (Hc wr c g cap n L' sb bm ∧ Upo L' nn jj ∧ SameSet L L' nn ∧ ∀ k, nn ≤ k → L' k = L k)) ∧ Turn (fun x => x = g ∨ ∃ k, k < n ∧ x = sb (L k)) w wr) (fun t _ => (intOf t).toNat)
  case atStart => exact ⟨j, hj, rfl, ⟨L, HH.out.1, HH.out.2, SameSet.refl L nn, fun _ _ => rfl⟩, Turn.refl _ _⟩
  case round =>
    obtain ⟨jj, hjj, rfl, ⟨L', hL⟩, ht⟩ := hrel
    by_cases h0 : jj = 0
    · subst h0
      have hq : ((-1 : Int)).tdiv 2 = 0 := by decide
      go_wp2_with fail
      go_end0
      exact ⟨rfl, L', hL.out.1, hL.out.2.1.done (fun h => by omega), hL.out.2.2.1, hL.out.2.2.2, ht⟩
    · obtain ⟨ii, hii⟩ : ∃ ii, ii = (jj - 1) / 2 := ⟨_, rfl⟩
      have hlt : ii < jj := by omega
      have hdv : ((jj : Int) - 1).tdiv 2 = (ii : Int) := by rw [Int.tdiv_eq_ediv_of_nonneg (by omega)]; omega
      have hdv2 : ((jj : Int) - 1) / 2 = (ii : Int) := by omega
      have hij : ((ii : Int) == (jj : Int)) = false := by rw [beq_eq_false_iff_ne]; omega
      have hij2 : ¬ ((ii : Int) = (jj : Int)) := by omega
      have hml := meth_less ⟨c, 3, none⟩ wr _ _ _ hL.out.1.cell
      have HII := hid hii
      clear hii
      go_wp2_with fail
      refine (less_any wr g cap n L' sb bm jj ii hL.out.1.mem (by omega) (by omega)).mono ?_
      rintro e w1 ⟨rfl, q, rfl⟩
      by_cases hless : L' jj < L' ii
      · rw [decide_eq_true hless]
        have hms := meth_swap ⟨c, 3, none⟩ (wr.drewN q) _ _ _ (hL.out.1.drewN q).cell
        go_wp2_with fail
        refine (swap_any (wr.drewN q) g cap n L' sb bm ii jj (hL.out.1.drewN q).mem (by omega) (by omega)).mono ?_
        rintro e w2 ⟨rfl, hm2, ht2⟩
        have HC2 := hid ((hL.out.1.drewN q).swapped (by omega) (by omega) hm2 ht2)
        have hup : Upo (swp L' ii jj) nn ii := by rw [HII.out]; exact hL.out.2.1.step (by omega) hjj (by rw [← HII.out]; exact hless)
        have HUP := hid hup
        have hT2 := (ht.drewN q).trans (ht2.wide (S' := fun x => x = g ∨ ∃ k, k < n ∧ x = sb (L k)) (by
          rintro x (e | e | e)
          · exact .inl e
          · obtain ⟨k, hk, e'⟩ := hL.out.2.2.1.1 ii (by omega)
            exact .inr ⟨k, by omega, by rw [e, e']⟩
          · obtain ⟨k, hk, e'⟩ := hL.out.2.2.1.1 jj hjj
            exact .inr ⟨k, by omega, by rw [e, e']⟩))
        clear hm2 ht2 hup
        go_wp2_with fail
        exact ⟨⟨ii, by omega, rfl, ⟨_, HC2.out, HUP.out, hL.out.2.2.1.trans (SameSet.swp (by omega) hjj), fun k hk => (swp_o L' (by omega) (by omega)).trans (hL.out.2.2.2 k hk)⟩, hT2⟩, by simp [intOf]; omega⟩
      · rw [decide_eq_false hless]
        go_wp2_with fail
        go_end0
        exact ⟨rfl, L', hL.out.1.drewN q, hL.out.2.1.done (fun _ => by rw [← HII.out]; omega), hL.out.2.2.1, hL.out.2.2.2, ht.drewN q⟩
end Go.Proofs.YtohaoeilodebmaaDoor
