/- The contract of buddy.New. -/
import Derived.Test.YtohaoeilodebmaaDoorK
namespace Go.Proofs.YtohaoeilodebmaaDoor
open Go.RowKit Go.Maps

theorem onesU_any (x : Nat) (w : World) (hx : x < 18446744073709551616) :
    Calls Tryd.prog 32 #[.int .u64 (x : Int)] w fun e w' => e = .returned (.int .i64 (pop x : Int)) ∧ w' = w := by
  go_enter Tryd.func32, Tryd.ntmps32
  go_wp2_with (go_at_call 59; refine (ones_any x _ hx).mono ?_; rintro e w' ⟨rfl, rfl⟩)
  go_ret
  exact ⟨rfl, rfl⟩
theorem tzU_any (x : Nat) (w : World) (hx0 : x ≠ 0) (hx : x < 18446744073709551616) (hT : Tab w) :
    Calls Tryd.prog 33 #[.int .u64 (x : Int)] w fun e w' => e = .returned (.int .i64 (Lib.ctz 64 x : Int)) ∧ w' = w := by
  go_enter Tryd.func33, Tryd.ntmps33
  go_wp2_with (go_at_call 61; refine (tz_any x _ hx0 hx hT).mono ?_; rintro e w' ⟨rfl, rfl⟩)
  go_ret
  exact ⟨rfl, rfl⟩

theorem pop_pow : ∀ k : Fin 21, pop (1024 * 2 ^ k.val) = 1 := by decide +kernel
theorem ctz_pow : ∀ k : Fin 21, Lib.ctz 64 (2 ^ k.val) = k.val := by decide +kernel

theorem newB_small (s : Int) (w : World) (h : s < 65536) : Calls Tryd.prog 8 #[.int .i64 s] w fun e w' => e = .returned (.pointer none) ∧ w' = w := by
  go_enter Tryd.func8, Tryd.ntmps8
  go_wp2
  go_ret
  exact ⟨rfl, rfl⟩
theorem newB_great (s : Int) (w : World) (h : 1073741824 < s) : Calls Tryd.prog 8 #[.int .i64 s] w fun e w' => e = .returned (.pointer none) ∧ w' = w := by
  go_enter Tryd.func8, Tryd.ntmps8
  go_wp2
  go_ret
  exact ⟨rfl, rfl⟩
def zeros (n : Nat) : List Nat := List.replicate ((n + 63) / 64) 0
theorem zeros_bit (n j : Nat) : bit (zeros n) j = false := by
  unfold bit zeros
  rw [List.getElem?_replicate]
  split <;> simp

/-- The allocator under way: j of its maps are there. -/
structure Part (w : World) (base p m K j : Nat) (bf gf : Nat → Nat) : Prop where
  head : w.heap[p]? = some (.cells (budCells K j bf m) 66)
  maps : ∀ k, k < j → Bits w (bf k) (gf k) (2 ^ (K - k)) (zeros (2 ^ (K - k)))
  used : Umap w m 0 (.map [])
  pm : p ≠ m
  bg : ∀ k k', k < j → k' < j → bf k ≠ gf k'
  gg : ∀ k k', k < j → k' < j → gf k = gf k' → k = k'
  gp : ∀ k, k < j → gf k ≠ p
  gm : ∀ k, k < j → gf k ≠ m
  bm : ∀ k, k < j → bf k ≠ m
  bp : base ≤ p
  bmm : base ≤ m
  bb : ∀ k, k < j → base ≤ bf k ∧ base ≤ gf k

theorem Part.lp {w : World} {base p m K j : Nat} {bf gf : Nat → Nat} (h : Part w base p m K j bf gf) : p < w.heap.size := (Array.getElem?_eq_some_iff.1 h.head).1
theorem Part.lm {w : World} {base p m K j : Nat} {bf gf : Nat → Nat} (h : Part w base p m K j bf gf) : m < w.heap.size := h.used.lt

theorem ptrs_set (j : Nat) (bf : Nat → Nat) (b : Nat) (hj : j < 21) : (ptrs j bf).setIfInBounds j (.pointer (some ⟨b, 0, none⟩)) = ptrs (j + 1) (fun k => if k = j then b else bf k) := by
  apply Array.ext_getElem?
  intro k
  rw [Array.getElem?_setIfInBounds]
  by_cases hk : k < 21
  · by_cases e : j = k
    · subst e
      rw [if_pos rfl, if_pos (by rw [ptrs_size]; exact hj), ptrs_get _ _ _ hk, ptrOf, if_pos (by omega), if_pos rfl]
    · rw [if_neg e, ptrs_get _ _ _ hk, ptrs_get _ _ _ hk]
      unfold ptrOf
      by_cases h2 : k < j
      · rw [if_pos h2, if_pos (by omega)]
        simp only [show ¬ k = j from by omega, if_false]
      · rw [if_neg h2, if_neg (by omega)]
  · rw [if_neg (by omega), Array.getElem?_eq_none (by rw [ptrs_size]; omega), Array.getElem?_eq_none (by rw [ptrs_size]; omega)]
theorem budCells_set (K j : Nat) (bf : Nat → Nat) (m b : Nat) (hj : j < 21) : (budCells K j bf m).setIfInBounds (1 + j) (.pointer (some ⟨b, 0, none⟩)) = budCells K (j + 1) (fun k => if k = j then b else bf k) m := by
  unfold budCells
  rw [Array.setIfInBounds_append_left (by simp [ptrs]; omega), Array.setIfInBounds_append_right (by simp)]
  simp only [List.size_toArray, List.length_cons, List.length_nil, Nat.zero_add, Nat.add_sub_cancel_left]
  rw [ptrs_set j bf b hj]

/-- One map more. -/
theorem Part.next {w w' : World} {base p m K j : Nat} {bf gf : Nat → Nat} (h : Part w base p m K j bf gf) (hj : j ≤ K) (hK : K ≤ 20) (hbase : base ≤ w.heap.size) {b g : Nat} (hB : Bits w' b g (2 ^ (K - j)) (zeros (2 ^ (K - j)))) (hb : Below w.heap.size w w') (h1 : w.heap.size ≤ b) (h2 : w.heap.size ≤ g) :
    Part (w'.setCell ⟨p, 1 + j, none⟩ (.pointer (some ⟨b, 0, none⟩))) base p m K (j + 1) (fun k => if k = j then b else bf k) (fun k => if k = j then g else gf k) := by
  have hp := h.lp
  have hm := h.lm
  have hlt : ∀ k, k < j → bf k < w.heap.size ∧ gf k < w.heap.size := fun k hk => (h.maps k hk).lt
  have hoth : ∀ x, x ≠ p → (w'.setCell ⟨p, 1 + j, none⟩ (.pointer (some ⟨b, 0, none⟩))).heap[x]? = w'.heap[x]? := fun x hx => Below.heap_setCell _ _ _ _ hx
  refine ⟨?_, fun k hk => ?_, ?_, h.pm, fun k k' hk hk' => ?_, fun k k' hk hk' => ?_, fun k hk => ?_, fun k hk => ?_, fun k hk => ?_, h.bp, h.bmm, fun k hk => ?_⟩
  · rw [heap_setCell_same _ p (1 + j) _ _ _ ((hb.block p hp).trans h.head), budCells_set K j bf m b (by omega)]
  · by_cases e : k = j
    · subst e
      simp only [if_true]
      exact ⟨by rw [hoth b (by omega)]; exact hB.head, by rw [hoth g (by omega)]; exact hB.body, hB.unlike, hB.small, hB.ok⟩
    · simp only [e, if_false]
      have hk' : k < j := by omega
      have hBk := h.maps k hk'
      have hl := hlt k hk'
      have hpb : bf k ≠ p := by
        intro e2
        have h3 := hBk.head
        rw [e2, h.head] at h3
        exact absurd (Obj.cells.inj (Option.some.inj h3)).2.1 (by decide)
      exact ⟨by rw [hoth _ hpb, hb.block _ hl.1]; exact hBk.head, by rw [hoth _ (h.gp k hk'), hb.block _ hl.2]; exact hBk.body, hBk.unlike, hBk.small, hBk.ok⟩
  · exact ownsMap_block h.used (by rw [hoth m h.pm.symm, hb.block m hm])
  · by_cases e : k = j <;> by_cases e' : k' = j <;> simp only [e, e', if_true, if_false]
    · exact hB.unlike
    · have := hlt k' (by omega); omega
    · have := hlt k (by omega); omega
    · exact h.bg k k' (by omega) (by omega)
  · by_cases e : k = j <;> by_cases e' : k' = j <;> simp only [e, e', if_true, if_false]
    · intro _; trivial
    · intro h3; have := hlt k' (by omega); omega
    · intro h3; have := hlt k (by omega); omega
    · exact h.gg k k' (by omega) (by omega)
  · by_cases e : k = j <;> simp only [e, if_true, if_false]
    · omega
    · exact h.gp k (by omega)
  · by_cases e : k = j <;> simp only [e, if_true, if_false]
    · omega
    · exact h.gm k (by omega)
  · by_cases e : k = j <;> simp only [e, if_true, if_false]
    · omega
    · exact h.bm k (by omega)
  · by_cases e : k = j <;> simp only [e, if_true, if_false]
    · omega
    · exact h.bb k (by omega)

theorem Part.mem {w : World} {base p m K : Nat} {bf gf : Nat → Nat} (h : Part w base p m K (K + 1) bf gf) (hK : K ≤ 20) : Mem w p m K bf gf (fun _ _ => .no) 0 :=
  ⟨h.head, fun k hk => ⟨_, h.maps k (by omega), fun j _ => by rw [zeros_bit]; simp⟩, ⟨0, .map [], Nat.le_refl _, h.used, ⟨fun a => by simp [Maps.has], fun k i hk => by cases hk⟩⟩, hK, h.pm,
   fun k k' hk hk' => h.bg k k' (by omega) (by omega), fun k k' hk hk' => h.gg k k' (by omega) (by omega), fun k hk => h.gp k (by omega), fun k hk => h.gm k (by omega), fun k hk => h.bm k (by omega)⟩

/-- Where a new allocator lies. -/
def Newly (base p m K : Nat) (bf gf : Nat → Nat) : Prop := base ≤ p ∧ base ≤ m ∧ ∀ k, k ≤ K → base ≤ bf k ∧ base ≤ gf k
def NewPost (w : World) (K : Nat) (e : Ending) (w' : World) : Prop :=
  ∃ p m bf gf, e = .returned (.pointer (some ⟨p, 0, none⟩)) ∧ Mem w' p m K bf gf (begin_ K) 0 ∧ Newly w.heap.size p m K bf gf ∧ Below w.heap.size w w'

theorem budCells_zero (K : Nat) (bf : Nat → Nat) (m : Nat) : budCells K 0 bf m = #[.int .i64 (K : Int), .pointer none, .pointer none, .pointer none, .pointer none, .pointer none, .pointer none, .pointer none, .pointer none, .pointer none, .pointer none, .pointer none, .pointer none, .pointer none, .pointer none, .pointer none, .pointer none, .pointer none, .pointer none, .pointer none, .pointer none, .pointer none, .map (some m)] := by
  have e : ptrs 0 bf = Array.replicate 21 (.pointer none) := by
    apply Array.ext_getElem?
    intro k
    by_cases hk : k < 21
    · rw [ptrs_get _ _ _ hk, Array.getElem?_replicate, if_pos hk, ptrOf, if_neg (by omega)]
    · rw [Array.getElem?_eq_none (by rw [ptrs_size]; omega), Array.getElem?_eq_none (by simp; omega)]
  unfold budCells
  rw [e]
  exact Array.ext' (by simp [List.replicate_succ])

set_option maxHeartbeats 4000000 in
set_option maxRecDepth 100000 in
theorem newB_any (K : Nat) (w : World) (hT : Tab w) (h6 : 6 ≤ K) (hK : K ≤ 20) :
    Calls Tryd.prog 8 #[.int .i64 ((1024 * 2 ^ K : Nat) : Int)] w (NewPost w K) := by
  obtain ⟨q, hq⟩ : ∃ q, q = 2 ^ K := ⟨_, rfl⟩
  have hq1 : 64 ≤ q := by rw [hq]; exact Nat.pow_le_pow_right (n := 2) (by omega) h6
  have hq2 : q ≤ 1048576 := by rw [hq]; exact pow_le20 hK
  have hpop : pop (1024 * q) = 1 := by rw [hq]; exact pop_pow ⟨K, by omega⟩
  have hctz : Lib.ctz 64 q = K := by rw [hq]; exact ctz_pow ⟨K, by omega⟩
  have hmm := @run_makeMap Tryd.prog
  have HP := hid hpop
  have HC := hid hctz
  have HQ := hid hq
  have HT := hid hT
  have hpos := hT.pos
  rw [← hq]
  obtain ⟨S, hS⟩ : ∃ S, S = 1024 * q := ⟨_, rfl⟩
  have hS1 : (65536 : Int) ≤ (S : Int) := by omega
  have hS2 : (S : Int) ≤ 1073741824 := by omega
  have hdv : (S : Int) / 1024 = (q : Int) := by omega
  rw [← hS] at HP
  rw [← hS]
  have hd1 : decide ((S : Int) < 65536) = false := by rw [decide_eq_false]; omega
  have hd2 : decide ((1073741824 : Int) < (S : Int)) = false := by rw [decide_eq_false]; omega
  have HSS := hid hS
  clear hpop hctz hq hT hS
  go_enter Tryd.func8, Tryd.ntmps8
  go_wp2_with (first
    | (go_at_call 32; refine (onesU_any S _ (by omega)).mono ?_; rintro e w0 ⟨rfl, rfl⟩; rw [HP.out])
    | (go_at_call 33; refine (tzU_any q _ (by omega) (by omega) HT.out).mono ?_; rintro e w1 ⟨rfl, rfl⟩; rw [HC.out]))
  have hP0 : Hid (Part ((w1.alloc (.map #[] 0)).alloc (.cells #[.int .i64 (K : Int), .pointer none, .pointer none, .pointer none, .pointer none, .pointer none, .pointer none, .pointer none, .pointer none, .pointer none, .pointer none, .pointer none, .pointer none, .pointer none, .pointer none, .pointer none, .pointer none, .pointer none, .pointer none, .pointer none, .pointer none, .pointer none, .map (some w1.heap.size)] 66)) w1.heap.size (w1.heap.size + 1) w1.heap.size K 0 (fun _ => 0) (fun _ => 0)) :=
    ⟨by rw [budCells_zero, heap_alloc2_new], fun k hk => by omega, (World.ownsMap_made _ _ _ _).alloc _, by omega, fun k k' hk => by omega, fun k k' hk => by omega, fun k hk => by omega, fun k hk => by omega, fun k hk => by omega, by omega, by omega, fun k hk => by omega⟩
  have hX0 : Below w1.heap.size w1 ((w1.alloc (.map #[] 0)).alloc (.cells #[.int .i64 (K : Int), .pointer none, .pointer none, .pointer none, .pointer none, .pointer none, .pointer none, .pointer none, .pointer none, .pointer none, .pointer none, .pointer none, .pointer none, .pointer none, .pointer none, .pointer none, .pointer none, .pointer none, .pointer none, .pointer none, .pointer none, .pointer none, .map (some w1.heap.size)] 66)) := ((Below.refl _ _).alloc (Nat.le_refl _) _).alloc (by simp) _
  go_loopw [29] (fun t wr => ∃ j : Nat, j ≤ K + 1 ∧ t = .int .i64 (j : Int) ∧ (∃ bf gf, Hid (Part wr w1.heap.size (w1.heap.size + 1) w1.heap.size K j bf gf)) ∧ Below w1.heap.size w1 wr) (fun t _ => K + 1 - (intOf t).toNat)
  case atStart => exact ⟨0, by omega, rfl, ⟨_, _, hP0⟩, hX0⟩
  case round =>
    obtain ⟨j, hj, rfl, ⟨bf, gf, hP⟩, hX⟩ := hrel
    clear hP0 hX0
    obtain ⟨p, hp⟩ : ∃ p, p = w1.heap.size + 1 := ⟨_, rfl⟩
    rw [← hp] at hP ⊢
    have HPP := hid hp
    clear hp
    by_cases hlt : j ≤ K
    · have hpc : wr.cell? ⟨p, 1 + j, none⟩ = some (.pointer none) := by
        rw [cell_of_row wr p (1 + j) _ _ _ hP.out.head, budCells_ptr _ _ _ _ _ (by omega), ptrOf, if_neg (by omega)]
      have hplt := hP.out.lp
      have hfro := frozen_of_row _ p (1 + j) _ _ hP.out.head
      have hj21 : j < 21 := by omega
      obtain ⟨n, hn⟩ : ∃ n, n = 2 ^ (K - j) := ⟨_, rfl⟩
      have hn1 : n ≤ 1048576 := by rw [hn]; exact pow_le20 (by omega)
      obtain ⟨s, hs⟩ : ∃ s : Nat, s = 1024 * 2 ^ j := ⟨_, rfl⟩
      have hs1 : 0 < s := by have := Nat.two_pow_pos j; omega
      have hs2 : s ≤ 1073741824 := by have := pow_le20 (show j ≤ 20 by omega); omega
      have hdiv : (S : Int) / (s : Int) = (n : Int) := by
        have e1 : S = n * s := by rw [HSS.out, HQ.out, hn, hs, pow_split hlt, Nat.mul_comm 1024, Nat.mul_assoc, Nat.mul_comm (2 ^ j) 1024]
        rw [e1, ← Int.natCast_ediv, Nat.mul_div_cancel _ hs1]
      have hs0 : ((s : Int) == 0) = false := by simp; omega
      have hdiv' : (S : Int).tdiv (s : Int) = (n : Int) := by rw [Int.tdiv_eq_ediv_of_nonneg (by omega)]; exact hdiv
      have HN := hid hn
      have HS := hid hs
      have hjK : (j : Int) < (K : Int) + 1 := by omega
      clear hn hs hd1 hd2 hdv hmm
      go_wp2_with fail
      go_region_with (first
        | (go_at_call 35; refine (bytesOf_any j _ (by omega)).mono ?_; rintro e w4 ⟨rfl, rfl⟩; rw [← HS.out])
        | (go_at_call 34; refine (new_ok n _ hn1).mono ?_; rintro e w5 ⟨b, g, rfl, hB5, hb5, hlb, hlg⟩; have HB5 := hid hB5; clear hB5; have hc5 : w5.cell? ⟨p, 1 + j, none⟩ = some (.pointer none) := ((hb5.cell (p := ⟨p, 1 + j, none⟩) hplt).trans hpc); have hf5 : w5.frozen? ⟨p, 1 + j, none⟩ = false := (frozen_of_row _ p (1 + j) _ _ ((hb5.block p hplt).trans hP.out.head))))
      all_goals
        go_wp2_with fail
        have hb5' : Below wr.heap.size wr w5 := ⟨hb5.os, hb5.tape, hb5.output, hb5.size, hb5.block⟩
        have hnx := hP.out.next hlt hK hX.size (b := b) (g := g) (by rw [← HN.out]; exact HB5.out) hb5' hlb hlg
        exact ⟨⟨j + 1, by omega, by go_num, ⟨_, _, hnx⟩, Below.of_but (Below.of_below hX hX.size hb5') (Nat.le_trans hX.size hb5'.size) (But.setCell (But.refl p w5) (.inl rfl) _) hP.out.bp⟩, by simp [intOf]; omega⟩
    · obtain rfl : j = K + 1 := by omega
      have hM := hid (hP.out.mem hK)
      have hnew : Hid (Newly w1.heap.size p w1.heap.size K bf gf) := ⟨hP.out.bp, hP.out.bmm, fun k hk => hP.out.bb k (by omega)⟩
      have h0 := hM.out.cK
      have hcp := hM.out.cptr K (Nat.le_refl _)
      have hplt := hP.out.lp
      have hK21 : K < 21 := by omega
      have hgl := (hM.out.lb K (Nat.le_refl _)).2
      clear hP hd1 hd2 hdv hmm
      go_wp2_with fail
      go_region_with (first
        | (go_at_call 36; refine (mem_set (hM.out.drew.alloc _) true K 0 wr.heap.size (Nat.le_refl _) (Nat.two_pow_pos _) (heap_alloc_new wr.drew _) (by omega)).mono ?_; rintro e w6 ⟨⟨t, rfl⟩, hb6, hmem6⟩)
        | (go_at_call 36; refine (mem_set (hM.out.alloc _).drew true K 0 wr.heap.size (Nat.le_refl _) (Nat.two_pow_pos _) (heap_alloc_new wr _) (by omega)).mono ?_; rintro e w6 ⟨⟨t, rfl⟩, hb6, hmem6⟩))
      all_goals
        have hm6 := hid (hmem6 (begin_ K) (fun k' i' => by
          unfold begin_
          by_cases e : k' = K ∧ i' = 0
          · simp [e]
          · simp [e]) (fun k' i' => by
          unfold begin_
          by_cases e : k' = K ∧ i' = 0
          · simp [e]
          · simp [e]))
        have hX6 : Below w1.heap.size w1 w6 := Below.of_but (hX.drew.alloc hX.size _) (by have := hX.size; simp; omega) hb6 (hnew.out.2.2 K (Nat.le_refl _)).2
        clear hb6 hmem6
        go_wp2_with fail
        go_ret
        exact ⟨p, w1.heap.size, bf, gf, rfl, hm6.out, hnew.out, hX6⟩
end Go.Proofs.YtohaoeilodebmaaDoor
