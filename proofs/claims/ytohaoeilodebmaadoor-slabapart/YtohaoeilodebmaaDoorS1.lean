/- The open slabs in memory, as a heap in a row: contracts of Len, Less and Swap. -/
import Derived.Test.YtohaoeilodebmaaDoorTk
import Derived.Test.YtohaoeilodebmaaDoorHp
namespace Go.Proofs.YtohaoeilodebmaaDoor
open Go.RowKit Go.Maps

/-- A row of pointers to slabs at block g, the page L k at place k; each slab knows its page and its place. -/
structure Hm (w : World) (g cap n : Nat) (L sb bm : Nat → Nat) : Prop where
  body : ∃ cur : Array Value, w.heap[g]? = some (.cells cur 82) ∧ cur.size = cap ∧ ∀ k, k < n → cur[k]? = some (.pointer (some ⟨sb (L k), 0, none⟩))
  slab : ∀ k, k < n → w.heap[sb (L k)]? = some (.cells #[.pointer (some ⟨bm (L k), 0, none⟩), .int .i64 ((L k * 1024 : Nat) : Int), .int .i64 (k : Int)] 87)
  one : ∀ i j, i < n → j < n → sb (L i) = sb (L j) → i = j
  gap : ∀ k, k < n → sb (L k) ≠ g
  len : n ≤ cap
  small : cap ≤ maxLen

section
variable {w w' : World} {g cap n : Nat} {L sb bm : Nat → Nat}
theorem Hm.cell (h : Hm w g cap n L sb bm) {k : Nat} (hk : k < n) : w.cell? ⟨g, k, none⟩ = some (.pointer (some ⟨sb (L k), 0, none⟩)) := by
  obtain ⟨cur, hb, _, hc⟩ := h.body
  rw [cell_of_row w g k _ _ _ hb]; exact hc k hk
theorem Hm.at_ (h : Hm w g cap n L sb bm) {k : Nat} (hk : k < n) : w.cell? ⟨sb (L k), 1, none⟩ = some (.int .i64 ((L k * 1024 : Nat) : Int)) := by
  rw [cell_of_row w _ 1 _ _ _ (h.slab k hk)]; rfl
theorem Hm.lg (h : Hm w g cap n L sb bm) : g < w.heap.size := by
  obtain ⟨cur, hb, _⟩ := h.body
  exact (Array.getElem?_eq_some_iff.1 hb).1
theorem Hm.other (h : Hm w g cap n L sb bm) (ho : ∀ x, (x = g ∨ ∃ k, k < n ∧ x = sb (L k)) → w'.heap[x]? = w.heap[x]?) : Hm w' g cap n L sb bm := by
  obtain ⟨cur, hb, h1, h2⟩ := h.body
  exact ⟨⟨cur, (ho g (.inl rfl)).trans hb, h1, h2⟩, fun k hk => (ho _ (.inr ⟨k, hk, rfl⟩)).trans (h.slab k hk), h.one, h.gap, h.len, h.small⟩
theorem Hm.swap (h : Hm w g cap n L sb bm) {i j : Nat} (hi : i < n) (hj : j < n) :
    Hm (((((w.drew).setCell ⟨g, i, none⟩ (.pointer (some ⟨sb (L j), 0, none⟩))).setCell ⟨g, j, none⟩ (.pointer (some ⟨sb (L i), 0, none⟩))).drew.setCell ⟨sb (L j), 2, none⟩ (.int .i64 (i : Int))).setCell ⟨sb (L i), 2, none⟩ (.int .i64 (j : Int))) g cap n (swp L i j) sb bm := by
  obtain ⟨cur, hb, h1, h2⟩ := h.body
  have hgi := h.gap i hi
  have hgj := h.gap j hj
  generalize hw1 : (w.drew).setCell ⟨g, i, none⟩ (.pointer (some ⟨sb (L j), 0, none⟩)) = w1
  have e1 : w1.heap[g]? = some (.cells (cur.setIfInBounds i (.pointer (some ⟨sb (L j), 0, none⟩))) 82) := by rw [← hw1]; exact setCell_head (w := w.drew) hb _
  have o1 : ∀ x, x ≠ g → w1.heap[x]? = w.heap[x]? := fun x hx => by rw [← hw1]; exact Below.heap_setCell _ _ _ _ hx
  generalize hw2 : w1.setCell ⟨g, j, none⟩ (.pointer (some ⟨sb (L i), 0, none⟩)) = w2
  have e2 : w2.heap[g]? = some (.cells ((cur.setIfInBounds i (.pointer (some ⟨sb (L j), 0, none⟩))).setIfInBounds j (.pointer (some ⟨sb (L i), 0, none⟩))) 82) := by rw [← hw2]; exact setCell_head e1 _
  have o2 : ∀ x, x ≠ g → w2.heap[x]? = w.heap[x]? := fun x hx => by rw [← hw2, Below.heap_setCell _ _ _ _ hx]; exact o1 x hx
  generalize hw3 : w2.drew.setCell ⟨sb (L j), 2, none⟩ (.int .i64 (i : Int)) = w3
  have e3 : w3.heap[sb (L j)]? = some (.cells #[.pointer (some ⟨bm (L j), 0, none⟩), .int .i64 ((L j * 1024 : Nat) : Int), .int .i64 (i : Int)] 87) := by
    rw [← hw3]
    exact (setCell_head (w := w2.drew) (show w2.heap[sb (L j)]? = _ from (o2 _ hgj).trans (h.slab j hj)) _)
  have o3 : ∀ x, x ≠ sb (L j) → w3.heap[x]? = w2.heap[x]? := fun x hx => by rw [← hw3]; exact Below.heap_setCell _ _ _ _ hx
  have e3i : ∃ v, w3.heap[sb (L i)]? = some (.cells #[.pointer (some ⟨bm (L i), 0, none⟩), .int .i64 ((L i * 1024 : Nat) : Int), v] 87) := by
    by_cases e : i = j
    · subst e; exact ⟨_, e3⟩
    · exact ⟨_, (o3 _ (fun e' => e (h.one i j hi hj e'))).trans ((o2 _ hgi).trans (h.slab i hi))⟩
  obtain ⟨v, e3i⟩ := e3i
  have e4 : (w3.setCell ⟨sb (L i), 2, none⟩ (.int .i64 (j : Int))).heap[sb (L i)]? = some (.cells #[.pointer (some ⟨bm (L i), 0, none⟩), .int .i64 ((L i * 1024 : Nat) : Int), .int .i64 (j : Int)] 87) := by rw [setCell_head e3i]; rfl
  have o4 : ∀ x, x ≠ sb (L i) → (w3.setCell ⟨sb (L i), 2, none⟩ (.int .i64 (j : Int))).heap[x]? = w3.heap[x]? := fun x hx => Below.heap_setCell _ _ _ _ hx
  generalize w3.setCell ⟨sb (L i), 2, none⟩ (.int .i64 (j : Int)) = w4 at *
  have hsw : ∀ k, k < n → swp L i j k = L (if k = i then j else if k = j then i else k) := fun k _ => by
    unfold swp; split
    · rfl
    · split <;> rfl
  refine ⟨⟨_, (o4 g hgi.symm).trans ((o3 g hgj.symm).trans e2), by simp [h1], fun k hk => ?_⟩, fun k hk => ?_, fun a b ha hb' he => ?_, fun k hk => ?_, h.len, h.small⟩
  · by_cases ej : k = j
    · subst ej
      rw [swp_r, Array.getElem?_setIfInBounds_self_of_lt (by simp [h1]; have := h.len; omega)]
    · rw [Array.getElem?_setIfInBounds_ne (by omega)]
      by_cases ei : k = i
      · subst ei
        rw [swp_l, Array.getElem?_setIfInBounds_self_of_lt (by simp [h1]; have := h.len; omega)]
      · rw [Array.getElem?_setIfInBounds_ne (by omega), swp_o L ei ej]; exact h2 k hk
  · by_cases ej : k = j
    · subst ej
      rw [swp_r]; exact e4
    · by_cases ei : k = i
      · subst ei
        rw [swp_l]
        exact (o4 _ (fun e => ej (h.one j k hj hi e).symm)).trans e3
      · rw [swp_o L ei ej]
        have n1 : sb (L k) ≠ sb (L i) := fun e => ei (h.one k i hk hi e)
        have n2 : sb (L k) ≠ sb (L j) := fun e => ej (h.one k j hk hj e)
        exact (o4 _ n1).trans ((o3 _ n2).trans ((o2 _ (h.gap k hk)).trans (h.slab k hk)))
  · rw [hsw a ha, hsw b hb'] at he
    have := h.one _ _ (by split; exact hj; split; exact hi; exact ha) (by split; exact hj; split; exact hi; exact hb') he
    split at this <;> split at this <;> (try split at this) <;> (try split at this) <;> omega
  · rw [hsw k hk]; exact h.gap _ (by split; exact hj; split; exact hi; exact hk)
end

theorem olen_any (a : Option Addr) (n cap : Nat) (w : World) : Calls Tryd.prog 49 #[.slice a n cap] w fun e w' => e = .returned (.int .i64 (n : Int)) ∧ w' = w := by
  go_enter Tryd.func49, Tryd.ntmps49
  go_wp2
  go_ret
  exact ⟨rfl, rfl⟩
theorem less_any (w : World) (g cap n : Nat) (L sb bm : Nat → Nat) (i j : Nat) (h : Hm w g cap n L sb bm) (hi : i < n) (hj : j < n) :
    Calls Tryd.prog 129 #[.slice (some ⟨g, 0, none⟩) n cap, .int .i64 (i : Int), .int .i64 (j : Int)] w fun e w' => e = .returned (.bool (decide (L i < L j))) ∧ ∃ q, w' = w.drewN q := by
  have ci := h.cell hi
  have cj := h.cell hj
  have ai := h.at_ hi
  have aj := h.at_ hj
  obtain ⟨zi, hzi⟩ : ∃ z : Nat, z = L i * 1024 := ⟨_, rfl⟩
  obtain ⟨zj, hzj⟩ : ∃ z : Nat, z = L j * 1024 := ⟨_, rfl⟩
  rw [← hzi] at ai
  rw [← hzj] at aj
  have hd : decide (L i < L j) = decide (zi < zj) := by
    rw [decide_eq_decide]; omega
  rw [hd]
  have hi1 : (i : Int) < (n : Int) := by omega
  have hj1 : (j : Int) < (n : Int) := by omega
  have hi0 : (0 : Int) ≤ (i : Int) := by omega
  have hj0 : (0 : Int) ≤ (j : Int) := by omega
  generalize sb (L i) = bi at *
  generalize sb (L j) = bj at *
  clear hzi hzj hd h
  go_enter Tryd.func129, Tryd.ntmps129
  go_wp2_with fail
  go_quiet (fail)
  go_wp2_with fail
  go_ret
  exact ⟨rfl, nq, rfl⟩

def SwapPost (w : World) (g cap n : Nat) (L sb bm : Nat → Nat) (i j : Nat) (e : Ending) (w' : World) : Prop := e = .returned (.tuple #[]) ∧ Hm w' g cap n (swp L i j) sb bm ∧ Turn (fun x => x = g ∨ x = sb (L i) ∨ x = sb (L j)) w w'
set_option maxHeartbeats 2000000 in
theorem swap_any (w : World) (g cap n : Nat) (L sb bm : Nat → Nat) (i j : Nat) (h : Hm w g cap n L sb bm) (hi : i < n) (hj : j < n) :
    Calls Tryd.prog 130 #[.slice (some ⟨g, 0, none⟩) n cap, .int .i64 (i : Int), .int .i64 (j : Int)] w (SwapPost w g cap n L sb bm i j) := by
  have ci := h.cell hi
  have cj := h.cell hj
  have hi1 : (i : Int) < (n : Int) := by omega
  have hj1 : (j : Int) < (n : Int) := by omega
  have hi0 : (0 : Int) ≤ (i : Int) := by omega
  have hj0 : (0 : Int) ≤ (j : Int) := by omega
  obtain ⟨cur, hbody, hsz, hcur⟩ := h.body
  have fi := frozen_of_row w g i _ _ hbody
  have fj := frozen_of_row w g j _ _ hbody
  have HS := hid (h.swap hi hj)
  obtain ⟨bi, hbi⟩ : ∃ b, b = sb (L i) := ⟨_, rfl⟩
  obtain ⟨bj, hbj⟩ : ∃ b, b = sb (L j) := ⟨_, rfl⟩
  rw [← hbi] at ci
  rw [← hbj] at cj
  have HB := hid (And.intro hbi hbj)
  have HH := hid h
  have HBO := hid (And.intro hbody hsz)
  clear h hbi hbj hbody hcur hsz
  go_enter Tryd.func130, Tryd.ntmps130
  go_wp2_with fail
  refine wp_region_held_drew (S := fun _ => True) (by kernel_rfl) trivial (fun hHeld => ?_)
  refine takeH (i := 0) (some 6) (.slice (some ⟨g, 0, none⟩) n cap) rfl rfl (by kernel_rfl) (by kernel_rfl) (by kernel_rfl) (fun _ _ _ h => h) (Or.inl ⟨by rfl, ?_⟩) (by assumption) ?_
  · (intro w hSw; (try dsimp only at hSw); go_simp)
  simp only [Act.put, List.setIfInBounds_toArray, List.set_cons_zero, List.set_cons_succ]
  refine takeH (i := 1) (some 7) (.int .i64 (i : Int)) rfl rfl (by kernel_rfl) (by kernel_rfl) (by kernel_rfl) (fun _ _ _ h => h) (Or.inl ⟨by rfl, ?_⟩) (by assumption) ?_
  · (intro w hSw; (try dsimp only at hSw); go_simp)
  simp only [Act.put, List.setIfInBounds_toArray, List.set_cons_zero, List.set_cons_succ]
  refine takeH (i := 2) (some 8) (.slice (some ⟨g, 0, none⟩) n cap) rfl rfl (by kernel_rfl) (by kernel_rfl) (by kernel_rfl) (fun _ _ _ h => h) (Or.inl ⟨by rfl, ?_⟩) (by assumption) ?_
  · (intro w hSw; (try dsimp only at hSw); go_simp)
  simp only [Act.put, List.setIfInBounds_toArray, List.set_cons_zero, List.set_cons_succ]
  refine takeH (i := 3) (some 9) (.int .i64 (j : Int)) rfl rfl (by kernel_rfl) (by kernel_rfl) (by kernel_rfl) (fun _ _ _ h => h) (Or.inl ⟨by rfl, ?_⟩) (by assumption) ?_
  · (intro w hSw; (try dsimp only at hSw); go_simp)
  simp only [Act.put, List.setIfInBounds_toArray, List.set_cons_zero, List.set_cons_succ]
  refine takeH (i := 4) (some 10) (.slice (some ⟨g, 0, none⟩) n cap) rfl rfl (by kernel_rfl) (by kernel_rfl) (by kernel_rfl) (fun _ _ _ h => h) (Or.inl ⟨by rfl, ?_⟩) (by assumption) ?_
  · (intro w hSw; (try dsimp only at hSw); go_simp)
  simp only [Act.put, List.setIfInBounds_toArray, List.set_cons_zero, List.set_cons_succ]
  refine takeH (i := 5) (some 11) (.int .i64 (j : Int)) rfl rfl (by kernel_rfl) (by kernel_rfl) (by kernel_rfl) (fun _ _ _ h => h) (Or.inl ⟨by rfl, ?_⟩) (by assumption) ?_
  · (intro w hSw; (try dsimp only at hSw); go_simp)
  simp only [Act.put, List.setIfInBounds_toArray, List.set_cons_zero, List.set_cons_succ]
  refine takeH (i := 6) (some 12) (.pointer (some ⟨g, j, none⟩)) rfl rfl (by kernel_rfl) (by kernel_rfl) (by kernel_rfl) (fun _ _ _ h => h) (Or.inl ⟨by rfl, ?_⟩) (by assumption) ?_
  · (intro w hSw; (try dsimp only at hSw); go_simp)
  simp only [Act.put, List.setIfInBounds_toArray, List.set_cons_zero, List.set_cons_succ]
  refine takeH (i := 8) (some 14) (.slice (some ⟨g, 0, none⟩) n cap) rfl rfl (by kernel_rfl) (by kernel_rfl) (by kernel_rfl) (fun _ _ _ h => h) (Or.inl ⟨by rfl, ?_⟩) (by assumption) ?_
  · (intro w hSw; (try dsimp only at hSw); go_simp)
  simp only [Act.put, List.setIfInBounds_toArray, List.set_cons_zero, List.set_cons_succ]
  refine takeH (i := 9) (some 15) (.int .i64 (i : Int)) rfl rfl (by kernel_rfl) (by kernel_rfl) (by kernel_rfl) (fun _ _ _ h => h) (Or.inl ⟨by rfl, ?_⟩) (by assumption) ?_
  · (intro w hSw; (try dsimp only at hSw); go_simp)
  simp only [Act.put, List.setIfInBounds_toArray, List.set_cons_zero, List.set_cons_succ]
  refine takeH (i := 10) (some 16) (.pointer (some ⟨g, i, none⟩)) rfl rfl (by kernel_rfl) (by kernel_rfl) (by kernel_rfl) (fun _ _ _ h => h) (Or.inl ⟨by rfl, ?_⟩) (by assumption) ?_
  · (intro w hSw; (try dsimp only at hSw); go_simp)
  simp only [Act.put, List.setIfInBounds_toArray, List.set_cons_zero, List.set_cons_succ]
  refine wpAnyH_ready (rs := [7, 11]) (by kernel_rfl) (by simp) ?_
  refine AllReadyH.cons (by simp only [List.getElem?_toArray, List.getElem?_cons_succ, List.getElem?_cons_zero]; rfl) (fun KK hK => ?_) (AllReadyH.cons (by simp only [List.getElem?_toArray, List.getElem?_cons_succ, List.getElem?_cons_zero]; rfl) (fun KK hK => ?_) AllReadyH.nil)
  · go_simp
    refine hK.out _ _ trivial (fun hHeld => ?_)
    clear hK KK
    refine wpAnyH_ready (rs := [11]) (by kernel_rfl) (by simp) ?_
    refine AllReadyH.cons (by simp only [List.getElem?_toArray, List.getElem?_cons_succ, List.getElem?_cons_zero]; rfl) (fun KK hK => ?_) AllReadyH.nil
    go_simp
    refine hK.out _ _ trivial (fun hHeld => ?_)
    clear hK KK
    refine takeH (i := 12) (some 18) (.pointer (some ⟨g, i, none⟩)) rfl rfl (by kernel_rfl) (by kernel_rfl) (by kernel_rfl) (fun _ _ _ h => h) (Or.inl ⟨by rfl, ?_⟩) (by assumption) ?_
    · (intro w hSw; (try dsimp only at hSw); go_simp)
    simp only [Act.put, List.setIfInBounds_toArray, List.set_cons_zero, List.set_cons_succ]
    refine wpAnyH_ready (rs := [13]) (by kernel_rfl) (by simp) ?_
    refine AllReadyH.cons (by simp only [List.getElem?_toArray, List.getElem?_cons_succ, List.getElem?_cons_zero]; rfl) (fun KK hK => ?_) AllReadyH.nil
    go_simp
    refine hK.out _ _ trivial (fun hHeld => ?_)
    clear hK KK
    obtain ⟨w1, hw1⟩ : ∃ w1, w1 = (w.setCell ⟨g, i, none⟩ (.pointer (some ⟨bj, 0, none⟩))).drew := ⟨_, rfl⟩
    rw [← hw1]
    have hb1 : w1.heap[g]? = some (.cells (cur.setIfInBounds i (.pointer (some ⟨bj, 0, none⟩))) 82) := by rw [hw1]; exact setCell_head (w := w) HBO.out.1 _
    obtain ⟨v1, hv1⟩ : ∃ v, w1.cell? ⟨g, j, none⟩ = some v := by
      rw [cell_of_row _ _ _ _ _ _ hb1]
      exact ⟨_, Array.getElem?_eq_getElem (by rw [Array.size_setIfInBounds, HBO.out.2]; have := HH.out.len; omega)⟩
    have f1 := frozen_of_row w1 g j _ _ hb1
    have HW1 := hid (And.intro hw1 hb1)
    clear hw1 hb1
    refine takeH (i := 14) (some 19) (.pointer (some ⟨g, j, none⟩)) rfl rfl (by kernel_rfl) (by kernel_rfl) (by kernel_rfl) (fun _ _ _ h => h) (Or.inl ⟨by rfl, ?_⟩) (by assumption) ?_
    · (intro w hSw; (try dsimp only at hSw); go_simp)
    simp only [Act.put, List.setIfInBounds_toArray, List.set_cons_zero, List.set_cons_succ]
    refine wpAnyH_ready (rs := [15]) (by kernel_rfl) (by simp) ?_
    refine AllReadyH.cons (by simp only [List.getElem?_toArray, List.getElem?_cons_succ, List.getElem?_cons_zero]; rfl) (fun KK hK => ?_) AllReadyH.nil
    go_simp
    refine hK.out _ _ trivial (fun hHeld => ?_)
    clear hK KK
    refine wpAnyH_done (by kernel_rfl) ?_ _
    obtain ⟨w2, hw2⟩ : ∃ w2, w2 = w1.setCell ⟨g, j, none⟩ (.pointer (some ⟨bi, 0, none⟩)) := ⟨_, rfl⟩
    rw [← hw2]
    have hb2 : w2.heap[g]? = some (.cells ((cur.setIfInBounds i (.pointer (some ⟨bj, 0, none⟩))).setIfInBounds j (.pointer (some ⟨bi, 0, none⟩))) 82) := by rw [hw2]; exact setCell_head HW1.out.2 _
    have d1 : w2.cell? ⟨g, i, none⟩ = some (.pointer (some ⟨bj, 0, none⟩)) := by
      rw [cell_of_row _ _ _ _ _ _ hb2]
      by_cases e : i = j
      · subst e
        rw [Array.getElem?_setIfInBounds_self_of_lt (by rw [Array.size_setIfInBounds, HBO.out.2]; have := HH.out.len; omega), HB.out.1, HB.out.2]
      · rw [Array.getElem?_setIfInBounds_ne (by omega), Array.getElem?_setIfInBounds_self_of_lt (by rw [HBO.out.2]; have := HH.out.len; omega)]
    have d2 : w2.cell? ⟨g, j, none⟩ = some (.pointer (some ⟨bi, 0, none⟩)) := by
      rw [cell_of_row _ _ _ _ _ _ hb2, Array.getElem?_setIfInBounds_self_of_lt (by rw [Array.size_setIfInBounds, HBO.out.2]; have := HH.out.len; omega)]
    have o2 : ∀ x, x ≠ g → w2.heap[x]? = w.heap[x]? := fun x hx => by rw [hw2, Below.heap_setCell _ _ _ _ hx, HW1.out.1]; exact Below.heap_setCell w _ _ _ hx
    have sj : w2.heap[bj]? = some (.cells #[.pointer (some ⟨bm (L j), 0, none⟩), .int .i64 ((L j * 1024 : Nat) : Int), .int .i64 (j : Int)] 87) := by rw [HB.out.2]; exact (o2 _ (HH.out.gap j hj)).trans (HH.out.slab j hj)
    have si : w2.heap[bi]? = some (.cells #[.pointer (some ⟨bm (L i), 0, none⟩), .int .i64 ((L i * 1024 : Nat) : Int), .int .i64 (i : Int)] 87) := by rw [HB.out.1]; exact (o2 _ (HH.out.gap i hi)).trans (HH.out.slab i hi)
    have cj2 : w2.cell? ⟨bj, 2, none⟩ = some (.int .i64 (j : Int)) := by rw [cell_of_row _ _ _ _ _ _ sj]; rfl
    have fj2 := frozen_of_row w2 bj 2 _ _ sj
    have HW2 := hid (And.intro hw2 (And.intro hb2 (And.intro sj si)))
    clear hw2 hb2 o2 sj si hv1 f1 ci cj fi fj hHeld
    go_wp2_with fail
    have HKP : Hid (∀ (wx : World) (b : Nat) (v : Value), b ≠ g → wx.cell? ⟨g, i, none⟩ = some (.pointer (some ⟨bj, 0, none⟩)) ∧ wx.cell? ⟨g, j, none⟩ = some (.pointer (some ⟨bi, 0, none⟩)) → (wx.setCell ⟨b, 2, none⟩ v).cell? ⟨g, i, none⟩ = some (.pointer (some ⟨bj, 0, none⟩)) ∧ (wx.setCell ⟨b, 2, none⟩ v).cell? ⟨g, j, none⟩ = some (.pointer (some ⟨bi, 0, none⟩))) := fun wx b v hb h => ⟨(World.cell?_of_block (Below.heap_setCell _ _ _ _ hb.symm)).trans h.1, (World.cell?_of_block (Below.heap_setCell _ _ _ _ hb.symm)).trans h.2⟩
    have gbj : bj ≠ g := by rw [HB.out.2]; exact HH.out.gap j hj
    have gbi : bi ≠ g := by rw [HB.out.1]; exact HH.out.gap i hi
    refine wp_region_held_drew (S := fun wx => wx.cell? ⟨g, i, none⟩ = some (.pointer (some ⟨bj, 0, none⟩)) ∧ wx.cell? ⟨g, j, none⟩ = some (.pointer (some ⟨bi, 0, none⟩))) (by kernel_rfl) ⟨d1, d2⟩ (fun hHeld => ?_)
    refine takeH (i := 0) (some 20) (.slice (some ⟨g, 0, none⟩) n cap) rfl rfl (by kernel_rfl) (by kernel_rfl) (by kernel_rfl) (fun _ _ _ h => h) (Or.inl ⟨by rfl, ?_⟩) (by assumption) ?_
    · (intro w hSw; (try dsimp only at hSw); go_simp)
    simp only [Act.put, List.setIfInBounds_toArray, List.set_cons_zero, List.set_cons_succ]
    refine takeH (i := 1) (some 21) (.int .i64 (i : Int)) rfl rfl (by kernel_rfl) (by kernel_rfl) (by kernel_rfl) (fun _ _ _ h => h) (Or.inl ⟨by rfl, ?_⟩) (by assumption) ?_
    · (intro w hSw; (try dsimp only at hSw); go_simp)
    simp only [Act.put, List.setIfInBounds_toArray, List.set_cons_zero, List.set_cons_succ]
    refine takeH (i := 2) (some 22) (.pointer (some ⟨g, i, none⟩)) rfl rfl (by kernel_rfl) (by kernel_rfl) (by kernel_rfl) (fun _ _ _ h => h) (Or.inl ⟨by rfl, ?_⟩) (by assumption) ?_
    · (intro w hSw; (try dsimp only at hSw); go_simp)
    simp only [Act.put, List.setIfInBounds_toArray, List.set_cons_zero, List.set_cons_succ]
    refine takeH (i := 3) (some 23) (.pointer (some ⟨bj, 0, none⟩)) rfl rfl (by kernel_rfl) (by kernel_rfl) (by kernel_rfl) (fun _ _ _ h => h) (Or.inl ⟨by rfl, ?_⟩) (by assumption) ?_
    · (intro w hSw; (try dsimp only at hSw); go_simp)
    simp only [Act.put, List.setIfInBounds_toArray, List.set_cons_zero, List.set_cons_succ]
    refine takeH (i := 4) (some 24) (.slice (some ⟨g, 0, none⟩) n cap) rfl rfl (by kernel_rfl) (by kernel_rfl) (by kernel_rfl) (fun _ _ _ h => h) (Or.inl ⟨by rfl, ?_⟩) (by assumption) ?_
    · (intro w hSw; (try dsimp only at hSw); go_simp)
    simp only [Act.put, List.setIfInBounds_toArray, List.set_cons_zero, List.set_cons_succ]
    refine takeH (i := 5) (some 25) (.int .i64 (j : Int)) rfl rfl (by kernel_rfl) (by kernel_rfl) (by kernel_rfl) (fun _ _ _ h => h) (Or.inl ⟨by rfl, ?_⟩) (by assumption) ?_
    · (intro w hSw; (try dsimp only at hSw); go_simp)
    simp only [Act.put, List.setIfInBounds_toArray, List.set_cons_zero, List.set_cons_succ]
    refine takeH (i := 6) (some 26) (.pointer (some ⟨g, j, none⟩)) rfl rfl (by kernel_rfl) (by kernel_rfl) (by kernel_rfl) (fun _ _ _ h => h) (Or.inl ⟨by rfl, ?_⟩) (by assumption) ?_
    · (intro w hSw; (try dsimp only at hSw); go_simp)
    simp only [Act.put, List.setIfInBounds_toArray, List.set_cons_zero, List.set_cons_succ]
    refine takeH (i := 7) (some 27) (.pointer (some ⟨bi, 0, none⟩)) rfl rfl (by kernel_rfl) (by kernel_rfl) (by kernel_rfl) (fun _ _ _ h => h) (Or.inl ⟨by rfl, ?_⟩) (by assumption) ?_
    · (intro w hSw; (try dsimp only at hSw); go_simp)
    simp only [Act.put, List.setIfInBounds_toArray, List.set_cons_zero, List.set_cons_succ]
    refine takeH (i := 8) (some 28) (.int .i64 (i : Int)) rfl rfl (by kernel_rfl) (by kernel_rfl) (by kernel_rfl) (fun _ _ _ h => h) (Or.inl ⟨by rfl, ?_⟩) (by assumption) ?_
    · (intro w hSw; (try dsimp only at hSw); go_simp)
    simp only [Act.put, List.setIfInBounds_toArray, List.set_cons_zero, List.set_cons_succ]
    refine takeH (i := 9) (some 29) (.int .i64 (j : Int)) rfl rfl (by kernel_rfl) (by kernel_rfl) (by kernel_rfl) (fun _ _ _ h => h) (Or.inl ⟨by rfl, ?_⟩) (by assumption) ?_
    · (intro w hSw; (try dsimp only at hSw); go_simp)
    simp only [Act.put, List.setIfInBounds_toArray, List.set_cons_zero, List.set_cons_succ]
    refine takeH (i := 10) (some 30) (.pointer (some ⟨bj, 0, none⟩)) rfl rfl (by kernel_rfl) (by kernel_rfl) (by kernel_rfl) (fun _ _ _ h => h) (Or.inl ⟨by rfl, ?_⟩) (by assumption) ?_
    · (intro w hSw; (try dsimp only at hSw); go_simp)
    simp only [Act.put, List.setIfInBounds_toArray, List.set_cons_zero, List.set_cons_succ]
    refine takeH (i := 11) (some 31) (.pointer (some ⟨bj, 2, none⟩)) rfl rfl (by kernel_rfl) (by kernel_rfl) (by kernel_rfl) (fun _ _ _ h => h) (Or.inl ⟨by rfl, ?_⟩) (by assumption) ?_
    · (intro w hSw; (try dsimp only at hSw); go_simp)
    simp only [Act.put, List.setIfInBounds_toArray, List.set_cons_zero, List.set_cons_succ]
    refine wpAnyH_ready (rs := [12]) (by kernel_rfl) (by simp) ?_
    refine AllReadyH.cons (by simp only [List.getElem?_toArray, List.getElem?_cons_succ, List.getElem?_cons_zero]; rfl) (fun KK hK => ?_) AllReadyH.nil
    go_simp
    refine hK.out _ _ (HKP.out _ _ _ gbj ⟨d1, d2⟩) (fun hHeld => ?_)
    clear hK KK
    obtain ⟨w3, hw3⟩ : ∃ w3, w3 = (w2.setCell ⟨bj, 2, none⟩ (.int .i64 (i : Int))).drew := ⟨_, rfl⟩
    rw [← hw3] at hHeld ⊢
    obtain ⟨v3, c3⟩ : ∃ v, w3.heap[bi]? = some (.cells #[.pointer (some ⟨bm (L i), 0, none⟩), .int .i64 ((L i * 1024 : Nat) : Int), v] 87) := by
      by_cases e : bi = bj
      · rw [hw3]; subst e; exact ⟨_, setCell_head (w := w2) HW2.out.2.2.2 _⟩
      · rw [hw3]; exact ⟨_, (Below.heap_setCell _ _ _ _ e).trans HW2.out.2.2.2⟩
    have c32 : w3.cell? ⟨bi, 2, none⟩ = some v3 := by rw [cell_of_row _ _ _ _ _ _ c3]; rfl
    have f32 := frozen_of_row w3 bi 2 _ _ c3
    have HW3 := hid hw3
    clear hw3 c3
    refine takeH (i := 13) (some 32) (.pointer (some ⟨bi, 0, none⟩)) rfl rfl (by kernel_rfl) (by kernel_rfl) (by kernel_rfl) (fun _ _ _ h => h) (Or.inl ⟨by rfl, ?_⟩) (by assumption) ?_
    · (intro w hSw; (try dsimp only at hSw); go_simp)
    simp only [Act.put, List.setIfInBounds_toArray, List.set_cons_zero, List.set_cons_succ]
    refine takeH (i := 14) (some 33) (.pointer (some ⟨bi, 2, none⟩)) rfl rfl (by kernel_rfl) (by kernel_rfl) (by kernel_rfl) (fun _ _ _ h => h) (Or.inl ⟨by rfl, ?_⟩) (by assumption) ?_
    · (intro w hSw; (try dsimp only at hSw); go_simp)
    simp only [Act.put, List.setIfInBounds_toArray, List.set_cons_zero, List.set_cons_succ]
    refine wpAnyH_ready (rs := [15]) (by kernel_rfl) (by simp) ?_
    refine AllReadyH.cons (by simp only [List.getElem?_toArray, List.getElem?_cons_succ, List.getElem?_cons_zero]; rfl) (fun KK hK => ?_) AllReadyH.nil
    go_simp
    refine hK.out _ _ (HKP.out _ _ _ gbi hHeld) (fun hHeld => ?_)
    clear hK KK
    refine wpAnyH_done (by kernel_rfl) ?_ _
    go_wp2_with fail
    go_end0
    refine ⟨rfl, ?_, ?_⟩
    · rw [HW3.out, HW2.out.1, HW1.out.1, HB.out.1, HB.out.2]; exact HS.out
    · rw [HW3.out, HW2.out.1, HW1.out.1]
      exact (((((Turn.refl _ w).but (But.setCell (But.refl g _) (.inl rfl) _) (.inl (.inl rfl))).drew.but (But.setCell (But.refl g _) (.inl rfl) _) (.inl (.inl rfl))).but (But.setCell (But.refl bj _) (.inl rfl) _) (.inl (.inr (.inr HB.out.2)))).drew.but (But.setCell (But.refl bi _) (.inl rfl) _) (.inl (.inr (.inl HB.out.1))))
  · go_simp
    refine hK.out _ _ trivial (fun hHeld => ?_)
    clear hK KK
    refine wpAnyH_ready (rs := [7]) (by kernel_rfl) (by simp) ?_
    refine AllReadyH.cons (by simp only [List.getElem?_toArray, List.getElem?_cons_succ, List.getElem?_cons_zero]; rfl) (fun KK hK => ?_) AllReadyH.nil
    go_simp
    refine hK.out _ _ trivial (fun hHeld => ?_)
    clear hK KK
    refine takeH (i := 12) (some 18) (.pointer (some ⟨g, i, none⟩)) rfl rfl (by kernel_rfl) (by kernel_rfl) (by kernel_rfl) (fun _ _ _ h => h) (Or.inl ⟨by rfl, ?_⟩) (by assumption) ?_
    · (intro w hSw; (try dsimp only at hSw); go_simp)
    simp only [Act.put, List.setIfInBounds_toArray, List.set_cons_zero, List.set_cons_succ]
    refine wpAnyH_ready (rs := [13]) (by kernel_rfl) (by simp) ?_
    refine AllReadyH.cons (by simp only [List.getElem?_toArray, List.getElem?_cons_succ, List.getElem?_cons_zero]; rfl) (fun KK hK => ?_) AllReadyH.nil
    go_simp
    refine hK.out _ _ trivial (fun hHeld => ?_)
    clear hK KK
    obtain ⟨w1, hw1⟩ : ∃ w1, w1 = (w.setCell ⟨g, i, none⟩ (.pointer (some ⟨bj, 0, none⟩))).drew := ⟨_, rfl⟩
    rw [← hw1]
    have hb1 : w1.heap[g]? = some (.cells (cur.setIfInBounds i (.pointer (some ⟨bj, 0, none⟩))) 82) := by rw [hw1]; exact setCell_head (w := w) HBO.out.1 _
    obtain ⟨v1, hv1⟩ : ∃ v, w1.cell? ⟨g, j, none⟩ = some v := by
      rw [cell_of_row _ _ _ _ _ _ hb1]
      exact ⟨_, Array.getElem?_eq_getElem (by rw [Array.size_setIfInBounds, HBO.out.2]; have := HH.out.len; omega)⟩
    have f1 := frozen_of_row w1 g j _ _ hb1
    have HW1 := hid (And.intro hw1 hb1)
    clear hw1 hb1
    refine takeH (i := 14) (some 19) (.pointer (some ⟨g, j, none⟩)) rfl rfl (by kernel_rfl) (by kernel_rfl) (by kernel_rfl) (fun _ _ _ h => h) (Or.inl ⟨by rfl, ?_⟩) (by assumption) ?_
    · (intro w hSw; (try dsimp only at hSw); go_simp)
    simp only [Act.put, List.setIfInBounds_toArray, List.set_cons_zero, List.set_cons_succ]
    refine wpAnyH_ready (rs := [15]) (by kernel_rfl) (by simp) ?_
    refine AllReadyH.cons (by simp only [List.getElem?_toArray, List.getElem?_cons_succ, List.getElem?_cons_zero]; rfl) (fun KK hK => ?_) AllReadyH.nil
    go_simp
    refine hK.out _ _ trivial (fun hHeld => ?_)
    clear hK KK
    refine wpAnyH_done (by kernel_rfl) ?_ _
    obtain ⟨w2, hw2⟩ : ∃ w2, w2 = w1.setCell ⟨g, j, none⟩ (.pointer (some ⟨bi, 0, none⟩)) := ⟨_, rfl⟩
    rw [← hw2]
    have hb2 : w2.heap[g]? = some (.cells ((cur.setIfInBounds i (.pointer (some ⟨bj, 0, none⟩))).setIfInBounds j (.pointer (some ⟨bi, 0, none⟩))) 82) := by rw [hw2]; exact setCell_head HW1.out.2 _
    have d1 : w2.cell? ⟨g, i, none⟩ = some (.pointer (some ⟨bj, 0, none⟩)) := by
      rw [cell_of_row _ _ _ _ _ _ hb2]
      by_cases e : i = j
      · subst e
        rw [Array.getElem?_setIfInBounds_self_of_lt (by rw [Array.size_setIfInBounds, HBO.out.2]; have := HH.out.len; omega), HB.out.1, HB.out.2]
      · rw [Array.getElem?_setIfInBounds_ne (by omega), Array.getElem?_setIfInBounds_self_of_lt (by rw [HBO.out.2]; have := HH.out.len; omega)]
    have d2 : w2.cell? ⟨g, j, none⟩ = some (.pointer (some ⟨bi, 0, none⟩)) := by
      rw [cell_of_row _ _ _ _ _ _ hb2, Array.getElem?_setIfInBounds_self_of_lt (by rw [Array.size_setIfInBounds, HBO.out.2]; have := HH.out.len; omega)]
    have o2 : ∀ x, x ≠ g → w2.heap[x]? = w.heap[x]? := fun x hx => by rw [hw2, Below.heap_setCell _ _ _ _ hx, HW1.out.1]; exact Below.heap_setCell w _ _ _ hx
    have sj : w2.heap[bj]? = some (.cells #[.pointer (some ⟨bm (L j), 0, none⟩), .int .i64 ((L j * 1024 : Nat) : Int), .int .i64 (j : Int)] 87) := by rw [HB.out.2]; exact (o2 _ (HH.out.gap j hj)).trans (HH.out.slab j hj)
    have si : w2.heap[bi]? = some (.cells #[.pointer (some ⟨bm (L i), 0, none⟩), .int .i64 ((L i * 1024 : Nat) : Int), .int .i64 (i : Int)] 87) := by rw [HB.out.1]; exact (o2 _ (HH.out.gap i hi)).trans (HH.out.slab i hi)
    have cj2 : w2.cell? ⟨bj, 2, none⟩ = some (.int .i64 (j : Int)) := by rw [cell_of_row _ _ _ _ _ _ sj]; rfl
    have fj2 := frozen_of_row w2 bj 2 _ _ sj
    have HW2 := hid (And.intro hw2 (And.intro hb2 (And.intro sj si)))
    clear hw2 hb2 o2 sj si hv1 f1 ci cj fi fj hHeld
    go_wp2_with fail
    have HKP : Hid (∀ (wx : World) (b : Nat) (v : Value), b ≠ g → wx.cell? ⟨g, i, none⟩ = some (.pointer (some ⟨bj, 0, none⟩)) ∧ wx.cell? ⟨g, j, none⟩ = some (.pointer (some ⟨bi, 0, none⟩)) → (wx.setCell ⟨b, 2, none⟩ v).cell? ⟨g, i, none⟩ = some (.pointer (some ⟨bj, 0, none⟩)) ∧ (wx.setCell ⟨b, 2, none⟩ v).cell? ⟨g, j, none⟩ = some (.pointer (some ⟨bi, 0, none⟩))) := fun wx b v hb h => ⟨(World.cell?_of_block (Below.heap_setCell _ _ _ _ hb.symm)).trans h.1, (World.cell?_of_block (Below.heap_setCell _ _ _ _ hb.symm)).trans h.2⟩
    have gbj : bj ≠ g := by rw [HB.out.2]; exact HH.out.gap j hj
    have gbi : bi ≠ g := by rw [HB.out.1]; exact HH.out.gap i hi
    refine wp_region_held_drew (S := fun wx => wx.cell? ⟨g, i, none⟩ = some (.pointer (some ⟨bj, 0, none⟩)) ∧ wx.cell? ⟨g, j, none⟩ = some (.pointer (some ⟨bi, 0, none⟩))) (by kernel_rfl) ⟨d1, d2⟩ (fun hHeld => ?_)
    refine takeH (i := 0) (some 20) (.slice (some ⟨g, 0, none⟩) n cap) rfl rfl (by kernel_rfl) (by kernel_rfl) (by kernel_rfl) (fun _ _ _ h => h) (Or.inl ⟨by rfl, ?_⟩) (by assumption) ?_
    · (intro w hSw; (try dsimp only at hSw); go_simp)
    simp only [Act.put, List.setIfInBounds_toArray, List.set_cons_zero, List.set_cons_succ]
    refine takeH (i := 1) (some 21) (.int .i64 (i : Int)) rfl rfl (by kernel_rfl) (by kernel_rfl) (by kernel_rfl) (fun _ _ _ h => h) (Or.inl ⟨by rfl, ?_⟩) (by assumption) ?_
    · (intro w hSw; (try dsimp only at hSw); go_simp)
    simp only [Act.put, List.setIfInBounds_toArray, List.set_cons_zero, List.set_cons_succ]
    refine takeH (i := 2) (some 22) (.pointer (some ⟨g, i, none⟩)) rfl rfl (by kernel_rfl) (by kernel_rfl) (by kernel_rfl) (fun _ _ _ h => h) (Or.inl ⟨by rfl, ?_⟩) (by assumption) ?_
    · (intro w hSw; (try dsimp only at hSw); go_simp)
    simp only [Act.put, List.setIfInBounds_toArray, List.set_cons_zero, List.set_cons_succ]
    refine takeH (i := 3) (some 23) (.pointer (some ⟨bj, 0, none⟩)) rfl rfl (by kernel_rfl) (by kernel_rfl) (by kernel_rfl) (fun _ _ _ h => h) (Or.inl ⟨by rfl, ?_⟩) (by assumption) ?_
    · (intro w hSw; (try dsimp only at hSw); go_simp)
    simp only [Act.put, List.setIfInBounds_toArray, List.set_cons_zero, List.set_cons_succ]
    refine takeH (i := 4) (some 24) (.slice (some ⟨g, 0, none⟩) n cap) rfl rfl (by kernel_rfl) (by kernel_rfl) (by kernel_rfl) (fun _ _ _ h => h) (Or.inl ⟨by rfl, ?_⟩) (by assumption) ?_
    · (intro w hSw; (try dsimp only at hSw); go_simp)
    simp only [Act.put, List.setIfInBounds_toArray, List.set_cons_zero, List.set_cons_succ]
    refine takeH (i := 5) (some 25) (.int .i64 (j : Int)) rfl rfl (by kernel_rfl) (by kernel_rfl) (by kernel_rfl) (fun _ _ _ h => h) (Or.inl ⟨by rfl, ?_⟩) (by assumption) ?_
    · (intro w hSw; (try dsimp only at hSw); go_simp)
    simp only [Act.put, List.setIfInBounds_toArray, List.set_cons_zero, List.set_cons_succ]
    refine takeH (i := 6) (some 26) (.pointer (some ⟨g, j, none⟩)) rfl rfl (by kernel_rfl) (by kernel_rfl) (by kernel_rfl) (fun _ _ _ h => h) (Or.inl ⟨by rfl, ?_⟩) (by assumption) ?_
    · (intro w hSw; (try dsimp only at hSw); go_simp)
    simp only [Act.put, List.setIfInBounds_toArray, List.set_cons_zero, List.set_cons_succ]
    refine takeH (i := 7) (some 27) (.pointer (some ⟨bi, 0, none⟩)) rfl rfl (by kernel_rfl) (by kernel_rfl) (by kernel_rfl) (fun _ _ _ h => h) (Or.inl ⟨by rfl, ?_⟩) (by assumption) ?_
    · (intro w hSw; (try dsimp only at hSw); go_simp)
    simp only [Act.put, List.setIfInBounds_toArray, List.set_cons_zero, List.set_cons_succ]
    refine takeH (i := 8) (some 28) (.int .i64 (i : Int)) rfl rfl (by kernel_rfl) (by kernel_rfl) (by kernel_rfl) (fun _ _ _ h => h) (Or.inl ⟨by rfl, ?_⟩) (by assumption) ?_
    · (intro w hSw; (try dsimp only at hSw); go_simp)
    simp only [Act.put, List.setIfInBounds_toArray, List.set_cons_zero, List.set_cons_succ]
    refine takeH (i := 9) (some 29) (.int .i64 (j : Int)) rfl rfl (by kernel_rfl) (by kernel_rfl) (by kernel_rfl) (fun _ _ _ h => h) (Or.inl ⟨by rfl, ?_⟩) (by assumption) ?_
    · (intro w hSw; (try dsimp only at hSw); go_simp)
    simp only [Act.put, List.setIfInBounds_toArray, List.set_cons_zero, List.set_cons_succ]
    refine takeH (i := 10) (some 30) (.pointer (some ⟨bj, 0, none⟩)) rfl rfl (by kernel_rfl) (by kernel_rfl) (by kernel_rfl) (fun _ _ _ h => h) (Or.inl ⟨by rfl, ?_⟩) (by assumption) ?_
    · (intro w hSw; (try dsimp only at hSw); go_simp)
    simp only [Act.put, List.setIfInBounds_toArray, List.set_cons_zero, List.set_cons_succ]
    refine takeH (i := 11) (some 31) (.pointer (some ⟨bj, 2, none⟩)) rfl rfl (by kernel_rfl) (by kernel_rfl) (by kernel_rfl) (fun _ _ _ h => h) (Or.inl ⟨by rfl, ?_⟩) (by assumption) ?_
    · (intro w hSw; (try dsimp only at hSw); go_simp)
    simp only [Act.put, List.setIfInBounds_toArray, List.set_cons_zero, List.set_cons_succ]
    refine wpAnyH_ready (rs := [12]) (by kernel_rfl) (by simp) ?_
    refine AllReadyH.cons (by simp only [List.getElem?_toArray, List.getElem?_cons_succ, List.getElem?_cons_zero]; rfl) (fun KK hK => ?_) AllReadyH.nil
    go_simp
    refine hK.out _ _ (HKP.out _ _ _ gbj ⟨d1, d2⟩) (fun hHeld => ?_)
    clear hK KK
    obtain ⟨w3, hw3⟩ : ∃ w3, w3 = (w2.setCell ⟨bj, 2, none⟩ (.int .i64 (i : Int))).drew := ⟨_, rfl⟩
    rw [← hw3] at hHeld ⊢
    obtain ⟨v3, c3⟩ : ∃ v, w3.heap[bi]? = some (.cells #[.pointer (some ⟨bm (L i), 0, none⟩), .int .i64 ((L i * 1024 : Nat) : Int), v] 87) := by
      by_cases e : bi = bj
      · rw [hw3]; subst e; exact ⟨_, setCell_head (w := w2) HW2.out.2.2.2 _⟩
      · rw [hw3]; exact ⟨_, (Below.heap_setCell _ _ _ _ e).trans HW2.out.2.2.2⟩
    have c32 : w3.cell? ⟨bi, 2, none⟩ = some v3 := by rw [cell_of_row _ _ _ _ _ _ c3]; rfl
    have f32 := frozen_of_row w3 bi 2 _ _ c3
    have HW3 := hid hw3
    clear hw3 c3
    refine takeH (i := 13) (some 32) (.pointer (some ⟨bi, 0, none⟩)) rfl rfl (by kernel_rfl) (by kernel_rfl) (by kernel_rfl) (fun _ _ _ h => h) (Or.inl ⟨by rfl, ?_⟩) (by assumption) ?_
    · (intro w hSw; (try dsimp only at hSw); go_simp)
    simp only [Act.put, List.setIfInBounds_toArray, List.set_cons_zero, List.set_cons_succ]
    refine takeH (i := 14) (some 33) (.pointer (some ⟨bi, 2, none⟩)) rfl rfl (by kernel_rfl) (by kernel_rfl) (by kernel_rfl) (fun _ _ _ h => h) (Or.inl ⟨by rfl, ?_⟩) (by assumption) ?_
    · (intro w hSw; (try dsimp only at hSw); go_simp)
    simp only [Act.put, List.setIfInBounds_toArray, List.set_cons_zero, List.set_cons_succ]
    refine wpAnyH_ready (rs := [15]) (by kernel_rfl) (by simp) ?_
    refine AllReadyH.cons (by simp only [List.getElem?_toArray, List.getElem?_cons_succ, List.getElem?_cons_zero]; rfl) (fun KK hK => ?_) AllReadyH.nil
    go_simp
    refine hK.out _ _ (HKP.out _ _ _ gbi hHeld) (fun hHeld => ?_)
    clear hK KK
    refine wpAnyH_done (by kernel_rfl) ?_ _
    go_wp2_with fail
    go_end0
    refine ⟨rfl, ?_, ?_⟩
    · rw [HW3.out, HW2.out.1, HW1.out.1, HB.out.1, HB.out.2]; exact HS.out
    · rw [HW3.out, HW2.out.1, HW1.out.1]
      exact (((((Turn.refl _ w).but (But.setCell (But.refl g _) (.inl rfl) _) (.inl (.inl rfl))).drew.but (But.setCell (But.refl g _) (.inl rfl) _) (.inl (.inl rfl))).but (But.setCell (But.refl bj _) (.inl rfl) _) (.inl (.inr (.inr HB.out.2)))).drew.but (But.setCell (But.refl bi _) (.inl rfl) _) (.inl (.inr (.inl HB.out.1))))
end Go.Proofs.YtohaoeilodebmaaDoor
