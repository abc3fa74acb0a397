/- An operation of a region that draws, taken first. · A heap in a row, the least one first: what a swap on the way up and on the way down leaves. No program is named here. · The open slabs in memory, as a heap in a row: contracts of Len, Less and Swap. · The library's heap over the open slabs: contracts of up. · The library's heap over the open slabs: the contract of down. · The open slabs' own Push. · The library's heap over the open slabs: the contract of Push. · The library's heap over the open slabs: Push puts a slab where it belongs. · The library's heap over the open slabs: the row's own Pop; Pop; Remove. · The library's heap over the open slabs: Pop takes the least one, Remove the one that stands there. · The library's heap over the open slabs: Remove takes the one that stands there. -/
import Derived.Test.YtdmnemgooagehaaGreatDoorWb
import Derived.Deep.RegionHeld3
import Derived.Deep.AppendLies
import Derived.Deep.QuietTactic
import Derived.BigQuiet
import Derived.Deep.CutRange
import Derived.Test.YtdmnemgooagehaaGreatDoorWa
import Derived.Test.YtdmnemgooagehaaGreatDoorWq
import Derived.Deep.Cut
namespace Go.Proofs.YtdmnemgooagehaaGreatDoor
open Go.RowKit Go.Maps

theorem setCell_head {w : World} {r j : Nat} {cs : Array Value} {t : TypeId} (h : w.heap[r]? = some (.cells cs t)) (v : Value) : (w.setCell ⟨r, j, none⟩ v).heap[r]? = some (.cells (cs.setIfInBounds j v) t) := heap_setCell_same _ r j _ _ _ h
theorem Turn.but {S : Nat → Prop} {a w w' : World} {g : Nat} (h : Turn S a w) (k : But g w w') (hS : S g ∨ a.heap.size ≤ g) : Turn S a w' :=
  ⟨k.os.trans h.os, k.tape.trans h.tape, k.output.trans h.output, Nat.le_trans h.size k.size, fun i hi hn => (k.block i (Nat.lt_of_lt_of_le hi h.size) (fun e => by subst e; rcases hS with h1 | h1; exact hn h1; omega)).trans (h.block i hi hn)⟩
/-- An operation of a region that draws is taken first; where its answer goes is written out. -/
theorem takeH {P : Program} {ops : Array Oper} {Q : Exit → Act → World → Prop} {md : Region.Mode} {S : World → Prop} {i : Nat} {oi : Oper} (d : Option Tmp) (v : Value) {fuel : Nat} {listed : Array Bool} {a : Act} {w : World} (hi : ops[i]? = some oi) (hd : oi.dst = d)
    (hs : Region.noSelect ops = true) (hf : Region.free md ops listed i = true) (hr : (Region.ready md ops listed).contains i = true)
    (hQ : ∀ c a w, Q (.panic c) (a.put oi.dst v) w → Q (.panic c) a w) (hy : YieldsIf P ops S oi v a) (hS : S w)
    (h : wpAnyH P md ops Q S fuel (listed.setIfInBounds i true) (a.put d v) w) : wpAnyH P md ops Q S (fuel + 1) listed a w := by
  subst hd
  exact wpAnyH_take hi hs hf hr hQ hy hS h
end Go.Proofs.YtdmnemgooagehaaGreatDoor

namespace Go.Proofs.YtdmnemgooagehaaGreatDoor

/-- Two places of a row are swapped. -/
def swp (L : Nat → Nat) (i j : Nat) : Nat → Nat := fun k => if k = i then L j else if k = j then L i else L k
theorem swp_l (L : Nat → Nat) (i j : Nat) : swp L i j i = L j := by simp [swp]
theorem swp_r (L : Nat → Nat) (i j : Nat) : swp L i j j = L i := by
  unfold swp
  by_cases h : j = i
  · subst h; simp
  · simp [h]
theorem swp_o (L : Nat → Nat) {i j k : Nat} (h : k ≠ i) (h' : k ≠ j) : swp L i j k = L k := by simp [swp, h, h']

/-- The heap's order among the first n. -/
def Hpo (L : Nat → Nat) (n : Nat) : Prop := ∀ k, 0 < k → k < n → L ((k - 1) / 2) ≤ L k
/-- All is in order but what stands at j, which may be too small. -/
def Upo (L : Nat → Nat) (n j : Nat) : Prop := (∀ k, 0 < k → k < n → k ≠ j → L ((k - 1) / 2) ≤ L k) ∧ ∀ k, 0 < k → k < n → (k - 1) / 2 = j → 0 < j → L ((j - 1) / 2) ≤ L k
/-- All is in order but what stands at i, which may be too small or too great. -/
def Geno (L : Nat → Nat) (n i : Nat) : Prop := (∀ k, 0 < k → k < n → k ≠ i → (k - 1) / 2 ≠ i → L ((k - 1) / 2) ≤ L k) ∧ ∀ k, 0 < k → k < n → (k - 1) / 2 = i → 0 < i → L ((i - 1) / 2) ≤ L k

theorem Hpo.up {L : Nat → Nat} {n : Nat} (h : Hpo L n) : Upo L (n + 1) n := by
  refine ⟨fun k h0 hk hne => h k h0 (by omega), fun k h0 hk he hn => by omega⟩
theorem Upo.done {L : Nat → Nat} {n j : Nat} (h : Upo L n j) (hj : 0 < j → L ((j - 1) / 2) ≤ L j) : Hpo L n := by
  intro k h0 hk
  by_cases e : k = j
  · subst e; exact hj h0
  · exact h.1 k h0 hk e
theorem Upo.step {L : Nat → Nat} {n j : Nat} (h : Upo L n j) (hj : 0 < j) (hn : j < n) (hlt : L j < L ((j - 1) / 2)) : Upo (swp L ((j - 1) / 2) j) n ((j - 1) / 2) := by
  obtain ⟨i, hi⟩ : ∃ i, i = (j - 1) / 2 := ⟨_, rfl⟩
  rw [← hi] at hlt ⊢
  have hij : i ≠ j := by omega
  refine ⟨fun k h0 hk hne => ?_, fun k h0 hk he h0i => ?_⟩
  · by_cases e : k = j
    · subst e
      rw [← hi, swp_l, swp_r]; omega
    · rw [swp_o L hne e]
      by_cases e2 : (k - 1) / 2 = i
      · rw [e2, swp_l]
        have := h.1 k h0 hk e
        rw [e2] at this; omega
      · by_cases e3 : (k - 1) / 2 = j
        · rw [e3, swp_r]
          have := h.2 k h0 hk e3 hj
          rw [← hi] at this; exact this
        · rw [swp_o L e2 e3]; exact h.1 k h0 hk e
  · have hpi : (i - 1) / 2 ≠ i := by omega
    have hpj : (i - 1) / 2 ≠ j := by omega
    rw [swp_o L hpi hpj]
    have h1 := h.1 i h0i (by omega) hij
    by_cases e : k = j
    · subst e; rw [swp_r]; exact h1
    · rw [swp_o L (by omega) e]
      have h2 := h.1 k h0 hk e
      rw [he] at h2; omega

/-- What stands at i was replaced. -/
theorem Hpo.gen {L L' : Nat → Nat} {n m i : Nat} (h : Hpo L m) (hn : n ≤ m) (hi : i < m) (he : ∀ k, k < n → k ≠ i → L' k = L k) : Geno L' n i := by
  refine ⟨fun k h0 hk hne hp => ?_, fun k h0 hk hp h0i => ?_⟩
  · rw [he k hk hne, he _ (by omega) hp]; exact h k h0 (by omega)
  · rw [he k hk (by omega), he _ (by omega) (by omega)]
    have h1 := h k h0 (by omega)
    have h2 := h i h0i hi
    rw [hp] at h1; omega
/-- Nothing below is less: it may be too small alone. -/
theorem Geno.up {L : Nat → Nat} {n i : Nat} (h : Geno L n i) (hc : ∀ k, 0 < k → k < n → (k - 1) / 2 = i → L i ≤ L k) : Upo L n i := by
  refine ⟨fun k h0 hk hne => ?_, h.2⟩
  by_cases e : (k - 1) / 2 = i
  · rw [e]; exact hc k h0 hk e
  · exact h.1 k h0 hk hne e
theorem Geno.done {L : Nat → Nat} {n i : Nat} (h : Geno L n i) (hp : 0 < i → L ((i - 1) / 2) ≤ L i) (hc : ∀ k, 0 < k → k < n → (k - 1) / 2 = i → L i ≤ L k) : Hpo L n := (h.up hc).done hp
/-- A step down, to the lesser one of those below. -/
theorem Geno.step {L : Nat → Nat} {n i j : Nat} (h : Geno L n i) (hj : (j - 1) / 2 = i) (h0 : 0 < j) (hn : j < n) (hl : L j < L i) (hm : ∀ k, 0 < k → k < n → (k - 1) / 2 = i → L j ≤ L k) :
    Geno (swp L i j) n j ∧ (0 < j → swp L i j ((j - 1) / 2) ≤ swp L i j j) := by
  have hij : i ≠ j := by omega
  refine ⟨⟨fun k hk0 hk hne hp => ?_, fun k hk0 hk hp _ => ?_⟩, fun _ => by rw [hj, swp_l, swp_r]; omega⟩
  · by_cases e : k = i
    · subst e
      rw [swp_l, swp_o L (by omega) hp]
      exact h.2 j h0 hn hj hk0
    · rw [swp_o L e hne]
      by_cases e2 : (k - 1) / 2 = i
      · rw [e2, swp_l]; exact hm k hk0 hk e2
      · rw [swp_o L e2 hp]; exact h.1 k hk0 hk e e2
  · rw [hj, swp_l, swp_o L (by omega) (by omega)]
    have := h.1 k hk0 hk (by omega) (by omega)
    rw [hp] at this; exact this
end Go.Proofs.YtdmnemgooagehaaGreatDoor

namespace Go.Proofs.YtdmnemgooagehaaGreatDoor
open Go.RowKit Go.Maps

/-- A row of pointers to slabs at block g, the page L k at place k; each slab knows its page and its place. -/
structure Hm (w : World) (g cap n : Nat) (L sb bm : Nat → Nat) : Prop where
  body : ∃ cur : Array Value, w.heap[g]? = some (.cells cur 115) ∧ cur.size = cap ∧ ∀ k, k < n → cur[k]? = some (.pointer (some ⟨sb (L k), 0, none⟩))
  slab : ∀ k, k < n → w.heap[sb (L k)]? = some (.cells #[.pointer (some ⟨bm (L k), 0, none⟩), .int .i64 ((L k * 1024 : Nat) : Int), .int .i64 (k : Int)] 118)
  one : ∀ i j, i < n → j < n → sb (L i) = sb (L j) → i = j
  gap : ∀ k, k < n → sb (L k) ≠ g
  len : n ≤ cap
  small : cap ≤ maxLen

section
variable {w w' : World} {g cap n : Nat} {L sb bm : Nat → Nat}
theorem Hm.cell (h : Hm w g cap n L sb bm) {k : Nat} (hk : k < n) : w.cell? ⟨g, k, none⟩ = some (.pointer (some ⟨sb (L k), 0, none⟩)) := by
  obtain ⟨cur, hb, _, hc⟩ := h.body
  rw [cell_of_row w g k _ _ _ hb]; exact hc k hk
theorem Hm.at_ (h : Hm w g cap n L sb bm) {k : Nat} (hk : k < n) : w.cell? ⟨sb (L k), 1, none⟩ = some (.int .i64 ((L k * 1024 : Nat) : Int)) := by
  rw [cell_of_row w _ 1 _ _ _ (h.slab k hk)]; rfl
theorem Hm.lg (h : Hm w g cap n L sb bm) : g < w.heap.size := by
  obtain ⟨cur, hb, _⟩ := h.body
  exact (Array.getElem?_eq_some_iff.1 hb).1
theorem Hm.other (h : Hm w g cap n L sb bm) (ho : ∀ x, (x = g ∨ ∃ k, k < n ∧ x = sb (L k)) → w'.heap[x]? = w.heap[x]?) : Hm w' g cap n L sb bm := by
  obtain ⟨cur, hb, h1, h2⟩ := h.body
  exact ⟨⟨cur, (ho g (.inl rfl)).trans hb, h1, h2⟩, fun k hk => (ho _ (.inr ⟨k, hk, rfl⟩)).trans (h.slab k hk), h.one, h.gap, h.len, h.small⟩
theorem Hm.swap (h : Hm w g cap n L sb bm) {i j : Nat} (hi : i < n) (hj : j < n) :
    Hm (((((w.drew).setCell ⟨g, i, none⟩ (.pointer (some ⟨sb (L j), 0, none⟩))).setCell ⟨g, j, none⟩ (.pointer (some ⟨sb (L i), 0, none⟩))).drew.setCell ⟨sb (L j), 2, none⟩ (.int .i64 (i : Int))).setCell ⟨sb (L i), 2, none⟩ (.int .i64 (j : Int))) g cap n (swp L i j) sb bm := by
  obtain ⟨cur, hb, h1, h2⟩ := h.body
  have hgi := h.gap i hi
  have hgj := h.gap j hj
  generalize hw1 : (w.drew).setCell ⟨g, i, none⟩ (.pointer (some ⟨sb (L j), 0, none⟩)) = w1
  have e1 : w1.heap[g]? = some (.cells (cur.setIfInBounds i (.pointer (some ⟨sb (L j), 0, none⟩))) 115) := by rw [← hw1]; exact setCell_head (w := w.drew) hb _
  have o1 : ∀ x, x ≠ g → w1.heap[x]? = w.heap[x]? := fun x hx => by rw [← hw1]; exact Below.heap_setCell _ _ _ _ hx
  generalize hw2 : w1.setCell ⟨g, j, none⟩ (.pointer (some ⟨sb (L i), 0, none⟩)) = w2
  have e2 : w2.heap[g]? = some (.cells ((cur.setIfInBounds i (.pointer (some ⟨sb (L j), 0, none⟩))).setIfInBounds j (.pointer (some ⟨sb (L i), 0, none⟩))) 115) := by rw [← hw2]; exact setCell_head e1 _
  have o2 : ∀ x, x ≠ g → w2.heap[x]? = w.heap[x]? := fun x hx => by rw [← hw2, Below.heap_setCell _ _ _ _ hx]; exact o1 x hx
  generalize hw3 : w2.drew.setCell ⟨sb (L j), 2, none⟩ (.int .i64 (i : Int)) = w3
  have e3 : w3.heap[sb (L j)]? = some (.cells #[.pointer (some ⟨bm (L j), 0, none⟩), .int .i64 ((L j * 1024 : Nat) : Int), .int .i64 (i : Int)] 118) := by
    rw [← hw3]
    exact (setCell_head (w := w2.drew) (show w2.heap[sb (L j)]? = _ from (o2 _ hgj).trans (h.slab j hj)) _)
  have o3 : ∀ x, x ≠ sb (L j) → w3.heap[x]? = w2.heap[x]? := fun x hx => by rw [← hw3]; exact Below.heap_setCell _ _ _ _ hx
  have e3i : ∃ v, w3.heap[sb (L i)]? = some (.cells #[.pointer (some ⟨bm (L i), 0, none⟩), .int .i64 ((L i * 1024 : Nat) : Int), v] 118) := by
    by_cases e : i = j
    · subst e; exact ⟨_, e3⟩
    · exact ⟨_, (o3 _ (fun e' => e (h.one i j hi hj e'))).trans ((o2 _ hgi).trans (h.slab i hi))⟩
  obtain ⟨v, e3i⟩ := e3i
  have e4 : (w3.setCell ⟨sb (L i), 2, none⟩ (.int .i64 (j : Int))).heap[sb (L i)]? = some (.cells #[.pointer (some ⟨bm (L i), 0, none⟩), .int .i64 ((L i * 1024 : Nat) : Int), .int .i64 (j : Int)] 118) := by rw [setCell_head e3i]; rfl
  have o4 : ∀ x, x ≠ sb (L i) → (w3.setCell ⟨sb (L i), 2, none⟩ (.int .i64 (j : Int))).heap[x]? = w3.heap[x]? := fun x hx => Below.heap_setCell _ _ _ _ hx
  generalize w3.setCell ⟨sb (L i), 2, none⟩ (.int .i64 (j : Int)) = w4 at *
  have hsw : ∀ k, k < n → swp L i j k = L (if k = i then j else if k = j then i else k) := fun k _ => by
    unfold swp; split
    · rfl
    · split <;> rfl
  refine ⟨⟨_, (o4 g hgi.symm).trans ((o3 g hgj.symm).trans e2), by simp [h1], fun k hk => ?_⟩, fun k hk => ?_, fun a b ha hb' he => ?_, fun k hk => ?_, h.len, h.small⟩
  · by_cases ej : k = j
    · subst ej
      rw [swp_r, Array.getElem?_setIfInBounds_self_of_lt (by simp [h1]; have := h.len; omega)]
    · rw [Array.getElem?_setIfInBounds_ne (by omega)]
      by_cases ei : k = i
      · subst ei
        rw [swp_l, Array.getElem?_setIfInBounds_self_of_lt (by simp [h1]; have := h.len; omega)]
      · rw [Array.getElem?_setIfInBounds_ne (by omega), swp_o L ei ej]; exact h2 k hk
  · by_cases ej : k = j
    · subst ej
      rw [swp_r]; exact e4
    · by_cases ei : k = i
      · subst ei
        rw [swp_l]
        exact (o4 _ (fun e => ej (h.one j k hj hi e).symm)).trans e3
      · rw [swp_o L ei ej]
        have n1 : sb (L k) ≠ sb (L i) := fun e => ei (h.one k i hk hi e)
        have n2 : sb (L k) ≠ sb (L j) := fun e => ej (h.one k j hk hj e)
        exact (o4 _ n1).trans ((o3 _ n2).trans ((o2 _ (h.gap k hk)).trans (h.slab k hk)))
  · rw [hsw a ha, hsw b hb'] at he
    have := h.one _ _ (by split; exact hj; split; exact hi; exact ha) (by split; exact hj; split; exact hi; exact hb') he
    split at this <;> split at this <;> (try split at this) <;> (try split at this) <;> omega
  · rw [hsw k hk]; exact h.gap _ (by split; exact hj; split; exact hi; exact hk)
end

theorem olen_any (a : Option Addr) (n cap : Nat) (w : World) : Calls Tryz.prog 68 #[.slice a n cap] w fun e w' => e = .returned (.int .i64 (n : Int)) ∧ w' = w := by
  go_enter Tryz.func68, Tryz.ntmps68
  go_wp2
  go_ret
  exact ⟨rfl, rfl⟩
theorem less_any (w : World) (g cap n : Nat) (L sb bm : Nat → Nat) (i j : Nat) (h : Hm w g cap n L sb bm) (hi : i < n) (hj : j < n) :
    Calls Tryz.prog 200 #[.slice (some ⟨g, 0, none⟩) n cap, .int .i64 (i : Int), .int .i64 (j : Int)] w fun e w' => e = .returned (.bool (decide (L i < L j))) ∧ ∃ q, w' = w.drewN q := by
  have ci := h.cell hi
  have cj := h.cell hj
  have ai := h.at_ hi
  have aj := h.at_ hj
  obtain ⟨zi, hzi⟩ : ∃ z : Nat, z = L i * 1024 := ⟨_, rfl⟩
  obtain ⟨zj, hzj⟩ : ∃ z : Nat, z = L j * 1024 := ⟨_, rfl⟩
  rw [← hzi] at ai
  rw [← hzj] at aj
  have hd : decide (L i < L j) = decide (zi < zj) := by
    rw [decide_eq_decide]; omega
  rw [hd]
  have hi1 : (i : Int) < (n : Int) := by omega
  have hj1 : (j : Int) < (n : Int) := by omega
  have hi0 : (0 : Int) ≤ (i : Int) := by omega
  have hj0 : (0 : Int) ≤ (j : Int) := by omega
  generalize sb (L i) = bi at *
  generalize sb (L j) = bj at *
  clear hzi hzj hd h
  go_enter Tryz.func200, Tryz.ntmps200
  go_wp2_with fail
  go_quiet (fail)
  go_wp2_with fail
  go_ret
  exact ⟨rfl, nq, rfl⟩

def SwapPost (w : World) (g cap n : Nat) (L sb bm : Nat → Nat) (i j : Nat) (e : Ending) (w' : World) : Prop := e = .returned (.tuple #[]) ∧ Hm w' g cap n (swp L i j) sb bm ∧ Turn (fun x => x = g ∨ x = sb (L i) ∨ x = sb (L j)) w w'
set_option maxHeartbeats 2000000 in
theorem swap_any (w : World) (g cap n : Nat) (L sb bm : Nat → Nat) (i j : Nat) (h : Hm w g cap n L sb bm) (hi : i < n) (hj : j < n) :
    Calls Tryz.prog 201 #[.slice (some ⟨g, 0, none⟩) n cap, .int .i64 (i : Int), .int .i64 (j : Int)] w (SwapPost w g cap n L sb bm i j) := by
  have ci := h.cell hi
  have cj := h.cell hj
  have hi1 : (i : Int) < (n : Int) := by omega
  have hj1 : (j : Int) < (n : Int) := by omega
  have hi0 : (0 : Int) ≤ (i : Int) := by omega
  have hj0 : (0 : Int) ≤ (j : Int) := by omega
  obtain ⟨cur, hbody, hsz, hcur⟩ := h.body
  have fi := frozen_of_row w g i _ _ hbody
  have fj := frozen_of_row w g j _ _ hbody
  have HS := hid (h.swap hi hj)
  obtain ⟨bi, hbi⟩ : ∃ b, b = sb (L i) := ⟨_, rfl⟩
  obtain ⟨bj, hbj⟩ : ∃ b, b = sb (L j) := ⟨_, rfl⟩
  rw [← hbi] at ci
  rw [← hbj] at cj
  have HB := hid (And.intro hbi hbj)
  have HH := hid h
  have HBO := hid (And.intro hbody hsz)
  clear h hbi hbj hbody hcur hsz
  go_enter Tryz.func201, Tryz.ntmps201
  go_wp2_with fail
  refine wp_region_held_drew (S := fun _ => True) (by kernel_rfl) trivial (fun hHeld => ?_)
  refine takeH (i := 0) (some 6) (.slice (some ⟨g, 0, none⟩) n cap) rfl rfl (by kernel_rfl) (by kernel_rfl) (by kernel_rfl) (fun _ _ _ h => h) (Or.inl ⟨by rfl, ?_⟩) (by assumption) ?_
  · (intro w hSw; (try dsimp only at hSw); go_simp)
  simp only [Act.put, List.setIfInBounds_toArray, List.set_cons_zero, List.set_cons_succ]
  refine takeH (i := 1) (some 7) (.int .i64 (i : Int)) rfl rfl (by kernel_rfl) (by kernel_rfl) (by kernel_rfl) (fun _ _ _ h => h) (Or.inl ⟨by rfl, ?_⟩) (by assumption) ?_
  · (intro w hSw; (try dsimp only at hSw); go_simp)
  simp only [Act.put, List.setIfInBounds_toArray, List.set_cons_zero, List.set_cons_succ]
  refine takeH (i := 2) (some 8) (.slice (some ⟨g, 0, none⟩) n cap) rfl rfl (by kernel_rfl) (by kernel_rfl) (by kernel_rfl) (fun _ _ _ h => h) (Or.inl ⟨by rfl, ?_⟩) (by assumption) ?_
  · (intro w hSw; (try dsimp only at hSw); go_simp)
  simp only [Act.put, List.setIfInBounds_toArray, List.set_cons_zero, List.set_cons_succ]
  refine takeH (i := 3) (some 9) (.int .i64 (j : Int)) rfl rfl (by kernel_rfl) (by kernel_rfl) (by kernel_rfl) (fun _ _ _ h => h) (Or.inl ⟨by rfl, ?_⟩) (by assumption) ?_
  · (intro w hSw; (try dsimp only at hSw); go_simp)
  simp only [Act.put, List.setIfInBounds_toArray, List.set_cons_zero, List.set_cons_succ]
  refine takeH (i := 4) (some 10) (.slice (some ⟨g, 0, none⟩) n cap) rfl rfl (by kernel_rfl) (by kernel_rfl) (by kernel_rfl) (fun _ _ _ h => h) (Or.inl ⟨by rfl, ?_⟩) (by assumption) ?_
  · (intro w hSw; (try dsimp only at hSw); go_simp)
  simp only [Act.put, List.setIfInBounds_toArray, List.set_cons_zero, List.set_cons_succ]
  refine takeH (i := 5) (some 11) (.int .i64 (j : Int)) rfl rfl (by kernel_rfl) (by kernel_rfl) (by kernel_rfl) (fun _ _ _ h => h) (Or.inl ⟨by rfl, ?_⟩) (by assumption) ?_
  · (intro w hSw; (try dsimp only at hSw); go_simp)
  simp only [Act.put, List.setIfInBounds_toArray, List.set_cons_zero, List.set_cons_succ]
  refine takeH (i := 6) (some 12) (.pointer (some ⟨g, j, none⟩)) rfl rfl (by kernel_rfl) (by kernel_rfl) (by kernel_rfl) (fun _ _ _ h => h) (Or.inl ⟨by rfl, ?_⟩) (by assumption) ?_
  · (intro w hSw; (try dsimp only at hSw); go_simp)
  simp only [Act.put, List.setIfInBounds_toArray, List.set_cons_zero, List.set_cons_succ]
  refine takeH (i := 8) (some 14) (.slice (some ⟨g, 0, none⟩) n cap) rfl rfl (by kernel_rfl) (by kernel_rfl) (by kernel_rfl) (fun _ _ _ h => h) (Or.inl ⟨by rfl, ?_⟩) (by assumption) ?_
  · (intro w hSw; (try dsimp only at hSw); go_simp)
  simp only [Act.put, List.setIfInBounds_toArray, List.set_cons_zero, List.set_cons_succ]
  refine takeH (i := 9) (some 15) (.int .i64 (i : Int)) rfl rfl (by kernel_rfl) (by kernel_rfl) (by kernel_rfl) (fun _ _ _ h => h) (Or.inl ⟨by rfl, ?_⟩) (by assumption) ?_
  · (intro w hSw; (try dsimp only at hSw); go_simp)
  simp only [Act.put, List.setIfInBounds_toArray, List.set_cons_zero, List.set_cons_succ]
  refine takeH (i := 10) (some 16) (.pointer (some ⟨g, i, none⟩)) rfl rfl (by kernel_rfl) (by kernel_rfl) (by kernel_rfl) (fun _ _ _ h => h) (Or.inl ⟨by rfl, ?_⟩) (by assumption) ?_
  · (intro w hSw; (try dsimp only at hSw); go_simp)
  simp only [Act.put, List.setIfInBounds_toArray, List.set_cons_zero, List.set_cons_succ]
  refine wpAnyH_ready (rs := [7, 11]) (by kernel_rfl) (by simp) ?_
  refine AllReadyH.cons (by simp only [List.getElem?_toArray, List.getElem?_cons_succ, List.getElem?_cons_zero]; rfl) (fun KK hK => ?_) (AllReadyH.cons (by simp only [List.getElem?_toArray, List.getElem?_cons_succ, List.getElem?_cons_zero]; rfl) (fun KK hK => ?_) AllReadyH.nil)
  · go_simp
    refine hK.out _ _ trivial (fun hHeld => ?_)
    clear hK KK
    refine wpAnyH_ready (rs := [11]) (by kernel_rfl) (by simp) ?_
    refine AllReadyH.cons (by simp only [List.getElem?_toArray, List.getElem?_cons_succ, List.getElem?_cons_zero]; rfl) (fun KK hK => ?_) AllReadyH.nil
    go_simp
    refine hK.out _ _ trivial (fun hHeld => ?_)
    clear hK KK
    refine takeH (i := 12) (some 18) (.pointer (some ⟨g, i, none⟩)) rfl rfl (by kernel_rfl) (by kernel_rfl) (by kernel_rfl) (fun _ _ _ h => h) (Or.inl ⟨by rfl, ?_⟩) (by assumption) ?_
    · (intro w hSw; (try dsimp only at hSw); go_simp)
    simp only [Act.put, List.setIfInBounds_toArray, List.set_cons_zero, List.set_cons_succ]
    refine wpAnyH_ready (rs := [13]) (by kernel_rfl) (by simp) ?_
    refine AllReadyH.cons (by simp only [List.getElem?_toArray, List.getElem?_cons_succ, List.getElem?_cons_zero]; rfl) (fun KK hK => ?_) AllReadyH.nil
    go_simp
    refine hK.out _ _ trivial (fun hHeld => ?_)
    clear hK KK
    obtain ⟨w1, hw1⟩ : ∃ w1, w1 = (w.setCell ⟨g, i, none⟩ (.pointer (some ⟨bj, 0, none⟩))).drew := ⟨_, rfl⟩
    rw [← hw1]
    have hb1 : w1.heap[g]? = some (.cells (cur.setIfInBounds i (.pointer (some ⟨bj, 0, none⟩))) 115) := by rw [hw1]; exact setCell_head (w := w) HBO.out.1 _
    obtain ⟨v1, hv1⟩ : ∃ v, w1.cell? ⟨g, j, none⟩ = some v := by
      rw [cell_of_row _ _ _ _ _ _ hb1]
      exact ⟨_, Array.getElem?_eq_getElem (by rw [Array.size_setIfInBounds, HBO.out.2]; have := HH.out.len; omega)⟩
    have f1 := frozen_of_row w1 g j _ _ hb1
    have HW1 := hid (And.intro hw1 hb1)
    clear hw1 hb1
    refine takeH (i := 14) (some 19) (.pointer (some ⟨g, j, none⟩)) rfl rfl (by kernel_rfl) (by kernel_rfl) (by kernel_rfl) (fun _ _ _ h => h) (Or.inl ⟨by rfl, ?_⟩) (by assumption) ?_
    · (intro w hSw; (try dsimp only at hSw); go_simp)
    simp only [Act.put, List.setIfInBounds_toArray, List.set_cons_zero, List.set_cons_succ]
    refine wpAnyH_ready (rs := [15]) (by kernel_rfl) (by simp) ?_
    refine AllReadyH.cons (by simp only [List.getElem?_toArray, List.getElem?_cons_succ, List.getElem?_cons_zero]; rfl) (fun KK hK => ?_) AllReadyH.nil
    go_simp
    refine hK.out _ _ trivial (fun hHeld => ?_)
    clear hK KK
    refine wpAnyH_done (by kernel_rfl) ?_ _
    obtain ⟨w2, hw2⟩ : ∃ w2, w2 = w1.setCell ⟨g, j, none⟩ (.pointer (some ⟨bi, 0, none⟩)) := ⟨_, rfl⟩
    rw [← hw2]
    have hb2 : w2.heap[g]? = some (.cells ((cur.setIfInBounds i (.pointer (some ⟨bj, 0, none⟩))).setIfInBounds j (.pointer (some ⟨bi, 0, none⟩))) 115) := by rw [hw2]; exact setCell_head HW1.out.2 _
    have d1 : w2.cell? ⟨g, i, none⟩ = some (.pointer (some ⟨bj, 0, none⟩)) := by
      rw [cell_of_row _ _ _ _ _ _ hb2]
      by_cases e : i = j
      · subst e
        rw [Array.getElem?_setIfInBounds_self_of_lt (by rw [Array.size_setIfInBounds, HBO.out.2]; have := HH.out.len; omega), HB.out.1, HB.out.2]
      · rw [Array.getElem?_setIfInBounds_ne (by omega), Array.getElem?_setIfInBounds_self_of_lt (by rw [HBO.out.2]; have := HH.out.len; omega)]
    have d2 : w2.cell? ⟨g, j, none⟩ = some (.pointer (some ⟨bi, 0, none⟩)) := by
      rw [cell_of_row _ _ _ _ _ _ hb2, Array.getElem?_setIfInBounds_self_of_lt (by rw [Array.size_setIfInBounds, HBO.out.2]; have := HH.out.len; omega)]
    have o2 : ∀ x, x ≠ g → w2.heap[x]? = w.heap[x]? := fun x hx => by rw [hw2, Below.heap_setCell _ _ _ _ hx, HW1.out.1]; exact Below.heap_setCell w _ _ _ hx
    have sj : w2.heap[bj]? = some (.cells #[.pointer (some ⟨bm (L j), 0, none⟩), .int .i64 ((L j * 1024 : Nat) : Int), .int .i64 (j : Int)] 118) := by rw [HB.out.2]; exact (o2 _ (HH.out.gap j hj)).trans (HH.out.slab j hj)
    have si : w2.heap[bi]? = some (.cells #[.pointer (some ⟨bm (L i), 0, none⟩), .int .i64 ((L i * 1024 : Nat) : Int), .int .i64 (i : Int)] 118) := by rw [HB.out.1]; exact (o2 _ (HH.out.gap i hi)).trans (HH.out.slab i hi)
    have cj2 : w2.cell? ⟨bj, 2, none⟩ = some (.int .i64 (j : Int)) := by rw [cell_of_row _ _ _ _ _ _ sj]; rfl
    have fj2 := frozen_of_row w2 bj 2 _ _ sj
    have HW2 := hid (And.intro hw2 (And.intro hb2 (And.intro sj si)))
    clear hw2 hb2 o2 sj si hv1 f1 ci cj fi fj hHeld
    go_wp2_with fail
    have HKP : Hid (∀ (wx : World) (b : Nat) (v : Value), b ≠ g → wx.cell? ⟨g, i, none⟩ = some (.pointer (some ⟨bj, 0, none⟩)) ∧ wx.cell? ⟨g, j, none⟩ = some (.pointer (some ⟨bi, 0, none⟩)) → (wx.setCell ⟨b, 2, none⟩ v).cell? ⟨g, i, none⟩ = some (.pointer (some ⟨bj, 0, none⟩)) ∧ (wx.setCell ⟨b, 2, none⟩ v).cell? ⟨g, j, none⟩ = some (.pointer (some ⟨bi, 0, none⟩))) := fun wx b v hb h => ⟨(World.cell?_of_block (Below.heap_setCell _ _ _ _ hb.symm)).trans h.1, (World.cell?_of_block (Below.heap_setCell _ _ _ _ hb.symm)).trans h.2⟩
    have gbj : bj ≠ g := by rw [HB.out.2]; exact HH.out.gap j hj
    have gbi : bi ≠ g := by rw [HB.out.1]; exact HH.out.gap i hi
    refine wp_region_held_drew (S := fun wx => wx.cell? ⟨g, i, none⟩ = some (.pointer (some ⟨bj, 0, none⟩)) ∧ wx.cell? ⟨g, j, none⟩ = some (.pointer (some ⟨bi, 0, none⟩))) (by kernel_rfl) ⟨d1, d2⟩ (fun hHeld => ?_)
    refine takeH (i := 0) (some 20) (.slice (some ⟨g, 0, none⟩) n cap) rfl rfl (by kernel_rfl) (by kernel_rfl) (by kernel_rfl) (fun _ _ _ h => h) (Or.inl ⟨by rfl, ?_⟩) (by assumption) ?_
    · (intro w hSw; (try dsimp only at hSw); go_simp)
    simp only [Act.put, List.setIfInBounds_toArray, List.set_cons_zero, List.set_cons_succ]
    refine takeH (i := 1) (some 21) (.int .i64 (i : Int)) rfl rfl (by kernel_rfl) (by kernel_rfl) (by kernel_rfl) (fun _ _ _ h => h) (Or.inl ⟨by rfl, ?_⟩) (by assumption) ?_
    · (intro w hSw; (try dsimp only at hSw); go_simp)
    simp only [Act.put, List.setIfInBounds_toArray, List.set_cons_zero, List.set_cons_succ]
    refine takeH (i := 2) (some 22) (.pointer (some ⟨g, i, none⟩)) rfl rfl (by kernel_rfl) (by kernel_rfl) (by kernel_rfl) (fun _ _ _ h => h) (Or.inl ⟨by rfl, ?_⟩) (by assumption) ?_
    · (intro w hSw; (try dsimp only at hSw); go_simp)
    simp only [Act.put, List.setIfInBounds_toArray, List.set_cons_zero, List.set_cons_succ]
    refine takeH (i := 3) (some 23) (.pointer (some ⟨bj, 0, none⟩)) rfl rfl (by kernel_rfl) (by kernel_rfl) (by kernel_rfl) (fun _ _ _ h => h) (Or.inl ⟨by rfl, ?_⟩) (by assumption) ?_
    · (intro w hSw; (try dsimp only at hSw); go_simp)
    simp only [Act.put, List.setIfInBounds_toArray, List.set_cons_zero, List.set_cons_succ]
    refine takeH (i := 4) (some 24) (.slice (some ⟨g, 0, none⟩) n cap) rfl rfl (by kernel_rfl) (by kernel_rfl) (by kernel_rfl) (fun _ _ _ h => h) (Or.inl ⟨by rfl, ?_⟩) (by assumption) ?_
    · (intro w hSw; (try dsimp only at hSw); go_simp)
    simp only [Act.put, List.setIfInBounds_toArray, List.set_cons_zero, List.set_cons_succ]
    refine takeH (i := 5) (some 25) (.int .i64 (j : Int)) rfl rfl (by kernel_rfl) (by kernel_rfl) (by kernel_rfl) (fun _ _ _ h => h) (Or.inl ⟨by rfl, ?_⟩) (by assumption) ?_
    · (intro w hSw; (try dsimp only at hSw); go_simp)
    simp only [Act.put, List.setIfInBounds_toArray, List.set_cons_zero, List.set_cons_succ]
    refine takeH (i := 6) (some 26) (.pointer (some ⟨g, j, none⟩)) rfl rfl (by kernel_rfl) (by kernel_rfl) (by kernel_rfl) (fun _ _ _ h => h) (Or.inl ⟨by rfl, ?_⟩) (by assumption) ?_
    · (intro w hSw; (try dsimp only at hSw); go_simp)
    simp only [Act.put, List.setIfInBounds_toArray, List.set_cons_zero, List.set_cons_succ]
    refine takeH (i := 7) (some 27) (.pointer (some ⟨bi, 0, none⟩)) rfl rfl (by kernel_rfl) (by kernel_rfl) (by kernel_rfl) (fun _ _ _ h => h) (Or.inl ⟨by rfl, ?_⟩) (by assumption) ?_
    · (intro w hSw; (try dsimp only at hSw); go_simp)
    simp only [Act.put, List.setIfInBounds_toArray, List.set_cons_zero, List.set_cons_succ]
    refine takeH (i := 8) (some 28) (.int .i64 (i : Int)) rfl rfl (by kernel_rfl) (by kernel_rfl) (by kernel_rfl) (fun _ _ _ h => h) (Or.inl ⟨by rfl, ?_⟩) (by assumption) ?_
    · (intro w hSw; (try dsimp only at hSw); go_simp)
    simp only [Act.put, List.setIfInBounds_toArray, List.set_cons_zero, List.set_cons_succ]
    refine takeH (i := 9) (some 29) (.int .i64 (j : Int)) rfl rfl (by kernel_rfl) (by kernel_rfl) (by kernel_rfl) (fun _ _ _ h => h) (Or.inl ⟨by rfl, ?_⟩) (by assumption) ?_
    · (intro w hSw; (try dsimp only at hSw); go_simp)
    simp only [Act.put, List.setIfInBounds_toArray, List.set_cons_zero, List.set_cons_succ]
    refine takeH (i := 10) (some 30) (.pointer (some ⟨bj, 0, none⟩)) rfl rfl (by kernel_rfl) (by kernel_rfl) (by kernel_rfl) (fun _ _ _ h => h) (Or.inl ⟨by rfl, ?_⟩) (by assumption) ?_
    · (intro w hSw; (try dsimp only at hSw); go_simp)
    simp only [Act.put, List.setIfInBounds_toArray, List.set_cons_zero, List.set_cons_succ]
    refine takeH (i := 11) (some 31) (.pointer (some ⟨bj, 2, none⟩)) rfl rfl (by kernel_rfl) (by kernel_rfl) (by kernel_rfl) (fun _ _ _ h => h) (Or.inl ⟨by rfl, ?_⟩) (by assumption) ?_
    · (intro w hSw; (try dsimp only at hSw); go_simp)
    simp only [Act.put, List.setIfInBounds_toArray, List.set_cons_zero, List.set_cons_succ]
    refine wpAnyH_ready (rs := [12]) (by kernel_rfl) (by simp) ?_
    refine AllReadyH.cons (by simp only [List.getElem?_toArray, List.getElem?_cons_succ, List.getElem?_cons_zero]; rfl) (fun KK hK => ?_) AllReadyH.nil
    go_simp
    refine hK.out _ _ (HKP.out _ _ _ gbj ⟨d1, d2⟩) (fun hHeld => ?_)
    clear hK KK
    obtain ⟨w3, hw3⟩ : ∃ w3, w3 = (w2.setCell ⟨bj, 2, none⟩ (.int .i64 (i : Int))).drew := ⟨_, rfl⟩
    rw [← hw3] at hHeld ⊢
    obtain ⟨v3, c3⟩ : ∃ v, w3.heap[bi]? = some (.cells #[.pointer (some ⟨bm (L i), 0, none⟩), .int .i64 ((L i * 1024 : Nat) : Int), v] 118) := by
      by_cases e : bi = bj
      · rw [hw3]; subst e; exact ⟨_, setCell_head (w := w2) HW2.out.2.2.2 _⟩
      · rw [hw3]; exact ⟨_, (Below.heap_setCell _ _ _ _ e).trans HW2.out.2.2.2⟩
    have c32 : w3.cell? ⟨bi, 2, none⟩ = some v3 := by rw [cell_of_row _ _ _ _ _ _ c3]; rfl
    have f32 := frozen_of_row w3 bi 2 _ _ c3
    have HW3 := hid hw3
    clear hw3 c3
    refine takeH (i := 13) (some 32) (.pointer (some ⟨bi, 0, none⟩)) rfl rfl (by kernel_rfl) (by kernel_rfl) (by kernel_rfl) (fun _ _ _ h => h) (Or.inl ⟨by rfl, ?_⟩) (by assumption) ?_
    · (intro w hSw; (try dsimp only at hSw); go_simp)
    simp only [Act.put, List.setIfInBounds_toArray, List.set_cons_zero, List.set_cons_succ]
    refine takeH (i := 14) (some 33) (.pointer (some ⟨bi, 2, none⟩)) rfl rfl (by kernel_rfl) (by kernel_rfl) (by kernel_rfl) (fun _ _ _ h => h) (Or.inl ⟨by rfl, ?_⟩) (by assumption) ?_
    · (intro w hSw; (try dsimp only at hSw); go_simp)
    simp only [Act.put, List.setIfInBounds_toArray, List.set_cons_zero, List.set_cons_succ]
    refine wpAnyH_ready (rs := [15]) (by kernel_rfl) (by simp) ?_
    refine AllReadyH.cons (by simp only [List.getElem?_toArray, List.getElem?_cons_succ, List.getElem?_cons_zero]; rfl) (fun KK hK => ?_) AllReadyH.nil
    go_simp
    refine hK.out _ _ (HKP.out _ _ _ gbi hHeld) (fun hHeld => ?_)
    clear hK KK
    refine wpAnyH_done (by kernel_rfl) ?_ _
    go_wp2_with fail
    go_end0
    refine ⟨rfl, ?_, ?_⟩
    · rw [HW3.out, HW2.out.1, HW1.out.1, HB.out.1, HB.out.2]; exact HS.out
    · rw [HW3.out, HW2.out.1, HW1.out.1]
      exact (((((Turn.refl _ w).but (But.setCell (But.refl g _) (.inl rfl) _) (.inl (.inl rfl))).drew.but (But.setCell (But.refl g _) (.inl rfl) _) (.inl (.inl rfl))).but (But.setCell (But.refl bj _) (.inl rfl) _) (.inl (.inr (.inr HB.out.2)))).drew.but (But.setCell (But.refl bi _) (.inl rfl) _) (.inl (.inr (.inl HB.out.1))))
  · go_simp
    refine hK.out _ _ trivial (fun hHeld => ?_)
    clear hK KK
    refine wpAnyH_ready (rs := [7]) (by kernel_rfl) (by simp) ?_
    refine AllReadyH.cons (by simp only [List.getElem?_toArray, List.getElem?_cons_succ, List.getElem?_cons_zero]; rfl) (fun KK hK => ?_) AllReadyH.nil
    go_simp
    refine hK.out _ _ trivial (fun hHeld => ?_)
    clear hK KK
    refine takeH (i := 12) (some 18) (.pointer (some ⟨g, i, none⟩)) rfl rfl (by kernel_rfl) (by kernel_rfl) (by kernel_rfl) (fun _ _ _ h => h) (Or.inl ⟨by rfl, ?_⟩) (by assumption) ?_
    · (intro w hSw; (try dsimp only at hSw); go_simp)
    simp only [Act.put, List.setIfInBounds_toArray, List.set_cons_zero, List.set_cons_succ]
    refine wpAnyH_ready (rs := [13]) (by kernel_rfl) (by simp) ?_
    refine AllReadyH.cons (by simp only [List.getElem?_toArray, List.getElem?_cons_succ, List.getElem?_cons_zero]; rfl) (fun KK hK => ?_) AllReadyH.nil
    go_simp
    refine hK.out _ _ trivial (fun hHeld => ?_)
    clear hK KK
    obtain ⟨w1, hw1⟩ : ∃ w1, w1 = (w.setCell ⟨g, i, none⟩ (.pointer (some ⟨bj, 0, none⟩))).drew := ⟨_, rfl⟩
    rw [← hw1]
    have hb1 : w1.heap[g]? = some (.cells (cur.setIfInBounds i (.pointer (some ⟨bj, 0, none⟩))) 115) := by rw [hw1]; exact setCell_head (w := w) HBO.out.1 _
    obtain ⟨v1, hv1⟩ : ∃ v, w1.cell? ⟨g, j, none⟩ = some v := by
      rw [cell_of_row _ _ _ _ _ _ hb1]
      exact ⟨_, Array.getElem?_eq_getElem (by rw [Array.size_setIfInBounds, HBO.out.2]; have := HH.out.len; omega)⟩
    have f1 := frozen_of_row w1 g j _ _ hb1
    have HW1 := hid (And.intro hw1 hb1)
    clear hw1 hb1
    refine takeH (i := 14) (some 19) (.pointer (some ⟨g, j, none⟩)) rfl rfl (by kernel_rfl) (by kernel_rfl) (by kernel_rfl) (fun _ _ _ h => h) (Or.inl ⟨by rfl, ?_⟩) (by assumption) ?_
    · (intro w hSw; (try dsimp only at hSw); go_simp)
    simp only [Act.put, List.setIfInBounds_toArray, List.set_cons_zero, List.set_cons_succ]
    refine wpAnyH_ready (rs := [15]) (by kernel_rfl) (by simp) ?_
    refine AllReadyH.cons (by simp only [List.getElem?_toArray, List.getElem?_cons_succ, List.getElem?_cons_zero]; rfl) (fun KK hK => ?_) AllReadyH.nil
    go_simp
    refine hK.out _ _ trivial (fun hHeld => ?_)
    clear hK KK
    refine wpAnyH_done (by kernel_rfl) ?_ _
    obtain ⟨w2, hw2⟩ : ∃ w2, w2 = w1.setCell ⟨g, j, none⟩ (.pointer (some ⟨bi, 0, none⟩)) := ⟨_, rfl⟩
    rw [← hw2]
    have hb2 : w2.heap[g]? = some (.cells ((cur.setIfInBounds i (.pointer (some ⟨bj, 0, none⟩))).setIfInBounds j (.pointer (some ⟨bi, 0, none⟩))) 115) := by rw [hw2]; exact setCell_head HW1.out.2 _
    have d1 : w2.cell? ⟨g, i, none⟩ = some (.pointer (some ⟨bj, 0, none⟩)) := by
      rw [cell_of_row _ _ _ _ _ _ hb2]
      by_cases e : i = j
      · subst e
        rw [Array.getElem?_setIfInBounds_self_of_lt (by rw [Array.size_setIfInBounds, HBO.out.2]; have := HH.out.len; omega), HB.out.1, HB.out.2]
      · rw [Array.getElem?_setIfInBounds_ne (by omega), Array.getElem?_setIfInBounds_self_of_lt (by rw [HBO.out.2]; have := HH.out.len; omega)]
    have d2 : w2.cell? ⟨g, j, none⟩ = some (.pointer (some ⟨bi, 0, none⟩)) := by
      rw [cell_of_row _ _ _ _ _ _ hb2, Array.getElem?_setIfInBounds_self_of_lt (by rw [Array.size_setIfInBounds, HBO.out.2]; have := HH.out.len; omega)]
    have o2 : ∀ x, x ≠ g → w2.heap[x]? = w.heap[x]? := fun x hx => by rw [hw2, Below.heap_setCell _ _ _ _ hx, HW1.out.1]; exact Below.heap_setCell w _ _ _ hx
    have sj : w2.heap[bj]? = some (.cells #[.pointer (some ⟨bm (L j), 0, none⟩), .int .i64 ((L j * 1024 : Nat) : Int), .int .i64 (j : Int)] 118) := by rw [HB.out.2]; exact (o2 _ (HH.out.gap j hj)).trans (HH.out.slab j hj)
    have si : w2.heap[bi]? = some (.cells #[.pointer (some ⟨bm (L i), 0, none⟩), .int .i64 ((L i * 1024 : Nat) : Int), .int .i64 (i : Int)] 118) := by rw [HB.out.1]; exact (o2 _ (HH.out.gap i hi)).trans (HH.out.slab i hi)
    have cj2 : w2.cell? ⟨bj, 2, none⟩ = some (.int .i64 (j : Int)) := by rw [cell_of_row _ _ _ _ _ _ sj]; rfl
    have fj2 := frozen_of_row w2 bj 2 _ _ sj
    have HW2 := hid (And.intro hw2 (And.intro hb2 (And.intro sj si)))
    clear hw2 hb2 o2 sj si hv1 f1 ci cj fi fj hHeld
    go_wp2_with fail
    have HKP : Hid (∀ (wx : World) (b : Nat) (v : Value), b ≠ g → wx.cell? ⟨g, i, none⟩ = some (.pointer (some ⟨bj, 0, none⟩)) ∧ wx.cell? ⟨g, j, none⟩ = some (.pointer (some ⟨bi, 0, none⟩)) → (wx.setCell ⟨b, 2, none⟩ v).cell? ⟨g, i, none⟩ = some (.pointer (some ⟨bj, 0, none⟩)) ∧ (wx.setCell ⟨b, 2, none⟩ v).cell? ⟨g, j, none⟩ = some (.pointer (some ⟨bi, 0, none⟩))) := fun wx b v hb h => ⟨(World.cell?_of_block (Below.heap_setCell _ _ _ _ hb.symm)).trans h.1, (World.cell?_of_block (Below.heap_setCell _ _ _ _ hb.symm)).trans h.2⟩
    have gbj : bj ≠ g := by rw [HB.out.2]; exact HH.out.gap j hj
    have gbi : bi ≠ g := by rw [HB.out.1]; exact HH.out.gap i hi
    refine wp_region_held_drew (S := fun wx => wx.cell? ⟨g, i, none⟩ = some (.pointer (some ⟨bj, 0, none⟩)) ∧ wx.cell? ⟨g, j, none⟩ = some (.pointer (some ⟨bi, 0, none⟩))) (by kernel_rfl) ⟨d1, d2⟩ (fun hHeld => ?_)
    refine takeH (i := 0) (some 20) (.slice (some ⟨g, 0, none⟩) n cap) rfl rfl (by kernel_rfl) (by kernel_rfl) (by kernel_rfl) (fun _ _ _ h => h) (Or.inl ⟨by rfl, ?_⟩) (by assumption) ?_
    · (intro w hSw; (try dsimp only at hSw); go_simp)
    simp only [Act.put, List.setIfInBounds_toArray, List.set_cons_zero, List.set_cons_succ]
    refine takeH (i := 1) (some 21) (.int .i64 (i : Int)) rfl rfl (by kernel_rfl) (by kernel_rfl) (by kernel_rfl) (fun _ _ _ h => h) (Or.inl ⟨by rfl, ?_⟩) (by assumption) ?_
    · (intro w hSw; (try dsimp only at hSw); go_simp)
    simp only [Act.put, List.setIfInBounds_toArray, List.set_cons_zero, List.set_cons_succ]
    refine takeH (i := 2) (some 22) (.pointer (some ⟨g, i, none⟩)) rfl rfl (by kernel_rfl) (by kernel_rfl) (by kernel_rfl) (fun _ _ _ h => h) (Or.inl ⟨by rfl, ?_⟩) (by assumption) ?_
    · (intro w hSw; (try dsimp only at hSw); go_simp)
    simp only [Act.put, List.setIfInBounds_toArray, List.set_cons_zero, List.set_cons_succ]
    refine takeH (i := 3) (some 23) (.pointer (some ⟨bj, 0, none⟩)) rfl rfl (by kernel_rfl) (by kernel_rfl) (by kernel_rfl) (fun _ _ _ h => h) (Or.inl ⟨by rfl, ?_⟩) (by assumption) ?_
    · (intro w hSw; (try dsimp only at hSw); go_simp)
    simp only [Act.put, List.setIfInBounds_toArray, List.set_cons_zero, List.set_cons_succ]
    refine takeH (i := 4) (some 24) (.slice (some ⟨g, 0, none⟩) n cap) rfl rfl (by kernel_rfl) (by kernel_rfl) (by kernel_rfl) (fun _ _ _ h => h) (Or.inl ⟨by rfl, ?_⟩) (by assumption) ?_
    · (intro w hSw; (try dsimp only at hSw); go_simp)
    simp only [Act.put, List.setIfInBounds_toArray, List.set_cons_zero, List.set_cons_succ]
    refine takeH (i := 5) (some 25) (.int .i64 (j : Int)) rfl rfl (by kernel_rfl) (by kernel_rfl) (by kernel_rfl) (fun _ _ _ h => h) (Or.inl ⟨by rfl, ?_⟩) (by assumption) ?_
    · (intro w hSw; (try dsimp only at hSw); go_simp)
    simp only [Act.put, List.setIfInBounds_toArray, List.set_cons_zero, List.set_cons_succ]
    refine takeH (i := 6) (some 26) (.pointer (some ⟨g, j, none⟩)) rfl rfl (by kernel_rfl) (by kernel_rfl) (by kernel_rfl) (fun _ _ _ h => h) (Or.inl ⟨by rfl, ?_⟩) (by assumption) ?_
    · (intro w hSw; (try dsimp only at hSw); go_simp)
    simp only [Act.put, List.setIfInBounds_toArray, List.set_cons_zero, List.set_cons_succ]
    refine takeH (i := 7) (some 27) (.pointer (some ⟨bi, 0, none⟩)) rfl rfl (by kernel_rfl) (by kernel_rfl) (by kernel_rfl) (fun _ _ _ h => h) (Or.inl ⟨by rfl, ?_⟩) (by assumption) ?_
    · (intro w hSw; (try dsimp only at hSw); go_simp)
    simp only [Act.put, List.setIfInBounds_toArray, List.set_cons_zero, List.set_cons_succ]
    refine takeH (i := 8) (some 28) (.int .i64 (i : Int)) rfl rfl (by kernel_rfl) (by kernel_rfl) (by kernel_rfl) (fun _ _ _ h => h) (Or.inl ⟨by rfl, ?_⟩) (by assumption) ?_
    · (intro w hSw; (try dsimp only at hSw); go_simp)
    simp only [Act.put, List.setIfInBounds_toArray, List.set_cons_zero, List.set_cons_succ]
    refine takeH (i := 9) (some 29) (.int .i64 (j : Int)) rfl rfl (by kernel_rfl) (by kernel_rfl) (by kernel_rfl) (fun _ _ _ h => h) (Or.inl ⟨by rfl, ?_⟩) (by assumption) ?_
    · (intro w hSw; (try dsimp only at hSw); go_simp)
    simp only [Act.put, List.setIfInBounds_toArray, List.set_cons_zero, List.set_cons_succ]
    refine takeH (i := 10) (some 30) (.pointer (some ⟨bj, 0, none⟩)) rfl rfl (by kernel_rfl) (by kernel_rfl) (by kernel_rfl) (fun _ _ _ h => h) (Or.inl ⟨by rfl, ?_⟩) (by assumption) ?_
    · (intro w hSw; (try dsimp only at hSw); go_simp)
    simp only [Act.put, List.setIfInBounds_toArray, List.set_cons_zero, List.set_cons_succ]
    refine takeH (i := 11) (some 31) (.pointer (some ⟨bj, 2, none⟩)) rfl rfl (by kernel_rfl) (by kernel_rfl) (by kernel_rfl) (fun _ _ _ h => h) (Or.inl ⟨by rfl, ?_⟩) (by assumption) ?_
    · (intro w hSw; (try dsimp only at hSw); go_simp)
    simp only [Act.put, List.setIfInBounds_toArray, List.set_cons_zero, List.set_cons_succ]
    refine wpAnyH_ready (rs := [12]) (by kernel_rfl) (by simp) ?_
    refine AllReadyH.cons (by simp only [List.getElem?_toArray, List.getElem?_cons_succ, List.getElem?_cons_zero]; rfl) (fun KK hK => ?_) AllReadyH.nil
    go_simp
    refine hK.out _ _ (HKP.out _ _ _ gbj ⟨d1, d2⟩) (fun hHeld => ?_)
    clear hK KK
    obtain ⟨w3, hw3⟩ : ∃ w3, w3 = (w2.setCell ⟨bj, 2, none⟩ (.int .i64 (i : Int))).drew := ⟨_, rfl⟩
    rw [← hw3] at hHeld ⊢
    obtain ⟨v3, c3⟩ : ∃ v, w3.heap[bi]? = some (.cells #[.pointer (some ⟨bm (L i), 0, none⟩), .int .i64 ((L i * 1024 : Nat) : Int), v] 118) := by
      by_cases e : bi = bj
      · rw [hw3]; subst e; exact ⟨_, setCell_head (w := w2) HW2.out.2.2.2 _⟩
      · rw [hw3]; exact ⟨_, (Below.heap_setCell _ _ _ _ e).trans HW2.out.2.2.2⟩
    have c32 : w3.cell? ⟨bi, 2, none⟩ = some v3 := by rw [cell_of_row _ _ _ _ _ _ c3]; rfl
    have f32 := frozen_of_row w3 bi 2 _ _ c3
    have HW3 := hid hw3
    clear hw3 c3
    refine takeH (i := 13) (some 32) (.pointer (some ⟨bi, 0, none⟩)) rfl rfl (by kernel_rfl) (by kernel_rfl) (by kernel_rfl) (fun _ _ _ h => h) (Or.inl ⟨by rfl, ?_⟩) (by assumption) ?_
    · (intro w hSw; (try dsimp only at hSw); go_simp)
    simp only [Act.put, List.setIfInBounds_toArray, List.set_cons_zero, List.set_cons_succ]
    refine takeH (i := 14) (some 33) (.pointer (some ⟨bi, 2, none⟩)) rfl rfl (by kernel_rfl) (by kernel_rfl) (by kernel_rfl) (fun _ _ _ h => h) (Or.inl ⟨by rfl, ?_⟩) (by assumption) ?_
    · (intro w hSw; (try dsimp only at hSw); go_simp)
    simp only [Act.put, List.setIfInBounds_toArray, List.set_cons_zero, List.set_cons_succ]
    refine wpAnyH_ready (rs := [15]) (by kernel_rfl) (by simp) ?_
    refine AllReadyH.cons (by simp only [List.getElem?_toArray, List.getElem?_cons_succ, List.getElem?_cons_zero]; rfl) (fun KK hK => ?_) AllReadyH.nil
    go_simp
    refine hK.out _ _ (HKP.out _ _ _ gbi hHeld) (fun hHeld => ?_)
    clear hK KK
    refine wpAnyH_done (by kernel_rfl) ?_ _
    go_wp2_with fail
    go_end0
    refine ⟨rfl, ?_, ?_⟩
    · rw [HW3.out, HW2.out.1, HW1.out.1, HB.out.1, HB.out.2]; exact HS.out
    · rw [HW3.out, HW2.out.1, HW1.out.1]
      exact (((((Turn.refl _ w).but (But.setCell (But.refl g _) (.inl rfl) _) (.inl (.inl rfl))).drew.but (But.setCell (But.refl g _) (.inl rfl) _) (.inl (.inl rfl))).but (But.setCell (But.refl bj _) (.inl rfl) _) (.inl (.inr (.inr HB.out.2)))).drew.but (But.setCell (But.refl bi _) (.inl rfl) _) (.inl (.inr (.inl HB.out.1))))
end Go.Proofs.YtdmnemgooagehaaGreatDoor

namespace Go.Proofs.YtdmnemgooagehaaGreatDoor
open Go.RowKit Go.Maps

/-- The heap that lies in the cache at block c. -/
structure Hc (w : World) (c g cap n : Nat) (L sb bm : Nat → Nat) : Prop where
  cell : w.cell? ⟨c, 3, none⟩ = some (.slice (some ⟨g, 0, none⟩) n cap)
  mem : Hm w g cap n L sb bm
  cg : c ≠ g
  cs : ∀ k, k < n → sb (L k) ≠ c
  few : n ≤ 1048576

def SameSet (L L' : Nat → Nat) (n : Nat) : Prop := (∀ k, k < n → ∃ k', k' < n ∧ L' k = L k') ∧ ∀ k, k < n → ∃ k', k' < n ∧ L k = L' k'
theorem SameSet.refl (L : Nat → Nat) (n : Nat) : SameSet L L n := ⟨fun k hk => ⟨k, hk, rfl⟩, fun k hk => ⟨k, hk, rfl⟩⟩
theorem SameSet.trans {L M N : Nat → Nat} {n : Nat} (h : SameSet L M n) (h' : SameSet M N n) : SameSet L N n := by
  refine ⟨fun k hk => ?_, fun k hk => ?_⟩
  · obtain ⟨k1, h1, e1⟩ := h'.1 k hk
    obtain ⟨k2, h2, e2⟩ := h.1 k1 h1
    exact ⟨k2, h2, e1.trans e2⟩
  · obtain ⟨k1, h1, e1⟩ := h.2 k hk
    obtain ⟨k2, h2, e2⟩ := h'.2 k1 h1
    exact ⟨k2, h2, e1.trans e2⟩
theorem SameSet.swp {L : Nat → Nat} {n i j : Nat} (hi : i < n) (hj : j < n) : SameSet L (swp L i j) n := by
  have hs : ∀ k, k < n → ∃ k', k' < n ∧ Go.Proofs.YtdmnemgooagehaaGreatDoor.swp L i j k = L k' := fun k hk => by
    by_cases e1 : k = i
    · exact ⟨j, hj, by rw [e1, swp_l]⟩
    · by_cases e2 : k = j
      · exact ⟨i, hi, by rw [e2, swp_r]⟩
      · exact ⟨k, hk, swp_o L e1 e2⟩
  refine ⟨hs, fun k hk => ?_⟩
  by_cases e1 : k = i
  · exact ⟨j, hj, by rw [e1, swp_r]⟩
  · by_cases e2 : k = j
    · exact ⟨i, hi, by rw [e2, swp_l]⟩
    · exact ⟨k, hk, (swp_o L e1 e2).symm⟩

theorem Hc.drewN {w : World} {c g cap n : Nat} {L sb bm : Nat → Nat} (h : Hc w c g cap n L sb bm) (q : Nat) : Hc (w.drewN q) c g cap n L sb bm := ⟨h.cell, h.mem.other fun _ _ => rfl, h.cg, h.cs, h.few⟩
theorem Hc.swapped {w w' : World} {c g cap n : Nat} {L sb bm : Nat → Nat} {i j : Nat} (h : Hc w c g cap n L sb bm) (hi : i < n) (hj : j < n) (hm : Hm w' g cap n (swp L i j) sb bm) (ht : Turn (fun x => x = g ∨ x = sb (L i) ∨ x = sb (L j)) w w') : Hc w' c g cap n (swp L i j) sb bm := by
  have hl : c < w.heap.size := World.block_lt_of_cell? w ⟨c, 3, none⟩ h.cell
  have hb : w'.heap[c]? = w.heap[c]? := ht.block c hl (by
    rintro (e | e | e)
    · exact h.cg e
    · exact h.cs i hi e.symm
    · exact h.cs j hj e.symm)
  refine ⟨(World.cell?_of_block hb).trans h.cell, hm, h.cg, fun k hk => ?_, h.few⟩
  obtain ⟨k', hk', e⟩ := (SameSet.swp (L := L) hi hj).1 k hk
  rw [e]; exact h.cs k' hk'

theorem meth_less0 (a : Addr) (w : World) : (method 340 120 (.pointer (some a)) "Less").run Tryz.prog w = (loadVar 111 a >>= fun v => pure (200, v)).run Tryz.prog w := by kernel_rfl
theorem meth_swap0 (a : Addr) (w : World) : (method 340 120 (.pointer (some a)) "Swap").run Tryz.prog w = (loadVar 111 a >>= fun v => pure (201, v)).run Tryz.prog w := by kernel_rfl
theorem meth_len0 (a : Addr) (w : World) : (method 340 120 (.pointer (some a)) "Len").run Tryz.prog w = (loadVar 111 a >>= fun v => pure (68, v)).run Tryz.prog w := by kernel_rfl
theorem meth_push (a : Addr) (w : World) : (method 340 120 (.pointer (some a)) "Push").run Tryz.prog w = .ok (203, .pointer (some a)) w := by kernel_rfl
theorem meth_pop (a : Addr) (w : World) : (method 340 120 (.pointer (some a)) "Pop").run Tryz.prog w = .ok (202, .pointer (some a)) w := by kernel_rfl
theorem meth_less (a : Addr) (w : World) (b : Option Addr) (n cap : Nat) (h : w.cell? a = some (.slice b n cap)) : (method 340 120 (.pointer (some a)) "Less").run Tryz.prog w = .ok (200, .slice b n cap) w := by
  rw [meth_less0]; simp [h, go_sem]
theorem meth_swap (a : Addr) (w : World) (b : Option Addr) (n cap : Nat) (h : w.cell? a = some (.slice b n cap)) : (method 340 120 (.pointer (some a)) "Swap").run Tryz.prog w = .ok (201, .slice b n cap) w := by
  rw [meth_swap0]; simp [h, go_sem]
theorem meth_len (a : Addr) (w : World) (b : Option Addr) (n cap : Nat) (h : w.cell? a = some (.slice b n cap)) : (method 340 120 (.pointer (some a)) "Len").run Tryz.prog w = .ok (68, .slice b n cap) w := by
  rw [meth_len0]; simp [h, go_sem]

theorem Turn.wide {S S' : Nat → Prop} {a w : World} (h : Turn S a w) (hs : ∀ x, S x → S' x) : Turn S' a w := ⟨h.os, h.tape, h.output, h.size, fun i hi hn => h.block i hi (fun e => hn (hs i e))⟩

def UpPost (w : World) (c g cap n : Nat) (L sb bm : Nat → Nat) (nn : Nat) (e : Ending) (w' : World) : Prop := e = .returned (.tuple #[]) ∧ ∃ L', Hc w' c g cap n L' sb bm ∧ Hpo L' nn ∧ SameSet L L' nn ∧ (∀ k, nn ≤ k → L' k = L k) ∧ Turn (fun x => x = g ∨ ∃ k, k < n ∧ x = sb (L k)) w w'
set_option maxRecDepth 100000 in
set_option maxHeartbeats 2000000 in
theorem up_any (w : World) (c g cap n : Nat) (L sb bm : Nat → Nat) (j nn : Nat) (h : Hc w c g cap n L sb bm) (hu : Upo L nn j) (hj : j < nn) (hnn : nn ≤ n) :
    Calls Tryz.prog 129 #[.iface 120 (.pointer (some ⟨c, 3, none⟩)), .int .i64 (j : Int)] w (UpPost w c g cap n L sb bm nn) := by
  have hn := h.few
  have HH := hid (And.intro h hu)
  clear h hu
  go_enter Tryz.func129, Tryz.ntmps129
  go_wp2_with fail
  go_loopw [1] (fun t wr => ∃ jj : Nat, jj < nn ∧ t = .int .i64 (jj : Int) ∧ (∃ L', Hid (Hc wr c g cap n L' sb bm ∧ Upo L' nn jj ∧ SameSet L L' nn ∧ ∀ k, nn ≤ k → L' k = L k)) ∧ Turn (fun x => x = g ∨ ∃ k, k < n ∧ x = sb (L k)) w wr) (fun t _ => (intOf t).toNat)
  case atStart => exact ⟨j, hj, rfl, ⟨L, HH.out.1, HH.out.2, SameSet.refl L nn, fun _ _ => rfl⟩, Turn.refl _ _⟩
  case round =>
    obtain ⟨jj, hjj, rfl, ⟨L', hL⟩, ht⟩ := hrel
    by_cases h0 : jj = 0
    · subst h0
      have hq : ((-1 : Int)).tdiv 2 = 0 := by decide
      go_wp2_with fail
      go_end0
      exact ⟨rfl, L', hL.out.1, hL.out.2.1.done (fun h => by omega), hL.out.2.2.1, hL.out.2.2.2, ht⟩
    · obtain ⟨ii, hii⟩ : ∃ ii, ii = (jj - 1) / 2 := ⟨_, rfl⟩
      have hlt : ii < jj := by omega
      have hdv : ((jj : Int) - 1).tdiv 2 = (ii : Int) := by rw [Int.tdiv_eq_ediv_of_nonneg (by omega)]; omega
      have hdv2 : ((jj : Int) - 1) / 2 = (ii : Int) := by omega
      have hij : ((ii : Int) == (jj : Int)) = false := by rw [beq_eq_false_iff_ne]; omega
      have hij2 : ¬ ((ii : Int) = (jj : Int)) := by omega
      have hml := meth_less ⟨c, 3, none⟩ wr _ _ _ hL.out.1.cell
      have HII := hid hii
      clear hii
      go_wp2_with fail
      refine (less_any wr g cap n L' sb bm jj ii hL.out.1.mem (by omega) (by omega)).mono ?_
      rintro e w1 ⟨rfl, q, rfl⟩
      by_cases hless : L' jj < L' ii
      · rw [decide_eq_true hless]
        have hms := meth_swap ⟨c, 3, none⟩ (wr.drewN q) _ _ _ (hL.out.1.drewN q).cell
        go_wp2_with fail
        refine (swap_any (wr.drewN q) g cap n L' sb bm ii jj (hL.out.1.drewN q).mem (by omega) (by omega)).mono ?_
        rintro e w2 ⟨rfl, hm2, ht2⟩
        have HC2 := hid ((hL.out.1.drewN q).swapped (by omega) (by omega) hm2 ht2)
        have hup : Upo (swp L' ii jj) nn ii := by rw [HII.out]; exact hL.out.2.1.step (by omega) hjj (by rw [← HII.out]; exact hless)
        have HUP := hid hup
        have hT2 := (ht.drewN q).trans (ht2.wide (S' := fun x => x = g ∨ ∃ k, k < n ∧ x = sb (L k)) (by
          rintro x (e | e | e)
          · exact .inl e
          · obtain ⟨k, hk, e'⟩ := hL.out.2.2.1.1 ii (by omega)
            exact .inr ⟨k, by omega, by rw [e, e']⟩
          · obtain ⟨k, hk, e'⟩ := hL.out.2.2.1.1 jj hjj
            exact .inr ⟨k, by omega, by rw [e, e']⟩))
        clear hm2 ht2 hup
        go_wp2_with fail
        exact ⟨⟨ii, by omega, rfl, ⟨_, HC2.out, HUP.out, hL.out.2.2.1.trans (SameSet.swp (by omega) hjj), fun k hk => (swp_o L' (by omega) (by omega)).trans (hL.out.2.2.2 k hk)⟩, hT2⟩, by simp [intOf]; omega⟩
      · rw [decide_eq_false hless]
        go_wp2_with fail
        go_end0
        exact ⟨rfl, L', hL.out.1.drewN q, hL.out.2.1.done (fun _ => by rw [← HII.out]; omega), hL.out.2.2.1, hL.out.2.2.2, ht.drewN q⟩
end Go.Proofs.YtdmnemgooagehaaGreatDoor

namespace Go.Proofs.YtdmnemgooagehaaGreatDoor
open Go.RowKit Go.Maps

theorem Hc.at_end {w : World} {c g cap n : Nat} {L sb bm : Nat → Nat} (h : Hc w c g cap n L sb bm) : n ≤ 1048576 := h.few
theorem swp_far (L : Nat → Nat) {i j nn : Nat} (hi : i < nn) (hj : j < nn) : ∀ k, nn ≤ k → swp L i j k = L k := fun k hk => swp_o L (by omega) (by omega)
/-- How far down it has come. -/
def Dn (L L' : Nat → Nat) (i0 ii nn : Nat) : Prop := Geno L' nn ii ∧ ((ii = i0 ∧ L' = L) ∨ (i0 < ii ∧ ii < nn ∧ (0 < ii → L' ((ii - 1) / 2) ≤ L' ii))) ∧ SameSet L L' nn ∧ ∀ k, nn ≤ k → L' k = L k
def DownPost (w : World) (c g cap n : Nat) (L sb bm : Nat → Nat) (i0 nn : Nat) (e : Ending) (w' : World) : Prop :=
  ∃ (moved : Bool) (L' : Nat → Nat), e = .returned (.bool moved) ∧ Hc w' c g cap n L' sb bm ∧ (moved = true → Hpo L' nn) ∧ (moved = false → L' = L ∧ Upo L nn i0) ∧ SameSet L L' nn ∧ (∀ k, nn ≤ k → L' k = L k) ∧ Turn (fun x => x = g ∨ ∃ k, k < n ∧ x = sb (L k)) w w'
theorem Dn.done {w' w : World} {c g cap n : Nat} {L L' sb bm : Nat → Nat} {i0 ii nn : Nat} (h : Dn L L' i0 ii nn) (hc : ∀ k, 0 < k → k < nn → (k - 1) / 2 = ii → L' ii ≤ L' k) (hH : Hc w' c g cap n L' sb bm) (ht : Turn (fun x => x = g ∨ ∃ k, k < n ∧ x = sb (L k)) w w') :
    DownPost w c g cap n L sb bm i0 nn (.returned (.bool (decide (i0 < ii)))) w' := by
  refine ⟨_, L', rfl, hH, fun hm => ?_, fun hm => ?_, h.2.2.1, h.2.2.2, ht⟩
  · have hm' := of_decide_eq_true hm
    rcases h.2.1 with ⟨e, _⟩ | ⟨_, _, hp⟩
    · omega
    · exact h.1.done hp hc
  · have hm' := of_decide_eq_false hm
    rcases h.2.1 with ⟨e, e'⟩ | ⟨hp, _⟩
    · subst e e'
      exact ⟨rfl, h.1.up hc⟩
    · exact absurd hp hm'
theorem Dn.step {L L' : Nat → Nat} {i0 ii nn j : Nat} (h : Dn L L' i0 ii nn) (hi : ii < nn) (hj : (j - 1) / 2 = ii) (h0 : 0 < j) (hn : j < nn) (hl : L' j < L' ii) (hm : ∀ k, 0 < k → k < nn → (k - 1) / 2 = ii → L' j ≤ L' k) : Dn L (swp L' ii j) i0 j nn := by
  obtain ⟨h1, h2⟩ := h.1.step hj h0 hn hl hm
  refine ⟨h1, .inr ⟨?_, hn, h2⟩, h.2.2.1.trans (SameSet.swp hi hn), fun k hk => (swp_far L' hi hn k hk).trans (h.2.2.2 k hk)⟩
  rcases h.2.1 with ⟨e, _⟩ | ⟨hp, _⟩ <;> omega

set_option maxRecDepth 100000 in
set_option maxHeartbeats 4000000 in
theorem down_any (w : World) (c g cap n : Nat) (L sb bm : Nat → Nat) (i0 nn : Nat) (h : Hc w c g cap n L sb bm) (hg : Geno L nn i0) (hi : i0 ≤ nn) (hnn : nn ≤ n) :
    Calls Tryz.prog 128 #[.iface 120 (.pointer (some ⟨c, 3, none⟩)), .int .i64 (i0 : Int), .int .i64 (nn : Int)] w (DownPost w c g cap n L sb bm i0 nn) := by
  have hn := h.few
  have HH := hid (And.intro h hg)
  clear h hg
  go_enter Tryz.func128, Tryz.ntmps128
  go_wp2_with fail
  go_loopw [7] (fun t wr => ∃ ii : Nat, ii ≤ nn ∧ t = .int .i64 (ii : Int) ∧ (∃ L', Hid (Hc wr c g cap n L' sb bm ∧ Dn L L' i0 ii nn)) ∧ Turn (fun x => x = g ∨ ∃ k, k < n ∧ x = sb (L k)) w wr) (fun t _ => nn - (intOf t).toNat)
  case atStart => exact ⟨i0, hi, rfl, ⟨L, HH.out.1, HH.out.2, .inl ⟨rfl, rfl⟩, SameSet.refl L nn, fun _ _ => rfl⟩, Turn.refl _ _⟩
  case round =>
    obtain ⟨ii, hii, rfl, ⟨L', hL⟩, ht⟩ := hrel
    have HSET : Hid (∀ k, k < n → ∃ k', k' < n ∧ L' k = L k') := fun k hk => by
      by_cases e : k < nn
      · obtain ⟨k', h1, h2⟩ := hL.out.2.2.2.1.1 k e
        exact ⟨k', by omega, h2⟩
      · exact ⟨k, hk, hL.out.2.2.2.2 k (by omega)⟩
    obtain ⟨j1, hj1⟩ : ∃ j1 : Nat, j1 = 2 * ii + 1 := ⟨_, rfl⟩
    obtain ⟨j2, hj2⟩ : ∃ j2 : Nat, j2 = 2 * ii + 2 := ⟨_, rfl⟩
    have e1 : 2 * (ii : Int) + 1 = (j1 : Int) := by omega
    have e2 : (j1 : Int) + 1 = (j2 : Int) := by omega
    have b1 : j1 ≤ 2097153 := by omega
    have b2 : j2 ≤ 2097154 := by omega
    have HJ := hid (And.intro hj1 hj2)
    clear hj1 hj2
    by_cases hd1 : nn ≤ j1
    · have hd1' : (nn : Int) ≤ (j1 : Int) := by omega
      have HC := hid (hL.out.2.done (fun k h0 hk he => by have := HJ.out.1; omega) hL.out.1 ht)
      go_wp2_with fail
      go_ret
      simpa using HC.out
    · have hd1' : ¬ ((nn : Int) ≤ (j1 : Int)) := by omega
      have hd0 : ¬ ((j1 : Int) < 0) := by omega
      have hii2 : ii < nn := by have := HJ.out.1; omega
      by_cases hd2 : j2 < nn
      · have hd2' : (j2 : Int) < (nn : Int) := by omega
        have hml := meth_less ⟨c, 3, none⟩ wr _ _ _ hL.out.1.cell
        go_wp2_with fail
        refine (less_any wr g cap n L' sb bm j2 j1 hL.out.1.mem (by omega) (by omega)).mono ?_
        rintro e w1 ⟨rfl, q, rfl⟩
        have HD := hid (hL.out.1.drewN q)
        have hT1 := ht.drewN q
        have hmd := meth_less ⟨c, 3, none⟩ (wr.drewN q) _ _ _ HD.out.cell
        clear hml
        generalize wr.drewN q = wd at *
        by_cases hless : L' j2 < L' j1
        · rw [decide_eq_true hless]
          have HM : Hid (∀ k, 0 < k → k < nn → (k - 1) / 2 = ii → L' j2 ≤ L' k) := fun k h0 hk he => by
            have := HJ.out
            rcases (show k = j1 ∨ k = j2 by omega) with rfl | rfl <;> omega
          go_wp2_with fail
          refine (less_any (wd) g cap n L' sb bm j2 ii HD.out.mem (by omega) (by omega)).mono ?_
          rintro e w2 ⟨rfl, q2, rfl⟩
          by_cases hls : L' j2 < L' ii
          · rw [decide_eq_true hls]
            have HD2 := hid (HD.out.drewN q2)
            have hms := meth_swap ⟨c, 3, none⟩ ((wd).drewN q2) _ _ _ HD2.out.cell
            go_wp2_with fail
            refine (swap_any ((wd).drewN q2) g cap n L' sb bm ii j2 HD2.out.mem (by omega) (by omega)).mono ?_
            rintro e w3 ⟨rfl, hm3, ht3⟩
            have HC3 := hid (HD2.out.swapped (by omega) (by omega) hm3 ht3)
            have HDN : Hid (Dn L (swp L' ii j2) i0 j2 nn) := hL.out.2.step hii2 (by have := HJ.out; omega) (by have := HJ.out; omega) (by omega) hls HM.out
            have hT3 := (hT1.drewN q2).trans (ht3.wide (S' := fun x => x = g ∨ ∃ k, k < n ∧ x = sb (L k)) (by
              rintro x (e | e | e)
              · exact .inl e
              · obtain ⟨k, hk, e'⟩ := HSET.out ii (by omega)
                exact .inr ⟨k, hk, by rw [e, e']⟩
              · obtain ⟨k, hk, e'⟩ := HSET.out j2 (by omega)
                exact .inr ⟨k, hk, by rw [e, e']⟩))
            have hmeas : nn - j2 < nn - ii := by have := HJ.out; omega
            clear hm3 ht3 hms
            go_wp2_with fail
            exact ⟨⟨j2, by omega, rfl, ⟨_, HC3.out, HDN.out⟩, hT3⟩, by simpa [intOf] using hmeas⟩
          · rw [decide_eq_false hls]
            have HC := hid (hL.out.2.done (fun k h0 hk he => by have := HM.out k h0 hk he; omega) (HD.out.drewN q2) (hT1.drewN q2))
            go_wp2_with fail
            go_ret
            simpa using HC.out
        · rw [decide_eq_false hless]
          have HM : Hid (∀ k, 0 < k → k < nn → (k - 1) / 2 = ii → L' j1 ≤ L' k) := fun k h0 hk he => by
            have := HJ.out
            rcases (show k = j1 ∨ k = j2 by omega) with rfl | rfl <;> omega
          go_wp2_with fail
          refine (less_any (wd) g cap n L' sb bm j1 ii HD.out.mem (by omega) (by omega)).mono ?_
          rintro e w2 ⟨rfl, q2, rfl⟩
          by_cases hls : L' j1 < L' ii
          · rw [decide_eq_true hls]
            have HD2 := hid (HD.out.drewN q2)
            have hms := meth_swap ⟨c, 3, none⟩ ((wd).drewN q2) _ _ _ HD2.out.cell
            go_wp2_with fail
            refine (swap_any ((wd).drewN q2) g cap n L' sb bm ii j1 HD2.out.mem (by omega) (by omega)).mono ?_
            rintro e w3 ⟨rfl, hm3, ht3⟩
            have HC3 := hid (HD2.out.swapped (by omega) (by omega) hm3 ht3)
            have HDN : Hid (Dn L (swp L' ii j1) i0 j1 nn) := hL.out.2.step hii2 (by have := HJ.out; omega) (by have := HJ.out; omega) (by omega) hls HM.out
            have hT3 := (hT1.drewN q2).trans (ht3.wide (S' := fun x => x = g ∨ ∃ k, k < n ∧ x = sb (L k)) (by
              rintro x (e | e | e)
              · exact .inl e
              · obtain ⟨k, hk, e'⟩ := HSET.out ii (by omega)
                exact .inr ⟨k, hk, by rw [e, e']⟩
              · obtain ⟨k, hk, e'⟩ := HSET.out j1 (by omega)
                exact .inr ⟨k, hk, by rw [e, e']⟩))
            have hmeas : nn - j1 < nn - ii := by have := HJ.out; omega
            clear hm3 ht3 hms
            go_wp2_with fail
            exact ⟨⟨j1, by omega, rfl, ⟨_, HC3.out, HDN.out⟩, hT3⟩, by simpa [intOf] using hmeas⟩
          · rw [decide_eq_false hls]
            have HC := hid (hL.out.2.done (fun k h0 hk he => by have := HM.out k h0 hk he; omega) (HD.out.drewN q2) (hT1.drewN q2))
            go_wp2_with fail
            go_ret
            simpa using HC.out
      · have hd2' : ¬ ((j2 : Int) < (nn : Int)) := by omega
        have HD := hid hL.out.1
        have hT1 := ht
        have hmd := meth_less ⟨c, 3, none⟩ wr _ _ _ HD.out.cell
        have HM : Hid (∀ k, 0 < k → k < nn → (k - 1) / 2 = ii → L' j1 ≤ L' k) := fun k h0 hk he => by
          have := HJ.out
          obtain rfl : k = j1 := by omega
          exact Nat.le_refl _
        go_wp2_with fail
        refine (less_any (wr) g cap n L' sb bm j1 ii HD.out.mem (by omega) (by omega)).mono ?_
        rintro e w2 ⟨rfl, q2, rfl⟩
        by_cases hls : L' j1 < L' ii
        · rw [decide_eq_true hls]
          have HD2 := hid (HD.out.drewN q2)
          have hms := meth_swap ⟨c, 3, none⟩ ((wr).drewN q2) _ _ _ HD2.out.cell
          go_wp2_with fail
          refine (swap_any ((wr).drewN q2) g cap n L' sb bm ii j1 HD2.out.mem (by omega) (by omega)).mono ?_
          rintro e w3 ⟨rfl, hm3, ht3⟩
          have HC3 := hid (HD2.out.swapped (by omega) (by omega) hm3 ht3)
          have HDN : Hid (Dn L (swp L' ii j1) i0 j1 nn) := hL.out.2.step hii2 (by have := HJ.out; omega) (by have := HJ.out; omega) (by omega) hls HM.out
          have hT3 := (hT1.drewN q2).trans (ht3.wide (S' := fun x => x = g ∨ ∃ k, k < n ∧ x = sb (L k)) (by
            rintro x (e | e | e)
            · exact .inl e
            · obtain ⟨k, hk, e'⟩ := HSET.out ii (by omega)
              exact .inr ⟨k, hk, by rw [e, e']⟩
            · obtain ⟨k, hk, e'⟩ := HSET.out j1 (by omega)
              exact .inr ⟨k, hk, by rw [e, e']⟩))
          have hmeas : nn - j1 < nn - ii := by have := HJ.out; omega
          clear hm3 ht3 hms
          go_wp2_with fail
          exact ⟨⟨j1, by omega, rfl, ⟨_, HC3.out, HDN.out⟩, hT3⟩, by simpa [intOf] using hmeas⟩
        · rw [decide_eq_false hls]
          have HC := hid (hL.out.2.done (fun k h0 hk he => by have := HM.out k h0 hk he; omega) (HD.out.drewN q2) (hT1.drewN q2))
          go_wp2_with fail
          go_ret
          simpa using HC.out
end Go.Proofs.YtdmnemgooagehaaGreatDoor

namespace Go.Proofs.YtdmnemgooagehaaGreatDoor
open Go.RowKit Go.Maps

theorem info82 : (Tryz.prog.info? 115).map (fun i => (i.zero, i.size, i.bytes)) = some (some (.pointer none), 1, 8) := by kernel_rfl

theorem assert82 (b : Nat) (w : World) : (Instr.typeAssert (.iface 115 (.pointer (some ⟨b, 0, none⟩))) 20 115 false).run Tryz.prog w = .ok (.pointer (some ⟨b, 0, none⟩)) w := by kernel_rfl

def OPushPost (w : World) (c s n : Nat) (cs : Array Value) (v mp at_ : Value) (xs : List Value) (e : Ending) (w' : World) : Prop :=
  e = .returned (.tuple #[]) ∧ ∃ g cap, w'.heap[c]? = some (.cells (cs.setIfInBounds 3 (.slice (some ⟨g, 0, none⟩) (n + 1) cap)) 113) ∧ w'.ownsRow 0 115 1 (.slice (some ⟨g, 0, none⟩) (n + 1) cap) (n + 1) (xs ++ [.pointer (some ⟨s, 0, none⟩)]) ∧
    w'.heap[s]? = some (.cells #[mp, at_, .int .i64 (n : Int)] 118) ∧ (v.ownBlock = some g ∨ w.heap.size ≤ g) ∧ Turn (fun x => x = c ∨ x = s ∨ v.ownBlock = some x) w w'

set_option maxRecDepth 100000 in
set_option maxHeartbeats 2000000 in
theorem opush_any (w : World) (c s n cap : Nat) (a : Option Addr) (cs : Array Value) (mp at_ sp : Value) (xs : List Value) (hc : w.heap[c]? = some (.cells cs 113)) (h3 : cs[3]? = some (.slice a n cap)) (hs : w.heap[s]? = some (.cells #[mp, at_, sp] 118))
    (hrow : w.ownsRow 0 115 1 (.slice a n cap) n xs) (hcs : c ≠ s) (hac : (Value.slice a n cap).ownBlock ≠ some c) (has : (Value.slice a n cap).ownBlock ≠ some s) (hn : n ≤ 1048576) :
    Calls Tryz.prog 203 #[.pointer (some ⟨c, 3, none⟩), .iface 115 (.pointer (some ⟨s, 0, none⟩))] w (OPushPost w c s n cs (.slice a n cap) mp at_ xs) := by
  obtain ⟨i0, hi0, hz0, hz1, hz2⟩ := info_parts info82
  have HIF := hid (And.intro hi0 (And.intro hz0 (And.intro hz1 hz2)))
  have k3 : w.cell? ⟨c, 3, none⟩ = some (.slice a n cap) := by rw [cell_of_row _ _ _ _ _ _ hc]; exact h3
  have ks : w.cell? ⟨s, 2, none⟩ = some sp := by rw [cell_of_row _ _ _ _ _ _ hs]; rfl
  have fs := frozen_of_row w s 2 _ _ hs
  have HH := hid (And.intro hc (And.intro h3 (And.intro hs (And.intro hrow (And.intro hac has)))))
  clear hi0 hz0 hz1 hz2 hc h3 hs hrow hac has
  have hta := assert82 s
  go_enter Tryz.func203, Tryz.ntmps203
  go_upto_region 2 with fail
  have hcs' : s ≠ c := hcs.symm
  have hc1 : (w.setCell ⟨s, 2, none⟩ (.int .i64 (n : Int))).heap[c]? = some (.cells cs 113) := (Below.heap_setCell _ _ _ _ hcs).trans HH.out.1
  have hs1 : (w.setCell ⟨s, 2, none⟩ (.int .i64 (n : Int))).heap[s]? = some (.cells #[mp, at_, .int .i64 (n : Int)] 118) := by rw [setCell_head HH.out.2.2.1]; rfl
  have hr1 : (w.setCell ⟨s, 2, none⟩ (.int .i64 (n : Int))).ownsRow 0 115 1 (.slice a n cap) n xs := HH.out.2.2.2.1.other (fun g hg => Below.heap_setCell _ _ _ _ (fun e => HH.out.2.2.2.2.2 (by rw [hg, e])))
  have ht1 : Turn (fun x => x = c ∨ x = s ∨ (Value.slice a n cap).ownBlock = some x) w (w.setCell ⟨s, 2, none⟩ (.int .i64 (n : Int))) := (Turn.refl _ w).but (But.setCell (But.refl s w) (.inl rfl) _) (.inl (.inr (.inl rfl)))
  have hz1 : (w.setCell ⟨s, 2, none⟩ (.int .i64 (n : Int))).heap.size = w.heap.size := by simp
  generalize w.setCell ⟨s, 2, none⟩ (.int .i64 (n : Int)) = w1 at *
  have q3 : w1.cell? ⟨c, 3, none⟩ = some (.slice a n cap) := by rw [cell_of_row _ _ _ _ _ _ hc1]; exact HH.out.2.1
  have H1 := hid (And.intro hc1 (And.intro hs1 (And.intro hr1 hz1)))
  clear hc1 hs1 hr1 hz1 k3 ks fs
  go_wp2_with (first
    | (at_builtin; refine wpList_append_lies _ rfl _ _ 111 rfl 0 115 i0 (.pointer none) 1 8 Tryz.underlying111 HIF.out.1 HIF.out.2.1 HIF.out.2.2.1 HIF.out.2.2.2 rfl (by decide) _ _ _ rfl (H1.out.2.2.1.alloc _) ⟨w1.heap.size, 0, none⟩ 1 1 [.pointer (some ⟨s, 0, none⟩)] rfl rfl ?c1 ?c2 (by decide) ?c3 ?c4 (Nat.zero_le _) _ rfl ?_)
    | fail)
  case c1 =>
    intro j u hj
    rw [addr_add, Nat.zero_add, cell_of_row _ _ _ _ _ _ (heap_alloc_new _ _), ← hj]
    match j, hj with
    | 0, _ => rfl
  case c2 =>
    intro u hu
    simp at hu
    rw [hu]; rfl
  case c3 => unfold maxLen; omega
  case c4 => omega
  intro g2 cap2 w2 hown2 hg2 hat2 hlt2
  have hb2 : Turn (fun x => x = c ∨ x = s ∨ (Value.slice a n cap).ownBlock = some x) w w2 := by
    refine (ht1.alloc _).trans ⟨hg2.os, hg2.tape, hg2.output, hg2.size, fun i hi hn => hg2.block i hi (fun e => hn (.inr (.inr e.symm)))⟩
  have hc2 : w2.heap[c]? = some (.cells cs 113) := by
    have hl : c < w1.heap.size := (Array.getElem?_eq_some_iff.1 H1.out.1).1
    rw [hg2.block c (by simp; omega) (fun e => HH.out.2.2.2.2.1 e.symm), Below.heap_alloc w1 _ c hl]
    exact H1.out.1
  have hs2 : w2.heap[s]? = some (.cells #[mp, at_, .int .i64 (n : Int)] 118) := by
    have hl : s < w1.heap.size := (Array.getElem?_eq_some_iff.1 H1.out.2.1).1
    rw [hg2.block s (by simp; omega) (fun e => HH.out.2.2.2.2.2 e.symm), Below.heap_alloc w1 _ s hl]
    exact H1.out.2.1
  have q2 : w2.cell? ⟨c, 3, none⟩ = some (.slice a n cap) := by rw [cell_of_row _ _ _ _ _ _ hc2]; exact HH.out.2.1
  have f2 := frozen_of_row w2 c 3 _ _ hc2
  have hgc : g2 ≠ c := by
    rintro rfl
    rcases hat2 with e | e
    · exact HH.out.2.2.2.2.1 e
    · have hl : g2 < w1.heap.size := (Array.getElem?_eq_some_iff.1 H1.out.1).1
      omega
  have H2 := hid (And.intro hown2 (And.intro hat2 (And.intro hc2 (And.intro hs2 hgc))))
  clear hown2 hg2 hat2 hc2 hs2 hgc ht1 q3
  go_wp2_with fail
  go_end0
  refine ⟨rfl, g2, cap2, setCell_head H2.out.2.2.1 _, H2.out.1.other (fun g hg => Below.heap_setCell _ _ _ _ (fun e => ?_)), (Below.heap_setCell _ _ _ _ hcs').trans H2.out.2.2.2.1, ?_, hb2.but (But.setCell (But.refl c w2) (.inl rfl) _) (.inl (.inl rfl))⟩
  · have e2 : g2 = g := by simpa [Value.ownBlock] using hg
    exact H2.out.2.2.2.2 (e2.trans e)
  · rcases H2.out.2.1 with e | e
    · exact .inl e
    · right
      have := H1.out.2.2.2
      omega
end Go.Proofs.YtdmnemgooagehaaGreatDoor

namespace Go.Proofs.YtdmnemgooagehaaGreatDoor
open Go.RowKit Go.Maps

def ptrsOf (n : Nat) (L sb : Nat → Nat) : List Value := (List.range n).map fun k => .pointer (some ⟨sb (L k), 0, none⟩)
theorem ptrsOf_get {n k : Nat} (L sb : Nat → Nat) (h : k < n) : (ptrsOf n L sb)[k]? = some (.pointer (some ⟨sb (L k), 0, none⟩)) := by
  unfold ptrsOf
  rw [List.getElem?_map, List.getElem?_range h]
  rfl
theorem ptrsOf_len (n : Nat) (L sb : Nat → Nat) : (ptrsOf n L sb).length = n := by simp [ptrsOf]

theorem Hm.row {w : World} {g cap n : Nat} {L sb bm : Nat → Nat} (h : Hm w g cap n L sb bm) : w.ownsRow 0 115 1 (.slice (some ⟨g, 0, none⟩) n cap) n (ptrsOf n L sb) := by
  obtain ⟨cur, hb, hs, hc⟩ := h.body
  refine ⟨by rw [ptrsOf_len, Nat.mul_one], .inr ⟨g, cap, cur, rfl, Nat.zero_le _, hb, h.len, h.small, by rw [hs, Nat.mul_one], ?_⟩⟩
  apply List.ext_getElem?
  intro k
  rw [Nat.mul_one]
  by_cases hk : k < n
  · rw [List.getElem?_take_of_lt hk, Array.getElem?_toList, hc k hk, ptrsOf_get L sb hk]
  · rw [List.getElem?_take_eq_none (by omega), List.getElem?_eq_none (by rw [ptrsOf_len]; omega)]
theorem hm_of_row {w : World} {g cap n : Nat} {L sb bm : Nat → Nat} (h : w.ownsRow 0 115 1 (.slice (some ⟨g, 0, none⟩) n cap) n (ptrsOf n L sb))
    (hs : ∀ k, k < n → w.heap[sb (L k)]? = some (.cells #[.pointer (some ⟨bm (L k), 0, none⟩), .int .i64 ((L k * 1024 : Nat) : Int), .int .i64 (k : Int)] 118))
    (h1 : ∀ i j, i < n → j < n → sb (L i) = sb (L j) → i = j) (hg : ∀ k, k < n → sb (L k) ≠ g) : Hm w g cap n L sb bm := by
  rcases h.2 with ⟨e, _⟩ | ⟨g', cap', cur, e, _, hb, hl, hm, hz, ht⟩
  · cases e
  · obtain ⟨rfl, rfl⟩ : g = g' ∧ cap = cap' := by simpa using e
    refine ⟨⟨cur, hb, by rw [hz, Nat.mul_one], fun k hk => ?_⟩, hs, h1, hg, hl, hm⟩
    have e2 := ptrsOf_get L sb hk
    rw [← ht, Nat.mul_one, List.getElem?_take_of_lt hk, Array.getElem?_toList] at e2
    exact e2
/-- A page more at the end. -/
def ext (L : Nat → Nat) (n p : Nat) : Nat → Nat := fun k => if k = n then p else L k
theorem ext_l (L : Nat → Nat) (n p : Nat) : ext L n p n = p := by simp [ext]
theorem ext_o (L : Nat → Nat) {n p k : Nat} (h : k ≠ n) : ext L n p k = L k := by simp [ext, h]
theorem ptrsOf_ext (L sb : Nat → Nat) (n p : Nat) : ptrsOf (n + 1) (ext L n p) sb = ptrsOf n L sb ++ [.pointer (some ⟨sb p, 0, none⟩)] := by
  unfold ptrsOf
  rw [List.range_succ, List.map_append]
  congr 1
  · apply List.map_congr_left
    intro k hk
    rw [ext_o L (by have := List.mem_range.1 hk; omega)]
  · simp [ext_l]
theorem Hpo.ext {L : Nat → Nat} {n p : Nat} (h : Hpo L n) : Upo (ext L n p) (n + 1) n := by
  refine ⟨fun k h0 hk hne => ?_, fun k h0 hk he hn => by omega⟩
  rw [ext_o L hne, ext_o L (by omega)]
  exact h k h0 (by omega)

/-- What lies in the cache's field of open slabs: nothing yet, or a row. -/
def Opn (w : World) (c n cap : Nat) (a : Option Addr) (L sb bm : Nat → Nat) : Prop := (a = none ∧ n = 0 ∧ cap = 0) ∨ ∃ g, a = some ⟨g, 0, none⟩ ∧ Hc w c g cap n L sb bm
theorem Opn.row {w : World} {c n cap : Nat} {a : Option Addr} {L sb bm : Nat → Nat} (h : Opn w c n cap a L sb bm) : w.ownsRow 0 115 1 (.slice a n cap) n (ptrsOf n L sb) := by
  rcases h with ⟨rfl, rfl, rfl⟩ | ⟨g, rfl, h⟩
  · exact World.ownsRow_nil _ _ _ _
  · exact h.mem.row

/-- Behind the row's own Push: a row with that page at its end. -/
theorem Opn.pushed {w w' : World} {c n cap g cap2 p : Nat} {a : Option Addr} {L sb bm : Nat → Nat} {cs : Array Value} (h : Opn w c n cap a L sb bm) (hcs : 3 < cs.size)
    (hc : w'.heap[c]? = some (.cells (cs.setIfInBounds 3 (.slice (some ⟨g, 0, none⟩) (n + 1) cap2)) 113)) (hr : w'.ownsRow 0 115 1 (.slice (some ⟨g, 0, none⟩) (n + 1) cap2) (n + 1) (ptrsOf n L sb ++ [.pointer (some ⟨sb p, 0, none⟩)]))
    (hs : w'.heap[sb p]? = some (.cells #[.pointer (some ⟨bm p, 0, none⟩), .int .i64 ((p * 1024 : Nat) : Int), .int .i64 (n : Int)] 118)) (hat : (Value.slice a n cap).ownBlock = some g ∨ w.heap.size ≤ g)
    (ht : Turn (fun x => x = c ∨ x = sb p ∨ (Value.slice a n cap).ownBlock = some x) w w') (hnew : ∀ k, k < n → sb (L k) ≠ sb p) (hpc : sb p ≠ c) (hpl : sb p < w.heap.size) (hcl : c < w.heap.size) (hpg : (Value.slice a n cap).ownBlock ≠ some (sb p)) (hn : n < 1048576) :
    Hc w' c g cap2 (n + 1) (ext L n p) sb bm := by
  have hold : ∀ k, k < n → ∃ g0, a = some ⟨g0, 0, none⟩ ∧ Hc w c g0 cap n L sb bm := fun k hk => by
    rcases h with ⟨_, h0, _⟩ | h
    · omega
    · exact h
  have hcg : c ≠ g := by
    rcases hat with e | e
    · rcases h with ⟨rfl, _, _⟩ | ⟨g0, rfl, hH⟩
      · cases e
      · have : g0 = g := by simpa [Value.ownBlock] using e
        rw [← this]; exact hH.cg
    · omega
  refine ⟨?_, hm_of_row ?_ (fun k hk => ?_) (fun i j hi hj he => ?_) (fun k hk => ?_), hcg, fun k hk => ?_, by omega⟩
  · rw [cell_of_row _ _ _ _ _ _ hc, Array.getElem?_setIfInBounds_self_of_lt hcs]
  · rw [ptrsOf_ext]; exact hr
  · by_cases e : k = n
    · subst e; rw [ext_l]; exact hs
    · rw [ext_o L e]
      obtain ⟨g0, rfl, hH⟩ := hold k (by omega)
      have hb := hH.mem.slab k (by omega)
      rw [ht.block _ (Array.getElem?_eq_some_iff.1 hb).1 (by
        rintro (e1 | e1 | e1)
        · exact hH.cs k (by omega) e1
        · exact hnew k (by omega) e1
        · have : g0 = sb (L k) := by simpa [Value.ownBlock] using e1
          exact hH.mem.gap k (by omega) this.symm)]
      exact hb
  · by_cases ei : i = n
    · by_cases ej : j = n
      · omega
      · rw [ei, ext_l, ext_o L ej] at he
        exact absurd he.symm (hnew j (by omega))
    · by_cases ej : j = n
      · rw [ej, ext_l, ext_o L ei] at he
        exact absurd he (hnew i (by omega))
      · rw [ext_o L ei, ext_o L ej] at he
        obtain ⟨g0, rfl, hH⟩ := hold i (by omega)
        exact hH.mem.one i j (by omega) (by omega) he
  · by_cases e : k = n
    · subst e; rw [ext_l]
      rintro rfl
      rcases hat with e | e
      · exact hpg e
      · omega
    · rw [ext_o L e]
      obtain ⟨g0, rfl, hH⟩ := hold k (by omega)
      rcases hat with e1 | e1
      · have : g0 = g := by simpa [Value.ownBlock] using e1
        rw [← this]; exact hH.mem.gap k (by omega)
      · have := (Array.getElem?_eq_some_iff.1 (hH.mem.slab k (by omega))).1
        omega
  · by_cases e : k = n
    · subst e; rw [ext_l]; exact hpc
    · rw [ext_o L e]
      obtain ⟨g0, rfl, hH⟩ := hold k (by omega)
      exact hH.cs k (by omega)
end Go.Proofs.YtdmnemgooagehaaGreatDoor

namespace Go.Proofs.YtdmnemgooagehaaGreatDoor
open Go.RowKit Go.Maps

def HPushPost (w : World) (c n cap p : Nat) (a : Option Addr) (L sb bm : Nat → Nat) (e : Ending) (w' : World) : Prop :=
  e = .returned (.tuple #[]) ∧ ∃ g cap2 L', Hc w' c g cap2 (n + 1) L' sb bm ∧ Hpo L' (n + 1) ∧ SameSet (ext L n p) L' (n + 1) ∧ (a = some ⟨g, 0, none⟩ ∨ w.heap.size ≤ g) ∧
    Turn (fun x => x = c ∨ x = sb p ∨ (Value.slice a n cap).ownBlock = some x ∨ ∃ k, k < n ∧ x = sb (L k)) w w' ∧ (∀ cs, w.heap[c]? = some (.cells cs 113) → w'.heap[c]? = some (.cells (cs.setIfInBounds 3 (.slice (some ⟨g, 0, none⟩) (n + 1) cap2)) 113))

set_option maxRecDepth 100000 in
set_option maxHeartbeats 2000000 in
theorem hpush_any (w : World) (c n cap p : Nat) (a : Option Addr) (cs : Array Value) (L sb bm : Nat → Nat) (sp : Value) (hc : w.heap[c]? = some (.cells cs 113)) (h3 : cs[3]? = some (.slice a n cap)) (ho : Opn w c n cap a L sb bm) (hh : Hpo L n)
    (hs : w.heap[sb p]? = some (.cells #[.pointer (some ⟨bm p, 0, none⟩), .int .i64 ((p * 1024 : Nat) : Int), sp] 118)) (hpc : sb p ≠ c) (hpg : (Value.slice a n cap).ownBlock ≠ some (sb p)) (hac : (Value.slice a n cap).ownBlock ≠ some c) (hnew : ∀ k, k < n → sb (L k) ≠ sb p) (hn : n < 1048576) :
    Calls Tryz.prog 75 #[.iface 120 (.pointer (some ⟨c, 3, none⟩)), .iface 115 (.pointer (some ⟨sb p, 0, none⟩))] w (HPushPost w c n cap p a L sb bm) := by
  have hmp := meth_push ⟨c, 3, none⟩ w
  have hcl : c < w.heap.size := (Array.getElem?_eq_some_iff.1 hc).1
  have hpl : sb p < w.heap.size := (Array.getElem?_eq_some_iff.1 hs).1
  have hsz : 3 < cs.size := (Array.getElem?_eq_some_iff.1 h3).1
  have hcon := opush_any w c (sb p) n cap a cs _ _ sp (ptrsOf n L sb) hc h3 hs ho.row (fun e => hpc e.symm) hac hpg (by omega)
  have HC := hid hcon
  have HH := hid (And.intro hc (And.intro ho (And.intro hh (And.intro hpg hnew))))
  obtain ⟨s, hse⟩ : ∃ s, s = sb p := ⟨_, rfl⟩
  rw [← hse] at HC hpc hpl ⊢
  have HS := hid hse
  clear hcon hc ho hh hs hpg hnew hac hse h3
  go_enter Tryz.func75, Tryz.ntmps75
  go_wp2_with fail
  refine HC.out.mono ?_
  rintro e w1 ⟨rfl, g, cap2, hc1, hr1, hs1, hat, ht1⟩
  rw [HS.out] at hr1 hs1 ht1
  have H1 : Hid (Hc w1 c g cap2 (n + 1) (ext L n p) sb bm) := HH.out.2.1.pushed hsz hc1 hr1 hs1 hat ht1 HH.out.2.2.2.2 (by rw [← HS.out]; exact hpc) (by rw [← HS.out]; exact hpl) hcl HH.out.2.2.2.1 hn
  have hml := meth_len ⟨c, 3, none⟩ w1 _ _ _ H1.out.cell
  have hn1 : ((n + 1 : Nat) : Int) - 1 = (n : Int) := by omega
  have HX := hid (And.intro hc1 (And.intro hat ht1))
  clear hc1 hr1 hs1 hat ht1 hmp
  go_wp2_with fail
  refine (olen_any _ _ _ _).mono ?_
  rintro e w2 ⟨rfl, rfl⟩
  go_wp2_with fail
  refine (up_any w2 c g cap2 (n + 1) (ext L n p) sb bm n (n + 1) H1.out HH.out.2.2.1.ext (by omega) (Nat.le_refl _)).mono ?_
  rintro e w3 ⟨rfl, L', hH3, hp3, hs3, _, ht3⟩
  have H3 := hid (And.intro hH3 (And.intro hp3 (And.intro hs3 ht3)))
  clear hH3 hp3 hs3 ht3
  go_wp2_with fail
  go_end0
  obtain ⟨hc1, hat, ht1⟩ := HX.out
  obtain ⟨hH3, hp3, hs3, ht3⟩ := H3.out
  have hta : Turn (fun x => x = c ∨ x = sb p ∨ (Value.slice a n cap).ownBlock = some x ∨ ∃ k, k < n ∧ x = sb (L k)) w w2 := ht1.wide (by
    rintro x (e | e | e)
    · exact .inl e
    · exact .inr (.inl e)
    · exact .inr (.inr (.inl e)))
  have hsize := ht1.size
  refine ⟨rfl, g, cap2, L', hH3, hp3, hs3, ?_, ⟨ht3.os.trans hta.os, ht3.tape.trans hta.tape, ht3.output.trans hta.output, Nat.le_trans hta.size ht3.size, fun i hi hne => ?_⟩, fun cs2 hcs2 => ?_⟩
  · rcases hat with e | e
    · left
      cases a with
      | none => cases e
      | some ad =>
        rcases HH.out.2.1 with ⟨e1, _⟩ | ⟨g0, e1, _⟩
        · cases e1
        · obtain rfl : ad = ⟨g0, 0, none⟩ := by simpa using e1
          have : g0 = g := by simpa [Value.ownBlock] using e
          rw [this]
    · exact .inr e
  · rw [ht3.block i (by omega) ?_]
    · exact hta.block i hi hne
    · rintro (e | ⟨k, hk, e⟩)
      · rcases hat with e1 | e1
        · exact hne (.inr (.inr (.inl (by rw [e]; exact e1))))
        · omega
      · by_cases ek : k = n
        · rw [ek, ext_l] at e
          exact hne (.inr (.inl e))
        · rw [ext_o L ek] at e
          exact hne (.inr (.inr (.inr ⟨k, by omega, e⟩)))
  · have hcc : w3.heap[c]? = w2.heap[c]? := ht3.block c (by omega) (by
      rintro (e | ⟨k, hk, e⟩)
      · exact H1.out.cg e
      · exact H1.out.cs k hk e.symm)
    obtain rfl : cs = cs2 := by
      rw [HH.out.1] at hcs2
      simpa using hcs2
    exact hcc.trans hc1
end Go.Proofs.YtdmnemgooagehaaGreatDoor

namespace Go.Proofs.YtdmnemgooagehaaGreatDoor
open Go.RowKit Go.Maps

theorem Hm.cut {w w' : World} {g cap m : Nat} {L sb bm : Nat → Nat} {cur : Array Value} {v : Value} (h : Hm w g cap (m + 1) L sb bm) (hb : w.heap[g]? = some (.cells cur 115)) (hb' : w'.heap[g]? = some (.cells (cur.setIfInBounds m v) 115)) (ho : ∀ k, k < m → w'.heap[sb (L k)]? = w.heap[sb (L k)]?) : Hm w' g cap m L sb bm := by
  obtain ⟨cur', hb2, hs, hc⟩ := h.body
  obtain rfl : cur = cur' := by
    rw [hb] at hb2
    simpa using hb2
  refine ⟨⟨_, hb', by simp [hs], fun k hk => ?_⟩, fun k hk => (ho k hk).trans (h.slab k (by omega)), fun i j hi hj he => h.one i j (by omega) (by omega) he, fun k hk => h.gap k (by omega), by have := h.len; omega, h.small⟩
  rw [Array.getElem?_setIfInBounds_ne (by omega)]
  exact hc k (by omega)

def OPopPost (w : World) (c g cap m : Nat) (L sb bm : Nat → Nat) (e : Ending) (w' : World) : Prop :=
  e = .returned (.iface 115 (.pointer (some ⟨sb (L m), 0, none⟩))) ∧ Hc w' c g cap m L sb bm ∧ Turn (fun x => x = c ∨ x = g) w w' ∧ (∀ cs, w.heap[c]? = some (.cells cs 113) → w'.heap[c]? = some (.cells (cs.setIfInBounds 3 (.slice (some ⟨g, 0, none⟩) m cap)) 113))

set_option maxRecDepth 100000 in
set_option maxHeartbeats 2000000 in
theorem opop_any (w : World) (c g cap m : Nat) (cs : Array Value) (L sb bm : Nat → Nat) (hc : w.heap[c]? = some (.cells cs 113)) (h : Hc w c g cap (m + 1) L sb bm) :
    Calls Tryz.prog 202 #[.pointer (some ⟨c, 3, none⟩)] w (OPopPost w c g cap m L sb bm) := by
  obtain ⟨cur, hb, hs, hcur⟩ := h.mem.body
  have k3 := h.cell
  have km := h.mem.cell (k := m) (by omega)
  have fm := frozen_of_row w g m _ _ hb
  have hlen := h.mem.len
  have hsm := h.mem.small
  unfold maxLen at hsm
  have hfew := h.few
  have i1 : ((m + 1 : Nat) : Int) - 1 = (m : Int) := by omega
  have i2 : (m : Int) < ((m + 1 : Nat) : Int) := by omega
  have i3 : (0 : Int) ≤ (m : Int) := by omega
  have i4 : (m : Int) ≤ (cap : Int) := by omega
  have HH := hid (And.intro hc (And.intro h (And.intro hb hs)))
  obtain ⟨s, hse⟩ : ∃ s, s = sb (L m) := ⟨_, rfl⟩
  rw [← hse] at km
  have HS := hid hse
  have hcg := h.cg
  clear hc h hb hs hcur hse
  go_enter Tryz.func202, Tryz.ntmps202
  go_upto_region 4 with fail
  have hb1 : (w.setCell ⟨g, m, none⟩ (.pointer none)).heap[g]? = some (.cells (cur.setIfInBounds m (.pointer none)) 115) := setCell_head HH.out.2.2.1 _
  have hc1 : (w.setCell ⟨g, m, none⟩ (.pointer none)).heap[c]? = some (.cells cs 113) := (Below.heap_setCell _ _ _ _ hcg).trans HH.out.1
  have ho1 : ∀ x, x ≠ g → (w.setCell ⟨g, m, none⟩ (.pointer none)).heap[x]? = w.heap[x]? := fun x hx => Below.heap_setCell _ _ _ _ hx
  have ht1 : Turn (fun x => x = c ∨ x = g) w (w.setCell ⟨g, m, none⟩ (.pointer none)) := (Turn.refl _ w).but (But.setCell (But.refl g w) (.inl rfl) _) (.inl (.inr rfl))
  generalize w.setCell ⟨g, m, none⟩ (.pointer none) = w1 at *
  have h3 : cs[3]? = some (.slice (some ⟨g, 0, none⟩) (m + 1) cap) := by rw [← cell_of_row _ _ _ _ _ _ HH.out.1]; exact k3
  have q3 : w1.cell? ⟨c, 3, none⟩ = some (.slice (some ⟨g, 0, none⟩) (m + 1) cap) := by rw [cell_of_row _ _ _ _ _ _ hc1]; exact h3
  have f3 := frozen_of_row w1 c 3 _ _ hc1
  have H1 := hid (And.intro hb1 (And.intro hc1 (And.intro ho1 (And.intro ht1 h3))))
  clear hb1 hc1 ho1 ht1 h3 k3 km fm
  go_wp2_with fail
  go_ret
  obtain ⟨hb1, hc1, ho1, ht1, h3⟩ := H1.out
  have hH := HH.out.2.1
  have hc2 : (w1.setCell ⟨c, 3, none⟩ (.slice (some ⟨g, 0, none⟩) m cap)).heap[c]? = some (.cells (cs.setIfInBounds 3 (.slice (some ⟨g, 0, none⟩) m cap)) 113) := setCell_head hc1 _
  have ho2 : ∀ x, x ≠ c → (w1.setCell ⟨c, 3, none⟩ (.slice (some ⟨g, 0, none⟩) m cap)).heap[x]? = w1.heap[x]? := fun x hx => Below.heap_setCell _ _ _ _ hx
  refine ⟨by rw [← HS.out]; rfl, ⟨?_, hH.mem.cut HH.out.2.2.1 ((ho2 g hcg.symm).trans hb1) (fun k hk => (ho2 _ (hH.cs k (by omega))).trans (ho1 _ (hH.mem.gap k (by omega)))), hcg, fun k hk => hH.cs k (by omega), by omega⟩, ht1.but (But.setCell (But.refl c w1) (.inl rfl) _) (.inl (.inl rfl)), fun cs2 hcs2 => ?_⟩
  · rw [cell_of_row _ _ _ _ _ _ hc2, Array.getElem?_setIfInBounds_self_of_lt (Array.getElem?_eq_some_iff.1 h3).1]
  · obtain rfl : cs = cs2 := by
      rw [HH.out.1] at hcs2
      simpa using hcs2
    exact hc2
end Go.Proofs.YtdmnemgooagehaaGreatDoor

namespace Go.Proofs.YtdmnemgooagehaaGreatDoor
open Go.RowKit Go.Maps

/-- A heap with the one at i less: what is left stands in order, and is what stood there but that. -/
def HOutPost (w : World) (c g cap m i : Nat) (L sb bm : Nat → Nat) (e : Ending) (w' : World) : Prop :=
  e = .returned (.iface 115 (.pointer (some ⟨sb (L i), 0, none⟩))) ∧ ∃ L', Hc w' c g cap m L' sb bm ∧ Hpo L' m ∧ SameSet (swp L i m) L' m ∧ Turn (fun x => x = c ∨ x = g ∨ ∃ k, k < m + 1 ∧ x = sb (L k)) w w' ∧ (∀ cs, w.heap[c]? = some (.cells cs 113) → w'.heap[c]? = some (.cells (cs.setIfInBounds 3 (.slice (some ⟨g, 0, none⟩) m cap)) 113)) ∧ w'.heap[sb (L i)]? = some (.cells #[.pointer (some ⟨bm (L i), 0, none⟩), .int .i64 ((L i * 1024 : Nat) : Int), .int .i64 (m : Int)] 118)

theorem Hpo.gen_swp {L : Nat → Nat} {m i : Nat} (h : Hpo L (m + 1)) (hi : i ≤ m) : Geno (swp L i m) m i :=
  h.gen (by omega) (by omega) (fun k hk hne => swp_o L hne (by omega))

/-- The row's places but their last turned: the cache's own block, and what is told of the row's end. -/
theorem out_end {w w1 w2 w3 : World} {c g cap m i : Nat} {L L2 sb bm : Nat → Nat} {e : Ending} (hi : i ≤ m) (h : Hc w c g cap (m + 1) L sb bm)
    (ht1 : Turn (fun x => x = g ∨ x = sb (L i) ∨ x = sb (L m)) w w1) (ht2 : Turn (fun x => x = g ∨ ∃ k, k < m + 1 ∧ x = sb (swp L i m k)) w1 w2) (hs : SameSet (swp L i m) L2 m) (hp : Hpo L2 m) (hl : L2 m = L i) (hH2 : Hc w2 c g cap (m + 1) L2 sb bm) (ho : OPopPost w2 c g cap m L2 sb bm e w3) :
    HOutPost w c g cap m i L sb bm e w3 := by
  obtain ⟨rfl, hH, ht3, hf⟩ := ho
  have hta : Turn (fun x => x = c ∨ x = g ∨ ∃ k, k < m + 1 ∧ x = sb (L k)) w w2 := by
    refine (ht1.wide ?_).trans ?_
    · rintro x (e | e | e)
      · exact .inr (.inl e)
      · exact .inr (.inr ⟨i, by omega, e⟩)
      · exact .inr (.inr ⟨m, by omega, e⟩)
    · refine ht2.wide ?_
      rintro x (e | ⟨k, hk, e⟩)
      · exact .inr (.inl e)
      · obtain ⟨k', hk', e'⟩ := (SameSet.swp (L := L) (n := m + 1) (i := i) (j := m) (by omega) (by omega)).1 k hk
        exact .inr (.inr ⟨k', hk', by rw [e, e']⟩)
  have hlc : c < w.heap.size := World.block_lt_of_cell? w ⟨c, 3, none⟩ h.cell
  have hb1 : w1.heap[c]? = w.heap[c]? := ht1.block c hlc (by
    rintro (e | e | e)
    · exact h.cg e
    · exact h.cs i (by omega) e.symm
    · exact h.cs m (by omega) e.symm)
  have hb2 : w2.heap[c]? = w1.heap[c]? := ht2.block c (Nat.lt_of_lt_of_le hlc ht1.size) (by
    rintro (e | ⟨k, hk, e⟩)
    · exact h.cg e
    · obtain ⟨k', hk', e'⟩ := (SameSet.swp (L := L) (n := m + 1) (i := i) (j := m) (by omega) (by omega)).1 k hk
      exact h.cs k' hk' (by rw [e, e']))
  refine ⟨by rw [hl], L2, hH, hp, hs, hta.trans (ht3.wide ?_), fun cs2 hcs2 => hf cs2 ((hb2.trans hb1).trans hcs2), ?_⟩
  · rintro x (e | e)
    · exact .inl e
    · exact .inr (.inl e)
  · have hx := hH2.mem.slab m (by omega)
    rw [← hl, ht3.block _ (Array.getElem?_eq_some_iff.1 hx).1 (by
      rintro (e | e)
      · exact hH2.cs m (by omega) e
      · exact hH2.mem.gap m (by omega) e)]
    exact hx

set_option maxRecDepth 100000 in
set_option maxHeartbeats 2000000 in
theorem hpop_any (w : World) (c g cap m : Nat) (cs : Array Value) (L sb bm : Nat → Nat) (hc : w.heap[c]? = some (.cells cs 113)) (h : Hc w c g cap (m + 1) L sb bm) (hh : Hpo L (m + 1)) :
    Calls Tryz.prog 72 #[.iface 120 (.pointer (some ⟨c, 3, none⟩))] w (HOutPost w c g cap m 0 L sb bm) := by
  have hml := meth_len ⟨c, 3, none⟩ w _ _ _ h.cell
  have hms := meth_swap ⟨c, 3, none⟩ w _ _ _ h.cell
  have hfew := h.few
  have hsw := swap_any w g cap (m + 1) L sb bm 0 m h.mem (by omega) (by omega)
  rw [show ((0 : Nat) : Int) = 0 from rfl] at hsw
  have HSW := hid hsw
  have HH := hid (And.intro hc (And.intro h hh))
  clear hc h hh hsw
  go_enter Tryz.func72, Tryz.ntmps72
  go_wp2_with fail
  refine (olen_any _ _ _ _).mono ?_
  rintro e w0 ⟨rfl, rfl⟩
  go_wp2_with fail
  refine HSW.out.mono ?_
  rintro e w1 ⟨rfl, hm1, ht1⟩
  have H1 := hid (HH.out.2.1.swapped (by omega) (by omega) hm1 ht1)
  have HT1 := hid ht1
  have hdn := down_any w1 c g cap (m + 1) (swp L 0 m) sb bm 0 m H1.out (HH.out.2.2.gen_swp (by omega)) (by omega) (by omega)
  rw [show ((0 : Nat) : Int) = 0 from rfl] at hdn
  have HDN := hid hdn
  clear hm1 ht1 hdn hml hms HSW
  go_wp2_with fail
  refine HDN.out.mono ?_
  rintro e w2 ⟨moved, L2, rfl, hH2, hy, hn2, hs2, hf2, ht2⟩
  have hp2 : Hpo L2 m := by
    cases moved
    · obtain ⟨rfl, hu⟩ := hn2 rfl
      exact hu.done (fun h => by omega)
    · exact hy rfl
  have hl2 : L2 m = L 0 := by rw [hf2 m (Nat.le_refl _), swp_r]
  have hlc : c < w0.heap.size := World.block_lt_of_cell? w0 ⟨c, 3, none⟩ HH.out.2.1.cell
  have hc2 : w2.heap[c]? = some (.cells cs 113) := by
    rw [ht2.block c (Nat.lt_of_lt_of_le hlc HT1.out.size) (by
      rintro (e | ⟨k, hk, e⟩)
      · exact H1.out.cg e
      · exact H1.out.cs k hk e.symm), HT1.out.block c hlc (by
      rintro (e | e | e)
      · exact HH.out.2.1.cg e
      · exact HH.out.2.1.cs 0 (by omega) e.symm
      · exact HH.out.2.1.cs m (by omega) e.symm)]
    exact HH.out.1
  have hmp := meth_pop ⟨c, 3, none⟩ w2
  have H2 := hid (And.intro hH2 (And.intro hp2 (And.intro hs2 (And.intro hl2 (And.intro ht2 hc2)))))
  clear hH2 hy hn2 hs2 hf2 ht2 hp2 hl2 hc2
  go_wp2_with fail
  refine (opop_any w2 c g cap m cs L2 sb bm H2.out.2.2.2.2.2 H2.out.1).mono ?_
  intro e w3 ho
  have ho' := ho
  obtain ⟨rfl, _⟩ := ho
  have HO := hid ho'
  clear ho'
  go_wp2_with fail
  go_ret
  exact out_end (by omega) HH.out.2.1 HT1.out H2.out.2.2.2.2.1 H2.out.2.2.1 H2.out.2.1 H2.out.2.2.2.1 H2.out.1 HO.out
end Go.Proofs.YtdmnemgooagehaaGreatDoor

namespace Go.Proofs.YtdmnemgooagehaaGreatDoor
open Go.RowKit Go.Maps

theorem swp_same (L : Nat → Nat) (i : Nat) : swp L i i = L := by
  funext k
  unfold swp
  split
  · rename_i h; rw [h]
  · rfl
theorem same_block {w w1 w2 : World} {c g cap m i : Nat} {L sb bm : Nat → Nat} {cs : Array Value} (hi : i ≤ m) (h : Hc w c g cap (m + 1) L sb bm) (hc : w.heap[c]? = some (.cells cs 113))
    (ht1 : Turn (fun x => x = g ∨ x = sb (L i) ∨ x = sb (L m)) w w1) (ht2 : Turn (fun x => x = g ∨ ∃ k, k < m + 1 ∧ x = sb (swp L i m k)) w1 w2) : w2.heap[c]? = some (.cells cs 113) := by
  have hlc : c < w.heap.size := World.block_lt_of_cell? w ⟨c, 3, none⟩ h.cell
  rw [ht2.block c (Nat.lt_of_lt_of_le hlc ht1.size) (by
      rintro (e | ⟨k, hk, e⟩)
      · exact h.cg e
      · obtain ⟨k', hk', e'⟩ := (SameSet.swp (L := L) (n := m + 1) (i := i) (j := m) (by omega) (by omega)).1 k hk
        exact h.cs k' hk' (by rw [e, e'])), ht1.block c hlc (by
      rintro (e | e | e)
      · exact h.cg e
      · exact h.cs i (by omega) e.symm
      · exact h.cs m (by omega) e.symm)]
  exact hc

set_option maxRecDepth 100000 in
set_option maxHeartbeats 2000000 in
theorem hremove_last (w : World) (c g cap m : Nat) (cs : Array Value) (L sb bm : Nat → Nat) (hc : w.heap[c]? = some (.cells cs 113)) (h : Hc w c g cap (m + 1) L sb bm) (hh : Hpo L (m + 1)) :
    Calls Tryz.prog 130 #[.iface 120 (.pointer (some ⟨c, 3, none⟩)), .int .i64 (m : Int)] w (HOutPost w c g cap m m L sb bm) := by
  have hml := meth_len ⟨c, 3, none⟩ w _ _ _ h.cell
  have hmp := meth_pop ⟨c, 3, none⟩ w
  have hfew := h.few
  have HH := hid (And.intro hc (And.intro h hh))
  clear hc h hh
  go_enter Tryz.func130, Tryz.ntmps130
  go_wp2_with fail
  refine (olen_any _ _ _ _).mono ?_
  rintro e w0 ⟨rfl, rfl⟩
  go_wp2_with fail
  refine (opop_any w0 c g cap m cs L sb bm HH.out.1 HH.out.2.1).mono ?_
  intro e w3 ho
  have ho' := ho
  obtain ⟨rfl, _⟩ := ho
  have HO := hid ho'
  clear ho'
  go_wp2_with fail
  go_ret
  refine out_end (by omega) HH.out.2.1 (Turn.refl _ _) (Turn.refl _ _) (by rw [swp_same]; exact SameSet.refl L m) (fun k h0 hk => HH.out.2.2 k h0 (by omega)) rfl HH.out.2.1 HO.out

set_option maxRecDepth 100000 in
set_option maxHeartbeats 2000000 in
theorem hremove_mid (w : World) (c g cap m i : Nat) (cs : Array Value) (L sb bm : Nat → Nat) (hi : i < m) (hc : w.heap[c]? = some (.cells cs 113)) (h : Hc w c g cap (m + 1) L sb bm) (hh : Hpo L (m + 1)) :
    Calls Tryz.prog 130 #[.iface 120 (.pointer (some ⟨c, 3, none⟩)), .int .i64 (i : Int)] w (HOutPost w c g cap m i L sb bm) := by
  have hml := meth_len ⟨c, 3, none⟩ w _ _ _ h.cell
  have hms := meth_swap ⟨c, 3, none⟩ w _ _ _ h.cell
  have hfew := h.few
  have hne : ((m : Int) != (i : Int)) = true := by rw [bne_iff_ne]; omega
  have hne2 : ¬ ((m : Int) = (i : Int)) := by omega
  have HH := hid (And.intro hc (And.intro h hh))
  clear hc h hh
  go_enter Tryz.func130, Tryz.ntmps130
  go_wp2_with fail
  refine (olen_any _ _ _ _).mono ?_
  rintro e w0 ⟨rfl, rfl⟩
  go_wp2_with fail
  refine (swap_any w0 g cap (m + 1) L sb bm i m HH.out.2.1.mem (by omega) (by omega)).mono ?_
  rintro e w1 ⟨rfl, hm1, ht1⟩
  have H1 := hid (HH.out.2.1.swapped (by omega) (by omega) hm1 ht1)
  have HT1 := hid ht1
  clear hm1 ht1 hml hms
  go_wp2_with fail
  refine (down_any w1 c g cap (m + 1) (swp L i m) sb bm i m H1.out (HH.out.2.2.gen_swp (by omega)) (by omega) (by omega)).mono ?_
  rintro e w2 ⟨moved, L2, rfl, hH2, hy, hn2, hs2, hf2, ht2⟩
  cases moved
  · obtain ⟨rfl, hu⟩ := hn2 rfl
    have H2 := hid (And.intro hH2 (And.intro hu ht2))
    clear hH2 hy hn2 hs2 hf2 ht2 hu
    go_wp2_with fail
    refine (up_any w2 c g cap (m + 1) (swp L i m) sb bm i m H2.out.1 H2.out.2.1 hi (by omega)).mono ?_
    rintro e w3 ⟨rfl, L3, hH3, hp3, hs3, hf3, ht3⟩
    have hl3 : L3 m = L i := by rw [hf3 m (Nat.le_refl _), swp_r]
    have ht23 := H2.out.2.2.trans ht3
    have hc3 := same_block (by omega) HH.out.2.1 HH.out.1 HT1.out ht23
    have hmp := meth_pop ⟨c, 3, none⟩ w3
    have H3 := hid (And.intro hH3 (And.intro hp3 (And.intro hs3 (And.intro hl3 (And.intro ht23 hc3)))))
    clear hH3 hp3 hs3 hf3 ht3 hl3 ht23 hc3
    go_wp2_with fail
    refine (opop_any w3 c g cap m cs L3 sb bm H3.out.2.2.2.2.2 H3.out.1).mono ?_
    intro e w4 ho
    have ho' := ho
    obtain ⟨rfl, _⟩ := ho
    have HO := hid ho'
    clear ho'
    go_wp2_with fail
    go_ret
    exact out_end (by omega) HH.out.2.1 HT1.out H3.out.2.2.2.2.1 H3.out.2.2.1 H3.out.2.1 H3.out.2.2.2.1 H3.out.1 HO.out
  · have hp2 := hy rfl
    have hl2 : L2 m = L i := by rw [hf2 m (Nat.le_refl _), swp_r]
    have hc2 := same_block (by omega) HH.out.2.1 HH.out.1 HT1.out ht2
    have hmp := meth_pop ⟨c, 3, none⟩ w2
    have H2 := hid (And.intro hH2 (And.intro hp2 (And.intro hs2 (And.intro hl2 (And.intro ht2 hc2)))))
    clear hH2 hy hn2 hs2 hf2 ht2 hp2 hl2 hc2
    go_wp2_with fail
    refine (opop_any w2 c g cap m cs L2 sb bm H2.out.2.2.2.2.2 H2.out.1).mono ?_
    intro e w3 ho
    have ho' := ho
    obtain ⟨rfl, _⟩ := ho
    have HO := hid ho'
    clear ho'
    go_wp2_with fail
    go_ret
    exact out_end (by omega) HH.out.2.1 HT1.out H2.out.2.2.2.2.1 H2.out.2.2.1 H2.out.2.1 H2.out.2.2.2.1 H2.out.1 HO.out

theorem hremove_any (w : World) (c g cap m i : Nat) (cs : Array Value) (L sb bm : Nat → Nat) (hi : i ≤ m) (hc : w.heap[c]? = some (.cells cs 113)) (h : Hc w c g cap (m + 1) L sb bm) (hh : Hpo L (m + 1)) :
    Calls Tryz.prog 130 #[.iface 120 (.pointer (some ⟨c, 3, none⟩)), .int .i64 (i : Int)] w (HOutPost w c g cap m i L sb bm) := by
  by_cases e : i = m
  · subst e; exact hremove_last w c g cap i cs L sb bm hc h hh
  · exact hremove_mid w c g cap m i cs L sb bm (by omega) hc h hh
end Go.Proofs.YtdmnemgooagehaaGreatDoor
