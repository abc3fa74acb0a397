/- The library's heap over the open slabs: the contract of Push. -/
import Derived.Test.YtohaoeilodebmaaDoorS4
namespace Go.Proofs.YtohaoeilodebmaaDoor
open Go.RowKit Go.Maps

def ptrsOf (n : Nat) (L sb : Nat → Nat) : List Value := (List.range n).map fun k => .pointer (some ⟨sb (L k), 0, none⟩)
theorem ptrsOf_get {n k : Nat} (L sb : Nat → Nat) (h : k < n) : (ptrsOf n L sb)[k]? = some (.pointer (some ⟨sb (L k), 0, none⟩)) := by
  unfold ptrsOf
  rw [List.getElem?_map, List.getElem?_range h]
  rfl
theorem ptrsOf_len (n : Nat) (L sb : Nat → Nat) : (ptrsOf n L sb).length = n := by simp [ptrsOf]

theorem Hm.row {w : World} {g cap n : Nat} {L sb bm : Nat → Nat} (h : Hm w g cap n L sb bm) : w.ownsRow 0 82 1 (.slice (some ⟨g, 0, none⟩) n cap) n (ptrsOf n L sb) := by
  obtain ⟨cur, hb, hs, hc⟩ := h.body
  refine ⟨by rw [ptrsOf_len, Nat.mul_one], .inr ⟨g, cap, cur, rfl, Nat.zero_le _, hb, h.len, h.small, by rw [hs, Nat.mul_one], ?_⟩⟩
  apply List.ext_getElem?
  intro k
  rw [Nat.mul_one]
  by_cases hk : k < n
  · rw [List.getElem?_take_of_lt hk, Array.getElem?_toList, hc k hk, ptrsOf_get L sb hk]
  · rw [List.getElem?_take_eq_none (by omega), List.getElem?_eq_none (by rw [ptrsOf_len]; omega)]
theorem hm_of_row {w : World} {g cap n : Nat} {L sb bm : Nat → Nat} (h : w.ownsRow 0 82 1 (.slice (some ⟨g, 0, none⟩) n cap) n (ptrsOf n L sb))
    (hs : ∀ k, k < n → w.heap[sb (L k)]? = some (.cells #[.pointer (some ⟨bm (L k), 0, none⟩), .int .i64 ((L k * 1024 : Nat) : Int), .int .i64 (k : Int)] 87))
    (h1 : ∀ i j, i < n → j < n → sb (L i) = sb (L j) → i = j) (hg : ∀ k, k < n → sb (L k) ≠ g) : Hm w g cap n L sb bm := by
  rcases h.2 with ⟨e, _⟩ | ⟨g', cap', cur, e, _, hb, hl, hm, hz, ht⟩
  · cases e
  · obtain ⟨rfl, rfl⟩ : g = g' ∧ cap = cap' := by simpa using e
    refine ⟨⟨cur, hb, by rw [hz, Nat.mul_one], fun k hk => ?_⟩, hs, h1, hg, hl, hm⟩
    have e2 := ptrsOf_get L sb hk
    rw [← ht, Nat.mul_one, List.getElem?_take_of_lt hk, Array.getElem?_toList] at e2
    exact e2
/-- A page more at the end. -/
def ext (L : Nat → Nat) (n p : Nat) : Nat → Nat := fun k => if k = n then p else L k
theorem ext_l (L : Nat → Nat) (n p : Nat) : ext L n p n = p := by simp [ext]
theorem ext_o (L : Nat → Nat) {n p k : Nat} (h : k ≠ n) : ext L n p k = L k := by simp [ext, h]
theorem ptrsOf_ext (L sb : Nat → Nat) (n p : Nat) : ptrsOf (n + 1) (ext L n p) sb = ptrsOf n L sb ++ [.pointer (some ⟨sb p, 0, none⟩)] := by
  unfold ptrsOf
  rw [List.range_succ, List.map_append]
  congr 1
  · apply List.map_congr_left
    intro k hk
    rw [ext_o L (by have := List.mem_range.1 hk; omega)]
  · simp [ext_l]
theorem Hpo.ext {L : Nat → Nat} {n p : Nat} (h : Hpo L n) : Upo (ext L n p) (n + 1) n := by
  refine ⟨fun k h0 hk hne => ?_, fun k h0 hk he hn => by omega⟩
  rw [ext_o L hne, ext_o L (by omega)]
  exact h k h0 (by omega)

/-- What lies in the cache's field of open slabs: nothing yet, or a row. -/
def Opn (w : World) (c n cap : Nat) (a : Option Addr) (L sb bm : Nat → Nat) : Prop := (a = none ∧ n = 0 ∧ cap = 0) ∨ ∃ g, a = some ⟨g, 0, none⟩ ∧ Hc w c g cap n L sb bm
theorem Opn.row {w : World} {c n cap : Nat} {a : Option Addr} {L sb bm : Nat → Nat} (h : Opn w c n cap a L sb bm) : w.ownsRow 0 82 1 (.slice a n cap) n (ptrsOf n L sb) := by
  rcases h with ⟨rfl, rfl, rfl⟩ | ⟨g, rfl, h⟩
  · exact World.ownsRow_nil _ _ _ _
  · exact h.mem.row

/-- Behind the row's own Push: a row with that page at its end. -/
theorem Opn.pushed {w w' : World} {c n cap g cap2 p : Nat} {a : Option Addr} {L sb bm : Nat → Nat} {cs : Array Value} (h : Opn w c n cap a L sb bm) (hcs : 3 < cs.size)
    (hc : w'.heap[c]? = some (.cells (cs.setIfInBounds 3 (.slice (some ⟨g, 0, none⟩) (n + 1) cap2)) 79)) (hr : w'.ownsRow 0 82 1 (.slice (some ⟨g, 0, none⟩) (n + 1) cap2) (n + 1) (ptrsOf n L sb ++ [.pointer (some ⟨sb p, 0, none⟩)]))
    (hs : w'.heap[sb p]? = some (.cells #[.pointer (some ⟨bm p, 0, none⟩), .int .i64 ((p * 1024 : Nat) : Int), .int .i64 (n : Int)] 87)) (hat : (Value.slice a n cap).ownBlock = some g ∨ w.heap.size ≤ g)
    (ht : Turn (fun x => x = c ∨ x = sb p ∨ (Value.slice a n cap).ownBlock = some x) w w') (hnew : ∀ k, k < n → sb (L k) ≠ sb p) (hpc : sb p ≠ c) (hpl : sb p < w.heap.size) (hcl : c < w.heap.size) (hpg : (Value.slice a n cap).ownBlock ≠ some (sb p)) (hn : n < 1048576) :
    Hc w' c g cap2 (n + 1) (ext L n p) sb bm := by
  have hold : ∀ k, k < n → ∃ g0, a = some ⟨g0, 0, none⟩ ∧ Hc w c g0 cap n L sb bm := fun k hk => by
    rcases h with ⟨_, h0, _⟩ | h
    · omega
    · exact h
  have hcg : c ≠ g := by
    rcases hat with e | e
    · rcases h with ⟨rfl, _, _⟩ | ⟨g0, rfl, hH⟩
      · cases e
      · have : g0 = g := by simpa [Value.ownBlock] using e
        rw [← this]; exact hH.cg
    · omega
  refine ⟨?_, hm_of_row ?_ (fun k hk => ?_) (fun i j hi hj he => ?_) (fun k hk => ?_), hcg, fun k hk => ?_, by omega⟩
  · rw [cell_of_row _ _ _ _ _ _ hc, Array.getElem?_setIfInBounds_self_of_lt hcs]
  · rw [ptrsOf_ext]; exact hr
  · by_cases e : k = n
    · subst e; rw [ext_l]; exact hs
    · rw [ext_o L e]
      obtain ⟨g0, rfl, hH⟩ := hold k (by omega)
      have hb := hH.mem.slab k (by omega)
      rw [ht.block _ (Array.getElem?_eq_some_iff.1 hb).1 (by
        rintro (e1 | e1 | e1)
        · exact hH.cs k (by omega) e1
        · exact hnew k (by omega) e1
        · have : g0 = sb (L k) := by simpa [Value.ownBlock] using e1
          exact hH.mem.gap k (by omega) this.symm)]
      exact hb
  · by_cases ei : i = n
    · by_cases ej : j = n
      · omega
      · rw [ei, ext_l, ext_o L ej] at he
        exact absurd he.symm (hnew j (by omega))
    · by_cases ej : j = n
      · rw [ej, ext_l, ext_o L ei] at he
        exact absurd he (hnew i (by omega))
      · rw [ext_o L ei, ext_o L ej] at he
        obtain ⟨g0, rfl, hH⟩ := hold i (by omega)
        exact hH.mem.one i j (by omega) (by omega) he
  · by_cases e : k = n
    · subst e; rw [ext_l]
      rintro rfl
      rcases hat with e | e
      · exact hpg e
      · omega
    · rw [ext_o L e]
      obtain ⟨g0, rfl, hH⟩ := hold k (by omega)
      rcases hat with e1 | e1
      · have : g0 = g := by simpa [Value.ownBlock] using e1
        rw [← this]; exact hH.mem.gap k (by omega)
      · have := (Array.getElem?_eq_some_iff.1 (hH.mem.slab k (by omega))).1
        omega
  · by_cases e : k = n
    · subst e; rw [ext_l]; exact hpc
    · rw [ext_o L e]
      obtain ⟨g0, rfl, hH⟩ := hold k (by omega)
      exact hH.cs k (by omega)
end Go.Proofs.YtohaoeilodebmaaDoor
