/- What TableLeaves wants besides: bytes as a list, entries set one by one, leaves counted by slots. -/
import Derived.Test.YthpkmegjbehgaaaDoorX7
import Derived.Test.YthpkmegjbehgaaaDoorZ2
namespace Go.Proofs.YthpkmegjbehgaaaDoor
open Go.RowKit Go.Maps

/-- The bytes are these numbers. -/
def Blist (w : World) (a : Option Addr) (L : List Nat) : Prop :=
  (∀ y, y ∈ L → y < 256) ∧ (L.length = 0 ∨ ∃ s o, a = some ⟨s, o, none⟩ ∧ s < w.heap.size ∧ ∀ i, i < L.length → w.cell? ⟨s, o + i, none⟩ = some (.int .u8 ((L[i]?.getD 0 : Nat) : Int)))
theorem Bytes.list {w : World} {a : Option Addr} : ∀ {len : Nat}, Bytes w a len → ∃ L : List Nat, L.length = len ∧ Blist w a L
  | 0, _ => ⟨[], rfl, ⟨fun y h => absurd h List.not_mem_nil, .inl rfl⟩⟩
  | n + 1, h => by
    rcases h with h | ⟨s, o, rfl, hs, hc⟩
    · omega
    · obtain ⟨L, hL, h1, h2⟩ := Bytes.list (w := w) (a := some ⟨s, o, none⟩) (len := n) (.inr ⟨s, o, rfl, hs, fun i hi => hc i (by omega)⟩)
      obtain ⟨x, hx, hcx⟩ := hc n (by omega)
      refine ⟨L ++ [x], by simp [hL], fun y hy => ?_, .inr ⟨s, o, rfl, hs, fun i hi => ?_⟩⟩
      · rcases List.mem_append.1 hy with h | h
        · exact h1 y h
        · simp at h; omega
      · rw [List.length_append, hL] at hi
        simp at hi
        by_cases e : i = n
        · subst e
          rw [List.getElem?_append_right (by omega), hL, Nat.sub_self]
          exact hcx
        · rw [List.getElem?_append_left (by omega)]
          rcases h2 with h2 | ⟨s', o', e', _, h2⟩
          · omega
          · cases e'
            exact h2 i (by omega)
theorem Blist.at {w w' : World} {Bd : Nat} {a : Option Addr} {L : List Nat} (h : Blist w a L) (hb : Below Bd w w') (hB : w.heap.size ≤ Bd) {i : Nat} (hi : i < L.length) :
    ∃ s o, ∃ n : Nat, a = some ⟨s, o, none⟩ ∧ s < w.heap.size ∧ L[i]? = some n ∧ n < 256 ∧ w'.cell? ⟨s, o + i, none⟩ = some (.int .u8 (n : Int)) := by
  rcases h.2 with h2 | ⟨s, o, rfl, hs, hc⟩
  · omega
  · have e : L[i]? = some L[i] := List.getElem?_eq_getElem hi
    refine ⟨s, o, L[i], rfl, hs, e, h.1 _ (List.getElem_mem hi), ?_⟩
    have := hc i hi
    rw [e] at this
    exact (hb.cell (p := ⟨s, o + i, none⟩) (show s < Bd by omega)).trans this

theorem take_snocL {L : List Nat} {k x : Nat} (h : L[k]? = some x) : L.take (k + 1) = L.take k ++ [x] := by
  rw [List.take_add_one, h]; rfl
/-- These slots set to 7. -/
def setM (A : Nat → Nat) (L : List Nat) : Nat → Nat := fun s => if s ∈ L then 7 else A s
theorem setM_nil (A : Nat → Nat) : setM A [] = A := by funext s; simp [setM]
theorem setM_snoc (A : Nat → Nat) (L : List Nat) (s : Nat) : now (setM A L) s 7 = setM A (L ++ [s]) := by
  funext t
  unfold now setM
  by_cases e : t = s
  · subst e; simp
  · simp [e]
theorem hasE_setM {A : Nat → Nat} {L : List Nat} (hL : ∀ y, y ∈ L → y < 256) (n : Nat) : hasE (setM A L) n = (hasE A n || L.any fun s => onLeaf ((s : Nat) : Int) n) := by
  rw [Bool.eq_iff_iff, Bool.or_eq_true, hasE_iff, hasE_iff, List.any_eq_true]
  constructor
  · rintro ⟨j, hj, h⟩
    by_cases e : 16 * n + j ∈ L
    · exact .inr ⟨_, e, (onLeaf_of (hL _ e)).2 (by omega)⟩
    · simp only [setM, e, if_false] at h
      exact .inl ⟨j, hj, h⟩
  · rintro (⟨j, hj, h⟩ | ⟨s, hs, h⟩)
    · refine ⟨j, hj, ?_⟩
      unfold setM
      split
      · decide
      · exact h
    · have hs2 := (onLeaf_of (hL s hs)).1 h
      refine ⟨s % 16, by omega, ?_⟩
      rw [show 16 * n + s % 16 = s by omega]
      simp [setM, hs]
theorem cnt_both (f g : Nat → Bool) : ∀ n, cnt (fun i => f i || g i) n = cnt f n + cnt (fun i => !f i && g i) n
  | 0 => rfl
  | n + 1 => by
    have := cnt_both f g n
    simp only [cnt, this]
    cases f n <;> cases g n <;> simp <;> omega
theorem nlA_setM {A : Nat → Nat} {L : List Nat} (hL : ∀ y, y ∈ L → y < 256) : nlA (setM A L) = nlA A + cnt (needA A (L.map fun s => ((s : Nat) : Int))) 16 := by
  have e1 : nlA (setM A L) = cnt (fun n => hasE A n || L.any fun s => onLeaf ((s : Nat) : Int) n) 16 := cnt_congr (fun n _ => hasE_setM hL n)
  have e2 := cnt_both (hasE A) (fun n => L.any fun s => onLeaf ((s : Nat) : Int) n) 16
  have e3 : cnt (needA A (L.map fun s => ((s : Nat) : Int))) 16 = cnt (fun n => !hasE A n && L.any fun s => onLeaf ((s : Nat) : Int) n) 16 := cnt_congr (fun n _ => by simp only [needA, List.any_map, Function.comp_def])
  unfold nlA at e1 ⊢
  rw [e1, e3, e2]
set_option maxRecDepth 100000 in
theorem need_none {A : Nat → Nat} {L : List Nat} (hL : ∀ y, y ∈ L → y < 256) : cnt (needA (setM A L) (L.map fun s => ((s : Nat) : Int))) 16 = 0 := by
  have e : cnt (needA (setM A L) (L.map fun s => ((s : Nat) : Int))) 16 = cnt (fun _ => false) 16 := cnt_congr (fun n _ => by
    unfold needA
    rw [hasE_setM hL, List.any_map]
    show (!(hasE A n || L.any fun s => onLeaf ((s : Nat) : Int) n) && L.any fun s => onLeaf ((s : Nat) : Int) n) = false
    cases L.any fun s => onLeaf ((s : Nat) : Int) n <;> simp)
  rw [e]
  decide

/-- The leaves of slots. -/
def seen (S : List Nat) (n : Nat) : Bool := S.any fun s => decide (s / 16 = n)
theorem seen_snoc (S : List Nat) (s n : Nat) : seen (S ++ [s]) n = (seen S n || decide (s / 16 = n)) := by simp [seen]
theorem seen_all {A : Nat → Nat} {n : Nat} (hn : n < 16) : seen (slotsL A 256) n = hasE A n := by
  rw [Bool.eq_iff_iff, hasE_iff]
  unfold seen slotsL
  rw [List.any_eq_true]
  constructor
  · rintro ⟨s, hs, h⟩
    have h1 := ones_mem.1 hs
    have h2 : s / 16 = n := by simpa using h
    exact ⟨s % 16, by omega, by rw [show 16 * n + s % 16 = s by omega]; simpa using h1.2⟩
  · rintro ⟨j, hj, h⟩
    exact ⟨16 * n + j, ones_mem.2 ⟨by omega, by simpa using h⟩, by simp; omega⟩
theorem seen_cnt {S : List Nat} {s : Nat} (hs : s < 256) (h : seen S (s / 16) = false) : cnt (seen (S ++ [s])) 16 = cnt (seen S) 16 + 1 := by
  have := cnt_turn (f := seen S) (g := seen (S ++ [s])) (i := s / 16) (fun j hj => by rw [seen_snoc]; simp; intro e; exact absurd e.symm hj) (n := 16) (by omega)
  rw [seen_snoc, h] at this
  simpa using this
theorem seen_again {S : List Nat} {s : Nat} (h : seen S (s / 16) = true) : seen (S ++ [s]) = seen S := by
  funext n
  rw [seen_snoc]
  by_cases e : s / 16 = n
  · subst e; rw [h]; simp
  · simp [e]
theorem slotsL_lt {A : Nat → Nat} {s : Nat} (h : s ∈ slotsL A 256) : s < 256 := (ones_mem.1 h).1
def row16 : Array Value := #[.bool false, .bool false, .bool false, .bool false, .bool false, .bool false, .bool false, .bool false, .bool false, .bool false, .bool false, .bool false, .bool false, .bool false, .bool false, .bool false]
theorem row16_at : ∀ x : Nat, x < 16 → row16[x]? = some (.bool false)
  | 0, _ => rfl
  | 1, _ => rfl
  | 2, _ => rfl
  | 3, _ => rfl
  | 4, _ => rfl
  | 5, _ => rfl
  | 6, _ => rfl
  | 7, _ => rfl
  | 8, _ => rfl
  | 9, _ => rfl
  | 10, _ => rfl
  | 11, _ => rfl
  | 12, _ => rfl
  | 13, _ => rfl
  | 14, _ => rfl
  | 15, _ => rfl
  | n + 16, h => absurd h (by omega)
theorem and15 : ∀ n : Nat, n < 16 → bits .and .i64 (n : Int) 15 = (n : Int) := by decide +kernel
theorem row_capT {w : World} {b k cap : Nat} {a : Option Addr} {xs : List Value} (h : w.ownsRow b 3 1 (.slice a k cap) k xs) (hk : 0 < k) : ∃ g, a = some ⟨g, 0, none⟩ ∧ k ≤ cap ∧ cap ≤ maxLen := by
  rcases h.2 with ⟨e, h0⟩ | ⟨g, cap', cur, e, _, _, h1, h2, _⟩
  · omega
  · have h3 : a = some ⟨g, 0, none⟩ ∧ cap = cap' := by simpa using e
    exact ⟨g, h3.1, by omega, by omega⟩
/-- A row of numbers as the calls read it. -/
theorem nrow_of {w : World} {b k : Nat} {a : Option Addr} {cap : Nat} {L : List Nat} (h : w.ownsRow b 3 1 (.slice a k cap) k (nums L)) (hk : L.length = k) : Nrow w a (L.map fun s => ((s : Nat) : Int)) := by
  by_cases h0 : k = 0
  · exact .inl (by rw [List.length_map]; omega)
  · obtain ⟨g, e, hcap, hmax⟩ := row_capT h (by omega)
    subst e
    refine .inr ⟨g, 0, rfl, (Qu.own_block h g rfl).2, fun j hj => ?_⟩
    rw [List.length_map] at hj
    have e1 : L[j]? = some L[j] := List.getElem?_eq_getElem hj
    obtain ⟨g', e2, hc⟩ := Qu.row_at h (k := j) (u := .int .i64 ((L[j] : Nat) : Int)) (by unfold nums; rw [List.getElem?_map, e1]; rfl)
    cases e2
    rw [Nat.zero_add, hc, List.getElem?_map, e1]; rfl
end Go.Proofs.YthpkmegjbehgaaaDoor
