/- Things that are added together. No program is named here. -/
import Derived.Test.YtgoennbbpndiiaaM
import Derived.Test.YtgoennbbpndiiaaC
namespace Go.Proofs.Ytgoennbbpndiiaa

/-- The numbers d, d + 1, .., so many. -/
def row (d n : Nat) : List Int := (List.range' d n).map fun (j : Nat) => (j : Int)
theorem numRow_len (d n : Nat) : (row d n).length = n := by simp [row]
theorem numRow_at {d n k : Nat} (h : k < n) : (row d n)[k]? = some ((d + k : Nat) : Int) := by
  unfold row
  rw [List.getElem?_map, List.getElem?_range' h]
  simp
theorem numRow_at' {d n k : Nat} (h : k < n) : (nums (row d n))[k]? = some (.int .i64 ((d + k : Nat) : Int)) := nums_at (numRow_at h)
theorem numRow_next (d n : Nat) : row d (n + 1) = row d n ++ [((d + n : Nat) : Int)] := by
  unfold row
  rw [List.range'_concat, List.map_append]
  simp
section
variable {came : Nat → Int} {p now : Int} {d c t : Nat}
/-- The times, with those that come now. -/
def later (came : Nat → Int) (now : Int) (c : Nat) : Nat → Int := fun j => if j < c then came j else now
theorem later_old {j : Nat} (h : j < c) : later came now c j = came j := by unfold later; rw [if_pos h]
theorem later_new {j : Nat} (h : c ≤ j) : later came now c j = now := by unfold later; rw [if_neg (by omega)]
theorem ql_addMany (h : d ≤ c) : ql came p now d c ++ (row c t).map (fun x => (x, p)) = ql (later came now c) p now d (c + t) := by
  unfold ql row
  rw [show c + t - d = (c - d) + t by omega, ← List.range'_append, List.map_append, List.map_map]
  congr 1
  · apply List.map_congr_left
    intro j hj
    rw [later_old (by have := List.mem_range'_1.1 hj; omega)]
  · rw [show d + 1 * (c - d) = c by omega]
    apply List.map_congr_left
    intro j hj
    rw [later_new (by have := List.mem_range'_1.1 hj; omega)]
    simp; omega
theorem St.addMany (h : St came p now d c) (hp : 1 ≤ p) (t : Nat) : St (later came now c) p now d (c + t) := by
  refine ⟨by have := h.le; omega, fun j hj => ?_, fun i j hij hj => ?_, fun j h1 h2 => ?_⟩
  · by_cases e : j < c
    · rw [later_old e]; exact h.past j e
    · rw [later_new (by omega)]; omega
  · by_cases e : j < c
    · rw [later_old e, later_old (by omega)]; exact h.mono i j hij e
    · rw [later_new (j := j) (by omega)]
      by_cases e2 : i < c
      · rw [later_old e2]; exact h.past i e2
      · rw [later_new (by omega)]; omega
  · by_cases e : j < c
    · rw [later_old e]; exact h.wait j h1 e
    · rw [later_new (by omega)]; omega
theorem ql_at {k : Nat} (h : k < c - d) : (ql came p now d c)[k]? = some (((d + k : Nat) : Int), came (d + k) + p - now) := by
  unfold ql
  rw [List.getElem?_map, List.getElem?_range' h]
  simp
theorem ql_fst : (ql came p now d c).map (·.1) = row d (c - d) := by
  unfold ql row
  rw [List.map_map]; rfl
theorem ql_left {j : Nat} (h1 : d ≤ j) (h2 : j < c) : leftA (ql came p now d c) (j : Int) = came j + p - now := by
  have e : d + (j - d) = j := by omega
  have := leftA_hit (x := (j : Int)) (ql_at (came := came) (p := p) (now := now) (d := d) (c := c) (k := j - d) (by omega)) (by simp only; rw [e]) (fun i t hi ht => by
    rw [ql_at (by omega)] at ht
    obtain rfl := Option.some.inj ht
    simp only; omega)
  rw [this]
  simp only
  rw [e]
theorem ql_gone {j : Nat} (h : j < d) : leftA (ql came p now d c) (j : Int) = 0 := by
  refine leftA_miss (fun i t ht => ?_)
  have hi := (List.getElem?_eq_some_iff.1 ht).1
  rw [ql_len] at hi
  rw [ql_at hi] at ht
  obtain rfl := Option.some.inj ht
  simp only; omega
/-- What is left of each, in order. -/
def lefts (came : Nat → Int) (p now : Int) (d n : Nat) : List Int := (List.range' d n).map fun (j : Nat) => came j + p - now
theorem lefts_len (d n : Nat) : (lefts came p now d n).length = n := by simp [lefts]
theorem lefts_at {n k : Nat} (h : k < n) : (lefts came p now d n)[k]? = some (came (d + k) + p - now) := by
  unfold lefts
  rw [List.getElem?_map, List.getElem?_range' h]
  simp
theorem lefts_next (n : Nat) : lefts came p now d (n + 1) = lefts came p now d n ++ [came (d + n) + p - now] := by
  unfold lefts
  rw [List.range'_concat, List.map_append]
  simp
end
end Go.Proofs.Ytgoennbbpndiiaa
