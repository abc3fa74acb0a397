/- The walk of HandleStale. -/
import Derived.Test.YtoahfeckadaomaaP
namespace Go.Proofs.Ytoahfeckadaomaa.handleStale
open Go.RowKit Go.Proofs.Ytoahfeckadaomaa

def ob (j : Nat) : Ob := ⟨1 + (j : Int) % 5, 16 * (j : Int), 0⟩
/-- Behind i objects put. -/
def Sa (i : Nat) : Nat → Pl := fun j => ⟨if j < i then ob j else noOb, if j < i then 1 else 0, 0⟩
theorem sa_zero : T0 = Sa 0 := by
  funext j; rfl
theorem sa_first {i : Nat} (hi : i ≤ 256) : First (Sa i) i := ⟨hi, fun _ => by unfold Sa; simp, fun j hj => by unfold Sa; simp [hj]⟩
theorem sa_next (i : Nat) : putT (Sa i) i (ob i) = Sa (i + 1) := by
  funext j
  unfold putT upd
  by_cases e : j = i
  · rw [if_pos e, e]; unfold Sa; simp
  · rw [if_neg e]
    unfold Sa
    by_cases c : j < i
    · rw [if_pos c, if_pos c, if_pos (show j < i + 1 by omega), if_pos (show j < i + 1 by omega)]
    · rw [if_neg c, if_neg c, if_neg (show ¬ j < i + 1 by omega), if_neg (show ¬ j < i + 1 by omega)]
theorem sa_put {i : Nat} (hi : i < 256) : putA (Sa i) i (ob i) = (i, 0, Sa (i + 1)) := by
  unfold putA
  rw [if_pos hi, sa_next]
  have : hOf i (Sa i i).ag = i := by unfold hOf Sa; simp
  rw [this]

/-- Was it freed in one of the first i rounds? -/
def fr (f k i y : Nat) : Bool := (List.range i).any fun j => (j + f) % k == y
theorem fr_succ (f k i y : Nat) : fr f k (i + 1) y = (fr f k i y || ((i + f) % k == y)) := by
  unfold fr; rw [List.range_succ, List.any_append]; simp
theorem mod_far {k a b : Nat} (h1 : a < b) (h2 : b < a + k) : a % k ≠ b % k := fun e => by
  have ha := Nat.div_add_mod a k
  have hb := Nat.div_add_mod b k
  rw [e] at ha
  have hq : a / k < b / k := by
    rcases Nat.lt_or_ge (a / k) (b / k) with h | h
    · exact h
    · have := Nat.mul_le_mul_left k h; omega
  have := Nat.mul_le_mul_left k (show a / k + 1 ≤ b / k from hq)
  rw [Nat.mul_add, Nat.mul_one] at this
  omega
theorem fr_not {f k i : Nat} (hi : i < k) : fr f k i ((i + f) % k) = false := by
  unfold fr
  rw [List.any_eq_false]
  intro j hj
  rw [List.mem_range] at hj
  have := mod_far (k := k) (a := j + f) (b := i + f) (by omega) (by omega)
  simpa using this
theorem fr_all {f k y : Nat} (hy : y < k) : fr f k k y = true := by
  have hk : 0 < k := by omega
  have hq := Nat.div_add_mod f k
  have hf := Nat.mod_lt f hk
  unfold fr
  rw [List.any_eq_true]
  by_cases c : f % k ≤ y
  · refine ⟨y - f % k, List.mem_range.2 (by omega), ?_⟩
    rw [beq_iff_eq, show y - f % k + f = y + k * (f / k) by omega, Nat.add_mul_mod_self_left, Nat.mod_eq_of_lt hy]
  · refine ⟨y + k - f % k, List.mem_range.2 (by omega), ?_⟩
    rw [beq_iff_eq, show y + k - f % k + f = y + k + k * (f / k) by omega, Nat.add_mul_mod_self_left, Nat.add_mod_right, Nat.mod_eq_of_lt hy]
/-- Behind i rounds of killing and freeing. -/
def Sb (f k i : Nat) : Nat → Pl := fun y => if y < k then (if fr f k i y = true then ⟨noOb, 0, 1⟩ else ⟨ob y, 1, 0⟩) else ⟨noOb, 0, 0⟩
theorem sb_zero (f k : Nat) : Sa k = Sb f k 0 := by
  funext y
  unfold Sa Sb
  by_cases c : y < k
  · simp [c, fr]
  · simp [c]
theorem sb_at {f k i : Nat} (hi : i < k) : Sb f k i ((i + f) % k) = ⟨ob ((i + f) % k), 1, 0⟩ := by
  unfold Sb
  rw [if_pos (Nat.mod_lt _ (by omega)), if_neg (by rw [fr_not hi]; decide)]
theorem sb_is {f k i : Nat} (hi : i < k) (hk : k ≤ 256) : isB (Sb f k i) ((i + f) % k) 1 = true := by
  have hx : (i + f) % k < k := Nat.mod_lt _ (by omega)
  unfold isB
  rw [Nat.mod_eq_of_lt (show (i + f) % k < 256 by omega), sb_at hi, Nat.div_eq_of_lt (by omega)]
  rfl
theorem sb_get {f k i : Nat} (hi : i < k) (hk : k ≤ 256) : getA (Sb f k i) ((i + f) % k) = (ob ((i + f) % k), 0) := by
  have hx : (i + f) % k < k := Nat.mod_lt _ (by omega)
  unfold getA
  rw [if_pos (sb_is hi hk), Nat.mod_eq_of_lt (show (i + f) % k < 256 by omega), sb_at hi]
def Sk (f k i : Nat) : Nat → Pl := killT (Sb f k i) ((i + f) % k)
theorem sb_kill {f k i : Nat} (hi : i < k) (hk : k ≤ 256) : killA (Sb f k i) ((i + f) % k) = (0, Sk f k i) := by
  have hx : (i + f) % k < k := Nat.mod_lt _ (by omega)
  unfold killA
  rw [if_pos (sb_is hi hk), Nat.mod_eq_of_lt (show (i + f) % k < 256 by omega)]
  rfl
theorem sk_free {f k i : Nat} (hi : i < k) (hk : k ≤ 256) : freeA (Sk f k i) ((i + f) % k) = (ob ((i + f) % k), 0, Sb f k (i + 1)) := by
  have hx : (i + f) % k < k := Nat.mod_lt _ (by omega)
  have hm := Nat.mod_eq_of_lt (show (i + f) % k < 256 by omega)
  have hs : Sk f k i ((i + f) % k) = ⟨ob ((i + f) % k), 2, 0⟩ := by
    unfold Sk killT
    rw [upd_same, sb_at hi]
  have h : isB (Sk f k i) ((i + f) % k) 2 = true := by
    unfold isB
    rw [hm, hs, Nat.div_eq_of_lt (by omega)]
    rfl
  unfold freeA
  rw [if_pos h, hm, hs]
  refine congrArg (fun z => (ob ((i + f) % k), (0 : Int), z)) ?_
  funext y
  unfold freeT
  by_cases e : y = (i + f) % k
  · rw [e, upd_same, hs]
    unfold Sb
    dsimp only
    rw [if_neg (by decide), if_pos hx, if_pos (by rw [fr_succ]; simp)]
  · rw [upd_other _ _ _ e]
    unfold Sk killT
    rw [upd_other _ _ _ e]
    unfold Sb
    have : ((i + f) % k == y) = false := by rw [beq_eq_false_iff_ne]; exact fun h => e h.symm
    rw [fr_succ, this, Bool.or_false]
/-- All of the first k places are of the age 1. -/
def Aged (k : Nat) (T : Nat → Pl) : Prop := ∀ y, y < k → (T y).ag = 1
theorem sb_aged (f k : Nat) : Aged k (Sb f k k) := fun y hy => by
  unfold Sb
  rw [if_pos hy, if_pos (fr_all hy)]
theorem Aged.put {k : Nat} {T : Nat → Pl} (h : Aged k T) (n : Nat) (o : Ob) : Aged k (putA T n o).2.2 := by
  unfold putA
  by_cases e : n < 256
  · rw [if_pos e]
    intro y hy
    show (putT T n o y).ag = 1
    unfold putT
    by_cases c : y = n
    · subst c; rw [upd_same]; exact h y hy
    · rw [upd_other _ _ _ c]; exact h y hy
  · rw [if_neg e]; exact h
theorem Aged.no {k : Nat} {T : Nat → Pl} (h : Aged k T) (hk : k ≤ 256) {y : Nat} (hy : y < k) (s : Nat) : isB T y s = false := by
  unfold isB
  rw [Nat.mod_eq_of_lt (show y < 256 by omega), Nat.div_eq_of_lt (by omega), h y hy]
  rfl
theorem Aged.get {k : Nat} {T : Nat → Pl} (h : Aged k T) (hk : k ≤ 256) {y : Nat} (hy : y < k) : getA T y = (noOb, 8) := by
  unfold getA; rw [if_neg (by rw [h.no hk hy]; decide)]
theorem Aged.kill {k : Nat} {T : Nat → Pl} (h : Aged k T) (hk : k ≤ 256) {y : Nat} (hy : y < k) : killA T y = (8, T) := by
  unfold killA; rw [if_neg (by rw [h.no hk hy]; decide)]
theorem Aged.free {k : Nat} {T : Nat → Pl} (h : Aged k T) (hk : k ≤ 256) {y : Nat} (hy : y < k) : freeA T y = (noOb, 8, T) := by
  unfold freeA; rw [if_neg (by rw [h.no hk hy]; decide)]

/-- The handles that are kept. -/
def Kept (w : World) (base : Nat) (v : Value) (k : Nat) : Prop := w.ownsRow base 26 1 v k (hds (List.range k))
theorem Kept.at {w : World} {base k : Nat} {a : Option Addr} {cap j : Nat} (h : Kept w base (.slice a k cap) k) (hj : j < k) : ∃ g, a = some ⟨g, 0, none⟩ ∧ w.cell? ⟨g, j, none⟩ = some (.int .u32 (j : Int)) :=
  row_at h (by unfold hds; simp [hj])
theorem Kept.but {w w' : World} {base k b : Nat} {v : Value} (h : Kept w base v k) (hb : But b w w') (hlt : b < base) : Kept w' base v k := World.ownsRow.other h (fun g hg => hb.block g (own_block h g hg).2 (by have := (own_block h g hg).1; omega))
theorem Kept.below {w w' : World} {base k : Nat} {v : Value} (h : Kept w base v k) (hb : Below w.heap.size w w') : Kept w' base v k := World.ownsRow.other h (fun g hg => hb.block g (own_block h g hg).2)
theorem Kept.alloc {w : World} {base k : Nat} {v : Value} (h : Kept w base v k) (o : Obj) : Kept (w.alloc o) base v k := h.below ((Below.refl _ w).alloc (Nat.le_refl _) _)
end Go.Proofs.Ytoahfeckadaomaa.handleStale
