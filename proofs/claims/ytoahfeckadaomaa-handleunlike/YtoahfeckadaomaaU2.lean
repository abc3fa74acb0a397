/- Rows that HandleUnlike keeps: one appended, one cut out. -/
import Derived.Test.YtoahfeckadaomaaU
namespace Go.Proofs.Ytoahfeckadaomaa
open Go.RowKit Go.Maps Go.Shelf

def ob3 (o : Ob) : List Value := [.int .i64 o.k, .int .i64 o.a, .int .i64 o.f]
def obs (l : List Ob) : List Value := l.flatMap ob3
theorem obs_len (l : List Ob) : (obs l).length = l.length * 3 := by
  induction l with
  | nil => rfl
  | cons x l ih =>
    have e : obs (x :: l) = ob3 x ++ obs l := by unfold obs; rw [List.flatMap_cons]
    rw [e, List.length_append, ih, List.length_cons]
    show 3 + l.length * 3 = _
    omega
theorem obs_append (l : List Ob) (x : Ob) : obs (l ++ [x]) = obs l ++ ob3 x := by unfold obs; rw [List.flatMap_append]; simp
theorem obs_get {l : List Ob} {i : Nat} {x : Ob} (h : l[i]? = some x) (j : Nat) (hj : j < 3) : (obs l)[i * 3 + j]? = (ob3 x)[j]? := by
  induction l generalizing i with
  | nil => cases h
  | cons y l ih =>
    have e : obs (y :: l) = ob3 y ++ obs l := by unfold obs; rw [List.flatMap_cons]
    rw [e]
    cases i with
    | zero =>
      obtain rfl : y = x := by simpa using h
      rw [Nat.zero_mul, Nat.zero_add, List.getElem?_append_left (by show j < 3; exact hj)]
    | succ i =>
      rw [List.getElem?_append_right (by show 3 ≤ _; omega)]
      show (obs l)[(i + 1) * 3 + j - 3]? = _
      rw [show (i + 1) * 3 + j - 3 = i * 3 + j by omega]
      exact ih (by simpa using h)
theorem obs_one (l : List Ob) : ∀ u ∈ obs l, u.oneCell' = true := fun u hu => by
  unfold obs at hu
  rw [List.mem_flatMap] at hu
  obtain ⟨x, _, hx⟩ := hu
  unfold ob3 at hx
  simp at hx
  rcases hx with rfl | rfl | rfl <;> rfl
theorem hds_one (l : List Nat) : ∀ u ∈ hds l, u.oneCell' = true := fun u hu => by
  unfold hds at hu
  rw [List.mem_map] at hu
  obtain ⟨x, _, rfl⟩ := hu
  rfl
theorem hds_cut (l : List Nat) (i : Nat) : (hds l).take i ++ (hds l).drop (i + 1) = hds (l.eraseIdx i) := by
  unfold hds
  rw [List.eraseIdx_eq_take_drop_succ, List.map_append, List.map_take, List.map_drop]
theorem obs_take (l : List Ob) (i : Nat) : (obs l).take (i * 3) = obs (l.take i) := by
  induction l generalizing i with
  | nil => simp [obs]
  | cons y l ih =>
    have e : ∀ l, obs (y :: l) = ob3 y ++ obs l := fun l => by unfold obs; rw [List.flatMap_cons]
    cases i with
    | zero => simp [obs]
    | succ i =>
      rw [List.take_succ_cons, e, e, ← ih i, List.take_append]
      rw [List.take_of_length_le (show (ob3 y).length ≤ (i + 1) * 3 by show 3 ≤ _; omega)]
      show _ ++ (obs l).take ((i + 1) * 3 - 3) = _
      rw [show (i + 1) * 3 - 3 = i * 3 by omega]
theorem obs_drop (l : List Ob) (i : Nat) : (obs l).drop (i * 3) = obs (l.drop i) := by
  induction l generalizing i with
  | nil => simp [obs]
  | cons y l ih =>
    have e : ∀ l, obs (y :: l) = ob3 y ++ obs l := fun l => by unfold obs; rw [List.flatMap_cons]
    cases i with
    | zero => simp
    | succ i =>
      rw [List.drop_succ_cons, e, ← ih i, List.drop_append]
      rw [List.drop_of_length_le (show (ob3 y).length ≤ (i + 1) * 3 by show 3 ≤ _; omega)]
      show _ ++ (obs l).drop ((i + 1) * 3 - 3) = _
      rw [show (i + 1) * 3 - 3 = i * 3 by omega]
      rfl
theorem obs_cut (l : List Ob) (i : Nat) : (obs l).take (i * 3) ++ (obs l).drop ((i + 1) * 3) = obs (l.eraseIdx i) := by
  rw [obs_take, obs_drop, List.eraseIdx_eq_take_drop_succ]
  unfold obs
  rw [List.flatMap_append]

theorem infoO : (Try.prog.info? 31).map (fun i => (i.zero, i.size, i.bytes)) = some (some (.agg #[.int .i64 0, .int .i64 0, .int .i64 0]), 3, 24) := by kernel_rfl

theorem hb_append {w : World} {base : Nat} {v : Value} {l : List Nat} (h : w.ownsRow base 26 1 v l.length (hds l)) (hn : l.length ≤ 256) (hb : base ≤ w.heap.size) (x : Nat) :
    ∃ g cap w', (Builtin.append_ #[36, 36] 36 #[v, .slice (some ⟨w.heap.size, 0, none⟩) 1 1]).run Try.prog (w.alloc (.cells #[.int .u32 (x : Int)] 26)) = .ok (.slice (some ⟨g, 0, none⟩) (l.length + 1) cap) w' ∧ w'.ownsRow base 26 1 (.slice (some ⟨g, 0, none⟩) (l.length + 1) cap) (l ++ [x]).length (hds (l ++ [x])) ∧ (w.alloc (.cells #[.int .u32 (x : Int)] 26)).grownBy w' v.ownBlock := by
  obtain ⟨i0, hi, hz0, hz1', hz2'⟩ := info_parts infoH
  obtain ⟨v', w', hr, ho, hg, _, _⟩ := run_append_own_at (P := Try.prog) (w := w.alloc (.cells #[.int .u32 (x : Int)] 26)) base 36 36 26 i0 (.int .u32 0) 1 4 Try.underlying36 hi hz0 hz1' hz2' rfl (by decide) v l.length (hds l) (World.ownsRow.alloc h _) ⟨w.heap.size, 0, none⟩ 1 1 [.int .u32 (x : Int)] rfl (cell_one_new _ _ _) (by simp [Value.oneCell']) (by unfold maxLen; omega) (by omega) (by simp; omega)
  obtain ⟨g, cap, rfl⟩ := ownsRow_succ ho
  refine ⟨g, cap, w', hr, ?_, hg⟩
  have e : hds (l ++ [x]) = hds l ++ [.int .u32 (x : Int)] := by
    unfold hds; rw [List.map_append]; rfl
  rw [e, List.length_append]
  exact ho
theorem new3_cells (w : World) (o : Ob) : ∀ j u, (ob3 o)[j]? = some u → (w.alloc (.cells #[.int .i64 o.k, .int .i64 o.a, .int .i64 o.f] 31)).cell? ((⟨w.heap.size, 0, none⟩ : Addr).add j) = some u := fun j u hj => by
  rw [addr_add, Nat.zero_add, new_row, ← hj]
  have hlt : j < 3 := (List.getElem?_eq_some_iff.1 hj).1
  rcases (show j = 0 ∨ j = 1 ∨ j = 2 by omega) with rfl | rfl | rfl <;> rfl
theorem o_append {w : World} {base : Nat} {v : Value} {l : List Ob} (h : w.ownsRow base 31 3 v l.length (obs l)) (hn : l.length ≤ 256) (hb : base ≤ w.heap.size) (o : Ob) :
    ∃ g cap w', (Builtin.append_ #[58, 58] 58 #[v, .slice (some ⟨w.heap.size, 0, none⟩) 1 1]).run Try.prog (w.alloc (.cells #[.int .i64 o.k, .int .i64 o.a, .int .i64 o.f] 31)) = .ok (.slice (some ⟨g, 0, none⟩) (l.length + 1) cap) w' ∧ w'.ownsRow base 31 3 (.slice (some ⟨g, 0, none⟩) (l.length + 1) cap) (l ++ [o]).length (obs (l ++ [o])) ∧ (w.alloc (.cells #[.int .i64 o.k, .int .i64 o.a, .int .i64 o.f] 31)).grownBy w' v.ownBlock := by
  obtain ⟨i0, hi, hz0, hz1', hz2'⟩ := info_parts infoO
  obtain ⟨v', w', hr, ho, hg, _, _⟩ := run_append_own_at (P := Try.prog) (w := w.alloc (.cells #[.int .i64 o.k, .int .i64 o.a, .int .i64 o.f] 31)) base 58 58 31 i0 _ 3 24 Try.underlying58 hi hz0 hz1' hz2' rfl (by decide) v l.length (obs l) (World.ownsRow.alloc h _) ⟨w.heap.size, 0, none⟩ 1 1 (ob3 o) rfl (new3_cells w o) (fun u hu => obs_one [o] u (by unfold obs; simpa using hu)) (by unfold maxLen; omega) (by omega) (by simp; omega)
  obtain ⟨g, cap, rfl⟩ := ownsRow_succ ho
  refine ⟨g, cap, w', hr, ?_, hg⟩
  rw [obs_append, List.length_append]
  exact ho
end Go.Proofs.Ytoahfeckadaomaa
