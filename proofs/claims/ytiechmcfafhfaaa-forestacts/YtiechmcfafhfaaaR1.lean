/- The document's forest in memory: At, Find, Kids. -/
import Derived.Test.YtiechmcfafhfaaaW
namespace Go.Proofs.Ytiechmcfafhfaaa
open Go.RowKit Go.Maps Go.Shelf

theorem info53 : (Try.prog.info? 53).map (fun i => (i.zero, i.size, i.bytes)) = some (some (.agg #[.int .i64 0, .int .i64 0, .int .i64 0, .int .i64 0]), 4, 32) := by kernel_rfl
/-- Nodes, in a row. -/
def rflat (l : List Nd) : List Value := l.flatMap fun e => [.int .i64 (e.id : Int), .int .i64 (e.par : Int), .int .i64 e.sp, .int .i64 e.sl]
theorem rflat_cons (e : Nd) (l : List Nd) : rflat (e :: l) = .int .i64 (e.id : Int) :: .int .i64 (e.par : Int) :: .int .i64 e.sp :: .int .i64 e.sl :: rflat l := by unfold rflat; rw [List.flatMap_cons]; rfl
theorem rflat_append (l m : List Nd) : rflat (l ++ m) = rflat l ++ rflat m := by unfold rflat; rw [List.flatMap_append]
theorem rflat_len (l : List Nd) : (rflat l).length = l.length * 4 := by
  induction l with
  | nil => rfl
  | cons x xs ih => rw [rflat_cons, List.length_cons, List.length_cons, List.length_cons, List.length_cons, ih, List.length_cons]; omega
theorem rflat_at {l : List Nd} {k : Nat} {e : Nd} (h : l[k]? = some e) : (rflat l)[k * 4]? = some (.int .i64 (e.id : Int)) ∧ (rflat l)[k * 4 + 1]? = some (.int .i64 (e.par : Int)) ∧ (rflat l)[k * 4 + 2]? = some (.int .i64 e.sp) ∧ (rflat l)[k * 4 + 3]? = some (.int .i64 e.sl) := by
  induction l generalizing k with
  | nil => cases h
  | cons x xs ih =>
    rw [rflat_cons]
    cases k with
    | zero => obtain rfl : x = e := by simpa using h
              exact ⟨rfl, rfl, rfl, rfl⟩
    | succ k =>
      have := ih (k := k) (by simpa using h)
      rw [show (k + 1) * 4 = k * 4 + 1 + 1 + 1 + 1 by omega]
      exact this
theorem rflat_take (l : List Nd) (k : Nat) : (rflat l).take (k * 4) = rflat (l.take k) := by
  induction l generalizing k with
  | nil => simp [rflat]
  | cons x xs ih =>
    cases k with
    | zero => simp [rflat]
    | succ k =>
      rw [rflat_cons, show (k + 1) * 4 = k * 4 + 1 + 1 + 1 + 1 by omega, List.take_succ_cons, List.take_succ_cons, List.take_succ_cons, List.take_succ_cons, ih, List.take_succ_cons, rflat_cons]
theorem rflat_drop (l : List Nd) (k : Nat) : (rflat l).drop (k * 4) = rflat (l.drop k) := by
  induction l generalizing k with
  | nil => simp [rflat]
  | cons x xs ih =>
    cases k with
    | zero => simp [rflat]
    | succ k =>
      rw [rflat_cons, show (k + 1) * 4 = k * 4 + 1 + 1 + 1 + 1 by omega, List.drop_succ_cons, List.drop_succ_cons, List.drop_succ_cons, List.drop_succ_cons, ih, List.drop_succ_cons]
/-- The document's forest at block r; v is its row's value. -/
structure Rf (w : World) (r : Nat) (v : Value) (last : Nat) (L : List Nd) : Prop where
  hd : w.heap[r]? = some (.cells #[v, .int .i64 (last : Int)] 42)
  row : OR w (r + 1) 4 v L.length (rflat L)
def ROwn (r : Nat) (v : Value) (k : Nat) : Prop := k = r ∨ v.ownBlock = some k
section
variable {w w' : World} {r : Nat} {v : Value} {last : Nat} {L : List Nd} {e : Nd}
theorem Rf.lt (h : Rf w r v last L) {k : Nat} (hk : ROwn r v k) : r ≤ k ∧ k < w.heap.size := by
  rcases hk with rfl | hk
  · exact ⟨Nat.le_refl _, lt_of h.hd⟩
  · have := h.row.own k hk; omega
theorem Rf.same (h : Rf w r v last L) (hs : w.heap.size ≤ w'.heap.size) (ho : ∀ k, ROwn r v k → w'.heap[k]? = w.heap[k]?) : Rf w' r v last L :=
  ⟨(ho r (.inl rfl)).trans h.hd, h.row.other hs (fun g e => ho g (.inr e))⟩
theorem Rf.below {B : Nat} (h : Rf w r v last L) (hb : Below B w w') (hB : w.heap.size ≤ B) : Rf w' r v last L := h.same hb.size (fun k hk => hb.block k (by have := (h.lt hk).2; omega))
theorem Rf.drewN (h : Rf w r v last L) (k : Nat) : Rf (w.drewN k) r v last L := ⟨h.hd, h.row.drewN k⟩
theorem Rf.c0 (h : Rf w r v last L) : w.cell? ⟨r, 0, none⟩ = some v := by rw [cell_of_row _ _ _ _ _ _ h.hd]; rfl
theorem Rf.c1 (h : Rf w r v last L) : w.cell? ⟨r, 1, none⟩ = some (.int .i64 (last : Int)) := by rw [cell_of_row _ _ _ _ _ _ h.hd]; rfl
/-- Node k, as it is read. -/
theorem Rf.at (h : Rf w r v last L) {k : Nat} (hk : L[k]? = some e) : ∃ g off cap, v = .slice (some ⟨g, off, none⟩) L.length cap ∧ w.cell? ⟨g, off + k * 4, none⟩ = some (.int .i64 (e.id : Int)) ∧ w.cell? ⟨g, off + k * 4 + 1, none⟩ = some (.int .i64 (e.par : Int)) ∧
    w.cell? ⟨g, off + k * 4 + 2, none⟩ = some (.int .i64 e.sp) ∧ w.cell? ⟨g, off + k * 4 + 3, none⟩ = some (.int .i64 e.sl) := by
  obtain ⟨a, cap, rfl, _⟩ := h.row.slice
  obtain ⟨q0, q1, q2, q3⟩ := rflat_at hk
  obtain ⟨g, off, rfl, _, c0⟩ := h.row.at q0
  have key : ∀ j u, (rflat L)[j]? = some u → w.cell? ⟨g, off + j, none⟩ = some u := fun j u hu => by
    obtain ⟨g', off', e2, _, c⟩ := h.row.at hu
    obtain ⟨rfl, rfl⟩ : g = g' ∧ off = off' := by simpa using e2
    exact c
  exact ⟨g, off, cap, rfl, c0, key _ _ q1, key _ _ q2, key _ _ q3⟩
/-- Where a number stands; -1 without. -/
def atI (L : List Nd) (x : Int) : Int := match L.findIdx? (fun e => (e.id : Int) == x) with
  | some k => (k : Int)
  | none => -1
theorem atI_hit {x : Int} {k : Nat} (hk : L[k]? = some e) (hx : (e.id : Int) = x) (hn : ∀ (j : Nat) f, j < k → L[j]? = some f → (f.id : Int) ≠ x) : atI L x = (k : Int) := by
  have : L.findIdx? (fun e => (e.id : Int) == x) = some k := by
    rw [List.findIdx?_eq_some_iff_getElem]
    obtain ⟨hl, e1⟩ := List.getElem?_eq_some_iff.1 hk
    exact ⟨hl, by simp [e1, hx], fun j hj => by
      have := hn j L[j] hj (List.getElem?_eq_getElem (by omega))
      simpa using this⟩
  unfold atI
  rw [this]
theorem atI_miss {x : Int} (hn : ∀ (j : Nat) f, L[j]? = some f → (f.id : Int) ≠ x) : atI L x = -1 := by
  have : L.findIdx? (fun e => (e.id : Int) == x) = none := by
    rw [List.findIdx?_eq_none_iff]
    intro f hf
    obtain ⟨j, hj⟩ := List.getElem?_of_mem hf
    simpa using hn j f hj
  unfold atI
  rw [this]
set_option maxRecDepth 100000 in
set_option maxHeartbeats 1000000 in
theorem at_any (h : Rf w r v last L) (hl : L.length ≤ 400) (x : Int) : Calls Try.prog 37 #[ptr r, .int .i64 x] w fun en w' => en = .returned (.int .i64 (atI L x)) ∧ w' = w := by
  obtain ⟨a, cap, rfl, _⟩ := h.row.slice
  have HQ := hid h
  have e0 := h.c0
  obtain ⟨y, hy⟩ : ∃ y, y = atI L x := ⟨_, rfl⟩
  rw [← hy]
  have HY := hid hy
  clear h hy
  go_enter Try.func37, Try.ntmps37
  go_wp2_with fail
  go_loop [5] (fun c => ∃ k : Nat, k ≤ L.length ∧ c = .int .i64 (k : Int) ∧ Hid (∀ (j : Nat) f, j < k → L[j]? = some f → (f.id : Int) ≠ x)) (fun c => L.length - (intOf c).toNat)
  case atStart => exact ⟨0, Nat.zero_le _, rfl, fun j t hj => by omega⟩
  case round =>
    obtain ⟨k, hk, rfl, hS⟩ := hrel
    by_cases hlt : k < L.length
    · have hk2 := List.getElem?_eq_getElem hlt
      obtain ⟨e, he⟩ : ∃ e, e = L[k] := ⟨_, rfl⟩
      rw [← he] at hk2
      obtain ⟨g, off, cap2, ev, c0, _⟩ := HQ.out.at hk2
      obtain ⟨rfl, rfl⟩ : a = some ⟨g, off, none⟩ ∧ cap = cap2 := by simpa using ev
      have hk0 : (0 : Int) ≤ (k : Int) := by omega
      have hk1 : (k : Int) < (L.length : Int) := by omega
      have HLT := hid hlt
      by_cases hx : (e.id : Int) = x
      · have hd : ((e.id : Int) == x) = true := by rw [beq_iff_eq]; exact hx
        have HE : Hid (y = (k : Int)) := hid (HY.out.trans (atI_hit hk2 hx hS.out))
        clear hk2 hx hS HQ HY he hlt
        generalize ((e.id : Nat) : Int) = z at *
        go_wp2_with fail
        go_ret
        exact ⟨ret_int HE.out.symm, rfl⟩
      · have hd : ((e.id : Int) == x) = false := by rw [beq_eq_false_iff_ne]; exact hx
        have H3 := hid (show ∀ (j : Nat) f, j < k + 1 → L[j]? = some f → (f.id : Int) ≠ x from fun j f hj hf => by
          by_cases e1 : j = k
          · subst e1
            rw [hk2] at hf
            obtain rfl : e = f := by simpa using hf
            exact hx
          · exact hS.out j f (by omega) hf)
        clear hk2 hx hS HQ HY he hlt
        generalize ((e.id : Nat) : Int) = z at *
        go_wp2_with fail
        exact ⟨⟨k + 1, HLT.out, by go_num, H3⟩, by have := HLT.out; simp [intOf]; omega⟩
    · obtain rfl : k = L.length := by omega
      have HE : Hid (y = -1) := hid (HY.out.trans (atI_miss (fun j f hf => hS.out j f (List.getElem?_eq_some_iff.1 hf).1 hf)))
      go_wp2_with fail
      go_ret
      exact ⟨ret_int HE.out.symm, rfl⟩
end
end Go.Proofs.Ytiechmcfafhfaaa
