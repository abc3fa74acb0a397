/- The document's queue: Add, Of, and the comparison Same. -/
import Derived.Test.YtgoennbbpndiiaaM2
import Derived.Test.YtgoennbbpndiiaaI
namespace Go.Proofs.Ytgoennbbpndiiaa
open Go.RowKit Go.Maps Go.Shelf

/-- The document's queue at block r: two rows. -/
structure Rp (w : World) (r : Nat) (vL vT : Value) (p : Int) (xs ts : List Int) : Prop where
  hd : w.heap[r]? = some (.cells #[.int .i64 p, vL, vT] 34)
  rowL : OR w (r + 1) 1 vL xs.length (nums xs)
  rowT : OR w (r + 1) 1 vT ts.length (nums ts)
  sep : ∀ g, vL.ownBlock = some g → vT.ownBlock ≠ some g
def ROwn (r : Nat) (vL vT : Value) (k : Nat) : Prop := k = r ∨ vL.ownBlock = some k ∨ vT.ownBlock = some k
section
variable {w w' : World} {r : Nat} {vL vT : Value} {p : Int} {xs ts : List Int} {l : List (Int × Int)}
theorem Rp.lt (h : Rp w r vL vT p xs ts) {k : Nat} (hk : ROwn r vL vT k) : r ≤ k ∧ k < w.heap.size := by
  rcases hk with rfl | hk | hk
  · exact ⟨Nat.le_refl _, lt_of h.hd⟩
  · have := h.rowL.own k hk; omega
  · have := h.rowT.own k hk; omega
theorem Rp.same (h : Rp w r vL vT p xs ts) (hs : w.heap.size ≤ w'.heap.size) (ho : ∀ k, ROwn r vL vT k → w'.heap[k]? = w.heap[k]?) : Rp w' r vL vT p xs ts :=
  ⟨(ho r (.inl rfl)).trans h.hd, h.rowL.other hs (fun g e => ho g (.inr (.inl e))), h.rowT.other hs (fun g e => ho g (.inr (.inr e))), h.sep⟩
theorem Rp.below {B : Nat} (h : Rp w r vL vT p xs ts) (hb : Below B w w') (hB : w.heap.size ≤ B) : Rp w' r vL vT p xs ts := h.same hb.size (fun k hk => hb.block k (by have := (h.lt hk).2; omega))
theorem Rp.drewN (h : Rp w r vL vT p xs ts) (k : Nat) : Rp (w.drewN k) r vL vT p xs ts := ⟨h.hd, h.rowL.drewN k, h.rowT.drewN k, h.sep⟩
theorem Rp.c0 (h : Rp w r vL vT p xs ts) : w.cell? ⟨r, 0, none⟩ = some (.int .i64 p) := by rw [cell_of_row _ _ _ _ _ _ h.hd]; rfl
theorem Rp.c1 (h : Rp w r vL vT p xs ts) : w.cell? ⟨r, 1, none⟩ = some vL := by rw [cell_of_row _ _ _ _ _ _ h.hd]; rfl
theorem Rp.c2 (h : Rp w r vL vT p xs ts) : w.cell? ⟨r, 2, none⟩ = some vT := by rw [cell_of_row _ _ _ _ _ _ h.hd]; rfl
theorem Rp.new (w : World) (p : Int) : Rp (w.alloc (.cells #[.int .i64 p, .slice none 0 0, .slice none 0 0] 34)) w.heap.size (.slice none 0 0) (.slice none 0 0) p [] [] :=
  ⟨heap_alloc_new _ _, OR.nil _ _ _, OR.nil _ _ _, fun g e => by cases e⟩
/-- What the document's turn leaves. -/
structure RLeft (w : World) (r : Nat) (vL vT : Value) (p : Int) (xs' ts' : List Int) (vL' vT' : Value) (w' : World) : Prop where
  rq : Rp w' r vL' vT' p xs' ts'
  turn : Turn (ROwn r vL vT) w w'
  own : ∀ k, ROwn r vL' vT' k → ROwn r vL vT k ∨ w.heap.size ≤ k
theorem RLeft.refl (h : Rp w r vL vT p xs ts) : RLeft w r vL vT p xs ts vL vT w := ⟨h, Turn.refl _ _, fun _ e => .inl e⟩
theorem RLeft.trans {w1 w2 : World} {vL1 vT1 vL2 vT2 : Value} {xs1 ts1 xs2 ts2 : List Int} (h : RLeft w r vL vT p xs1 ts1 vL1 vT1 w1) (k : RLeft w1 r vL1 vT1 p xs2 ts2 vL2 vT2 w2) : RLeft w r vL vT p xs2 ts2 vL2 vT2 w2 := by
  refine ⟨k.rq, ⟨k.turn.os.trans h.turn.os, k.turn.tape.trans h.turn.tape, k.turn.output.trans h.turn.output, Nat.le_trans h.turn.size k.turn.size, fun i hi hn => ?_⟩, fun i e => ?_⟩
  · refine (k.turn.block i (Nat.lt_of_lt_of_le hi h.turn.size) (fun ho => ?_)).trans (h.turn.block i hi hn)
    rcases h.own i ho with e | e
    · exact hn e
    · omega
  · rcases k.own i e with e1 | e1
    · exact h.own i e1
    · exact .inr (Nat.le_trans h.turn.size e1)
theorem RLeft.keep {vL' vT' : Value} {xs' ts' : List Int} (h : RLeft w r vL vT p xs' ts' vL' vT' w') {k : Nat} (hk : k < w.heap.size) (hn : ¬ ROwn r vL vT k) : w'.heap[k]? = w.heap[k]? ∧ ¬ ROwn r vL' vT' k :=
  ⟨h.turn.block k hk hn, fun ho => by
    rcases h.own k ho with e | e
    · exact hn e
    · omega⟩

/-- One number more: all blocks but the row's own are as they were. -/
theorem num_append2 {base : Nat} {v : Value} {xs : List Int} (h : OR w base 1 v xs.length (nums xs)) (hn : xs.length ≤ 1000000) (hb : base ≤ w.heap.size) (x : Int) (H : Nat) (hH : w.heap.size = H) :
    ∃ a cap w', (Builtin.append_ #[29, 29] 29 #[v, .slice (some ⟨H, 0, none⟩) 1 1]).run Try.prog (w.alloc (.cells #[.int .i64 x] 3)) = .ok (.slice a (xs.length + 1) cap) w' ∧
      OR w' base 1 (.slice a (xs.length + 1) cap) (xs ++ [x]).length (nums (xs ++ [x])) ∧ Below base w w' ∧ (∀ k, k < w.heap.size → v.ownBlock ≠ some k → w'.heap[k]? = w.heap[k]?) ∧
      ∀ k, (Value.slice a (xs.length + 1) cap).ownBlock = some k → v.ownBlock = some k ∨ w.heap.size ≤ k := by
  subst hH
  obtain ⟨i0, hi, hz0, hz1, hz2⟩ := info_parts info3
  have hA : (w.alloc (.cells #[.int .i64 x] 3)).heap[w.heap.size]? = some (.cells #[.int .i64 x] 3) := heap_alloc_new _ _
  obtain ⟨v', w', hr, ho, hg, hob⟩ := OR.append (P := Try.prog) 29 29 3 i0 _ 1 8 Try.underlying29 hi hz0 hz1 hz2 rfl (by decide) (h.alloc (.cells #[.int .i64 x] 3)) ⟨w.heap.size, 0, none⟩ 1 1
    [.int .i64 x] rfl (fun j u hj => by
      rw [addr_add, Nat.zero_add, cell_of_row _ _ _ _ _ _ hA, ← hj]
      match j, hj with
      | 0, _ => rfl) (fun u hu => by simp at hu; subst hu; rfl) (by unfold maxLen; omega) (by omega) (by simp; omega)
  obtain ⟨a, cap, rfl, _⟩ := ho.slice
  refine ⟨a, cap, w', hr, ?_, ((Below.refl base w).alloc hb _).grown hg (by simp; omega) (fun k e => (h.own k e).1), fun k hk hne => ?_, fun k e => ?_⟩
  · rw [nums_append, List.length_append]
    exact ho
  · exact (hg.block k (by simp; omega) (fun e => hne e.symm)).trans (Below.heap_alloc _ _ _ hk)
  · rcases hob with e1 | ⟨g, e1, e2⟩
    · exact .inl (e1.symm.trans e)
    · rw [e1] at e
      obtain rfl : g = k := by simpa using e
      exact .inr (by simp at e2; omega)

/-- Same of like lists. -/
theorem same_any {b1 b2 : Nat} {v1 v2 : Value} {xs : List Int} (h1 : OR w b1 1 v1 xs.length (nums xs)) (h2 : OR w b2 1 v2 xs.length (nums xs)) (hl : xs.length ≤ 100000) : Calls Try.prog 15 #[v1, v2] w fun e w' => e = .returned (.bool true) ∧ ∃ q, w' = w.drewN q := by
  obtain ⟨a1, k1, rfl, _⟩ := h1.slice
  obtain ⟨a2, k2, rfl, _⟩ := h2.slice
  have HR := hid (And.intro h1 h2)
  have hn0 : ((xs.length : Int) != (xs.length : Int)) = false := by simp
  clear h1 h2
  go_enter Try.func15, Try.ntmps15
  go_wp2
  go_loopw [5] (fun c wr => ∃ j : Nat, j ≤ xs.length ∧ c = .int .i64 (j : Int) ∧ ∃ q, wr = w.drewN q) (fun c _ => xs.length - (intOf c).toNat)
  case atStart => exact ⟨0, Nat.zero_le _, rfl, 0, rfl⟩
  case round =>
    obtain ⟨j, hj, rfl, q, rfl⟩ := hrel
    by_cases hlt : j < xs.length
    · obtain ⟨g1, o1, rfl, _, c1⟩ := HR.out.1.at (nums_at (List.getElem?_eq_getElem hlt))
      obtain ⟨g2, o2, rfl, _, c2⟩ := HR.out.2.at (nums_at (List.getElem?_eq_getElem hlt))
      have hj0 : (0 : Int) ≤ (j : Int) := by omega
      have hj1 : (j : Int) < (xs.length : Int) := by omega
      have hne : (xs[j] != xs[j]) = false := by simp
      generalize xs[j] = x at *
      generalize xs.length = n at *
      go_wp2_with fail
      go_quiet (fail)
      go_wp2_with fail
      exact ⟨⟨j + 1, by omega, by go_num, _, rfl⟩, by simp [intOf]; omega⟩
    · go_wp2
      go_ret
      exact ⟨rfl, q, rfl⟩

set_option maxRecDepth 100000 in
set_option maxHeartbeats 1000000 in
theorem of_any (h : Rp w r vL vT p (l.map (·.1)) (l.map (·.2))) (hl : l.length ≤ 100000) (x : Int) : Calls Try.prog 17 #[.pointer (some ⟨r, 0, none⟩), .int .i64 x] w fun e w' => e = .returned (.int .i64 (leftA l x)) ∧ w' = w := by
  obtain ⟨aL, cL, rfl, _⟩ := h.rowL.slice
  obtain ⟨aT, cT, rfl, _⟩ := h.rowT.slice
  have HQ := hid h
  have e1 := h.c1
  have e2 := h.c2
  obtain ⟨y, hy⟩ : ∃ y, y = leftA l x := ⟨_, rfl⟩
  rw [← hy]
  have HY := hid hy
  clear h hy
  go_enter Try.func17, Try.ntmps17
  go_wp2
  go_loop [5] (fun c => ∃ k : Nat, k ≤ l.length ∧ c = .int .i64 (k : Int) ∧ Hid (∀ (j : Nat) t, j < k → l[j]? = some t → t.1 ≠ x)) (fun c => l.length - (intOf c).toNat)
  case atStart => exact ⟨0, Nat.zero_le _, rfl, fun j t hj => by omega⟩
  case round =>
    obtain ⟨k, hk, rfl, hS⟩ := hrel
    by_cases hlt : k < l.length
    · have hk2 := List.getElem?_eq_getElem hlt
      obtain ⟨g1, o1, rfl, _, c1⟩ := HQ.out.rowL.at (nums_at (k := k) (x := l[k].1) (by rw [List.getElem?_map, hk2]; rfl))
      obtain ⟨g2, o2, rfl, _, c2⟩ := HQ.out.rowT.at (nums_at (k := k) (x := l[k].2) (by rw [List.getElem?_map, hk2]; rfl))
      by_cases hx : l[k].1 = x
      · have hd : (l[k].1 == x) = true := by simpa using hx
        have HE : Hid (y = l[k].2) := hid (HY.out.trans (leftA_hit hk2 hx hS.out))
        clear hk2 hx hS HQ HY
        generalize l[k].1 = z at *
        generalize l[k].2 = t at *
        go_wp2
        go_ret
        exact ⟨ret_int HE.out.symm, rfl⟩
      · have hd : (l[k].1 == x) = false := by rw [beq_eq_false_iff_ne]; exact hx
        have H3 := hid (show ∀ (j : Nat) t, j < k + 1 → l[j]? = some t → t.1 ≠ x from fun j t hj ht => by
          by_cases e : j = k
          · subst e
            rw [hk2] at ht
            obtain rfl : l[j] = t := by simpa using ht
            exact hx
          · exact hS.out j t (Nat.lt_of_le_of_ne (Nat.lt_succ_iff.1 hj) e) ht)
        clear hk2 hx hS HQ HY
        generalize l[k].1 = z at *
        generalize l[k].2 = t at *
        go_wp2
        exact ⟨⟨k + 1, by omega, by go_num, H3⟩, by simp [intOf]; omega⟩
    · obtain rfl : k = l.length := by omega
      have HE : Hid (y = 0) := hid (HY.out.trans (leftA_miss (fun j t ht => hS.out j t (List.getElem?_eq_some_iff.1 ht).1 ht)))
      go_wp2
      go_ret
      exact ⟨ret_int HE.out.symm, rfl⟩
end
end Go.Proofs.Ytgoennbbpndiiaa
