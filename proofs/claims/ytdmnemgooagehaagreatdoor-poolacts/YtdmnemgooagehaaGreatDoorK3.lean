/- The document's rows of numbers: put into no row at all; put into whichever; two rows held against one another; the document's small answers. -/
import Derived.Test.YtdmnemgooagehaaGreatDoorK2
import Derived.Test.YtdmnemgooagehaaGreatDoorR10
namespace Go.Proofs.YtdmnemgooagehaaGreatDoor
open Go.RowKit Go.Maps

theorem run_append_nilN (ty : TypeId) (A : Addr) (n cap : Nat) (h : n ≤ cap) (w : World) : (Builtin.append_ #[34, 34] ty #[.slice (some A) n cap, .slice none 0 0]).run Tryz.prog w = .ok (.slice (some A) n cap) w := by
  have hs : (sizeOf 3).run Tryz.prog w = .ok 1 w := by kernel_rfl
  simp [Builtin.append_, run_underlying Tryz.underlying34, hs, go_sem, Builtin.lenOf, Builtin.firstCells, h, storeCells]
theorem step_append_nilN (w : World) {ops : Array Oper} {o : Oper} {a : Act} {K : Act → World → Prop} {Q : Exit → Act → World → Prop} {E : Prop} (hgd : o.guard = none) (s x : Operand)
    (ho : o.op = .call { callee := .builtin .append, args := #[s, x], argTypes := #[34, 34] }) (A : Addr) (n cap : Nat) (hle : n ≤ cap) (hs : a.eval s = .slice (some A) n cap) (hx : a.eval x = .slice none 0 0)
    (h : K (a.put o.dst (.slice (some A) n cap)) w) : if Region.wanted o (yielded ops a.tmps) = true then Oper.wp Tryz.prog o a w K Q else E := by
  have hw : Region.wanted o (yielded ops a.tmps) = true := by simp [Region.wanted, hgd]
  rw [if_pos hw]
  unfold Oper.wp
  simp [execOp, ho, resolve, invoke, builtin, hs, hx, run_append_nilN _ _ _ _ hle, Result.andThen]
  exact h
theorem own_formN {w : World} {base n : Nat} {v : Value} {xs : List Value} (h : w.ownsRow base 3 1 v n xs) (hn : 0 < n) : ∃ A cap, v = .slice (some A) n cap ∧ n ≤ cap := by
  rcases h.2 with ⟨_, h0⟩ | ⟨g, cap, cur, e, _, _, h1, _⟩
  · omega
  · exact ⟨_, cap, e, h1⟩

set_option maxHeartbeats 4000000 in
set_option maxRecDepth 100000 in
theorem iput_none (w : World) (x : Nat) (_hx : x < 2147483648) :
    Calls Tryz.prog 83 #[.slice none 0 0, .int .i64 (x : Int)] w (PutN [] x w) := by
  obtain ⟨i0, hi0, hz0, hz1, hz2⟩ := info_parts Qu.info3
  have HIF := hid (And.intro hi0 (And.intro hz0 (And.intro hz1 hz2)))
  clear hi0 hz0 hz1 hz2
  go_enter Tryz.func83, Tryz.ntmps83
  go_wp2_with fail
  refine wp_loop_rounds 1 ?_
  rw [rounds_succ]
  go_wp2_with fail
  have hW0 : Below w.heap.size w w.drew := (Below.refl _ w).drew
  have hB1 : Below w.heap.size w (w.drew.alloc (.cells #[] 3)) := hW0.alloc (Nat.le_refl _) _
  have hB2 : Below w.heap.size w ((w.drew.alloc (.cells #[] 3)).alloc (.cells #[.int .i64 (x : Int)] 3)) := hB1.alloc (by simp <;> omega) _
  have hB4 : Below w.heap.size w (w.drew.alloc (.cells #[.int .i64 (x : Int)] 3)) := hW0.alloc (Nat.le_refl _) _
  have hB3 : Below w.heap.size w ((w.drew.alloc (.cells #[.int .i64 (x : Int)] 3)).alloc (.cells #[] 3)) := hB4.alloc (by simp <;> omega) _
  have hO1 : (w.drew.alloc (.cells #[] 3)).ownsRow w.heap.size 3 1 (.slice (some ⟨w.heap.size, 0, none⟩) 0 0) 0 [] := World.ownsRow_lit w.drew #[] 0 (Nat.le_refl _) (by unfold maxLen; omega) rfl
  have hO3 : ((w.drew.alloc (.cells #[.int .i64 (x : Int)] 3)).alloc (.cells #[] 3)).ownsRow w.heap.size 3 1 (.slice (some ⟨w.heap.size + 1, 0, none⟩) 0 0) 0 [] := by
    have h := World.ownsRow_lit (base := w.heap.size) (e := 3) (size := 1) (w.drew.alloc (.cells #[.int .i64 (x : Int)] 3)) #[] 0 (by simp <;> omega) (by unfold maxLen; omega) rfl
    simpa using h
  have hC1 : ((w.drew.alloc (.cells #[] 3)).alloc (.cells #[.int .i64 (x : Int)] 3)).heap[w.heap.size + 1]? = some (.cells #[.int .i64 (x : Int)] 3) := by have := heap_alloc_new (w.drew.alloc (.cells #[] 3)) (.cells #[.int .i64 (x : Int)] 3); simpa using this
  have hC3 : ((w.drew.alloc (.cells #[.int .i64 (x : Int)] 3)).alloc (.cells #[] 3)).heap[w.heap.size]? = some (.cells #[.int .i64 (x : Int)] 3) := heap_alloc2_old w.drew _ _
  have HE := hid (And.intro hB1 (And.intro hB2 (And.intro hB3 (And.intro hB4 (And.intro (hO1.alloc (.cells #[.int .i64 (x : Int)] 3)) (And.intro hO3 (And.intro hC1 hC3)))))))
  clear hW0 hB1 hB2 hB3 hB4 hO1 hO3 hC1 hC3
  go_region_held3 (fun _ => True) (trivial)
    (first
      | (refine step_append_nilN _ (by rfl) _ _ (by rfl) ⟨w.heap.size, 0, none⟩ 0 0 (Nat.le_refl _) (by rfl) (by rfl) ?_)
      | (refine step_append_nilN _ (by rfl) _ _ (by rfl) ⟨w.heap.size + 1, 0, none⟩ 0 0 (Nat.le_refl _) (by rfl) (by rfl) ?_)
      | (refine step_append_any _ (by rfl) _ _ _ (by rfl) w.heap.size 3 i0 (.int .i64 0) 1 8 Tryz.underlying34 HIF.out.1 HIF.out.2.1 HIF.out.2.2.1 HIF.out.2.2.2 rfl (by decide) (.slice (some ⟨w.heap.size, 0, none⟩) 0 0) 0 [] (by rfl) HE.out.2.2.2.2.1 ⟨w.heap.size + 1, 0, none⟩ 1 1 [.int .i64 (x : Int)] (by rfl) rfl (one_at_block HE.out.2.2.2.2.2.2.1) (one_cell _) (by unfold maxLen; omega) (by omega) (by simp <;> omega) ?_; intro v2 w2 hown2 hg2
         have hX2 : Below w.heap.size w w2 := Below.grown HE.out.2.1 hg2 (by simp <;> omega) (fun j hj => by cases hj; exact Nat.le_refl _)
         obtain ⟨A2, cap2, rfl, hle2⟩ := own_formN hown2 (by omega))
      | (refine step_append_any _ (by rfl) _ _ _ (by rfl) w.heap.size 3 i0 (.int .i64 0) 1 8 Tryz.underlying34 HIF.out.1 HIF.out.2.1 HIF.out.2.2.1 HIF.out.2.2.2 rfl (by decide) (.slice (some ⟨w.heap.size + 1, 0, none⟩) 0 0) 0 [] (by rfl) HE.out.2.2.2.2.2.1 ⟨w.heap.size, 0, none⟩ 1 1 [.int .i64 (x : Int)] (by rfl) rfl (one_at_block HE.out.2.2.2.2.2.2.2) (one_cell _) (by unfold maxLen; omega) (by omega) (by simp <;> omega) ?_; intro v2 w2 hown2 hg2
         have hX2 : Below w.heap.size w w2 := Below.grown HE.out.2.2.1 hg2 (by simp <;> omega) (fun j hj => by cases hj; exact Nat.le_succ _)
         obtain ⟨A2, cap2, rfl, hle2⟩ := own_formN hown2 (by omega))
      | (refine step_append_nilN _ (by rfl) _ _ (by rfl) A2 (0 + 1) cap2 hle2 (by rfl) (by rfl) ?_))
  all_goals
    obtain ⟨a3, cap3, e3, hI3⟩ := put_row (L := []) (t := 0) (x := x) (Nat.le_refl _) (by simpa [nums] using hown2)
    have HI3 := hid hI3
    have HX3 := hid hX2
    have HE3 := hid e3
    clear hown2 hg2 hI3 hX2 e3
    go_wp2_with fail
    go_ret
    have e3 := HE3.out
    cases e3
    exact ⟨_, _, 0, rfl, hid ⟨Nat.le_refl _, fun j y _ hy => by simp at hy, .inl rfl⟩, HI3, HX3.out⟩
theorem iput_any (w : World) (b : Nat) (v : Value) (L : List Nat) (x : Nat) (hR : Irow w b v L) (hl : L.length ≤ 1000000) (hx : x < 2147483648) : Calls Tryz.prog 83 #[v, .int .i64 (x : Int)] w (PutN L x w) := by
  rcases hR.shape with ⟨rfl, rfl⟩ | ⟨g, cap, rfl, h1, h2⟩
  · exact iput_none w x hx
  · exact iput_some w L b cap g x hR hl h1 (by unfold maxLen at h2; omega) hx
/-- Two rows of the same numbers. -/
theorem isame_true (w : World) (L : List Nat) (b1 b2 : Nat) (v1 v2 : Value) (h1 : Irow w b1 v1 L) (h2 : Irow w b2 v2 L) (hl : L.length ≤ 1000000) : Calls Tryz.prog 23 #[v1, v2] w fun e w' => e = .returned (.bool true) ∧ Below w.heap.size w w' := by
  obtain ⟨a1, c1, rfl⟩ := h1.open
  obtain ⟨a2, c2, rfl⟩ := h2.open
  have H := hid (And.intro h1 h2)
  clear h1 h2
  go_enter Tryz.func23, Tryz.ntmps23
  go_wp2_with fail
  go_loopw [5] (fun t wr => ∃ k : Nat, k ≤ L.length ∧ t = .int .i64 (k : Int) ∧ Below w.heap.size w wr) (fun t _ => L.length - (intOf t).toNat)
  case atStart => exact ⟨0, Nat.zero_le _, rfl, Below.refl _ _⟩
  case round =>
    obtain ⟨k, hk, rfl, hX⟩ := hrel
    by_cases hkl : k = L.length
    · subst hkl
      go_wp2_with fail
      go_ret
      exact ⟨rfl, hX⟩
    · have hk2 : k < L.length := by omega
      obtain ⟨y, hy⟩ : ∃ y, L[k]? = some y := ⟨_, List.getElem?_eq_getElem hk2⟩
      obtain ⟨g1, rfl, d1⟩ := (H.out.1.below hX).at hy
      obtain ⟨g2, rfl, d2⟩ := (H.out.2.below hX).at hy
      have hkI : (k : Int) < (L.length : Int) := by omega
      have hkI0 : (0 : Int) ≤ (k : Int) := by omega
      clear hy
      go_wp2_with fail
      go_quiet (fail)
      go_wp2_with fail
      exact ⟨⟨k + 1, by omega, by go_num, Below.drewN hX _⟩, by simp [intOf]; omega⟩
theorem rmany_any (w : World) (sz : Nat) (h0 : 0 < sz) (hs : sz ≤ 1024) (m : Nat) (hm : m = 960 / sz) : Calls Tryz.prog 26 #[.int .i64 (sz : Int)] w fun e w' => e = .returned (.int .i64 (m : Int)) ∧ w' = w := by
  have hmb : m ≤ 960 := by rw [hm]; exact Nat.div_le_self _ _
  have hd : (960 : Int).tdiv (sz : Int) = (m : Int) := by rw [Int.tdiv_eq_ediv_of_nonneg (by omega), hm]; rfl
  have hnz : ((sz : Int) == 0) = false := by rw [beq_eq_false_iff_ne]; omega
  clear hm
  go_enter Tryz.func26, Tryz.ntmps26
  go_wp2_with fail
  go_ret
  exact ⟨rfl, rfl⟩
end Go.Proofs.YtdmnemgooagehaaGreatDoor
