/- The document's allocator by lists: put into no list at all; put of whatever list. -/
import Derived.Test.YtdmnemgooagehaaGreatDoorR2
namespace Go.Proofs.YtdmnemgooagehaaGreatDoor
open Go.RowKit Go.Maps

theorem run_append_nil (ty : TypeId) (A : Addr) (n cap : Nat) (h : n ≤ cap) (w : World) : (Builtin.append_ #[50, 50] ty #[.slice (some A) n cap, .slice none 0 0]).run Tryz.prog w = .ok (.slice (some A) n cap) w := by
  have hs : (sizeOf 132).run Tryz.prog w = .ok 2 w := by kernel_rfl
  simp [Builtin.append_, run_underlying Tryz.underlying50, hs, go_sem, Builtin.lenOf, Builtin.firstCells, h, storeCells]
theorem step_append_nil (w : World) {ops : Array Oper} {o : Oper} {a : Act} {K : Act → World → Prop} {Q : Exit → Act → World → Prop} {E : Prop} (hgd : o.guard = none) (s x : Operand)
    (ho : o.op = .call { callee := .builtin .append, args := #[s, x], argTypes := #[50, 50] }) (A : Addr) (n cap : Nat) (hle : n ≤ cap) (hs : a.eval s = .slice (some A) n cap) (hx : a.eval x = .slice none 0 0)
    (h : K (a.put o.dst (.slice (some A) n cap)) w) : if Region.wanted o (yielded ops a.tmps) = true then Oper.wp Tryz.prog o a w K Q else E := by
  have hw : Region.wanted o (yielded ops a.tmps) = true := by simp [Region.wanted, hgd]
  rw [if_pos hw]
  unfold Oper.wp
  simp [execOp, ho, resolve, invoke, builtin, hs, hx, run_append_nil _ _ _ _ hle, Result.andThen]
  exact h
theorem own_form {w : World} {base n : Nat} {v : Value} {xs : List Value} (h : w.ownsRow base 132 2 v n xs) (hn : 0 < n) : ∃ A cap, v = .slice (some A) n cap ∧ n ≤ cap := by
  rcases h.2 with ⟨_, h0⟩ | ⟨g, cap, cur, e, _, _, h1, _⟩
  · omega
  · exact ⟨_, cap, e, h1⟩

set_option maxHeartbeats 4000000 in
set_option maxRecDepth 100000 in
theorem put_none (w : World) (p k : Nat) :
    Calls Tryz.prog 88 #[.slice none 0 0, .agg #[.int .i64 ((p * 1024 : Nat) : Int), .int .i64 (k : Int)]] w (PutPost [] p k w) := by
  obtain ⟨i0, hi0, hz0, hz1, hz2⟩ := info_parts info44
  have HIF := hid (And.intro hi0 (And.intro hz0 (And.intro hz1 hz2)))
  obtain ⟨z, hz⟩ : ∃ z : Nat, z = p * 1024 := ⟨_, rfl⟩
  rw [← hz]
  have HZ := hid hz
  clear hi0 hz0 hz1 hz2 hz
  go_enter Tryz.func88, Tryz.ntmps88
  go_wp2_with fail
  refine wp_loop_rounds 1 ?_
  rw [rounds_succ]
  go_wp2_with fail
  go_quiet (fail)
  go_wp2_with fail
  have hXz : Below (w.heap.size + 1) (w.alloc (.cells #[.int .i64 (z : Int), .int .i64 (k : Int)] 132)) ((w.alloc (.cells #[.int .i64 (z : Int), .int .i64 (k : Int)] 132)).drewN nq) := Below.drewN (Below.refl _ _) nq
  generalize (w.alloc (.cells #[.int .i64 (z : Int), .int .i64 (k : Int)] 132)).drewN nq = wz at *
  have hsz : w.heap.size + 1 ≤ wz.heap.size := by have := hXz.size; simpa using this
  have hlow : ∀ wx, Below (w.heap.size + 1) (w.alloc (.cells #[.int .i64 (z : Int), .int .i64 (k : Int)] 132)) wx → Below w.heap.size w wx := fun wx hx => ((Below.refl w.heap.size w).alloc (Nat.le_refl _) _).trans (hx.mono (Nat.le_succ _))
  have hbox : ∀ wx, Below (w.heap.size + 1) (w.alloc (.cells #[.int .i64 (z : Int), .int .i64 (k : Int)] 132)) wx → wx.cell? ⟨w.heap.size, 0, none⟩ = some (.int .i64 (z : Int)) ∧ wx.cell? ⟨w.heap.size, 1, none⟩ = some (.int .i64 (k : Int)) := fun wx hx => by
    have hbk := (hx.block w.heap.size (Nat.lt_succ_self _)).trans (heap_alloc_new w _)
    exact ⟨by rw [cell_of_row _ _ _ _ _ _ hbk]; rfl, by rw [cell_of_row _ _ _ _ _ _ hbk]; rfl⟩
  obtain ⟨b0z, b1z⟩ := hbox wz hXz
  have hB1 : Below (w.heap.size + 1) (w.alloc (.cells #[.int .i64 (z : Int), .int .i64 (k : Int)] 132)) (wz.drew.alloc (.cells #[] 132)) := hXz.drew.alloc hsz _
  have hB2 : Below (w.heap.size + 1) (w.alloc (.cells #[.int .i64 (z : Int), .int .i64 (k : Int)] 132)) ((wz.drew.alloc (.cells #[] 132)).alloc (.cells #[.int .i64 (z : Int), .int .i64 (k : Int)] 132)) := (hXz.drew.alloc hsz _).alloc (by simp; omega) _
  have hB3 : Below (w.heap.size + 1) (w.alloc (.cells #[.int .i64 (z : Int), .int .i64 (k : Int)] 132)) ((wz.drew.alloc (.cells #[.int .i64 (z : Int), .int .i64 (k : Int)] 132)).alloc (.cells #[] 132)) := (hXz.drew.alloc hsz _).alloc (by simp; omega) _
  have hB4 : Below (w.heap.size + 1) (w.alloc (.cells #[.int .i64 (z : Int), .int .i64 (k : Int)] 132)) (wz.drew.alloc (.cells #[.int .i64 (z : Int), .int .i64 (k : Int)] 132)) := hXz.drew.alloc hsz _
  have hO1 : (wz.drew.alloc (.cells #[] 132)).ownsRow (w.heap.size + 1) 132 2 (.slice (some ⟨wz.heap.size, 0, none⟩) 0 0) 0 [] := World.ownsRow_lit wz.drew #[] 0 hsz (by unfold maxLen; omega) rfl
  have hO3 : ((wz.drew.alloc (.cells #[.int .i64 (z : Int), .int .i64 (k : Int)] 132)).alloc (.cells #[] 132)).ownsRow (w.heap.size + 1) 132 2 (.slice (some ⟨wz.heap.size + 1, 0, none⟩) 0 0) 0 [] := by
    have h := World.ownsRow_lit (base := w.heap.size + 1) (e := 132) (size := 2) (wz.drew.alloc (.cells #[.int .i64 (z : Int), .int .i64 (k : Int)] 132)) #[] 0 (by simp; omega) (by unfold maxLen; omega) rfl
    simpa using h
  have hC1 : ((wz.drew.alloc (.cells #[] 132)).alloc (.cells #[.int .i64 (z : Int), .int .i64 (k : Int)] 132)).heap[wz.heap.size + 1]? = some (.cells #[.int .i64 (z : Int), .int .i64 (k : Int)] 132) := by have := heap_alloc_new (wz.drew.alloc (.cells #[] 132)) (.cells #[.int .i64 (z : Int), .int .i64 (k : Int)] 132); simpa using this
  have hC3 : ((wz.drew.alloc (.cells #[.int .i64 (z : Int), .int .i64 (k : Int)] 132)).alloc (.cells #[] 132)).heap[wz.heap.size]? = some (.cells #[.int .i64 (z : Int), .int .i64 (k : Int)] 132) := heap_alloc2_old wz.drew _ _
  have HE := hid (And.intro hB1 (And.intro hB2 (And.intro hB3 (And.intro hB4 (And.intro (hO1.alloc (.cells #[.int .i64 (z : Int), .int .i64 (k : Int)] 132)) (And.intro hO3 (And.intro hC1 hC3)))))))
  have HN := hid (And.intro hlow hbox)
  clear hB1 hB2 hB3 hB4 hO1 hO3 hlow hbox hC1 hC3
  go_region_held3 (fun wx => wx.cell? ⟨w.heap.size, 0, none⟩ = some (.int .i64 (z : Int)) ∧ wx.cell? ⟨w.heap.size, 1, none⟩ = some (.int .i64 (k : Int))) (first | exact ⟨b0z, b1z⟩ | exact HN.out.2 _ hX2 | exact HN.out.2 _ HE.out.1 | exact HN.out.2 _ HE.out.2.1 | exact HN.out.2 _ HE.out.2.2.1 | exact HN.out.2 _ HE.out.2.2.2.1 | go_keep)
    (first
      | (refine step_append_nil _ (by rfl) _ _ (by rfl) ⟨wz.heap.size, 0, none⟩ 0 0 (Nat.le_refl _) (by rfl) (by rfl) ?_)
      | (refine step_append_nil _ (by rfl) _ _ (by rfl) ⟨wz.heap.size + 1, 0, none⟩ 0 0 (Nat.le_refl _) (by rfl) (by rfl) ?_)
      | (refine step_append_any _ (by rfl) _ _ _ (by rfl) (w.heap.size + 1) 132 i0 (.agg #[.int .i64 0, .int .i64 0]) 2 16 Tryz.underlying50 HIF.out.1 HIF.out.2.1 HIF.out.2.2.1 HIF.out.2.2.2 rfl (by decide) (.slice (some ⟨wz.heap.size, 0, none⟩) 0 0) 0 [] (by rfl) HE.out.2.2.2.2.1 ⟨wz.heap.size + 1, 0, none⟩ 1 1 [.int .i64 (z : Int), .int .i64 (k : Int)] (by rfl) rfl (pair_news HE.out.2.2.2.2.2.2.1) (by simp [Value.oneCell']) (by unfold maxLen; omega) (by omega) (by simp; omega) ?_; intro v2 w2 hown2 hg2
         have hX2 : Below (w.heap.size + 1) (w.alloc (.cells #[.int .i64 (z : Int), .int .i64 (k : Int)] 132)) w2 := Below.grown HE.out.2.1 hg2 (by simp; omega) (fun j hj => by cases hj; exact hsz)
         obtain ⟨A2, cap2, rfl, hle2⟩ := own_form hown2 (by omega))
      | (refine step_append_any _ (by rfl) _ _ _ (by rfl) (w.heap.size + 1) 132 i0 (.agg #[.int .i64 0, .int .i64 0]) 2 16 Tryz.underlying50 HIF.out.1 HIF.out.2.1 HIF.out.2.2.1 HIF.out.2.2.2 rfl (by decide) (.slice (some ⟨wz.heap.size + 1, 0, none⟩) 0 0) 0 [] (by rfl) HE.out.2.2.2.2.2.1 ⟨wz.heap.size, 0, none⟩ 1 1 [.int .i64 (z : Int), .int .i64 (k : Int)] (by rfl) rfl (pair_news HE.out.2.2.2.2.2.2.2) (by simp [Value.oneCell']) (by unfold maxLen; omega) (by omega) (by simp; omega) ?_; intro v2 w2 hown2 hg2
         have hX2 : Below (w.heap.size + 1) (w.alloc (.cells #[.int .i64 (z : Int), .int .i64 (k : Int)] 132)) w2 := Below.grown HE.out.2.2.1 hg2 (by simp; omega) (fun j hj => by cases hj; exact Nat.le_succ_of_le hsz)
         obtain ⟨A2, cap2, rfl, hle2⟩ := own_form hown2 (by omega))
      | (refine step_append_nil _ (by rfl) _ _ (by rfl) A2 (0 + 1) cap2 hle2 (by rfl) (by rfl) ?_))
  all_goals
    have hsl : Hid (Slc w2 w.heap.size (.slice (some A2) (0 + 1) cap2) ([].take 0 ++ (p, k) :: [].drop 0)) := put_slc (L := []) (t := 0) HZ.out (Nat.le_refl _) (by simpa [bcells] using hown2)
    have hXw := HN.out.1 _ hX2
    clear hown2 hg2
    go_wp2_with fail
    go_ret
    exact ⟨_, 0, rfl, ⟨Nat.le_refl _, fun j q k' _ hx => by simp at hx, .inl rfl⟩, hsl.out, hXw⟩

theorem put_any (w : World) (L : List (Nat × Nat)) (b p k : Nat) (v : Value) (hR : Slc w b v L) (hl : L.length ≤ 100000000) (hp : p ≤ 1048576) (hk : k ≤ 20) :
    Calls Tryz.prog 88 #[v, .agg #[.int .i64 ((p * 1024 : Nat) : Int), .int .i64 (k : Int)]] w (PutPost L p k w) := by
  obtain ⟨a, c, rfl, hr, h1, h2, h3⟩ := hR
  rcases h3 with ⟨rfl, h4, rfl⟩ | ⟨g, rfl⟩
  · obtain rfl := List.eq_nil_of_length_eq_zero h4
    exact put_none w p k
  · exact put_some w L b c g p k hr hl h1 h2 hp hk
end Go.Proofs.YtdmnemgooagehaaGreatDoor
