/- The document's Carve. -/
import Derived.Test.YtdmnemgooagehaaGreatDoorQuR
import Derived.Deep.RegionLaw
namespace Go.Proofs.YtdmnemgooagehaaGreatDoor.Qu
open Go.RowKit

theorem info46 : (Tryz.prog.info? 168).map (fun i => (i.zero, i.size, i.bytes)) = some (some (.agg #[.int .i64 0, .int .i64 0, .int .i64 0, .int .i64 0]), 4, 32) := by kernel_rfl
theorem rcells_one : ∀ (l : List Fac), ∀ u ∈ rcells l, u.oneCell' = true := by
  intro l u hu
  unfold rcells at hu
  obtain ⟨f, _, hu⟩ := List.mem_flatMap.1 hu
  unfold fcells at hu
  simp at hu
  rcases hu with rfl | rfl | rfl | rfl <;> rfl
/-- An append of a slice of factories, at a step of a region that draws. -/
theorem step_app {ops : Array Oper} {o : Oper} {a : Act} {K : Act → World → Prop} {Q : Exit → Act → World → Prop} {E : Prop} (w0 wx : World) (hgd : o.guard = none) (s x : Operand)
    (ho : o.op = .call { callee := .builtin .append, args := #[s, x], argTypes := #[164, 164] }) (v : Value) (l m : List Fac) (ad : Addr) (c : Nat) (hs : a.eval s = v) (hx : a.eval x = .slice (some ad) m.length c)
    (hown : wx.ownsRow w0.heap.size 168 4 v l.length (rcells l)) (hnews : ∀ j u, (rcells m)[j]? = some u → wx.cell? (ad.add j) = some u) (hb : Below w0.heap.size w0 wx) (h1 : l.length + m.length ≤ 100) (h0 : 0 < l.length + m.length)
    (h : ∀ g' cap' w', w'.ownsRow w0.heap.size 168 4 (.slice (some ⟨g', 0, none⟩) (l.length + m.length) cap') (l ++ m).length (rcells (l ++ m)) → Below w0.heap.size w0 w' → wx.grownBy w' v.ownBlock → K (a.put o.dst (.slice (some ⟨g', 0, none⟩) (l.length + m.length) cap')) w') :
    if Region.wanted o (yielded ops a.tmps) = true then Oper.wp Tryz.prog o a wx K Q else E := by
  have hw : Region.wanted o (yielded ops a.tmps) = true := by simp [Region.wanted, hgd]
  rw [if_pos hw]
  obtain ⟨i0, hi0, hz0, hz1, hz2⟩ := info_parts info46
  refine wp_append_own wx s x 164 ho w0.heap.size 168 i0 (.agg #[.int .i64 0, .int .i64 0, .int .i64 0, .int .i64 0]) 4 32 Tryz.underlying164 hi0 hz0 hz1 hz2 rfl (by decide) v l.length (rcells l) hs hown ad m.length c (rcells m) hx (by rw [rcells_len]) hnews (rcells_one m) (by unfold maxLen; omega) (by omega) hb.size ?_
  intro v' w' h2 h3 _
  have h4 := h2
  rcases h4.2 with ⟨_, e0⟩ | ⟨g', cap', cur, rfl, _⟩
  · omega
  · refine h g' cap' w' ?_ (Below.grown hb h3 hb.size (fun r hr => (own_block hown r hr).1)) h3
    rw [rcells_append, List.length_append]; exact h2
theorem news_one {wx : World} {b : Nat} {x : Fac} (h : wx.heap[b]? = some (.cells #[.int .i64 (x.id : Int), .int .i64 x.par, .int .i64 (x.lim : Int), .int .i64 (x.chg : Int)] 168)) : ∀ j u, (rcells [x])[j]? = some u → wx.cell? ((⟨b, 0, none⟩ : Addr).add j) = some u := by
  intro j u hj
  rw [addr_add, Nat.zero_add, cell_of_row _ _ _ _ _ _ h, ← hj]
  match j with
  | 0 | 1 | 2 | 3 => rfl
  | (n + 4) => rfl

section
variable {w : World} {q g cap nxt : Nat} {l : List Fac}
theorem Rm.news (h : Rm w q g cap l nxt) {wx : World} (hb : Below w.heap.size w wx) : ∀ j u, (rcells l)[j]? = some u → wx.cell? ((⟨g, 0, none⟩ : Addr).add j) = some u := by
  intro j u hj
  obtain ⟨cur, h1, h2, h3, h4, h5⟩ := (h.below hb).body
  rw [addr_add, Nat.zero_add, cell_of_row _ _ _ _ _ _ h1]
  have hlt : j < l.length * 4 := by rw [← rcells_len]; exact (List.getElem?_eq_some_iff.1 hj).1
  rw [← h5, List.getElem?_take_of_lt hlt, Array.getElem?_toList] at hj
  exact hj
/-- The new row in the tree's field, and the next number. -/
theorem Rm.put (h : Rm w q g cap l nxt) {w' : World} {l' : List Fac} {n g' cap' : Nat} (hb : Below w.heap.size w w') (hr : w'.ownsRow w.heap.size 168 4 (.slice (some ⟨g', 0, none⟩) n cap') l'.length (rcells l')) : w.heap.size ≤ g' ∧ Rm (w'.setCell ⟨q, 0, none⟩ (.slice (some ⟨g', 0, none⟩) n cap')) q g' cap' l' nxt := by
  rcases hr.2 with ⟨e, _⟩ | ⟨g2, cap2, cur, e, hg, h1, h2, h3, h4, h5⟩
  · cases e
  obtain ⟨rfl, rfl, rfl⟩ : g' = g2 ∧ n = l'.length ∧ cap' = cap2 := by simpa using e
  refine ⟨hg, ?_, ?_, ?_⟩
  · rw [setCell_head ((hb.block q h.lq).trans h.head)]; rfl
  · exact ⟨hr.1, .inr ⟨g', cap', cur, rfl, Nat.zero_le _, by rw [Below.heap_setCell _ _ _ _ (by have := h.lq; show g' ≠ q; omega)]; exact h1, h2, h3, h4, h5⟩⟩
  · have := h.lq; omega
theorem Rm.next (h : Rm w q g cap l nxt) : Rm (w.setCell ⟨q, 1, none⟩ (.int .i64 ((nxt + 1 : Nat) : Int))) q g cap l (nxt + 1) := by
  refine ⟨?_, h.row.other (fun x hx => ?_), h.ne⟩
  · rw [setCell_head h.head]; rfl
  · obtain rfl : g = x := by simpa [Value.ownBlock] using hx
    exact Below.heap_setCell _ _ _ _ h.ne

def RCPost (w : World) (q g : Nat) (r : Int × Int × List Fac × Nat) (e : Ending) (w' : World) : Prop := RPost w q g (.tuple #[.int .i64 r.1, .int .i64 r.2.1]) r.2.2.1 r.2.2.2 e w'
set_option maxRecDepth 100000 in
set_option maxHeartbeats 4000000 in
theorem rcarve_any {N : Nat} (h : Rm w q g cap l nxt) (hI : Inv N l nxt) (hnx : nxt ≤ 1073741824) (i n : Int) : Calls Tryz.prog 45 #[.pointer (some ⟨q, 0, none⟩), .int .i64 i, .int .i64 n] w (RCPost w q g (carveA l nxt i n)) := by
  have hl := hI.few
  cases hi : the l i with
  | none =>
    rw [show carveA l nxt i n = (0, 6, l, nxt) from by unfold carveA; rw [hi]]
    have HF := hid (rat_none h hl i hi)
    have HP := hid (RPost.same (er := .tuple #[.int .i64 0, .int .i64 6]) h 0)
    clear h hi hI hl
    go_enter Tryz.func45, Tryz.ntmps45
    go_wp2_with (go_at_call 107; refine HF.out.mono ?_; rintro e w' ⟨rfl, rfl⟩)
    go_ret2
    exact HP.out
  | some f =>
    obtain ⟨k, hk, hkl, hidn, hno⟩ := the_at hi
    have HF := hid (rat_some h hl i f k hk hidn hno)
    have hk0 : ¬ ((k : Int) < 0) := by omega
    by_cases hn : n < 0
    · rw [show carveA l nxt i n = (0, 1, l, nxt) from by unfold carveA; rw [hi]; simp [hn]]
      have HP := hid (RPost.same (er := .tuple #[.int .i64 0, .int .i64 1]) h 0)
      clear h hi hI hl hidn hno hk
      go_enter Tryz.func45, Tryz.ntmps45
      go_wp2_with (go_at_call 107; refine HF.out.mono ?_; rintro e w' ⟨rfl, rfl⟩)
      go_ret2
      exact HP.out
    have HG := rfits_any h hI i n f hi
    by_cases hf : (f.lim : Int) - (useOf l f : Int) < n
    · rw [show carveA l nxt i n = (0, 5, l, nxt) from by unfold carveA; rw [hi]; simp [hn, hf]]
      rw [decide_eq_false (show ¬ n ≤ (f.lim : Int) - (useOf l f : Int) by omega)] at HG
      have HP := hid (fun z => RPost.same (er := .tuple #[.int .i64 0, .int .i64 5]) h z)
      have HG2 := hid HG
      clear h hi hI hl hidn hno hk HG hf
      go_enter Tryz.func45, Tryz.ntmps45
      go_wp2_with (first | (go_at_call 107; refine HF.out.mono ?_; rintro e w' ⟨rfl, rfl⟩) | (go_at_call 108; refine HG2.out.mono ?_; rintro e w' ⟨rfl, z, rfl⟩))
      go_ret2
      exact HP.out z
    · obtain ⟨m, rfl⟩ := Int.eq_ofNat_of_zero_le (show 0 ≤ n by omega)
      rw [decide_eq_true (show (m : Int) ≤ (f.lim : Int) - (useOf l f : Int) by omega)] at HG
      have HG2 := hid HG
      have c0 := h.c0
      have c1 := h.c1
      by_cases hf32 : 32 ≤ l.length
      · rw [show carveA l nxt i (m : Int) = (0, 11, l, nxt) from by unfold carveA; rw [hi]; simp [hn, hf, hf32]]
        have h32 : (32 : Int) ≤ (l.length : Int) := by omega
        have HP := hid (fun z => RPost.same (er := .tuple #[.int .i64 0, .int .i64 11]) h z)
        clear h hi hI hl hidn hno hk HG hf
        go_enter Tryz.func45, Tryz.ntmps45
        go_wp2_with (first | (go_at_call 107; refine HF.out.mono ?_; rintro e w' ⟨rfl, rfl⟩) | (go_at_call 108; refine HG2.out.mono ?_; rintro e w' ⟨rfl, z, rfl⟩))
        go_ret2
        exact HP.out z
      · rw [show carveA l nxt i (m : Int) = ((nxt : Int), 0, l ++ [⟨nxt, i, m, 0⟩], nxt + 1) from by unfold carveA; rw [hi]; simp [hn, hf, hf32]]
        have h32 : ¬ ((32 : Int) ≤ (l.length : Int)) := by omega
        have hql := h.lq
        have HE := hid h
        clear h hi hI hidn hno hk HG hf hf32
        go_enter Tryz.func45, Tryz.ntmps45
        go_wp2_with (first | (go_at_call 107; refine HF.out.mono ?_; rintro e w' ⟨rfl, rfl⟩) | (go_at_call 108; refine HG2.out.mono ?_; rintro e w' ⟨rfl, z, rfl⟩))
        have HD : Hid (Rm (w'.drewN z) q g cap l nxt) := HE.out.drewN z
        have d0 : (w'.drewN z).cell? ⟨q, 0, none⟩ = some (.slice (some ⟨g, 0, none⟩) l.length cap) := HD.out.c0
        have d1 : (w'.drewN z).cell? ⟨q, 1, none⟩ = some (.int .i64 (nxt : Int)) := HD.out.c1
        have dl : q < (w'.drewN z).heap.size := hql
        have HT : Hid (Turn (fun x => x = q ∨ x = g) w' (w'.drewN z) ∧ w'.heap.size ≤ (w'.drewN z).heap.size) := ⟨(Turn.refl _ _).drewN z, Nat.le_refl _⟩
        generalize w'.drewN z = w1 at *
        clear c0 c1 hql
        have HB : Hid (∀ wx : World, Below w1.heap.size w1 wx → wx.cell? ⟨q, 0, none⟩ = some (.slice (some ⟨g, 0, none⟩) l.length cap) ∧ wx.cell? ⟨q, 1, none⟩ = some (.int .i64 (nxt : Int)) ∧ wx.frozen? ⟨q, 0, none⟩ = false ∧ wx.frozen? ⟨q, 1, none⟩ = false) := fun wx hx => ⟨(HD.out.below hx).c0, (HD.out.below hx).c1, frozen_of_row _ _ _ _ _ (HD.out.below hx).head, frozen_of_row _ _ _ _ _ (HD.out.below hx).head⟩
        have hpos : 0 < l.length := by omega
        have HO1 : Hid ((w1.alloc (.cells #[] 168)).ownsRow w1.heap.size 168 4 (.slice (some ⟨w1.heap.size, 0, none⟩) 0 0) 0 []) := World.ownsRow_lit w1 #[] 0 (Nat.le_refl _) (by unfold maxLen; omega) rfl
        have HO3 : Hid (((w1.alloc (.cells #[.int .i64 (nxt : Int), .int .i64 i, .int .i64 (m : Int), .int .i64 0] 168)).alloc (.cells #[] 168)).ownsRow w1.heap.size 168 4 (.slice (some ⟨w1.heap.size + 1, 0, none⟩) 0 0) 0 []) := by
          have := World.ownsRow_lit (w1.alloc (.cells #[.int .i64 (nxt : Int), .int .i64 i, .int .i64 (m : Int), .int .i64 0] 168)) (e := 168) (size := 4) (base := w1.heap.size) #[] 0 (by simp) (by unfold maxLen; omega) rfl
          exact hid (by simpa using this)
        have HX2 : Hid (((w1.alloc (.cells #[] 168)).alloc (.cells #[.int .i64 (nxt : Int), .int .i64 i, .int .i64 (m : Int), .int .i64 0] 168)).heap[w1.heap.size + 1]? = some (.cells #[.int .i64 (nxt : Int), .int .i64 i, .int .i64 (m : Int), .int .i64 0] 168)) := by
          have := heap_alloc_new (w1.alloc (.cells #[] 168)) (.cells #[.int .i64 (nxt : Int), .int .i64 i, .int .i64 (m : Int), .int .i64 0] 168)
          exact hid (by simpa using this)
        have HX3 : Hid (((w1.alloc (.cells #[.int .i64 (nxt : Int), .int .i64 i, .int .i64 (m : Int), .int .i64 0] 168)).alloc (.cells #[] 168)).heap[w1.heap.size]? = some (.cells #[.int .i64 (nxt : Int), .int .i64 i, .int .i64 (m : Int), .int .i64 0] 168)) := by
          rw [Below.heap_alloc _ _ _ (by simp)]
          exact heap_alloc_new _ _
        go_region_law (first
          | (refine step_app w1 _ rfl _ _ rfl _ [] l _ _ rfl rfl (by first | exact HO1.out | exact HO1.out.alloc _ | exact HO3.out) (HD.out.news (by first | exact ((Below.refl _ _).alloc (Nat.le_refl _) _).drew | exact (((Below.refl _ _).alloc (Nat.le_refl _) _).alloc (by simp) _).drew)) (by first | exact ((Below.refl _ _).alloc (Nat.le_refl _) _).drew | exact (((Below.refl _ _).alloc (Nat.le_refl _) _).alloc (by simp) _).drew) (by simp; omega) (by simp; omega) ?_; intro g2 cap2 w2 hown2 hX2 hgr2; simp only [List.length_nil, Nat.zero_add, List.nil_append] at hown2; obtain ⟨e0, e1, e2, e3⟩ := HB.out w2 hX2)
          | (refine step_app w1 _ rfl _ _ rfl _ l [⟨nxt, i, m, 0⟩] _ _ rfl rfl (by first | exact hown2 | exact hown2.alloc _) (news_one (by first | exact heap_alloc_new _ _ | exact (hgr2.block (w1.heap.size + 1) (by simp) (fun e => absurd (Option.some.inj (show some (w1.heap.size + 1) = some w1.heap.size from e)) (by omega))).trans HX2.out | exact (hgr2.block w1.heap.size (by simp; omega) (fun e => absurd (Option.some.inj (show some w1.heap.size = some (w1.heap.size + 1) from e)) (by omega))).trans HX3.out)) (by first | exact hX2 | exact hX2.alloc hX2.size _) (by simp; omega) (by simp) ?_; intro g3 cap3 w3 hown3 hX3 hgr3; obtain ⟨k0, k1, k2, k3⟩ := HB.out w3 hX3))
        all_goals
          obtain ⟨hp1, hp2⟩ := HD.out.put hX3 hown3
          have HPU := hid (And.intro hp1 hp2)
          have HTU : Hid (Turn (fun x => x = q ∨ x = g) w' w3) := HT.out.1.bel hX3
          clear hp1 hp2 hown2 hown3 hgr2 hgr3 HO1 HO3 HX2 HX3
          go_wp2_with fail
          go_ret2
          exact ⟨rfl, ⟨g3, cap3, HPU.out.2.next, .inr (Nat.le_trans HT.out.2 HPU.out.1)⟩, (HTU.out.but (But.setCell (But.refl q _) (.inl rfl) _) (.inl (.inl rfl))).but (But.setCell (But.refl q _) (.inl rfl) _) (.inl (.inl rfl))⟩
end
end Go.Proofs.YtdmnemgooagehaaGreatDoor.Qu
