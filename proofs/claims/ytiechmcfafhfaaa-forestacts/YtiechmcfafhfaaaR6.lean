/- The document's forest: the contracts of drop, Cut and Remove. -/
import Derived.Test.YtiechmcfafhfaaaR5
import Derived.BigRegion
import Derived.Deep.RegionLaw
import Derived.Laws.Rows
namespace Go.Proofs.Ytiechmcfafhfaaa
open Go.RowKit Go.Maps Go.Shelf

section
variable {w w' : World} {r : Nat} {v : Value} {last : Nat} {L : List Nd} {e : Nd}
theorem Rf.tail {g off cap : Nat} (h : Rf w r (.slice (some ⟨g, off, none⟩) L.length cap) last L) {k : Nat} (hk : k + 1 ≤ L.length) (o' c' : Nat) (ho : cap ≠ k + 1 → o' = off + (k + 1) * 4) (hc' : c' = cap - (k + 1)) :
    OR w (r + 1) 4 (.slice (some ⟨g, o', none⟩) (L.length - (k + 1)) c') (L.length - (k + 1)) (rflat (L.drop (k + 1))) := by
  subst hc'
  have := OR.from h.row (k := k + 1) hk
  rw [rflat_drop] at this
  have hcap := h.row.cap
  by_cases hc : cap = k + 1
  · rcases this.form with ⟨e, _⟩ | ⟨g', off', cap', e, hb, hl, hn, hm, hr, hx⟩
    · cases e
    · obtain ⟨⟨rfl, _⟩, rfl⟩ : (g = g' ∧ _ = off') ∧ cap - (k + 1) = cap' := by simpa using e
      refine ⟨this.len, .inr ⟨g, o', cap - (k + 1), rfl, hb, hl, by omega, by omega, fun j hj => ?_, fun j u hu => ?_⟩⟩
      · rw [hc] at hj; simp at hj
      · rw [List.drop_eq_nil_of_le (by omega)] at hu
        cases hu
  · rw [if_neg (by omega)] at this
    rw [ho hc]; exact this
theorem Rf.head {g off cap : Nat} (h : Rf w r (.slice (some ⟨g, off, none⟩) L.length cap) last L) {k : Nat} (hk : k ≤ L.length) : OR w (r + 1) 4 (.slice (some ⟨g, off, none⟩) k cap) k (rflat (L.take k)) := by
  have := h.row.cut hk
  rw [rflat_take] at this
  exact this
theorem _root_.Go.Proofs.Ytiechmcfafhfaaa.OR.capm {g off n base size : Nat} {cap : Nat} {xs : List Value} (h : OR w base size (.slice (some ⟨g, off, none⟩) n cap) n xs) : cap ≤ 9223372036854775807 := by
  rcases h.form with ⟨e, _⟩ | ⟨g', off', cap', e, hb, hl, hn, hm, hr, hx⟩
  · cases e
  · obtain ⟨_, rfl⟩ : (g = g' ∧ off = off') ∧ cap = cap' := by simpa using e
    unfold maxLen at hm; omega
theorem or_lit (w : World) : OR (w.alloc (.cells #[] 53)) w.heap.size 4 (.slice (some ⟨w.heap.size, 0, none⟩) 0 0) 0 (rflat []) :=
  ⟨rfl, .inr ⟨w.heap.size, 0, 0, rfl, Nat.le_refl _, by simp, Nat.le_refl _, by unfold maxLen; omega, fun j hj => by simp at hj, fun j u hu => by cases hu⟩⟩
/-- Nodes are appended, at a step of a region that draws: to a row that was made behind a world. -/
theorem step_nodesB {w0 : World} (w : World) {ops : Array Oper} {o : Oper} {a : Act} {K : Act → World → Prop} {Q : Exit → Act → World → Prop} {E : Prop} (hgd : o.guard = none) (s x : Operand)
    (ho : o.op = .call { callee := .builtin .append, args := #[s, x], argTypes := #[40, 40] }) (hty : o.type = 40) {v : Value} {a2 : Option Addr} {cap2 : Nat} (hs : a.eval s = v) (xs ys : List Nd) {n m : Nat} (hx : a.eval x = .slice a2 m cap2) (hn : xs.length = n) (hm : ys.length = m)
    {base base2 : Nat} (h : OR w base 4 v n (rflat xs)) (h2 : OR w base2 4 (.slice a2 m cap2) m (rflat ys)) (hl : n + m ≤ 1000000) (hB : Below base w0 w) (hb : base ≤ w.heap.size)
    (k : ∀ a3 cap3 w', OR w' base 4 (.slice a3 (n + m) cap3) (n + m) (rflat (xs ++ ys)) → Below base w0 w' → K (a.put o.dst (.slice a3 (n + m) cap3)) w') :
    if Region.wanted o (yielded ops a.tmps) = true then Oper.wp Try.prog o a w K Q else E :=
  step_nodes w hgd s x ho hty hs xs ys hx hn hm h h2 hl hb (fun a3 cap3 w' ho3 hg _ => k a3 cap3 w' ho3 (hB.grown hg hb (fun k e => (h.own k e).1)))
theorem size44 : (Try.prog.info? 44).map (·.size) = some 2 := by kernel_rfl
theorem drop_end {W w3 : World} {a4 : Option Addr} {n4 cap4 : Nat} {R : List Nd} {sp sl : Int} (h : Rf w r v last L) (hBW : Below w.heap.size w W) (hsz : W.heap.size = w.heap.size + 2)
    (h0 : W.heap[w.heap.size]? = some (.cells #[.int .i64 0, .int .i64 0] 44)) (h1 : W.heap[w.heap.size + 1]? = some (.cells #[.int .i64 sp, .int .i64 sl] 44)) (hb : Below W.heap.size W w3) (ho : OR w3 W.heap.size 4 (.slice a4 n4 cap4) n4 (rflat R)) (hn : n4 = R.length) :
    (w3.setCell ⟨r, 0, none⟩ (.slice a4 n4 cap4)).cell? ⟨w.heap.size + 1, 0, none⟩ = some (.int .i64 sp) ∧ (w3.setCell ⟨r, 0, none⟩ (.slice a4 n4 cap4)).cell? ⟨w.heap.size + 1, 1, none⟩ = some (.int .i64 sl) ∧
    ((w3.setCell ⟨r, 0, none⟩ (.slice a4 n4 cap4)).cell? ⟨w.heap.size, 0, none⟩ = some (.int .i64 0) ∧ (w3.setCell ⟨r, 0, none⟩ (.slice a4 n4 cap4)).frozen? ⟨w.heap.size, 0, none⟩ = false ∧ ((w3.setCell ⟨r, 0, none⟩ (.slice a4 n4 cap4)).setCell ⟨w.heap.size, 0, none⟩ (.int .i64 sp)).cell? ⟨w.heap.size, 1, none⟩ = some (.int .i64 0) ∧ ((w3.setCell ⟨r, 0, none⟩ (.slice a4 n4 cap4)).setCell ⟨w.heap.size, 0, none⟩ (.int .i64 sp)).frozen? ⟨w.heap.size, 1, none⟩ = false ∧ (((w3.setCell ⟨r, 0, none⟩ (.slice a4 n4 cap4)).setCell ⟨w.heap.size, 0, none⟩ (.int .i64 sp)).setCell ⟨w.heap.size, 1, none⟩ (.int .i64 sl)).heap[w.heap.size]? = some (.cells #[.int .i64 sp, .int .i64 sl] 44)) ∧
    Rf (((w3.setCell ⟨r, 0, none⟩ (.slice a4 n4 cap4)).setCell ⟨w.heap.size, 0, none⟩ (.int .i64 sp)).setCell ⟨w.heap.size, 1, none⟩ (.int .i64 sl)) r (.slice a4 n4 cap4) last R ∧
    Tr (ROwn r v) (ROwn r (.slice a4 n4 cap4)) w (((w3.setCell ⟨r, 0, none⟩ (.slice a4 n4 cap4)).setCell ⟨w.heap.size, 0, none⟩ (.int .i64 sp)).setCell ⟨w.heap.size, 1, none⟩ (.int .i64 sl)) := by
  have hr := lt_of h.hd
  have g1 : (w3.setCell ⟨r, 0, none⟩ (.slice a4 n4 cap4)).heap[w.heap.size + 1]? = some (.cells #[.int .i64 sp, .int .i64 sl] 44) := by
    rw [Below.heap_setCell _ _ _ _ (by show w.heap.size + 1 ≠ r; omega), hb.block _ (by omega)]; exact h1
  have g0 : (w3.setCell ⟨r, 0, none⟩ (.slice a4 n4 cap4)).heap[w.heap.size]? = some (.cells #[.int .i64 0, .int .i64 0] 44) := by
    rw [Below.heap_setCell _ _ _ _ (by show w.heap.size ≠ r; omega), hb.block _ (by omega)]; exact h0
  have hB3 : Below w.heap.size w w3 := hBW.trans (hb.mono (by omega))
  obtain ⟨k1, k2⟩ := Rf.put (R := R) h (Turn.of_below hB3) (by rw [← hn]; exact OR.base ho (by omega)) (fun k e => .inr (by have := (ho.own k e).1; omega))
  have g2 := setCell_head (j := 0) g0 (.int .i64 sp)
  have g3 := setCell_head (j := 1) g2 (.int .i64 sl)
  refine ⟨by rw [cell_of_row _ _ _ _ _ _ g1]; rfl, by rw [cell_of_row _ _ _ _ _ _ g1]; rfl, ⟨by rw [cell_of_row _ _ _ _ _ _ g0]; rfl, frozen_of_row _ _ _ _ _ g0, by rw [cell_of_row _ _ _ _ _ _ g2]; rfl, frozen_of_row _ _ _ _ _ g2, g3⟩, ?_, ?_⟩
  · refine k1.same (by simp) (fun k hk => ?_)
    have hne : k ≠ w.heap.size := by
      rcases hk with rfl | hk
      · omega
      · have := (ho.own k hk).1; omega
    rw [Below.heap_setCell _ _ _ _ hne, Below.heap_setCell _ _ _ _ hne]
  · exact ⟨(k2.turn.but (But.setCell (But.refl w.heap.size _) (.inl rfl) _) (.inr (Nat.le_refl _))).but (But.setCell (But.refl w.heap.size _) (.inl rfl) _) (.inr (Nat.le_refl _)), k2.own⟩
set_option maxRecDepth 100000 in
set_option maxHeartbeats 2000000 in
theorem drop_any (h : Rf w r v last L) (hids : L.Pairwise (fun a b => a.id ≠ b.id)) (hl : L.length ≤ 400) (he : e ∈ L) :
    Calls Try.prog 38 #[ptr r, .int .i64 (e.id : Int)] w fun en w' => en = .returned (spot e.sp e.sl) ∧ ∃ v', Rf w' r v' last (less L [e.id]) ∧ Tr (ROwn r v) (ROwn r v') w w' := by
  obtain ⟨k, hk, hkl, hno⟩ := at_there hids he
  have hat := atI_hit hk rfl hno
  have hres := take_drop_less hids hk
  obtain ⟨g, off, cap, rfl, _, _, c2, c3⟩ := h.at hk
  have hcap := h.row.cap
  have hgl : g < w.heap.size := (h.row.own g rfl).2
  have HA := hid (fun (wx : World) (hx : Below w.heap.size w wx) => at_any (h.below hx (Nat.le_refl _)) hl (e.id : Int))
  rw [hat] at HA
  have HQ := hid h
  have hk0 : (0 : Int) ≤ (k : Int) := by omega
  have hk1 : (k : Int) < (L.length : Int) := by omega
  have hk2 : (k : Int) ≤ (cap : Int) := by omega
  have hk3 : (k : Int) + 1 ≤ (L.length : Int) := by omega
  have hk4 : (0 : Int) ≤ (k : Int) + 1 := by omega
  have hk5 : (L.length : Int) ≤ (cap : Int) := by omega
  have hk6 : (k : Int) + 1 ≤ (cap : Int) := by omega
  have hcm := h.row.capm
  have hwi : IntKind.i64.wrap ((k : Int) + 1) = (k : Int) + 1 := by rw [IntKind.wrap_i64]; omega
  have c3' : w.cell? ⟨g, off + k * 4 + 2 + 1, none⟩ = some (.int .i64 e.sl) := c3
  have HB := hid (fun (wx : World) (hx : Below w.heap.size w wx) => show wx.cell? ⟨g, off + k * 4 + 2, none⟩ = some (.int .i64 e.sp) ∧ wx.cell? ⟨g, off + k * 4 + 2 + 1, none⟩ = some (.int .i64 e.sl) ∧ wx.cell? ⟨r, 0, none⟩ = some (.slice (some ⟨g, off, none⟩) L.length cap) from
    ⟨(hx.cell (p := ⟨g, off + k * 4 + 2, none⟩) hgl).trans c2, (hx.cell (p := ⟨g, off + k * 4 + 2 + 1, none⟩) hgl).trans c3', (h.below hx (Nat.le_refl _)).c0⟩)
  have HD := hid (show Below w.heap.size w (w.alloc (.cells #[.int .i64 0, .int .i64 0] 44)) from (Below.refl _ _).alloc (Nat.le_refl _) _)
  obtain ⟨b0, b1, b2⟩ := HB.out _ HD.out
  clear h hk hno hat c2 c3 c3'
  go_enter Try.func38, Try.ntmps38
  go_wp2_with (go_at_call 37; refine (HA.out _ HD.out).mono ?_; rintro en w1 ⟨rfl, rfl⟩)
  obtain ⟨W, hW⟩ : ∃ W, W = ((w.alloc (.cells #[.int .i64 0, .int .i64 0] 44)).alloc (.cells #[.int .i64 e.sp, .int .i64 e.sl] 44)) := ⟨_, rfl⟩
  rw [← hW]
  have hBW : Below w.heap.size w W := by rw [hW]; exact HD.out.alloc (by simp) _
  have hsz : W.heap.size = w.heap.size + 2 := by rw [hW]; simp
  have hR1 : W.heap[w.heap.size + 1]? = some (.cells #[.int .i64 e.sp, .int .i64 e.sl] 44) := by
    have := heap_alloc_new (w.alloc (.cells #[.int .i64 0, .int .i64 0] 44)) (.cells #[.int .i64 e.sp, .int .i64 e.sl] 44)
    rw [hW]; simpa using this
  have hR0 : W.heap[w.heap.size]? = some (.cells #[.int .i64 0, .int .i64 0] 44) := by
    rw [hW, Below.heap_alloc _ _ _ (by simp)]; exact heap_alloc_new _ _
  have hRW := HQ.out.below hBW (Nat.le_refl _)
  have HX := hid (fun (wx : World) (hx : Below W.heap.size W wx) => have hr := hRW.below hx (Nat.le_refl _); And.intro (hr.head (k := k) (by omega)) (And.intro (hr.tail (k := k) (by omega)) (And.intro hr.c0 (frozen_of_row wx r 0 _ _ hr.hd))))
  have HZ := hid (And.intro hBW (And.intro hsz (And.intro hR0 (And.intro hR1 hRW))))
  have hlt1 : (L.take k).length = k := by rw [List.length_take]; omega
  have hlt2 : (L.drop (k + 1)).length = L.length - (k + 1) := by rw [List.length_drop]
  have HLT := hid (And.intro hlt1 hlt2)
  have HO := hid (or_lit W)
  obtain ⟨_, _, d0, d1⟩ := HX.out W (Below.refl _ _)
  have HBA : Hid (Below W.heap.size W (W.alloc (.cells #[] 53))) := hid ((Below.refl _ W).alloc (Nat.le_refl _) _)
  obtain ⟨_, _, d2, d3⟩ := HX.out _ HBA.out
  clear hlt1 hlt2 hRW hR0 hR1 hBW hsz hW b0 b1 b2
  have hkl2 : 0 + k ≤ 1000000 := by omega
  have hkl3 : k + (L.length - (k + 1)) ≤ 1000000 := by omega
  have HT0 := hid (fun (wx : World) (hx : Below W.heap.size W wx) => show OR wx (r + 1) 4 (.slice (some ⟨g, off, none⟩) 0 0) 0 (rflat []) from ⟨rfl, .inr ⟨g, off, 0, rfl, (HQ.out.row.own g rfl).1, by have := hx.size; have := HZ.out.1.size; omega, Nat.le_refl _, by unfold maxLen; omega, fun j hj => by simp at hj, fun j u hu => by cases hu⟩⟩)
  have HRS := hid hres
  clear hres
  by_cases hce : cap = k + 1
  · subst hce
    have hL : L.length = k + 1 := by omega
    have hd0 : L.drop (k + 1) = [] := List.drop_eq_nil_of_le (by omega)
    rw [hd0] at HRS
    have hkk : (k : Int) ≤ (k : Int) + 1 := by omega
    have hkk2 : k ≤ k + 1 := by omega
    have hkl4 : k + 0 ≤ 1000000 := by omega
    have HL := hid hL
    clear hL hd0
    go_region_law (first
      | (refine step_nodesB _ rfl _ _ rfl rfl rfl [] (L.take k) rfl (rfl : ([] : List Nd).length = 0) HLT.out.1 (by exact HO.out.drew) (HX.out _ (by exact HBA.out.drew)).1 hkl2 (by exact HBA.out.drew) (by exact HBA.out.size) ?_; intro a3 cap3 w2 ho2 hb2; simp only [List.length_nil, Nat.zero_add, List.nil_append] at ho2; obtain ⟨_, _, e0, e1⟩ := HX.out w2 hb2)
      | (refine step_nodesB _ rfl _ _ rfl rfl rfl (L.take k) [] rfl HLT.out.1 (rfl : ([] : List Nd).length = 0) (by exact ho2) (HT0.out _ (by exact hb2)) hkl4 (by exact hb2) (by exact hb2.size) ?_; intro a4 cap4 w3 ho3 hb3; obtain ⟨_, _, f0, f1⟩ := HX.out w3 hb3))
    all_goals
      simp only [Nat.add_zero] at ho3
      obtain ⟨y0, y1, ⟨z0, z1, z2, z3, z4⟩, y3, y4⟩ := drop_end (R := L.take k ++ []) HQ.out HZ.out.1 HZ.out.2.1 HZ.out.2.2.1 HZ.out.2.2.2.1 hb3 (by exact ho3) (by rw [List.length_append, HLT.out.1]; rfl)
      rw [HRS.out] at y3
      have HEND := hid (And.intro y3 y4)
      have HROW := hid z4
      clear y3 y4 z4 ho3 hb3 ho2 hb2
      go_wp2_with fail
      (try simp only [Exit.inBlock, Exit.then])
      refine bodyPost_ret (v := spot e.sp e.sl) (results_cell_row rfl _ _ w.heap.size 44 _ _ _ rfl HROW.out Try.underlying44 rfl size44) rfl ?_
      exact ⟨rfl, _, HEND.out.1, HEND.out.2⟩
  · go_region_law (first
      | (refine step_nodesB _ rfl _ _ rfl rfl rfl [] (L.take k) rfl (rfl : ([] : List Nd).length = 0) HLT.out.1 (by exact HO.out.drew) (HX.out _ (by exact HBA.out.drew)).1 hkl2 (by exact HBA.out.drew) (by exact HBA.out.size) ?_; intro a3 cap3 w2 ho2 hb2; simp only [List.length_nil, Nat.zero_add, List.nil_append] at ho2; obtain ⟨_, _, e0, e1⟩ := HX.out w2 hb2)
      | (refine step_nodesB _ rfl _ _ rfl rfl rfl (L.take k) (L.drop (k + 1)) rfl HLT.out.1 HLT.out.2 (by exact ho2) ((HX.out _ (by exact hb2)).2.1 _ _ (by omega) (by omega)) hkl3 (by exact hb2) (by exact hb2.size) ?_; intro a4 cap4 w3 ho3 hb3; obtain ⟨_, _, f0, f1⟩ := HX.out w3 hb3))
    all_goals
      obtain ⟨y0, y1, ⟨z0, z1, z2, z3, z4⟩, y3, y4⟩ := drop_end (R := L.take k ++ L.drop (k + 1)) HQ.out HZ.out.1 HZ.out.2.1 HZ.out.2.2.1 HZ.out.2.2.2.1 hb3 (by exact ho3) (by rw [List.length_append, HLT.out.1, HLT.out.2])
      rw [HRS.out] at y3
      have HEND := hid (And.intro y3 y4)
      have HROW := hid z4
      clear y3 y4 z4 ho3 hb3 ho2 hb2
      go_wp2_with fail
      (try simp only [Exit.inBlock, Exit.then])
      refine bodyPost_ret (v := spot e.sp e.sl) (results_cell_row rfl _ _ w.heap.size 44 _ _ _ rfl HROW.out Try.underlying44 rfl size44) rfl ?_
      exact ⟨rfl, _, HEND.out.1, HEND.out.2⟩
end
end Go.Proofs.Ytiechmcfafhfaaa
