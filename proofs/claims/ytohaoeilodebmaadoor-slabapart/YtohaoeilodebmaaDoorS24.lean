/- A cache: Used. -/
import Derived.Test.YtohaoeilodebmaaDoorS23
namespace Go.Proofs.YtohaoeilodebmaaDoor
open Go.RowKit Go.Maps Go.Shelf
attribute [local go_sem] Oper.semAt_some

theorem ones_congr {f g : Nat → Bool} {n : Nat} (h : ∀ i, i < n → f i = g i) : ones f n = ones g n := List.filter_congr (fun i hi => h i (List.mem_range.1 hi))
/-- What was collected of the first j slabs. -/
def Gt (U : Pls) (sz m N j : Nat) : List Nat := ((pagesOf U m N).take j).flatMap fun p => (ones (U p) m).map (place sz p)
theorem Gt_next {U : Pls} {sz m N j q : Nat} (h : (pagesOf U m N)[j]? = some q) : Gt U sz m N (j + 1) = Gt U sz m N j ++ (ones (U q) m).map (place sz q) := by
  obtain ⟨hj, rfl⟩ := List.getElem?_eq_some_iff.1 h
  unfold Gt
  rw [List.take_succ_eq_append_getElem hj, List.flatMap_append]
  simp
theorem Gt_all (U : Pls) (sz m N : Nat) : Gt U sz m N (pagesOf U m N).length = usedOf U sz m N := by
  unfold Gt usedOf
  rw [List.take_of_length_le (Nat.le_refl _)]
theorem pagesOf_len (U : Pls) (m N : Nat) : (pagesOf U m N).length ≤ N := by
  unfold pagesOf
  rw [ones_len]
  exact cnt_le _ _
theorem Gt_len (U : Pls) (sz m N : Nat) : ∀ j, (Gt U sz m N j).length ≤ j * m
  | 0 => by simp [Gt]
  | j + 1 => by
    have ih := Gt_len U sz m N j
    cases h : (pagesOf U m N)[j]? with
    | none =>
      have hl : (pagesOf U m N).length ≤ j := by simpa using h
      have e : Gt U sz m N (j + 1) = Gt U sz m N j := by
        unfold Gt
        rw [List.take_of_length_le (by omega), List.take_of_length_le hl]
      rw [e, Nat.add_mul]; omega
    | some q =>
      rw [Gt_next h, List.length_append, List.length_map, ones_len, Nat.add_mul]
      have := cnt_le (U q) m
      omega
theorem slabs_get {U : Pls} {m N j q : Nat} (h : (pagesOf U m N)[j]? = some q) : (slabsOf U m N)[j]? = some (q * 1024) := by
  unfold slabsOf
  rw [List.getElem?_map, h]
  rfl

def nodef (o : Oper) : Bool := match o.op with | .defer _ => false | _ => true
theorem nodef_of {ops : Array Oper} (h : ops.toList.all nodef = true) : ∀ (i : Nat) (o : Oper), ops[i]? = some o → ∀ c, o.op ≠ Op.defer c := fun i o ho c e => by
  have hm : o ∈ ops.toList := by rw [Array.mem_toList_iff]; exact Array.mem_of_getElem? ho
  have := List.all_eq_true.1 h o hm
  unfold nodef at this
  rw [e] at this
  cases this

/-- An append whose run is known, at a step of a region that draws. -/
theorem step_append_run {P : Program} (w w' : World) (v' : Value) {ops : Array Oper} {o : Oper} {a : Act} {K : Act → World → Prop} {Q : Exit → Act → World → Prop} {E : Prop} (hgd : o.guard = none) (s x : Operand) (t : TypeId)
    (ho : o.op = .call { callee := .builtin .append, args := #[s, x], argTypes := #[t, t] }) (v y : Value) (hs : a.eval s = v) (hx : a.eval x = y) (hr : (Builtin.append_ #[t, t] o.type #[v, y]).run P w = .ok v' w') (h : K (a.put o.dst v') w') :
    if Region.wanted o (yielded ops a.tmps) = true then Oper.wp P o a w K Q else E := by
  have hw : Region.wanted o (yielded ops a.tmps) = true := by simp [Region.wanted, hgd]
  rw [if_pos hw]
  unfold Oper.wp
  simp [execOp, ho, resolve, invoke, builtin, hs, hx, hr, Result.andThen]
  exact h

/-- The marks that stand. -/
def Mk (Ds : List Nat) (n1 : Nat) (W : World) : Prop := Ds.Nodup ∧ ∀ D, D ∈ Ds → n1 ≤ D ∧ W.heap[D]? = some (.deferred (some []))
/-- What is collected, beside a block ba that isn't its own. -/
def Col (w1 : World) (bl ba : Nat) (y : Int) (Ds : List Nat) (l : List Nat) (W : World) : Prop :=
  Turn (fun x => x = bl) w1 W ∧ Mk Ds w1.heap.size W ∧ ba + 1 < W.heap.size ∧ Boxed W ba 3 (.int .i64 y) ∧ ∃ v, Boxed W bl 52 v ∧ W.ownsRow w1.heap.size 3 1 v l.length (nums l) ∧ ∀ x, v.ownBlock = some x → x ≠ ba ∧ x ≠ ba + 1
theorem infoI : (Tryd.prog.info? 3).map (fun i => (i.zero, i.size, i.bytes)) = some (some (.int .i64 0), 1, 8) := by kernel_rfl
theorem turn_ownFrom {β : Type} (w1 : World) (bl B : Nat) (hB : w1.heap.size ≤ B) : OwnFrom (β := β) B (fun _ W => Turn (fun x => x = bl) w1 W) := fun _ _ _ row hs hg hr =>
  hs.next (Turn.of_grown (S := fun x => row = some x) hg (fun _ e => .inl e)) (fun x e => .inr (Nat.le_trans hB (hr x e).1))
theorem mk_ownFrom {β : Type} (Ds : List Nat) (n1 B : Nat) (hB : ∀ D, D ∈ Ds → D < B) : OwnFrom (β := β) B (fun _ W => Mk Ds n1 W) := fun _ _ _ _ hs hg hr =>
  ⟨hs.1, fun D hD => ⟨(hs.2 D hD).1, (hg.block D (Array.getElem?_eq_some_iff.1 (hs.2 D hD).2).1 (fun e => by have := (hr D e.symm).1; have := hB D hD; omega)).trans (hs.2 D hD).2⟩⟩
theorem col_ownFrom (w1 : World) (bl ba : Nat) (y : Int) (Ds : List Nat) (f : List (Fin 1024) → List Nat) (B : Nat) (hB : w1.heap.size ≤ B) (hD : ∀ D, D ∈ Ds → D < B) : OwnFrom B (fun pre W => Col w1 bl ba y Ds (f pre) W) :=
  OwnFrom.and (turn_ownFrom w1 bl B hB) (OwnFrom.and (mk_ownFrom Ds w1.heap.size B hD) (OwnFrom.and (fun _ _ _ _ hs hg _ => Nat.lt_of_lt_of_le hs hg.size) (OwnFrom.and (fun _ W _ _ hs hg hr => hs.kept hg (fun e => by
    obtain ⟨_, o, ho, hc⟩ := hr ba e.symm
    rw [show W.heap[ba]? = _ from hs] at ho
    cases ho
    cases hc)) (Own.from (holdsRow_own w1.heap.size bl 52 3 1 (fun pre => (f pre).length) (fun pre => nums (f pre)) (fun _ v => ∀ x, v.ownBlock = some x → x ≠ ba ∧ x ≠ ba + 1)) B))))

set_option maxRecDepth 100000 in
set_option maxHeartbeats 2000000 in
theorem sused_any {w : World} {Z : Nat → Prop} {c p sz m ct : Nat} {U : Pls} {B : St} {N : Nat} (h : Sl w Z c p sz m ct U) (hF : Fit B U m N) (hT : Tab w) (hct : ct ≤ 1000000) (hN : N ≤ 1048576) (hz1 : 16 ≤ sz) (hz2 : sz ≤ 512) (hm : m = 960 / sz) :
    Calls Tryd.prog 25 #[.pointer (some ⟨c, 0, none⟩)] w (SlabsPost w (usedOf U sz m N)) := by
  have HH := hid (And.intro h (And.intro hF (And.intro hT hm)))
  clear h hF hT hm
  refine (callsIn_wide (n := 6)).1 ?_
  refine callsIn_of_wp_marks Tryd.func25 rfl trivial ?_ rfl
  refine wpIn_wide.2 ?_
  simp only [Tryd.ntmps25, List.size_toArray, List.length_cons, List.length_nil, Nat.reduceAdd, Nat.reduceSub, Array.replicate_succ, Array.replicate_zero, List.push_toArray, List.append_toArray, List.nil_append, List.cons_append]
  go_wp2_with fail
  have hb0 : Below w.heap.size w ((w.alloc (.cells #[.pointer (some ⟨c, 0, none⟩)] 49)).alloc (.cells #[.slice none 0 0] 52)) := ((Below.refl _ w).alloc (Nat.le_refl _) _).alloc (by simp) _
  refine (slabs_any (HH.out.1.below hb0) HH.out.2.1 hct).mono ?_
  rintro e w1 ⟨v1, rfl, hrow1, hb1⟩
  obtain ⟨a1, cap1, rfl, hI1⟩ := ints_of hrow1
  have hlen : (slabsOf U m N).length = (pagesOf U m N).length := by unfold slabsOf; rw [List.length_map]
  have hln : (pagesOf U m N).length ≤ 1048576 := Nat.le_trans (pagesOf_len U m N) hN
  rw [hlen]
  have H1 := hid (And.intro hrow1 (And.intro hb1 (And.intro hI1 hb0)))
  have hs1 := hb1.size
  simp only [World.size_alloc] at hs1
  clear hrow1 hb1 hI1 hb0 hlen
  obtain ⟨n, hn⟩ : ∃ n, n = (pagesOf U m N).length := ⟨_, rfl⟩
  rw [← hn]
  rw [← hn] at hln
  have HN := hid hn
  clear hn
  go_wp2_with fail
  refine wp_loop (fun a W => ∃ (j : Nat) (Ds : List Nat) (v : Value) (u5 u6 u11 u12 u13 u14 u15 u16 u17 u18 u19 u20 u21 u22 u23 u24 u25 u26 u27 u28 u29 : Value),
      a = { tmps := #[.pointer (some ⟨c, 0, none⟩), .pointer (some ⟨w.heap.size, 0, none⟩), .slice none 0 0, .pointer (some ⟨w.heap.size + 1, 0, none⟩), undef, u5, u6, .pointer (some ⟨c, 0, none⟩), .slice a1 n cap1, .int .i64 (n : Int), .int .i64 (j : Int), u11, u12, u13, u14, u15, u16, u17, u18, u19, u20, u21, u22, u23, u24, u25, u26, u27, u28, u29, undef], defers := marks Ds } ∧ j ≤ n ∧
      Turn (fun x => x = w.heap.size + 1) w1 W ∧ Mk Ds w1.heap.size W ∧ Boxed W (w.heap.size + 1) 52 v ∧ W.ownsRow w1.heap.size 3 1 v (Gt U sz m N j).length (nums (Gt U sz m N j)))
    (fun a _ => n - (intOf (a.tmps.getD 10 undef)).toNat) ?_ ?_
  · have hbx : Boxed w1 (w.heap.size + 1) 52 (.slice none 0 0) := by
      have e := H1.out.2.1.block (w.heap.size + 1) (by simp)
      refine e.trans ?_
      have := heap_alloc_new (w.alloc (.cells #[.pointer (some ⟨c, 0, none⟩)] 49)) (.cells #[.slice none 0 0] 52)
      simpa using this
    exact ⟨0, [], .slice none 0 0, undef, undef, undef, undef, undef, undef, undef, undef, undef, undef, undef, undef, undef, undef, undef, undef, undef, undef, undef, undef, undef, rfl, Nat.zero_le _, Turn.refl _ _, ⟨List.nodup_nil, by simp⟩, hbx, World.ownsRow_nil _ _ _ _⟩
  · rintro a W ⟨j, Ds, v, u5, u6, u11, u12, u13, u14, u15, u16, u17, u18, u19, u20, u21, u22, u23, u24, u25, u26, u27, u28, u29, rfl, hj, ht, hmk, hbx, hrow⟩
    have HO := hid (And.intro ht (And.intro hmk (And.intro hbx hrow)))
    have hcl := hbx.cell
    clear ht hmk hbx hrow
    by_cases hjn : j = n
    · subst hjn
      go_wp2_with fail
      obtain ⟨ht, hmk, hbx, hrow⟩ := HO.out
      obtain ⟨hrow1, hb1, hI1, hb0⟩ := H1.out
      have hb01 : Below w.heap.size w w1 := hb0.trans (hb1.mono (by simp; omega))
      have hbW : Below w.heap.size w W := Below.of_turn hb01 (by omega) ht (fun k e => by omega)
      refine leaves_marks Ds W (fun W' => Below w.heap.size w W' ∧ W'.ownsRow w1.heap.size 3 1 v (Gt U sz m N j).length (nums (Gt U sz m N j))) ⟨hbW, hrow⟩ (fun D hD => (hmk.2 D hD).2) hmk.1 (fun W' D hD hI hK => ⟨hI.1.trans (belowK_b (w := w) (Nat.le_refl _) W' D _ _ (by have := (hmk.2 D hD).1; omega) hK rfl rfl), ownsRow_putObj hI.2 _ hK rfl⟩) (fun W' hI => ?_)
      refine ⟨_, results_tmp rfl _ _ _, v, rfl, ?_, hI.1⟩
      have e : Gt U sz m N j = usedOf U sz m N := by rw [HN.out]; exact Gt_all U sz m N
      have := hI.2
      rw [e] at this
      exact ownsRow_base_a this (by omega)
    · have hjl : j < n := by omega
      clear hj hjn
      obtain ⟨q, hq⟩ : ∃ q, (pagesOf U m N)[j]? = some q := ⟨_, List.getElem?_eq_getElem (by rw [← HN.out]; exact hjl)⟩
      have hqs : q < N ∧ Slb U m q := pagesOf_mem.1 (List.mem_of_getElem? hq)
      obtain ⟨g1, rfl, hg1, hg1l, hg1c⟩ := H1.out.2.2.1.cell (slabs_get hq)
      have ha1 : W.cell? ⟨g1, j, none⟩ = some (.int .i64 ((q * 1024 : Nat) : Int)) := by
        refine (World.cell?_of_block (HO.out.1.block g1 hg1l (fun e => ?_))).trans hg1c
        simp at hg1
        omega
      obtain ⟨y, hy⟩ : ∃ y, y = ((q * 1024 : Nat) : Int) := ⟨_, rfl⟩
      rw [← hy] at ha1
      have HQ := hid (And.intro hq (And.intro hqs hy))
      obtain ⟨mb, nm, D, a, cap, nn, L, sb, bm, gm, ws, hC, hZ, hnm⟩ := HH.out.1
      have hb01 : Below w.heap.size w w1 := H1.out.2.2.2.trans (H1.out.2.1.mono (by simp; omega))
      have hbW : Below w.heap.size w W := Below.of_turn hb01 (by omega) HO.out.1 (fun k e => by omega)
      have hyb : 0 ≤ y ∧ y < 1073741824 := by omega
      have hlook : ∀ wx : World, Below w.heap.size w wx → (Instr.lookup 75 (.map (some mb)) (.int .i64 y) false).run Tryd.prog wx = .ok (.pointer (some ⟨sb q, 0, none⟩)) wx := fun wx hbx => by
        obtain ⟨v, ps, hrun, hv⟩ := (hC.below hbx).map.lookup law3 Tryd.underlying75 (zero82 wx) ptrElem_nil (keyOf_int_mk Tryd.underlying3 (wf_i64 (a := y) (by omega) (by omega)))
        have e := hC.says.val q hqs.2 .nil
        rw [show pag q = y from hy.symm] at e
        rw [e] at hv
        rcases ptrElem_inv hv with ⟨rfl, hd⟩ | ⟨s, rfl, hd⟩
        · cases hd
        · have e2 : s = sb q := by simp at hd; omega
          rw [← e2]; exact hrun
      have hbc : ∀ wx : World, Turn (fun x => x = w.heap.size + 1) w1 wx → wx.cell? ⟨w.heap.size, 0, none⟩ = some (.pointer (some ⟨c, 0, none⟩)) := fun wx htx => by
        have e1 := htx.block w.heap.size (by omega) (by omega)
        have e2 := H1.out.2.1.block w.heap.size (by simp; omega)
        have e3 : ((w.alloc (.cells #[.pointer (some ⟨c, 0, none⟩)] 49)).alloc (.cells #[.slice none 0 0] 52)).heap[w.heap.size]? = some (.cells #[.pointer (some ⟨c, 0, none⟩)] 49) := heap_alloc2_old w _ _
        rw [cell_of_row wx _ 0 _ _ _ (e1.trans (e2.trans e3))]; rfl
      have hcm : ∀ wx : World, Below w.heap.size w wx → wx.cell? ⟨c, 2, none⟩ = some (.map (some mb)) := fun wx hbx => (hC.below hbx).c2
      -- the worlds of this round
      have htA : Turn (fun x => x = w.heap.size + 1) w1 (W.alloc (.cells #[.int .i64 y] 3)).drew := (HO.out.1.alloc _).drew
      have hbA : Below w.heap.size w (W.alloc (.cells #[.int .i64 y] 3)).drew := Below.of_turn hb01 (by omega) htA (fun k e => by omega)
      have hya : (W.alloc (.cells #[.int .i64 y] 3)).drew.cell? ⟨W.heap.size, 0, none⟩ = some (.int .i64 y) := by
        have := heap_alloc_new W (.cells #[.int .i64 y] 3)
        rw [cell_of_row (W.alloc (.cells #[.int .i64 y] 3)).drew _ 0 _ _ _ this]; rfl
      obtain ⟨WB, hWB⟩ : ∃ WB, WB = (W.alloc (.cells #[.int .i64 y] 3)).drew.alloc (.cells #[.pointer (some ⟨sb q, 0, none⟩)] 82) := ⟨_, rfl⟩
      have htB : Turn (fun x => x = w.heap.size + 1) w1 WB := by rw [hWB]; exact htA.alloc _
      have hbB : Below w.heap.size w WB := Below.of_turn hb01 (by omega) htB (fun k e => by omega)
      have hyB : WB.cell? ⟨W.heap.size, 0, none⟩ = some (.int .i64 y) := by
        rw [hWB]
        exact ((Below.refl (W.heap.size + 1) (W.alloc (.cells #[.int .i64 y] 3)).drew).alloc (by simp) _).cell (p := ⟨W.heap.size, 0, none⟩) (by simp) |>.trans hya
      have hSA := And.intro (hbc _ htA) (And.intro (hcm _ hbA) (And.intro hya (hlook _ hbA)))
      have hSB := And.intro (hbc _ htB) (And.intro (hcm _ hbB) (And.intro hyB (hlook _ hbB)))
      have HS := hid (And.intro hSA hSB)
      have HWB := hid hWB
      have HX := hid (And.intro hC (And.intro hbW (And.intro htB (And.intro hbB (And.intro hWB (And.intro hbc hnm))))))
      clear hq hqs hy hg1 hg1l hg1c hC hZ hlook hbc hcm htA hbA hya htB hbB hyB hSA hSB hb01 hbW hWB
      go_wp2_with fail
      go_region_held3 (fun wx => wx.cell? ⟨w.heap.size, 0, none⟩ = some (.pointer (some ⟨c, 0, none⟩)) ∧ wx.cell? ⟨c, 2, none⟩ = some (.map (some mb)) ∧ wx.cell? ⟨W.heap.size, 0, none⟩ = some (.int .i64 y) ∧ (Instr.lookup 75 (.map (some mb)) (.int .i64 y) false).run Tryd.prog wx = .ok (.pointer (some ⟨sb q, 0, none⟩)) wx)
        (first | exact HS.out.1 | exact HS.out.2) ((go_at_call 47; refine (used_in _ _).mono ?_; rintro e wx ⟨rfl, ex⟩; rw [← HWB.out] at ex; rw [ex]; clear ex wx))
      go_wp2_with fail
      have hWs : WB.heap.size = W.heap.size + 2 := by rw [HWB.out]; simp
      have hWW : Below W.heap.size W WB := by
        rw [HWB.out]
        exact (((Below.refl _ W).alloc (Nat.le_refl _) _).drew).alloc (by simp) _
      have hWl : w1.heap.size ≤ W.heap.size := HO.out.1.size
      have hba : Boxed WB W.heap.size 3 (.int .i64 y) := by
        rw [HWB.out]
        exact Boxed.alloc (W := (W.alloc (.cells #[.int .i64 y] 3)).drew) (Boxed.new W 3 (.int .i64 y)) _
      have hbn : Boxed WB (W.heap.size + 1) 82 (.pointer (some ⟨sb q, 0, none⟩)) := by
        have := Boxed.new (W.alloc (.cells #[.int .i64 y] 3)).drew 82 (.pointer (some ⟨sb q, 0, none⟩))
        rw [HWB.out]
        simpa using this
      have hI0 : Col w1 (w.heap.size + 1) W.heap.size y Ds (Gt U sz m N j ++ ([] : List (Fin 1024)).map (fun x => place sz q x.val)) WB := by
        obtain ⟨ht, hmk, hbx, hrow⟩ := HO.out
        refine ⟨HX.out.2.2.1, ⟨hmk.1, fun D hD => ⟨(hmk.2 D hD).1, (hWW.block D (lt_of (hmk.2 D hD).2)).trans (hmk.2 D hD).2⟩⟩, by omega, hba, v, (hWW.block _ hbx.lt).trans hbx, ?_, fun x hx => ?_⟩
        · rw [List.map_nil, List.append_nil]
          rcases hrow with ⟨h1, h2⟩
          refine ⟨h1, ?_⟩
          rcases h2 with h2 | ⟨g, cap, cur, e1, e2, e3, e4⟩
          · exact .inl h2
          · exact .inr ⟨g, cap, cur, e1, e2, (hWW.block g (lt_of e3)).trans e3, e4⟩
        · rcases hrow.2 with ⟨rfl, _⟩ | ⟨g, cap, cur, rfl, e2, e3, e4⟩
          · simp [Value.ownBlock] at hx
          · obtain rfl : g = x := by simpa [Value.ownBlock] using hx
            have := lt_of e3
            omega
      have hR : Rds WB w.heap.size (W.heap.size + 1) (sb q) (bm q) (gm q) m (ws q) := by
        obtain ⟨hC, hbW, htB, hbB, hWB, hbc, hnm⟩ := HX.out
        have hS := HQ.out.2.1.2
        have hCB := hC.below hbB
        exact ⟨hbn.cell, hCB.s0 hS, hCB.bits q hS, HH.out.2.2.1.below hbB HH.out.2.2.1.pos, hC.lt (.inr (.inr (.inr ⟨q, hS, .inl rfl⟩))), hC.lt (.inr (.inr (.inr ⟨q, hS, .inr (.inl rfl)⟩))), hC.lt (.inr (.inr (.inr ⟨q, hS, .inr (.inr rfl)⟩))), HH.out.2.2.1.pos⟩
      have hm60 : m ≤ 60 := by rw [HH.out.2.2.2]; exact Nat.le_trans (Nat.div_le_div_left hz1 (by omega)) (by omega)
      have hDB : ∀ D, D ∈ Ds → D < WB.heap.size := fun D hD => by have := lt_of (HO.out.2.1.2 D hD).2; omega
      refine (wpIn_wide (n := 6)).1 ?_
      refine wpIn_rangeFunc_ownG rfl (by omega) (gf := 70) (lb := #[.pointer (some ⟨W.heap.size + 1, 0, none⟩)]) rfl trivial (enters_of Tryd.func70 (by kernel_rfl) rfl)
        (used_stops 5 (by omega) (W.heap.size + 1) w.heap.size (sb q) (bm q) (gm q) m (ws q) (by omega) WB (by omega) (by omega) hR) Kp.trans
        (fun X l o o' hl ho hc _ => ⟨(Below.refl _ X).grown (grownBy_putObj' X l o') (by have := lt_of ho; omega) (fun k e => by cases e; omega), World.putObj_heap_other (by omega)⟩) (Below.refl _ _) (fun _ => rfl)
        (fun pre X => Col w1 (w.heap.size + 1) W.heap.size y Ds (Gt U sz m N j ++ pre.map (fun x => place sz q x.val)) X)
        (fun _ _ _ => False)
        (col_ownFrom w1 (w.heap.size + 1) W.heap.size y Ds (fun pre => Gt U sz m N j ++ pre.map (fun x => place sz q x.val)) WB.heap.size (by omega) hDB)
        (fun _ _ _ _ _ hs _ _ => hs) hI0
        (fun x => { tmps := #[.pointer (some ⟨c, 0, none⟩), .pointer (some ⟨w.heap.size, 0, none⟩), .slice none 0 0, .pointer (some ⟨w.heap.size + 1, 0, none⟩), undef, .pointer (some ⟨W.heap.size, 0, none⟩), .int .i64 (x.val : Int), .pointer (some ⟨c, 0, none⟩), .slice (some ⟨g1, 0, none⟩) n cap1, .int .i64 (n : Int), .int .i64 (j : Int), .bool true, .pointer (some ⟨g1, j, none⟩), .int .i64 y, .pointer (some ⟨c, 0, none⟩), .pointer (some ⟨c, 0, none⟩), .pointer (some ⟨c, 2, none⟩), .map (some mb), .int .i64 y, .pointer (some ⟨sb q, 0, none⟩), .func (.func 70) #[] #[.pointer (some ⟨W.heap.size + 1, 0, none⟩)], .int .i64 (x.val : Int), u22, u23, u24, u25, u26, u27, u28, u29, undef], defers := [] }) ?assign ?body ?done ?stop
      case assign =>
        intro l x X K hK
        gi_wp2
        exact hK
      case body =>
        rintro l pre x X hcol hlt
        have hx1 := x.2
        obtain ⟨pl, hpl⟩ : ∃ pl, pl = place sz q x.val := ⟨_, rfl⟩
        obtain ⟨xi, hxi⟩ : ∃ xi : Nat, xi = x.val := ⟨_, rfl⟩
        obtain ⟨ht, hmk, hXb, hbxa, v2, hbx2, hrow2, hob2⟩ := hcol
        have hb01 : Below w.heap.size w w1 := H1.out.2.2.2.trans (H1.out.2.1.mono (by simp; omega))
        have hbX : Below w.heap.size w X := Below.of_turn hb01 (by omega) ht (fun k e => by omega)
        have hXl : w1.heap.size ≤ X.heap.size := ht.size
        have hXa := hbxa.lt
        have hbg : Calls Tryd.prog 48 #[.pointer (some ⟨c, 0, none⟩), .int .i64 y, .int .i64 (xi : Int)] X.drew fun e w' => e = .returned (.int .i64 (pl : Int)) ∧ w' = X.drew := by
          rw [HQ.out.2.2, hpl, hxi]
          exact begin_any X.drew c sz q x.val ((HX.out.1.below hbX).c1) hz2 (by have := HQ.out.2.1.1; omega) (by omega)
        have HBg := hid hbg
        obtain ⟨i0, hi, hz0, hz1', hz2'⟩ := info_parts infoI
        have hlenb : (Gt U sz m N j ++ pre.map fun x : Fin 1024 => place sz q x.val).length ≤ 100000000 := by
          have e1 := Gt_len U sz m N j
          have e2 : j * m ≤ 1048576 * 60 := Nat.mul_le_mul (by omega) hm60
          rw [List.length_append, List.length_map]
          omega
        obtain ⟨ls, hls⟩ : ∃ ls, ls = (Gt U sz m N j ++ pre.map fun x : Fin 1024 => place sz q x.val) := ⟨_, rfl⟩
        rw [← hls] at hrow2 hlenb
        obtain ⟨v3, X3, hr, hrow3, hgrow, _, hob3⟩ := run_append_own_at (P := Tryd.prog) (w := X.drew.alloc (.cells #[.int .i64 (pl : Int)] 3)) w1.heap.size 52 52 3 i0 (.int .i64 0) 1 8 Tryd.underlying52 hi hz0 hz1' hz2' rfl (by decide) v2 ls.length (nums ls) (hrow2.drew.alloc _) ⟨X.heap.size, 0, none⟩ 1 1 [.int .i64 (pl : Int)] rfl (cell_one_new _ _ _) (by simp [Value.oneCell']) (by unfold maxLen; omega) (by omega) (by simp; omega)
        obtain ⟨g3, cap3, rfl⟩ := ownsRow_succ hrow3
        have hbd : Boxed X.drew (w.heap.size + 1) 52 v2 := hbx2
        have hv1 : Boxed X3 (w.heap.size + 1) 52 v2 := (hbd.alloc _).kept hgrow (hbd.not_row (by decide) hrow2.drew)
        have hv4 := hv1.set (.slice (some ⟨g3, 0, none⟩) (ls.length + 1) cap3)
        have hrow4 := hrow3.kept (grownBy_setCell' X3 (w.heap.size + 1) (.slice (some ⟨g3, 0, none⟩) (ls.length + 1) cap3)) (.inr (hv1.not_row (by decide) hrow3).symm)
        have hgb : ∀ g, v2.ownBlock = some g → w1.heap.size ≤ g ∧ ∃ cur, X.heap[g]? = some (.cells cur 3) := fun g hg => by
          rcases hrow2.2 with ⟨rfl, _⟩ | ⟨g', cap', cur, rfl, e1, e2, _⟩
          · simp [Value.ownBlock] at hg
          · obtain rfl : g' = g := by simpa [Value.ownBlock] using hg
            exact ⟨e1, cur, e2⟩
        obtain ⟨X2, hX2⟩ : ∃ X2, X2 = X.drew.alloc (.cells #[.int .i64 (pl : Int)] 3) := ⟨_, rfl⟩
        rw [← hX2] at hgrow hob3
        have hX2s : X2.heap.size = X.heap.size + 1 := by rw [hX2]; simp
        have hX2b : Below X.heap.size X X2 := by rw [hX2]; exact ((Below.refl _ X).drew).alloc (by simp) _
        have hK4 : KeepsOthers X (X3.setCell ⟨w.heap.size + 1, 0, none⟩ (.slice (some ⟨g3, 0, none⟩) (ls.length + 1) cap3)) := by
          refine ((⟨hX2b.size, fun k o hk _ => (hX2b.block k (lt_of hk)).trans hk⟩ : KeepsOthers X X2).trans (KeepsOthers.of_grownBy hgrow fun k o ek hk => ?_)).trans (KeepsOthers.setCell _ _ _)
          obtain ⟨_, cur, e⟩ := hgb k ek
          rw [hX2b.block k (lt_of e), e] at hk
          cases hk; rfl
        have ht3 : Turn (fun x => x = w.heap.size + 1) w1 X3 := (ht.trans (Turn.of_below hX2b)).next (Turn.of_grown (S := fun x => v2.ownBlock = some x) hgrow (fun k e => .inl e)) (fun x e => .inr (hgb x e).1)
        have ht4 : Turn (fun x => x = w.heap.size + 1) w1 (X3.setCell ⟨w.heap.size + 1, 0, none⟩ (.slice (some ⟨g3, 0, none⟩) (ls.length + 1) cap3)) := ht3.trans (Turn.of_grown (grownBy_setCell' X3 _ _) (fun k e => .inl (by cases e; rfl)))
        have hba2 : Boxed X2 W.heap.size 3 (.int .i64 y) := (hX2b.block _ hXa).trans hbxa
        have hba3 : Boxed X3 W.heap.size 3 (.int .i64 y) := hba2.kept hgrow (fun e => (hob2 _ e.symm).1 rfl)
        have hba4 := hba3.other (B' := w.heap.size + 1) (by omega) (.slice (some ⟨g3, 0, none⟩) (ls.length + 1) cap3)
        have htX : Turn (fun x => x = w.heap.size + 1) w1 X.drew := ht.drew
        have hbcs := HX.out.2.2.2.2.2.1
        have hSX := And.intro (hbcs _ htX) (show X.drew.cell? ⟨W.heap.size, 0, none⟩ = some (.int .i64 y) from hbxa.cell)
        have hS2 := And.intro (hbcs _ (htX.alloc (.cells #[.int .i64 (pl : Int)] 3))) (show (X.drew.alloc (.cells #[.int .i64 (pl : Int)] 3)).cell? ⟨W.heap.size, 0, none⟩ = some (.int .i64 y) by rw [← hX2]; exact hba2.cell)
        have hS3 := And.intro (hbcs _ ht3) hba3.cell
        have hS4 := And.intro (hbcs _ ht4) hba4.cell
        have hKp : Kp w.heap.size (W.heap.size + 1) X (X3.setCell ⟨w.heap.size + 1, 0, none⟩ (.slice (some ⟨g3, 0, none⟩) (ls.length + 1) cap3)) := by
          refine ⟨((hX2b.mono (by omega)).grown hgrow (by omega) (fun k e => by have := (hgb k e).1; omega)).setCell (p := ⟨w.heap.size + 1, 0, none⟩) (by show w.heap.size ≤ w.heap.size + 1; omega) _, ?_⟩
          have e1 : (X3.setCell ⟨w.heap.size + 1, 0, none⟩ (.slice (some ⟨g3, 0, none⟩) (ls.length + 1) cap3)).heap[W.heap.size + 1]? = X3.heap[W.heap.size + 1]? := (grownBy_setCell' X3 _ _).block _ (by have := hgrow.size; omega) (fun e => by have : W.heap.size + 1 = w.heap.size + 1 := Option.some.inj e; omega)
          have e2 : X3.heap[W.heap.size + 1]? = X2.heap[W.heap.size + 1]? := hgrow.block _ (by omega) (fun e => (hob2 _ e.symm).2 rfl)
          exact e1.trans (e2.trans (hX2b.block _ (by omega)))
        have hcol4 : Col w1 (w.heap.size + 1) W.heap.size y Ds (Gt U sz m N j ++ (pre ++ [x]).map (fun x => place sz q x.val)) (X3.setCell ⟨w.heap.size + 1, 0, none⟩ (.slice (some ⟨g3, 0, none⟩) (ls.length + 1) cap3)) := by
          refine ⟨ht4, ⟨hmk.1, fun D hD => ⟨(hmk.2 D hD).1, hK4.same D _ (hmk.2 D hD).2 rfl⟩⟩, Nat.lt_of_lt_of_le hXb hK4.size, hba4, _, hv4, ?_, fun z hz => ?_⟩
          · have e : (Gt U sz m N j ++ (pre ++ [x]).map fun x : Fin 1024 => place sz q x.val) = ls ++ [pl] := by
              rw [List.map_append, ← List.append_assoc, ← hls, hpl]; rfl
            have e2 : nums (ls ++ [pl]) = nums ls ++ [.int .i64 (pl : Int)] := by simp [nums]
            rw [e, e2, List.length_append]
            exact hrow4
          · rcases hob3 with e | e
            · exact hob2 z (e.symm.trans hz)
            · rw [e] at hz
              have : X2.heap.size = z := by simpa using hz
              omega
        have hcl1 : X.drew.cell? ⟨w.heap.size + 1, 0, none⟩ = some v2 := hbx2.cell
        have hcl2 : (X.drew.alloc (.cells #[.int .i64 (pl : Int)] 3)).cell? ⟨w.heap.size + 1, 0, none⟩ = some v2 := (hbd.alloc _).cell
        have hcl2b : (X.alloc (.cells #[.int .i64 (pl : Int)] 3)).cell? ⟨w.heap.size + 1, 0, none⟩ = some v2 := (hbx2.alloc _).cell
        have hcl3 := hv1.cell
        have hfr3 := hv1.frozen
        have HF := hid (And.intro (hK4.from WB.heap.size) (And.intro hKp hcol4))
        rw [← hxi]
        clear hbg hls hpl hxi hmk hbxa hbx2 hrow2 hob2 hb01 hbX hi hz0 hz1' hz2' hlenb hrow3 hgrow hob3 hbd hv1 hv4 hrow4 hgb hX2 hX2s hX2b hK4 ht3 ht4 hba2 hba3 hba4 htX hbcs hKp hcol4 ht
        refine wpIn_block ?_
        refine held_inRound (S := fun wx => wx.cell? ⟨w.heap.size, 0, none⟩ = some (.pointer (some ⟨c, 0, none⟩)) ∧ wx.cell? ⟨W.heap.size, 0, none⟩ = some (.int .i64 y)) (by kernel_rfl) ?_ ?_ hSX (fun hHeld => ?_)
        · exact nodef_of (by kernel_rfl)
        · rintro ⟨_, _, hout⟩
          exact hout.elim
        · refine takeH (i := 1) (some 23) (.pointer (some ⟨c, 0, none⟩)) rfl rfl (by kernel_rfl) (by kernel_rfl) (by kernel_rfl) (fun _ _ _ h => h) (Or.inl ⟨by rfl, ?_⟩) (by assumption) ?_
          · (intro w hSw; (try dsimp only at hSw); go_simp)
          simp only [Act.put, List.setIfInBounds_toArray, List.set_cons_zero, List.set_cons_succ]
          refine takeH (i := 2) (some 24) (.int .i64 y) rfl rfl (by kernel_rfl) (by kernel_rfl) (by kernel_rfl) (fun _ _ _ h => h) (Or.inl ⟨by rfl, ?_⟩) (by assumption) ?_
          · (intro w hSw; (try dsimp only at hSw); go_simp)
          simp only [Act.put, List.setIfInBounds_toArray, List.set_cons_zero, List.set_cons_succ]
          refine takeH (i := 3) (some 25) (.int .i64 (xi : Int)) rfl rfl (by kernel_rfl) (by kernel_rfl) (by kernel_rfl) (fun _ _ _ h => h) (Or.inl ⟨by rfl, ?_⟩) (by assumption) ?_
          · (intro w hSw; (try dsimp only at hSw); go_simp)
          simp only [Act.put, List.setIfInBounds_toArray, List.set_cons_zero, List.set_cons_succ]
          refine wpAnyH_ready (rs := [0, 4]) (by kernel_rfl) (by simp) ?_
          refine AllReadyH.cons (by simp only [List.getElem?_toArray, List.getElem?_cons_zero]; rfl) (fun KK hK => ?_) (AllReadyH.cons (by simp only [List.getElem?_toArray, List.getElem?_cons_succ, List.getElem?_cons_zero]; rfl) (fun KK hK => ?_) AllReadyH.nil)
          · go_simp
            refine hK.out _ _ hSX (fun hHeld => ?_)
            clear hK KK
            refine wpAnyH_ready (rs := [4]) (by kernel_rfl) (by simp) ?_
            refine AllReadyH.cons (by simp only [List.getElem?_toArray, List.getElem?_cons_succ, List.getElem?_cons_zero]; rfl) (fun KK hK => ?_) AllReadyH.nil
            go_simp
            refine HBg.out.mono ?_
            rintro e wx ⟨rfl, ex⟩
            rw [ex]
            clear ex wx
            go_wp2_with fail
            refine hK.out _ _ hSX (fun hHeld => ?_)
            clear hK KK
            refine wpAnyH_ready (rs := [5]) (by kernel_rfl) (by simp) ?_
            refine AllReadyH.cons (by simp only [List.getElem?_toArray, List.getElem?_cons_succ, List.getElem?_cons_zero]; rfl) (fun KK hK => ?_) AllReadyH.nil
            go_simp
            refine hK.out _ _ hS2 (fun hHeld => ?_)
            clear hK KK
            refine wpAnyH_ready (rs := [6]) (by kernel_rfl) (by simp) ?_
            refine AllReadyH.cons (by simp only [List.getElem?_toArray, List.getElem?_cons_succ, List.getElem?_cons_zero]; rfl) (fun KK hK => ?_) AllReadyH.nil
            refine step_append_run _ X3 (.slice (some ⟨g3, 0, none⟩) (ls.length + 1) cap3) (by rfl) _ _ 52 (by rfl) v2 (.slice (some ⟨X.heap.size, 0, none⟩) 1 1) (by rfl) (by rfl) hr ?_
            simp only [Act.put, List.setIfInBounds_toArray, List.set_cons_zero, List.set_cons_succ]
            refine hK.out _ _ hS3 (fun hHeld => ?_)
            clear hK KK
            refine wpAnyH_ready (rs := [7]) (by kernel_rfl) (by simp) ?_
            refine AllReadyH.cons (by simp only [List.getElem?_toArray, List.getElem?_cons_succ, List.getElem?_cons_zero]; rfl) (fun KK hK => ?_) AllReadyH.nil
            go_simp
            refine hK.out _ _ hS4 (fun hHeld => ?_)
            clear hK KK
            refine wpAnyH_done (by kernel_rfl) ?_ _
            exact HF.out
          · go_simp
            refine HBg.out.mono ?_
            rintro e wx ⟨rfl, ex⟩
            rw [ex]
            clear ex wx
            go_wp2_with fail
            refine hK.out _ _ hSX (fun hHeld => ?_)
            clear hK KK
            refine wpAnyH_ready (rs := [0, 5]) (by kernel_rfl) (by simp) ?_
            refine AllReadyH.cons (by simp only [List.getElem?_toArray, List.getElem?_cons_zero]; rfl) (fun KK hK => ?_) (AllReadyH.cons (by simp only [List.getElem?_toArray, List.getElem?_cons_succ, List.getElem?_cons_zero]; rfl) (fun KK hK => ?_) AllReadyH.nil)
            · go_simp
              refine hK.out _ _ hSX (fun hHeld => ?_)
              clear hK KK
              refine wpAnyH_ready (rs := [5]) (by kernel_rfl) (by simp) ?_
              refine AllReadyH.cons (by simp only [List.getElem?_toArray, List.getElem?_cons_succ, List.getElem?_cons_zero]; rfl) (fun KK hK => ?_) AllReadyH.nil
              go_simp
              refine hK.out _ _ hS2 (fun hHeld => ?_)
              clear hK KK
              refine wpAnyH_ready (rs := [6]) (by kernel_rfl) (by simp) ?_
              refine AllReadyH.cons (by simp only [List.getElem?_toArray, List.getElem?_cons_succ, List.getElem?_cons_zero]; rfl) (fun KK hK => ?_) AllReadyH.nil
              refine step_append_run _ X3 (.slice (some ⟨g3, 0, none⟩) (ls.length + 1) cap3) (by rfl) _ _ 52 (by rfl) v2 (.slice (some ⟨X.heap.size, 0, none⟩) 1 1) (by rfl) (by rfl) hr ?_
              simp only [Act.put, List.setIfInBounds_toArray, List.set_cons_zero, List.set_cons_succ]
              refine hK.out _ _ hS3 (fun hHeld => ?_)
              clear hK KK
              refine wpAnyH_ready (rs := [7]) (by kernel_rfl) (by simp) ?_
              refine AllReadyH.cons (by simp only [List.getElem?_toArray, List.getElem?_cons_succ, List.getElem?_cons_zero]; rfl) (fun KK hK => ?_) AllReadyH.nil
              go_simp
              refine hK.out _ _ hS4 (fun hHeld => ?_)
              clear hK KK
              refine wpAnyH_done (by kernel_rfl) ?_ _
              exact HF.out
            · go_simp
              refine hK.out _ _ hS2 (fun hHeld => ?_)
              clear hK KK
              refine wpAnyH_ready (rs := [0]) (by kernel_rfl) (by simp) ?_
              refine AllReadyH.cons (by simp only [List.getElem?_toArray, List.getElem?_cons_zero]; rfl) (fun KK hK => ?_) AllReadyH.nil
              go_simp
              refine hK.out _ _ hS2 (fun hHeld => ?_)
              clear hK KK
              refine wpAnyH_ready (rs := [6]) (by kernel_rfl) (by simp) ?_
              refine AllReadyH.cons (by simp only [List.getElem?_toArray, List.getElem?_cons_succ, List.getElem?_cons_zero]; rfl) (fun KK hK => ?_) AllReadyH.nil
              refine step_append_run _ X3 (.slice (some ⟨g3, 0, none⟩) (ls.length + 1) cap3) (by rfl) _ _ 52 (by rfl) v2 (.slice (some ⟨X.heap.size, 0, none⟩) 1 1) (by rfl) (by rfl) hr ?_
              simp only [Act.put, List.setIfInBounds_toArray, List.set_cons_zero, List.set_cons_succ]
              refine hK.out _ _ hS3 (fun hHeld => ?_)
              clear hK KK
              refine wpAnyH_ready (rs := [7]) (by kernel_rfl) (by simp) ?_
              refine AllReadyH.cons (by simp only [List.getElem?_toArray, List.getElem?_cons_succ, List.getElem?_cons_zero]; rfl) (fun KK hK => ?_) AllReadyH.nil
              go_simp
              refine hK.out _ _ hS4 (fun hHeld => ?_)
              clear hK KK
              refine wpAnyH_done (by kernel_rfl) ?_ _
              exact HF.out
      case done =>
        rintro D ys X hD hys hcol hK
        obtain ⟨ht, hmk, _, hbxa, v2, hbx2, hrow2, _⟩ := hcol
        have HY := hid (And.intro ht (And.intro hmk (And.intro hbx2 (And.intro hrow2 (And.intro hys hK)))))
        clear ht hmk hbxa hbx2 hrow2 hys hK
        go_wp2_with fail
        obtain ⟨ht, hmk, hbx2, hrow2, hys, hK⟩ := HY.out
        refine ⟨⟨j + 1, D :: Ds, v2, _, _, _, _, _, _, _, _, _, _, _, _, _, _, _, _, _, _, _, _, _, rfl, by omega, ht, ⟨List.nodup_cons.2 ⟨fun hD2 => by have := hDB D hD2; omega, hmk.1⟩, fun D' hD' => ?_⟩, hbx2, ?_⟩, ?_⟩
        · rcases List.mem_cons.1 hD' with rfl | hD'
          · exact ⟨by omega, hK⟩
          · exact hmk.2 D' hD'
        · have e1 : ones (bit (ws q)) m = ones (U q) m := ones_congr (fun i hi => HX.out.1.bit_ q HQ.out.2.1.2 i hi)
          have e2 : (ys.map fun x : Fin 1024 => place sz q x.val) = (ones (U q) m).map (place sz q) := by
            rw [← e1, ← hys, List.map_map]; rfl
          rw [Gt_next HQ.out.1, ← e2]
          exact hrow2
        · show n - ((j : Int) + 1).toNat < n - (j : Int).toNat
          omega
      case stop =>
        rintro D c pre W _ _ h _
        exact h.elim
end Go.Proofs.YtohaoeilodebmaaDoor
