/- Contracts of handles, Live and Zombies, and of what a nil table answers. -/
import Derived.Test.YtoahfeckadaomaaI
namespace Go.Proofs.Ytoahfeckadaomaa
open Go.RowKit Go.Maps Go.Shelf
attribute [local go_sem] Oper.semAt_some

theorem ownsRow_low {w : World} {base base' : Nat} {e : TypeId} {size : Nat} {v : Value} {n : Nat} {xs : List Value} (h : w.ownsRow base e size v n xs) (hb : base' ≤ base) : w.ownsRow base' e size v n xs := by
  refine ⟨h.1, ?_⟩
  rcases h.2 with h2 | ⟨g, cap, cur, e1, e2, e3⟩
  · exact .inl h2
  · exact .inr ⟨g, cap, cur, e1, Nat.le_trans hb e2, e3⟩
def hds (l : List Nat) : List Value := l.map fun (n : Nat) => .int .u32 (n : Int)
theorem infoH : (Try.prog.info? 26).map (fun i => (i.zero, i.size, i.bytes)) = some (some (.int .u32 0), 1, 4) := by kernel_rfl
/-- A row of handles is answered. -/
def HsPost (w : World) (l : List Nat) (e : Ending) (w' : World) : Prop := ∃ v, e = .returned v ∧ w'.ownsRow w.heap.size 26 1 v l.length (hds l) ∧ Below w.heap.size w w'
/-- What is collected. -/
def Col (w : World) (l : List Nat) (W : World) : Prop := Below w.heap.size w W ∧ w.heap.size + 3 ≤ W.heap.size ∧ ∃ v, Boxed W w.heap.size 36 v ∧ W.ownsRow (w.heap.size + 3) 26 1 v l.length (hds l) ∧ True
theorem col_ownFrom (w : World) (f : List (Fin 256) → List Nat) (B : Nat) (hB : w.heap.size ≤ B) : OwnFrom B (fun pre W => Col w (f pre) W) :=
  OwnFrom.and (ownFrom_below (Nat.le_refl _) hB) (OwnFrom.and (fun _ _ _ _ hs hg _ => Nat.le_trans hs hg.size) (Own.from (holdsRow_own (w.heap.size + 3) w.heap.size 36 26 1 (fun pre => (f pre).length) (fun pre => hds (f pre)) (fun _ _ => True)) B))

set_option maxRecDepth 100000 in
set_option maxHeartbeats 2000000 in
theorem handles_any {w : World} {b : Nat} {T : Nat → Pl} (ht : Tb w b T) (hw : Wf T) (s : Nat) : Calls Try.prog 33 #[.pointer (some ⟨b, 0, none⟩), .int .i64 (s : Int)] w (HsPost w (hs T s 256)) := by
  have HT := hid (And.intro ht hw)
  clear ht hw
  refine (callsIn_wide (n := 6)).1 ?_
  refine callsIn_of_wp_marks Try.func33 rfl trivial ?_ rfl
  refine wpIn_wide.2 ?_
  simp only [Try.ntmps33, List.size_toArray, List.length_cons, List.length_nil, Nat.reduceAdd, Nat.reduceSub, Array.replicate_succ, Array.replicate_zero, List.push_toArray, List.append_toArray, List.nil_append, List.cons_append]
  go_wp2_with fail
  refine (in_any _ _ _).mono ?_
  rintro e w1 ⟨rfl, ew⟩
  have HW := hid ew
  clear ew
  go_wp2_with fail
  refine (wpIn_wide (n := 6)).1 ?_
  have hb1 : Below w.heap.size w w1 := by rw [HW.out]; exact (((Below.refl _ w).alloc (Nat.le_refl _) _).alloc (by simp) _).alloc (by simp; omega) _
  have hs1 : w1.heap.size = w.heap.size + 3 := by rw [HW.out]; simp
  have hbx : Boxed w1 w.heap.size 36 (.slice none 0 0) := by rw [HW.out]; exact ((Boxed.new w 36 (.slice none 0 0)).alloc _).alloc _
  obtain ⟨hq1, hq2⟩ := two_boxes (w.alloc (.cells #[.slice none 0 0] 36)) (.pointer (some ⟨b, 0, none⟩)) (.int .i64 (s : Int)) 24 62
  rw [← HW.out, World.size_alloc] at hq1 hq2
  have hR : Rds w1 w.heap.size (w.heap.size + 1) (w.heap.size + 1 + 1) b s T := ⟨hq1.cell, hq2.cell, HT.out.1.below hb1, HT.out.1.lt⟩
  have hOF := col_ownFrom w (fun (pre : List (Fin 256)) => pre.map fun x => hOf x.val (T x.val).ag) w1.heap.size (by omega)
  refine wpIn_rangeFunc_ownG rfl (by omega) (gf := 35) (lb := #[.pointer (some ⟨w.heap.size + 1, 0, none⟩), .pointer (some ⟨w.heap.size + 1 + 1, 0, none⟩)]) rfl trivial (enters_of Try.func35 (by kernel_rfl) rfl)
    (in1_stops 5 (w.heap.size + 1) (w.heap.size + 1 + 1) w.heap.size b s T w1 (by omega) (by omega) (by omega) hR) Kp.trans
    (fun X l o o' hl ho hc _ => ⟨(Below.refl _ X).grown (grownBy_putObj' X l o') (by have := lt_of ho; omega) (fun k e => by cases e; omega), World.putObj_heap_other (by omega), World.putObj_heap_other (by omega)⟩) (Below.refl _ _) (fun _ => rfl)
    (fun (pre : List (Fin 256)) X => Col w (pre.map fun x => hOf x.val (T x.val).ag) X)
    (fun _ _ _ => False)
    ?hI
    (fun _ _ _ _ _ hs _ _ => hs) ⟨hb1, by omega, _, hbx, World.ownsRow_nil _ _ _ _, trivial⟩
    (fun x => { tmps := #[.pointer (some ⟨b, 0, none⟩), .int .i64 (s : Int), undef, undef, .slice none 0 0, .pointer (some ⟨w.heap.size, 0, none⟩), .int .i64 (x.val : Int), .pointer (some ⟨b, x.val * 5, none⟩), .pointer (some ⟨b, 0, none⟩), .int .i64 (s : Int), .func (.func 35) #[] #[.pointer (some ⟨w.heap.size + 1, 0, none⟩), .pointer (some ⟨w.heap.size + 1 + 1, 0, none⟩)], .int .i64 (x.val : Int), .pointer (some ⟨b, x.val * 5, none⟩), undef, undef, undef, undef, undef, undef, undef, undef, undef, undef], defers := [] }) ?assign ?body ?done ?stop
  case hI => exact hOF
  case assign =>
    intro l x X K hK
    dsimp only [plv]
    rw [zip2]
    simp only [List.setIfInBounds_toArray, List.set_cons_zero, List.set_cons_succ]
    gi_wp2
    exact hK
  case body =>
    rintro l pre x X hcol hlt
    have hx1 := x.2
    obtain ⟨hbX, hXs, v2, hbx2, hrow2, _⟩ := hcol
    have htX := HT.out.1.below hbX
    have hag := (HT.out.2 x.val hx1).2
    have hcag := htX.cag hx1
    obtain ⟨pl, hpl⟩ : ∃ pl, pl = hOf x.val (T x.val).ag := ⟨_, rfl⟩
    obtain ⟨xi, hxi⟩ : ∃ xi : Nat, xi = x.val := ⟨_, rfl⟩
    obtain ⟨ag, hagn⟩ : ∃ ag : Nat, ag = (T x.val).ag := ⟨_, rfl⟩
    have hto : Calls Try.prog 29 #[.int .i64 (xi : Int), .int .i64 (ag : Int)] X.drew fun e w' => e = .returned (.int .u32 (pl : Int)) ∧ w' = X.drew := by
      rw [hpl, hxi, hagn]
      exact together_any x.val (T x.val).ag hx1 hag X.drew
    have HTo := hid hto
    obtain ⟨i0, hi, hz0, hz1', hz2'⟩ := info_parts infoH
    have hlenb : (pre.map fun x : Fin 256 => hOf x.val (T x.val).ag).length ≤ 256 := by
      rw [List.length_map]; omega
    obtain ⟨ls, hls⟩ : ∃ ls, ls = (pre.map fun x : Fin 256 => hOf x.val (T x.val).ag) := ⟨_, rfl⟩
    rw [← hls] at hrow2 hlenb
    obtain ⟨v3, X3, hr, hrow3, hgrow, _, hob3⟩ := run_append_own_at (P := Try.prog) (w := X.drew.alloc (.cells #[.int .u32 (pl : Int)] 26)) (w.heap.size + 3) 36 36 26 i0 (.int .u32 0) 1 4 Try.underlying36 hi hz0 hz1' hz2' rfl (by decide) v2 ls.length (hds ls) (hrow2.drew.alloc _) ⟨X.heap.size, 0, none⟩ 1 1 [.int .u32 (pl : Int)] rfl (cell_one_new _ _ _) (by simp [Value.oneCell']) (by unfold maxLen; omega) (by omega) (by simp; omega)
    obtain ⟨g3, cap3, rfl⟩ := ownsRow_succ hrow3
    have hbd : Boxed X.drew w.heap.size 36 v2 := hbx2
    have hv1 : Boxed X3 w.heap.size 36 v2 := (hbd.alloc _).kept hgrow (hbd.not_row (by decide) hrow2.drew)
    have hv4 := hv1.set (.slice (some ⟨g3, 0, none⟩) (ls.length + 1) cap3)
    have hrow4 := hrow3.kept (grownBy_setCell' X3 w.heap.size (.slice (some ⟨g3, 0, none⟩) (ls.length + 1) cap3)) (.inr (hv1.not_row (by decide) hrow3).symm)
    have hgb : ∀ g, v2.ownBlock = some g → w.heap.size + 3 ≤ g ∧ ∃ cur, X.heap[g]? = some (.cells cur 26) := fun g hg => by
      rcases hrow2.2 with ⟨rfl, _⟩ | ⟨g', cap', cur, rfl, e1, e2, _⟩
      · simp [Value.ownBlock] at hg
      · obtain rfl : g' = g := by simpa [Value.ownBlock] using hg
        exact ⟨e1, cur, e2⟩
    obtain ⟨X2, hX2⟩ : ∃ X2, X2 = X.drew.alloc (.cells #[.int .u32 (pl : Int)] 26) := ⟨_, rfl⟩
    rw [← hX2] at hgrow hob3
    have hX2s : X2.heap.size = X.heap.size + 1 := by rw [hX2]; simp
    have hX2b : Below X.heap.size X X2 := by rw [hX2]; exact ((Below.refl _ X).drew).alloc (by simp) _
    have hK4 : KeepsOthers X (X3.setCell ⟨w.heap.size, 0, none⟩ (.slice (some ⟨g3, 0, none⟩) (ls.length + 1) cap3)) := by
      refine ((⟨hX2b.size, fun k o hk _ => (hX2b.block k (lt_of hk)).trans hk⟩ : KeepsOthers X X2).trans (KeepsOthers.of_grownBy hgrow fun k o ek hk => ?_)).trans (KeepsOthers.setCell _ _ _)
      obtain ⟨_, cur, e⟩ := hgb k ek
      rw [hX2b.block k (lt_of e), e] at hk
      cases hk; rfl
    have hb2 : Below w.heap.size w X2 := hbX.trans (hX2b.mono (by omega))
    have hb3 : Below w.heap.size w X3 := hb2.grown hgrow (by omega) (fun k e => by have := (hgb k e).1; omega)
    have hb4 : Below w.heap.size w (X3.setCell ⟨w.heap.size, 0, none⟩ (.slice (some ⟨g3, 0, none⟩) (ls.length + 1) cap3)) := hb3.setCell (p := ⟨w.heap.size, 0, none⟩) (Nat.le_refl _) _
    have hkB : ∀ k, w.heap.size < k → k < w.heap.size + 3 → (X3.setCell ⟨w.heap.size, 0, none⟩ (.slice (some ⟨g3, 0, none⟩) (ls.length + 1) cap3)).heap[k]? = X.heap[k]? := fun k h1 h2 => by
      have e1 := (grownBy_setCell' X3 w.heap.size (.slice (some ⟨g3, 0, none⟩) (ls.length + 1) cap3)).block k (by have := hgrow.size; omega) (fun e => by have : k = w.heap.size := Option.some.inj e; omega)
      have e2 : X3.heap[k]? = X2.heap[k]? := hgrow.block _ (by omega) (fun e => by have := (hgb k e.symm).1; omega)
      exact e1.trans (e2.trans (hX2b.block _ (by omega)))
    have hKp : Kp w.heap.size (w.heap.size + 1) (w.heap.size + 1 + 1) X (X3.setCell ⟨w.heap.size, 0, none⟩ (.slice (some ⟨g3, 0, none⟩) (ls.length + 1) cap3)) :=
      ⟨Below.setCell (B := w.heap.size) (p := ⟨w.heap.size, 0, none⟩) (Below.grown (hX2b.mono (by omega)) hgrow (by omega) (fun k e => by have := (hgb k e).1; omega)) (Nat.le_refl _) _, hkB _ (by omega) (by omega), hkB _ (by omega) (by omega)⟩
    have hcol4 : Col w ((pre ++ [x]).map fun x => hOf x.val (T x.val).ag) (X3.setCell ⟨w.heap.size, 0, none⟩ (.slice (some ⟨g3, 0, none⟩) (ls.length + 1) cap3)) := by
      refine ⟨hb4, Nat.le_trans hXs hK4.size, _, hv4, ?_, trivial⟩
      have e : ((pre ++ [x]).map fun x : Fin 256 => hOf x.val (T x.val).ag) = ls ++ [pl] := by
        rw [List.map_append, ← hls, hpl]; rfl
      have e2 : hds (ls ++ [pl]) = hds ls ++ [.int .u32 (pl : Int)] := by simp [hds]
      rw [e, e2, List.length_append]
      exact hrow4
    have hcAt : ∀ wx : World, Below w.heap.size w wx → wx.cell? ⟨b, xi * 5 + 4, none⟩ = some (.int .i64 (ag : Int)) := fun wx hbx => by
      rw [hxi, hagn]; exact (HT.out.1.below hbx).cag hx1
    have hSX : X.drew.cell? ⟨b, xi * 5 + 4, none⟩ = some (.int .i64 (ag : Int)) := hcAt _ hbX.drew
    have hS2 : (X.drew.alloc (.cells #[.int .u32 (pl : Int)] 26)).cell? ⟨b, xi * 5 + 4, none⟩ = some (.int .i64 (ag : Int)) := by rw [← hX2]; exact hcAt _ hb2
    have hS3 := hcAt _ hb3
    have hS4 := hcAt _ hb4
    have hcl1 : X.drew.cell? ⟨w.heap.size, 0, none⟩ = some v2 := hbx2.cell
    have hcl2 : (X.drew.alloc (.cells #[.int .u32 (pl : Int)] 26)).cell? ⟨w.heap.size, 0, none⟩ = some v2 := (hbd.alloc _).cell
    have hcl2b : (X.alloc (.cells #[.int .u32 (pl : Int)] 26)).cell? ⟨w.heap.size, 0, none⟩ = some v2 := (hbx2.alloc _).cell
    have hcl3 := hv1.cell
    have hfr3 := hv1.frozen
    have HF := hid (And.intro (hK4.from w1.heap.size) (And.intro hKp hcol4))
    rw [← hxi]
    clear hto hls hpl hxi hagn hcag htX hag hbx2 hrow2 hbX hi hz0 hz1' hz2' hlenb hrow3 hgrow hob3 hbd hv1 hv4 hrow4 hgb hX2 hX2s hX2b hK4 hb2 hb3 hb4 hkB hKp hcol4 hcAt
    refine wpIn_block ?_
    refine held_inRound (S := fun wx => wx.cell? ⟨b, xi * 5 + 4, none⟩ = some (.int .i64 (ag : Int))) (by kernel_rfl) ?_ ?_ hSX (fun hHeld => ?_)
    · exact nodef_of (by kernel_rfl)
    · rintro ⟨_, _, hout⟩
      exact hout.elim
    · skip
      refine takeH (i := 1) (some 14) (.int .i64 (xi : Int)) rfl rfl (by kernel_rfl) (by kernel_rfl) (by kernel_rfl) (fun _ _ _ h => h) (Or.inl ⟨by rfl, ?_⟩) (by assumption) ?_
      · (intro w hSw; (try dsimp only at hSw); go_simp)
      simp only [Act.put, List.setIfInBounds_toArray, List.set_cons_zero, List.set_cons_succ]
      refine takeH (i := 2) (some 15) (.pointer (some ⟨b, xi * 5, none⟩)) rfl rfl (by kernel_rfl) (by kernel_rfl) (by kernel_rfl) (fun _ _ _ h => h) (Or.inl ⟨by rfl, ?_⟩) (by assumption) ?_
      · (intro w hSw; (try dsimp only at hSw); go_simp)
      simp only [Act.put, List.setIfInBounds_toArray, List.set_cons_zero, List.set_cons_succ]
      refine takeH (i := 3) (some 16) (.pointer (some ⟨b, xi * 5, none⟩)) rfl rfl (by kernel_rfl) (by kernel_rfl) (by kernel_rfl) (fun _ _ _ h => h) (Or.inl ⟨by rfl, ?_⟩) (by assumption) ?_
      · (intro w hSw; (try dsimp only at hSw); go_simp)
      simp only [Act.put, List.setIfInBounds_toArray, List.set_cons_zero, List.set_cons_succ]
      refine takeH (i := 4) (some 17) (.pointer (some ⟨b, xi * 5 + 4, none⟩)) rfl rfl (by kernel_rfl) (by kernel_rfl) (by kernel_rfl) (fun _ _ _ h => h) (Or.inl ⟨by rfl, ?_⟩) (by assumption) ?_
      · (intro w hSw; (try dsimp only at hSw); go_simp)
      simp only [Act.put, List.setIfInBounds_toArray, List.set_cons_zero, List.set_cons_succ]
      refine takeH (i := 5) (some 18) (.int .i64 (ag : Int)) rfl rfl (by kernel_rfl) (by kernel_rfl) (by kernel_rfl) (fun _ _ _ h => h) (Or.inl ⟨by rfl, ?_⟩) (by assumption) ?_
      · (intro w hSw; (try dsimp only at hSw); go_simp)
      simp only [Act.put, List.setIfInBounds_toArray, List.set_cons_zero, List.set_cons_succ]
      refine wpAnyH_ready (rs := [0, 6]) (by kernel_rfl) (by simp) ?_
      refine AllReadyH.cons (by simp only [List.getElem?_toArray, List.getElem?_cons_zero]; rfl) (fun KK hK => ?_) (AllReadyH.cons (by simp only [List.getElem?_toArray, List.getElem?_cons_succ, List.getElem?_cons_zero]; rfl) (fun KK hK => ?_) AllReadyH.nil)
      · go_simp
        refine hK.out _ _ hSX (fun hHeld => ?_)
        clear hK KK
        refine wpAnyH_ready (rs := [6]) (by kernel_rfl) (by simp) ?_
        refine AllReadyH.cons (by simp only [List.getElem?_toArray, List.getElem?_cons_succ, List.getElem?_cons_zero]; rfl) (fun KK hK => ?_) AllReadyH.nil
        go_simp
        refine HTo.out.mono ?_
        rintro e wx ⟨rfl, ex⟩
        rw [ex]
        clear ex wx
        go_wp2_with fail
        refine hK.out _ _ hSX (fun hHeld => ?_)
        clear hK KK
        refine wpAnyH_ready (rs := [7]) (by kernel_rfl) (by simp) ?_
        refine AllReadyH.cons (by simp only [List.getElem?_toArray, List.getElem?_cons_succ, List.getElem?_cons_zero]; rfl) (fun KK hK => ?_) AllReadyH.nil
        go_simp
        refine hK.out _ _ hS2 (fun hHeld => ?_)
        clear hK KK
        refine wpAnyH_ready (rs := [8]) (by kernel_rfl) (by simp) ?_
        refine AllReadyH.cons (by simp only [List.getElem?_toArray, List.getElem?_cons_succ, List.getElem?_cons_zero]; rfl) (fun KK hK => ?_) AllReadyH.nil
        refine step_append_run _ X3 (.slice (some ⟨g3, 0, none⟩) (ls.length + 1) cap3) (by rfl) _ _ 36 (by rfl) v2 (.slice (some ⟨X.heap.size, 0, none⟩) 1 1) (by rfl) (by rfl) hr ?_
        simp only [Act.put, List.setIfInBounds_toArray, List.set_cons_zero, List.set_cons_succ]
        refine hK.out _ _ hS3 (fun hHeld => ?_)
        clear hK KK
        refine wpAnyH_ready (rs := [9]) (by kernel_rfl) (by simp) ?_
        refine AllReadyH.cons (by simp only [List.getElem?_toArray, List.getElem?_cons_succ, List.getElem?_cons_zero]; rfl) (fun KK hK => ?_) AllReadyH.nil
        go_simp
        refine hK.out _ _ hS4 (fun hHeld => ?_)
        clear hK KK
        refine wpAnyH_done (by kernel_rfl) ?_ _
        exact HF.out
      · go_simp
        refine HTo.out.mono ?_
        rintro e wx ⟨rfl, ex⟩
        rw [ex]
        clear ex wx
        go_wp2_with fail
        refine hK.out _ _ hSX (fun hHeld => ?_)
        clear hK KK
        refine wpAnyH_ready (rs := [0, 7]) (by kernel_rfl) (by simp) ?_
        refine AllReadyH.cons (by simp only [List.getElem?_toArray, List.getElem?_cons_zero]; rfl) (fun KK hK => ?_) (AllReadyH.cons (by simp only [List.getElem?_toArray, List.getElem?_cons_succ, List.getElem?_cons_zero]; rfl) (fun KK hK => ?_) AllReadyH.nil)
        · go_simp
          refine hK.out _ _ hSX (fun hHeld => ?_)
          clear hK KK
          refine wpAnyH_ready (rs := [7]) (by kernel_rfl) (by simp) ?_
          refine AllReadyH.cons (by simp only [List.getElem?_toArray, List.getElem?_cons_succ, List.getElem?_cons_zero]; rfl) (fun KK hK => ?_) AllReadyH.nil
          go_simp
          refine hK.out _ _ hS2 (fun hHeld => ?_)
          clear hK KK
          refine wpAnyH_ready (rs := [8]) (by kernel_rfl) (by simp) ?_
          refine AllReadyH.cons (by simp only [List.getElem?_toArray, List.getElem?_cons_succ, List.getElem?_cons_zero]; rfl) (fun KK hK => ?_) AllReadyH.nil
          refine step_append_run _ X3 (.slice (some ⟨g3, 0, none⟩) (ls.length + 1) cap3) (by rfl) _ _ 36 (by rfl) v2 (.slice (some ⟨X.heap.size, 0, none⟩) 1 1) (by rfl) (by rfl) hr ?_
          simp only [Act.put, List.setIfInBounds_toArray, List.set_cons_zero, List.set_cons_succ]
          refine hK.out _ _ hS3 (fun hHeld => ?_)
          clear hK KK
          refine wpAnyH_ready (rs := [9]) (by kernel_rfl) (by simp) ?_
          refine AllReadyH.cons (by simp only [List.getElem?_toArray, List.getElem?_cons_succ, List.getElem?_cons_zero]; rfl) (fun KK hK => ?_) AllReadyH.nil
          go_simp
          refine hK.out _ _ hS4 (fun hHeld => ?_)
          clear hK KK
          refine wpAnyH_done (by kernel_rfl) ?_ _
          exact HF.out
        · go_simp
          refine hK.out _ _ hS2 (fun hHeld => ?_)
          clear hK KK
          refine wpAnyH_ready (rs := [0]) (by kernel_rfl) (by simp) ?_
          refine AllReadyH.cons (by simp only [List.getElem?_toArray, List.getElem?_cons_zero]; rfl) (fun KK hK => ?_) AllReadyH.nil
          go_simp
          refine hK.out _ _ hS2 (fun hHeld => ?_)
          clear hK KK
          refine wpAnyH_ready (rs := [8]) (by kernel_rfl) (by simp) ?_
          refine AllReadyH.cons (by simp only [List.getElem?_toArray, List.getElem?_cons_succ, List.getElem?_cons_zero]; rfl) (fun KK hK => ?_) AllReadyH.nil
          refine step_append_run _ X3 (.slice (some ⟨g3, 0, none⟩) (ls.length + 1) cap3) (by rfl) _ _ 36 (by rfl) v2 (.slice (some ⟨X.heap.size, 0, none⟩) 1 1) (by rfl) (by rfl) hr ?_
          simp only [Act.put, List.setIfInBounds_toArray, List.set_cons_zero, List.set_cons_succ]
          refine hK.out _ _ hS3 (fun hHeld => ?_)
          clear hK KK
          refine wpAnyH_ready (rs := [9]) (by kernel_rfl) (by simp) ?_
          refine AllReadyH.cons (by simp only [List.getElem?_toArray, List.getElem?_cons_succ, List.getElem?_cons_zero]; rfl) (fun KK hK => ?_) AllReadyH.nil
          go_simp
          refine hK.out _ _ hS4 (fun hHeld => ?_)
          clear hK KK
          refine wpAnyH_done (by kernel_rfl) ?_ _
          exact HF.out
  case done =>
    rintro D ys X hD hys ⟨hbX, _, v, hbx2, hrow2, _⟩ hK
    have hn : (ys.map fun x : Fin 256 => hOf x.val (T x.val).ag) = hs T s 256 := by
      rw [fl_hs, ← hys, List.map_map]; rfl
    rw [hn] at hrow2
    have c0 := hbx2.cell
    have HX := hid (And.intro hbX (And.intro hK hrow2))
    clear hbX hbx2 hK hys hn hrow2
    go_wp2_with fail
    refine leaves_marks [D] X (fun W' => Below w.heap.size w W' ∧ W'.ownsRow (w.heap.size + 3) 26 1 v (hs T s 256).length (hds (hs T s 256))) ⟨HX.out.1, HX.out.2.2⟩ (fun D' hD' => by
      obtain rfl : D' = D := by simpa using hD'
      exact HX.out.2.1) (by simp) (fun W' D' hD' hI hK => ⟨hI.1.trans (belowK_b (w := w) (Nat.le_refl _) W' D' _ _ (by
      obtain rfl : D' = D := by simpa using hD'
      omega) hK rfl rfl), ownsRow_putObj hI.2 _ hK rfl⟩) (fun W' hI => ?_)
    exact ⟨_, results_tmp rfl _ _ _, v, rfl, ownsRow_low hI.2 (by omega), hI.1⟩
  case stop =>
    rintro D c pre X _ _ h _
    exact h.elim
theorem live_any {w : World} {b : Nat} {T : Nat → Pl} (ht : Tb w b T) (hw : Wf T) : Calls Try.prog 14 #[.pointer (some ⟨b, 0, none⟩)] w (HsPost w (hs T 1 256)) := by
  have H := hid (show Calls Try.prog 33 #[.pointer (some ⟨b, 0, none⟩), .int .i64 1] w (HsPost w (hs T 1 256)) from handles_any ht hw 1)
  clear ht hw
  go_enter Try.func14, Try.ntmps14
  go_wp2_with (go_at_call 33; refine H.out.mono ?_; rintro e w' ⟨v, rfl, hr, hb⟩)
  go_ret
  exact ⟨v, rfl, hr, hb⟩
theorem zombies_any {w : World} {b : Nat} {T : Nat → Pl} (ht : Tb w b T) (hw : Wf T) : Calls Try.prog 15 #[.pointer (some ⟨b, 0, none⟩)] w (HsPost w (hs T 2 256)) := by
  have H := hid (show Calls Try.prog 33 #[.pointer (some ⟨b, 0, none⟩), .int .i64 2] w (HsPost w (hs T 2 256)) from handles_any ht hw 2)
  clear ht hw
  go_enter Try.func15, Try.ntmps15
  go_wp2_with (go_at_call 33; refine H.out.mono ?_; rintro e w' ⟨v, rfl, hr, hb⟩)
  go_ret
  exact ⟨v, rfl, hr, hb⟩
end Go.Proofs.Ytoahfeckadaomaa
