/- The contract of Put. -/
import Derived.Test.YtoahfeckadaomaaJ
namespace Go.Proofs.Ytoahfeckadaomaa
open Go.RowKit Go.Maps Go.Shelf
attribute [local go_sem] Oper.semAt_some

/-- What Put answers and leaves, the first empty place being n. -/
def putA (T : Nat → Pl) (n : Nat) (o : Ob) : Nat × Int × (Nat → Pl) := if n < 256 then (hOf n (T n).ag, 0, putT T n o) else (0, 11, T)
def PutPost (w : World) (b : Nat) (p : Nat × Int × (Nat → Pl)) (e : Ending) (w' : World) : Prop := e = .returned (.tuple #[.int .u32 (p.1 : Int), .int .i64 p.2.1]) ∧ Tb w' b p.2.2 ∧ But b w w'
theorem first_eq {T : Nat → Pl} {n k : Nat} (h : First T n) (hk : k < 256) (hs : (T k).st = 0) (hl : ∀ j, j < k → (T j).st ≠ 0) : n = k := by
  rcases Nat.lt_trichotomy n k with e | e | e
  · exact absurd (h.2.1 (by omega)) (hl n e)
  · exact e
  · exact absurd hs (h.2.2 k e)
theorem first_no {T : Nat → Pl} {n : Nat} (h : First T n) (hl : ∀ j, j < 256 → (T j).st ≠ 0) : n = 256 := by
  rcases Nat.lt_or_ge n 256 with e | e
  · exact absurd (h.2.1 e) (hl n e)
  · exact Nat.le_antisymm h.1 e
theorem fl_nil {T : Nat → Pl} {s n : Nat} (h : fl T s n = []) : ∀ j, j < n → (T j).st ≠ s := fun j hj e => by
  have : j ∈ fl T s n := by
    unfold fl
    rw [List.mem_filter, List.mem_range]
    exact ⟨hj, by simpa using e⟩
  rw [h] at this
  cases this

theorem cells_own {β : Type} (B g : Nat) (cs : Array Value) (t : TypeId) : OwnFrom B (fun (_ : β) W => W.heap[g]? = some (.cells cs t)) := fun _ X Y row h hg hr =>
  (hg.block g (lt_of h) (fun e => by
    obtain ⟨_, o, ho, hc⟩ := hr g e.symm
    rw [h] at ho; cases ho; cases hc)).trans h
theorem tb_own {β : Type} (B b : Nat) (T : Nat → Pl) : OwnFrom B (fun (_ : β) W => Tb W b T) := fun _ X Y row ⟨cs, h, ha⟩ hg hr =>
  ⟨cs, (hg.block b (lt_of h) (fun e => by
    obtain ⟨_, o, ho, hc⟩ := hr b e.symm
    rw [h] at ho; cases ho; cases hc)).trans h, ha⟩
theorem but_own {β : Type} {B b : Nat} {w : World} (hB : w.heap.size ≤ B) : OwnFrom B (fun (_ : β) W => But b w W) := fun _ X Y row h hg hr =>
  ⟨hg.os.trans h.os, hg.tape.trans h.tape, hg.output.trans h.output, Nat.le_trans h.size hg.size, fun k hk hn => (hg.block k (Nat.lt_of_lt_of_le hk h.size) (fun e => by have := (hr k e.symm).1; omega)).trans (h.block k hk hn)⟩
theorem pure_own {β : Type} (B : Nat) (p : β → Prop) : OwnFrom B (fun s (_ : World) => p s) := fun _ _ _ _ h _ _ => h
theorem ex_own {β α : Type} {B : Nat} {I : α → β → World → Prop} (h : ∀ x, OwnFrom B (I x)) : OwnFrom B (fun s W => ∃ x, I x s W) := fun s X Y row ⟨x, hx⟩ hg hr => ⟨x, h x s X Y row hx hg hr⟩

/-- Ahead of the round in which a place is found. -/
def Ahead (w : World) (k a f : Int) (pre : List (Fin 256)) (X : World) : Prop :=
  pre = [] ∧ Below w.heap.size w X ∧ X.heap[w.heap.size]? = some (.cells #[.int .i64 k, .int .i64 a, .int .i64 f] 31) ∧ Boxed X (w.heap.size + 1) 26 (.int .u32 0) ∧ Boxed X (w.heap.size + 1 + 1) 27 (.int .i64 0)
/-- Behind it. -/
def Behind (w : World) (b : Nat) (T : Nat → Pl) (o : Ob) (c : Code) (pre : List (Fin 256)) (X : World) : Prop :=
  ∃ x : Fin 256, (c = .ret ∧ pre = [x]) ∧ Tb X b (putT T x.val o) ∧ But b w X ∧ Boxed X (w.heap.size + 1) 26 (.int .u32 ((hOf x.val (T x.val).ag : Nat) : Int)) ∧ Boxed X (w.heap.size + 1 + 1) 27 (.int .i64 0)
theorem ahead_own (w : World) (k a f : Int) (B : Nat) (hB : w.heap.size ≤ B) : OwnFrom B (Ahead w k a f) :=
  OwnFrom.and (pure_own B _) (OwnFrom.and (ownFrom_below (Nat.le_refl _) hB) (OwnFrom.and (cells_own B _ _ _) (OwnFrom.and (cells_own B _ _ _) (cells_own B _ _ _))))
theorem behind_own (w : World) (b : Nat) (T : Nat → Pl) (o : Ob) (B : Nat) (hB : w.heap.size ≤ B) (c : Code) : OwnFrom B (Behind w b T o c) :=
  ex_own (fun x => OwnFrom.and (pure_own B (fun pre => c = .ret ∧ pre = [x])) (OwnFrom.and (tb_own B b _) (OwnFrom.and (but_own hB) (OwnFrom.and (cells_own B _ _ _) (cells_own B _ _ _)))))

/-- What stands at the end. -/
def Ends (w : World) (b : Nat) (T' : Nat → Pl) (h : Nat) (er : Int) (W : World) : Prop := Tb W b T' ∧ But b w W ∧ Boxed W (w.heap.size + 1) 26 (.int .u32 (h : Int)) ∧ Boxed W (w.heap.size + 1 + 1) 27 (.int .i64 er)
theorem ends_own (w : World) (b : Nat) (T' : Nat → Pl) (h : Nat) (er : Int) : OwnFrom w.heap.size (fun (_ : Unit) W => Ends w b T' h er W) :=
  OwnFrom.and (tb_own _ b _) (OwnFrom.and (but_own (Nat.le_refl _)) (OwnFrom.and (cells_own _ _ _ _) (cells_own _ _ _ _)))
theorem put_end {w W : World} {b : Nat} {T' : Nat → Pl} {h : Nat} {er : Int} {D : Nat} {u0 u1 u2 u3 u6 u7 u8 u9 u10 u11 u12 u13 u14 u15 u16 u17 u18 u19 u20 u21 u22 : Value} (hE : Ends w b T' h er W) (hD : w.heap.size ≤ D) (hK : W.heap[D]? = some (.deferred (some []))) :
    bodyPostM Fence.wide 6 Try.prog Try.f8 (PutPost w b (h, er, T')) Exit.ret { tmps := #[u0, u1, u2, u3, .pointer (some ⟨w.heap.size + 1, 0, none⟩), .pointer (some ⟨w.heap.size + 1 + 1, 0, none⟩), u6, u7, u8, u9, u10, u11, u12, u13, u14, u15, u16, u17, u18, u19, u20, u21, u22], defers := [{ target := .collected D, args := #[] }] } W := by
  refine leaves_marks [D] W (Ends w b T' h er) hE (fun D' hD' => by
      obtain rfl : D' = D := by simpa using hD'
      exact hK) (by simp) (fun W' D' hD' hI hK' => ?_) (fun W' hI => ?_)
  · obtain rfl : D' = D := by simpa using hD'
    exact (ends_own w b T' h er).putObj (s := ()) _ hI hD hK' rfl
  · have c1 := hI.2.2.1.cell
    have c2 := hI.2.2.2.cell
    exact ⟨.tuple #[.int .u32 (h : Int), .int .i64 er], by simp [results, Try.results8, go_sem, c1, c2], rfl, hI.1, hI.2.1⟩
set_option maxRecDepth 100000 in
set_option maxHeartbeats 2000000 in
theorem put_any {w : World} {b : Nat} {T : Nat → Pl} (ht : Tb w b T) (hw : Wf T) (n : Nat) (hn : First T n) (o : Ob) : Calls Try.prog 8 #[.pointer (some ⟨b, 0, none⟩), obv o] w (PutPost w b (putA T n o)) := by
  obtain ⟨k, a, f⟩ := o
  unfold obv
  have HT := hid (And.intro ht (And.intro hw hn))
  clear ht hw hn
  refine (callsIn_wide (n := 6)).1 ?_
  refine callsIn_of_wp_marks Try.func8 rfl trivial ?_ rfl
  refine wpIn_wide.2 ?_
  simp only [Try.ntmps8, List.size_toArray, List.length_cons, List.length_nil, Nat.reduceAdd, Nat.reduceSub, Array.replicate_succ, Array.replicate_zero, List.push_toArray, List.append_toArray, List.nil_append, List.cons_append]
  go_wp2_with fail
  refine (in_any _ _ _).mono ?_
  rintro e w1 ⟨rfl, ew⟩
  have HW := hid ew
  clear ew
  go_wp2_with fail
  refine (wpIn_wide (n := 6)).1 ?_
  have hb1 : Below w.heap.size w w1 := by rw [HW.out]; exact (((((Below.refl _ w).alloc (Nat.le_refl _) _).alloc (by simp) _).alloc (by simp; omega) _).alloc (by simp; omega) _).alloc (by simp; omega) _
  have hs1 : w1.heap.size = w.heap.size + 5 := by rw [HW.out]; simp
  have hx0 : w1.heap[w.heap.size]? = some (.cells #[.int .i64 k, .int .i64 a, .int .i64 f] 31) := by
    rw [HW.out]
    have h0 := heap_alloc_new w (.cells #[.int .i64 k, .int .i64 a, .int .i64 f] 31)
    rw [Below.heap_alloc _ _ _ (by simp; omega), Below.heap_alloc _ _ _ (by simp; omega), Below.heap_alloc _ _ _ (by simp; omega), Below.heap_alloc _ _ _ (by simp)]
    exact h0
  obtain ⟨hy1, hy2⟩ := two_boxes (w.alloc (.cells #[.int .i64 k, .int .i64 a, .int .i64 f] 31)) (.int .u32 0) (.int .i64 0) 26 27
  rw [World.size_alloc] at hy1 hy2
  have hx1 : Boxed w1 (w.heap.size + 1) 26 (.int .u32 0) := by rw [HW.out]; exact (hy1.alloc _).alloc _
  have hx2 : Boxed w1 (w.heap.size + 1 + 1) 27 (.int .i64 0) := by rw [HW.out]; exact (hy2.alloc _).alloc _
  obtain ⟨hq1, hq2⟩ := two_boxes (((w.alloc (.cells #[.int .i64 k, .int .i64 a, .int .i64 f] 31)).alloc (.cells #[.int .u32 0] 26)).alloc (.cells #[.int .i64 0] 27)) (.pointer (some ⟨b, 0, none⟩)) (.int .i64 0) 24 62
  rw [← HW.out, World.size_alloc, World.size_alloc, World.size_alloc] at hq1 hq2
  have hR : Rds w1 w.heap.size (w.heap.size + 1 + 1 + 1) (w.heap.size + 1 + 1 + 1 + 1) b 0 T := ⟨hq1.cell, hq2.cell, HT.out.1.below hb1, HT.out.1.lt⟩
  have hbl := HT.out.1.lt
  have hOA := ahead_own w k a f w1.heap.size (by omega)
  have hOB := behind_own w b T ⟨k, a, f⟩ w1.heap.size (by omega)
  refine wpIn_rangeFunc_ownG rfl (by omega) (gf := 35) (lb := #[.pointer (some ⟨w.heap.size + 1 + 1 + 1, 0, none⟩), .pointer (some ⟨w.heap.size + 1 + 1 + 1 + 1, 0, none⟩)]) rfl trivial (enters_of Try.func35 (by kernel_rfl) rfl)
    (in1_stops 5 (w.heap.size + 1 + 1 + 1) (w.heap.size + 1 + 1 + 1 + 1) w.heap.size b 0 T w1 (by omega) (by omega) (by omega) hR) Kp.trans
    (fun X l o o' hl ho hc _ => ⟨(Below.refl _ X).grown (grownBy_putObj' X l o') (by have := lt_of ho; omega) (fun k e => by cases e; omega), World.putObj_heap_other (by omega), World.putObj_heap_other (by omega)⟩) (Below.refl _ _) (fun _ => rfl)
    (Ahead w k a f) (Behind w b T ⟨k, a, f⟩) ?hI ?hIx ?h0
    (fun x => { tmps := #[.pointer (some ⟨b, 0, none⟩), .agg #[.int .i64 k, .int .i64 a, .int .i64 f], undef, .pointer (some ⟨w.heap.size, 0, none⟩), .pointer (some ⟨w.heap.size + 1, 0, none⟩), .pointer (some ⟨w.heap.size + 1 + 1, 0, none⟩), .int .i64 (x.val : Int), .pointer (some ⟨b, x.val * 5, none⟩), .pointer (some ⟨b, 0, none⟩), .bool false, .pointer (some ⟨b, 0, none⟩), .func (.func 35) #[] #[.pointer (some ⟨w.heap.size + 1 + 1 + 1, 0, none⟩), .pointer (some ⟨w.heap.size + 1 + 1 + 1 + 1, 0, none⟩)], .int .i64 (x.val : Int), .pointer (some ⟨b, x.val * 5, none⟩), undef, undef, undef, undef, undef, undef, undef, undef, undef], defers := [] }) ?assign ?body ?done ?stop
  case hI => exact hOA
  case hIx => exact hOB
  case h0 => exact ⟨rfl, hb1, hx0, hx1, hx2⟩
  case assign =>
    intro l x X K hK
    dsimp only [plv]
    rw [zip2]
    simp only [List.setIfInBounds_toArray, List.set_cons_zero, List.set_cons_succ]
    gi_wp2
    exact hK
  case body =>
    rintro l pre x X ⟨rfl, hbX, hX0, hX1, hX2⟩ hlt
    have hxl := x.2
    have htX := HT.out.1.below hbX
    have hXs : w.heap.size + 1 + 1 < X.heap.size := hX2.lt
    obtain ⟨c0, c1, c2⟩ := (row3 hX0).1
    have HE := hid (show Calls Try.prog 28 #[.pointer (some ⟨b, x.val * 5, none⟩), .agg #[.int .i64 k, .int .i64 a, .int .i64 f]] X fun e w' => (∃ v, e = .returned v) ∧ Tb w' b (putT T x.val ⟨k, a, f⟩) ∧ But b X w' from enter_any htX x.val hxl ⟨k, a, f⟩)
    have HTo := hid (fun wx => together_any x.val (T x.val).ag hxl (HT.out.2.1 x.val hxl).2 wx)
    have H0 := hid (And.intro hbX (And.intro hX1 (And.intro hX2 htX)))
    have hagp : ((putT T x.val ⟨k, a, f⟩) x.val).ag = (T x.val).ag := by unfold putT; rw [upd_same]
    have HG := hid hagp
    clear hbX hX0 hX1 hX2 hOA hOB hb1 hx0 hx1 hx2 hy1 hy2 hq1 hq2 hR htX hagp
    have hf28 : Fence.wide.fn 28 := trivial
    have hf29 : Fence.wide.fn 29 := trivial
    gi_wp2_with (first
      | (gi_at_call 28; refine (CallsIn.inRound l (callsIn_wide.2 HE.out)).mono ?_; rintro e X1 ⟨⟨v, rfl⟩, hT1, hB1⟩
         have c4 := hT1.cag hxl
         rw [HG.out] at c4
         have g1 : Boxed X1 (w.heap.size + 1) 26 (.int .u32 0) := (hB1.block _ H0.out.2.1.lt (by omega)).trans H0.out.2.1
         have g2 : Boxed X1 (w.heap.size + 1 + 1) 27 (.int .i64 0) := (hB1.block _ H0.out.2.2.1.lt (by omega)).trans H0.out.2.2.1
         have d1 := g1.cell
         have d2 := g2.cell
         have f1 := g1.frozen
         have f2 := g2.frozen
         have H1 := hid (And.intro hT1 (And.intro hB1 (And.intro g1 g2)))
         clear hT1 hB1 g1 g2)
      | (gi_at_call 29; refine (CallsIn.inRound l (callsIn_wide.2 (HTo.out _))).mono ?_; rintro e X2 ⟨rfl, rfl⟩))
    obtain ⟨hT2, hB2, g1, g2⟩ := H1.out
    have hKO : KeepsOthers X X2 := ⟨hB2.size, fun j o hj ho => (hB2.block j (lt_of hj) (fun e => by
      subst e
      obtain ⟨cs, h, _⟩ := H0.out.2.2.2
      rw [h] at hj
      cases hj
      cases ho)).trans hj⟩
    refine ⟨((hKO.trans (KeepsOthers.setCell _ _ _)).trans (KeepsOthers.setCell _ _ _)).from _, x, ⟨rfl, rfl⟩, ?_, ?_, ?_, ?_⟩
    · exact hT2.same (by rw [Below.heap_setCell _ _ _ _ (by show b ≠ w.heap.size + 1 + 1; omega), Below.heap_setCell _ _ _ _ (by show b ≠ w.heap.size + 1; omega)])
    · exact (((But.of_below H0.out.1).trans hB2).setCell (p := ⟨w.heap.size + 1, 0, none⟩) (.inr (by show w.heap.size ≤ w.heap.size + 1; omega)) _).setCell (p := ⟨w.heap.size + 1 + 1, 0, none⟩) (.inr (by show w.heap.size ≤ w.heap.size + 1 + 1; omega)) _
    · exact (g1.set _).other (by omega) _
    · exact (g2.other (by omega) _).set _
  case done =>
    rintro D ys X hD hys ⟨rfl, hbX, hX0, hX1, hX2⟩ hK
    have hn : n = 256 := first_no HT.out.2.2 (fl_nil hys.symm)
    have hp : putA T n ⟨k, a, f⟩ = (0, 11, T) := by unfold putA; rw [if_neg (by omega)]
    have HP := hid hp
    have d1 := hX1.cell
    have d2 := hX2.cell
    have f1 := hX1.frozen
    have f2 := hX2.frozen
    have H1 := hid (And.intro hbX (And.intro hX1 (And.intro hX2 hK)))
    clear hbX hX0 hX1 hX2 hOA hOB hb1 hx0 hx1 hx2 hy1 hy2 hq1 hq2 hR hn hp hK hys
    go_wp2_with fail
    obtain ⟨hbX, g1, g2, hK⟩ := H1.out
    rw [HP.out]
    refine put_end (h := 0) ⟨?_, ?_, ?_, ?_⟩ (by omega) ?_
    · exact (HT.out.1.below hbX).same (by rw [Below.heap_setCell _ _ _ _ (by show b ≠ w.heap.size + 1 + 1; omega), Below.heap_setCell _ _ _ _ (by show b ≠ w.heap.size + 1; omega)])
    · exact ((But.of_below hbX).setCell (p := ⟨w.heap.size + 1, 0, none⟩) (.inr (by show w.heap.size ≤ w.heap.size + 1; omega)) _).setCell (p := ⟨w.heap.size + 1 + 1, 0, none⟩) (.inr (by show w.heap.size ≤ w.heap.size + 1 + 1; omega)) _
    · exact (g1.set _).other (by omega) _
    · exact (g2.other (by omega) _).set _
    · rw [Below.heap_setCell _ _ _ _ (by show D ≠ w.heap.size + 1 + 1; omega), Below.heap_setCell _ _ _ _ (by show D ≠ w.heap.size + 1; omega)]
      exact hK
  case stop =>
    rintro D c pre X hD ⟨q, hq, hst, hpre⟩ ⟨x, ⟨rfl, rfl⟩, hTX, hBX, hX1, hX2⟩ hK
    have hq2' : fl T 0 q = [] ∧ x.val = q := by
      have e := hpre.symm
      simp only [List.map_cons, List.map_nil] at e
      cases hf : fl T 0 q with
      | nil => rw [hf] at e; simp at e; exact ⟨rfl, e.symm⟩
      | cons y ys => rw [hf] at e; simp at e
    have hn : n = x.val := by rw [hq2'.2]; exact first_eq HT.out.2.2 hq hst (fl_nil hq2'.1)
    have hp : putA T n ⟨k, a, f⟩ = (hOf x.val (T x.val).ag, 0, putT T x.val ⟨k, a, f⟩) := by unfold putA; rw [if_pos (by have := x.2; omega), hn]
    rw [hp]
    have d1 := hX1.cell
    have d2 := hX2.cell
    have H1 := hid (And.intro hTX (And.intro hBX (And.intro hX1 (And.intro hX2 hK))))
    clear hTX hBX hX1 hX2 hOA hOB hb1 hx0 hx1 hx2 hy1 hy2 hq1 hq2 hR hn hp hK hq2' hpre
    gi_wp2
    obtain ⟨hTX, hBX, hX1, hX2, hK⟩ := H1.out
    exact put_end ⟨hTX, hBX, hX1, hX2⟩ (by omega) hK
end Go.Proofs.Ytoahfeckadaomaa
