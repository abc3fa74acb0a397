/- What a nil table answers. -/
import Derived.Test.YtoahfeckadaomaaK
namespace Go.Proofs.Ytoahfeckadaomaa
open Go.RowKit Go.Maps Go.Shelf
attribute [local go_sem] Oper.semAt_some

theorem put_nil (o : Ob) (w : World) : Calls Try.prog 8 #[.pointer none, obv o] w fun e w' => e = .returned (.tuple #[.int .u32 0, .int .i64 1]) ∧ Below w.heap.size w w' := by
  obtain ⟨k, a, f⟩ := o
  unfold obv
  go_enter Try.func8, Try.ntmps8
  go_wp2
  refine bodyPost_ret (v := .tuple #[.int .u32 0, .int .i64 1]) (by simp [results, Try.results8, go_sem]) rfl ⟨rfl, ?_⟩
  first | exact (((Below.refl _ w).alloc (Nat.le_refl _) _).alloc (by simp) _).alloc (by simp; omega) _ | skip
theorem get_nil (h : Nat) (w : World) : Calls Try.prog 9 #[.pointer none, .int .u32 (h : Int)] w (ObPost w noOb 1) := by
  have hz : ((w.alloc (.cells #[.int .i64 0, .int .i64 0, .int .i64 0] 31)).alloc (.cells #[.int .i64 1] 62)).heap[w.heap.size]? = some (.cells #[.int .i64 0, .int .i64 0, .int .i64 0] 31) := (Below.heap_alloc _ _ _ (by simp)).trans (heap_alloc_new _ _)
  have hb : Below w.heap.size w ((w.alloc (.cells #[.int .i64 0, .int .i64 0, .int .i64 0] 31)).alloc (.cells #[.int .i64 1] 62)) := ((Below.refl _ w).alloc (Nat.le_refl _) _).alloc (by simp) _
  have H0 := hid (And.intro hz hb)
  clear hz hb
  go_enter Try.func9, Try.ntmps9
  go_wp2_with (go_at_call 30; refine (obj_nil _ _ _).mono ?_; rintro e w' ⟨rfl, hb'⟩; unfold obv noOb; obtain ⟨⟨c0, c1, c2⟩, f0, f1, f2⟩ := row3 ((hb'.block w.heap.size (by simp; omega)).trans H0.out.1))
  refine bodyPost_ret (v := .tuple #[obv noOb, .int .i64 1]) (by simp [results, Try.results9, go_sem, obv, noOb, c0, c1, c2]) rfl ⟨rfl, ?_⟩
  exact (((H0.out.2.trans (hb'.mono (by simp; omega))).setCell (Nat.le_refl _) _).setCell (Nat.le_refl _) _).setCell (Nat.le_refl _) _
theorem peek_nil (h : Nat) (w : World) : Calls Try.prog 11 #[.pointer none, .int .u32 (h : Int)] w (ObPost w noOb 1) := by
  have hz : ((w.alloc (.cells #[.int .i64 0, .int .i64 0, .int .i64 0] 31)).alloc (.cells #[.int .i64 1, .int .i64 2] 62)).heap[w.heap.size]? = some (.cells #[.int .i64 0, .int .i64 0, .int .i64 0] 31) := (Below.heap_alloc _ _ _ (by simp)).trans (heap_alloc_new _ _)
  have hb : Below w.heap.size w ((w.alloc (.cells #[.int .i64 0, .int .i64 0, .int .i64 0] 31)).alloc (.cells #[.int .i64 1, .int .i64 2] 62)) := ((Below.refl _ w).alloc (Nat.le_refl _) _).alloc (by simp) _
  have H0 := hid (And.intro hz hb)
  clear hz hb
  go_enter Try.func11, Try.ntmps11
  go_wp2_with (go_at_call 30; refine (obj_nil _ _ _).mono ?_; rintro e w' ⟨rfl, hb'⟩; unfold obv noOb; obtain ⟨⟨c0, c1, c2⟩, f0, f1, f2⟩ := row3 ((hb'.block w.heap.size (by simp; omega)).trans H0.out.1))
  refine bodyPost_ret (v := .tuple #[obv noOb, .int .i64 1]) (by simp [results, Try.results11, go_sem, obv, noOb, c0, c1, c2]) rfl ⟨rfl, ?_⟩
  exact (((H0.out.2.trans (hb'.mono (by simp; omega))).setCell (Nat.le_refl _) _).setCell (Nat.le_refl _) _).setCell (Nat.le_refl _) _
theorem free_nil (h : Nat) (w : World) : Calls Try.prog 10 #[.pointer none, .int .u32 (h : Int)] w (ObPost w noOb 1) := by
  go_enter Try.func10, Try.ntmps10
  go_wp2_with (go_at_call 31; refine (find_nil _ _ _).mono ?_; rintro e w' ⟨rfl, rfl⟩)
  exact bodyPost_ret (v := .tuple #[obv noOb, .int .i64 1]) (by simp [results, Try.results10, go_sem, obv, noOb]) rfl ⟨rfl, ((Below.refl _ w).alloc (Nat.le_refl _) _).alloc (by simp) _⟩
theorem kill_nil (h : Nat) (w : World) : Calls Try.prog 13 #[.pointer none, .int .u32 (h : Int)] w fun e w' => e = .returned (.int .i64 1) ∧ Below w.heap.size w w' := by
  go_enter Try.func13, Try.ntmps13
  go_wp2_with (go_at_call 31; refine (find_nil _ _ _).mono ?_; rintro e w' ⟨rfl, rfl⟩)
  go_ret
  exact ⟨rfl, (Below.refl _ w).alloc (Nat.le_refl _) _⟩
theorem age_nil (p a : Int) (w : World) : Calls Try.prog 16 #[.pointer none, .int .i64 p, .int .i64 a] w fun e w' => e = .returned (.bool false) ∧ w' = w := by
  go_enter Try.func16, Try.ntmps16
  go_wp2
  go_ret
  exact ⟨rfl, rfl⟩

set_option maxRecDepth 100000 in
set_option maxHeartbeats 2000000 in
theorem room_nil (w : World) : Calls Try.prog 12 #[.pointer none] w fun e w' => e = .returned (.int .i64 0) ∧ Below w.heap.size w w' := by
  refine (callsIn_wide (n := 6)).1 ?_
  refine callsIn_of_wp_marks Try.func12 rfl trivial ?_ rfl
  refine wpIn_wide.2 ?_
  simp only [Try.ntmps12, List.size_toArray, List.length_cons, List.length_nil, Nat.reduceAdd, Nat.reduceSub, Array.replicate_succ, Array.replicate_zero, List.push_toArray, List.append_toArray, List.nil_append, List.cons_append]
  go_wp2_with fail
  refine (in_any _ _ _).mono ?_
  rintro e w1 ⟨rfl, ew⟩
  have HW := hid ew
  clear ew
  go_wp2_with fail
  refine (wpIn_wide (n := 6)).1 ?_
  have hb1 : Below w.heap.size w w1 := by rw [HW.out]; exact (((Below.refl _ w).alloc (Nat.le_refl _) _).alloc (by simp) _).alloc (by simp; omega) _
  have hs1 : w1.heap.size = w.heap.size + 3 := by rw [HW.out]; simp
  have hbx : Boxed w1 w.heap.size 3 (.int .i64 0) := by rw [HW.out]; exact ((Boxed.new w 3 (.int .i64 0)).alloc _).alloc _
  obtain ⟨hq1, hq2⟩ := two_boxes (w.alloc (.cells #[.int .i64 0] 3)) (.pointer none) (.int .i64 0) 24 62
  rw [← HW.out, World.size_alloc] at hq1 hq2
  refine wpIn_rangeFunc_ownG rfl (by omega) (gf := 35) (lb := #[.pointer (some ⟨w.heap.size + 1, 0, none⟩), .pointer (some ⟨w.heap.size + 1 + 1, 0, none⟩)]) rfl trivial (enters_of Try.func35 (by kernel_rfl) rfl)
    (in1_nil_stops 5 (w.heap.size + 1) (w.heap.size + 1 + 1) 0 w1 (by omega) hq1.cell (fun _ _ => True)) (fun _ _ => trivial)
    (fun X l o o' hl ho hc _ => trivial) (Below.refl _ _) (fun _ => rfl)
    (fun (pre : List (Fin 256)) X => pre = [] ∧ Below w.heap.size w X ∧ Boxed X w.heap.size 3 (.int .i64 0))
    (fun _ _ _ => False) ?hI
    (fun _ _ _ _ _ hs _ _ => hs) ⟨rfl, hb1, hbx⟩
    (fun x => { tmps := #[.pointer none, undef, .int .i64 0, .pointer (some ⟨w.heap.size, 0, none⟩), .pointer none, .func (.func 35) #[] #[.pointer (some ⟨w.heap.size + 1, 0, none⟩), .pointer (some ⟨w.heap.size + 1 + 1, 0, none⟩)], .int .i64 (x.val : Int), .pointer (some ⟨0, x.val * 5, none⟩), undef, undef, undef], defers := [] }) ?assign ?body ?done ?stop
  case hI => exact OwnFrom.and (pure_own _ _) (OwnFrom.and (ownFrom_below (Nat.le_refl _) (by omega)) (cells_own _ _ _ _))
  case assign =>
    intro l x X K hK
    dsimp only [plv]
    rw [zip2]
    simp only [List.setIfInBounds_toArray, List.set_cons_zero, List.set_cons_succ]
    gi_wp2
    exact hK
  case body =>
    rintro l pre x X _ hlt
    exact absurd hlt (by omega)
  case done =>
    rintro D ys X hD hys ⟨_, hbX, hbxX⟩ hK
    have c0 := hbxX.cell
    have HX := hid (And.intro hbX hK)
    clear hbX hbxX hK hys
    go_wp2_with fail
    refine leaves_marks [D] X (fun W' => Below w.heap.size w W') HX.out.1 (fun D' hD' => by
      obtain rfl : D' = D := by simpa using hD'
      exact HX.out.2) (by simp) (fun W' D' hD' hI hK => hI.trans (belowK_b (w := w) (Nat.le_refl _) W' D' _ _ (by
      obtain rfl : D' = D := by simpa using hD'
      omega) hK rfl rfl)) (fun W' hI => ?_)
    exact ⟨_, results_tmp rfl _ _ _, rfl, hI⟩
  case stop =>
    rintro D c pre X _ _ h _
    exact h.elim
set_option maxRecDepth 100000 in
set_option maxHeartbeats 2000000 in
theorem handles_nil (s : Int) (w : World) : Calls Try.prog 33 #[.pointer none, .int .i64 s] w fun e w' => e = .returned (.slice none 0 0) ∧ Below w.heap.size w w' := by
  refine (callsIn_wide (n := 6)).1 ?_
  refine callsIn_of_wp_marks Try.func33 rfl trivial ?_ rfl
  refine wpIn_wide.2 ?_
  simp only [Try.ntmps33, List.size_toArray, List.length_cons, List.length_nil, Nat.reduceAdd, Nat.reduceSub, Array.replicate_succ, Array.replicate_zero, List.push_toArray, List.append_toArray, List.nil_append, List.cons_append]
  go_wp2_with fail
  refine (in_any _ _ _).mono ?_
  rintro e w1 ⟨rfl, ew⟩
  have HW := hid ew
  clear ew
  go_wp2_with fail
  refine (wpIn_wide (n := 6)).1 ?_
  have hb1 : Below w.heap.size w w1 := by rw [HW.out]; exact (((Below.refl _ w).alloc (Nat.le_refl _) _).alloc (by simp) _).alloc (by simp; omega) _
  have hs1 : w1.heap.size = w.heap.size + 3 := by rw [HW.out]; simp
  have hbx : Boxed w1 w.heap.size 36 (.slice none 0 0) := by rw [HW.out]; exact ((Boxed.new w 36 (.slice none 0 0)).alloc _).alloc _
  obtain ⟨hq1, hq2⟩ := two_boxes (w.alloc (.cells #[.slice none 0 0] 36)) (.pointer none) (.int .i64 s) 24 62
  rw [← HW.out, World.size_alloc] at hq1 hq2
  refine wpIn_rangeFunc_ownG rfl (by omega) (gf := 35) (lb := #[.pointer (some ⟨w.heap.size + 1, 0, none⟩), .pointer (some ⟨w.heap.size + 1 + 1, 0, none⟩)]) rfl trivial (enters_of Try.func35 (by kernel_rfl) rfl)
    (in1_nil_stops 5 (w.heap.size + 1) (w.heap.size + 1 + 1) 0 w1 (by omega) hq1.cell (fun _ _ => True)) (fun _ _ => trivial)
    (fun X l o o' hl ho hc _ => trivial) (Below.refl _ _) (fun _ => rfl)
    (fun (pre : List (Fin 256)) X => pre = [] ∧ Below w.heap.size w X ∧ Boxed X w.heap.size 36 (.slice none 0 0))
    (fun _ _ _ => False) ?hI
    (fun _ _ _ _ _ hs _ _ => hs) ⟨rfl, hb1, hbx⟩
    (fun x => { tmps := #[.pointer none, .int .i64 s, undef, undef, .slice none 0 0, .pointer (some ⟨w.heap.size, 0, none⟩), .int .i64 (x.val : Int), .pointer (some ⟨0, x.val * 5, none⟩), .pointer none, .int .i64 s, .func (.func 35) #[] #[.pointer (some ⟨w.heap.size + 1, 0, none⟩), .pointer (some ⟨w.heap.size + 1 + 1, 0, none⟩)], .int .i64 (x.val : Int), .pointer (some ⟨0, x.val * 5, none⟩), undef, undef, undef, undef, undef, undef, undef, undef, undef, undef], defers := [] }) ?assign ?body ?done ?stop
  case hI => exact OwnFrom.and (pure_own _ _) (OwnFrom.and (ownFrom_below (Nat.le_refl _) (by omega)) (cells_own _ _ _ _))
  case assign =>
    intro l x X K hK
    dsimp only [plv]
    rw [zip2]
    simp only [List.setIfInBounds_toArray, List.set_cons_zero, List.set_cons_succ]
    gi_wp2
    exact hK
  case body =>
    rintro l pre x X _ hlt
    exact absurd hlt (by omega)
  case done =>
    rintro D ys X hD hys ⟨_, hbX, hbxX⟩ hK
    have c0 := hbxX.cell
    have HX := hid (And.intro hbX hK)
    clear hbX hbxX hK hys
    go_wp2_with fail
    refine leaves_marks [D] X (fun W' => Below w.heap.size w W') HX.out.1 (fun D' hD' => by
      obtain rfl : D' = D := by simpa using hD'
      exact HX.out.2) (by simp) (fun W' D' hD' hI hK => hI.trans (belowK_b (w := w) (Nat.le_refl _) W' D' _ _ (by
      obtain rfl : D' = D := by simpa using hD'
      omega) hK rfl rfl)) (fun W' hI => ?_)
    exact ⟨_, results_tmp rfl _ _ _, rfl, hI⟩
  case stop =>
    rintro D c pre X _ _ h _
    exact h.elim
theorem live_nil (w : World) : Calls Try.prog 14 #[.pointer none] w fun e w' => e = .returned (.slice none 0 0) ∧ Below w.heap.size w w' := by
  go_enter Try.func14, Try.ntmps14
  go_wp2_with (go_at_call 33; refine (handles_nil _ _).mono ?_; rintro e w' ⟨rfl, hb⟩)
  go_ret
  exact ⟨rfl, hb⟩
theorem zombies_nil (w : World) : Calls Try.prog 15 #[.pointer none] w fun e w' => e = .returned (.slice none 0 0) ∧ Below w.heap.size w w' := by
  go_enter Try.func15, Try.ntmps15
  go_wp2_with (go_at_call 33; refine (handles_nil _ _).mono ?_; rintro e w' ⟨rfl, hb⟩)
  go_ret
  exact ⟨rfl, hb⟩
end Go.Proofs.Ytoahfeckadaomaa
