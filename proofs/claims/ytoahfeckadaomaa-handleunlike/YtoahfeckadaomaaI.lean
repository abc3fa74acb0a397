/- Contracts of in and Room. -/
import Derived.Test.YtoahfeckadaomaaH
namespace Go.Proofs.Ytoahfeckadaomaa
open Go.RowKit Go.Maps Go.Shelf
attribute [local go_sem] Oper.semAt_some

theorem in_any (v : Option Addr) (s : Int) (w : World) : Calls Try.prog 27 #[.pointer v, .int .i64 s] w fun e w' => e = .returned (.func (.func 35) #[] #[.pointer (some ⟨w.heap.size, 0, none⟩), .pointer (some ⟨w.heap.size + 1, 0, none⟩)]) ∧ w' = (w.alloc (.cells #[.pointer v] 24)).alloc (.cells #[.int .i64 s] 62) := by
  go_enter Try.func27, Try.ntmps27
  go_wp2
  go_ret
  exact ⟨rfl, rfl⟩

theorem in1_stops (n B1 B2 n₀ b s : Nat) (T : Nat → Pl) (w : World) (h1 : B1 < w.heap.size) (h2 : B2 < w.heap.size) (hn₀ : n₀ ≤ w.heap.size) (hR : Rds w n₀ B1 B2 b s T) :
    SeqStopsK Fence.wide n Try.prog 35 #[.pointer (some ⟨B1, 0, none⟩), .pointer (some ⟨B2, 0, none⟩)] (plv b) (Kp n₀ B1 B2) (fun ys => ys.map Fin.val = fl T s 256) (fun pre => ∃ k, k < 256 ∧ (T k).st = s ∧ pre.map Fin.val = fl T s k ++ [k]) 256 w := fun l J Jx W hW hJ _ hY h0 =>
  in1_in n l B1 B2 n₀ b s T J Jx hY W (hR.keep ⟨hW.mono hn₀, hW.block B1 h1, hW.block B2 h2⟩) (fun pre W q h => hJ pre W _ none h (grownBy_drewN W q) (fun _ e => by cases e)) h0

/-- The iterator of a nil table has nothing. -/
theorem in1_nil (n : Nat) (l B1 B2 : Nat) (W : World) (h : W.cell? ⟨B1, 0, none⟩ = some (.pointer none)) :
    CallsIn Fence.wide n Try.prog 35 #[.func (.yield l) #[] #[], .pointer (some ⟨B1, 0, none⟩), .pointer (some ⟨B2, 0, none⟩)] W fun e W' => (∃ v, e = .returned v) ∧ W' = W := by
  refine callsIn_of_wp Try.func35 rfl trivial ?_ rfl
  simp only [Try.ntmps35, List.size_toArray, List.length_cons, List.length_nil, Nat.reduceAdd, Nat.reduceSub, Array.replicate_succ, Array.replicate_zero, List.push_toArray, List.append_toArray, List.nil_append, List.cons_append]
  gi_wp2
  refine bodyPost_ret (results_none rfl _ _ _) rfl ?_
  exact ⟨⟨_, rfl⟩, rfl⟩
theorem in1_nil_stops (n B1 B2 b : Nat) (w : World) (h1 : B1 < w.heap.size) (h : w.cell? ⟨B1, 0, none⟩ = some (.pointer none)) (Kp : World → World → Prop) :
    SeqStopsK Fence.wide n Try.prog 35 #[.pointer (some ⟨B1, 0, none⟩), .pointer (some ⟨B2, 0, none⟩)] (plv b) Kp (fun ys => ys = []) (fun _ => False) 0 w := fun l J Jx W hW _ _ _ h0 => by
  refine (in1_nil n l B1 B2 W ((hW.cell (p := ⟨B1, 0, none⟩) h1).trans h)).mono ?_
  rintro e W' ⟨hv, rfl⟩
  exact ⟨hv, .inl ⟨[], rfl, h0⟩⟩

theorem two_boxes (w : World) (u v : Value) (t1 t2 : TypeId) : Boxed ((w.alloc (.cells #[u] t1)).alloc (.cells #[v] t2)) w.heap.size t1 u ∧ Boxed ((w.alloc (.cells #[u] t1)).alloc (.cells #[v] t2)) (w.heap.size + 1) t2 v := by
  refine ⟨(Boxed.new w t1 u).alloc _, ?_⟩
  have := Boxed.new (w.alloc (.cells #[u] t1)) t2 v
  rw [World.size_alloc] at this
  exact this

theorem zip2 (p q : Nat) (u v : Value) (A : Array Value) : ((#[p, q].zip #[u, v]).foldl (fun t (x : Nat × Value) => t.setIfInBounds x.1 x.2) A) = (A.setIfInBounds p u).setIfInBounds q v := by
  simp
set_option maxRecDepth 100000 in
set_option maxHeartbeats 2000000 in
theorem room_any {w : World} {b : Nat} {T : Nat → Pl} (ht : Tb w b T) : Calls Try.prog 12 #[.pointer (some ⟨b, 0, none⟩)] w fun e w' => e = .returned (.int .i64 (cn T 0 256 : Nat)) ∧ Below w.heap.size w w' := by
  have HT := hid ht
  clear ht
  refine (callsIn_wide (n := 6)).1 ?_
  refine callsIn_of_wp_marks Try.func12 rfl trivial ?_ rfl
  refine wpIn_wide.2 ?_
  simp only [Try.ntmps12, List.size_toArray, List.length_cons, List.length_nil, Nat.reduceAdd, Nat.reduceSub, Array.replicate_succ, Array.replicate_zero, List.push_toArray, List.append_toArray, List.nil_append, List.cons_append]
  go_wp2_with fail
  refine (in_any _ _ _).mono ?_
  rintro e w1 ⟨rfl, ew⟩
  have HW := hid ew
  clear ew
  go_wp2_with fail
  refine (wpIn_wide (n := 6)).1 ?_
  have hb1 : Below w.heap.size w w1 := by rw [HW.out]; exact (((Below.refl _ w).alloc (Nat.le_refl _) _).alloc (by simp) _).alloc (by simp; omega) _
  have hs1 : w1.heap.size = w.heap.size + 3 := by rw [HW.out]; simp
  have hbx : Boxed w1 w.heap.size 3 (.int .i64 0) := by rw [HW.out]; exact ((Boxed.new w 3 (.int .i64 0)).alloc _).alloc _
  obtain ⟨hq1, hq2⟩ := two_boxes (w.alloc (.cells #[.int .i64 0] 3)) (.pointer (some ⟨b, 0, none⟩)) (.int .i64 0) 24 62
  rw [← HW.out, World.size_alloc] at hq1 hq2
  have hR : Rds w1 w.heap.size (w.heap.size + 1) (w.heap.size + 1 + 1) b 0 T := ⟨hq1.cell, hq2.cell, HT.out.below hb1, HT.out.lt⟩
  refine wpIn_rangeFunc_ownG rfl (by omega) (gf := 35) (lb := #[.pointer (some ⟨w.heap.size + 1, 0, none⟩), .pointer (some ⟨w.heap.size + 1 + 1, 0, none⟩)]) rfl trivial (enters_of Try.func35 (by kernel_rfl) rfl)
    (in1_stops 5 (w.heap.size + 1) (w.heap.size + 1 + 1) w.heap.size b 0 T w1 (by omega) (by omega) (by omega) hR) Kp.trans
    (fun X l o o' hl ho hc _ => ⟨(Below.refl _ X).grown (grownBy_putObj' X l o') (by have := lt_of ho; omega) (fun k e => by cases e; omega), World.putObj_heap_other (by omega), World.putObj_heap_other (by omega)⟩) (Below.refl _ _) (fun _ => rfl)
    (fun (pre : List (Fin 256)) X => Below w.heap.size w X ∧ Boxed X w.heap.size 3 (.int .i64 (pre.length : Nat)))
    (fun _ _ _ => False)
    (OwnFrom.and (ownFrom_below (Nat.le_refl _) (by omega)) (Own.from (boxed_own w.heap.size 3 (fun (pre : List (Fin 256)) => .int .i64 (pre.length : Nat))) _))
    (fun _ _ _ _ _ hs _ _ => hs) ⟨hb1, hbx⟩
    (fun x => { tmps := #[.pointer (some ⟨b, 0, none⟩), undef, .int .i64 0, .pointer (some ⟨w.heap.size, 0, none⟩), .pointer (some ⟨b, 0, none⟩), .func (.func 35) #[] #[.pointer (some ⟨w.heap.size + 1, 0, none⟩), .pointer (some ⟨w.heap.size + 1 + 1, 0, none⟩)], .int .i64 (x.val : Int), .pointer (some ⟨b, x.val * 5, none⟩), undef, undef, undef], defers := [] }) ?assign ?body ?done ?stop
  case assign =>
    intro l x X K hK
    dsimp only [plv]
    rw [zip2]
    simp only [List.setIfInBounds_toArray, List.set_cons_zero, List.set_cons_succ]
    gi_wp2
    exact hK
  case body =>
    rintro l pre x X ⟨hbX, hbxX⟩ hlt
    have c0 := hbxX.cell
    have f0 := hbxX.frozen
    have hset := hbxX.set (.int .i64 ((pre.length + 1 : Nat) : Int))
    have hK4 : KeepsOthers X (X.setCell ⟨w.heap.size, 0, none⟩ (.int .i64 ((pre.length + 1 : Nat) : Int))) := KeepsOthers.setCell _ _ _
    have hKp : Kp w.heap.size (w.heap.size + 1) (w.heap.size + 1 + 1) X (X.setCell ⟨w.heap.size, 0, none⟩ (.int .i64 ((pre.length + 1 : Nat) : Int))) :=
      ⟨(Below.refl _ X).setCell (p := ⟨w.heap.size, 0, none⟩) (Nat.le_refl _) _, Below.heap_setCell _ _ _ _ (by show w.heap.size + 1 ≠ w.heap.size; omega), Below.heap_setCell _ _ _ _ (by show w.heap.size + 1 + 1 ≠ w.heap.size; omega)⟩
    have hI : Below w.heap.size w (X.setCell ⟨w.heap.size, 0, none⟩ (.int .i64 ((pre.length + 1 : Nat) : Int))) := hbX.trans hKp.1
    have HF := hid (And.intro (hK4.from w1.heap.size) (And.intro hKp (And.intro hI hset)))
    have hl : ((pre ++ [x]).length : Nat) = pre.length + 1 := by simp
    clear hset hK4 hKp hI hbX hbxX hb1 hbx hq1 hq2 hR
    generalize pre.length = n at *
    gi_wp2
    show ownPostG _ _ _ _ _ _ _ _ _
    rw [show ((n : Int) + 1) = ((n + 1 : Nat) : Int) by omega]
    refine ⟨HF.out.1, HF.out.2.1, HF.out.2.2.1, ?_⟩
    rw [hl]
    exact HF.out.2.2.2
  case done =>
    rintro D ys X hD hys ⟨hbX, hbxX⟩ hK
    have hn : ys.length = cn T 0 256 := by
      have := congrArg List.length hys
      rw [List.length_map] at this
      rw [this]
      unfold cn
      rw [fl_hs, List.length_map]
    rw [hn] at hbxX
    have c0 := hbxX.cell
    have HX := hid (And.intro hbX hK)
    clear hbX hbxX hK hys hn
    obtain ⟨n, hn⟩ : ∃ n, n = cn T 0 256 := ⟨_, rfl⟩
    rw [← hn] at c0
    have HN := hid hn
    clear hn
    go_wp2_with fail
    refine leaves_marks [D] X (fun W' => Below w.heap.size w W') HX.out.1 (fun D' hD' => by
      obtain rfl : D' = D := by simpa using hD'
      exact HX.out.2) (by simp) (fun W' D' hD' hI hK => hI.trans (belowK_b (w := w) (Nat.le_refl _) W' D' _ _ (by
      obtain rfl : D' = D := by simpa using hD'
      omega) hK rfl rfl)) (fun W' hI => ?_)
    exact ⟨_, results_tmp rfl _ _ _, by rw [← HN.out]; rfl, hI⟩
  case stop =>
    rintro D c pre X _ _ h _
    exact h.elim
end Go.Proofs.Ytoahfeckadaomaa
