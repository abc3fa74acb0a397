/- Tick of a nil queue; and the function alive. -/
import Derived.Test.YtgoennbbpndiiaaH
namespace Go.Proofs.Ytgoennbbpndiiaa
open Go.RowKit Go.Maps Go.Shelf
attribute [local go_sem] Oper.semAt_some

theorem due1_nil (n k B : Nat) (W : World) (h : W.cell? ⟨B, 0, none⟩ = some (.pointer none)) :
    CallsIn Fence.wide n Try.prog 20 #[.func (.yield k) #[] #[], .pointer (some ⟨B, 0, none⟩)] W fun e W' => (∃ v, e = .returned v) ∧ W' = W := by
  refine callsIn_of_wp Try.func20 rfl trivial ?_ rfl
  simp only [Try.ntmps20, List.size_toArray, List.length_cons, List.length_nil, Nat.reduceAdd, Nat.reduceSub, Array.replicate_succ, Array.replicate_zero, List.push_toArray, List.append_toArray, List.nil_append, List.cons_append]
  gi_wp2_with fail
  gi_loopw [3] (fun _ wr => wr = W) (fun _ _ => 0)
  case atStart => exact rfl
  case round =>
    obtain rfl := hrel
    gi_wp2_with (refine ⟨trivial, fun h => (by cases h), ?_⟩; gi_at_call 18; refine (callsIn_wide.2 (all_nil _)).mono ?_; rintro e w' ⟨rfl, rfl⟩)
    go_end0
    exact ⟨⟨_, rfl⟩, rfl⟩

set_option maxRecDepth 100000 in
set_option maxHeartbeats 2000000 in
theorem tick_nil (w : World) : Calls Try.prog 11 #[.pointer none] w fun e w' => e = .returned (.slice none 0 0) ∧ Below w.heap.size w w' := by
  refine (callsIn_wide (n := 6)).1 ?_
  refine callsIn_of_wp_marks Try.func11 rfl trivial ?_ rfl
  refine wpIn_wide.2 ?_
  simp only [Try.ntmps11, List.size_toArray, List.length_cons, List.length_nil, Nat.reduceAdd, Nat.reduceSub, Array.replicate_succ, Array.replicate_zero, List.push_toArray, List.append_toArray, List.nil_append, List.cons_append]
  go_wp2_with (go_at_call 18; refine (all_nil _).mono ?_; rintro e w' ⟨rfl, rfl⟩)
  go_loopw [11] (fun c wr => c = .int .i64 0 ∧ wr = w') (fun _ _ => 0)
  case atStart => exact ⟨rfl, rfl⟩
  case round =>
    obtain ⟨rfl, rfl⟩ := hrel
    go_wp2_with (go_at_call 19; refine (due_any _ _).mono ?_; rintro e w' ⟨rfl, ew⟩; have EW := hid ew; clear ew)
    have ew := EW.out
    clear EW
    have hb2 : Below wr.heap.size wr w' := by rw [ew]; exact ((Below.refl _ wr).alloc (Nat.le_refl _) _).alloc (by simp) _
    have hs2 : w'.heap.size = wr.heap.size + 2 := by rw [ew]; simp
    have hbx : Boxed w' wr.heap.size 29 (.slice none 0 0) := by rw [ew]; exact (Boxed.new wr 29 (.slice none 0 0)).alloc _
    have hby : Boxed w' (wr.heap.size + 1) 24 (.pointer none) := by
      have := Boxed.new (wr.alloc (.cells #[.slice none 0 0] 29)) 24 (.pointer none)
      rw [World.size_alloc] at this
      rw [ew]
      exact this
    clear ew
    refine (wpIn_wide (n := 6)).1 ?_
    refine range_under (by omega) (gf := 20) (lb := #[.pointer (some ⟨wr.heap.size + 1, 0, none⟩)]) rfl (enters_of Try.func20 (by kernel_rfl) rfl) ?_
    intro rec W1 hU hs1 hb1 hL1 hD1
    rw [hs2] at hU hL1 hD1 hb1 hs1
    rw [show wr.heap.size + 2 + 1 = wr.heap.size + 3 from rfl] at hU hL1
    rw [hs2, show wr.heap.size + 2 + 1 = wr.heap.size + 3 from rfl]
    have hby1 : Boxed W1 (wr.heap.size + 1) 24 (.pointer none) := (hb1.block _ (by omega)).trans hby
    have hbx1 : Boxed W1 wr.heap.size 29 (.slice none 0 0) := (hb1.block _ (by omega)).trans hbx
    refine (due1_nil (6 - 1) (wr.heap.size + 3) (wr.heap.size + 1) W1 hby1.cell).mono ?_
    rintro e W2 ⟨hv, rfl⟩
    refine ⟨hv, hL1, ?_⟩
    have hbe : Below wr.heap.size wr (W2.putObj (wr.heap.size + 3) (rec .exhausted)) := (hb2.trans (hb1.mono (by omega))).trans (below_putObj (by omega) (by omega))
    have hu2 : Boxed (W2.putObj (wr.heap.size + 3) (rec .exhausted)) wr.heap.size 29 (.slice none 0 0) := (World.putObj_heap_other (by omega)).trans hbx1
    have hde2 : (W2.putObj (wr.heap.size + 3) (rec .exhausted)).heap[wr.heap.size + 2]? = some (.deferred (some [])) := (World.putObj_heap_other (by omega)).trans hD1
    generalize W2.putObj (wr.heap.size + 3) (rec .exhausted) = W4 at *
    have cu := hu2.cell
    have HF := hid (And.intro hbe hde2)
    clear hbe hde2 hu2 hU hL1 hD1 hb1 hs1 hb2 hbx hby hs2 hv hby1 hbx1
    go_wp2_with fail
    refine leaves_marks [wr.heap.size + 2] W4 (fun W' => Below wr.heap.size wr W') HF.out.1 (fun D' hD' => by
      obtain rfl : D' = wr.heap.size + 2 := by simpa using hD'
      exact HF.out.2) (by simp) (fun W' D' hD' hI _ => ?_) (fun W' hI => ?_)
    · obtain rfl : D' = wr.heap.size + 2 := by simpa using hD'
      exact hI.trans (below_putObj (by omega) hI.size)
    · exact ⟨_, results_tmp rfl _ _ _, rfl, hI⟩

/-- A queue that was made behind the world v0, in the world w; nothing turned that was there in v0. -/
structure Gq (v0 w : World) (b : Nat) (v : Value) (p : Int) (l : List (Int × Int)) : Prop where
  qu : Qu w b v p l
  bel : Below v0.heap.size v0 w
  le : v0.heap.size ≤ b
section
variable {v0 w w' : World} {b : Nat} {v v' : Value} {p : Int} {l l' : List (Int × Int)}
theorem Gq.new (w : World) (n : Int) : Gq w (w.alloc (.cells #[.int .i64 n, .slice none 0 0] 44)) w.heap.size (.slice none 0 0) n [] := ⟨new_qu n w, (Below.refl _ _).alloc (Nat.le_refl _) _, Nat.le_refl _⟩
theorem Gq.below (h : Gq v0 w b v p l) (hb : Below w.heap.size w w') : Gq v0 w' b v p l := ⟨h.qu.below hb (Nat.le_refl _), Below.of_below h.bel h.bel.size hb, h.le⟩
theorem Gq.left (h : Gq v0 w b v p l) (hL : Left w b v p l' v' w') : Gq v0 w' b v' p l' :=
  ⟨hL.qu, Below.of_turn h.bel h.bel.size hL.turn (fun _ hk => Nat.le_trans h.le (h.qu.lt hk).1), h.le⟩
end
theorem src_one {w : World} {S : Nat → Prop} {g : Nat} {x : Int} {t : TypeId} (h : w.heap[g]? = some (.cells #[.int .i64 x] t)) (hn : ¬ S g) (cap : Nat) : Src w S (.slice (some ⟨g, 0, none⟩) 1 cap) [x] :=
  ⟨_, cap, rfl, fun k y hk => by
    match k, hk with
    | 0, hk =>
      obtain rfl : x = y := by simpa using hk
      exact ⟨g, 0, rfl, hn, lt_of h, by rw [cell_of_row _ _ _ _ _ _ h]; rfl⟩⟩

set_option maxRecDepth 100000 in
set_option maxHeartbeats 2000000 in
theorem alive_true (w : World) : Calls Try.prog 6 #[] w fun e w' => e = .returned (.bool true) ∧ Below w.heap.size w w' := by
  go_enter Try.func6, Try.ntmps6
  go_wp2_with (go_at_call 7; refine (new_any 2 _ (by decide) (by decide)).mono ?_; rintro e w1 ⟨rfl, ew⟩; have EW := hid ew; clear ew)
  have hG := Gq.new w 2
  rw [← EW.out] at hG
  have hA := heap_alloc_new w1 (.cells #[.int .i64 7] 3)
  have hG1 := hG.below ((Below.refl _ w1).alloc (Nat.le_refl _) (.cells #[.int .i64 7] 3))
  refine (add_any hG1.qu _ [7] (src_one hA (fun h => by have := (hG.qu.lt h).2; omega) 1) (by decide)).mono ?_
  rintro e w2 ⟨rfl, v2, hL2⟩
  have hG2 := hG1.left hL2
  have HG2 : Hid (Gq w w2 w.heap.size v2 2 [(7, 2)]) := hid hG2
  clear hG hA hG1 hL2 hG2 EW
  go_wp2_with fail
  refine (tick_any HG2.out.qu (by decide) (by decide)).mono ?_
  rintro e w3 ⟨u3, v3, rfl, hr3, hL3, _⟩
  have HG3 : Hid (Gq w w3 w.heap.size v3 2 [(7, 1)]) := hid (HG2.out.left hL3)
  obtain ⟨a3, cap3, rfl, _⟩ := hr3.slice
  rw [show (dueOf (tickA [((7 : Int), (2 : Int))])).length = 0 from rfl]
  clear hr3 hL3 HG2
  go_wp2_with fail
  refine (left_any HG3.out.qu (by decide) 7).mono ?_
  rintro e w4 ⟨rfl, hb4⟩
  have HG4 := hid (HG3.out.below hb4)
  rw [show leftA [((7 : Int), (1 : Int))] 7 = 1 from rfl]
  clear hb4 HG3
  go_wp2_with fail
  refine (tick_any HG4.out.qu (by decide) (by decide)).mono ?_
  rintro e w5 ⟨u5, v5, rfl, hr5, hL5, _⟩
  have HG5 : Hid (Gq w w5 w.heap.size v5 2 []) := hid (HG4.out.left hL5)
  obtain ⟨a5, cap5, rfl, _⟩ := hr5.slice
  obtain ⟨g5, o5, rfl, _, c5⟩ := hr5.at (j := 0) (u := .int .i64 7) rfl
  rw [show (dueOf (tickA [((7 : Int), (1 : Int))])).length = 1 from rfl]
  rw [Nat.add_zero] at c5
  clear hr5 hL5 HG4
  go_wp2_with fail
  refine (period_any HG5.out.qu).mono ?_
  rintro e w6 ⟨rfl, rfl⟩
  go_wp2_with fail
  refine (list_any HG5.out.qu (by decide)).mono ?_
  rintro e w7 ⟨u7, rfl, hr7, hb7⟩
  obtain ⟨a7, cap7, rfl, _⟩ := hr7.slice
  have HB : Hid (Below w.heap.size w w7) := hid (HG5.out.below hb7).bel
  rw [show (List.map (fun x : Int × Int => x.1) []).length = 0 from rfl]
  clear hr7 hb7
  go_wp2_with fail
  refine (new_no 0 _ (.inl (by decide))).mono ?_
  rintro e w8 ⟨rfl, rfl⟩
  go_wp2_with fail
  go_ret
  exact ⟨rfl, HB.out⟩
end Go.Proofs.Ytgoennbbpndiiaa
