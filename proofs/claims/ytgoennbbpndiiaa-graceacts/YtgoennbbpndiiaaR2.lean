/- The document's queue: Add and Tick. -/
import Derived.Test.YtgoennbbpndiiaaR
namespace Go.Proofs.Ytgoennbbpndiiaa
open Go.RowKit Go.Maps Go.Shelf

section
variable {w w' : World} {r : Nat} {vL vT : Value} {p : Int} {xs ts : List Int}
/-- One number more in the first row. -/
theorem put_L (h : Rp w r vL vT p xs ts) (hl : xs.length ≤ 100000) (x : Int) :
    ∃ a cap w1, (Builtin.append_ #[29, 29] 29 #[vL, .slice (some ⟨w.heap.size, 0, none⟩) 1 1]).run Try.prog (w.alloc (.cells #[.int .i64 x] 3)) = .ok (.slice a (xs.length + 1) cap) w1 ∧ w1.heap[r]? = w.heap[r]? ∧
      RLeft w r vL vT p (xs ++ [x]) ts (.slice a (xs.length + 1) cap) vT (w1.setCell ⟨r, 1, none⟩ (.slice a (xs.length + 1) cap)) := by
  have hrl := lt_of h.hd
  obtain ⟨a, cap, w1, hr, ho, hb, hk, hw⟩ := num_append2 h.rowL (by omega) (by omega) x w.heap.size rfl
  have hr1 := hk r hrl (fun e => by have := (h.rowL.own r e).1; omega)
  refine ⟨a, cap, w1, hr, hr1, ⟨?_, ?_, ?_, ?_⟩, ?_, ?_⟩
  · rw [setCell_head (hr1.trans h.hd)]; rfl
  · exact ho.other (by simp) (fun g e => Below.heap_setCell _ _ _ _ (by show g ≠ r; have := (ho.own g e).1; omega))
  · refine h.rowT.other (by have := hb.size; simp; exact this) (fun g e => (Below.heap_setCell _ _ _ _ (by show g ≠ r; have := (h.rowT.own g e).1; omega)).trans (hk g (h.rowT.own g e).2 (fun e2 => h.sep g e2 e)))
  · intro g e e2
    rcases hw g e with e1 | e1
    · exact h.sep g e1 e2
    · have := (h.rowT.own g e2).2; omega
  · exact ⟨hb.os, hb.tape, hb.output, by have := hb.size; simp; exact this, fun k hk2 hn => (Below.heap_setCell _ _ _ _ (fun e => hn (.inl e))).trans (hk k hk2 (fun e => hn (.inr (.inl e))))⟩
  · rintro k (e | e | e)
    · exact .inl (.inl e)
    · exact (hw k e).imp (fun e1 => .inr (.inl e1)) id
    · exact .inl (.inr (.inr e))
/-- One number more in the second row. -/
theorem put_T (h : Rp w r vL vT p xs ts) (hl : ts.length ≤ 100000) (x : Int) :
    ∃ a cap w1, (Builtin.append_ #[29, 29] 29 #[vT, .slice (some ⟨w.heap.size, 0, none⟩) 1 1]).run Try.prog (w.alloc (.cells #[.int .i64 x] 3)) = .ok (.slice a (ts.length + 1) cap) w1 ∧ w1.heap[r]? = w.heap[r]? ∧
      RLeft w r vL vT p xs (ts ++ [x]) vL (.slice a (ts.length + 1) cap) (w1.setCell ⟨r, 2, none⟩ (.slice a (ts.length + 1) cap)) := by
  have hrl := lt_of h.hd
  obtain ⟨a, cap, w1, hr, ho, hb, hk, hw⟩ := num_append2 h.rowT (by omega) (by omega) x w.heap.size rfl
  have hr1 := hk r hrl (fun e => by have := (h.rowT.own r e).1; omega)
  refine ⟨a, cap, w1, hr, hr1, ⟨?_, ?_, ?_, ?_⟩, ?_, ?_⟩
  · rw [setCell_head (hr1.trans h.hd)]; rfl
  · refine h.rowL.other (by have := hb.size; simp; exact this) (fun g e => (Below.heap_setCell _ _ _ _ (by show g ≠ r; have := (h.rowL.own g e).1; omega)).trans (hk g (h.rowL.own g e).2 (fun e2 => h.sep g e e2)))
  · exact ho.other (by simp) (fun g e => Below.heap_setCell _ _ _ _ (by show g ≠ r; have := (ho.own g e).1; omega))
  · intro g e2 e
    rcases hw g e with e1 | e1
    · exact h.sep g e2 e1
    · have := (h.rowL.own g e2).2; omega
  · exact ⟨hb.os, hb.tape, hb.output, by have := hb.size; simp; exact this, fun k hk2 hn => (Below.heap_setCell _ _ _ _ (fun e => hn (.inl e))).trans (hk k hk2 (fun e => hn (.inr (.inr e))))⟩
  · rintro k (e | e | e)
    · exact .inl (.inl e)
    · exact .inl (.inr (.inl e))
    · exact (hw k e).imp (fun e1 => .inr (.inr e1)) id

set_option maxRecDepth 100000 in
set_option maxHeartbeats 1000000 in
theorem radd_any (h : Rp w r vL vT p xs ts) (av : Value) (ys : List Int) (hx : Src w (ROwn r vL vT) av ys) (hl : xs.length + ys.length ≤ 100000) (hl2 : ts.length + ys.length ≤ 100000) :
    Calls Try.prog 14 #[.pointer (some ⟨r, 0, none⟩), av] w fun e w' => e = .returned (.tuple #[]) ∧ ∃ vL' vT', RLeft w r vL vT p (xs ++ ys) (ts ++ List.replicate ys.length p) vL' vT' w' := by
  obtain ⟨a, cap, rfl, hx⟩ := hx
  have HX := hid hx
  have HQ := hid h
  clear h hx
  go_enter Try.func14, Try.ntmps14
  go_wp2
  go_loopw [4] (fun c wr => ∃ (k : Nat) (vL' vT' : Value), k ≤ ys.length ∧ c = .int .i64 (k : Int) ∧ Hid (RLeft w r vL vT p (xs ++ ys.take k) (ts ++ List.replicate k p) vL' vT' wr)) (fun c _ => ys.length - (intOf c).toNat)
  case atStart => exact ⟨0, vL, vT, Nat.zero_le _, rfl, hid (by simpa using RLeft.refl HQ.out)⟩
  case round =>
    obtain ⟨k, vL', vT', hk, rfl, hL⟩ := hrel
    by_cases hlt : k < ys.length
    · have hk2 := List.getElem?_eq_getElem hlt
      have hlt2 : (k : Int) < (ys.length : Int) := by omega
      obtain ⟨g, off, rfl, hng, hgl, hcx⟩ := HX.out k _ hk2
      have cx : wr.cell? ⟨g, off + k, none⟩ = some (.int .i64 ys[k]) := (World.cell?_of_block (a := ⟨g, off + k, none⟩) (hL.out.keep hgl hng).1).trans hcx
      have hgw : g < wr.heap.size := Nat.lt_of_lt_of_le hgl hL.out.turn.size
      have e2 : ys.take (k + 1) = ys.take k ++ [ys[k]] := by rw [List.take_add_one, hk2]; rfl
      have hq := hL.out.rq.drewN 1
      obtain ⟨a2, cap2, w2, hr, hb2, hL2⟩ := put_L (w := wr.drewN 1) hq (by rw [List.length_append, List.length_take]; omega) ys[k]
      have hL3 : RLeft w r vL vT p (xs ++ ys.take (k + 1)) (ts ++ List.replicate k p) (.slice a2 ((xs ++ ys.take k).length + 1) cap2) vT' (w2.setCell ⟨r, 1, none⟩ (.slice a2 ((xs ++ ys.take k).length + 1) cap2)) := by
        rw [e2, ← List.append_assoc]
        exact RLeft.trans (w1 := wr.drewN 1) ⟨hq, hL.out.turn.drewN 1, hL.out.own⟩ hL2
      obtain ⟨n2, hn2⟩ : ∃ n2, n2 = (xs ++ ys.take k).length + 1 := ⟨_, rfl⟩
      rw [← hn2] at hL3 hr
      have H3 := hid hL3
      have hbl : r < wr.heap.size := lt_of hq.hd
      have c0n : wr.cell? ⟨r, 0, none⟩ = some (.int .i64 p) := hq.c0
      have c1n : wr.cell? ⟨r, 1, none⟩ = some vL' := hq.c1
      have c1' : w2.cell? ⟨r, 1, none⟩ = some vL' := by rw [cell_of_row _ _ _ _ _ _ (hb2.trans hq.hd)]; rfl
      have f1' : w2.frozen? ⟨r, 1, none⟩ = false := frozen_of_row _ _ _ _ _ (hb2.trans hq.hd)
      have hrr : (Builtin.append_ #[29, 29] 29 #[vL', .slice (some ⟨wr.drew.heap.size, 0, none⟩) 1 1]).run Try.prog (wr.drew.alloc (.cells #[.int .i64 ys[k]] 3)) = .ok (.slice a2 n2 cap2) w2 := hr
      have HT := hid (And.intro hL.out.rq.rowT hL.out.rq.sep)
      obtain ⟨x, hx⟩ : ∃ x, x = ys[k] := ⟨_, rfl⟩
      rw [← hx] at cx hrr
      clear hL hL2 hL3 hq hb2 hr e2 hk2 HX HQ hn2 hx hcx
      go_wp2_with fail
      go_region_law (refine step_append_run _ w2 (.slice a2 n2 cap2) rfl _ _ 29 rfl _ _ rfl rfl hrr ?_)
      all_goals
        generalize w2.setCell ⟨r, 1, none⟩ (.slice a2 n2 cap2) = w3 at *
        have hq3 := H3.out.rq.drewN 1
        obtain ⟨a4, cap4, w4, hr4, hb4, hL4⟩ := put_T (w := w3.drewN 1) hq3 (by rw [List.length_append, List.length_replicate]; omega) p
        have hL5 : RLeft w r vL vT p (xs ++ ys.take (k + 1)) (ts ++ List.replicate (k + 1) p) (.slice a2 n2 cap2) (.slice a4 ((ts ++ List.replicate k p).length + 1) cap4) (w4.setCell ⟨r, 2, none⟩ (.slice a4 ((ts ++ List.replicate k p).length + 1) cap4)) := by
          rw [List.replicate_succ', ← List.append_assoc]
          exact RLeft.trans (w1 := w3.drewN 1) ⟨hq3, H3.out.turn.drewN 1, H3.out.own⟩ hL4
        obtain ⟨n4, hn4⟩ : ∃ n4, n4 = (ts ++ List.replicate k p).length + 1 := ⟨_, rfl⟩
        rw [← hn4] at hL5 hr4
        have H5 := hid hL5
        have hbl3 : r < w3.heap.size := lt_of hq3.hd
        have d0n : w3.cell? ⟨r, 0, none⟩ = some (.int .i64 p) := hq3.c0
        have d1n : w3.cell? ⟨r, 2, none⟩ = some vT' := hq3.c2
        have d1' : w4.cell? ⟨r, 2, none⟩ = some vT' := by rw [cell_of_row _ _ _ _ _ _ (hb4.trans hq3.hd)]; rfl
        have g1' : w4.frozen? ⟨r, 2, none⟩ = false := frozen_of_row _ _ _ _ _ (hb4.trans hq3.hd)
        have hrr4 : (Builtin.append_ #[29, 29] 29 #[vT', .slice (some ⟨w3.drew.heap.size, 0, none⟩) 1 1]).run Try.prog (w3.drew.alloc (.cells #[.int .i64 p] 3)) = .ok (.slice a4 n4 cap4) w4 := hr4
        clear hL4 hL5 hq3 hb4 hr4 hn4 H3 c1' f1' hrr c0n c1n cx
        go_wp2_with fail
        go_region_law (refine step_append_run _ w4 (.slice a4 n4 cap4) rfl _ _ 29 rfl _ _ rfl rfl hrr4 ?_)
        all_goals
          go_wp2_with fail
          exact ⟨⟨k + 1, .slice a2 n2 cap2, .slice a4 n4 cap4, by omega, by go_num, H5⟩, by simp [intOf]; omega⟩
    · obtain rfl : k = ys.length := by omega
      rw [List.take_length] at hL
      go_wp2
      go_end0
      exact ⟨rfl, _, _, hL.out⟩
end
end Go.Proofs.Ytgoennbbpndiiaa
