/- The document's queue: Tick. -/
import Derived.Test.YtgoennbbpndiiaaR2
import Derived.Test.YtgoennbbpndiiaaM3
namespace Go.Proofs.Ytgoennbbpndiiaa
open Go.RowKit Go.Maps Go.Shelf

/-- Three rows of one's own, apart. -/
structure Tri (w0 w : World) (v1 v2 v3 : Value) (A B C : List Int) : Prop where
  bel : Below w0.heap.size w0 w
  r1 : OR w w0.heap.size 1 v1 A.length (nums A)
  r2 : OR w w0.heap.size 1 v2 B.length (nums B)
  r3 : OR w w0.heap.size 1 v3 C.length (nums C)
  s12 : ∀ g, v1.ownBlock = some g → v2.ownBlock ≠ some g
  s13 : ∀ g, v1.ownBlock = some g → v3.ownBlock ≠ some g
  s23 : ∀ g, v2.ownBlock = some g → v3.ownBlock ≠ some g
section
variable {w0 w : World} {v1 v2 v3 : Value} {A B C : List Int}
theorem Tri.start (w : World) : Tri w w (.slice none 0 0) (.slice none 0 0) (.slice none 0 0) [] [] [] :=
  ⟨Below.refl _ _, OR.nil _ _ _, OR.nil _ _ _, OR.nil _ _ _, (fun _ e => nomatch e), (fun _ e => nomatch e), (fun _ e => nomatch e)⟩
theorem Tri.app1 (h : Tri w0 w v1 v2 v3 A B C) (hl : A.length ≤ 1000000) (x : Int) :
    ∃ a cap w', (Builtin.append_ #[29, 29] 29 #[v1, .slice (some ⟨w.heap.size, 0, none⟩) 1 1]).run Try.prog (w.alloc (.cells #[.int .i64 x] 3)) = .ok (.slice a (A.length + 1) cap) w' ∧ Tri w0 w' (.slice a (A.length + 1) cap) v2 v3 (A ++ [x]) B C := by
  obtain ⟨a, cap, w', hr, ho, hb, hk, hw⟩ := num_append2 h.r1 hl h.bel.size x w.heap.size rfl
  refine ⟨a, cap, w', hr, h.bel.trans hb, ho, h.r2.other hb.size (fun g e => hk g (h.r2.own g e).2 (fun e2 => h.s12 g e2 e)), h.r3.other hb.size (fun g e => hk g (h.r3.own g e).2 (fun e2 => h.s13 g e2 e)), fun g e e2 => ?_, fun g e e2 => ?_, h.s23⟩
  · rcases hw g e with e1 | e1
    · exact h.s12 g e1 e2
    · have := (h.r2.own g e2).2; omega
  · rcases hw g e with e1 | e1
    · exact h.s13 g e1 e2
    · have := (h.r3.own g e2).2; omega
theorem Tri.app2 (h : Tri w0 w v1 v2 v3 A B C) (hl : B.length ≤ 1000000) (x : Int) :
    ∃ a cap w', (Builtin.append_ #[29, 29] 29 #[v2, .slice (some ⟨w.heap.size, 0, none⟩) 1 1]).run Try.prog (w.alloc (.cells #[.int .i64 x] 3)) = .ok (.slice a (B.length + 1) cap) w' ∧ Tri w0 w' v1 (.slice a (B.length + 1) cap) v3 A (B ++ [x]) C := by
  obtain ⟨a, cap, w', hr, ho, hb, hk, hw⟩ := num_append2 h.r2 hl h.bel.size x w.heap.size rfl
  refine ⟨a, cap, w', hr, h.bel.trans hb, h.r1.other hb.size (fun g e => hk g (h.r1.own g e).2 (fun e2 => h.s12 g e e2)), ho, h.r3.other hb.size (fun g e => hk g (h.r3.own g e).2 (fun e2 => h.s23 g e2 e)), fun g e2 e => ?_, h.s13, fun g e e2 => ?_⟩
  · rcases hw g e with e1 | e1
    · exact h.s12 g e2 e1
    · have := (h.r1.own g e2).2; omega
  · rcases hw g e with e1 | e1
    · exact h.s23 g e1 e2
    · have := (h.r3.own g e2).2; omega
theorem Tri.app3 (h : Tri w0 w v1 v2 v3 A B C) (hl : C.length ≤ 1000000) (x : Int) :
    ∃ a cap w', (Builtin.append_ #[29, 29] 29 #[v3, .slice (some ⟨w.heap.size, 0, none⟩) 1 1]).run Try.prog (w.alloc (.cells #[.int .i64 x] 3)) = .ok (.slice a (C.length + 1) cap) w' ∧ Tri w0 w' v1 v2 (.slice a (C.length + 1) cap) A B (C ++ [x]) := by
  obtain ⟨a, cap, w', hr, ho, hb, hk, hw⟩ := num_append2 h.r3 hl h.bel.size x w.heap.size rfl
  refine ⟨a, cap, w', hr, h.bel.trans hb, h.r1.other hb.size (fun g e => hk g (h.r1.own g e).2 (fun e2 => h.s13 g e e2)), h.r2.other hb.size (fun g e => hk g (h.r2.own g e).2 (fun e2 => h.s23 g e e2)), ho, h.s12, fun g e2 e => ?_, fun g e2 e => ?_⟩
  · rcases hw g e with e1 | e1
    · exact h.s13 g e2 e1
    · have := (h.r1.own g e2).2; omega
  · rcases hw g e with e1 | e1
    · exact h.s23 g e2 e1
    · have := (h.r2.own g e2).2; omega
end

def RTickPost (w : World) (r : Nat) (vL vT : Value) (p : Int) (l : List (Int × Int)) (e : Ending) (w' : World) : Prop :=
  ∃ u vL' vT', e = .returned u ∧ OR w' w.heap.size 1 u (dueOf (tickA l)).length (nums (dueOf (tickA l))) ∧ RLeft w r vL vT p ((restOf (tickA l)).map (·.1)) ((restOf (tickA l)).map (·.2)) vL' vT' w' ∧ ∀ g, u.ownBlock = some g → ¬ ROwn r vL' vT' g
set_option maxRecDepth 100000 in
set_option maxHeartbeats 2000000 in
theorem rtick_any {w : World} {r : Nat} {vL vT : Value} {p : Int} {l : List (Int × Int)} (h : Rp w r vL vT p (l.map (·.1)) (l.map (·.2))) (hg : Good p l) (hp : p ≤ 16) (hl : l.length ≤ 100000) :
    Calls Try.prog 16 #[.pointer (some ⟨r, 0, none⟩)] w (RTickPost w r vL vT p l) := by
  obtain ⟨aL, cL, rfl, _⟩ := h.rowL.slice
  obtain ⟨aT, cT, rfl, _⟩ := h.rowT.slice
  have HQ := hid h
  have HG := hid hg
  have e1 := h.c1
  have e2 := h.c2
  rw [List.length_map] at e1 e2
  have hrw := (h.lt (.inl rfl)).2
  clear h hg
  go_enter Try.func16, Try.ntmps16
  go_wp2
  go_loopw [3, 4, 5, 6] (fun u1 u2 u3 c wr => ∃ k : Nat, k ≤ l.length ∧ c = .int .i64 (k : Int) ∧ Hid (Tri w wr u1 u2 u3 (outs l k) (keeps l k) (kts l k))) (fun _ _ _ c _ => l.length - (intOf c).toNat)
  case atStart => exact ⟨0, Nat.zero_le _, rfl, Tri.start w⟩
  case round =>
    obtain ⟨k, hk, rfl, hS⟩ := hrel
    have hq := HQ.out.below hS.out.bel (Nat.le_refl _)
    have b1 : wr.cell? ⟨r, 1, none⟩ = some _ := hq.c1
    have b2 : wr.cell? ⟨r, 2, none⟩ = some _ := hq.c2
    rw [List.length_map] at b1 b2
    obtain ⟨o1, o2, o3, o4⟩ := outs_len (l := l) k
    by_cases hlt : k < l.length
    · have hlt2 : (k : Int) < (l.length : Int) := by omega
      have hk2 := List.getElem?_eq_getElem hlt
      obtain ⟨g1, p1, rfl, _, c1⟩ := hq.rowL.at (nums_at (k := k) (x := l[k].1) (by rw [List.getElem?_map, hk2]; rfl))
      obtain ⟨g2, p2, rfl, _, c2⟩ := hq.rowT.at (nums_at (k := k) (x := l[k].2) (by rw [List.getElem?_map, hk2]; rfl))
      have hbd := HG.out.bound l[k] (List.getElem_mem hlt)
      obtain ⟨a1, q1, rfl, _⟩ := hS.out.r1.slice
      obtain ⟨a2, q2, rfl, _⟩ := hS.out.r2.slice
      obtain ⟨a3, q3, rfl, _⟩ := hS.out.r3.slice
      by_cases hx : l[k].2 = 1
      · have hd : (l[k].2 == 1) = true := by simpa using hx
        obtain ⟨hy1, hy2, hy3⟩ := outs_yes hlt hx
        obtain ⟨a4, q4, w4, hr4, h4⟩ := hS.out.app1 (by omega) l[k].1
        rw [← hy1] at h4
        obtain ⟨n1, hn1⟩ : ∃ n1, n1 = (outs l k).length := ⟨_, rfl⟩
        obtain ⟨n2, hn2⟩ : ∃ n2, n2 = (keeps l k).length := ⟨_, rfl⟩
        obtain ⟨n3, hn3⟩ : ∃ n3, n3 = (kts l k).length := ⟨_, rfl⟩
        rw [← hn1, ← hn2, ← hn3] at h4
        rw [← hn1] at hr4
        rw [← hn1, ← hn2, ← hn3]
        have H4 : Hid (Tri w w4 (.slice a4 (n1 + 1) q4) (.slice a2 n2 q2) (.slice a3 n3 q3) (outs l (k + 1)) (keeps l (k + 1)) (kts l (k + 1))) := hid (by rw [hy2, hy3]; exact h4)
        clear hy1 hy2 hy3 h4 hn1 hn2 hn3 hS hx hk2 hq hbd o1 o2 o3 o4
        generalize l[k].1 = z at *
        generalize l[k].2 = t at *
        go_wp2_with (at_builtin; refine wpList_append_run rfl _ _ 29 29 rfl _ _ _ rfl rfl hr4 ?_)
        exact ⟨⟨k + 1, by omega, by go_num, H4⟩, by simp [intOf]; omega⟩
      · have hd : (l[k].2 == 1) = false := by rw [beq_eq_false_iff_ne]; exact hx
        obtain ⟨hy1, hy2, hy3⟩ := outs_no hlt hx
        obtain ⟨a4, q4, w4, hr4, h4⟩ := hS.out.app2 (by omega) l[k].1
        rw [← hy2] at h4
        obtain ⟨a5, q5, w5, hr5, h5⟩ := h4.app3 (by omega) (l[k].2 - 1)
        rw [← hy3] at h5
        have hq4 := HQ.out.below h4.bel (Nat.le_refl _)
        have b4 : w4.cell? ⟨r, 2, none⟩ = some _ := hq4.c2
        rw [List.length_map] at b4
        obtain ⟨g2', p2', ex, _, c4⟩ := hq4.rowT.at (nums_at (k := k) (x := l[k].2) (by rw [List.getElem?_map, hk2]; rfl))
        obtain ⟨rfl, rfl⟩ : g2 = g2' ∧ p2 = p2' := by simpa using ex
        obtain ⟨n1, hn1⟩ : ∃ n1, n1 = (outs l k).length := ⟨_, rfl⟩
        obtain ⟨n2, hn2⟩ : ∃ n2, n2 = (keeps l k).length := ⟨_, rfl⟩
        obtain ⟨n3, hn3⟩ : ∃ n3, n3 = (kts l k).length := ⟨_, rfl⟩
        rw [← hn1, ← hn2, ← hn3] at h5
        rw [← hn2] at hr4
        rw [← hn3] at hr5
        rw [← hn1, ← hn2, ← hn3]
        have H5 : Hid (Tri w w5 (.slice a1 n1 q1) (.slice a4 (n2 + 1) q4) (.slice a5 (n3 + 1) q5) (outs l (k + 1)) (keeps l (k + 1)) (kts l (k + 1))) := hid (by rw [hy1]; exact h5)
        have hb2 : l[k].2 ≤ 16 := by omega
        have hb1 := hbd.1
        clear hy1 hy2 hy3 h4 h5 hn1 hn2 hn3 hS hx hk2 hq hbd o1 o2 o3 o4 hq4 ex
        generalize l[k].1 = z at *
        generalize l[k].2 = t at *
        go_wp2_with (first
          | (at_builtin; refine wpList_append_run rfl _ _ 29 29 rfl _ _ _ rfl rfl hr4 ?_; clear hr4)
          | (at_builtin; refine wpList_append_run rfl _ _ 29 29 rfl _ _ _ rfl rfl hr5 ?_))
        exact ⟨⟨k + 1, by omega, by go_num, H5⟩, by simp [intOf]; omega⟩
    · obtain rfl : k = l.length := by omega
      obtain ⟨y1, y2, y3⟩ := tick_all HG.out
      rw [y1, y2, y3] at hS
      have hrd : r < w.heap.size := hrw
      have HSL := hid hq.hd
      have f1 := frozen_of_row _ _ 1 _ _ hq.hd
      have f2 := frozen_of_row _ _ 2 _ _ hq.hd
      obtain ⟨a1, q1, rfl, _⟩ := hS.out.r1.slice
      obtain ⟨a2, q2, rfl, _⟩ := hS.out.r2.slice
      obtain ⟨a3, q3, rfl, _⟩ := hS.out.r3.slice
      clear o1 o2 o3 o4 hq y1 y2 y3
      go_wp2
      go_ret
      simp only [List.length_map]
      have hblk : ∀ k, k ≠ r → ((wr.setCell ⟨r, 1, none⟩ (.slice a2 (restOf (tickA l)).length q2)).setCell ⟨r, 2, none⟩ (.slice a3 (restOf (tickA l)).length q3)).heap[k]? = wr.heap[k]? := fun k hk =>
        (Below.heap_setCell _ _ _ _ hk).trans (Below.heap_setCell _ _ _ _ hk)
      have hhd : ((wr.setCell ⟨r, 1, none⟩ (.slice a2 (restOf (tickA l)).length q2)).setCell ⟨r, 2, none⟩ (.slice a3 (restOf (tickA l)).length q3)).heap[r]? = some (.cells #[.int .i64 p, .slice a2 (restOf (tickA l)).length q2, .slice a3 (restOf (tickA l)).length q3] 34) := by
        rw [setCell_head (setCell_head HSL.out _)]; rfl
      have hos : ((wr.setCell ⟨r, 1, none⟩ (.slice a2 (restOf (tickA l)).length q2)).setCell ⟨r, 2, none⟩ (.slice a3 (restOf (tickA l)).length q3)).os = wr.os ∧ ((wr.setCell ⟨r, 1, none⟩ (.slice a2 (restOf (tickA l)).length q2)).setCell ⟨r, 2, none⟩ (.slice a3 (restOf (tickA l)).length q3)).tape = wr.tape ∧ ((wr.setCell ⟨r, 1, none⟩ (.slice a2 (restOf (tickA l)).length q2)).setCell ⟨r, 2, none⟩ (.slice a3 (restOf (tickA l)).length q3)).output = wr.output ∧ ((wr.setCell ⟨r, 1, none⟩ (.slice a2 (restOf (tickA l)).length q2)).setCell ⟨r, 2, none⟩ (.slice a3 (restOf (tickA l)).length q3)).heap.size = wr.heap.size := ⟨rfl, rfl, rfl, by simp⟩
      generalize ((wr.setCell ⟨r, 1, none⟩ (.slice a2 (restOf (tickA l)).length q2)).setCell ⟨r, 2, none⟩ (.slice a3 (restOf (tickA l)).length q3)) = W2 at *
      obtain ⟨k1, k2, k3, k4⟩ := hos
      have t := hS.out
      simp only [List.length_map] at t
      have tr1 := t.r1
      have tr2 := t.r2
      have tr3 := t.r3
      simp only [List.length_map] at tr1 tr2 tr3
      have hr1 := tr1.other (w' := W2) (by omega) (fun g e => hblk g (by have := (tr1.own g e).1; omega))
      have hr2 := tr2.other (w' := W2) (by omega) (fun g e => hblk g (by have := (tr2.own g e).1; omega))
      have hr3 := tr3.other (w' := W2) (by omega) (fun g e => hblk g (by have := (tr3.own g e).1; omega))
      refine ⟨_, _, _, rfl, hr1, ⟨⟨hhd, ?_, ?_, t.s23⟩, ⟨k1.trans t.bel.os, k2.trans t.bel.tape, k3.trans t.bel.output, by have := t.bel.size; omega, fun k hk hn => (hblk k (fun e => hn (.inl e))).trans (t.bel.block k hk)⟩, ?_⟩, ?_⟩
      · rw [List.length_map]; exact hr2.low (by omega)
      · rw [List.length_map]; exact hr3.low (by omega)
      · rintro k (e | e | e)
        · exact .inl (.inl e)
        · exact .inr (hr2.own k e).1
        · exact .inr (hr3.own k e).1
      · rintro g e (e1 | e1 | e1)
        · have := (hr1.own g e).1; omega
        · exact t.s12 g e e1
        · exact t.s13 g e e1
end Go.Proofs.Ytgoennbbpndiiaa
