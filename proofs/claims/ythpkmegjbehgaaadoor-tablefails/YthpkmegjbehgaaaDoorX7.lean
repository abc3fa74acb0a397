/- A table as the laws have it: what is asked of it; the function alive of layer 9, by which every law of the tables begins. -/
import Derived.Test.YthpkmegjbehgaaaDoorX6
namespace Go.Proofs.YthpkmegjbehgaaaDoor
open Go.RowKit Go.Maps

/-- A leaf that would be got, by entries. -/
def needA (A : Nat → Nat) (l : List Int) (n : Nat) : Bool := !hasE A n && l.any fun s => onLeaf s n
section
variable {w0 w w' : World} {G : Nat → Prop} {P : Pp} {hb x N ct : Nat} {A B : Nat → Nat}
theorem Tz.b0 (h : Tz w0 w G P hb x N ct A B) : Below w0.heap.size w0 w := by
  obtain ⟨v, LF, B', h1, h2, h3⟩ := h.ex
  exact h1.tb.pw.b0
theorem Tz.drewN (h : Tz w0 w G P hb x N ct A B) (k : Nat) : Tz w0 (w.drewN k) G P hb x N ct A B := h.below (below_drewN (Below.refl _ w) k)
theorem Tz.glt (h : Tz w0 w G P hb x N ct A B) {y : Nat} (hy : G y) : y < w.heap.size := by
  obtain ⟨v, LF, B', h1, h2, h3⟩ := h.ex
  exact h1.tb.pw.glt hy
/-- What has come is the law's. -/
theorem Tz.plus (h : Tz w0 w G P hb x N ct A B) (hb' : Below w.heap.size w w') : Tz w0 w' (fun y => G y ∨ w.heap.size ≤ y ∧ y < w'.heap.size) P hb x N ct A B := by
  obtain ⟨v, LF, B', h1, h2, h3⟩ := h.ex
  exact ⟨v, LF, B', ⟨⟨h1.tb.pw.plus hb', .inl h1.tb.g, (hb'.block hb h1.tb.lt).trans h1.tb.hd, h1.tb.tm⟩, h1.sm, h1.l2, h1.l7, h1.lo, h1.ct, h1.hK⟩, h2, h3⟩
theorem Tz.le (h : Tz w0 w G P hb x N ct A B) {ct' : Nat} (hc : ct ≤ ct') : Tz w0 w G P hb x N ct' A B := by
  obtain ⟨v, LF, B', h1, h2, h3⟩ := h.ex
  exact ⟨v, LF, B', ⟨h1.tb, h1.sm, h1.l2, h1.l7, h1.lo, Nat.le_trans h1.ct hc, h1.hK⟩, h2, h3⟩
theorem Tz.quota (h : Tz w0 w G P hb x N ct A B) : Calls Tryd.prog 12 #[.pointer (some ⟨P.pb, 0, none⟩)] w fun e w' => e = .returned (.pointer (some ⟨P.tb, 0, none⟩)) ∧ w' = w := by
  obtain ⟨v, LF, B', h1, h2, h3⟩ := h.ex
  exact h1.tb.pw.quota
theorem Tz.arena (h : Tz w0 w G P hb x N ct A B) : Calls Tryd.prog 17 #[.pointer (some ⟨P.pb, 0, none⟩)] w fun e w' => e = .returned (.pointer (some ⟨P.ab, 0, none⟩)) ∧ w' = w := by
  obtain ⟨v, LF, B', h1, h2, h3⟩ := h.ex
  exact h1.tb.pw.arena
theorem Tz.use (h : Tz w0 w G P hb x N ct A B) : Calls Tryd.prog 13 #[.pointer (some ⟨P.tb, 0, none⟩), .int .i64 0] w fun e w' => e = .returned (.int .i64 ((128 + 256 * nlA A : Nat) : Int)) ∧ Below w.heap.size w w' := by
  obtain ⟨v, LF, B', h1, h2, h3⟩ := h.ex
  refine (h1.tb.pw.use 0).mono ?_
  rintro e w' ⟨rfl, hb'⟩
  rw [h1.sm.l, root_useA, kl_nlA h2]
  exact ⟨rfl, hb'⟩
theorem Tz.leaves (h : Tz w0 w G P hb x N ct A B) : Calls Tryd.prog 11 #[.pointer (some ⟨hb, 0, none⟩)] w fun e w' => ∃ a cap, e = .returned (.slice a (nlA A) cap) ∧ Below w.heap.size w w' := by
  obtain ⟨v, LF, B', h1, h2, h3⟩ := h.ex
  refine (leaves_any h1.tb).mono ?_
  rintro e w' ⟨u, rfl, hrow, hb'⟩
  obtain ⟨a, cap, rfl, _⟩ := ints_of hrow
  rw [leavesL_len, kl_nlA h2]
  exact ⟨a, cap, rfl, hb'⟩
theorem Tz.slots (h : Tz w0 w G P hb x N ct A B) : Calls Tryd.prog 15 #[.pointer (some ⟨hb, 0, none⟩)] w (SlabsPost w (slotsL A 256)) := by
  obtain ⟨v, LF, B', h1, h2, h3⟩ := h.ex
  exact slots_any h1.tb
theorem Tz.need (h : Tz w0 w G P hb x N ct A B) (l : List Int) (a : Option Addr) (cap : Nat) (hI : Nrow w a l) (hl : l.length ≤ 1000000) :
    Calls Tryd.prog 16 #[.pointer (some ⟨hb, 0, none⟩), .slice a l.length cap] w fun e w' => e = .returned (.int .i64 ((cnt (needA A l) 16 : Nat) : Int)) ∧ Below w.heap.size w w' := by
  obtain ⟨v, LF, B', h1, h2, h3⟩ := h.ex
  have e : cnt (needF LF l) 16 = cnt (needA A l) 16 := cnt_congr (fun n hn => by
    have := h2 n hn
    unfold needF needA
    congr 1
    cases e1 : LF n with
    | none =>
      rw [e1] at this
      cases e2 : hasE A n with
      | false => rfl
      | true => rw [e2] at this; simp at this
    | some p =>
      rw [e1] at this
      rw [this.1 rfl]; rfl)
  rw [← e]
  exact need_any h1.tb l a cap hI hl
theorem Tz.get (h : Tz w0 w G P hb x N ct A B) (s : Nat) (hs : s < 256) : Calls Tryd.prog 10 #[.pointer (some ⟨hb, 0, none⟩), .int .i64 (s : Int)] w fun e w' => e = .returned (.tuple #[.int .u64 ((A s : Nat) : Int), .int .u64 ((getB2 A B s : Nat) : Int)]) ∧ Below w.heap.size w w' := by
  obtain ⟨v, LF, B', h1, h2, h3⟩ := h.ex
  have e : getB2 A B' s = getB2 A B s := by
    unfold getB2
    split
    · rfl
    · rename_i h0; exact h3 s h0
  rw [← e]
  exact tget_any h1.tb s hs
theorem Tz.word (h : Tz w0 w G P hb x N ct A B) (n : Nat) (hn : n < 16) (he : hasE A n = true) : Calls Tryd.prog 18 #[.pointer (some ⟨P.ab, 0, none⟩), .int .i64 ((x : Int) + 8 * (n : Int))] w fun e w' => ∃ y : Int, e = .returned (.tuple #[.int .u64 y, .int .i64 0]) ∧ (y != 0) = true ∧ Below w.heap.size w w' := by
  obtain ⟨v, LF, B', h1, h2, h3⟩ := h.ex
  have hx := h1.tb.xlt
  have h16 := h1.tb.tm.x_in.2.2
  have hl := h1.tb.pw.load (x + 8 * n) (by omega) (by omega)
  rw [show ((x + 8 * n : Nat) : Int) = (x : Int) + 8 * (n : Int) by omega, h1.tb.tm.lf n hn] at hl
  refine hl.mono ?_
  rintro e w' ⟨rfl, hb'⟩
  refine ⟨_, rfl, ?_, hb'⟩
  have hne : lfA (LF n) ≠ 0 := fun e => by
    have e2 := (h1.tb.tm.lfA_ne hn).1 e
    have := (h2 n hn).2 he
    rw [e2] at this
    cases this
  rw [bne_iff_ne]; omega
theorem Tz.out (h : Tz w0 w G P hb x N ct A B) (s : Int) (hs : s < 0 ∨ 256 ≤ s) (a b : Int) : Calls Tryd.prog 9 #[.pointer (some ⟨hb, 0, none⟩), .int .i64 s, .int .u64 a, .int .u64 b] w fun e w' => e = .returned (.int .i64 2) ∧ Below w.heap.size w w' := by
  obtain ⟨v, LF, B', h1, h2, h3⟩ := h.ex
  exact tset_out h1.tb s hs a b
theorem Tz.zero (h : Tz w0 w G P hb x N ct A B) (s : Nat) (hs : s < 256) (b : Int) : Calls Tryd.prog 9 #[.pointer (some ⟨hb, 0, none⟩), .int .i64 (s : Int), .int .u64 0, .int .u64 b] w fun e w' => e = .returned (.int .i64 1) ∧ Below w.heap.size w w' := by
  obtain ⟨v, LF, B', h1, h2, h3⟩ := h.ex
  exact tset_zero h1.tb s hs b
theorem Tz.odd (h : Tz w0 w G P hb x N ct A B) (y : Nat) (hy : y < 2147483648) (hodd : y % 16 ≠ 0) : Calls Tryd.prog 8 #[.pointer (some ⟨P.pb, 0, none⟩), .int .i64 0, .int .i64 (y : Int)] w fun e w' => e = .returned (.pointer none) ∧ Below w.heap.size w w' := by
  obtain ⟨v, LF, B', h1, h2, h3⟩ := h.ex
  exact at_odd h1.tb.pw hy hodd
/-- A Set for which there is room. -/
theorem Tz.set (h : Tz w0 w G P hb x N ct A B) (hct : ct ≤ 1000000) (s a b : Nat) (hs : s < 256) (ha : a ≠ 0) (ha2 : a < 18446744073709551616) (hb2 : b < 18446744073709551616) (hN : 128 + 256 * 16 ≤ N) :
    Calls Tryd.prog 9 #[.pointer (some ⟨hb, 0, none⟩), .int .i64 (s : Int), .int .u64 (a : Int), .int .u64 (b : Int)] w fun e w' => e = .returned (.int .i64 0) ∧ Hid ((∀ z, G z → w'.heap[z]? = w.heap[z]?) ∧ Tz w0 w' G P hb x N (ct + 1) (now A s a) (now B s b)) := by
  refine (tset_any h hct s a b hs ha ha2 hb2).mono ?_
  rintro e w' ⟨er, rfl, hP⟩
  obtain ⟨hk, ⟨rfl, _, h2⟩ | ⟨_, hE, hN2, _⟩⟩ := hP.out
  · exact ⟨rfl, hid ⟨hk, h2⟩⟩
  · exfalso
    have h1 : nlA A + 1 ≤ 16 := by
      have := nlA_set (A := A) (s := s) hs ha
      rw [hE] at this
      simp at this
      have := nlA_le (now A s a)
      omega
    omega
/-- A new pool's table. -/
theorem start_at (hp : Pw w0 w G P (v0 6 N)) (hK : P.K = 6) {q i : Nat} {B' : St} {U' : Pls} (hg : GotIt P (v0 6 N) 0 2 q i B' U') (hp2 : Pw w0 w' G P (gotV (v0 6 N) 0 2 q i B' U')) : Calls Tryd.prog 8 #[.pointer (some ⟨P.pb, 0, none⟩), .int .i64 0, .int .i64 ((place (cost 2) q i : Nat) : Int)] w' fun e w2 =>
    e = .returned (.pointer (some ⟨w'.heap.size, 0, none⟩)) ∧ Hid (Tz w0 w2 (fun y => G y ∨ y = w'.heap.size) P w'.heap.size (place (cost 2) q i) N 1 (fun _ => 0) (fun _ => 0) ∧ Below w'.heap.size w' w2) := by
  have h1 := place_hi (by decide) (by decide) hg.tk.lt hg.qN
  have c2 := cost2
  rw [hK] at h1
  have e6 : (2 : Nat) ^ 6 = 64 := by decide
  refine (at_any hp2 (start_tm hp.len hg) (by omega)).mono ?_
  rintro e w2 ⟨rfl, hT⟩
  exact ⟨rfl, hid ⟨start_ty hT.out.1 hg hK, hT.out.2⟩⟩
end

set_option maxRecDepth 100000 in
set_option maxHeartbeats 8000000 in
theorem alive9 (w : World) (hT : Tab w) (hC : Cst w) : Calls Tryd.prog 5 #[] w fun e w' => e = .returned (.bool true) ∧ Below w.heap.size w w' := by
  have HN := hid (show Calls Tryd.prog 6 #[.int .i64 65536, .int .i64 1000] w _ from Pw.new (w0 := w) (G := fun _ => False) 6 1000 hT hC (by decide) (by decide) (by decide) (Below.refl _ _) (fun x h => h.elim))
  clear hT hC
  go_enter Tryd.func5, Tryd.ntmps5
  go_wp2_with fail
  refine HN.out.mono ?_
  rintro e w1 ⟨P, rfl, hK, _, h1, _⟩
  have H1 := hid (And.intro h1 hK)
  clear h1 hK HN
  go_wp2_with fail
  refine (start_get H1.out.1 H1.out.2 (by decide)).mono ?_
  rintro e w2 ⟨q, i, B', U', rfl, h2⟩
  have HA := hid (start_at H1.out.1 H1.out.2 h2.out.1 h2.out.2)
  have hx31 : place (cost 2) q i < 65536 := by
    have h1 := place_hi (by decide) (by decide) h2.out.1.tk.lt h2.out.1.qN
    have c2 := cost2
    rw [H1.out.2] at h1
    have e6 : (2 : Nat) ^ 6 = 64 := by decide
    omega
  clear h2
  generalize place (cost 2) q i = x at *
  go_wp2_with fail
  refine HA.out.mono ?_
  rintro e w3 ⟨rfl, H3⟩
  clear HA
  generalize w2.heap.size = hb at *
  have hb4 : Below w3.heap.size w3 (w3.alloc (.cells #[.int .i64 17, .int .i64 18, .int .i64 40, .int .i64 300] 3)) := (Below.refl _ _).alloc (Nat.le_refl _) _
  have HNE := hid (show Calls Tryd.prog 16 #[.pointer (some ⟨hb, 0, none⟩), .slice (some ⟨w3.heap.size, 0, none⟩) 4 4] (w3.alloc (.cells #[.int .i64 17, .int .i64 18, .int .i64 40, .int .i64 300] 3)) fun e w' => e = .returned (.int .i64 2) ∧ Below w3.heap.size w3 w' from
    ((H3.out.1.below hb4).need [17, 18, 40, 300] (some ⟨w3.heap.size, 0, none⟩) 4 (.inr ⟨w3.heap.size, 0, rfl, by simp, fun j hj => by
      rw [cell_of_row _ _ _ _ _ _ (heap_alloc_new _ _)]
      have e : j = 0 ∨ j = 1 ∨ j = 2 ∨ j = 3 := by simp at hj; omega
      rcases e with rfl | rfl | rfl | rfl <;> rfl⟩) (by decide)).mono (fun e w' h => ⟨by rw [h.1]; rfl, hb4.trans (h.2.mono hb4.size)⟩))
  clear hb4
  go_wp2_with fail
  refine HNE.out.mono ?_
  rintro e w4 ⟨rfl, hb4⟩
  have H4 := hid (H3.out.1.below hb4)
  clear hb4 HNE
  have HS := hid (tset_any H4.out (by decide) 17 5 6 (by decide) (by decide) (by decide) (by decide))
  go_wp2_with fail
  refine HS.out.mono ?_
  rintro e w5 ⟨er, rfl, hP⟩
  obtain ⟨_, ⟨rfl, _, h5⟩ | ⟨_, _, hN2, _⟩⟩ := hP.out
  case inr => exact absurd hN2 (by decide)
  have H5 := hid h5
  clear h5 hP HS
  have HG := hid (H5.out.get 17 (by decide))
  go_wp2_with fail
  refine HG.out.mono ?_
  rintro e w6 ⟨rfl, hb6⟩
  rw [show ((now (fun _ => 0) 17 5 17 : Nat) : Int) = 5 from rfl, show ((getB2 (now (fun _ => 0) 17 5) (now (fun _ => 0) 17 6) 17 : Nat) : Int) = 6 from rfl]
  have H6 := hid (H5.out.below hb6)
  clear hb6 HG
  have HAr := hid H6.out.arena
  have hwd := H6.out.word 1 (by decide) (by decide)
  rw [show (x : Int) + 8 * ((1 : Nat) : Int) = (x : Int) + 8 by omega] at hwd
  have HWd := hid hwd
  clear hwd
  go_wp2_with (go_at_call 17; refine HAr.out.mono ?_; rintro e wx ⟨rfl, ex⟩; rw [ex]; clear ex wx)
  refine HWd.out.mono ?_
  rintro e w7 ⟨y, rfl, hy0, hb7⟩
  have H7 := hid (H6.out.below hb7)
  clear hb7 HAr HWd
  have HC1 := hid (tclear_any H7.out 17 (by decide) (by decide))
  go_wp2_with fail
  refine HC1.out.mono ?_
  rintro e w8 ⟨rfl, hP8⟩
  have H8 := hid hP8.out.2
  clear hP8 HC1
  have HC2 := hid (tclear_none H8.out 17 (by decide) rfl)
  go_wp2_with fail
  refine HC2.out.mono ?_
  rintro e w9 ⟨rfl, hb9⟩
  have H9 := hid (H8.out.below hb9)
  clear hb9 HC2
  have HL := hid H9.out.leaves
  go_wp2_with fail
  refine HL.out.mono ?_
  rintro e w10 ⟨a10, cap10, rfl, hb10⟩
  rw [show nlA (now (now (fun _ => 0) 17 5) 17 0) = 0 from by decide]
  have H10 := hid (H9.out.below hb10)
  clear hb10 HL
  have HSl := hid H10.out.slots
  go_wp2_with fail
  refine HSl.out.mono ?_
  rintro e w11 ⟨u, rfl, hrow, hb11⟩
  obtain ⟨a11, cap11, rfl, _⟩ := ints_of hrow
  rw [show (slotsL (now (now (fun _ => 0) 17 5) 17 0) 256).length = 0 from by decide +kernel]
  have H11 := hid (H10.out.below hb11)
  clear hb11 HSl hrow
  have HQ := hid H11.out.quota
  go_wp2_with (go_at_call 12; refine HQ.out.mono ?_; rintro e wx ⟨rfl, ex⟩; rw [ex]; clear ex wx)
  refine H11.out.use.mono ?_
  rintro e w12 ⟨rfl, hb12⟩
  rw [show ((128 + 256 * nlA (now (now (fun _ => 0) 17 5) 17 0) : Nat) : Int) = 128 from by rw [show nlA (now (now (fun _ => 0) 17 5) 17 0) = 0 from by decide]; rfl]
  have H12 := hid (H11.out.below hb12)
  clear hb12 HQ
  have HO := hid (H12.out.out 256 (.inr (by decide)) 1 1)
  go_wp2_with fail
  refine HO.out.mono ?_
  rintro e w13 ⟨rfl, hb13⟩
  have H13 := hid (H12.out.below hb13)
  clear hb13 HO
  have HZ := hid (H13.out.zero 0 (by decide) 1)
  go_wp2_with fail
  refine HZ.out.mono ?_
  rintro e w14 ⟨rfl, hb14⟩
  have H14 := hid (H13.out.below hb14)
  clear hb14 HZ
  have HD := hid (H14.out.odd 65 (by decide) (by decide))
  go_wp2_with fail
  refine HD.out.mono ?_
  rintro e w15 ⟨rfl, hb15⟩
  have H15 := hid (H14.out.below hb15)
  clear hb15 HD
  go_wp2_with fail
  go_ret
  exact ⟨rfl, H15.out.b0⟩
end Go.Proofs.YthpkmegjbehgaaaDoor
