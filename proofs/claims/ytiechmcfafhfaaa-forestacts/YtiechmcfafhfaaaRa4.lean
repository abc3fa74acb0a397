/- The document's forest: Add below a node. -/
import Derived.Test.YtiechmcfafhfaaaRa2
namespace Go.Proofs.Ytiechmcfafhfaaa
open Go.RowKit Go.Maps Go.Shelf

section
variable {w w' : World} {r : Nat} {v : Value} {last last2 : Nat} {L : List Nd} {e : Nd}
set_option maxRecDepth 100000 in
set_option maxHeartbeats 16000000 in
theorem radd_0t (h : Rf w r v last L) (hw : Wf L last) (hlast : last < 400) {x : Int} (h0 : x ≠ 0) (hT : There L x) {a b : Int} (ho : ¬ ∃ f ∈ L, f.sp = a ∧ f.sl = b) : Calls Try.prog 20 #[ptr r, .int .i64 x, spot a b] w (RAdd w r v last L x a b) := by
  have hp : x = 0 ∨ There L x := .inr hT
  have hll : L.length ≤ 400 := by have := hw.len; omega
  obtain ⟨s, cap, rfl, _⟩ := h.row.slice
  have hB : Below w.heap.size w (w.alloc (.cells #[.int .i64 a, .int .i64 b] 44)) := (Below.refl _ _).alloc (Nat.le_refl _) _
  have hN := heap_alloc_new w (.cells #[.int .i64 a, .int .i64 b] 44)
  have b0 : (w.alloc (.cells #[.int .i64 a, .int .i64 b] 44)).cell? ⟨w.heap.size, 0, none⟩ = some (.int .i64 a) := by rw [cell_of_row _ _ _ _ _ _ hN]; rfl
  have b1 : (w.alloc (.cells #[.int .i64 a, .int .i64 b] 44)).cell? ⟨w.heap.size, 1, none⟩ = some (.int .i64 b) := by rw [cell_of_row _ _ _ _ _ _ hN]; rfl
  have hR := h.below hB (Nat.le_refl _)
  have HA := hid (at_any hR hll x)
  have HF := hid (rfind_any hR hll a b)
  rw [findI_not ho] at HF
  have HE := hid (addE_0 hw hp ho)
  have hwi : IntKind.i64.wrap ((last : Int) + 1) = (last : Int) + 1 := by rw [IntKind.wrap_i64]; omega
  have hkl : 0 + L.length ≤ 1000000 := by omega
  have hkl2 : L.length + 1 ≤ 1000000 := by omega
  have HX0 : Hid (0 ≤ x) := hid (by
    rcases hp with rfl | ⟨f, hf, rfl⟩
    · exact Int.le_refl _
    · omega)
  have HC := hid (fun (wx : World) (hx : Below (w.alloc (.cells #[.int .i64 a, .int .i64 b] 44)).heap.size (w.alloc (.cells #[.int .i64 a, .int .i64 b] 44)) wx) => have hr := hR.below hx (Nat.le_refl _); And.intro hr.c1 (frozen_of_row wx r 1 _ _ hr.hd))
  have HQ : Hid (∀ wx, Below (w.alloc (.cells #[.int .i64 a, .int .i64 b] 44)).heap.size (w.alloc (.cells #[.int .i64 a, .int .i64 b] 44)) wx → ∀ W, W = wx.setCell ⟨r, 1, none⟩ (.int .i64 ((last : Int) + 1)) → Rf W r (.slice s L.length cap) (last + 1) L ∧ Tr (ROwn r (.slice s L.length cap)) (ROwn r (.slice s L.length cap)) w W ∧ W.heap[w.heap.size]? = some (.cells #[.int .i64 a, .int .i64 b] 44)) := hid (fun wx hx W hW => by
    have hr := hR.below hx (Nat.le_refl _)
    obtain ⟨k1, k2⟩ := hr.setLast (last + 1)
    have e1 : ((last + 1 : Nat) : Int) = (last : Int) + 1 := by omega
    rw [e1] at k1 k2
    rw [hW]
    refine ⟨k1, (tr_refl _ (hB.trans (hx.mono (by simp)))).trans k2, ?_⟩
    rw [Below.heap_setCell _ _ _ _ (by have := lt_of h.hd; show w.heap.size ≠ r; omega), hx.block _ (by simp)]
    exact hN)
  have hx : (x != 0) = true := by rw [bne_iff_ne]; exact h0
  have hge := atI_there hw.ids hT
  generalize atI L x = k at *
  have hlt : decide (k < 0) = false := by simp; omega
  clear h hw ho hB hN hR hp h0 hT hll hge
  go_enter Try.func20, Try.ntmps20
  go_wp2_with (first
    | (go_at_call 37; refine HA.out.mono ?_; rintro en w0 ⟨rfl, rfl⟩)
    | (go_at_call 25; refine HF.out.mono ?_; rintro en w1 ⟨rfl, hb1⟩; obtain ⟨cc, ff⟩ := HC.out w1 hb1))
  obtain ⟨W, hW⟩ : ∃ W, W = w1.setCell ⟨r, 1, none⟩ (.int .i64 ((last : Int) + 1)) := ⟨_, rfl⟩
  rw [← hW]
  have HWf := hid (HQ.out w1 hb1 W hW)
  clear hW hb1
  have HX := rx_of HWf.out.1 HWf.out.2.2
  have HB0 := hid (Below.refl W.heap.size W)
  have HB1 := hid (HB0.out.alloc (Nat.le_refl _) (.cells #[] 53))
  have HBN := hid (HB0.out.alloc (Nat.le_refl _) (.cells #[.int .i64 ((last : Int) + 1), .int .i64 x, .int .i64 a, .int .i64 b] 53))
  have HB2 := hid (HB1.out.alloc HB1.out.size (.cells #[.int .i64 ((last : Int) + 1), .int .i64 x, .int .i64 a, .int .i64 b] 53))
  have HB3 := hid (HBN.out.alloc HBN.out.size (.cells #[] 53))
  obtain ⟨_, pa0, pa1, pa2, pa3, pa4⟩ := HX.out W HB0.out
  obtain ⟨_, pb0, pb1, pb2, pb3, pb4⟩ := HX.out _ HB1.out
  obtain ⟨_, pc0, pc1, pc2, pc3, pc4⟩ := HX.out _ HBN.out
  obtain ⟨_, pd0, pd1, pd2, pd3, pd4⟩ := HX.out _ HB2.out
  obtain ⟨_, ph0, ph1, ph2, ph3, ph4⟩ := HX.out _ HB3.out
  have HO1 := hid (or_lit W)
  have HN0 := hid (or_new W HX0.out last a b)
  have HO2 := hid (HO1.out.alloc (.cells #[.int .i64 ((last : Int) + 1), .int .i64 x, .int .i64 a, .int .i64 b] 53))
  have HO3 := hid (show OR ((W.alloc (.cells #[.int .i64 ((last : Int) + 1), .int .i64 x, .int .i64 a, .int .i64 b] 53)).alloc (.cells #[] 53)) W.heap.size 4 (.slice (some ⟨W.heap.size + 1, 0, none⟩) 0 0) 0 (rflat []) from by
    have h1 := or_lit (W.alloc (.cells #[.int .i64 ((last : Int) + 1), .int .i64 x, .int .i64 a, .int .i64 b] 53))
    rw [World.size_alloc'] at h1
    exact h1.base (by omega))
  have HN2 := hid (show OR ((W.alloc (.cells #[] 53)).alloc (.cells #[.int .i64 ((last : Int) + 1), .int .i64 x, .int .i64 a, .int .i64 b] 53)) W.heap.size 4 (.slice (some ⟨W.heap.size + 1, 0, none⟩) 1 1) 1 (rflat [newNd last x a b]) from by
    have h1 := or_new (W.alloc (.cells #[] 53)) HX0.out last a b
    rw [World.size_alloc'] at h1
    exact h1.base (by omega))
  have HN3 := hid (HN0.out.alloc (.cells #[] 53))
  have HNE : Hid (W.heap.size + 1 ≠ W.heap.size) := hid (by omega)
  go_region_law (first
    | (refine step_nodesK _ rfl _ _ rfl rfl rfl [] L rfl (rfl : ([] : List Nd).length = 0) (rfl : L.length = L.length) (by exact HO1.out.drew) (HX.out _ (by exact HB1.out.drew)).row hkl (by exact HB1.out.drew) (by exact HB1.out.size) ?_; intro a3 cap3 w2 ho2 hb2 hs2 hk2; simp only [List.length_nil, Nat.zero_add, List.nil_append] at ho2; have hn2 := or_new w2 HX0.out last a b; have hbn2 := hid (hb2.alloc hb2.size (.cells #[.int .i64 ((last : Int) + 1), .int .i64 x, .int .i64 a, .int .i64 b] 53)); have hon2 := ho2.alloc (.cells #[.int .i64 ((last : Int) + 1), .int .i64 x, .int .i64 a, .int .i64 b] 53); obtain ⟨_, pe0, pe1, pe2, pe3, pe4⟩ := HX.out w2 hb2; obtain ⟨_, pf0, pf1, pf2, pf3, pf4⟩ := HX.out _ hbn2.out)
    | (refine step_nodesK _ rfl _ _ rfl rfl rfl [] L rfl (rfl : ([] : List Nd).length = 0) (rfl : L.length = L.length) (by exact HO2.out.drew) (HX.out _ (by exact HB2.out.drew)).row hkl (by exact HB2.out.drew) (by exact HB2.out.size) ?_; intro a3 cap3 w2 ho2 hb2 hs2 hk2; simp only [List.length_nil, Nat.zero_add, List.nil_append] at ho2; have hn2 := keep_node HN2.out hs2 hk2 HNE.out; obtain ⟨_, pe0, pe1, pe2, pe3, pe4⟩ := HX.out w2 hb2)
    | (refine step_nodesK _ rfl _ _ rfl rfl rfl [] L rfl (rfl : ([] : List Nd).length = 0) (rfl : L.length = L.length) (by exact HO3.out.drew) (HX.out _ (by exact HB3.out.drew)).row hkl (by exact HB3.out.drew) (by exact HB3.out.size) ?_; intro a3 cap3 w2 ho2 hb2 hs2 hk2; simp only [List.length_nil, Nat.zero_add, List.nil_append] at ho2; have hn2 := keep_node HN3.out hs2 hk2 HNE.out.symm; obtain ⟨_, pe0, pe1, pe2, pe3, pe4⟩ := HX.out w2 hb2)
    | (refine step_nodesK _ rfl _ _ rfl rfl rfl L [newNd last x a b] rfl (rfl : L.length = L.length) (rfl : [newNd last x a b].length = 1) (by exact hon2) (by exact hn2) hkl2 (by exact hbn2.out) (by exact hbn2.out.size) ?_; intro a4 cap4 w3 ho3 hb3 hs3 hk3; obtain ⟨_, pg0, pg1, pg2, pg3, pg4⟩ := HX.out w3 hb3)
    | (refine step_nodesK _ rfl _ _ rfl rfl rfl L [newNd last x a b] rfl (rfl : L.length = L.length) (rfl : [newNd last x a b].length = 1) (by exact ho2) (by exact hn2) hkl2 (by exact hb2) (by exact hb2.size) ?_; intro a4 cap4 w3 ho3 hb3 hs3 hk3; obtain ⟨_, pg0, pg1, pg2, pg3, pg4⟩ := HX.out w3 hb3))
  all_goals
    obtain ⟨y0, HEND⟩ := radd_end HWf.out.1 HWf.out.2.1 hb3 (by exact ho3) rfl HE.out
    clear ho3 hb3 ho2 hb2
    go_wp2_with fail
    go_ret2
    exact HEND.out
end
end Go.Proofs.Ytiechmcfafhfaaa
