/- The function alive of layer 6. -/
import Derived.Test.YtdmnemgooagehaaGreatDoorWt
namespace Go.Proofs.YtdmnemgooagehaaGreatDoor
open Go.RowKit Go.Maps

set_option maxRecDepth 100000 in
set_option maxHeartbeats 4000000 in
theorem alive6 (w : World) (hT : Tab w) (hC : Cst w) : Calls Tryz.prog 27 #[] w fun e w' => e = .returned (.bool true) ∧ Below w.heap.size w w' := by
  have HN := hid (show Calls Tryz.prog 28 #[.int .i64 65536, .int .i64 100] w _ from Pw.new (w0 := w) (G := fun _ => False) 6 100 hT hC (by decide) (by decide) (by decide) (Below.refl _ _) (fun x h => h.elim))
  clear hT hC
  go_enter Tryz.func27, Tryz.ntmps27
  go_wp2_with fail
  refine HN.out.mono ?_
  rintro e w1 ⟨P, rfl, hK, _, h1, _⟩
  have HK := hid hK
  have H1 := hid h1
  clear h1 hK
  go_wp2_with fail
  refine (H1.out.get (by decide) 0 2).mono ?_
  rintro e w2 ⟨_, ⟨er, rfl, h0, hn, h2⟩ | ⟨k, q, i, B', U', hk, rfl, hg, h2⟩⟩
  case inr =>
    have e1 : k = 2 := by have := hk.1; omega
    subst e1
    have e2 := hg.chg
    rw [show (v0 6 100).l = root 100 0 from rfl, one_hundred] at e2
    cases e2
  have e5 : er = 5 := by
    rcases hn with ⟨_, h2⟩ | ⟨k, hk, h2⟩
    · exact absurd (by decide) h2
    · have e1 : k = 2 := by have := hk.1; omega
      subst e1
      rw [show (v0 6 100).l = root 100 0 from rfl, one_hundred] at h2
      rcases h2 with h2 | ⟨_, h2, _⟩
      · exact h2
      · cases h2
  subst e5
  clear hn h0
  have hE : EmpV { v0 6 100 with ct := (v0 6 100).ct + 1 } := ⟨fun _ => rfl, ExactP.start 6 100, rfl⟩
  obtain ⟨v1, hv1⟩ : ∃ v1, v1 = { v0 6 100 with ct := (v0 6 100).ct + 1 } := ⟨_, rfl⟩
  have hc1 : v1.ct = 1 := by rw [hv1]; rfl
  rw [← hv1] at h2 hE
  have H2 := hid (And.intro h2 hE)
  have HC1 := hid hc1
  clear h2 hE hv1 hc1 H1
  go_wp2_with fail
  refine (H2.out.1.get (by rw [HC1.out]; decide) 0 1).mono ?_
  rintro e w3 ⟨_, ⟨er, rfl, h0, hn, _⟩ | ⟨k, q, i, B', U', hk, rfl, hg, h3⟩⟩
  · exact (H2.out.2.noget H2.out.1.inv h0 hn).elim
  obtain ⟨rfl, rfl, rfl, hO⟩ := H2.out.2.got H2.out.1.inv hk hg
  rw [show ((place (cost 1) 0 0 : Nat) : Int) = 64 from by decide]
  obtain ⟨v2, hv2⟩ : ∃ v2, v2 = gotV v1 0 1 0 0 B' U' := ⟨_, rfl⟩
  have hc2 : v2.ct = 2 := by rw [hv2]; show v1.ct + 1 = 2; rw [HC1.out]
  rw [← hv2] at h3 hO
  have H3 := hid (And.intro h3 hO)
  have HC2 := hid hc2
  clear h3 hO hv2 hc2 hg hk
  go_wp2_with (go_at_call 33; refine H3.out.1.arena.mono ?_; rintro e wx ⟨rfl, ex⟩; rw [ex]; clear ex wx)
  have hb4 : Below w3.heap.size w3 (w3.alloc (.cells #[.int .u64 7] 72)) := (Below.refl _ _).alloc (Nat.le_refl _) _
  have hl3 := H3.out.1.len
  rw [HK.out] at hl3
  refine ((H3.out.1.plus hb4).store 64 [7] w3.heap.size 0 1 (by rw [hl3]; decide) (by decide) (.inr ⟨Nat.le_refl _, by simp⟩) (fun j hj => by
    have e : j = 0 := by simp at hj; omega
    subst e
    rw [cell_of_row _ _ _ _ _ _ (heap_alloc_new _ _)]; rfl) (fun j => by
    rcases Nat.eq_zero_or_pos j with e | e
    · subst e; decide
    · rw [List.getElem?_eq_none (by simp; omega)]; decide)).mono ?_
  rintro e w4 ⟨rfl, h4, _⟩
  have hO4 : OneV { v2 with m := Ar.putAt v2.m 64 (Ar.wordsBytes [7]) } := ⟨H3.out.2.u1, H3.out.2.u, H3.out.2.ex, H3.out.2.l⟩
  obtain ⟨v4, hv4⟩ : ∃ v4, v4 = { v2 with m := Ar.putAt v2.m 64 (Ar.wordsBytes [7]) } := ⟨_, rfl⟩
  have hc4 : v4.ct = 2 := by rw [hv4]; exact HC2.out
  rw [← hv4] at h4 hO4
  have H4 := hid (And.intro (h4.fewer (G' := fun _ => False) (fun x h => h.elim)) hO4)
  have HC4 := hid hc4
  clear h4 hO4 hv4 hc4 hb4 hl3
  go_wp2_with fail
  refine (H4.out.1.put 0 1 64 (by decide) (by decide)).mono ?_
  rintro e w5 ⟨_, ⟨er, rfl, h0, hn, _⟩ | ⟨k, q, i, B2, hk, rfl, hg, h5⟩⟩
  · exact (H4.out.2.noput h0 hn).elim
  have hE5 := H4.out.2.put H4.out.1 hk hg
  obtain ⟨v5, hv5⟩ : ∃ v5, v5 = putV v4 0 k q i B2 := ⟨_, rfl⟩
  have hc5 : v5.ct = 2 := by rw [hv5]; exact HC4.out
  rw [← hv5] at h5 hE5
  have H5 := hid (And.intro h5 hE5)
  have HC5 := hid hc5
  clear h5 hE5 hv5 hc5 hg hk
  go_wp2_with fail
  refine (H5.out.1.get (by rw [HC5.out]; decide) 0 1).mono ?_
  rintro e w6 ⟨_, ⟨er, rfl, h0, hn, _⟩ | ⟨k, q, i, B3, U3, hk, rfl, hg, h6⟩⟩
  · exact (H5.out.2.noget H5.out.1.inv h0 hn).elim
  obtain ⟨rfl, rfl, rfl, hO⟩ := H5.out.2.got H5.out.1.inv hk hg
  rw [show ((place (cost 1) 0 0 : Nat) : Int) = 64 from by decide]
  have hl5 := H5.out.1.len
  rw [HK.out] at hl5
  have hm6 : Ar.wordAt (gotV v5 0 1 0 0 B3 U3).m 64 = 0 := wordAt_zeros (by rw [hl5]; decide) (by decide) (by decide)
  obtain ⟨v6, hv6⟩ : ∃ v6, v6 = gotV v5 0 1 0 0 B3 U3 := ⟨_, rfl⟩
  have hc6 : v6.ct = 3 := by rw [hv6]; show v5.ct + 1 = 3; rw [HC5.out]
  rw [← hv6] at h6 hO hm6
  have H6 := hid (And.intro h6 (And.intro hO hm6))
  have HC6 := hid hc6
  clear h6 hO hm6 hv6 hc6 hg hk hl5
  go_wp2_with (go_at_call 33; refine H6.out.1.arena.mono ?_; rintro e wx ⟨rfl, ex⟩; rw [ex]; clear ex wx)
  have hl6 := H6.out.1.len
  rw [HK.out] at hl6
  refine (H6.out.1.load 64 (by rw [hl6]; decide) (by decide)).mono ?_
  rintro e w7 ⟨rfl, hb7⟩
  rw [H6.out.2.2]
  have H7 := hid (H6.out.1.below hb7)
  clear hl6 hb7
  go_wp2_with (go_at_call 41; refine (H7.out.cost 3).mono ?_; rintro e wx ⟨rfl, ex⟩; rw [ex, show costI 3 = 256 from by decide]; clear ex wx)
  refine (H7.out.has 1 64 (by decide) (by decide)).mono ?_
  rintro e w8 ⟨f, rfl, hf, n, rfl⟩
  have hft : f = true := hf.out.2 ⟨1, 0, 0, ⟨rfl, by decide, by decide⟩, by decide, by rw [H6.out.2.1.u1]; rfl, by decide⟩
  subst hft
  have H8 := hid (H7.out.drewN n)
  clear hf
  go_wp2_with fail
  refine (H8.out.used (by rw [HC6.out]; decide) 1).mono ?_
  rintro e w9 ⟨u, rfl, hrow, hb9⟩
  obtain ⟨a9, cap9, rfl, _⟩ := ints_of hrow
  rw [H6.out.2.1.len HK.out]
  have H9 := hid (H8.out.below hb9)
  clear hrow hb9
  go_wp2_with (go_at_call 34; refine H9.out.quota.mono ?_; rintro e wx ⟨rfl, ex⟩; rw [ex]; clear ex wx)
  refine (H9.out.use 0).mono ?_
  rintro e w10 ⟨rfl, hb10⟩
  rw [H6.out.2.1.l, root_useA]
  have H10 := hid (H9.out.below hb10)
  clear hb10
  have HL := hid (show Calls Tryz.prog 62 #[.pointer (some ⟨P.bb, 0, none⟩)] w10 fun e w' => e = .returned (.int .i64 64512) ∧ w' = w10 from by
    refine H10.out.left.mono ?_
    rintro e w' ⟨rfl, rfl⟩
    have := H6.out.1.inv
    rw [HK.out] at this
    rw [HK.out, H6.out.2.1.left this]
    exact ⟨rfl, rfl⟩)
  go_wp2_with (first
    | (go_at_call 35; refine H10.out.blocks.mono ?_; rintro e wx ⟨rfl, ex⟩; rw [ex]; clear ex wx)
    | (go_at_call 62; refine HL.out.mono ?_; rintro e wx ⟨rfl, ex⟩; rw [ex]; clear ex wx)
    | (go_at_call 28; refine (pnew_no 65536 65537 w10 (.inr (by decide))).mono ?_; rintro e wx ⟨rfl, ex⟩; rw [ex]; clear ex wx))
  go_ret
  exact ⟨rfl, H10.out.b0⟩
end Go.Proofs.YtdmnemgooagehaaGreatDoor
