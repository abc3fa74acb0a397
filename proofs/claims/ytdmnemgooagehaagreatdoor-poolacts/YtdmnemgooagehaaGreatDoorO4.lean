/- The document's pool: Put. -/
import Derived.Test.YtdmnemgooagehaaGreatDoorO3
namespace Go.Proofs.YtdmnemgooagehaaGreatDoor
open Go.RowKit Go.Maps

/-- What a Put tells, by either. -/
def PutOf (B : St) (U : Nat → Pls) (l : List Qu.Fac) (f c x : Int) (B' : St) (U' : Nat → Pls) (l' : List Qu.Fac) (er : Int) : Prop :=
  (er ≠ 0 ∧ B' = B ∧ U' = U ∧ l' = l ∧ ((er = 1 ∧ ¬ (1 ≤ c ∧ c ≤ 7)) ∨ ∃ k, Cls c k ∧ ((er = 6 ∧ ∀ q i, i < many k → U k q i = true → x ≠ ((place (cost k) q i : Nat) : Int)) ∨ (er = (Qu.refundA l f ((cost k : Nat) : Int)).1 ∧ ∃ q i, i < many k ∧ U k q i = true ∧ x = ((place (cost k) q i : Nat) : Int))))) ∨
  ∃ k q i U1, Cls c k ∧ er = 0 ∧ (Qu.refundA l f ((cost k : Nat) : Int)).1 = 0 ∧ Given (U k) U1 (many k) q i ∧ x = ((place (cost k) q i : Nat) : Int) ∧ ((Slb U1 (many k) q ∧ B' = B) ∨ (¬ Slb U1 (many k) q ∧ Less B B' 0 q)) ∧ U' = now U k U1 ∧ l' = (Qu.refundA l f ((cost k : Nat) : Int)).2
def RPutP (w : World) (G : Nat → Prop) (R : Rw) (B : St) (U : Nat → Pls) (l : List Qu.Fac) (nxt : Nat) (f c x : Int) (e : Ending) (w' : World) : Prop :=
  ∃ er B' U' l', e = .returned (.int .i64 er) ∧ PutOf B U l f c x B' U' l' er ∧ RLeft w G R B' U' l' nxt w'
section
variable {w w' : World} {G G' : Nat → Prop} {tg : Nat → Nat} {R : Rw} {B : St} {U : Nat → Pls} {l : List Qu.Fac} {nxt rg cap N : Nat} {vF vB : Value} {F Ub : List (Nat × Nat)} {vS vU : Nat → Value}
set_option maxHeartbeats 4000000 in
set_option maxRecDepth 100000 in
theorem rpput_any (h : RefP w G tg R B U l nxt rg cap vF vB F Ub vS vU) (hi : Inv R.K B) (hn : NoHeld B) (hF : ∀ k, 1 ≤ k → k ≤ 7 → Fit B (U k) (many k) (2 ^ R.K)) (hI : Qu.Inv N l nxt) (h6 : 6 ≤ R.K) (hK : R.K ≤ 14) (f c x : Int) :
    Calls Tryz.prog 42 #[.pointer (some ⟨R.rp, 0, none⟩), .int .i64 f, .int .i64 c, .int .i64 x] w (RPutP w G R B U l nxt f c x) := by
  rcases cls_or c with ⟨k, hk⟩ | hk
  · have hcc := costI_of hk
    obtain ⟨rfl, k1, k7⟩ := id hk
    have hco := cost_in k1 k7
    have hN16 : 2 ^ R.K ≤ 16384 := by
      have := Nat.pow_le_pow_right (n := 2) (by decide) hK
      have e : (2 : Nat) ^ 14 = 16384 := by decide
      omega
    obtain ⟨z, hzc⟩ : ∃ z, z = ((cost k : Nat) : Int) := ⟨_, rfl⟩
    obtain ⟨er, her⟩ : ∃ er, er = (Qu.refundA l f ((cost k : Nat) : Int)).1 := ⟨_, rfl⟩
    have hz0 : (z == 0) = false := by rw [beq_eq_false_iff_ne]; omega
    have HCO := hid (fun wx => show Calls Tryz.prog 43 #[.int .i64 (k : Int)] wx (fun e w' => e = .returned (.int .i64 z) ∧ w' = wx) from by rw [hzc, ← hcc]; exact rcost_any _ _)
    have HA := hid (rhas_any (h.rc k k1 k7) x (usedOf_few (sz_of k1 k7 h6 hK).few hN16))
    have HG : Hid (Calls Tryz.prog 99 #[.pointer (some ⟨R.rq, 0, none⟩), .int .i64 f, .int .i64 z] w.drew fun e w1 => e = .returned (.int .i64 er) ∧ Turn G w w1 ∧ ∃ tg1 rg1 cap1, RefP w1 (Gr G w w1) tg1 R B U (Qu.refundA l f ((cost k : Nat) : Int)).2 nxt rg1 cap1 vF vB F Ub vS vU) := hid (by
      rw [hzc, her]
      refine (Qu.rrefund_any h.drew.rt hI f ((cost k : Nat) : Int)).mono ?_
      intro e w1 hp
      obtain ⟨rfl, ht, tg1, rg1, cap1, hp1⟩ := h.drew.tree hp
      exact ⟨rfl, ⟨ht.os, ht.tape, ht.output, ht.size, ht.block⟩, tg1, rg1, cap1, hp1⟩)
    have hc2 := h.c2
    have hcb0 := h.cb k1 k7
    have HH := hid (And.intro h (And.intro hi (And.intro hn (And.intro hF (And.intro hI (And.intro hzc her))))))
    have HK := hid hk
    clear h hi hn hF hI hzc her hcc hco hk hN16
    have hk8 : (k : Int) < 8 := by omega
    go_enter Tryz.func42, Tryz.ntmps42
    go_wp2_with (go_at_call 43; refine (HCO.out _).mono ?_; rintro e wx ⟨rfl, ex⟩; rw [ex]; clear ex wx)
    refine HA.out.mono ?_
    rintro e wx ⟨hf, rfl, hff, ex⟩
    rw [ex]
    clear ex wx
    cases hf with
    | false =>
      go_wp2_with fail
      go_ret
      obtain ⟨h, hi, hn, hF, hI, hzc, her⟩ := HH.out
      refine ⟨6, B, U, l, rfl, .inl ⟨by decide, rfl, rfl, rfl, .inr ⟨k, HK.out, .inl ⟨rfl, fun q i hlt hu hx => ?_⟩⟩⟩, h.stay hi hn⟩
      have := hff.out.2 ⟨_, usedOf_mem.2 ⟨q, i, ((hF k k1 k7).page q ⟨i, hlt, hu⟩).2, hlt, hu, rfl⟩, hx.symm⟩
      cases this
    | true =>
      have HX : Hid (∃ q i, i < many k ∧ U k q i = true ∧ x = ((place (cost k) q i : Nat) : Int)) := hid (by
        obtain ⟨y, hy, hyx⟩ := hff.out.1 rfl
        obtain ⟨q, i, _, hlt, hu, e⟩ := usedOf_mem.1 hy
        exact ⟨q, i, hlt, hu, by rw [← hyx, e]⟩)
      clear hff
      by_cases h0 : er = 0
      · subst h0
        go_wp2_with fail
        go_region_held3 (fun W => W.cell? ⟨R.rp, 2, none⟩ = some (.pointer (some ⟨R.rq, 0, none⟩))) (first | assumption | exact hc2) (first
          | (go_at_call 43; refine (HCO.out _).mono ?_; rintro e w1 ⟨rfl, rfl⟩)
          | (go_at_call 99; refine HG.out.mono ?_; rintro e w1 ⟨rfl, ht1, tg1, rg1, cap1, hp1⟩; have hpb1 := hp1.c2))
        obtain ⟨h, hi, hn, hF, hI, hzc, her⟩ := HH.out
        have hcb := hp1.cb k1 k7
        have HT := hid (rcgive_any w1 (R.rb k) R.r _ _ R.K (cost k) (many k) B (U k) vF vB F Ub (vS k) (vU k) x hp1.rm hi hn (hp1.rc k k1 k7) (hF k k1 k7) (sz_of k1 k7 h6 hK) hK (fun hz => by have := hz.2; have := hp1.tb k k1 k7; omega) (fun hz => by have := hz.2; have := hp1.tr; omega))
        have H1 := hid (And.intro ht1 hp1)
        clear h hi hn hF hI hzc her hp1 ht1
        go_wp2_with fail
        refine HT.out.mono ?_
        rintro e w2 ⟨B2, U2, vF2, vB2, F2, Ub2, vS2, vU2, ht2, hi2, hn2, hm2, hc2', ⟨rfl, hno, _, _⟩ | ⟨q, i, rfl, hgv, hxx, hless⟩⟩
        · obtain ⟨q, i, hlt, hu, hx⟩ := HX.out
          exact (hno q i hlt hu hx).elim
        · obtain ⟨h, hi, hn, hF, hI, hzc, her⟩ := HH.out
          obtain ⟨htA, hpA⟩ := H1.out.2.cach k1 k7 ht2 hm2 hc2'
          have hsz1 := H1.out.1.size
          have H5 : Hid (RLeft w G R B2 (now U k U2) (Qu.refundA l f ((cost k : Nat) : Int)).2 nxt w2) := hid ⟨turn_gr H1.out.1 htA, hi2, hn2, _, _, _, _, _, _, _, _, _, hpA.wideG (fun x hx => gr_gr hsz1 htA.size x hx)⟩
          have H6 := hid (And.intro hgv (And.intro hxx (And.intro hless her)))
          clear h hi hn hF hI hzc her hgv hxx hless hpA htA ht2 hi2 hn2 hm2 hc2' hsz1
          go_wp2_with fail
          go_ret
          exact ⟨0, B2, _, _, rfl, .inr ⟨k, q, i, U2, HK.out, rfl, H6.out.2.2.2.symm, H6.out.1, H6.out.2.1, H6.out.2.2.1, rfl, rfl⟩, H5.out⟩
      · have h0' : (er != 0) = true := by simpa using h0
        have H0 := hid h0
        clear h0
        go_wp2_with fail
        go_region_held3 (fun W => W.cell? ⟨R.rp, 2, none⟩ = some (.pointer (some ⟨R.rq, 0, none⟩))) (first | assumption | exact hc2) (first
          | (go_at_call 43; refine (HCO.out _).mono ?_; rintro e w1 ⟨rfl, rfl⟩)
          | (go_at_call 99; refine HG.out.mono ?_; rintro e w1 ⟨rfl, ht1, tg1, rg1, cap1, hp1⟩; have hpb1 := hp1.c2))
        have H1 := hid (And.intro ht1 hp1)
        clear hp1 ht1
        go_wp2_with fail
        go_ret
        obtain ⟨h, hi, hn, hF, hI, hzc, her⟩ := HH.out
        have e2 : (Qu.refundA l f ((cost k : Nat) : Int)).2 = l := refundA_err (by rw [← her]; exact H0.out)
        have hp := H1.out.2
        rw [e2] at hp
        exact ⟨er, B, U, l, rfl, .inl ⟨H0.out, rfl, rfl, rfl, .inr ⟨k, HK.out, .inr ⟨her, HX.out⟩⟩⟩, H1.out.1, hi, hn, _, _, _, _, _, _, _, _, _, hp⟩
  · have hcc : costI c = 0 := by
      unfold costI
      rw [if_neg hk]
    have HCO := hid (fun wx => show Calls Tryz.prog 43 #[.int .i64 c] wx (fun e w' => e = .returned (.int .i64 0) ∧ w' = wx) from by rw [← hcc]; exact rcost_any _ _)
    have HH := hid (And.intro (h.stay hi hn) hk)
    clear h hi hn hF hI hk hcc
    go_enter Tryz.func42, Tryz.ntmps42
    go_wp2_with (go_at_call 43; refine (HCO.out _).mono ?_; rintro e wx ⟨rfl, ex⟩; rw [ex]; clear ex wx)
    go_ret
    exact ⟨1, B, U, l, rfl, .inl ⟨by decide, rfl, rfl, rfl, .inl ⟨rfl, HH.out.2⟩⟩, HH.out.1⟩
end
end Go.Proofs.YtdmnemgooagehaaGreatDoor
