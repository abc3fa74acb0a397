/- The document's pool: Get. -/
import Derived.Test.YtdmnemgooagehaaGreatDoorO2
namespace Go.Proofs.YtdmnemgooagehaaGreatDoor
open Go.RowKit Go.Maps

section
variable {w w' : World} {G G' : Nat → Prop} {tg : Nat → Nat} {R : Rw} {B : St} {U : Nat → Pls} {l : List Qu.Fac} {nxt rg cap : Nat} {vF vB : Value} {F Ub : List (Nat × Nat)} {vS vU : Nat → Value}
theorem RefP.wideG (h : RefP w G tg R B U l nxt rg cap vF vB F Ub vS vU) (hg : ∀ x, G x → G' x) : RefP w G' tg R B U l nxt rg cap vF vB F Ub vS vU := by
  have hz : ∀ t x, x < w.heap.size → Zt w G tg t x → Zt w G' tg t x := fun t x _ hz => ⟨hz.1.imp (hg x) id, hz.2⟩
  have hn : ∀ t x, w.heap.size ≤ x → Zt w G' tg t x := fun t x hx => ⟨.inr hx, .inl (h.new x hx)⟩
  exact ⟨h.hd, h.rm.re (hz 2) (hn 2), h.rt, fun k h1 h7 => (h.rc k h1 h7).re (hz _) (hn _), h.tp, h.tr, h.tq, h.tgg, h.tb, hg _ h.gp, hg _ h.gq, hg _ h.gg, h.new⟩
theorem gr_gr {w1 w2 : World} (h1 : w.heap.size ≤ w1.heap.size) (h2 : w1.heap.size ≤ w2.heap.size) (x : Nat) (h : Gr (Gr G w w1) w1 w2 x) : Gr G w w2 x := by
  rcases h with (h | h) | h
  · exact .inl h
  · exact .inr ⟨h.1, by omega⟩
  · exact .inr ⟨by omega, h.2⟩
theorem turn_gr {w1 w2 : World} (h : Turn G w w1) (k : Turn (Gr G w w1) w1 w2) : Turn G w w2 :=
  ⟨k.os.trans h.os, k.tape.trans h.tape, k.output.trans h.output, Nat.le_trans h.size k.size, fun x hx hg => (k.block x (Nat.lt_of_lt_of_le hx h.size) (fun e => by
    rcases e with e | e
    · exact hg e
    · omega)).trans (h.block x hx hg)⟩
theorem RefP.drewN (h : RefP w G tg R B U l nxt rg cap vF vB F Ub vS vU) (n : Nat) : RefP (w.drewN n) G tg R B U l nxt rg cap vF vB F Ub vS vU := h.keep (w' := w.drewN n) (Nat.le_refl _) (fun _ _ => rfl)
theorem RefP.drew (h : RefP w G tg R B U l nxt rg cap vF vB F Ub vS vU) : RefP w.drew G tg R B U l nxt rg cap vF vB F Ub vS vU := h.keep (w' := w.drew) (Nat.le_refl _) (fun _ _ => rfl)
theorem sz_of {k K : Nat} (h1 : 1 ≤ k) (h7 : k ≤ 7) (h6 : 6 ≤ K) (hK : K ≤ 14) : Sz (cost k) (many k) K := by
  have := cost_in h1 h7
  exact ⟨by omega, by omega, rfl, h6, by omega⟩
end
/-- What the document's Get tells. -/
def GetOf (B : St) (U : Nat → Pls) (l : List Qu.Fac) (f c : Int) (B' : St) (U' : Nat → Pls) (l' : List Qu.Fac) (at_ er : Int) : Prop :=
  (at_ = 0 ∧ er ≠ 0 ∧ B' = B ∧ U' = U ∧ l' = l ∧ ((er = 1 ∧ ¬ (1 ≤ c ∧ c ≤ 7)) ∨ ∃ k, Cls c k ∧ (er = (Qu.chargeA l f ((cost k : Nat) : Int)).1 ∨ er = 4 ∧ (Qu.chargeA l f ((cost k : Nat) : Int)).1 = 0 ∧ (∀ q, ¬ Opened (U k) (many k) q) ∧ ∀ a j, B a j ≠ .free))) ∨
  ∃ k q i U1, Cls c k ∧ at_ = ((place (cost k) q i : Nat) : Int) ∧ er = 0 ∧ (Qu.chargeA l f ((cost k : Nat) : Int)).1 = 0 ∧ Taken (U k) U1 (many k) q i ∧ Came B B' (U k) (many k) q ∧ U' = now U k U1 ∧ l' = (Qu.chargeA l f ((cost k : Nat) : Int)).2
/-- What is left of the document's pool behind a call of its own. -/
def RLeft (w : World) (G : Nat → Prop) (R : Rw) (B' : St) (U' : Nat → Pls) (l' : List Qu.Fac) (nxt' : Nat) (w' : World) : Prop :=
  Turn G w w' ∧ Inv R.K B' ∧ NoHeld B' ∧ ∃ tg' rg' cap' vF' vB' F' Ub' vS' vU', RefP w' (Gr G w w') tg' R B' U' l' nxt' rg' cap' vF' vB' F' Ub' vS' vU'
def RGetP (w : World) (G : Nat → Prop) (R : Rw) (B : St) (U : Nat → Pls) (l : List Qu.Fac) (nxt : Nat) (f c : Int) (e : Ending) (w' : World) : Prop :=
  ∃ at_ er B' U' l', e = .returned (.tuple #[.int .i64 at_, .int .i64 er]) ∧ GetOf B U l f c B' U' l' at_ er ∧ RLeft w G R B' U' l' nxt w'
section
variable {w w' : World} {G G' : Nat → Prop} {tg : Nat → Nat} {R : Rw} {B : St} {U : Nat → Pls} {l : List Qu.Fac} {nxt rg cap N : Nat} {vF vB : Value} {F Ub : List (Nat × Nat)} {vS vU : Nat → Value}
theorem RefP.stay (h : RefP w G tg R B U l nxt rg cap vF vB F Ub vS vU) (hi : Inv R.K B) (hn : NoHeld B) : RLeft w G R B U l nxt w :=
  ⟨Turn.refl _ _, hi, hn, _, _, _, _, _, _, _, _, _, h.wideG (fun _ h => .inl h)⟩
set_option maxHeartbeats 4000000 in
set_option maxRecDepth 100000 in
theorem rpget_any (h : RefP w G tg R B U l nxt rg cap vF vB F Ub vS vU) (hi : Inv R.K B) (hn : NoHeld B) (hF : ∀ k, 1 ≤ k → k ≤ 7 → Fit B (U k) (many k) (2 ^ R.K)) (hI : Qu.Inv N l nxt) (h6 : 6 ≤ R.K) (hK : R.K ≤ 14) (f c : Int) :
    Calls Tryz.prog 38 #[.pointer (some ⟨R.rp, 0, none⟩), .int .i64 f, .int .i64 c] w (RGetP w G R B U l nxt f c) := by
  rcases cls_or c with ⟨k, hk⟩ | hk
  · have hcc := costI_of hk
    obtain ⟨rfl, k1, k7⟩ := id hk
    have hco := cost_in k1 k7
    obtain ⟨z, hzc⟩ : ∃ z, z = ((cost k : Nat) : Int) := ⟨_, rfl⟩
    obtain ⟨er, her⟩ : ∃ er, er = (Qu.chargeA l f ((cost k : Nat) : Int)).1 := ⟨_, rfl⟩
    have hz0 : (z == 0) = false := by rw [beq_eq_false_iff_ne]; omega
    have HCO := hid (fun wx => show Calls Tryz.prog 43 #[.int .i64 (k : Int)] wx (fun e w' => e = .returned (.int .i64 z) ∧ w' = wx) from by rw [hzc, ← hcc]; exact rcost_any _ _)
    have HG : Hid (Calls Tryz.prog 98 #[.pointer (some ⟨R.rq, 0, none⟩), .int .i64 f, .int .i64 z] w.drew fun e w1 => e = .returned (.int .i64 er) ∧ Turn G w w1 ∧ ∃ tg1 rg1 cap1, RefP w1 (Gr G w w1) tg1 R B U (Qu.chargeA l f ((cost k : Nat) : Int)).2 nxt rg1 cap1 vF vB F Ub vS vU) := hid (by
      rw [hzc, her]
      refine (Qu.rcharge_any h.drew.rt hI f ((cost k : Nat) : Int)).mono ?_
      intro e w1 hp
      obtain ⟨rfl, ht, tg1, rg1, cap1, hp1⟩ := h.drew.tree hp
      exact ⟨rfl, ⟨ht.os, ht.tape, ht.output, ht.size, ht.block⟩, tg1, rg1, cap1, hp1⟩)
    have hc2 := h.c2
    have HH := hid (And.intro h (And.intro hi (And.intro hn (And.intro hF (And.intro hI (And.intro hzc her))))))
    have HK := hid hk
    clear h hi hn hF hI hzc her hcc hco hk
    have hk8 : (k : Int) < 8 := by omega
    by_cases h0 : er = 0
    · subst h0
      go_enter Tryz.func38, Tryz.ntmps38
      go_wp2_with (go_at_call 43; refine (HCO.out _).mono ?_; rintro e wx ⟨rfl, ex⟩; rw [ex]; clear ex wx)
      go_region_held3 (fun W => W.cell? ⟨R.rp, 2, none⟩ = some (.pointer (some ⟨R.rq, 0, none⟩))) (first | assumption | exact hc2) (first
        | (go_at_call 43; refine (HCO.out _).mono ?_; rintro e w1 ⟨rfl, rfl⟩)
        | (go_at_call 98; refine HG.out.mono ?_; rintro e w1 ⟨rfl, ht1, tg1, rg1, cap1, hp1⟩; have hpb1 := hp1.c2))
      obtain ⟨h, hi, hn, hF, hI, hzc, her⟩ := HH.out
      have hcb := hp1.cb k1 k7
      have HT := hid (rctake_any w1 (R.rb k) R.r _ _ R.K (cost k) (many k) B (U k) vF vB F Ub (vS k) (vU k) hp1.rm hi hn (hp1.rc k k1 k7) (hF k k1 k7) (sz_of k1 k7 h6 hK) hK (fun hz => by have := hz.2; have := hp1.tb k k1 k7; omega) (fun hz => by have := hz.2; have := hp1.tr; omega))
      have H1 := hid (And.intro ht1 hp1)
      clear h hi hn hF hI hzc her hp1 ht1
      go_wp2_with fail
      refine HT.out.mono ?_
      rintro e w2 ⟨B2, U2, vF2, vB2, F2, Ub2, vS2, vU2, ht2, hi2, hn2, hm2, hc2', ⟨rfl, hno, hnf, eB, eU⟩ | ⟨q, i, rfl, htk, hcm, hqN⟩⟩
      · obtain rfl := eB.symm
        obtain rfl := eU.symm
        obtain ⟨h, hi, hn, hF, hI, hzc, her⟩ := HH.out
        obtain ⟨htA, hpA⟩ := H1.out.2.cach k1 k7 ht2 hm2 hc2'
        have HR : Hid (Calls Tryz.prog 99 #[.pointer (some ⟨R.rq, 0, none⟩), .int .i64 f, .int .i64 z] w2.drew fun e w3 => (∃ x, e = .returned (.int .i64 x)) ∧ w3.cell? ⟨R.rp, 2, none⟩ = some (.pointer (some ⟨R.rq, 0, none⟩)) ∧ RLeft w G R B U l nxt w3) := hid (by
          rw [hzc]
          refine (Qu.rrefund_any hpA.drew.rt (hI.chargeA f _) f ((cost k : Nat) : Int)).mono ?_
          intro e w3 hp
          obtain ⟨rfl, ht3, tg3, rg3, cap3, hp3⟩ := hpA.drew.tree hp
          rw [refund_charge hI her.symm] at hp3
          rw [now_self] at hp3
          have hsz1 := H1.out.1.size
          have hszA := htA.size
          have hsz3 := ht3.size
          have ht3' : Turn (Gr (Gr G w w1) w1 w2) w2 w3 := ⟨ht3.os, ht3.tape, ht3.output, ht3.size, ht3.block⟩
          have htB := turn_gr H1.out.1 htA
          refine ⟨⟨_, rfl⟩, hp3.c2, turn_gr htB (ht3'.wide (fun x hx => gr_gr hsz1 hszA x hx)), hi, hn, _, _, _, _, _, _, _, _, _, hp3.wideG (fun x hx => ?_)⟩
          exact gr_gr (w1 := w2) (by omega) hsz3 x (hx.imp (fun hy => gr_gr hsz1 hszA x hy) id))
        have hc22 := hpA.c2
        have H4 := hid (And.intro hno hnf)
        clear h hi hn hF hI hzc her hno hnf hpA htA ht2 hi2 hn2 hm2 hc2'
        go_wp2_with fail
        go_region_held3 (fun W => W.cell? ⟨R.rp, 2, none⟩ = some (.pointer (some ⟨R.rq, 0, none⟩))) (first | assumption | exact hc22) (first
          | (go_at_call 43; refine (HCO.out _).mono ?_; rintro e w3 ⟨rfl, rfl⟩)
          | (go_at_call 99; refine HR.out.mono ?_; rintro e w3 ⟨⟨x, rfl⟩, hpb3, hl3⟩))
        have H3 := hid hl3
        clear hl3
        go_wp2_with fail
        go_ret2
        obtain ⟨h, hi, hn, hF, hI, hzc, her⟩ := HH.out
        exact ⟨0, 4, B, U, l, rfl, .inl ⟨rfl, by decide, rfl, rfl, rfl, .inr ⟨k, HK.out, .inr ⟨rfl, her.symm, H4.out.1, H4.out.2⟩⟩⟩, H3.out⟩
      · obtain ⟨h, hi, hn, hF, hI, hzc, her⟩ := HH.out
        obtain ⟨htA, hpA⟩ := H1.out.2.cach k1 k7 ht2 hm2 hc2'
        have hsz1 := H1.out.1.size
        have H5 : Hid (RLeft w G R B2 (now U k U2) (Qu.chargeA l f ((cost k : Nat) : Int)).2 nxt w2) := hid ⟨turn_gr H1.out.1 htA, hi2, hn2, _, _, _, _, _, _, _, _, _, hpA.wideG (fun x hx => gr_gr hsz1 htA.size x hx)⟩
        have H6 := hid (And.intro htk (And.intro hcm her))
        clear h hi hn hF hI hzc her htk hcm hpA htA ht2 hi2 hn2 hm2 hc2' hsz1
        go_wp2_with fail
        go_ret2
        exact ⟨_, 0, B2, _, _, rfl, .inr ⟨k, q, i, U2, HK.out, rfl, rfl, H6.out.2.2.symm, H6.out.1, H6.out.2.1, rfl, rfl⟩, H5.out⟩
    · have h0' : (er != 0) = true := by simpa using h0
      have H0 := hid h0
      clear h0
      go_enter Tryz.func38, Tryz.ntmps38
      go_wp2_with (go_at_call 43; refine (HCO.out _).mono ?_; rintro e wx ⟨rfl, ex⟩; rw [ex]; clear ex wx)
      go_region_held3 (fun W => W.cell? ⟨R.rp, 2, none⟩ = some (.pointer (some ⟨R.rq, 0, none⟩))) (first | assumption | exact hc2) (first
        | (go_at_call 43; refine (HCO.out _).mono ?_; rintro e w1 ⟨rfl, rfl⟩)
        | (go_at_call 98; refine HG.out.mono ?_; rintro e w1 ⟨rfl, ht1, tg1, rg1, cap1, hp1⟩; have hpb1 := hp1.c2))
      have H1 := hid (And.intro ht1 hp1)
      clear hp1 ht1
      go_wp2_with fail
      go_ret2
      obtain ⟨h, hi, hn, hF, hI, hzc, her⟩ := HH.out
      have e2 : (Qu.chargeA l f ((cost k : Nat) : Int)).2 = l := chargeA_err (by rw [← her]; exact H0.out)
      have hp := H1.out.2
      rw [e2] at hp
      exact ⟨0, er, B, U, l, rfl, .inl ⟨rfl, H0.out, rfl, rfl, rfl, .inr ⟨k, HK.out, .inl her⟩⟩, H1.out.1, hi, hn, _, _, _, _, _, _, _, _, _, hp⟩
  · have hcc : costI c = 0 := by
      unfold costI
      rw [if_neg hk]
    have HCO := hid (fun wx => show Calls Tryz.prog 43 #[.int .i64 c] wx (fun e w' => e = .returned (.int .i64 0) ∧ w' = wx) from by rw [← hcc]; exact rcost_any _ _)
    have HH := hid (And.intro (h.stay hi hn) hk)
    clear h hi hn hF hI hk hcc
    go_enter Tryz.func38, Tryz.ntmps38
    go_wp2_with (go_at_call 43; refine (HCO.out _).mono ?_; rintro e wx ⟨rfl, ex⟩; rw [ex]; clear ex wx)
    go_ret2
    exact ⟨0, 1, B, U, l, rfl, .inl ⟨rfl, by decide, rfl, rfl, rfl, .inl ⟨rfl, HH.out.2⟩⟩, HH.out.1⟩
end
end Go.Proofs.YtdmnemgooagehaaGreatDoor
