/- The walk of ForestOwners. -/
import Derived.Test.YtiechmcfafhfaaaW
namespace Go.Proofs.Ytiechmcfafhfaaa.forestOwners
open Go.RowKit Go.Maps Go.Shelf Go.Proofs.Ytiechmcfafhfaaa

set_option maxRecDepth 100000 in
theorem core_out (a : Option Addr) (n cap : Nat) (w : World) (hl : 100 < n) :
    Calls Try.prog 7 #[.slice a n cap] w fun e w' => e = .returned (.bool true) ∧ Below w.heap.size w w' := by
  have h2 : decide (100 < n) = true := by simp; omega
  go_enter Try.func7, Try.ntmps7
  go_wp2_with (go_at_call 8; refine (alive_true _).mono ?_; rintro e w' ⟨rfl, hb⟩)
  go_ret
  exact ⟨rfl, hb⟩
/-- How many nodes have a number below n. -/
def cntB (L : List Nd) (n : Nat) : Nat := (L.filter (fun e => decide (e.id < n))).length
theorem cntB_one {L : List Nd} {last : Nat} (h : Wf L last) : cntB L 1 = 0 := by
  unfold cntB
  rw [List.filter_eq_nil_iff.2 (fun e he => by have := (h.lo e he).1; simp; omega)]
  rfl
theorem cntB_all {L : List Nd} {last : Nat} (h : Wf L last) : cntB L (last + 1) = L.length := by
  unfold cntB
  rw [List.filter_eq_self.2 (fun e he => by have := (h.lo e he).2; simp; omega)]
theorem cntB_step {L : List Nd} {last : Nat} (h : Wf L last) {e : Nd} (he : e ∈ L) : cntB L (e.id + 1) = cntB L e.id + 1 := by
  unfold cntB
  have hp := h.ids
  have : ∀ (M : List Nd), M.Pairwise (fun a b => a.id ≠ b.id) → e ∈ M → (M.filter (fun f => decide (f.id < e.id + 1))).length = (M.filter (fun f => decide (f.id < e.id))).length + 1 := by
    intro M
    induction M with
    | nil => intro _ hm; cases hm
    | cons y r ih =>
      intro hp hm
      obtain ⟨h1, h2⟩ := List.pairwise_cons.1 hp
      rcases List.mem_cons.1 hm with rfl | hm
      · rw [List.filter_cons_of_pos (by simp), List.filter_cons_of_neg (by simp), List.length_cons]
        congr 2
        apply List.filter_congr
        intro f hf
        have := h1 f hf
        by_cases hlt : f.id < e.id
        · simp [hlt]; omega
        · have : ¬ f.id < e.id + 1 := by omega
          simp [hlt, this]
      · have := h1 e hm
        by_cases hlt : y.id < e.id
        · rw [List.filter_cons_of_pos (by simp; omega), List.filter_cons_of_pos (by simpa using hlt), List.length_cons, List.length_cons, ih h2 hm]
        · rw [List.filter_cons_of_neg (by simp; omega), List.filter_cons_of_neg (by simpa using hlt), ih h2 hm]
  exact this L hp he
theorem cntB_skip {L : List Nd} {n : Nat} (hn : ¬ ∃ e ∈ L, e.id = n) : cntB L (n + 1) = cntB L n := by
  unfold cntB
  congr 1
  apply List.filter_congr
  intro f hf
  have : f.id ≠ n := fun e => hn ⟨f, hf, e⟩
  by_cases hlt : f.id < n
  · simp [hlt]; omega
  · have : ¬ f.id < n + 1 := by omega
    simp [hlt, this]
theorem count_one {l : List Nat} {a : Nat} (hn : l.Nodup) (h : a ∈ l) : l.count a = 1 := by
  induction l with
  | nil => cases h
  | cons x r ih =>
    obtain ⟨h1, h2⟩ := List.nodup_cons.1 hn
    rw [List.count_cons]
    by_cases e : x = a
    · subst e
      rw [List.count_eq_zero.2 h1]
      simp
    · have : a ∈ r := by rcases List.mem_cons.1 h with h | h; exact absurd h.symm e; exact h
      rw [ih h2 this]
      simp [e]
theorem cntB_le (L : List Nd) (n : Nat) : cntB L n ≤ L.length := List.length_filter_le _ _

set_option maxRecDepth 100000 in
set_option maxHeartbeats 8000000 in
theorem core (a : Option Addr) (len cap : Nat) (w : World) (hA : Acts w w.heap.size a len) (hl : len ≤ 100) :
    Calls Try.prog 7 #[.slice a len cap] w fun e w' => e = .returned (.bool true) ∧ Below w.heap.size w w' := by
  have HA := hid hA
  have hd1 : decide (100 < len) = false := by simp; omega
  clear hA
  go_enter Try.func7, Try.ntmps7
  go_wp2_with (first
    | (go_at_call 8; refine (alive_true _).mono ?_; rintro e w1 ⟨rfl, hb1⟩; have HB1 := hid hb1; clear hb1)
    | (go_at_call 19; refine (z_new _).mono ?_; rintro e w2 ⟨p, m1, m2, nb, rfl, hz⟩; have H2 := hid hz; clear hz))
  go_loopw [4, 5] (fun u c wr => ∃ last i : Nat, u = .int .i64 (last : Int) ∧ c = .int .i64 (i : Int) ∧ i ≤ len ∧ last ≤ i ∧ Hid (∃ L nb, Fz w1 wr p m1 m2 nb last L)) (fun _ c _ => len - (intOf c).toNat)
  case atStart => exact ⟨0, 0, rfl, rfl, Nat.zero_le _, Nat.le_refl _, [], nb, H2.out⟩
  case round =>
    obtain ⟨last, i, rfl, rfl, hi, hle, hS⟩ := hrel
    by_cases hlt : i < len
    · obtain ⟨L, nb, hz⟩ := hS.out
      obtain ⟨s, o, x, rfl, hx, hs⟩ := HA.out.at (HB1.out.trans (hz.bel.mono HB1.out.size)) hlt
      obtain ⟨kd, xi, sp, sl⟩ := x
      have c0 : wr.cell? ⟨s, o + i * 4, none⟩ = some (.int .i64 kd) := hx.c0
      have c1 : wr.cell? ⟨s, o + i * 4 + 1, none⟩ = some (.int .i64 xi) := hx.c1
      have c2 : wr.cell? ⟨s, o + i * 4 + 2, none⟩ = some (.int .i64 sp) := hx.c2
      have c3 : wr.cell? ⟨s, o + i * 4 + 3, none⟩ = some (.int .i64 sl) := hx.c3
      have HX := hid (And.intro hx.i1 (And.intro hx.i2 hx.i3))
      have HZ := hid (fun wx (hb : Below wr.heap.size wr wx) => hz.below hb)
      have HLT := hid (And.intro hlt hle)
      have hi0 : (0 : Int) ≤ (i : Int) := by omega
      have hi1 : (i : Int) < (len : Int) := by omega
      have hlb : last ≤ 100 := by omega
      have HNB := hid (fun (W : World) => (Below.refl W.heap.size W).alloc (Nat.le_refl _))
      clear hx hz hS hs hlt hle
      by_cases k0 : kd = 0
      · subst k0
        have HC := hid (fun wx (hb : Below wr.heap.size wr wx) => zz_add (HZ.out wx hb) (by omega) HX.out.1 HX.out.2.1 HX.out.2.2)
        by_cases he : addE L xi sp sl = 0
        · have e1 : addI L last xi sp sl = (last : Int) + 1 := by unfold addI; rw [if_pos he]
          have e2 : addN L last xi sp sl = last + 1 := by unfold addN; rw [if_pos he]
          rw [e1, e2, he] at HC
          clear e1 e2 he
          go_wp2_with (go_at_call 9; refine (HC.out _ (HNB.out _ _)).mono ?_; rintro en wA ⟨rfl, nbA, hzA, _⟩; have HQ := hid hzA; clear hzA)
          exact ⟨⟨last + 1, i + 1, by go_num, by go_num, HLT.out.1, by have := HLT.out.2; omega, _, _, HQ.out⟩, by have := HLT.out.1; simp [intOf]; omega⟩
        · have e1 : addI L last xi sp sl = 0 := by unfold addI; rw [if_neg he]
          have e2 : addN L last xi sp sl = last := by unfold addN; rw [if_neg he]
          have hed : (addE L xi sp sl == 0) = false := by rw [beq_eq_false_iff_ne]; exact he
          have hed2 : (addE L xi sp sl != 0) = true := by rw [bne_iff_ne]; exact he
          rw [e1, e2] at HC
          clear e1 e2 he
          generalize addE L xi sp sl = ee at *
          go_wp2_with (go_at_call 9; refine (HC.out _ (HNB.out _ _)).mono ?_; rintro en wA ⟨rfl, nbA, hzA, _⟩; have HQ := hid hzA; clear hzA)
          exact ⟨⟨last, i + 1, rfl, by go_num, HLT.out.1, by have := HLT.out.2; omega, _, _, HQ.out⟩, by have := HLT.out.1; simp [intOf]; omega⟩
      · have d0 : (kd == 0) = false := by rw [beq_eq_false_iff_ne]; exact k0
        by_cases k1 : kd = 1
        · subst k1
          have HC := hid (fun wx (hb : Below wr.heap.size wr wx) => zz_cut (HZ.out wx hb) HX.out.1)
          clear k0
          go_wp2_with (go_at_call 17; refine (HC.out _ (HNB.out _ _)).mono ?_; rintro en wA ⟨aA, cA, rfl, _, hzA, _⟩; have HQ := hid hzA; clear hzA)
          exact ⟨⟨last, i + 1, rfl, by go_num, HLT.out.1, by have := HLT.out.2; omega, _, _, HQ.out⟩, by have := HLT.out.1; simp [intOf]; omega⟩
        · have d1 : (kd == 1) = false := by rw [beq_eq_false_iff_ne]; exact k1
          by_cases k2 : kd = 2
          · subst k2
            have HC := hid (fun wx (hb : Below wr.heap.size wr wx) => zz_remove (HZ.out wx hb) HX.out.1)
            clear k0 k1
            go_wp2_with (go_at_call 18; refine (HC.out _ (HNB.out _ _)).mono ?_; rintro en wA ⟨aA, cA, rfl, _, hzA, _⟩; have HQ := hid hzA; clear hzA)
            exact ⟨⟨last, i + 1, rfl, by go_num, HLT.out.1, by have := HLT.out.2; omega, _, _, HQ.out⟩, by have := HLT.out.1; simp [intOf]; omega⟩
          · have d2 : (kd == 2) = false := by rw [beq_eq_false_iff_ne]; exact k2
            by_cases k3 : kd = 3
            · subst k3
              have HC := hid (fun wx (hb : Below wr.heap.size wr wx) => zz_lift (HZ.out wx hb) HX.out.1)
              clear k0 k1 k2
              go_wp2_with (go_at_call 11; refine (HC.out _ (HNB.out _ _)).mono ?_; rintro en wA ⟨rfl, hzA, _⟩; have HQ := hid hzA; clear hzA)
              exact ⟨⟨last, i + 1, rfl, by go_num, HLT.out.1, by have := HLT.out.2; omega, _, _, HQ.out⟩, by have := HLT.out.1; simp [intOf]; omega⟩
            · have d3 : (kd == 3) = false := by rw [beq_eq_false_iff_ne]; exact k3
              clear k0 k1 k2 k3
              have HQ := hid (HZ.out _ (HNB.out wr (.cells #[.int .i64 kd, .int .i64 xi, .int .i64 sp, .int .i64 sl] 46)))
              go_wp2_with fail
              exact ⟨⟨last, i + 1, rfl, by go_num, HLT.out.1, by have := HLT.out.2; omega, _, _, HQ.out⟩, by have := HLT.out.1; simp [intOf]; omega⟩
    · obtain rfl : i = len := by omega
      obtain ⟨L, nbL, hz⟩ := hS.out
      have HZ := hid hz
      have hlb : last ≤ 100 := by omega
      have h1c := cntB_one hz.fo.wf
      clear hS hz hlt hle
      go_wp2_with fail
      go_loopw [9, 10] (fun u c wx => ∃ n : Nat, 1 ≤ n ∧ n ≤ last + 1 ∧ u = .int .i64 (cntB L n : Int) ∧ c = .int .i64 (n : Int) ∧ Hid (Fz w1 wx p m1 m2 nbL last L)) (fun _ c _ => last + 1 - (intOf c).toNat)
      case atStart => exact ⟨1, Nat.le_refl _, by omega, by rw [h1c]; rfl, rfl, HZ.out⟩
      case round =>
        obtain ⟨n, hn1, hn2, rfl, rfl, hF⟩ := hrel
        have hcl : cntB L n ≤ 400 := by have := cntB_le L n; have := hF.out.fo.len; omega
        by_cases hlt : n ≤ last
        · have HLT := hid (And.intro hn1 hlt)
          have hnl : (n : Int) ≤ (last : Int) := by omega
          by_cases hT : ∃ e ∈ L, e.id = n
          · obtain ⟨e, he, hen⟩ := hT
            have c10 := owner_hit hF.out.fo he
            rw [hen] at c10
            have HO := hid c10
            have HP := hid (fun wx (hw : Fz w1 wx p m1 m2 nbL last L) => show Calls Try.prog 13 #[ptr p, .int .i64 (n : Int)] wx fun en w' => en = .returned (.int .i64 (e.par : Int)) ∧ w' = wx from by rw [← hen]; exact parent_hit hw.fo he)
            have hpar := hF.out.fo.wf.par e he
            have hstep := cntB_step hF.out.fo.wf he
            rw [hen] at hstep
            have HST := hid hstep
            have HK := hid (fun wx (hw : Fz w1 wx p m1 m2 nbL last L) => z_kids hw (q := e.par) hpar.2)
            have HFI := hid (fun wx (hw : Fz w1 wx p m1 m2 nbL last L) => show Calls Try.prog 12 #[ptr p, .int .i64 e.sp, .int .i64 e.sl] wx fun en w' => en = .returned (.int .i64 (n : Int)) ∧ w' = wx from by rw [← hen]; exact find_hit hw.fo he)
            have HCO : Hid (e.par ≠ 0 → (kids L e.par).count n = 1) := hid (fun h0 => by rw [← hen]; exact count_one (hF.out.fo.wf.kids_nodup _) (sib he h0))
            have HPA := hid hpar
            have hkl : (kids L e.par).length ≤ 400 := by have := hF.out.fo.wf.kids_len e.par; have := hF.out.fo.len; omega
            have hwf := hF.out.fo.wf
            have HKI := hid (show ∀ x ∈ kids L e.par, x ≤ 400 from fun x hx => by have := (hwf.kid hx).2.1; omega)
            have HE := hid (And.intro he hen)
            clear c10 hpar hstep hwf hlt hn1 hn2
            go_wp2_with (first
              | (go_at_call 10; refine HO.out.mono ?_; rintro en wa ⟨rfl, k, ek⟩; have HA1 : Hid (Fz w1 wa p m1 m2 nbL last L) := hid (by rw [ek]; exact hF.out.drewN k); clear ek)
              | (go_at_call 13; refine (HP.out _ HA1.out).mono ?_; rintro en wb ⟨rfl, ew⟩; rw [ew]; clear ew wb)
              | (go_at_call 15; refine (HK.out _ HA1.out).mono ?_; rintro en wc ⟨ac, cc, rfl, hoc, hbc⟩; rw [List.length_map] at hoc ⊢; have HA2 := hid (HA1.out.below hbc); have HRO := hid hoc; clear hoc hbc))
            generalize hks : kids L e.par = ks at *
            go_loopw [15, 17] (fun u c wy => ∃ k : Nat, k ≤ ks.length ∧ u = .int .i64 ((ks.take k).count n : Int) ∧ c = .int .i64 (k : Int) ∧ wy = wc) (fun _ c _ => ks.length - (intOf c).toNat)
            case atStart => exact ⟨0, Nat.zero_le _, rfl, rfl, rfl⟩
            case round =>
              obtain ⟨k, hk, rfl, rfl, rfl⟩ := hrel
              have hct : (ks.take k).count n ≤ 400 := by have h1 := List.count_le_length (a := n) (l := ks.take k); have := List.length_take_le k ks; omega
              by_cases hkt : k < ks.length
              · have hk2 := List.getElem?_eq_getElem hkt
                obtain ⟨x, hx⟩ : ∃ x, x = ks[k] := ⟨_, rfl⟩
                rw [← hx] at hk2
                obtain ⟨g, off, rfl, _, cx⟩ := HRO.out.at (nums_at (k := k) (x := (x : Int)) (by rw [List.getElem?_map, hk2]; rfl))
                have hcs : (ks.take (k + 1)).count n = (ks.take k).count n + (if x = n then 1 else 0) := by
                  rw [List.take_add_one, hk2, List.count_append]
                  by_cases e1 : x = n <;> simp [e1]
                have HCS := hid hcs
                have HKT := hid hkt
                have hk0 : (0 : Int) ≤ (k : Int) := by omega
                have hk1 : (k : Int) < (ks.length : Int) := by omega
                clear hk2 hx hcs hkt
                by_cases hxn : x = n
                · have hd : ((x : Int) == (n : Int)) = true := by rw [beq_iff_eq]; omega
                  rw [if_pos hxn] at HCS
                  clear hxn
                  go_wp2_with fail
                  exact ⟨⟨k + 1, HKT.out, by rw [HCS.out]; go_num, by go_num, trivial⟩, by have := HKT.out; simp [intOf]; omega⟩
                · have hd : ((x : Int) == (n : Int)) = false := by rw [beq_eq_false_iff_ne]; omega
                  have hdN : (x == n) = false := by rw [beq_eq_false_iff_ne]; exact hxn
                  rw [if_neg hxn] at HCS
                  clear hxn
                  go_wp2_with fail
                  exact ⟨⟨k + 1, HKT.out, by rw [HCS.out]; rfl, by go_num, trivial⟩, by have := HKT.out; simp [intOf]; omega⟩
              · obtain rfl : k = ks.length := by omega
                rw [List.take_length] at hct ⊢
                by_cases h0 : e.par = 0
                · have hp0 : ((e.par : Nat) : Int) = 0 := by omega
                  have c11 := hid (owner_miss HA2.out.fo (x := 0) (by unfold I64; omega) HA2.out.fo.not0)
                  clear h0 hkt
                  go_wp2_with (first
                    | (go_at_call 10; refine c11.out.mono ?_; rintro en wd ⟨rfl, ew⟩; rw [ew]; clear ew wd)
                    | (go_at_call 12; refine (HFI.out _ HA2.out).mono ?_; rintro en wf ⟨rfl, ew⟩; rw [ew]; clear ew wf))
                  exact ⟨⟨n + 1, by omega, by have := HLT.out.2; omega, by rw [HST.out]; go_num, by go_num, HA2.out⟩, by have := HLT.out; simp [intOf]; omega⟩
                · obtain ⟨f, hf, hfp⟩ := HPA.out.2.resolve_left h0
                  have hc1 := HCO.out h0
                  have c11 := owner_hit HA2.out.fo hf
                  rw [hfp] at c11
                  have c11 := hid c11
                  have hpd : (((e.par : Nat) : Int) != 0) = true := by rw [bne_iff_ne]; omega
                  clear h0 hkt hf hfp
                  go_wp2_with (first
                    | (go_at_call 10; refine c11.out.mono ?_; rintro en wd ⟨rfl, k, ek⟩; have HA3 : Hid (Fz w1 wd p m1 m2 nbL last L) := hid (by rw [ek]; exact HA2.out.drewN k); clear ek)
                    | (go_at_call 12; refine (HFI.out _ HA3.out).mono ?_; rintro en wf ⟨rfl, ew⟩; rw [ew]; clear ew wf))
                  exact ⟨⟨n + 1, by omega, by have := HLT.out.2; omega, by rw [HST.out]; go_num, by go_num, HA3.out⟩, by have := HLT.out; simp [intOf]; omega⟩
          · have c10 := owner_miss hF.out.fo (x := (n : Int)) (by unfold I64; omega) (not_there hT)
            have HO := hid c10
            have HP := hid (parent_miss hF.out.fo (x := (n : Int)) (by unfold I64; omega) (not_there hT))
            have HK := hid (fkids_miss hF.out.fo (x := (n : Int)) (by unfold I64; omega) (not_there hT))
            have HST := hid (cntB_skip hT)
            clear c10 hT hlt hn1 hn2
            go_wp2_with (first
              | (go_at_call 10; refine HO.out.mono ?_; rintro en wa ⟨rfl, ew⟩; rw [ew]; clear ew wa)
              | (go_at_call 13; refine HP.out.mono ?_; rintro en wb ⟨rfl, ew⟩; rw [ew]; clear ew wb)
              | (go_at_call 15; refine HK.out.mono ?_; rintro en wc ⟨ac, cc, rfl, _, hbc⟩; rw [show ([] : List Int).length = 0 from rfl]; have HA2 := hid (hF.out.below hbc); clear hbc))
            exact ⟨⟨n + 1, by omega, by have := HLT.out.2; omega, by rw [HST.out], by go_num, HA2.out⟩, by have := HLT.out; simp [intOf]; omega⟩
        · obtain rfl : n = last + 1 := by omega
          have hc2 := cntB_all hF.out.fo.wf
          have HC := hid (len_any hF.out.fo)
          have HFF := hid hF.out.bel
          rw [← hc2] at HC
          clear hlt hn1 hn2 hc2 hF
          go_wp2_with (go_at_call 14; refine HC.out.mono ?_; rintro en wb ⟨rfl, ew⟩; rw [ew]; clear ew wb)
          go_ret
          exact ⟨rfl, HB1.out.trans (HFF.out.mono HB1.out.size)⟩
end Go.Proofs.Ytiechmcfafhfaaa.forestOwners
