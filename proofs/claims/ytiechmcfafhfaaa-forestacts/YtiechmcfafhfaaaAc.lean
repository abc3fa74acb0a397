/- The walk of ForestActs. -/
import Derived.Test.YtiechmcfafhfaaaFc
import Derived.Deep.RegionHeld3
import Derived.Deep.CutRange
import Derived.Deep.CutBlock
namespace Go.Proofs.Ytiechmcfafhfaaa
open Go.RowKit Go.Maps Go.Shelf
section
variable {v w w' : World} {p m1 m2 r last last2 : Nat} {nb : Nat → Nat} {L L2 : List Nd} {u : Value}
theorem Fb.drew (h : Fb v w p m1 m2 nb last L r u last2 L2) : Fb v w.drew p m1 m2 nb last L r u last2 L2 :=
  ⟨⟨h.fz.fo.same (fun _ _ => rfl), ⟨h.fz.bel.os, h.fz.bel.tape, h.fz.bel.output, h.fz.bel.size, h.fz.bel.block⟩, h.fz.own⟩, ⟨h.rf.hd, h.rf.row.drew⟩, h.own, h.sep⟩
theorem rk_hit (h : Rf w r u last L) (hl : L.length ≤ 400) (f : Nd) : Calls Try.prog 28 #[ptr r, .int .i64 (f.id : Int)] w (NumPost w (zs (kids L f.id))) := by
  have := rkids_any h hl (f.id : Int)
  rw [kz_kids] at this
  exact this
theorem same_n {b1 b2 n : Nat} {v1 v2 : Value} {xs : List Int} (hn : xs.length = n) (h1 : OR w b1 1 v1 n (nums xs)) (h2 : OR w b2 1 v2 n (nums xs)) (hl : n ≤ 100000) : Calls Try.prog 26 #[v1, v2] w fun en w' => en = .returned (.bool true) ∧ ∃ q, w' = w.drewN q := by
  subst hn
  exact same_any h1 h2 hl
theorem len_gone (h : Wf L last) (hl : last < 400) (x : Int) : (below L x.toNat).length ≤ 400 ∧ (goneZ L x).length ≤ 401 := by
  have h1 := h.below_len x.toNat
  have h2 := h.len
  refine ⟨by omega, ?_⟩
  unfold goneZ
  rw [List.length_append]
  split
  · rw [List.length_singleton]; omega
  · rw [List.length_nil]; omega
end
end Go.Proofs.Ytiechmcfafhfaaa
namespace Go.Proofs.Ytiechmcfafhfaaa.forestActs
open Go.RowKit Go.Maps Go.Shelf Go.Proofs.Ytiechmcfafhfaaa

set_option maxRecDepth 100000 in
theorem core_long (a : Option Addr) (len cap : Nat) (w : World) (hl : 120 < len) :
    Calls Try.prog 3 #[.slice a len cap] w fun e w' => e = .returned (.bool true) ∧ Below w.heap.size w w' := by
  have hd : decide (120 < len) = true := by simp; omega
  have hd2 : (120 : Int) < (len : Int) := by omega
  go_enter Try.func3, Try.ntmps3
  go_wp2_with (go_at_call 8; refine (alive_true _).mono ?_; rintro e w' ⟨rfl, hb⟩)
  go_ret
  exact ⟨rfl, hb⟩
set_option maxRecDepth 100000 in
set_option maxHeartbeats 40000000 in
theorem core (a : Option Addr) (len cap : Nat) (w : World) (hA : Acts w w.heap.size a len) (hl : len ≤ 120) :
    Calls Try.prog 3 #[.slice a len cap] w fun e w' => e = .returned (.bool true) ∧ Below w.heap.size w w' := by
  have HA := hid hA
  have hd1 : decide (120 < len) = false := by simp; omega
  clear hA
  go_enter Try.func3, Try.ntmps3
  go_wp2_with (first
    | (go_at_call 8; refine (alive_true _).mono ?_; rintro e w1 ⟨rfl, hb1⟩; have HB1 := hid hb1; clear hb1)
    | (go_at_call 9; refine (add_nil _ _ _ _).mono ?_; rintro e wx ⟨rfl, ew⟩; rw [ew]; clear ew wx)
    | (go_at_call 10; refine (owner_nil _ _).mono ?_; rintro e wx ⟨rfl, ew⟩; rw [ew]; clear ew wx)
    | (go_at_call 11; refine (lift_nil _ _).mono ?_; rintro e wx ⟨rfl, ew⟩; rw [ew]; clear ew wx)
    | (go_at_call 12; refine (find_nil _ _ _).mono ?_; rintro e wx ⟨rfl, ew⟩; rw [ew]; clear ew wx)
    | (go_at_call 13; refine (parent_nil _ _).mono ?_; rintro e wx ⟨rfl, ew⟩; rw [ew]; clear ew wx)
    | (go_at_call 14; refine (len_nil _).mono ?_; rintro e wx ⟨rfl, ew⟩; rw [ew]; clear ew wx)
    | (go_at_call 15; refine (fkids_nil _ _).mono ?_; rintro e w2 ⟨a2, c2, rfl, _, hb2⟩; rw [List.length_nil]; have HB2 := hid (HB1.out.trans (hb2.mono HB1.out.size)); clear hb2)
    | (go_at_call 16; refine (fbelow_nil _ _).mono ?_; rintro e w3 ⟨a3, c3, rfl, _, hb3⟩; rw [List.length_nil]; have HB3 := hid (HB2.out.trans (hb3.mono HB2.out.size)); clear hb3)
    | (go_at_call 17; refine (cut_nil _ _).mono ?_; rintro e wx ⟨rfl, ew⟩; rw [ew]; clear ew wx)
    | (go_at_call 18; refine (remove_nil _ _).mono ?_; rintro e wx ⟨rfl, ew⟩; rw [ew]; clear ew wx)
    | (go_at_call 19; refine (z_new _).mono ?_; rintro e w4 ⟨p, m1, m2, nb, rfl, hz⟩; have H4 := hid hz; clear hz))
  have hS0 := Fb.start H4.out
  obtain ⟨r, hr⟩ : ∃ r, r = w4.heap.size := ⟨_, rfl⟩
  rw [← hr] at hS0 ⊢
  have H5 := hid hS0
  clear hS0 H4 hr
  go_loopw [11] (fun c wr => ∃ i : Nat, i ≤ len ∧ c = .int .i64 (i : Int) ∧ ∃ (last : Nat) (L : List Nd) (nb : Nat → Nat) (u : Value), last ≤ i ∧ Hid (Fb w3 wr p m1 m2 nb last L r u last L)) (fun c _ => len - (intOf c).toNat)
  case atStart => exact ⟨0, Nat.zero_le _, rfl, 0, [], nb, _, Nat.le_refl _, H5⟩
  case round =>
    obtain ⟨i, hi, rfl, last, L, nb, u, hle, hS⟩ := hrel
    clear H5
    by_cases hlt : i < len
    · obtain ⟨s0, o, x, rfl, hx, hs⟩ := HA.out.at (HB3.out.trans (hS.out.fz.bel.mono HB3.out.size)) hlt
      obtain ⟨kd, xi, sp, sl⟩ := x
      have c0 : wr.cell? ⟨s0, o + i * 4, none⟩ = some (.int .i64 kd) := hx.c0
      have c1 : wr.cell? ⟨s0, o + i * 4 + 1, none⟩ = some (.int .i64 xi) := hx.c1
      have c2 : wr.cell? ⟨s0, o + i * 4 + 2, none⟩ = some (.int .i64 sp) := hx.c2
      have c3 : wr.cell? ⟨s0, o + i * 4 + 3, none⟩ = some (.int .i64 sl) := hx.c3
      have HX := hid (And.intro hx.i1 (And.intro hx.i2 hx.i3))
      have HLT := hid hlt
      have hi0 : (0 : Int) ≤ (i : Int) := by omega
      have hi1 : (i : Int) < (len : Int) := by omega
      have hl400 : last < 400 := by omega
      have hl1 : last + 1 < 400 := by omega
      have HF := hid (hS.out.act (.cells #[.int .i64 kd, .int .i64 xi, .int .i64 sp, .int .i64 sl] 46))
      clear hx hs hS
      go_upto_region 17 with fail
      obtain ⟨bx, hbx⟩ : ∃ bx, bx = wr.heap.size := ⟨_, rfl⟩
      obtain ⟨W, hW⟩ : ∃ W, W = wr.alloc (.cells #[.int .i64 kd, .int .i64 xi, .int .i64 sp, .int .i64 sl] 46) := ⟨_, rfl⟩
      rw [← hbx, ← hW] at HF
      rw [← hbx, ← hW]
      obtain ⟨d0, d1, d2, d3⟩ := act_cells HF.out.act
      clear c0 c1 c2 c3 hbx hW hi hlt
      go_upto_block 2 with fail
      go_cut [13, 14, 15, 16, 17] from 79 to 255 (fun t13 _ _ _ _ wx => t13 = .bool true ∧ ∃ (lastM : Nat) (M : List Nd) (nbM : Nat → Nat) (uM : Value), lastM ≤ i + 1 ∧ Hid (Fa w3 wx p m1 m2 nbM lastM M r uM lastM M bx (.cells #[.int .i64 kd, .int .i64 xi, .int .i64 sp, .int .i64 sl] 46)))
      case first =>
        have HFD := hid HF.out.drew
        have HW := hid HF.out.fb.fz.fo.wf
        have HB400 : Hid ((below L xi.toNat).length ≤ 400 ∧ (goneZ L xi).length ≤ 401) := hid (len_gone HW.out hl400 xi)
        by_cases k0 : kd = 0
        · subst k0
          as_aux_lemma =>
            have hy1 : (addI L last xi sp sl == addI L last xi sp sl) = true := by simp
            have hy2 : (addE L xi sp sl == addE L xi sp sl) = true := by simp
            go_wp2_with (first
              | (go_at_call 9; refine (pc_add HF.out hl1 HX.out.1 HX.out.2.1 HX.out.2.2).mono ?_; rintro en wA ⟨rfl, nbA, hfA⟩; obtain ⟨_, n1, n2, n3⟩ := act_cells hfA.act; have HFA := hid hfA; clear hfA)
              | (go_at_call 20; refine (rc_add HFA.out HW.out hl400 xi sp sl).mono ?_; rintro en wB ⟨rfl, uB, hfB⟩; have HFB := hid hfB; clear hfB))
            go_meet
            case rel => exact ⟨by simp, _, _, nbA, _, by have := addN_le L last xi sp sl; omega, HFB⟩
        have k0' : (kd == 0) = false := by rw [beq_eq_false_iff_ne]; exact k0
        by_cases k1 : kd = 1
        · subst k1
          as_aux_lemma =>
            have hDl : (below L xi.toNat).length ≤ 100000 := by have := HB400.out; omega
            have q0 : W.drew.cell? ⟨bx, 1, none⟩ = some (.int .i64 xi) := d1
            go_wp2_with fail
            refine wp_region_held_drew (S := (fun W => W.cell? ⟨bx, 1, none⟩ = some (.int .i64 xi))) (by kernel_rfl) q0 (fun hHeld => ?_)
            refine takeH (i := 0) (some 125) (.pointer (some ⟨p, 0, none⟩)) rfl rfl (by kernel_rfl) (by kernel_rfl) (by kernel_rfl) (fun _ _ _ h => h) (Or.inl ⟨by rfl, ?_⟩) (by assumption) ?_
            · (intro w hSw; (try dsimp only at hSw); go_simp)
            simp only [Act.put, List.setIfInBounds_toArray, List.set_cons_zero, List.set_cons_succ]
            refine takeH (i := 1) (some 126) (.pointer (some ⟨bx, 1, none⟩)) rfl rfl (by kernel_rfl) (by kernel_rfl) (by kernel_rfl) (fun _ _ _ h => h) (Or.inl ⟨by rfl, ?_⟩) (by assumption) ?_
            · (intro w hSw; (try dsimp only at hSw); go_simp)
            simp only [Act.put, List.setIfInBounds_toArray, List.set_cons_zero, List.set_cons_succ]
            refine takeH (i := 2) (some 127) (.int .i64 xi) rfl rfl (by kernel_rfl) (by kernel_rfl) (by kernel_rfl) (fun _ _ _ h => h) (Or.inl ⟨by rfl, ?_⟩) (by assumption) ?_
            · (intro w hSw; (try dsimp only at hSw); go_simp)
            simp only [Act.put, List.setIfInBounds_toArray, List.set_cons_zero, List.set_cons_succ]
            refine takeH (i := 4) (some 129) (.pointer (some ⟨r, 0, none⟩)) rfl rfl (by kernel_rfl) (by kernel_rfl) (by kernel_rfl) (fun _ _ _ h => h) (Or.inl ⟨by rfl, ?_⟩) (by assumption) ?_
            · (intro w hSw; (try dsimp only at hSw); go_simp)
            simp only [Act.put, List.setIfInBounds_toArray, List.set_cons_zero, List.set_cons_succ]
            refine takeH (i := 5) (some 130) (.pointer (some ⟨bx, 1, none⟩)) rfl rfl (by kernel_rfl) (by kernel_rfl) (by kernel_rfl) (fun _ _ _ h => h) (Or.inl ⟨by rfl, ?_⟩) (by assumption) ?_
            · (intro w hSw; (try dsimp only at hSw); go_simp)
            simp only [Act.put, List.setIfInBounds_toArray, List.set_cons_zero, List.set_cons_succ]
            refine takeH (i := 6) (some 131) (.int .i64 xi) rfl rfl (by kernel_rfl) (by kernel_rfl) (by kernel_rfl) (fun _ _ _ h => h) (Or.inl ⟨by rfl, ?_⟩) (by assumption) ?_
            · (intro w hSw; (try dsimp only at hSw); go_simp)
            simp only [Act.put, List.setIfInBounds_toArray, List.set_cons_zero, List.set_cons_succ]
            refine wpAnyH_ready (rs := [3]) (by kernel_rfl) (by simp) ?_
            refine AllReadyH.cons (by simp only [List.getElem?_toArray, List.getElem?_cons_succ, List.getElem?_cons_zero]; rfl) (fun KK hK => ?_) AllReadyH.nil
            go_simp
            refine (pc_cut HFD.out HX.out.1).mono ?_
            rintro en wP ⟨aP, cP, rfl, hoP, hfP, htP, hnP⟩
            obtain ⟨_, qP, _, _⟩ := act_cells hfP.act
            have HFP := hid hfP
            clear hfP
            go_wp2_with fail
            refine hK.out _ _ qP (fun hHeld => ?_)
            clear hK KK
            try simp only [Act.put, List.setIfInBounds_toArray, List.set_cons_zero, List.set_cons_succ]
            refine wpAnyH_ready (rs := [7]) (by kernel_rfl) (by simp) ?_
            refine AllReadyH.cons (by simp only [List.getElem?_toArray, List.getElem?_cons_succ, List.getElem?_cons_zero]; rfl) (fun KK hK => ?_) AllReadyH.nil
            go_simp
            refine (rc_cut HFP.out HW.out hl400 xi).mono ?_
            rintro en wQ ⟨aQ, cQ, rfl, hoQ, uQ, hfQ, htQ, hnQ⟩
            have hoP2 := (hoP.tr htQ hnP).1
            clear hoP hnP
            obtain ⟨_, qQ, _, _⟩ := act_cells hfQ.act
            have HFQ := hid hfQ
            clear hfQ
            go_wp2_with fail
            refine hK.out _ _ qQ (fun hHeld => ?_)
            clear hK KK
            try simp only [Act.put, List.setIfInBounds_toArray, List.set_cons_zero, List.set_cons_succ]
            refine wpAnyH_ready (rs := [8]) (by kernel_rfl) (by simp) ?_
            refine AllReadyH.cons (by simp only [List.getElem?_toArray, List.getElem?_cons_succ, List.getElem?_cons_zero]; rfl) (fun KK hK => ?_) AllReadyH.nil
            go_simp
            refine (spots_n (List.length_map _) hoP2 hoQ hDl).mono ?_
            rintro en wS ⟨rfl, qS, ewS⟩
            have HFS := hid (HFQ.out.drewN qS)
            rw [← ewS] at HFS
            obtain ⟨_, qs, _, _⟩ := act_cells HFS.out.act
            clear ewS
            go_wp2_with fail
            refine hK.out _ _ qs (fun hHeld => ?_)
            clear hK KK
            try simp only [Act.put, List.setIfInBounds_toArray, List.set_cons_zero, List.set_cons_succ]
            refine takeH (i := 9) (some 13) (.bool true) rfl rfl (by kernel_rfl) (by kernel_rfl) (by kernel_rfl) (fun _ _ _ h => h) (Or.inl ⟨by rfl, ?_⟩) (by assumption) ?_
            · (intro w hSw; (try dsimp only at hSw); go_simp)
            simp only [Act.put, List.setIfInBounds_toArray, List.set_cons_zero, List.set_cons_succ]
            refine wpAnyH_done (by kernel_rfl) ?_ _
            go_wp2_with fail
            go_meet
            case rel => exact ⟨rfl, last, _, nb, _, by omega, HFS⟩
        have k1' : (kd == 1) = false := by rw [beq_eq_false_iff_ne]; exact k1
        by_cases k2 : kd = 2
        · subst k2
          as_aux_lemma =>
            have hDl : (goneZ L xi).length ≤ 100000 := by have := HB400.out; omega
            have q0 : W.drew.cell? ⟨bx, 1, none⟩ = some (.int .i64 xi) := d1
            go_wp2_with fail
            refine wp_region_held_drew (S := (fun W => W.cell? ⟨bx, 1, none⟩ = some (.int .i64 xi))) (by kernel_rfl) q0 (fun hHeld => ?_)
            refine takeH (i := 0) (some 136) (.pointer (some ⟨p, 0, none⟩)) rfl rfl (by kernel_rfl) (by kernel_rfl) (by kernel_rfl) (fun _ _ _ h => h) (Or.inl ⟨by rfl, ?_⟩) (by assumption) ?_
            · (intro w hSw; (try dsimp only at hSw); go_simp)
            simp only [Act.put, List.setIfInBounds_toArray, List.set_cons_zero, List.set_cons_succ]
            refine takeH (i := 1) (some 137) (.pointer (some ⟨bx, 1, none⟩)) rfl rfl (by kernel_rfl) (by kernel_rfl) (by kernel_rfl) (fun _ _ _ h => h) (Or.inl ⟨by rfl, ?_⟩) (by assumption) ?_
            · (intro w hSw; (try dsimp only at hSw); go_simp)
            simp only [Act.put, List.setIfInBounds_toArray, List.set_cons_zero, List.set_cons_succ]
            refine takeH (i := 2) (some 138) (.int .i64 xi) rfl rfl (by kernel_rfl) (by kernel_rfl) (by kernel_rfl) (fun _ _ _ h => h) (Or.inl ⟨by rfl, ?_⟩) (by assumption) ?_
            · (intro w hSw; (try dsimp only at hSw); go_simp)
            simp only [Act.put, List.setIfInBounds_toArray, List.set_cons_zero, List.set_cons_succ]
            refine takeH (i := 4) (some 140) (.pointer (some ⟨r, 0, none⟩)) rfl rfl (by kernel_rfl) (by kernel_rfl) (by kernel_rfl) (fun _ _ _ h => h) (Or.inl ⟨by rfl, ?_⟩) (by assumption) ?_
            · (intro w hSw; (try dsimp only at hSw); go_simp)
            simp only [Act.put, List.setIfInBounds_toArray, List.set_cons_zero, List.set_cons_succ]
            refine takeH (i := 5) (some 141) (.pointer (some ⟨bx, 1, none⟩)) rfl rfl (by kernel_rfl) (by kernel_rfl) (by kernel_rfl) (fun _ _ _ h => h) (Or.inl ⟨by rfl, ?_⟩) (by assumption) ?_
            · (intro w hSw; (try dsimp only at hSw); go_simp)
            simp only [Act.put, List.setIfInBounds_toArray, List.set_cons_zero, List.set_cons_succ]
            refine takeH (i := 6) (some 142) (.int .i64 xi) rfl rfl (by kernel_rfl) (by kernel_rfl) (by kernel_rfl) (fun _ _ _ h => h) (Or.inl ⟨by rfl, ?_⟩) (by assumption) ?_
            · (intro w hSw; (try dsimp only at hSw); go_simp)
            simp only [Act.put, List.setIfInBounds_toArray, List.set_cons_zero, List.set_cons_succ]
            refine wpAnyH_ready (rs := [3]) (by kernel_rfl) (by simp) ?_
            refine AllReadyH.cons (by simp only [List.getElem?_toArray, List.getElem?_cons_succ, List.getElem?_cons_zero]; rfl) (fun KK hK => ?_) AllReadyH.nil
            go_simp
            refine (pc_rem HFD.out HX.out.1).mono ?_
            rintro en wP ⟨aP, cP, rfl, hoP, hfP, htP, hnP⟩
            obtain ⟨_, qP, _, _⟩ := act_cells hfP.act
            have HFP := hid hfP
            clear hfP
            go_wp2_with fail
            refine hK.out _ _ qP (fun hHeld => ?_)
            clear hK KK
            try simp only [Act.put, List.setIfInBounds_toArray, List.set_cons_zero, List.set_cons_succ]
            refine wpAnyH_ready (rs := [7]) (by kernel_rfl) (by simp) ?_
            refine AllReadyH.cons (by simp only [List.getElem?_toArray, List.getElem?_cons_succ, List.getElem?_cons_zero]; rfl) (fun KK hK => ?_) AllReadyH.nil
            go_simp
            refine (rc_rem HFP.out HW.out hl400 xi).mono ?_
            rintro en wQ ⟨aQ, cQ, rfl, hoQ, uQ, hfQ, htQ, hnQ⟩
            have hoP2 := (hoP.tr htQ hnP).1
            clear hoP hnP
            obtain ⟨_, qQ, _, _⟩ := act_cells hfQ.act
            have HFQ := hid hfQ
            clear hfQ
            go_wp2_with fail
            refine hK.out _ _ qQ (fun hHeld => ?_)
            clear hK KK
            try simp only [Act.put, List.setIfInBounds_toArray, List.set_cons_zero, List.set_cons_succ]
            refine wpAnyH_ready (rs := [8]) (by kernel_rfl) (by simp) ?_
            refine AllReadyH.cons (by simp only [List.getElem?_toArray, List.getElem?_cons_succ, List.getElem?_cons_zero]; rfl) (fun KK hK => ?_) AllReadyH.nil
            go_simp
            refine (spots_n (List.length_map _) hoP2 hoQ hDl).mono ?_
            rintro en wS ⟨rfl, qS, ewS⟩
            have HFS := hid (HFQ.out.drewN qS)
            rw [← ewS] at HFS
            obtain ⟨_, qs, _, _⟩ := act_cells HFS.out.act
            clear ewS
            go_wp2_with fail
            refine hK.out _ _ qs (fun hHeld => ?_)
            clear hK KK
            try simp only [Act.put, List.setIfInBounds_toArray, List.set_cons_zero, List.set_cons_succ]
            refine takeH (i := 9) (some 13) (.bool true) rfl rfl (by kernel_rfl) (by kernel_rfl) (by kernel_rfl) (fun _ _ _ h => h) (Or.inl ⟨by rfl, ?_⟩) (by assumption) ?_
            · (intro w hSw; (try dsimp only at hSw); go_simp)
            simp only [Act.put, List.setIfInBounds_toArray, List.set_cons_zero, List.set_cons_succ]
            refine wpAnyH_done (by kernel_rfl) ?_ _
            go_wp2_with fail
            go_meet
            case rel => exact ⟨rfl, last, _, nb, _, by omega, HFS⟩
        have k2' : (kd == 2) = false := by rw [beq_eq_false_iff_ne]; exact k2
        by_cases k3 : kd = 3
        · subst k3
          as_aux_lemma =>
            have q0 : W.drew.cell? ⟨bx, 1, none⟩ = some (.int .i64 xi) := d1
            have hyy : (liftE L xi == liftE L xi) = true := by simp
            go_wp2_with fail
            refine wp_region_held_drew (S := (fun W => W.cell? ⟨bx, 1, none⟩ = some (.int .i64 xi))) (by kernel_rfl) q0 (fun hHeld => ?_)
            refine takeH (i := 0) (some 147) (.pointer (some ⟨p, 0, none⟩)) rfl rfl (by kernel_rfl) (by kernel_rfl) (by kernel_rfl) (fun _ _ _ h => h) (Or.inl ⟨by rfl, ?_⟩) (by assumption) ?_
            · (intro w hSw; (try dsimp only at hSw); go_simp)
            simp only [Act.put, List.setIfInBounds_toArray, List.set_cons_zero, List.set_cons_succ]
            refine takeH (i := 1) (some 148) (.pointer (some ⟨bx, 1, none⟩)) rfl rfl (by kernel_rfl) (by kernel_rfl) (by kernel_rfl) (fun _ _ _ h => h) (Or.inl ⟨by rfl, ?_⟩) (by assumption) ?_
            · (intro w hSw; (try dsimp only at hSw); go_simp)
            simp only [Act.put, List.setIfInBounds_toArray, List.set_cons_zero, List.set_cons_succ]
            refine takeH (i := 2) (some 149) (.int .i64 xi) rfl rfl (by kernel_rfl) (by kernel_rfl) (by kernel_rfl) (fun _ _ _ h => h) (Or.inl ⟨by rfl, ?_⟩) (by assumption) ?_
            · (intro w hSw; (try dsimp only at hSw); go_simp)
            simp only [Act.put, List.setIfInBounds_toArray, List.set_cons_zero, List.set_cons_succ]
            refine takeH (i := 4) (some 151) (.pointer (some ⟨r, 0, none⟩)) rfl rfl (by kernel_rfl) (by kernel_rfl) (by kernel_rfl) (fun _ _ _ h => h) (Or.inl ⟨by rfl, ?_⟩) (by assumption) ?_
            · (intro w hSw; (try dsimp only at hSw); go_simp)
            simp only [Act.put, List.setIfInBounds_toArray, List.set_cons_zero, List.set_cons_succ]
            refine takeH (i := 5) (some 152) (.pointer (some ⟨bx, 1, none⟩)) rfl rfl (by kernel_rfl) (by kernel_rfl) (by kernel_rfl) (fun _ _ _ h => h) (Or.inl ⟨by rfl, ?_⟩) (by assumption) ?_
            · (intro w hSw; (try dsimp only at hSw); go_simp)
            simp only [Act.put, List.setIfInBounds_toArray, List.set_cons_zero, List.set_cons_succ]
            refine takeH (i := 6) (some 153) (.int .i64 xi) rfl rfl (by kernel_rfl) (by kernel_rfl) (by kernel_rfl) (fun _ _ _ h => h) (Or.inl ⟨by rfl, ?_⟩) (by assumption) ?_
            · (intro w hSw; (try dsimp only at hSw); go_simp)
            simp only [Act.put, List.setIfInBounds_toArray, List.set_cons_zero, List.set_cons_succ]
            refine wpAnyH_ready (rs := [3]) (by kernel_rfl) (by simp) ?_
            refine AllReadyH.cons (by simp only [List.getElem?_toArray, List.getElem?_cons_succ, List.getElem?_cons_zero]; rfl) (fun KK hK => ?_) AllReadyH.nil
            go_simp
            refine (pc_lift HFD.out HX.out.1).mono ?_
            rintro en wP ⟨rfl, hfP⟩
            obtain ⟨_, qP, _, _⟩ := act_cells hfP.act
            have HFP := hid hfP
            clear hfP
            go_wp2_with fail
            refine hK.out _ _ qP (fun hHeld => ?_)
            clear hK KK
            try simp only [Act.put, List.setIfInBounds_toArray, List.set_cons_zero, List.set_cons_succ]
            refine wpAnyH_ready (rs := [7]) (by kernel_rfl) (by simp) ?_
            refine AllReadyH.cons (by simp only [List.getElem?_toArray, List.getElem?_cons_succ, List.getElem?_cons_zero]; rfl) (fun KK hK => ?_) AllReadyH.nil
            go_simp
            refine (rc_lift HFP.out HW.out hl400 xi).mono ?_
            rintro en wQ ⟨rfl, uQ, hfQ⟩
            obtain ⟨_, qQ, _, _⟩ := act_cells hfQ.act
            have HFQ := hid hfQ
            clear hfQ
            go_wp2_with fail
            refine hK.out _ _ qQ (fun hHeld => ?_)
            clear hK KK
            try simp only [Act.put, List.setIfInBounds_toArray, List.set_cons_zero, List.set_cons_succ]
            refine takeH (i := 8) (some 155) (.bool true) rfl rfl (by kernel_rfl) (by kernel_rfl) (by kernel_rfl) (fun _ _ _ h => h) (Or.inl ⟨by rfl, ?_⟩) (by assumption) ?_
            · (intro w hSw; (try dsimp only at hSw); go_simp)
            simp only [Act.put, List.setIfInBounds_toArray, List.set_cons_zero, List.set_cons_succ]
            refine takeH (i := 9) (some 13) (.bool true) rfl rfl (by kernel_rfl) (by kernel_rfl) (by kernel_rfl) (fun _ _ _ h => h) (Or.inl ⟨by rfl, ?_⟩) (by assumption) ?_
            · (intro w hSw; (try dsimp only at hSw); go_simp)
            simp only [Act.put, List.setIfInBounds_toArray, List.set_cons_zero, List.set_cons_succ]
            refine wpAnyH_done (by kernel_rfl) ?_ _
            go_wp2_with fail
            go_meet
            case rel => exact ⟨rfl, last, _, nb, _, by omega, HFQ⟩
        have k3' : (kd == 3) = false := by rw [beq_eq_false_iff_ne]; exact k3
        clear k0 k1 k2 k3
        go_wp2_with fail
        go_meet
        case rel => exact ⟨rfl, last, L, nb, u, by omega, HF⟩
      case rest =>
        as_aux_lemma =>
          obtain ⟨rfl, lastM, M, nbM, uM, hlM, hF⟩ := hcut
          clear HF d0 d1 d2 d3
          have HWM := hid hF.out.fb.fz.fo.wf
          have hl400' : lastM < 400 := hF.out.fb.fz.fo.few
          have hM400 : M.length ≤ 400 := by have := hF.out.fb.fz.fo.len; omega
          have hZl : (below M xi.toNat).length ≤ 100000 := by have := (len_gone HWM.out hl400' xi).1; omega
          have HKL := hid (fun j => show (kids M j).length ≤ 400 from by have := HWM.out.kids_len j; omega)
          obtain ⟨s, cap2, rfl, _⟩ := hF.out.fb.rf.row.slice
          have HFD := hid hF.out.drew
          have e0 : wc.drew.cell? ⟨r, 0, none⟩ = some (.slice s M.length cap2) := hF.out.fb.rf.c0
          obtain ⟨_, e1, e2, e3⟩ := act_cells HFD.out.act
          have hy0 : ((M.length : Int) != (M.length : Int)) = false := by simp
          have hy1 : (findI M sp sl != findI M sp sl) = false := by simp
          clear hF
          go_wp2_with fail
          refine wp_region_held_drew (S := (fun W => W.cell? ⟨r, 0, none⟩ = some (.slice s M.length cap2) ∧ W.cell? ⟨bx, 1, none⟩ = some (.int .i64 xi) ∧ W.cell? ⟨bx, 2, none⟩ = some (.int .i64 sp) ∧ W.cell? ⟨bx, 3, none⟩ = some (.int .i64 sl))) (by kernel_rfl) ⟨e0, e1, e2, e3⟩ (fun hHeld => ?_)
          refine takeH (i := 0) (some 156) (.bool true) rfl rfl (by kernel_rfl) (by kernel_rfl) (by kernel_rfl) (fun _ _ _ h => h) (Or.inl ⟨by rfl, ?_⟩) (by assumption) ?_
          · (intro w hSw; (try dsimp only at hSw); go_simp)
          simp only [Act.put, List.setIfInBounds_toArray, List.set_cons_zero, List.set_cons_succ]
          refine takeH (i := 1) (some 157) (.bool false) rfl rfl (by kernel_rfl) (by kernel_rfl) (by kernel_rfl) (fun _ _ _ h => h) (Or.inl ⟨by rfl, ?_⟩) (by assumption) ?_
          · (intro w hSw; (try dsimp only at hSw); go_simp)
          simp only [Act.put, List.setIfInBounds_toArray, List.set_cons_zero, List.set_cons_succ]
          refine takeH (i := 2) (some 158) (.bool false) rfl rfl (by kernel_rfl) (by kernel_rfl) (by kernel_rfl) (fun _ _ _ h => h) (Or.inl ⟨by rfl, ?_⟩) (by assumption) ?_
          · (intro w hSw; (try dsimp only at hSw); go_simp)
          simp only [Act.put, List.setIfInBounds_toArray, List.set_cons_zero, List.set_cons_succ]
          refine takeH (i := 3) (some 159) (.pointer (some ⟨p, 0, none⟩)) rfl rfl (by kernel_rfl) (by kernel_rfl) (by kernel_rfl) (fun _ _ _ h => h) (Or.inl ⟨by rfl, ?_⟩) (by assumption) ?_
          · (intro w hSw; (try dsimp only at hSw); go_simp)
          simp only [Act.put, List.setIfInBounds_toArray, List.set_cons_zero, List.set_cons_succ]
          refine takeH (i := 5) (some 161) (.pointer (some ⟨r, 0, none⟩)) rfl rfl (by kernel_rfl) (by kernel_rfl) (by kernel_rfl) (fun _ _ _ h => h) (Or.inl ⟨by rfl, ?_⟩) (by assumption) ?_
          · (intro w hSw; (try dsimp only at hSw); go_simp)
          simp only [Act.put, List.setIfInBounds_toArray, List.set_cons_zero, List.set_cons_succ]
          refine takeH (i := 6) (some 162) (.pointer (some ⟨r, 0, none⟩)) rfl rfl (by kernel_rfl) (by kernel_rfl) (by kernel_rfl) (fun _ _ _ h => h) (Or.inl ⟨by rfl, ?_⟩) (by assumption) ?_
          · (intro w hSw; (try dsimp only at hSw); go_simp)
          simp only [Act.put, List.setIfInBounds_toArray, List.set_cons_zero, List.set_cons_succ]
          refine takeH (i := 7) (some 163) (.pointer (some ⟨r, 0, none⟩)) rfl rfl (by kernel_rfl) (by kernel_rfl) (by kernel_rfl) (fun _ _ _ h => h) (Or.inl ⟨by rfl, ?_⟩) (by assumption) ?_
          · (intro w hSw; (try dsimp only at hSw); go_simp)
          simp only [Act.put, List.setIfInBounds_toArray, List.set_cons_zero, List.set_cons_succ]
          refine takeH (i := 8) (some 164) (.slice s M.length cap2) rfl rfl (by kernel_rfl) (by kernel_rfl) (by kernel_rfl) (fun _ _ _ h => h) (Or.inl ⟨by rfl, ?_⟩) (by assumption) ?_
          · (intro w hSw; (try dsimp only at hSw); go_simp)
          simp only [Act.put, List.setIfInBounds_toArray, List.set_cons_zero, List.set_cons_succ]
          refine takeH (i := 9) (some 165) (.int .i64 (M.length : Int)) rfl rfl (by kernel_rfl) (by kernel_rfl) (by kernel_rfl) (fun _ _ _ h => h) (Or.inl ⟨by rfl, ?_⟩) (by assumption) ?_
          · (intro w hSw; (try dsimp only at hSw); go_simp)
          simp only [Act.put, List.setIfInBounds_toArray, List.set_cons_zero, List.set_cons_succ]
          refine wpAnyH_ready (rs := [4]) (by kernel_rfl) (by simp) ?_
          refine AllReadyH.cons (by simp only [List.getElem?_toArray, List.getElem?_cons_succ, List.getElem?_cons_zero]; rfl) (fun KK hK => ?_) AllReadyH.nil
          go_simp
          refine (len_any HFD.out.fb.fz.fo).mono ?_
          rintro en wx ⟨rfl, ewx⟩
          rw [ewx]
          clear ewx wx
          go_wp2_with fail
          refine hK.out _ _ ⟨e0, e1, e2, e3⟩ (fun hHeld => ?_)
          clear hK KK
          try simp only [Act.put, List.setIfInBounds_toArray, List.set_cons_zero, List.set_cons_succ]
          refine takeH (i := 10) (some 166) (.bool false) rfl rfl (by kernel_rfl) (by kernel_rfl) (by kernel_rfl) (fun _ _ _ h => h) (Or.inl ⟨by rfl, ?_⟩) (by assumption) ?_
          · (intro w hSw; (try dsimp only at hSw); go_simp)
          simp only [Act.put, List.setIfInBounds_toArray, List.set_cons_zero, List.set_cons_succ]
          refine takeH (i := 11) (some 167) (.bool false) rfl rfl (by kernel_rfl) (by kernel_rfl) (by kernel_rfl) (fun _ _ _ h => h) (Or.inl ⟨by rfl, ?_⟩) (by assumption) ?_
          · (intro w hSw; (try dsimp only at hSw); go_simp)
          simp only [Act.put, List.setIfInBounds_toArray, List.set_cons_zero, List.set_cons_succ]
          refine takeH (i := 12) (some 168) (.bool false) rfl rfl (by kernel_rfl) (by kernel_rfl) (by kernel_rfl) (fun _ _ _ h => h) (Or.inl ⟨by rfl, ?_⟩) (by assumption) ?_
          · (intro w hSw; (try dsimp only at hSw); go_simp)
          simp only [Act.put, List.setIfInBounds_toArray, List.set_cons_zero, List.set_cons_succ]
          refine takeH (i := 13) (some 169) (.pointer (some ⟨p, 0, none⟩)) rfl rfl (by kernel_rfl) (by kernel_rfl) (by kernel_rfl) (fun _ _ _ h => h) (Or.inl ⟨by rfl, ?_⟩) (by assumption) ?_
          · (intro w hSw; (try dsimp only at hSw); go_simp)
          simp only [Act.put, List.setIfInBounds_toArray, List.set_cons_zero, List.set_cons_succ]
          refine takeH (i := 14) (some 170) (.pointer (some ⟨bx, 2, none⟩)) rfl rfl (by kernel_rfl) (by kernel_rfl) (by kernel_rfl) (fun _ _ _ h => h) (Or.inl ⟨by rfl, ?_⟩) (by assumption) ?_
          · (intro w hSw; (try dsimp only at hSw); go_simp)
          simp only [Act.put, List.setIfInBounds_toArray, List.set_cons_zero, List.set_cons_succ]
          refine takeH (i := 15) (some 171) (.pointer (some ⟨bx, 2, none⟩)) rfl rfl (by kernel_rfl) (by kernel_rfl) (by kernel_rfl) (fun _ _ _ h => h) (Or.inl ⟨by rfl, ?_⟩) (by assumption) ?_
          · (intro w hSw; (try dsimp only at hSw); go_simp)
          simp only [Act.put, List.setIfInBounds_toArray, List.set_cons_zero, List.set_cons_succ]
          refine takeH (i := 16) (some 172) (.int .i64 sp) rfl rfl (by kernel_rfl) (by kernel_rfl) (by kernel_rfl) (fun _ _ _ h => h) (Or.inl ⟨by rfl, ?_⟩) (by assumption) ?_
          · (intro w hSw; (try dsimp only at hSw); go_simp)
          simp only [Act.put, List.setIfInBounds_toArray, List.set_cons_zero, List.set_cons_succ]
          refine takeH (i := 17) (some 173) (.pointer (some ⟨bx, 2, none⟩)) rfl rfl (by kernel_rfl) (by kernel_rfl) (by kernel_rfl) (fun _ _ _ h => h) (Or.inl ⟨by rfl, ?_⟩) (by assumption) ?_
          · (intro w hSw; (try dsimp only at hSw); go_simp)
          simp only [Act.put, List.setIfInBounds_toArray, List.set_cons_zero, List.set_cons_succ]
          refine takeH (i := 18) (some 174) (.pointer (some ⟨bx, 3, none⟩)) rfl rfl (by kernel_rfl) (by kernel_rfl) (by kernel_rfl) (fun _ _ _ h => h) (Or.inl ⟨by rfl, ?_⟩) (by assumption) ?_
          · (intro w hSw; (try dsimp only at hSw); go_simp)
          simp only [Act.put, List.setIfInBounds_toArray, List.set_cons_zero, List.set_cons_succ]
          refine takeH (i := 19) (some 175) (.int .i64 sl) rfl rfl (by kernel_rfl) (by kernel_rfl) (by kernel_rfl) (fun _ _ _ h => h) (Or.inl ⟨by rfl, ?_⟩) (by assumption) ?_
          · (intro w hSw; (try dsimp only at hSw); go_simp)
          simp only [Act.put, List.setIfInBounds_toArray, List.set_cons_zero, List.set_cons_succ]
          refine takeH (i := 21) (some 177) (.pointer (some ⟨r, 0, none⟩)) rfl rfl (by kernel_rfl) (by kernel_rfl) (by kernel_rfl) (fun _ _ _ h => h) (Or.inl ⟨by rfl, ?_⟩) (by assumption) ?_
          · (intro w hSw; (try dsimp only at hSw); go_simp)
          simp only [Act.put, List.setIfInBounds_toArray, List.set_cons_zero, List.set_cons_succ]
          refine takeH (i := 22) (some 178) (.pointer (some ⟨bx, 2, none⟩)) rfl rfl (by kernel_rfl) (by kernel_rfl) (by kernel_rfl) (fun _ _ _ h => h) (Or.inl ⟨by rfl, ?_⟩) (by assumption) ?_
          · (intro w hSw; (try dsimp only at hSw); go_simp)
          simp only [Act.put, List.setIfInBounds_toArray, List.set_cons_zero, List.set_cons_succ]
          refine takeH (i := 23) (some 179) (.agg #[.int .i64 sp, .int .i64 sl]) rfl rfl (by kernel_rfl) (by kernel_rfl) (by kernel_rfl) (fun _ _ _ h => h) (Or.inl ⟨by rfl, ?_⟩) (by assumption) ?_
          · (intro w hSw; (try dsimp only at hSw); go_simp)
          simp only [Act.put, List.setIfInBounds_toArray, List.set_cons_zero, List.set_cons_succ]
          refine wpAnyH_ready (rs := [20]) (by kernel_rfl) (by simp) ?_
          refine AllReadyH.cons (by simp only [List.getElem?_toArray, List.getElem?_cons_succ, List.getElem?_cons_zero]; rfl) (fun KK hK => ?_) AllReadyH.nil
          go_simp
          refine (zz_find HFD.out.fb.fz HX.out.2.1 HX.out.2.2).mono ?_
          rintro en wx ⟨rfl, ewx⟩
          rw [ewx]
          clear ewx wx
          go_wp2_with fail
          refine hK.out _ _ ⟨e0, e1, e2, e3⟩ (fun hHeld => ?_)
          clear hK KK
          try simp only [Act.put, List.setIfInBounds_toArray, List.set_cons_zero, List.set_cons_succ]
          refine wpAnyH_ready (rs := [24]) (by kernel_rfl) (by simp) ?_
          refine AllReadyH.cons (by simp only [List.getElem?_toArray, List.getElem?_cons_succ, List.getElem?_cons_zero]; rfl) (fun KK hK => ?_) AllReadyH.nil
          go_simp
          refine (rfind_any HFD.out.fb.rf hM400 sp sl).mono ?_
          rintro en wA ⟨rfl, hbA⟩
          have hfA := HFD.out.below hbA
          obtain ⟨_, qA1, qA2, qA3⟩ := act_cells hfA.act
          have qA0 := hfA.fb.rf.c0
          have HFA := hid hfA
          clear hfA hbA
          go_wp2_with fail
          refine hK.out _ _ ⟨qA0, qA1, qA2, qA3⟩ (fun hHeld => ?_)
          clear hK KK
          try simp only [Act.put, List.setIfInBounds_toArray, List.set_cons_zero, List.set_cons_succ]
          refine takeH (i := 25) (some 181) (.bool false) rfl rfl (by kernel_rfl) (by kernel_rfl) (by kernel_rfl) (fun _ _ _ h => h) (Or.inl ⟨by rfl, ?_⟩) (by assumption) ?_
          · (intro w hSw; (try dsimp only at hSw); go_simp)
          simp only [Act.put, List.setIfInBounds_toArray, List.set_cons_zero, List.set_cons_succ]
          refine takeH (i := 26) (some 182) (.bool false) rfl rfl (by kernel_rfl) (by kernel_rfl) (by kernel_rfl) (fun _ _ _ h => h) (Or.inl ⟨by rfl, ?_⟩) (by assumption) ?_
          · (intro w hSw; (try dsimp only at hSw); go_simp)
          simp only [Act.put, List.setIfInBounds_toArray, List.set_cons_zero, List.set_cons_succ]
          refine takeH (i := 27) (some 183) (.bool false) rfl rfl (by kernel_rfl) (by kernel_rfl) (by kernel_rfl) (fun _ _ _ h => h) (Or.inl ⟨by rfl, ?_⟩) (by assumption) ?_
          · (intro w hSw; (try dsimp only at hSw); go_simp)
          simp only [Act.put, List.setIfInBounds_toArray, List.set_cons_zero, List.set_cons_succ]
          refine takeH (i := 28) (some 184) (.pointer (some ⟨p, 0, none⟩)) rfl rfl (by kernel_rfl) (by kernel_rfl) (by kernel_rfl) (fun _ _ _ h => h) (Or.inl ⟨by rfl, ?_⟩) (by assumption) ?_
          · (intro w hSw; (try dsimp only at hSw); go_simp)
          simp only [Act.put, List.setIfInBounds_toArray, List.set_cons_zero, List.set_cons_succ]
          refine takeH (i := 29) (some 185) (.pointer (some ⟨bx, 1, none⟩)) rfl rfl (by kernel_rfl) (by kernel_rfl) (by kernel_rfl) (fun _ _ _ h => h) (Or.inl ⟨by rfl, ?_⟩) (by assumption) ?_
          · (intro w hSw; (try dsimp only at hSw); go_simp)
          simp only [Act.put, List.setIfInBounds_toArray, List.set_cons_zero, List.set_cons_succ]
          refine takeH (i := 30) (some 186) (.int .i64 xi) rfl rfl (by kernel_rfl) (by kernel_rfl) (by kernel_rfl) (fun _ _ _ h => h) (Or.inl ⟨by rfl, ?_⟩) (by assumption) ?_
          · (intro w hSw; (try dsimp only at hSw); go_simp)
          simp only [Act.put, List.setIfInBounds_toArray, List.set_cons_zero, List.set_cons_succ]
          refine takeH (i := 32) (some 188) (.pointer (some ⟨r, 0, none⟩)) rfl rfl (by kernel_rfl) (by kernel_rfl) (by kernel_rfl) (fun _ _ _ h => h) (Or.inl ⟨by rfl, ?_⟩) (by assumption) ?_
          · (intro w hSw; (try dsimp only at hSw); go_simp)
          simp only [Act.put, List.setIfInBounds_toArray, List.set_cons_zero, List.set_cons_succ]
          refine takeH (i := 33) (some 189) (.pointer (some ⟨bx, 1, none⟩)) rfl rfl (by kernel_rfl) (by kernel_rfl) (by kernel_rfl) (fun _ _ _ h => h) (Or.inl ⟨by rfl, ?_⟩) (by assumption) ?_
          · (intro w hSw; (try dsimp only at hSw); go_simp)
          simp only [Act.put, List.setIfInBounds_toArray, List.set_cons_zero, List.set_cons_succ]
          refine takeH (i := 34) (some 190) (.int .i64 xi) rfl rfl (by kernel_rfl) (by kernel_rfl) (by kernel_rfl) (fun _ _ _ h => h) (Or.inl ⟨by rfl, ?_⟩) (by assumption) ?_
          · (intro w hSw; (try dsimp only at hSw); go_simp)
          simp only [Act.put, List.setIfInBounds_toArray, List.set_cons_zero, List.set_cons_succ]
          refine wpAnyH_ready (rs := [31]) (by kernel_rfl) (by simp) ?_
          refine AllReadyH.cons (by simp only [List.getElem?_toArray, List.getElem?_cons_succ, List.getElem?_cons_zero]; rfl) (fun KK hK => ?_) AllReadyH.nil
          go_simp
          refine (zz_below HFA.out.fb.fz HX.out.1).mono ?_
          rintro en wB ⟨aB, cB, rfl, hoB, hbB⟩
          rw [List.length_map] at hoB ⊢
          have hfB := HFA.out.below hbB
          obtain ⟨_, qB1, qB2, qB3⟩ := act_cells hfB.act
          have qB0 := hfB.fb.rf.c0
          have HFB := hid hfB
          clear hfB hbB
          go_wp2_with fail
          refine hK.out _ _ ⟨qB0, qB1, qB2, qB3⟩ (fun hHeld => ?_)
          clear hK KK
          try simp only [Act.put, List.setIfInBounds_toArray, List.set_cons_zero, List.set_cons_succ]
          refine wpAnyH_ready (rs := [35]) (by kernel_rfl) (by simp) ?_
          refine AllReadyH.cons (by simp only [List.getElem?_toArray, List.getElem?_cons_succ, List.getElem?_cons_zero]; rfl) (fun KK hK => ?_) AllReadyH.nil
          go_simp
          refine (rbelow_any HFB.out.fb.rf HWM.out hl400' xi).mono ?_
          rintro en wC ⟨aC, cC, rfl, hoC, hbC⟩
          rw [List.length_map] at hoC ⊢
          have hfC := HFB.out.below hbC
          obtain ⟨_, qC1, qC2, qC3⟩ := act_cells hfC.act
          have qC0 := hfC.fb.rf.c0
          have HFC := hid hfC
          have hoB2 := hoB.below hbC (Nat.le_refl _)
          clear hoB
          clear hfC hbC
          go_wp2_with fail
          refine hK.out _ _ ⟨qC0, qC1, qC2, qC3⟩ (fun hHeld => ?_)
          clear hK KK
          try simp only [Act.put, List.setIfInBounds_toArray, List.set_cons_zero, List.set_cons_succ]
          refine wpAnyH_ready (rs := [36]) (by kernel_rfl) (by simp) ?_
          refine AllReadyH.cons (by simp only [List.getElem?_toArray, List.getElem?_cons_succ, List.getElem?_cons_zero]; rfl) (fun KK hK => ?_) AllReadyH.nil
          go_simp
          refine (same_n (List.length_map _) hoB2 hoC hZl).mono ?_
          rintro en wS ⟨rfl, qS, ewS⟩
          have hfS := HFC.out.drewN qS
          rw [← ewS] at hfS
          obtain ⟨_, qS1, qS2, qS3⟩ := act_cells hfS.act
          have qS0 := hfS.fb.rf.c0
          have HFS := hid hfS
          clear hfS ewS
          go_wp2_with fail
          refine hK.out _ _ ⟨qS0, qS1, qS2, qS3⟩ (fun hHeld => ?_)
          clear hK KK
          try simp only [Act.put, List.setIfInBounds_toArray, List.set_cons_zero, List.set_cons_succ]
          refine takeH (i := 37) (some 193) (.bool false) rfl rfl (by kernel_rfl) (by kernel_rfl) (by kernel_rfl) (fun _ _ _ h => h) (Or.inl ⟨by rfl, ?_⟩) (by assumption) ?_
          · (intro w hSw; (try dsimp only at hSw); go_simp)
          simp only [Act.put, List.setIfInBounds_toArray, List.set_cons_zero, List.set_cons_succ]
          refine takeH (i := 38) (some 194) (.bool false) rfl rfl (by kernel_rfl) (by kernel_rfl) (by kernel_rfl) (fun _ _ _ h => h) (Or.inl ⟨by rfl, ?_⟩) (by assumption) ?_
          · (intro w hSw; (try dsimp only at hSw); go_simp)
          simp only [Act.put, List.setIfInBounds_toArray, List.set_cons_zero, List.set_cons_succ]
          refine wpAnyH_done (by kernel_rfl) ?_ _
          have H6 := hid HFS.out.fb
          clear HFS
          as_aux_lemma =>
            go_wp2_with fail
            go_loopw [18] (fun c wr => ∃ k : Nat, k ≤ M.length ∧ c = .int .i64 (k : Int) ∧ Hid (∃ u2, Fb w3 wr p m1 m2 nbM lastM M r u2 lastM M)) (fun c _ => M.length - (intOf c).toNat)
            case atStart => exact ⟨0, Nat.zero_le _, rfl, _, H6.out⟩
            case round =>
              obtain ⟨k, hk, rfl, hT⟩ := hrel
              obtain ⟨u2, hfb⟩ := hT.out
              obtain ⟨s2, cap3, rfl, _⟩ := hfb.rf.row.slice
              have g0 := hfb.rf.c0
              by_cases hkt : k < M.length
              · have hk2 := List.getElem?_eq_getElem hkt
                obtain ⟨f, hf⟩ : ∃ f, f = M[k] := ⟨_, rfl⟩
                rw [← hf] at hk2
                obtain ⟨gg, off, cap4, ev, n0, n1, n2, n3⟩ := hfb.rf.at hk2
                obtain ⟨rfl, rfl⟩ : s2 = some ⟨gg, off, none⟩ ∧ cap3 = cap4 := by simpa using ev
                have n2' : wr.cell? ⟨gg, off + k * 4 + 2, none⟩ = some (.int .i64 f.sp) := n2
                have HFM := hid (List.mem_of_getElem? hk2)
                have HG := hid (fun wx (hb : Below wr.heap.size wr wx) => hfb.below hb)
                have hk0 : (0 : Int) ≤ (k : Int) := by omega
                have hk1 : (k : Int) < (M.length : Int) := by omega
                have HKT := hid hkt
                have HNB := hid ((Below.refl wr.heap.size wr).alloc (Nat.le_refl _) (.cells #[.int .i64 (f.id : Int), .int .i64 (f.par : Int), .int .i64 f.sp, .int .i64 f.sl] 53))
                clear hk2 hf hfb hkt ev n2 hT
                go_wp2_with (go_at_call 10; refine (owner_hit (HG.out _ HNB.out).fz.fo HFM.out).mono ?_; rintro en wO ⟨rfl, qO, ewO⟩; have HFO : Hid (Fb w3 wO p m1 m2 nbM lastM M r (.slice (some ⟨gg, off, none⟩) M.length cap3) lastM M ∧ wO.heap[wr.heap.size]? = some (.cells #[.int .i64 (f.id : Int), .int .i64 (f.par : Int), .int .i64 f.sp, .int .i64 f.sl] 53)) := hid (by rw [ewO]; exact ⟨(HG.out _ HNB.out).drewN qO, heap_alloc_new wr _⟩); obtain ⟨o0, o1, o2, o3⟩ := node_cells HFO.out.2; clear ewO)
                obtain ⟨kb, hkb⟩ : ∃ kb, kb = wr.heap.size := ⟨_, rfl⟩
                rw [← hkb] at HFO o0 o1 o2 o3 ⊢
                clear hkb HG HNB
                have hkdl : (kids M f.id).length ≤ 100000 := by have := HKL.out f.id; omega
                have HFD2 : Hid (Fb w3 wO.drew p m1 m2 nbM lastM M r (.slice (some ⟨gg, off, none⟩) M.length cap3) lastM M ∧ wO.drew.heap[kb]? = some (.cells #[.int .i64 (f.id : Int), .int .i64 (f.par : Int), .int .i64 f.sp, .int .i64 f.sl] 53)) := hid ⟨HFO.out.1.drew, HFO.out.2⟩
                have y0 : wO.drew.cell? ⟨kb, 0, none⟩ = some (.int .i64 (f.id : Int)) := o0
                have y1 : wO.drew.cell? ⟨kb, 1, none⟩ = some (.int .i64 (f.par : Int)) := o1
                have y2 : wO.drew.cell? ⟨kb, 2, none⟩ = some (.int .i64 f.sp) := o2
                have y3 : wO.drew.cell? ⟨kb, 3, none⟩ = some (.int .i64 f.sl) := o3
                refine wp_region_held_drew (S := (fun W => W.cell? ⟨kb, 0, none⟩ = some (.int .i64 (f.id : Int)) ∧ W.cell? ⟨kb, 1, none⟩ = some (.int .i64 (f.par : Int)) ∧ W.cell? ⟨kb, 2, none⟩ = some (.int .i64 f.sp) ∧ W.cell? ⟨kb, 3, none⟩ = some (.int .i64 f.sl))) (by kernel_rfl) ⟨y0, y1, y2, y3⟩ (fun hHeld => ?_)
                refine takeH (i := 0) (some 219) (.bool true) rfl rfl (by kernel_rfl) (by kernel_rfl) (by kernel_rfl) (fun _ _ _ h => h) (Or.inl ⟨by rfl, ?_⟩) (by assumption) ?_
                · (intro w hSw; (try dsimp only at hSw); go_simp)
                simp only [Act.put, List.setIfInBounds_toArray, List.set_cons_zero, List.set_cons_succ]
                refine takeH (i := 1) (some 220) (.bool false) rfl rfl (by kernel_rfl) (by kernel_rfl) (by kernel_rfl) (fun _ _ _ h => h) (Or.inl ⟨by rfl, ?_⟩) (by assumption) ?_
                · (intro w hSw; (try dsimp only at hSw); go_simp)
                simp only [Act.put, List.setIfInBounds_toArray, List.set_cons_zero, List.set_cons_succ]
                refine takeH (i := 2) (some 221) (.bool false) rfl rfl (by kernel_rfl) (by kernel_rfl) (by kernel_rfl) (fun _ _ _ h => h) (Or.inl ⟨by rfl, ?_⟩) (by assumption) ?_
                · (intro w hSw; (try dsimp only at hSw); go_simp)
                simp only [Act.put, List.setIfInBounds_toArray, List.set_cons_zero, List.set_cons_succ]
                refine takeH (i := 3) (some 222) (.int .i64 f.sp) rfl rfl (by kernel_rfl) (by kernel_rfl) (by kernel_rfl) (fun _ _ _ h => h) (Or.inl ⟨by rfl, ?_⟩) (by assumption) ?_
                · (intro w hSw; (try dsimp only at hSw); go_simp)
                simp only [Act.put, List.setIfInBounds_toArray, List.set_cons_zero, List.set_cons_succ]
                refine takeH (i := 4) (some 223) (.pointer (some ⟨kb, 2, none⟩)) rfl rfl (by kernel_rfl) (by kernel_rfl) (by kernel_rfl) (fun _ _ _ h => h) (Or.inl ⟨by rfl, ?_⟩) (by assumption) ?_
                · (intro w hSw; (try dsimp only at hSw); go_simp)
                simp only [Act.put, List.setIfInBounds_toArray, List.set_cons_zero, List.set_cons_succ]
                refine takeH (i := 5) (some 224) (.pointer (some ⟨kb, 2, none⟩)) rfl rfl (by kernel_rfl) (by kernel_rfl) (by kernel_rfl) (fun _ _ _ h => h) (Or.inl ⟨by rfl, ?_⟩) (by assumption) ?_
                · (intro w hSw; (try dsimp only at hSw); go_simp)
                simp only [Act.put, List.setIfInBounds_toArray, List.set_cons_zero, List.set_cons_succ]
                refine takeH (i := 6) (some 225) (.int .i64 f.sp) rfl rfl (by kernel_rfl) (by kernel_rfl) (by kernel_rfl) (fun _ _ _ h => h) (Or.inl ⟨by rfl, ?_⟩) (by assumption) ?_
                · (intro w hSw; (try dsimp only at hSw); go_simp)
                simp only [Act.put, List.setIfInBounds_toArray, List.set_cons_zero, List.set_cons_succ]
                refine takeH (i := 7) (some 226) (.bool false) rfl rfl (by kernel_rfl) (by kernel_rfl) (by kernel_rfl) (fun _ _ _ h => h) (Or.inl ⟨by rfl, ?_⟩) (by assumption) ?_
                · (intro w hSw; (try dsimp only at hSw); go_simp)
                simp only [Act.put, List.setIfInBounds_toArray, List.set_cons_zero, List.set_cons_succ]
                refine takeH (i := 8) (some 227) (.bool false) rfl rfl (by kernel_rfl) (by kernel_rfl) (by kernel_rfl) (fun _ _ _ h => h) (Or.inl ⟨by rfl, ?_⟩) (by assumption) ?_
                · (intro w hSw; (try dsimp only at hSw); go_simp)
                simp only [Act.put, List.setIfInBounds_toArray, List.set_cons_zero, List.set_cons_succ]
                refine takeH (i := 9) (some 228) (.bool false) rfl rfl (by kernel_rfl) (by kernel_rfl) (by kernel_rfl) (fun _ _ _ h => h) (Or.inl ⟨by rfl, ?_⟩) (by assumption) ?_
                · (intro w hSw; (try dsimp only at hSw); go_simp)
                simp only [Act.put, List.setIfInBounds_toArray, List.set_cons_zero, List.set_cons_succ]
                refine takeH (i := 10) (some 229) (.int .i64 f.sl) rfl rfl (by kernel_rfl) (by kernel_rfl) (by kernel_rfl) (fun _ _ _ h => h) (Or.inl ⟨by rfl, ?_⟩) (by assumption) ?_
                · (intro w hSw; (try dsimp only at hSw); go_simp)
                simp only [Act.put, List.setIfInBounds_toArray, List.set_cons_zero, List.set_cons_succ]
                refine takeH (i := 11) (some 230) (.pointer (some ⟨kb, 2, none⟩)) rfl rfl (by kernel_rfl) (by kernel_rfl) (by kernel_rfl) (fun _ _ _ h => h) (Or.inl ⟨by rfl, ?_⟩) (by assumption) ?_
                · (intro w hSw; (try dsimp only at hSw); go_simp)
                simp only [Act.put, List.setIfInBounds_toArray, List.set_cons_zero, List.set_cons_succ]
                refine takeH (i := 12) (some 231) (.pointer (some ⟨kb, 3, none⟩)) rfl rfl (by kernel_rfl) (by kernel_rfl) (by kernel_rfl) (fun _ _ _ h => h) (Or.inl ⟨by rfl, ?_⟩) (by assumption) ?_
                · (intro w hSw; (try dsimp only at hSw); go_simp)
                simp only [Act.put, List.setIfInBounds_toArray, List.set_cons_zero, List.set_cons_succ]
                refine takeH (i := 13) (some 232) (.int .i64 f.sl) rfl rfl (by kernel_rfl) (by kernel_rfl) (by kernel_rfl) (fun _ _ _ h => h) (Or.inl ⟨by rfl, ?_⟩) (by assumption) ?_
                · (intro w hSw; (try dsimp only at hSw); go_simp)
                simp only [Act.put, List.setIfInBounds_toArray, List.set_cons_zero, List.set_cons_succ]
                refine takeH (i := 14) (some 233) (.bool false) rfl rfl (by kernel_rfl) (by kernel_rfl) (by kernel_rfl) (fun _ _ _ h => h) (Or.inl ⟨by rfl, ?_⟩) (by assumption) ?_
                · (intro w hSw; (try dsimp only at hSw); go_simp)
                simp only [Act.put, List.setIfInBounds_toArray, List.set_cons_zero, List.set_cons_succ]
                refine takeH (i := 15) (some 234) (.bool false) rfl rfl (by kernel_rfl) (by kernel_rfl) (by kernel_rfl) (fun _ _ _ h => h) (Or.inl ⟨by rfl, ?_⟩) (by assumption) ?_
                · (intro w hSw; (try dsimp only at hSw); go_simp)
                simp only [Act.put, List.setIfInBounds_toArray, List.set_cons_zero, List.set_cons_succ]
                refine takeH (i := 16) (some 235) (.bool false) rfl rfl (by kernel_rfl) (by kernel_rfl) (by kernel_rfl) (fun _ _ _ h => h) (Or.inl ⟨by rfl, ?_⟩) (by assumption) ?_
                · (intro w hSw; (try dsimp only at hSw); go_simp)
                simp only [Act.put, List.setIfInBounds_toArray, List.set_cons_zero, List.set_cons_succ]
                refine takeH (i := 17) (some 236) (.pointer (some ⟨p, 0, none⟩)) rfl rfl (by kernel_rfl) (by kernel_rfl) (by kernel_rfl) (fun _ _ _ h => h) (Or.inl ⟨by rfl, ?_⟩) (by assumption) ?_
                · (intro w hSw; (try dsimp only at hSw); go_simp)
                simp only [Act.put, List.setIfInBounds_toArray, List.set_cons_zero, List.set_cons_succ]
                refine takeH (i := 18) (some 237) (.pointer (some ⟨kb, 0, none⟩)) rfl rfl (by kernel_rfl) (by kernel_rfl) (by kernel_rfl) (fun _ _ _ h => h) (Or.inl ⟨by rfl, ?_⟩) (by assumption) ?_
                · (intro w hSw; (try dsimp only at hSw); go_simp)
                simp only [Act.put, List.setIfInBounds_toArray, List.set_cons_zero, List.set_cons_succ]
                refine takeH (i := 19) (some 238) (.int .i64 (f.id : Int)) rfl rfl (by kernel_rfl) (by kernel_rfl) (by kernel_rfl) (fun _ _ _ h => h) (Or.inl ⟨by rfl, ?_⟩) (by assumption) ?_
                · (intro w hSw; (try dsimp only at hSw); go_simp)
                simp only [Act.put, List.setIfInBounds_toArray, List.set_cons_zero, List.set_cons_succ]
                refine takeH (i := 21) (some 240) (.pointer (some ⟨kb, 1, none⟩)) rfl rfl (by kernel_rfl) (by kernel_rfl) (by kernel_rfl) (fun _ _ _ h => h) (Or.inl ⟨by rfl, ?_⟩) (by assumption) ?_
                · (intro w hSw; (try dsimp only at hSw); go_simp)
                simp only [Act.put, List.setIfInBounds_toArray, List.set_cons_zero, List.set_cons_succ]
                refine takeH (i := 22) (some 241) (.int .i64 (f.par : Int)) rfl rfl (by kernel_rfl) (by kernel_rfl) (by kernel_rfl) (fun _ _ _ h => h) (Or.inl ⟨by rfl, ?_⟩) (by assumption) ?_
                · (intro w hSw; (try dsimp only at hSw); go_simp)
                simp only [Act.put, List.setIfInBounds_toArray, List.set_cons_zero, List.set_cons_succ]
                refine wpAnyH_ready (rs := [20]) (by kernel_rfl) (by simp) ?_
                refine AllReadyH.cons (by simp only [List.getElem?_toArray, List.getElem?_cons_succ, List.getElem?_cons_zero]; rfl) (fun KK hK => ?_) AllReadyH.nil
                go_simp
                refine (parent_hit HFD2.out.1.fz.fo HFM.out).mono ?_
                rintro en wx ⟨rfl, ewx⟩
                rw [ewx]
                clear ewx wx
                go_wp2_with fail
                refine hK.out _ _ ⟨y0, y1, y2, y3⟩ (fun hHeld => ?_)
                clear hK KK
                try simp only [Act.put, List.setIfInBounds_toArray, List.set_cons_zero, List.set_cons_succ]
                refine takeH (i := 23) (some 242) (.bool false) rfl rfl (by kernel_rfl) (by kernel_rfl) (by kernel_rfl) (fun _ _ _ h => h) (Or.inl ⟨by rfl, ?_⟩) (by assumption) ?_
                · (intro w hSw; (try dsimp only at hSw); go_simp)
                simp only [Act.put, List.setIfInBounds_toArray, List.set_cons_zero, List.set_cons_succ]
                refine takeH (i := 24) (some 243) (.bool false) rfl rfl (by kernel_rfl) (by kernel_rfl) (by kernel_rfl) (fun _ _ _ h => h) (Or.inl ⟨by rfl, ?_⟩) (by assumption) ?_
                · (intro w hSw; (try dsimp only at hSw); go_simp)
                simp only [Act.put, List.setIfInBounds_toArray, List.set_cons_zero, List.set_cons_succ]
                refine takeH (i := 25) (some 244) (.bool false) rfl rfl (by kernel_rfl) (by kernel_rfl) (by kernel_rfl) (fun _ _ _ h => h) (Or.inl ⟨by rfl, ?_⟩) (by assumption) ?_
                · (intro w hSw; (try dsimp only at hSw); go_simp)
                simp only [Act.put, List.setIfInBounds_toArray, List.set_cons_zero, List.set_cons_succ]
                refine takeH (i := 26) (some 245) (.pointer (some ⟨p, 0, none⟩)) rfl rfl (by kernel_rfl) (by kernel_rfl) (by kernel_rfl) (fun _ _ _ h => h) (Or.inl ⟨by rfl, ?_⟩) (by assumption) ?_
                · (intro w hSw; (try dsimp only at hSw); go_simp)
                simp only [Act.put, List.setIfInBounds_toArray, List.set_cons_zero, List.set_cons_succ]
                refine takeH (i := 27) (some 246) (.pointer (some ⟨kb, 0, none⟩)) rfl rfl (by kernel_rfl) (by kernel_rfl) (by kernel_rfl) (fun _ _ _ h => h) (Or.inl ⟨by rfl, ?_⟩) (by assumption) ?_
                · (intro w hSw; (try dsimp only at hSw); go_simp)
                simp only [Act.put, List.setIfInBounds_toArray, List.set_cons_zero, List.set_cons_succ]
                refine takeH (i := 28) (some 247) (.int .i64 (f.id : Int)) rfl rfl (by kernel_rfl) (by kernel_rfl) (by kernel_rfl) (fun _ _ _ h => h) (Or.inl ⟨by rfl, ?_⟩) (by assumption) ?_
                · (intro w hSw; (try dsimp only at hSw); go_simp)
                simp only [Act.put, List.setIfInBounds_toArray, List.set_cons_zero, List.set_cons_succ]
                refine takeH (i := 30) (some 249) (.pointer (some ⟨r, 0, none⟩)) rfl rfl (by kernel_rfl) (by kernel_rfl) (by kernel_rfl) (fun _ _ _ h => h) (Or.inl ⟨by rfl, ?_⟩) (by assumption) ?_
                · (intro w hSw; (try dsimp only at hSw); go_simp)
                simp only [Act.put, List.setIfInBounds_toArray, List.set_cons_zero, List.set_cons_succ]
                refine takeH (i := 31) (some 250) (.pointer (some ⟨kb, 0, none⟩)) rfl rfl (by kernel_rfl) (by kernel_rfl) (by kernel_rfl) (fun _ _ _ h => h) (Or.inl ⟨by rfl, ?_⟩) (by assumption) ?_
                · (intro w hSw; (try dsimp only at hSw); go_simp)
                simp only [Act.put, List.setIfInBounds_toArray, List.set_cons_zero, List.set_cons_succ]
                refine takeH (i := 32) (some 251) (.int .i64 (f.id : Int)) rfl rfl (by kernel_rfl) (by kernel_rfl) (by kernel_rfl) (fun _ _ _ h => h) (Or.inl ⟨by rfl, ?_⟩) (by assumption) ?_
                · (intro w hSw; (try dsimp only at hSw); go_simp)
                simp only [Act.put, List.setIfInBounds_toArray, List.set_cons_zero, List.set_cons_succ]
                refine wpAnyH_ready (rs := [29]) (by kernel_rfl) (by simp) ?_
                refine AllReadyH.cons (by simp only [List.getElem?_toArray, List.getElem?_cons_succ, List.getElem?_cons_zero]; rfl) (fun KK hK => ?_) AllReadyH.nil
                go_simp
                refine (fkids_hit HFD2.out.1.fz.fo HFM.out).mono ?_
                rintro en wG ⟨aG, cG, rfl, hoG, hbG⟩
                rw [List.length_map] at hoG ⊢
                have hbG0 := (hbG.block kb (lt_of HFD2.out.2)).trans HFD2.out.2
                have hfG := HFD2.out.1.below hbG
                obtain ⟨qG0, qG1, qG2, qG3⟩ := node_cells hbG0
                have HFG := hid (And.intro hfG hbG0)
                clear hfG hbG hbG0
                go_wp2_with fail
                refine hK.out _ _ ⟨qG0, qG1, qG2, qG3⟩ (fun hHeld => ?_)
                clear hK KK
                try simp only [Act.put, List.setIfInBounds_toArray, List.set_cons_zero, List.set_cons_succ]
                refine wpAnyH_ready (rs := [33]) (by kernel_rfl) (by simp) ?_
                refine AllReadyH.cons (by simp only [List.getElem?_toArray, List.getElem?_cons_succ, List.getElem?_cons_zero]; rfl) (fun KK hK => ?_) AllReadyH.nil
                go_simp
                refine (rk_hit HFG.out.1.rf hM400 f).mono ?_
                rintro en wJ ⟨aJ, cJ, rfl, hoJ, hbJ⟩
                rw [List.length_map] at hoJ ⊢
                have hbJ0 := (hbJ.block kb (lt_of HFG.out.2)).trans HFG.out.2
                have hfJ := HFG.out.1.below hbJ
                obtain ⟨qJ0, qJ1, qJ2, qJ3⟩ := node_cells hbJ0
                have HFJ := hid (And.intro hfJ hbJ0)
                have hoG2 := hoG.below hbJ (Nat.le_refl _)
                clear hoG
                clear hfJ hbJ hbJ0
                go_wp2_with fail
                refine hK.out _ _ ⟨qJ0, qJ1, qJ2, qJ3⟩ (fun hHeld => ?_)
                clear hK KK
                try simp only [Act.put, List.setIfInBounds_toArray, List.set_cons_zero, List.set_cons_succ]
                refine wpAnyH_ready (rs := [34]) (by kernel_rfl) (by simp) ?_
                refine AllReadyH.cons (by simp only [List.getElem?_toArray, List.getElem?_cons_succ, List.getElem?_cons_zero]; rfl) (fun KK hK => ?_) AllReadyH.nil
                go_simp
                refine (same_n (List.length_map _) hoG2 hoJ hkdl).mono ?_
                rintro en wS ⟨rfl, qS, ewS⟩
                have HFS : Hid (Fb w3 wS p m1 m2 nbM lastM M r (.slice (some ⟨gg, off, none⟩) M.length cap3) lastM M ∧ wS.heap[kb]? = some (.cells #[.int .i64 (f.id : Int), .int .i64 (f.par : Int), .int .i64 f.sp, .int .i64 f.sl] 53)) := hid (by rw [ewS]; exact ⟨HFJ.out.1.drewN qS, HFJ.out.2⟩)
                obtain ⟨qS0, qS1, qS2, qS3⟩ := node_cells HFS.out.2
                clear ewS
                go_wp2_with fail
                refine hK.out _ _ ⟨qS0, qS1, qS2, qS3⟩ (fun hHeld => ?_)
                clear hK KK
                try simp only [Act.put, List.setIfInBounds_toArray, List.set_cons_zero, List.set_cons_succ]
                refine takeH (i := 35) (some 254) (.bool false) rfl rfl (by kernel_rfl) (by kernel_rfl) (by kernel_rfl) (fun _ _ _ h => h) (Or.inl ⟨by rfl, ?_⟩) (by assumption) ?_
                · (intro w hSw; (try dsimp only at hSw); go_simp)
                simp only [Act.put, List.setIfInBounds_toArray, List.set_cons_zero, List.set_cons_succ]
                refine takeH (i := 36) (some 255) (.bool false) rfl rfl (by kernel_rfl) (by kernel_rfl) (by kernel_rfl) (fun _ _ _ h => h) (Or.inl ⟨by rfl, ?_⟩) (by assumption) ?_
                · (intro w hSw; (try dsimp only at hSw); go_simp)
                simp only [Act.put, List.setIfInBounds_toArray, List.set_cons_zero, List.set_cons_succ]
                refine wpAnyH_done (by kernel_rfl) ?_ _
                go_wp2_with fail
                exact ⟨⟨k + 1, HKT.out, by go_num, _, HFS.out.1⟩, by have := HKT.out; simp [intOf]; omega⟩
              · obtain rfl : k = M.length := by omega
                have H7 := hid hfb
                clear hT hfb hkt
                go_wp2_with fail
                exact ⟨⟨i + 1, HLT.out, by go_num, lastM, M, nbM, _, by omega, H7⟩, by have := HLT.out; simp [intOf]; omega⟩
    · obtain rfl : i = len := by omega
      have HZ := hid hS.out.fz.bel
      clear hS hlt
      go_wp2_with fail
      go_ret
      exact ⟨rfl, HB3.out.trans (HZ.out.mono HB3.out.size)⟩
end Go.Proofs.Ytiechmcfafhfaaa.forestActs
