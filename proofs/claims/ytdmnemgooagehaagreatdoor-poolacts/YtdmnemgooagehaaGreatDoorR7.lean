/- The document's allocator: Take of an order that may be. -/
import Derived.Test.YtdmnemgooagehaaGreatDoorR6
namespace Go.Proofs.YtdmnemgooagehaaGreatDoor
open Go.RowKit Go.Maps

set_option maxHeartbeats 4000000 in
set_option maxRecDepth 100000 in
theorem rtake_any (w : World) (r : Nat) (Z : Nat → Prop) (K : Nat) (B : St) (vF vU : Value) (F U : List (Nat × Nat)) (o : Nat) (h : RefM w r Z K B vF vU F U) (hi : Inv K B) (hn : NoHeld B) (ho : o ≤ K) :
    Calls Tryz.prog 21 #[.pointer (some ⟨r, 0, none⟩), .int .i64 (o : Int)] w (RTook w r Z K B (o : Int)) := by
  have h0 := h.cK
  have hcF := h.cF
  have hK := h.small
  have hlen := h.lF.len hi (by simp)
  have hpw := pow_le20 hK
  have hoK : (o : Int) ≤ (K : Int) := by omega
  obtain ⟨aF, cF, rfl, hr⟩ := h.sF.open
  obtain ⟨aU, cU, rfl, _⟩ := h.sU.open
  have HR := hid hr
  have HH := hid (And.intro h (And.intro hi hn))
  have HO : Hid (∀ j p k : Nat, F[j]? = some (p, k) → k ≤ K ∧ p + 2 ^ k ≤ 2 ^ K) := fun j p k hj => h.lF.lt hi (by simp) (List.mem_of_getElem? hj)
  clear h hi hn hr
  go_enter Tryz.func21, Tryz.ntmps21
  go_wp2_with fail
  go_loop [6, 7] (fun t6 t7 => ∃ (i : Nat) (b : Int), i ≤ F.length ∧ t7 = .int .i64 (i : Int) ∧ t6 = .int .i64 b ∧ Hid (Best F o i b)) (fun _ t7 => F.length - (intOf t7).toNat)
  case atStart => exact ⟨0, -1, Nat.zero_le _, rfl, rfl, .inl ⟨rfl, fun j p k hj => by omega⟩⟩
  case round =>
    obtain ⟨i, b, hil, rfl, rfl, hB⟩ := hrel
    by_cases hlt : i < F.length
    · obtain ⟨⟨p, k⟩, hx⟩ : ∃ x, F[i]? = some x := ⟨_, List.getElem?_eq_getElem hlt⟩
      obtain ⟨g, rfl, c0, c1⟩ := HR.out.at hx
      have hi1 : (i : Int) < (F.length : Int) := by omega
      have HX := hid hx
      clear hx
      by_cases hko : k < o
      · have hd : decide ((o : Int) ≤ (k : Int)) = false := by rw [decide_eq_false]; omega
        have hd2 : ¬ ((o : Int) ≤ (k : Int)) := by omega
        go_wp2_with fail
        go_round
        case rel => exact ⟨i + 1, b, by omega, by go_num, rfl, best_skip HX.out hB.out (.inl hko)⟩
        case measure => simp [intOf]; omega
      · have hd2 : (o : Int) ≤ (k : Int) := by omega
        rcases hB.out with ⟨rfl, _⟩ | ⟨j, pj, kj, rfl, hji, hxj, _⟩
        · go_wp2_with fail
          go_round
          case rel => exact ⟨i + 1, i, by omega, by go_num, rfl, best_none HX.out (by omega) hB.out⟩
          case measure => simp [intOf]; omega
        · obtain ⟨g', eg, d0, d1⟩ := HR.out.at hxj
          obtain rfl : g = g' := by simpa using eg
          have hj1 : (j : Int) < (F.length : Int) := by omega
          have HXJ := hid hxj
          clear hxj eg
          by_cases hkk : k < kj
          · have hkk2 : (k : Int) < (kj : Int) := by omega
            go_wp2_with fail
            go_round
            case rel => exact ⟨i + 1, by omega, by go_num, best_less HX.out (by omega) HXJ.out hkk hB.out⟩
            case measure => simp [intOf]; omega
          · have hkk2 : ¬ ((k : Int) < (kj : Int)) := by omega
            go_wp2_with fail
            go_round
            case rel => exact ⟨i + 1, by omega, by go_num, best_skip HX.out hB.out (.inr ⟨j, pj, kj, rfl, HXJ.out, by omega⟩)⟩
            case measure => simp [intOf]; omega
    · obtain rfl : i = F.length := by omega
      rcases hB.out with ⟨rfl, hnone⟩ | ⟨j, p, k, rfl, hjl, hxj, hok, h1, h2⟩
      · have HN := hid hnone
        clear hnone
        go_wp2_with fail
        go_ret2
        refine ⟨_, _, B, _, _, F, U, rfl, Turn.refl _ _, HH.out.2.1, HH.out.2.2, HH.out.1, .inl ⟨rfl, rfl, .inr ⟨rfl, o, rfl, ho, fun k j hk hb => ?_⟩⟩⟩
        obtain ⟨j', hj', e⟩ := List.getElem_of_mem ((HH.out.1.lF.mem _ _).2 ⟨j, rfl, hb⟩)
        have := HN.out j' _ k hj' (by rw [List.getElem?_eq_getElem hj', e])
        omega
      · obtain ⟨n, rfl, hl⟩ := best_least HH.out.1.lF hxj hok h1 h2
        obtain ⟨g, rfl, d0, d1⟩ := HR.out.at hxj
        obtain ⟨hkK, hpK⟩ := HO.out j _ k hxj
        have hj1 : (j : Int) < (F.length : Int) := by omega
        obtain ⟨z, hz⟩ : ∃ z : Nat, z = n * 2 ^ k * 1024 := ⟨_, rfl⟩
        rw [← hz] at d0
        have HL := hid (And.intro hl (And.intro hxj hz))
        have hlr := HH.out.1.lr
        clear hl hxj hz h1 h2
        obtain ⟨xb, hxb⟩ : ∃ xb, xb = w.heap.size := ⟨_, rfl⟩
        have HXB := hid hxb
        go_wp2_with fail
        have hb1 : Below w.heap.size w (w.alloc (.cells #[.int .i64 (z : Int), .int .i64 (k : Int)] 132)) := (Below.refl _ _).alloc (Nat.le_refl _) _
        have HM1 := hid (HH.out.1.below hb1)
        refine (cut_sl _ F 0 j _ HM1.out.sF (by omega) hjl).mono ?_
        rintro e w2 ⟨a2, c2, rfl, hs2, hb2⟩
        obtain ⟨B1, hi1, hh1, hu1, hf1⟩ := lift_step HH.out.2.1 HH.out.2.2 HL.out.1.2.1
        have hM2 := hid (HM1.out.setF hb2 hs2 (HM1.out.lF.erase HL.out.2.1 hf1) hu1)
        have hc2 : w2.cell? ⟨r, 1, none⟩ = some (.slice (some ⟨g, 0, none⟩) F.length cF) := (HM1.out.below hb2).cF
        have hf2 := frozen_of_row w2 r 1 _ _ (HM1.out.below hb2).head
        have hx2 : w2.heap[xb]? = some (.cells #[.int .i64 (z : Int), .int .i64 (k : Int)] 132) := by
          rw [hxb, hb2.block _ (by simp)]; exact heap_alloc_new w _
        have ht2 : Turn (fun x => x = r) w (w2.setCell ⟨r, 1, none⟩ (.slice a2 (F.eraseIdx j).length c2)) := ((Turn.of_below hb1).bel hb2).but (But.setCell (But.refl r w2) (.inl rfl) _) (.inl rfl)
        have hxr : xb ≠ r := by omega
        have hxF : (F.eraseIdx j).length = 0 ∨ (Value.slice a2 (F.eraseIdx j).length c2).ownBlock ≠ some xb := hs2.far (by rw [hxb]; simp)
        have HXU := hid (HH.out.1.sU.old (x := xb) (by omega))
        have HXF := hid hxF
        have hx2' : (w2.setCell ⟨r, 1, none⟩ (.slice a2 (F.eraseIdx j).length c2)).heap[xb]? = some (.cells #[.int .i64 (z : Int), .int .i64 (k : Int)] 132) := by rw [Below.heap_setCell _ _ _ _ hxr]; exact hx2
        have HB1 := hid (And.intro hi1 (And.intro hh1 hu1))
        rw [← hxb]
        clear hs2 hb2 hi1 hh1 hu1 hf1 hx2 hb1 HM1 hxb hxF
        go_wp2_with fail
        generalize w2.setCell ⟨r, 1, none⟩ (.slice a2 (F.eraseIdx j).length c2) = w3 at *
        clear hc2 hf2
        go_loopw [76] (fun _ wr => ∃ (kk ii : Nat), o ≤ kk ∧ kk ≤ k ∧ Hid (ii * 2 ^ kk = n * 2 ^ k ∧ wr.heap[xb]? = some (.cells #[.int .i64 (z : Int), .int .i64 (kk : Int)] 132)) ∧ (∃ B' vF' F', Hid (Inv K B' ∧ HeldAt B' kk ii ∧ SameUsed B B' ∧ RefM wr r Z K B' vF' (.slice aU U.length cU) F' U ∧ (F'.length = 0 ∨ vF'.ownBlock ≠ some xb))) ∧ Turn (fun x => x = r) w wr) (fun _ wr => match wr.cell? ⟨xb, 1, none⟩ with | some v => (intOf v).toNat | none => 0)
        case atStart => exact ⟨k, n, hok, Nat.le_refl _, ⟨rfl, hx2'⟩, ⟨B1, _, _, HB1.out.1, HB1.out.2.1, HB1.out.2.2, hM2.out, HXF.out⟩, ht2⟩
        case round =>
          obtain ⟨kk, ii, hokk, hkk, hP, ⟨B', vF', F', hB'⟩, htr⟩ := hrel
          clear hx2' ht2 hM2 HB1
          have x0 : wr.cell? ⟨xb, 0, none⟩ = some (.int .i64 (z : Int)) := by rw [cell_of_row _ _ _ _ _ _ hP.out.2]; rfl
          have x1 : wr.cell? ⟨xb, 1, none⟩ = some (.int .i64 (kk : Int)) := by rw [cell_of_row _ _ _ _ _ _ hP.out.2]; rfl
          have hheld : B' kk ii = .held := (hB'.out.2.1 _ _).2 ⟨rfl, rfl⟩
          have hin := hB'.out.1.inn kk ii (by rw [hheld]; simp)
          have hblk := block_lt hB'.out.1 (k := kk) (i := ii) (by rw [hheld]; simp)
          clear hheld
          by_cases hgt : o < kk
          · obtain ⟨q, rfl⟩ : ∃ q, kk = q + 1 := ⟨kk - 1, by omega⟩
            have hgt2 : (o : Int) < ((q + 1 : Nat) : Int) := by omega
            have hq1 : ((q + 1 : Nat) : Int) - 1 = (q : Int) := by omega
            have hfx := frozen_of_row wr xb 1 _ _ hP.out.2
            obtain ⟨B2, hi2, hh2, hu2, hf2⟩ := split_step hB'.out.1 hB'.out.2.1
            have hnew := split_new hB'.out.1 hB'.out.2.1
            have HB2 := hid (And.intro hi2 (And.intro hh2 (And.intro hu2 (And.intro hf2 hnew))))
            have hbut : But xb wr (wr.setCell ⟨xb, 1, none⟩ (.int .i64 (q : Int))) := But.setCell (But.refl xb wr) (.inl rfl) _
            have hMA := hid (hB'.out.2.2.2.1.but hbut hxr.symm hB'.out.2.2.2.2 HXU.out)
            have hxA : (wr.setCell ⟨xb, 1, none⟩ (.int .i64 (q : Int))).heap[xb]? = some (.cells #[.int .i64 (z : Int), .int .i64 (q : Int)] 132) := by rw [setCell_head hP.out.2]; rfl
            have htA : Turn (fun x => x = r) w (wr.setCell ⟨xb, 1, none⟩ (.int .i64 (q : Int))) := htr.but hbut (.inr (by have := HXB.out; omega))
            have hmeas : (wr.cell? ⟨xb, 1, none⟩) = some (.int .i64 ((q + 1 : Nat) : Int)) := x1
            have HMS := hid hmeas
            have hVF := hMA.out.sF
            obtain ⟨aF', cF', evF, _⟩ := hVF.open
            subst evF
            have hzz : z = ii * 2 ^ (q + 1) * 1024 := by rw [HL.out.2.2, hP.out.1]
            obtain ⟨pp, hpp⟩ : ∃ pp, pp = (2 * ii + 1) * 2 ^ q := ⟨_, rfl⟩
            obtain ⟨zz, hz2⟩ : ∃ zz : Int, zz = ((pp * 1024 : Nat) : Int) := ⟨_, rfl⟩
            have hsum : (z : Int) + ((1024 * 2 ^ q : Nat) : Int) = zz := by
              rw [hz2]
              rw [← Int.natCast_add]
              congr 1
              rw [hzz, hpp, Nat.pow_succ, Nat.add_mul, Nat.one_mul, Nat.add_mul, Nat.mul_comm 1024, Nat.mul_comm 2 ii, Nat.mul_comm (2 ^ q) 2, ← Nat.mul_assoc ii 2]
            have hppb : pp ≤ 1048576 := by
              have h2 := hi2.inn q (2 * ii + 1) (by rw [(hf2 q (2 * ii + 1)).2 (.inr ⟨rfl, rfl⟩)]; simp)
              have h3 := block_lt hi2 (k := q) (i := 2 * ii + 1) (by rw [(hf2 q (2 * ii + 1)).2 (.inr ⟨rfl, rfl⟩)]; simp)
              have := Nat.two_pow_pos q
              omega
            obtain ⟨s, hs⟩ : ∃ s : Int, s = ((1024 * 2 ^ q : Nat) : Int) := ⟨_, rfl⟩
            rw [← hs] at hsum
            have hzb0 : 0 ≤ zz := by omega
            have hzb1 : zz ≤ 1073741824 := by omega
            have HS := hid (And.intro hs (And.intro hpp hz2))
            have hwz : IntKind.i64.wrap zz = zz := wrap_i zz hzb0 (by omega)
            have hlenF := hMA.out.lF.len hB'.out.1 (by simp)
            clear hi2 hh2 hu2 hf2 hnew hpp hs hzz hVF hmeas hblk hz2
            go_wp2_with fail
            have eA : ∀ wx : World, wx = wr.setCell ⟨xb, 1, none⟩ (.int .i64 (q : Int)) → wx = wx := fun _ _ => rfl
            clear eA
            generalize wr.setCell ⟨xb, 1, none⟩ (.int .i64 (q : Int)) = wA at *
            have y0 : wA.cell? ⟨xb, 0, none⟩ = some (.int .i64 (z : Int)) := by rw [cell_of_row _ _ _ _ _ _ hxA]; rfl
            have y1 : wA.cell? ⟨xb, 1, none⟩ = some (.int .i64 (q : Int)) := by rw [cell_of_row _ _ _ _ _ _ hxA]; rfl
            have yF := hMA.out.cF
            have HG : Hid (∀ wx, Below wA.heap.size wA wx → wx.cell? ⟨r, 1, none⟩ = some (.slice aF' F'.length cF') ∧ wx.cell? ⟨xb, 0, none⟩ = some (.int .i64 (z : Int)) ∧ wx.cell? ⟨xb, 1, none⟩ = some (.int .i64 (q : Int)) ∧ wx.frozen? ⟨r, 1, none⟩ = false) := fun wx hx => by
              have hlx : xb < wA.heap.size := (Array.getElem?_eq_some_iff.1 hxA).1
              refine ⟨(hMA.out.below hx).cF, ?_, ?_, frozen_of_row _ r 1 _ _ (hMA.out.below hx).head⟩
              · rw [cell_of_row _ _ _ _ _ _ ((hx.block xb hlx).trans hxA)]; rfl
              · rw [cell_of_row _ _ _ _ _ _ ((hx.block xb hlx).trans hxA)]; rfl
            have hyf := frozen_of_row wA r 1 _ _ hMA.out.head
            have HKP : Hid (∀ (wx : World) (v : Value), wx.cell? ⟨xb, 0, none⟩ = some (.int .i64 (z : Int)) → wx.cell? ⟨xb, 1, none⟩ = some (.int .i64 (q : Int)) → (wx.setCell ⟨r, 1, none⟩ v).cell? ⟨xb, 0, none⟩ = some (.int .i64 (z : Int)) ∧ (wx.setCell ⟨r, 1, none⟩ v).cell? ⟨xb, 1, none⟩ = some (.int .i64 (q : Int))) := fun wx v e0 e1 =>
              ⟨(World.cell?_of_block (Below.heap_setCell _ _ _ _ hxr)).trans e0, (World.cell?_of_block (Below.heap_setCell _ _ _ _ hxr)).trans e1⟩
            have HB5 : Hid (∀ wx, Below wA.drew.heap.size wA.drew wx → Below wA.heap.size wA wx) := fun wx hx => ⟨hx.os, hx.tape, hx.output, hx.size, hx.block⟩
            have HSF : Hid (Slc wA.drew 0 (.slice aF' F'.length cF') F') := (hMA.out.below ((Below.refl _ _).drew)).sF
            refine wp_region_held_drew (S := fun wx => wx.cell? ⟨xb, 0, none⟩ = some (.int .i64 (z : Int)) ∧ wx.cell? ⟨xb, 1, none⟩ = some (.int .i64 (q : Int))) (by kernel_rfl) ⟨y0, y1⟩ (fun hHeld => ?_)
            refine takeH (i := 0) (some 83) (.pointer (some ⟨r, 0, none⟩)) rfl rfl (by kernel_rfl) (by kernel_rfl) (by kernel_rfl) (fun _ _ _ h => h) (Or.inl ⟨by rfl, ?_⟩) (by assumption) ?_
            · (intro w hSw; (try dsimp only at hSw); go_simp)
            simp only [Act.put, List.setIfInBounds_toArray, List.set_cons_zero, List.set_cons_succ]
            refine takeH (i := 1) (some 84) (.pointer (some ⟨r, 0, none⟩)) rfl rfl (by kernel_rfl) (by kernel_rfl) (by kernel_rfl) (fun _ _ _ h => h) (Or.inl ⟨by rfl, ?_⟩) (by assumption) ?_
            · (intro w hSw; (try dsimp only at hSw); go_simp)
            simp only [Act.put, List.setIfInBounds_toArray, List.set_cons_zero, List.set_cons_succ]
            refine takeH (i := 2) (some 85) (.pointer (some ⟨r, 0, none⟩)) rfl rfl (by kernel_rfl) (by kernel_rfl) (by kernel_rfl) (fun _ _ _ h => h) (Or.inl ⟨by rfl, ?_⟩) (by assumption) ?_
            · (intro w hSw; (try dsimp only at hSw); go_simp)
            simp only [Act.put, List.setIfInBounds_toArray, List.set_cons_zero, List.set_cons_succ]
            refine takeH (i := 3) (some 86) (.pointer (some ⟨r, 1, none⟩)) rfl rfl (by kernel_rfl) (by kernel_rfl) (by kernel_rfl) (fun _ _ _ h => h) (Or.inl ⟨by rfl, ?_⟩) (by assumption) ?_
            · (intro w hSw; (try dsimp only at hSw); go_simp)
            simp only [Act.put, List.setIfInBounds_toArray, List.set_cons_zero, List.set_cons_succ]
            refine takeH (i := 5) (some 88) (.pointer (some ⟨xb, 0, none⟩)) rfl rfl (by kernel_rfl) (by kernel_rfl) (by kernel_rfl) (fun _ _ _ h => h) (Or.inl ⟨by rfl, ?_⟩) (by assumption) ?_
            · (intro w hSw; (try dsimp only at hSw); go_simp)
            simp only [Act.put, List.setIfInBounds_toArray, List.set_cons_zero, List.set_cons_succ]
            refine takeH (i := 6) (some 89) (.int .i64 (z : Int)) rfl rfl (by kernel_rfl) (by kernel_rfl) (by kernel_rfl) (fun _ _ _ h => h) (Or.inl ⟨by rfl, ?_⟩) (by assumption) ?_
            · (intro w hSw; (try dsimp only at hSw); go_simp)
            simp only [Act.put, List.setIfInBounds_toArray, List.set_cons_zero, List.set_cons_succ]
            refine takeH (i := 7) (some 90) (.pointer (some ⟨xb, 1, none⟩)) rfl rfl (by kernel_rfl) (by kernel_rfl) (by kernel_rfl) (fun _ _ _ h => h) (Or.inl ⟨by rfl, ?_⟩) (by assumption) ?_
            · (intro w hSw; (try dsimp only at hSw); go_simp)
            simp only [Act.put, List.setIfInBounds_toArray, List.set_cons_zero, List.set_cons_succ]
            refine takeH (i := 8) (some 91) (.int .i64 (q : Int)) rfl rfl (by kernel_rfl) (by kernel_rfl) (by kernel_rfl) (fun _ _ _ h => h) (Or.inl ⟨by rfl, ?_⟩) (by assumption) ?_
            · (intro w hSw; (try dsimp only at hSw); go_simp)
            simp only [Act.put, List.setIfInBounds_toArray, List.set_cons_zero, List.set_cons_succ]
            refine takeH (i := 11) (some 94) (.pointer (some ⟨xb, 1, none⟩)) rfl rfl (by kernel_rfl) (by kernel_rfl) (by kernel_rfl) (fun _ _ _ h => h) (Or.inl ⟨by rfl, ?_⟩) (by assumption) ?_
            · (intro w hSw; (try dsimp only at hSw); go_simp)
            simp only [Act.put, List.setIfInBounds_toArray, List.set_cons_zero, List.set_cons_succ]
            refine takeH (i := 12) (some 95) (.int .i64 (q : Int)) rfl rfl (by kernel_rfl) (by kernel_rfl) (by kernel_rfl) (fun _ _ _ h => h) (Or.inl ⟨by rfl, ?_⟩) (by assumption) ?_
            · (intro w hSw; (try dsimp only at hSw); go_simp)
            simp only [Act.put, List.setIfInBounds_toArray, List.set_cons_zero, List.set_cons_succ]
            refine wpAnyH_ready (rs := [4, 9]) (by kernel_rfl) (by simp) ?_
            refine AllReadyH.cons (by simp only [List.getElem?_toArray, List.getElem?_cons_succ, List.getElem?_cons_zero]; rfl) (fun KK hK => ?_) (AllReadyH.cons (by simp only [List.getElem?_toArray, List.getElem?_cons_succ, List.getElem?_cons_zero]; rfl) (fun KK hK => ?_) AllReadyH.nil)
            · go_simp
              refine hK.out _ _ ⟨y0, y1⟩ (fun hHeld => ?_)
              clear hK KK
              refine wpAnyH_ready (rs := [9]) (by kernel_rfl) (by simp) ?_
              refine AllReadyH.cons (by simp only [List.getElem?_toArray, List.getElem?_cons_succ, List.getElem?_cons_zero]; rfl) (fun KK hK => ?_) AllReadyH.nil
              go_simp
              refine (rsize_any q _ (by omega)).mono ?_
              rintro e w4 ⟨rfl, rfl⟩
              rw [← HS.out.1]
              go_wp2_with fail
              refine hK.out _ _ ⟨y0, y1⟩ (fun hHeld => ?_)
              clear hK KK
              refine takeH (i := 10) (some 93) (.int .i64 zz) rfl rfl (by kernel_rfl) (by kernel_rfl) (by kernel_rfl) (fun _ _ _ h => h) (Or.inl ⟨by rfl, ?_⟩) (by assumption) ?_
              · (intro w hSw; (try dsimp only at hSw); go_simp)
              simp only [Act.put, List.setIfInBounds_toArray, List.set_cons_zero, List.set_cons_succ]
              refine takeH (i := 13) (some 96) (.agg #[.int .i64 zz, .int .i64 (q : Int)]) rfl rfl (by kernel_rfl) (by kernel_rfl) (by kernel_rfl) (fun _ _ _ h => h) (Or.inl ⟨by rfl, ?_⟩) (by assumption) ?_
              · (intro w hSw; (try dsimp only at hSw); go_simp)
              simp only [Act.put, List.setIfInBounds_toArray, List.set_cons_zero, List.set_cons_succ]
              refine wpAnyH_ready (rs := [14]) (by kernel_rfl) (by simp) ?_
              refine AllReadyH.cons (by simp only [List.getElem?_toArray, List.getElem?_cons_succ, List.getElem?_cons_zero]; rfl) (fun KK hK => ?_) AllReadyH.nil
              go_simp
              refine (put_slz _ F' 0 pp q _ zz HS.out.2.2 HSF.out (by omega) hppb (by omega)).mono ?_
              rintro e w5 ⟨a5, c5, t5, rfl, hst5, hs5, hb5⟩
              obtain ⟨g0, g1, g2, g3⟩ := HG.out w5 (HB5.out w5 hb5)
              have H5 := hid (And.intro hst5 (And.intro hs5 hb5))
              clear hst5 hs5 hb5
              go_wp2_with fail
              refine hK.out _ _ ⟨g1, g2⟩ (fun hHeld => ?_)
              clear hK KK
              refine takeH (i := 15) (some 98) (.pointer (some ⟨r, 0, none⟩)) rfl rfl (by kernel_rfl) (by kernel_rfl) (by kernel_rfl) (fun _ _ _ h => h) (Or.inl ⟨by rfl, ?_⟩) (by assumption) ?_
              · (intro w hSw; (try dsimp only at hSw); go_simp)
              simp only [Act.put, List.setIfInBounds_toArray, List.set_cons_zero, List.set_cons_succ]
              refine takeH (i := 16) (some 99) (.pointer (some ⟨r, 1, none⟩)) rfl rfl (by kernel_rfl) (by kernel_rfl) (by kernel_rfl) (fun _ _ _ h => h) (Or.inl ⟨by rfl, ?_⟩) (by assumption) ?_
              · (intro w hSw; (try dsimp only at hSw); go_simp)
              simp only [Act.put, List.setIfInBounds_toArray, List.set_cons_zero, List.set_cons_succ]
              refine wpAnyH_ready (rs := [17]) (by kernel_rfl) (by simp) ?_
              refine AllReadyH.cons (by simp only [List.getElem?_toArray, List.getElem?_cons_succ, List.getElem?_cons_zero]; rfl) (fun KK hK => ?_) AllReadyH.nil
              go_simp
              refine hK.out _ _ (HKP.out _ _ g1 g2) (fun hHeld => ?_)
              clear hK KK
              refine wpAnyH_done (by kernel_rfl) ?_ _
              go_wp2_with fail
              go_roundw
              case rel =>
                have hpp := HS.out.2.1
                obtain ⟨hst5, hs5, hb5⟩ := H5.out
                have hb6 := HB5.out w5 hb5
                rw [hpp] at hst5 hs5
                have hlx : xb < wA.heap.size := (Array.getElem?_eq_some_iff.1 hxA).1
                have hput := hMA.out.putF hb6 hs5 hst5 HB2.out.1 HB2.out.2.2.2.1 HB2.out.2.2.2.2 HB2.out.2.2.1
                have hfar := hs5.far hlx
                have hpos : 2 * ii * 2 ^ q = n * 2 ^ k := by rw [← hP.out.1, Nat.pow_succ, Nat.mul_comm 2 ii, Nat.mul_assoc, Nat.mul_comm 2]
                have hxx : (w5.setCell ⟨r, 1, none⟩ (.slice a5 (F'.length + 1) c5)).heap[xb]? = some (.cells #[.int .i64 (z : Int), .int .i64 (q : Int)] 132) := by rw [Below.heap_setCell _ _ _ _ hxr]; exact (hb6.block xb hlx).trans hxA
                exact ⟨q, 2 * ii, by omega, by omega, ⟨hpos, hxx⟩, ⟨B2, _, _, HB2.out.1, HB2.out.2.1, hB'.out.2.2.1.trans HB2.out.2.2.1, hput, hfar⟩, (htA.bel hb6).but (But.setCell (But.refl r w5) (.inl rfl) _) (.inl rfl)⟩
              case measure =>
                have e1 := (HKP.out w5 (.slice a5 (F'.length + 1) c5) g1 g2).2
                have e2 := HMS.out
                simp only [e1, e2, intOf]
                omega
            · go_simp
              refine (rsize_any q _ (by omega)).mono ?_
              rintro e w4 ⟨rfl, rfl⟩
              rw [← HS.out.1]
              go_wp2_with fail
              refine hK.out _ _ ⟨y0, y1⟩ (fun hHeld => ?_)
              clear hK KK
              refine takeH (i := 10) (some 93) (.int .i64 zz) rfl rfl (by kernel_rfl) (by kernel_rfl) (by kernel_rfl) (fun _ _ _ h => h) (Or.inl ⟨by rfl, ?_⟩) (by assumption) ?_
              · (intro w hSw; (try dsimp only at hSw); go_simp)
              simp only [Act.put, List.setIfInBounds_toArray, List.set_cons_zero, List.set_cons_succ]
              refine takeH (i := 13) (some 96) (.agg #[.int .i64 zz, .int .i64 (q : Int)]) rfl rfl (by kernel_rfl) (by kernel_rfl) (by kernel_rfl) (fun _ _ _ h => h) (Or.inl ⟨by rfl, ?_⟩) (by assumption) ?_
              · (intro w hSw; (try dsimp only at hSw); go_simp)
              simp only [Act.put, List.setIfInBounds_toArray, List.set_cons_zero, List.set_cons_succ]
              refine wpAnyH_ready (rs := [4]) (by kernel_rfl) (by simp) ?_
              refine AllReadyH.cons (by simp only [List.getElem?_toArray, List.getElem?_cons_succ, List.getElem?_cons_zero]; rfl) (fun KK hK => ?_) AllReadyH.nil
              go_simp
              refine hK.out _ _ ⟨y0, y1⟩ (fun hHeld => ?_)
              clear hK KK
              refine wpAnyH_ready (rs := [14]) (by kernel_rfl) (by simp) ?_
              refine AllReadyH.cons (by simp only [List.getElem?_toArray, List.getElem?_cons_succ, List.getElem?_cons_zero]; rfl) (fun KK hK => ?_) AllReadyH.nil
              go_simp
              refine (put_slz _ F' 0 pp q _ zz HS.out.2.2 HSF.out (by omega) hppb (by omega)).mono ?_
              rintro e w5 ⟨a5, c5, t5, rfl, hst5, hs5, hb5⟩
              obtain ⟨g0, g1, g2, g3⟩ := HG.out w5 (HB5.out w5 hb5)
              have H5 := hid (And.intro hst5 (And.intro hs5 hb5))
              clear hst5 hs5 hb5
              go_wp2_with fail
              refine hK.out _ _ ⟨g1, g2⟩ (fun hHeld => ?_)
              clear hK KK
              refine takeH (i := 15) (some 98) (.pointer (some ⟨r, 0, none⟩)) rfl rfl (by kernel_rfl) (by kernel_rfl) (by kernel_rfl) (fun _ _ _ h => h) (Or.inl ⟨by rfl, ?_⟩) (by assumption) ?_
              · (intro w hSw; (try dsimp only at hSw); go_simp)
              simp only [Act.put, List.setIfInBounds_toArray, List.set_cons_zero, List.set_cons_succ]
              refine takeH (i := 16) (some 99) (.pointer (some ⟨r, 1, none⟩)) rfl rfl (by kernel_rfl) (by kernel_rfl) (by kernel_rfl) (fun _ _ _ h => h) (Or.inl ⟨by rfl, ?_⟩) (by assumption) ?_
              · (intro w hSw; (try dsimp only at hSw); go_simp)
              simp only [Act.put, List.setIfInBounds_toArray, List.set_cons_zero, List.set_cons_succ]
              refine wpAnyH_ready (rs := [17]) (by kernel_rfl) (by simp) ?_
              refine AllReadyH.cons (by simp only [List.getElem?_toArray, List.getElem?_cons_succ, List.getElem?_cons_zero]; rfl) (fun KK hK => ?_) AllReadyH.nil
              go_simp
              refine hK.out _ _ (HKP.out _ _ g1 g2) (fun hHeld => ?_)
              clear hK KK
              refine wpAnyH_done (by kernel_rfl) ?_ _
              go_wp2_with fail
              go_roundw
              case rel =>
                have hpp := HS.out.2.1
                obtain ⟨hst5, hs5, hb5⟩ := H5.out
                have hb6 := HB5.out w5 hb5
                rw [hpp] at hst5 hs5
                have hlx : xb < wA.heap.size := (Array.getElem?_eq_some_iff.1 hxA).1
                have hput := hMA.out.putF hb6 hs5 hst5 HB2.out.1 HB2.out.2.2.2.1 HB2.out.2.2.2.2 HB2.out.2.2.1
                have hfar := hs5.far hlx
                have hpos : 2 * ii * 2 ^ q = n * 2 ^ k := by rw [← hP.out.1, Nat.pow_succ, Nat.mul_comm 2 ii, Nat.mul_assoc, Nat.mul_comm 2]
                have hxx : (w5.setCell ⟨r, 1, none⟩ (.slice a5 (F'.length + 1) c5)).heap[xb]? = some (.cells #[.int .i64 (z : Int), .int .i64 (q : Int)] 132) := by rw [Below.heap_setCell _ _ _ _ hxr]; exact (hb6.block xb hlx).trans hxA
                exact ⟨q, 2 * ii, by omega, by omega, ⟨hpos, hxx⟩, ⟨B2, _, _, HB2.out.1, HB2.out.2.1, hB'.out.2.2.1.trans HB2.out.2.2.1, hput, hfar⟩, (htA.bel hb6).but (But.setCell (But.refl r w5) (.inl rfl) _) (.inl rfl)⟩
              case measure =>
                have e1 := (HKP.out w5 (.slice a5 (F'.length + 1) c5) g1 g2).2
                have e2 := HMS.out
                simp only [e1, e2, intOf]
                omega
          · obtain rfl : o = kk := by omega
            have hgt2 : ¬ ((o : Int) < (o : Int)) := by omega
            obtain ⟨B2, hi2, hn2, hu2, hf2⟩ := use_step hB'.out.1 hB'.out.2.1
            have HB2 := hid (And.intro hi2 (And.intro hn2 (And.intro hu2 hf2)))
            obtain ⟨pp, hpp⟩ : ∃ pp, pp = ii * 2 ^ o := ⟨_, rfl⟩
            have hzz : (z : Int) = ((pp * 1024 : Nat) : Int) := by rw [HL.out.2.2, ← hP.out.1, hpp]
            have hppb : pp ≤ 1048576 := by have := Nat.two_pow_pos o; omega
            have HS := hid (And.intro hpp hzz)
            have hMA := hid hB'.out.2.2.2.1
            have yU := hMA.out.cU
            have hlenU := hMA.out.lU.len hB'.out.1 (by simp)
            have hyf := frozen_of_row wr r 2 _ _ hMA.out.head
            have hxA := hP.out.2
            have hlx : xb < wr.heap.size := (Array.getElem?_eq_some_iff.1 hxA).1
            have HXA := hid hxA
            have HG : Hid (∀ wx, Below wr.heap.size wr wx → wx.cell? ⟨xb, 0, none⟩ = some (.int .i64 (z : Int)) ∧ wx.cell? ⟨xb, 1, none⟩ = some (.int .i64 (o : Int)) ∧ wx.frozen? ⟨r, 2, none⟩ = false ∧ wx.cell? ⟨r, 2, none⟩ = some (.slice aU U.length cU)) := fun wx hx => ⟨by rw [cell_of_row _ _ _ _ _ _ ((hx.block xb hlx).trans HXA.out)]; rfl, by rw [cell_of_row _ _ _ _ _ _ ((hx.block xb hlx).trans HXA.out)]; rfl, frozen_of_row _ r 2 _ _ (hMA.out.below hx).head, (hMA.out.below hx).cU⟩
            have HKP : Hid (∀ (wx : World) (v : Value), wx.cell? ⟨xb, 0, none⟩ = some (.int .i64 (z : Int)) → wx.cell? ⟨xb, 1, none⟩ = some (.int .i64 (o : Int)) → (wx.setCell ⟨r, 2, none⟩ v).cell? ⟨xb, 0, none⟩ = some (.int .i64 (z : Int)) ∧ (wx.setCell ⟨r, 2, none⟩ v).cell? ⟨xb, 1, none⟩ = some (.int .i64 (o : Int))) := fun wx v e0 e1 =>
              ⟨(World.cell?_of_block (Below.heap_setCell _ _ _ _ hxr)).trans e0, (World.cell?_of_block (Below.heap_setCell _ _ _ _ hxr)).trans e1⟩
            have HB5 : Hid (∀ wx, Below wr.drew.heap.size wr.drew wx → Below wr.heap.size wr wx) := fun wx hx => ⟨hx.os, hx.tape, hx.output, hx.size, hx.block⟩
            have HSU : Hid (Slc wr.drew 0 (.slice aU U.length cU) U) := (hMA.out.below ((Below.refl _ _).drew)).sU
            clear hi2 hn2 hu2 hf2 hpp hzz hxA hblk
            go_wp2_with fail
            refine wp_region_held_drew (S := fun wx => wx.cell? ⟨xb, 0, none⟩ = some (.int .i64 (z : Int)) ∧ wx.cell? ⟨xb, 1, none⟩ = some (.int .i64 (o : Int))) (by kernel_rfl) ⟨x0, x1⟩ (fun hHeld => ?_)
            refine takeH (i := 0) (some 100) (.pointer (some ⟨r, 0, none⟩)) rfl rfl (by kernel_rfl) (by kernel_rfl) (by kernel_rfl) (fun _ _ _ h => h) (Or.inl ⟨by rfl, ?_⟩) (by assumption) ?_
            · (intro w hSw; (try dsimp only at hSw); go_simp)
            simp only [Act.put, List.setIfInBounds_toArray, List.set_cons_zero, List.set_cons_succ]
            refine takeH (i := 1) (some 101) (.pointer (some ⟨r, 0, none⟩)) rfl rfl (by kernel_rfl) (by kernel_rfl) (by kernel_rfl) (fun _ _ _ h => h) (Or.inl ⟨by rfl, ?_⟩) (by assumption) ?_
            · (intro w hSw; (try dsimp only at hSw); go_simp)
            simp only [Act.put, List.setIfInBounds_toArray, List.set_cons_zero, List.set_cons_succ]
            refine takeH (i := 2) (some 102) (.pointer (some ⟨r, 0, none⟩)) rfl rfl (by kernel_rfl) (by kernel_rfl) (by kernel_rfl) (fun _ _ _ h => h) (Or.inl ⟨by rfl, ?_⟩) (by assumption) ?_
            · (intro w hSw; (try dsimp only at hSw); go_simp)
            simp only [Act.put, List.setIfInBounds_toArray, List.set_cons_zero, List.set_cons_succ]
            refine takeH (i := 3) (some 103) (.pointer (some ⟨r, 2, none⟩)) rfl rfl (by kernel_rfl) (by kernel_rfl) (by kernel_rfl) (fun _ _ _ h => h) (Or.inl ⟨by rfl, ?_⟩) (by assumption) ?_
            · (intro w hSw; (try dsimp only at hSw); go_simp)
            simp only [Act.put, List.setIfInBounds_toArray, List.set_cons_zero, List.set_cons_succ]
            refine takeH (i := 5) (some 105) (.agg #[.int .i64 (z : Int), .int .i64 (o : Int)]) rfl rfl (by kernel_rfl) (by kernel_rfl) (by kernel_rfl) (fun _ _ _ h => h) (Or.inl ⟨by rfl, ?_⟩) (by assumption) ?_
            · (intro w hSw; (try dsimp only at hSw); go_simp)
            simp only [Act.put, List.setIfInBounds_toArray, List.set_cons_zero, List.set_cons_succ]
            refine wpAnyH_ready (rs := [4]) (by kernel_rfl) (by simp) ?_
            refine AllReadyH.cons (by simp only [List.getElem?_toArray, List.getElem?_cons_succ, List.getElem?_cons_zero]; rfl) (fun KK hK => ?_) AllReadyH.nil
            go_simp
            refine hK.out _ _ ⟨x0, x1⟩ (fun hHeld => ?_)
            clear hK KK
            refine wpAnyH_ready (rs := [6]) (by kernel_rfl) (by simp) ?_
            refine AllReadyH.cons (by simp only [List.getElem?_toArray, List.getElem?_cons_succ, List.getElem?_cons_zero]; rfl) (fun KK hK => ?_) AllReadyH.nil
            go_simp
            refine (put_slz _ U 0 pp o _ _ HS.out.2 HSU.out (by omega) hppb (by omega)).mono ?_
            rintro e w5 ⟨a5, c5, t5, rfl, hst5, hs5, hb5⟩
            obtain ⟨g1, g2, g3, g4⟩ := HG.out w5 (HB5.out w5 hb5)
            have H5 := hid (And.intro hst5 (And.intro hs5 hb5))
            clear hst5 hs5 hb5
            go_wp2_with fail
            refine hK.out _ _ ⟨g1, g2⟩ (fun hHeld => ?_)
            clear hK KK
            refine takeH (i := 7) (some 107) (.pointer (some ⟨r, 0, none⟩)) rfl rfl (by kernel_rfl) (by kernel_rfl) (by kernel_rfl) (fun _ _ _ h => h) (Or.inl ⟨by rfl, ?_⟩) (by assumption) ?_
            · (intro w hSw; (try dsimp only at hSw); go_simp)
            simp only [Act.put, List.setIfInBounds_toArray, List.set_cons_zero, List.set_cons_succ]
            refine takeH (i := 8) (some 108) (.pointer (some ⟨r, 2, none⟩)) rfl rfl (by kernel_rfl) (by kernel_rfl) (by kernel_rfl) (fun _ _ _ h => h) (Or.inl ⟨by rfl, ?_⟩) (by assumption) ?_
            · (intro w hSw; (try dsimp only at hSw); go_simp)
            simp only [Act.put, List.setIfInBounds_toArray, List.set_cons_zero, List.set_cons_succ]
            refine wpAnyH_ready (rs := [9]) (by kernel_rfl) (by simp) ?_
            refine AllReadyH.cons (by simp only [List.getElem?_toArray, List.getElem?_cons_succ, List.getElem?_cons_zero]; rfl) (fun KK hK => ?_) AllReadyH.nil
            go_simp
            refine hK.out _ _ (HKP.out _ _ g1 g2) (fun hHeld => ?_)
            clear hK KK
            refine wpAnyH_done (by kernel_rfl) ?_ _
            have k0 := (HKP.out w5 (.slice a5 (U.length + 1) c5) g1 g2).1
            obtain ⟨w6, hw6⟩ : ∃ w6, w6 = w5.setCell ⟨r, 2, none⟩ (.slice a5 (U.length + 1) c5) := ⟨_, rfl⟩
            rw [← hw6] at k0 ⊢
            have HW6 := hid hw6
            clear hw6 hHeld
            go_wp2_with fail
            go_ret2
            obtain ⟨hst5, hs5, hb5⟩ := H5.out
            have hb6 := HB5.out w5 hb5
            rw [HS.out.1] at hst5 hs5
            have hadr : addr k n = (z : Int) := by unfold addr; rw [HL.out.2.2]
            have hadr2 : addr o ii = (z : Int) := by unfold addr; rw [HL.out.2.2, hP.out.1]
            have hnu : B' o ii ≠ .used := by rw [(hB'.out.2.1 o ii).2 ⟨rfl, rfl⟩]; simp
            have hput := hMA.out.putU hb6 hs5 hst5 HB2.out.1 HB2.out.2.2.1 hnu (fun k i => (HB2.out.2.2.2 k i).symm)
            rw [← HW6.out] at hput
            refine ⟨_, _, B2, _, _, _, _, rfl, ?_, HB2.out.1, HB2.out.2.1, hput, .inr ⟨rfl, o, k, n, ii, rfl, ho, HL.out.1, hadr.symm, by rw [hadr, hadr2], least_used HH.out.2.1 HL.out.1 hP.out.1, fun k' i' => ?_⟩⟩
            · rw [HW6.out]; exact (htr.bel hb6).but (But.setCell (But.refl r w5) (.inl rfl) _) (.inl rfl)
            · rw [HB2.out.2.2.1 k' i', ← hB'.out.2.2.1 k' i']
end Go.Proofs.YtdmnemgooagehaaGreatDoor
