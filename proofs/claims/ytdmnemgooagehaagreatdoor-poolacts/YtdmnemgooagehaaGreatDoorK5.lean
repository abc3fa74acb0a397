/- The document's cache: what its Give answers. -/
import Derived.Test.YtdmnemgooagehaaGreatDoorK4
namespace Go.Proofs.YtdmnemgooagehaaGreatDoor
open Go.RowKit Go.Maps

section
variable {w w' : World} {c r sz m N : Nat} {Z : Nat → Prop} {U : Pls} {vS vU : Value}
theorem RefC.mk2 {U' : Pls} {Ls Lu : List Nat} (hh : w.heap[c]? = some (.cells #[.pointer (some ⟨r, 0, none⟩), .int .i64 (sz : Int), vS, vU] 40)) (hs : Irow w 0 vS Ls) (hu : Irow w 0 vU Lu) (oS : ∀ x, vS.ownBlock = some x → Z x ∧ x ≠ c) (oU : ∀ x, vU.ownBlock = some x → Z x ∧ x ≠ c) (br : Z c) (new : ∀ x, w.heap.size ≤ x → Z x) (eS : Ls = slabsOf U' m N) (eU : Lu = usedOf U' sz m N) : RefC w c r Z sz m N U' vS vU := by
  subst eS eU
  exact ⟨hh, hs, hu, fun x hx => (oS x hx).1, fun x hx => (oU x hx).1, fun e => (oS c e).2 rfl, fun e => (oU c e).2 rfl, br, new⟩
theorem RefC.putU {v : Value} (h : RefC w c r Z sz m N U vS vU) (hb : Below w.heap.size w w') {L : List Nat} (hv : Irow w' w.heap.size v L) : ∃ w2, w2 = w'.setCell ⟨c, 3, none⟩ v ∧ w2.heap[c]? = some (.cells #[.pointer (some ⟨r, 0, none⟩), .int .i64 (sz : Int), vS, v] 40) ∧ Irow w2 0 vS (slabsOf U m N) ∧ Irow w2 0 v L ∧ (∀ x, v.ownBlock = some x → Z x ∧ x ≠ c) ∧ w2.heap.size = w'.heap.size := by
  have hh := (hb.block c h.lc).trans h.head
  have hl := h.lc
  have hbs := hb.size
  have hoth : ∀ x, x ≠ c → (w'.setCell ⟨c, 3, none⟩ v).heap[x]? = w'.heap[x]? := fun x hx => Below.heap_setCell _ _ _ _ hx
  have hne : ∀ x, v.ownBlock = some x → x ≠ c := fun x hx e => by have := (hv.lt x hx).1; omega
  exact ⟨_, rfl, by rw [setCell_head hh]; rfl, (h.rS.below hb).keep (fun x hx => hoth x (fun e => h.nS (e ▸ hx))), row_base (hv.keep (fun x hx => hoth x (hne x hx))) (Nat.zero_le _), fun x hx => ⟨h.new x (hv.lt x hx).1, hne x hx⟩, by simp⟩
end
theorem without_nat (L : List Nat) (y : Nat) : without L ((y : Nat) : Int) = L.filter (fun z => decide (z ≠ y)) := by
  unfold without
  congr 1
  funext z
  rw [decide_eq_decide]
  omega
def RCGave (w : World) (c r : Nat) (Zr Zc : Nat → Prop) (K sz m : Nat) (B : St) (U : Pls) (x : Int) (e : Ending) (w' : World) : Prop :=
  ∃ (B' : St) (U' : Pls) (vF vB : Value) (F Ub : List (Nat × Nat)) (vS vU : Value), Turn (fun x => x = c ∨ x = r) w w' ∧ Inv K B' ∧ NoHeld B' ∧ RefM w' r Zr K B' vF vB F Ub ∧ RefC w' c r Zc sz m (2 ^ K) U' vS vU ∧
    ((e = .returned (.int .i64 6) ∧ (∀ q i, i < m → U q i = true → x ≠ ((place sz q i : Nat) : Int)) ∧ B' = B ∧ U' = U) ∨
     ∃ q i, e = .returned (.int .i64 0) ∧ Given U U' m q i ∧ x = ((place sz q i : Nat) : Int) ∧ ((Slb U' m q ∧ B' = B) ∨ (¬ Slb U' m q ∧ Less B B' 0 q)))
set_option maxRecDepth 100000 in
set_option maxHeartbeats 3000000 in
theorem rcgive_any (w : World) (c r : Nat) (Zr Zc : Nat → Prop) (K sz m : Nat) (B : St) (U : Pls) (vF vB : Value) (F Ub : List (Nat × Nat)) (vS vU : Value) (x : Int) (hM : RefM w r Zr K B vF vB F Ub) (hi : Inv K B) (hn : NoHeld B) (hC : RefC w c r Zc sz m (2 ^ K) U vS vU) (hF : Fit B U m (2 ^ K)) (hz : Sz sz m K) (hK : K ≤ 14)
    (hrc : ¬ Zr c) (hcr : ¬ Zc r) : Calls Tryz.prog 19 #[.pointer (some ⟨c, 0, none⟩), .int .i64 x] w (RCGave w c r Zr Zc K sz m B U x) := by
  obtain ⟨a1, cap1, rfl⟩ := hC.rS.open
  obtain ⟨a2, cap2, rfl⟩ := hC.rU.open
  have hN16 : 2 ^ K ≤ 16384 := by
    have := Nat.pow_le_pow_right (n := 2) (by decide) hK
    have e : (2 : Nat) ^ 14 = 16384 := by decide
    omega
  have hlS := slabsOf_few (U := U) (m := m) hN16
  have hlU := usedOf_few (U := U) (sz := sz) hz.few hN16
  have hm60 := hz.few
  have hsz1 := hz.lo
  have hsz2 := hz.hi
  have HHas := hid (ihas_any w 0 _ _ x hC.rU hlU)
  have HCut := hid (icut_any w 0 _ _ x hC.rU hlU)
  have HMC := hid (fun wx => rmany_any wx sz (by omega) (by omega) m hz.m)
  have HH := hid (And.intro hM (And.intro hi (And.intro hn (And.intro hC (And.intro hF (And.intro hz (And.intro hrc hcr)))))))
  have c3 := hC.c3
  have fz3 := hC.fz 3
  have HN16 := hid (And.intro hN16 (And.intro hlS hlU))
  clear hM hi hn hC hF hz hrc hcr hlS hlU hN16 hK
  obtain ⟨ul, hul⟩ : ∃ ul, ul = (usedOf U sz m (2 ^ K)).length := ⟨_, rfl⟩
  rw [← hul] at c3 HHas HCut
  have HUL := hid hul
  clear hul
  go_enter Tryz.func19, Tryz.ntmps19
  go_wp2_with fail
  refine HHas.out.mono ?_
  rintro e wx ⟨f, rfl, hf, ex⟩
  rw [ex]
  clear ex wx
  cases f with
  | false =>
    have HNO : Hid (∀ q i, i < m → U q i = true → x ≠ ((place sz q i : Nat) : Int)) := hid (fun q i hi hu e => by
      have hq := (HH.out.2.2.2.2.1.page q ⟨i, hi, hu⟩).2
      have := hf.out.2 ⟨_, (used_is HH.out.2.2.2.2.2.1.pos HH.out.2.2.2.2.2.1.page hq hi).2 hu, e.symm⟩
      cases this)
    clear hf
    go_wp2_with fail
    go_ret
    exact ⟨B, U, _, _, _, _, _, _, Turn.refl _ _, HH.out.2.1, HH.out.2.2.1, HH.out.1, HH.out.2.2.2.1, .inl ⟨rfl, HNO.out, rfl, rfl⟩⟩
  | true =>
    obtain ⟨y, hy, rfl⟩ := hf.out.1 rfl
    obtain ⟨q, i, hqK, him, hu, hyp⟩ := usedOf_mem.1 hy
    have hyl := (place_in HH.out.2.2.2.2.2.1.page him (p := q)).2
    have hiz : i * sz + sz ≤ 960 := by have h1 := (place_in HH.out.2.2.2.2.2.1.page him (p := q)).1; have h2 := HH.out.2.2.2.2.2.1.page; omega
    have hq16 : q < 16384 := by have := HN16.out.1; omega
    have hyq : y = q * 1024 + 64 + i * sz := hyp
    have hdiv : ((y : Nat) : Int).tdiv 1024 = (q : Int) := by rw [Int.tdiv_eq_ediv_of_nonneg (by omega)]; omega
    have hyb : y < 16777216 := by omega
    have HQ := hid (And.intro hqK (And.intro him (And.intro hu hyp)))
    clear hy hqK him hu hyp hf hyl hiz hyq
    go_wp2_with fail
    refine HCut.out.mono ?_
    rintro e w4 ⟨a4, cap4, rfl, hI4, hb4⟩
    obtain ⟨w5, hw5, hh5, hs5, hu5, ho5, hsz5⟩ := HH.out.2.2.2.1.putU hb4 hI4.out
    have hh4 := (hb4.block c HH.out.2.2.2.1.lc).trans HH.out.2.2.2.1.head
    have hfz4 : w4.frozen? ⟨c, 3, none⟩ = false := by simp [World.frozen?, hh4]
    have hz4 : w4.cell? ⟨c, 3, none⟩ = some (.slice a2 ul cap2) := by rw [cell_of_row _ _ _ _ _ _ hh4, HUL.out]; rfl
    have eL : without (usedOf U sz m (2 ^ K)) ((y : Nat) : Int) = usedOf (setU U q i false) sz m (2 ^ K) := by
      have hz := HH.out.2.2.2.2.2.1
      rw [without_nat]
      exact cut_is (usedOf_up hz.pos hz.page) (usedOf_up hz.pos hz.page) (fun z => by rw [HQ.out.2.2.2]; exact Given.mem (U' := setU U q i false) ⟨HQ.out.2.1, HQ.out.2.2.1, rfl⟩ hz.pos hz.page)
    rw [eL] at hh5 hu5 hw5 ho5
    obtain ⟨ul', hul'⟩ : ∃ ul', ul' = (usedOf (setU U q i false) sz m (2 ^ K)).length := ⟨_, rfl⟩
    have HUL' := hid hul'
    rw [← hul'] at hh5 hu5 hw5 ho5
    rw [show (without (usedOf U sz m (2 ^ K)) ((y : Nat) : Int)).length = ul' by rw [eL, hul']]
    have hlc5 : c < w5.heap.size := (Array.getElem?_eq_some_iff.1 hh5).1
    have HB5 := hid (show Turn (fun x => x = c) w w5 from by
      have t1 : Turn (fun x => x = c) w w4 := Turn.of_below hb4
      have t2 := t1.but (But.setCell (p := ⟨c, 3, none⟩) (But.refl c w4) (.inl rfl) (.slice a4 ul' cap4)) (.inl rfl)
      rwa [← hw5] at t2)
    have H5 := hid (And.intro hh5 (And.intro hs5 (And.intro hu5 ho5)))
    have hbs := hb4.size
    have HS5 := hid (show w.heap.size ≤ w5.heap.size by omega)
    have HW5 := hid hw5
    clear hh5 hs5 hu5 ho5 hsz5 hb4 hI4 hh4 eL hul' hbs hw5 c3 fz3
    have hlU5 : ul' ≤ 1000000 := by rw [HUL'.out]; exact usedOf_few HH.out.2.2.2.2.2.1.few HN16.out.1
    have hsI : IntKind.i64.wrap ((q : Int) * 1024) = (q : Int) * 1024 := by rw [IntKind.wrap_i64]; omega
    go_wp2_with fail
    rw [← HW5.out]
    go_loopw [6] (fun t wr => ∃ k : Nat, t = .int .i64 (k : Int) ∧ k ≤ m ∧ Hid ((∀ k', k' < k → setU U q i false q k' = false) ∧ Below w5.heap.size w5 wr)) (fun t _ => m - (intOf t).toNat)
    case atStart => exact ⟨0, rfl, Nat.zero_le _, fun k' hk' => absurd hk' (by omega), Below.refl _ _⟩
    case round =>
      obtain ⟨k, rfl, hk, HY⟩ := hrel
      have hhr := (HY.out.2.block c hlc5).trans H5.out.1
      have e1 : wr.cell? ⟨c, 1, none⟩ = some (.int .i64 (sz : Int)) := by rw [cell_of_row _ _ _ _ _ _ hhr]; rfl
      have e2 : wr.cell? ⟨c, 2, none⟩ = some (.slice a1 (slabsOf U m (2 ^ K)).length cap1) := by rw [cell_of_row _ _ _ _ _ _ hhr]; rfl
      have e3 : wr.cell? ⟨c, 3, none⟩ = some (.slice a4 ul' cap4) := by rw [cell_of_row _ _ _ _ _ _ hhr]; rfl
      have e0 : wr.cell? ⟨c, 0, none⟩ = some (.pointer (some ⟨r, 0, none⟩)) := by rw [cell_of_row _ _ _ _ _ _ hhr]; rfl
      have f2 : wr.frozen? ⟨c, 2, none⟩ = false := by simp [World.frozen?, hhr]
      by_cases hkm : k = m
      · subst hkm
        have HNS := hid (show ¬ Slb (setU U q i false) k q from by
          rintro ⟨k', hk', hu'⟩
          rw [HY.out.1 k' hk'] at hu'; cases hu')
        have HCS := hid (show Calls Tryz.prog 84 #[.slice a1 (slabsOf U k (2 ^ K)).length cap1, .int .i64 ((q : Int) * 1024)] wr (CutN (slabsOf U k (2 ^ K)) ((q : Int) * 1024) wr) from icut_any wr 0 _ _ _ (H5.out.2.1.below HY.out.2) HN16.out.2.1)
        have eL : without (slabsOf U k (2 ^ K)) ((q : Int) * 1024) = slabsOf (setU U q i false) k (2 ^ K) := by
          rw [show (q : Int) * 1024 = ((q * 1024 : Nat) : Int) by simp, without_nat]
          exact cut_is (slabsOf_up _ _ _) (slabsOf_up _ _ _) (fun z => slabs_off HNS.out z)
        have HEL := hid eL
        obtain ⟨sl, hsl⟩ : ∃ sl, sl = (slabsOf U k (2 ^ K)).length := ⟨_, rfl⟩
        rw [← hsl] at HCS e2
        have HSL := hid hsl
        clear hsl eL
        go_wp2_with (go_at_call 26; refine (HMC.out _).mono ?_; rintro e wx ⟨rfl, ex⟩; rw [ex]; clear ex wx)
        refine HCS.out.mono ?_
        rintro e w6 ⟨a6, cap6, rfl, hI6, hb6⟩
        have hlr : c < wr.heap.size := (Array.getElem?_eq_some_iff.1 hhr).1
        have hh6 := (hb6.block c hlr).trans hhr
        have g2 : w6.cell? ⟨c, 2, none⟩ = some (.slice a1 sl cap1) := by rw [cell_of_row _ _ _ _ _ _ hh6, HSL.out]; rfl
        have fz2 : w6.frozen? ⟨c, 2, none⟩ = false := by simp [World.frozen?, hh6]
        rw [HEL.out] at hI6 ⊢
        obtain ⟨sl', hsl'⟩ : ∃ sl', sl' = (slabsOf (setU U q i false) k (2 ^ K)).length := ⟨_, rfl⟩
        rw [← hsl'] at hI6 ⊢
        obtain ⟨w7, hw7⟩ : ∃ w7, w7 = w6.setCell ⟨c, 2, none⟩ (.slice a6 sl' cap6) := ⟨_, rfl⟩
        have hh7 : w7.heap[c]? = some (.cells #[.pointer (some ⟨r, 0, none⟩), .int .i64 (sz : Int), .slice a6 sl' cap6, .slice a4 ul' cap4] 40) := by rw [hw7, setCell_head hh6]; rfl
        have hoth : ∀ x, x ≠ c → w7.heap[x]? = w6.heap[x]? := fun x hx => by rw [hw7]; exact Below.heap_setCell _ _ _ _ hx
        have hs7 : w7.heap.size = w6.heap.size := by rw [hw7]; simp
        have hI7 : Irow w7 0 (.slice a6 sl' cap6) (slabsOf (setU U q i false) k (2 ^ K)) := row_base (hI6.out.keep (fun x hx => hoth x (fun e => by have := (hI6.out.lt x hx).1; omega))) (Nat.zero_le _)
        have hU7 : Irow w7 0 (.slice a4 ul' cap4) (usedOf (setU U q i false) sz k (2 ^ K)) := ((H5.out.2.2.1.below HY.out.2).below hb6).keep (fun x hx => hoth x (H5.out.2.2.2 x hx).2)
        have hsz5 := HS5.out
        have hszr := HY.out.2.size
        have hsz6 := hb6.size
        have hC7 : RefC w7 c r Zc sz k (2 ^ K) (setU U q i false) (.slice a6 sl' cap6) (.slice a4 ul' cap4) := RefC.mk2 hh7 hI7 hU7 (fun x hx => ⟨HH.out.2.2.2.1.new x (by have := (hI6.out.lt x hx).1; omega), fun e => by have := (hI6.out.lt x hx).1; omega⟩) H5.out.2.2.2 HH.out.2.2.2.1.br (fun x hx => HH.out.2.2.2.1.new x (by omega)) rfl rfl
        have t7 : Turn (fun x => x = c) w w7 := by
          have t1 := (HB5.out.trans (Turn.of_below HY.out.2)).trans (Turn.of_below hb6)
          have t2 := t1.but (But.setCell (p := ⟨c, 2, none⟩) (But.refl c w6) (.inl rfl) (.slice a6 sl' cap6)) (.inl rfl)
          rwa [← hw7] at t2
        have hM7 := HH.out.1.turn t7 (fun x hx hzr => HH.out.2.2.2.2.2.2.1 (hx ▸ hzr))
        have HG := hid (rgive_any w7 r Zr K B vF vB F Ub ((q : Int) * 1024) hM7 HH.out.2.1 HH.out.2.2.1)
        have g0 : (w6.setCell ⟨c, 2, none⟩ (.slice a6 sl' cap6)).cell? ⟨c, 0, none⟩ = some (.pointer (some ⟨r, 0, none⟩)) := by rw [← hw7, cell_of_row _ _ _ _ _ _ hh7]; rfl
        have H7 := hid (And.intro hC7 t7)
        rw [hw7] at HG
        have HW7 := hid hw7
        clear hw7 hh7 hoth hs7 hI7 hU7 hC7 t7 hM7 hI6 hb6 hh6 hhr e0 e1 e2 e3 f2 hsl' hsz5 hszr hsz6
        go_wp2_with fail
        refine HG.out.mono ?_
        rw [← HW7.out]
        rintro e w8 ⟨er, B', vF', vB', F', Ub', rfl, ht, hi', hn', hM', hh⟩
        have hC8 := H7.out.1.turn ht (fun x hx hzc => HH.out.2.2.2.2.2.2.2 (hx ▸ hzc))
        have hBq := (HH.out.2.2.2.2.1.page q ⟨i, HQ.out.2.1, HQ.out.2.2.1⟩).1
        have hadr : (q : Int) * 1024 = addr 0 q := by unfold addr; simp
        have HF := hid (show Less B B' 0 q from by
          rcases hh with ⟨_, _, hno⟩ | ⟨_, k', i', hb', ha', hl'⟩
          · exact absurd hadr (hno 0 q hBq)
          · obtain ⟨rfl, rfl⟩ := addr_inj HH.out.2.1 (by rw [hBq]; simp) (by rw [hb']; simp) (hadr.symm.trans ha')
            exact hl')
        have H8 := hid (And.intro ((H7.out.2.wide (fun x hx => .inl hx) : Turn (fun x => x = c ∨ x = r) w w7).trans (ht.wide (fun x hx => .inr hx))) (And.intro hi' (And.intro hn' (And.intro hM' hC8))))
        clear ht hi' hn' hM' hC8 hh
        go_wp2_with fail
        go_ret
        exact ⟨B', setU U q i false, _, _, _, _, _, _, H8.out.1, H8.out.2.1, H8.out.2.2.1, H8.out.2.2.2.1, H8.out.2.2.2.2, .inr ⟨q, i, rfl, ⟨HQ.out.2.1, HQ.out.2.2.1, rfl⟩, by rw [HQ.out.2.2.2], .inr ⟨HNS.out, HF.out⟩⟩⟩
      · have hk2 : k < m := by omega
        obtain ⟨kz, hkz⟩ : ∃ kz, kz = k * sz := ⟨_, rfl⟩
        have hprod : (k : Int) * (sz : Int) = (kz : Int) := by rw [hkz]; simp
        have hkzb : kz ≤ 960 := by
          have h1 := HH.out.2.2.2.2.2.1.page
          have h2 := Nat.mul_le_mul_right sz (Nat.le_of_lt hk2)
          omega
        have HPL := hid (show place sz q k = q * 1024 + 64 + kz by unfold place; rw [hkz])
        obtain ⟨bb, hbb⟩ : ∃ bb, bb = setU U q i false q k := ⟨_, rfl⟩
        have HBB := hid hbb
        have HHs := hid (fun n => show Calls Tryz.prog 82 #[.slice a4 ul' cap4, .int .i64 ((q : Int) * 1024 + 64 + (kz : Int))] (wr.drewN n) (HasN (usedOf (setU U q i false) sz m (2 ^ K)) ((q : Int) * 1024 + 64 + (kz : Int)) (wr.drewN n)) from by
          have h := (H5.out.2.2.1.below HY.out.2).below (below_drewN (Below.refl _ wr) n)
          rw [HUL'.out] at h ⊢
          exact ihas_any (wr.drewN n) 0 _ _ _ h (by rw [← HUL'.out]; exact hlU5))
        have HHd := hid (fun n => show Calls Tryz.prog 82 #[.slice a4 ul' cap4, .int .i64 ((q : Int) * 1024 + 64 + (kz : Int))] (wr.drewN n) fun e w' => e = .returned (.bool bb) ∧ w' = wr.drewN n from by
          refine (HHs.out n).mono ?_
          rintro e w' ⟨f, rfl, hf, rfl⟩
          have hz := HH.out.2.2.2.2.2.1
          have : f = bb := by
            rw [Bool.eq_iff_iff, hf.out, HBB.out, ← used_is (U := setU U q i false) (n := 2 ^ K) hz.pos hz.page HQ.out.1 hk2]
            constructor
            · rintro ⟨z, hz1, hz2⟩
              have : z = place sz q k := by rw [HPL.out]; omega
              rw [← this]; exact hz1
            · intro h
              exact ⟨_, h, by rw [HPL.out]; omega⟩
          subst this
          exact ⟨rfl, rfl⟩)
        clear hkz hbb HHs
        cases bb with
        | true =>
          go_wp2_with (go_at_call 26; refine (HMC.out _).mono ?_; rintro e wx ⟨rfl, ex⟩; rw [ex]; clear ex wx)
          go_quiet ((go_at_call 82; exact Calls.quiet_of_same (HHd.out _)))
          go_wp2_with fail
          go_ret
          have hb9 : Below w5.heap.size w5 (wr.drewN nq) := Below.drewN HY.out.2 nq
          have hs9 := hb9.size
          have hC9 : RefC (wr.drewN nq) c r Zc sz m (2 ^ K) (setU U q i false) (.slice a1 (slabsOf U m (2 ^ K)).length cap1) (.slice a4 ul' cap4) := RefC.mk2 ((hb9.block c hlc5).trans H5.out.1) (H5.out.2.1.below hb9) (H5.out.2.2.1.below hb9) (fun x hx => ⟨HH.out.2.2.2.1.oS x hx, fun e => HH.out.2.2.2.1.nS (e ▸ hx)⟩) H5.out.2.2.2 HH.out.2.2.2.1.br (fun x hx => HH.out.2.2.2.1.new x (by have := HS5.out; omega)) (slabs_same ⟨i, HQ.out.2.1, HQ.out.2.2.1⟩ false ⟨k, hk2, HBB.out.symm⟩).symm rfl
          have t9 := HB5.out.trans (Turn.of_below hb9)
          exact ⟨B, setU U q i false, _, _, _, _, _, _, t9.wide (fun x hx => .inl hx), HH.out.2.1, HH.out.2.2.1, HH.out.1.turn t9 (fun x hx hzr => HH.out.2.2.2.2.2.2.1 (hx ▸ hzr)), hC9, .inr ⟨q, i, rfl, ⟨HQ.out.2.1, HQ.out.2.2.1, rfl⟩, by rw [HQ.out.2.2.2], .inl ⟨⟨k, hk2, HBB.out.symm⟩, rfl⟩⟩⟩
        | false =>
          go_wp2_with (go_at_call 26; refine (HMC.out _).mono ?_; rintro e wx ⟨rfl, ex⟩; rw [ex]; clear ex wx)
          go_quiet ((go_at_call 82; exact Calls.quiet_of_same (HHd.out _)))
          go_wp2_with fail
          refine ⟨⟨k + 1, by go_num, by omega, hid ⟨fun k' hk' => ?_, Below.drewN HY.out.2 nq⟩⟩, by simp [intOf]; omega⟩
          by_cases e : k' = k
          · subst e; exact HBB.out.symm
          · exact HY.out.1 k' (by omega)
end Go.Proofs.YtdmnemgooagehaaGreatDoor
