/- SlabApart: the walk. -/
import Derived.Test.YtohaoeilodebmaaDoorS29
namespace Go.Proofs.YtohaoeilodebmaaDoor
open Go.RowKit Go.Maps

set_option maxRecDepth 100000 in
set_option maxHeartbeats 16000000 in
theorem apart_core (w : World) (hT : Tab w) (s1 s2 : Nat) (hs1 : s1 < 256) (hs2 : s2 < 256) (al : Option Addr) (ll cl : Nat) (hA : Acts w al ll) :
    Calls Tryd.prog 4 #[.int .u8 (s1 : Int), .int .u8 (s2 : Int), .slice al ll cl] w fun e w' => e = .returned (.bool true) ∧ Below w.heap.size w w' := by
  have HT := hid hT
  have HA := hid hA
  clear hT hA
  by_cases hlong : (200 : Int) < ll
  · go_enter Tryd.func4, Tryd.ntmps4
    go_wp2_with fail
    refine (salive_any w HT.out).mono ?_
    rintro e w1 ⟨rfl, hb1⟩
    have H1 := hid hb1
    clear hb1
    go_wp2_with fail
    go_ret
    exact ⟨rfl, H1.out⟩
  have hll : ll ≤ 200 := by omega
  clear hlong
  obtain ⟨r1, hr1⟩ : ∃ r, r = s1 % 32 := ⟨_, rfl⟩
  have hq1 : (s1 : Int).tmod 32 = (r1 : Int) := by rw [Int.tmod_eq_emod_of_nonneg (by omega), hr1]; omega
  have hr1b : r1 < 32 := by omega
  obtain ⟨r2, hr2⟩ : ∃ r, r = s2 % 32 := ⟨_, rfl⟩
  have hq2 : (s2 : Int).tmod 32 = (r2 : Int) := by rw [Int.tmod_eq_emod_of_nonneg (by omega), hr2]; omega
  have hr2b : r2 < 32 := by omega
  clear hr1 hr2
  go_enter Tryd.func4, Tryd.ntmps4
  go_wp2_with fail
  refine (salive_any w HT.out).mono ?_
  rintro e w1 ⟨rfl, hb1⟩
  have hT1 : Tab w1 := HT.out.below hb1 HT.out.pos
  have H1 := hid (And.intro hb1 hT1)
  clear hb1 hT1
  go_wp2_with fail
  refine (newB_any 6 w1 H1.out.2 (by omega) (by omega)).mono ?_
  rintro e w2 ⟨p, mm, bf, gf, rfl, hm2, hn2, hb2⟩
  have H2 := hid (And.intro hm2 (And.intro hn2 hb2))
  clear hm2 hn2 hb2
  have hsn := snew_any p (16 + 16 * r1) w2 (by omega) (by omega) (by omega)
  rw [show (((16 + 16 * r1 : Nat) : Nat) : Int) = 16 + 16 * (r1 : Int) by omega] at hsn
  have HSN := hid hsn
  clear hsn
  go_wp2_with fail
  refine HSN.out.mono ?_
  intro e w3 h3
  obtain ⟨z1, hz1⟩ : ∃ z, z = 16 + 16 * r1 := ⟨_, rfl⟩
  rw [← hz1] at h3
  obtain ⟨m1, hm1⟩ : ∃ m, m = 960 / z1 := ⟨_, rfl⟩
  have hzz1 : Sz z1 m1 6 := ⟨by omega, by omega, hm1, by omega, by omega⟩
  obtain ⟨c1, rfl, _, hS3⟩ := sys_new (m := m1) (w0 := w) (Bd := w.heap.size) (Below.of_below H1.out.1 H1.out.1.size H2.out.2.2) (Nat.le_trans H1.out.1.size H2.out.2.2.size) (H1.out.2.below H2.out.2.2 H1.out.2.pos) HT.out.pos ⟨begin_inv 6, begin_noheld 6, H2.out.1⟩ (by
    have := H1.out.1.size
    rintro x (rfl | ⟨k, hk, rfl⟩)
    · exact Nat.le_trans this H2.out.2.1.2.1
    · exact Nat.le_trans this (H2.out.2.1.2.2 k hk).2) h3
  have X3 := hid hS3
  clear h3 hS3 H1 H2 HSN
  have hsn := snew_any p (16 + 16 * r2) w3 (by omega) (by omega) (by omega)
  rw [show (((16 + 16 * r2 : Nat) : Nat) : Int) = 16 + 16 * (r2 : Int) by omega] at hsn
  have HSN := hid hsn
  clear hsn
  go_wp2_with fail
  refine HSN.out.mono ?_
  intro e w4 h4
  obtain ⟨z2, hz2⟩ : ∃ z, z = 16 + 16 * r2 := ⟨_, rfl⟩
  rw [← hz2] at h4
  obtain ⟨m2, hm2⟩ : ∃ m, m = 960 / z2 := ⟨_, rfl⟩
  have hzz2 : Sz z2 m2 6 := ⟨by omega, by omega, hm2, by omega, by omega⟩
  obtain ⟨c2, rfl, _, hS4⟩ := sys2_new (m2 := m2) X3.out h4
  have HZ := hid (And.intro hzz1 hzz2)
  have X4 := hid hS4
  clear h4 hS4 X3 HSN hz1 hz2 hm1 hm2 hzz1 hzz2
  go_wp2_with fail
  obtain ⟨gx, hgx⟩ : ∃ gx, gx = w4.heap.size := ⟨_, rfl⟩
  have hS5 : Sys2 w w.heap.size (fun x => x = gx) (w4.alloc (.cells #[.pointer (some ⟨c1, 0, none⟩), .pointer (some ⟨c2, 0, none⟩)] 49)) p 6 0 (begin_ 6) c1 z1 m1 none_ c2 z2 m2 none_ :=
    (X4.out.grown (Turn.of_below ((Below.refl _ w4).alloc (Nat.le_refl _) _))).fewer (fun x hx => .inr ⟨by omega, by simp; omega⟩)
  have hx5 : (w4.alloc (.cells #[.pointer (some ⟨c1, 0, none⟩), .pointer (some ⟨c2, 0, none⟩)] 49)).heap[gx]? = some (.cells #[.pointer (some ⟨c1, 0, none⟩), .pointer (some ⟨c2, 0, none⟩)] 49) := by rw [hgx]; exact heap_alloc_new w4 _
  rw [← hgx]
  have X5 := hid (And.intro hS5 hx5)
  clear hS5 hx5 X4 hgx
  go_loopw [9] (fun v wr => ∃ i : Nat, v = .int .i64 (i : Int) ∧ i ≤ ll ∧ ∃ B U1 U2, Hid (Sys2 w w.heap.size (fun x => x = gx) wr p 6 i B c1 z1 m1 U1 c2 z2 m2 U2 ∧ wr.heap[gx]? = some (.cells #[.pointer (some ⟨c1, 0, none⟩), .pointer (some ⟨c2, 0, none⟩)] 49))) (fun v _ => ll - (intOf v).toNat)
  case atStart => exact ⟨0, rfl, Nat.zero_le _, _, _, _, X5⟩
  case round =>
    clear X5
    obtain ⟨i, rfl, hi, B, U1, U2, HS⟩ := hrel
    by_cases hin : i = ll
    · subst hin
      go_wp2_with fail
      obtain ⟨bb, hbb⟩ : ∃ bb, bb = wr.heap.size := ⟨_, rfl⟩
      have hP0 : Ph w w.heap.size gx bb p B c1 z1 m1 U1 c2 z2 m2 U2 i (fun x => (0 < 0 ∧ InC U1 m1 z1 x) ∨ (1 < 0 ∧ InC U2 m2 z2 x)) (wr.alloc (.cells Tryd.zeroCells56 56)) := by
        have hgl := lt_of HS.out.2
        have hbl : Below wr.heap.size wr (wr.alloc (.cells Tryd.zeroCells56 56)) := (Below.refl _ wr).alloc (Nat.le_refl _) _
        refine ⟨(HS.out.1.grown (Turn.of_below hbl)).fewer (fun x hx => ?_), (hbl.block gx hgl).trans HS.out.2, ?_, by omega⟩
        · rcases hx with e | e
          · exact .inl e
          · exact .inr ⟨by omega, by simp; omega⟩
        · rw [hbb]; exact (Cm.new wr).weak (fun _ h => h.elim)
      rw [← hbb]
      have XP := hid hP0
      clear hP0 HS hbb
      go_loopw [13] (fun v wq => ∃ k : Nat, v = .int .i64 (k : Int) ∧ k ≤ 2 ∧ Hid (Ph w w.heap.size gx bb p B c1 z1 m1 U1 c2 z2 m2 U2 i (fun x => (0 < k ∧ InC U1 m1 z1 x) ∨ (1 < k ∧ InC U2 m2 z2 x)) wq)) (fun v _ => 2 - (intOf v).toNat)
      case atStart => exact ⟨0, rfl, by omega, XP⟩
      case round =>
        clear XP
        obtain ⟨k, rfl, hk, XP⟩ := hrel
        by_cases hk2 : k = 2
        · subst hk2
          have hTT : Tab _ := HT.out.below XP.out.1.b0 HT.out.pos
          have HTT := hid hTT
          clear hTT
          go_wp2_with fail
          refine (salive_any _ HTT.out).mono ?_
          rintro e w9 ⟨rfl, hb9⟩
          have HB9 := hid (Below.of_below XP.out.1.b0 XP.out.1.b0.size hb9)
          clear hb9
          go_wp2_with fail
          go_ret
          exact ⟨rfl, HB9.out⟩
        · have hkl : k < 2 := by omega
          clear hk hk2
          obtain ⟨ca, za, ma, Ua, Q, hcell, hone, hza, hph, hQ, hnext⟩ : ∃ (ca za ma : Nat) (Ua : Pls) (Q : Nat → Prop), (∀ W P, Ph w w.heap.size gx bb p B c1 z1 m1 U1 c2 z2 m2 U2 i P W → W.cell? ⟨gx, k, none⟩ = some (.pointer (some ⟨ca, 0, none⟩))) ∧
              (∀ W P, Ph w w.heap.size gx bb p B c1 z1 m1 U1 c2 z2 m2 U2 i P W → Sys w w.heap.size (fun x => x = gx ∨ x = bb) W p ca 6 za ma i B Ua) ∧ Sz za ma 6 ∧ Ph w w.heap.size gx bb p B c1 z1 m1 U1 c2 z2 m2 U2 i Q wr ∧ (∀ x, Q x → ¬ InC Ua ma za x) ∧
              (∀ x, Q x ∨ InC Ua ma za x → (0 < k + 1 ∧ InC U1 m1 z1 x) ∨ (1 < k + 1 ∧ InC U2 m2 z2 x)) := by
            rcases (show k = 0 ∨ k = 1 by omega) with rfl | rfl
            · refine ⟨c1, z1, m1, U1, _, fun W P h => by rw [cell_of_row W gx 0 _ _ _ h.2.1]; rfl, fun W P h => h.1.one, HZ.out.1, XP.out, fun x hx => by omega, fun x hx => ?_⟩
              rcases hx with hx | hx
              · omega
              · exact .inl ⟨by omega, hx⟩
            · refine ⟨c2, z2, m2, U2, _, fun W P h => by rw [cell_of_row W gx 1 _ _ _ h.2.1]; rfl, fun W P h => h.1.swap.one, HZ.out.2, XP.out, fun x hx h2 => ?_, fun x hx => ?_⟩
              · rcases hx with hx | hx
                · exact inC_apart HZ.out.1.page HZ.out.2.page XP.out.1.apart hx.2 h2
                · omega
              · rcases hx with hx | hx
                · rcases hx with hx | hx
                  · exact .inl ⟨by omega, hx.2⟩
                  · omega
                · exact .inr ⟨by omega, hx⟩
          have HG := hid (And.intro hcell (And.intro hone (And.intro hza (And.intro hQ hnext))))
          have hcg := hcell _ _ hph
          have XQ := hid hph
          have hzab := hza.hi
          have hzal := hza.lo
          clear hcell hone hza hph hQ hnext XP
          go_wp2_with fail
          refine ((HG.out.2.1 _ _ XQ.out).slabs (by omega)).mono ?_
          rintro e w10 ⟨v10, rfl, hrow10, hb10⟩
          obtain ⟨ps, hps⟩ : ∃ ps, ps = pagesOf Ua ma (2 ^ 6) := ⟨_, rfl⟩
          obtain ⟨n3, hn3⟩ : ∃ n3, n3 = ps.length := ⟨_, rfl⟩
          have hsl : (slabsOf Ua ma (2 ^ 6)).length = n3 := by unfold slabsOf; rw [List.length_map, hn3, hps]
          obtain ⟨a10, cap10, rfl, hI10⟩ := ints_len hrow10 hsl
          have hn3b : n3 ≤ 64 := by rw [hn3, hps]; exact pagesOf_len _ _ _
          have hbk : ∀ g, a10 = some ⟨g, 0, none⟩ → g ≠ bb := fun g e e2 => by
            obtain ⟨cur, hc, _⟩ := XQ.out.2.2.1
            have h1 := lt_of hc
            have h2 := ints_at hrow10 g ⟨_, e, rfl⟩
            omega
          have X10 := hid (And.intro (XQ.out.below hb10) (And.intro hI10.base0 (And.intro hps (And.intro hn3 hbk))))
          clear hrow10 hb10 hI10 hps hn3 hbk hsl XQ
          go_wp2_with fail
          go_loopw [15] (fun v wq => ∃ j : Nat, v = .int .i64 (j : Int) ∧ j ≤ n3 ∧ Hid (Ph w w.heap.size gx bb p B c1 z1 m1 U1 c2 z2 m2 U2 i (fun x => Q x ∨ ∃ j' q, j' < j ∧ ps[j']? = some q ∧ InHead q x) wq ∧ Ints wq 0 a10 (slabsOf Ua ma (2 ^ 6)))) (fun v _ => n3 - (intOf v).toNat)
          case atStart => exact ⟨0, rfl, Nat.zero_le _, X10.out.1.weak (fun x hx => .inl hx), X10.out.2.1⟩
          case round =>
            have HC := hid (And.intro X10.out.2.2.1 (And.intro X10.out.2.2.2.1 X10.out.2.2.2.2))
            clear X10
            obtain ⟨j, rfl, hj, XJ⟩ := hrel
            by_cases hjn : j = n3
            · subst hjn
              have hweak : Ph w w.heap.size gx bb p B c1 z1 m1 U1 c2 z2 m2 U2 i (fun x => Q x ∨ ∃ q, Slb Ua ma q ∧ InHead q x) wr := XJ.out.1.weak (fun x hx => hx.imp id (fun ⟨j', q, _, h1, h2⟩ => ⟨q, (pagesOf_mem.1 (by rw [← HC.out.1]; exact List.mem_of_getElem? h1)).2, h2⟩))
              have hcg2 := HG.out.1 _ _ hweak
              have XU := hid hweak
              clear hweak XJ HC
              go_wp2_with fail
              refine ((HG.out.2.1 _ _ XU.out).used HG.out.2.2.1 (by omega)).mono ?_
              rintro e w11 ⟨v11, rfl, hrow11, hb11⟩
              obtain ⟨u, hu⟩ : ∃ u, u = usedOf Ua za ma (2 ^ 6) := ⟨_, rfl⟩
              rw [← hu] at hrow11
              obtain ⟨n5, hn5⟩ : ∃ n5, u.length = n5 := ⟨_, rfl⟩
              obtain ⟨a11, cap11, rfl, hI11⟩ := ints_len hrow11 hn5
              have hn5b : n5 ≤ 4000 := by
                rw [← hn5, hu, ← Gt_all]
                refine Nat.le_trans (Gt_len _ _ _ _ _) ?_
                exact Nat.le_trans (Nat.mul_le_mul (pagesOf_len _ _ _) HG.out.2.2.1.few) (by omega)
              have hbk : ∀ g, a11 = some ⟨g, 0, none⟩ → g ≠ bb := fun g e e2 => by
                obtain ⟨cur, hc, _⟩ := XU.out.2.2.1
                have h1 := lt_of hc
                have h2 := ints_at hrow11 g ⟨_, e, rfl⟩
                omega
              have X11 := hid (And.intro (XU.out.below hb11) (And.intro hI11.base0 (And.intro hu (And.intro hn5 hbk))))
              clear hrow11 hb11 hI11 hu hn5 hbk XU hcg2
              go_wp2_with fail
              go_loopw [18] (fun v wq => ∃ j : Nat, v = .int .i64 (j : Int) ∧ j ≤ n5 ∧ Hid (Ph w w.heap.size gx bb p B c1 z1 m1 U1 c2 z2 m2 U2 i (fun x => (Q x ∨ ∃ q, Slb Ua ma q ∧ InHead q x) ∨ ∃ j' x0, j' < j ∧ u[j']? = some x0 ∧ x0 ≤ x ∧ x < x0 + za) wq ∧ Ints wq 0 a11 u)) (fun v _ => n5 - (intOf v).toNat)
              case atStart => exact ⟨0, rfl, Nat.zero_le _, X11.out.1.weak (fun x hx => .inl hx), X11.out.2.1⟩
              case round =>
                have HD := hid (And.intro X11.out.2.2.1 (And.intro X11.out.2.2.2.1 X11.out.2.2.2.2))
                clear X11
                obtain ⟨jj, rfl, hj, XJ⟩ := hrel
                by_cases hjn : jj = n5
                · subst hjn
                  have hfin : Ph w w.heap.size gx bb p B c1 z1 m1 U1 c2 z2 m2 U2 i (fun x => (0 < k + 1 ∧ InC U1 m1 z1 x) ∨ (1 < k + 1 ∧ InC U2 m2 z2 x)) wr := XJ.out.1.weak (fun x hx => HG.out.2.2.2.2 x (by
                    rcases hx with (hx | hx) | ⟨j', x0, _, h2, h3, h4⟩
                    · exact .inl hx
                    · exact .inr (.inl hx)
                    · have hm := List.mem_of_getElem? h2
                      rw [HD.out.1] at hm
                      obtain ⟨q0, i0, _, hi0, hu0, hx0⟩ := usedOf_mem.1 hm
                      exact .inr (.inr ⟨q0, i0, hi0, hu0, by rw [← hx0]; exact h3, by rw [← hx0]; exact h4⟩)))
                  have XF := hid hfin
                  clear hfin XJ HD
                  go_wp2_with fail
                  go_roundw
                  case rel => exact ⟨k + 1, rfl, by omega, XF⟩
                  case measure => show 2 - ((k : Int) + 1).toNat < 2 - (k : Int).toNat; omega
                · have hjl : jj < n5 := by omega
                  clear hj hjn
                  obtain ⟨x0, hx0⟩ : ∃ x0, u[jj]? = some x0 := ⟨_, List.getElem?_eq_getElem (by rw [HD.out.2.1]; exact hjl)⟩
                  obtain ⟨q, ij, hq, hij, huq, hxe⟩ := usedOf_mem.1 (by rw [← HD.out.1]; exact List.mem_of_getElem? hx0 : x0 ∈ usedOf Ua za ma (2 ^ 6))
                  have hpi := place_in (p := q) HG.out.2.2.1.page hij
                  obtain ⟨rm, hrm⟩ : ∃ rm, rm = 64 + ij * za := ⟨_, rfl⟩
                  have hq64 : q < 64 := hq
                  have hxs : x0 = q * 1024 + rm := by rw [hxe, hrm]; unfold place; omega
                  have hrmb : rm + za ≤ 1024 := by have := hpi.1; have := HG.out.2.2.1.page; omega
                  have hdiv : (x0 : Int).tdiv 1024 = (q : Int) := by rw [Int.tdiv_eq_ediv_of_nonneg (by omega), hxs]; omega
                  have hmod : (x0 : Int).tmod 1024 = (rm : Int) := by rw [Int.tmod_eq_emod_of_nonneg (by omega), hxs]; omega
                  have hle : decide ((1024 : Int) < (rm : Int) + (za : Int)) = false := by simp; omega
                  have hx0b : x0 + za ≤ 65536 := by omega
                  obtain ⟨g, ha11, _, _, hcs⟩ := XJ.out.2.cell hx0
                  have hgb : g ≠ bb := HD.out.2.2 g ha11
                  subst ha11
                  have hcg := HG.out.1 _ _ XJ.out.1
                  have hpd : ∀ n, Ph w w.heap.size gx bb p B c1 z1 m1 U1 c2 z2 m2 U2 i (fun x => (Q x ∨ ∃ q, Slb Ua ma q ∧ InHead q x) ∨ ∃ j' x0, j' < jj ∧ u[j']? = some x0 ∧ x0 ≤ x ∧ x < x0 + za) (wr.drewN n) := fun n => XJ.out.1.below (below_drewN (Below.refl _ wr) n)
                  have ho12 : ∀ n, Calls Tryd.prog 12 #[.pointer (some ⟨p, 0, none⟩), .int .i64 ((q : Int) * 1024)] (wr.drewN n) fun e w' => e = .returned (.int .i64 0) ∧ w' = wr.drewN n := fun n => (HG.out.2.1 _ _ (hpd n)).order ⟨ij, hij, huq⟩ _ (by unfold pag; omega) (by omega)
                  have ho29 : ∀ n, Calls Tryd.prog 29 #[.pointer (some ⟨ca, 0, none⟩)] (wr.drewN n) fun e w' => e = .returned (.int .i64 (za : Int)) ∧ w' = wr.drewN n := fun n => size_any _ ca za (HG.out.2.1 _ _ (hpd n)).c1
                  have HO := hid (And.intro ho12 ho29)
                  have HX := hid (And.intro hx0 (And.intro hij (And.intro huq (And.intro hxe hq))))
                  have HXS := hid hxs
                  clear hx0 hij huq hxe hpi hrm hpd ho12 ho29 hq hxs
                  go_wp2_with fail
                  go_quiet ((first | (go_at_call 12; exact Calls.quiet_of_same (HO.out.1 _)) | (go_at_call 29; exact Calls.quiet_of_same (HO.out.2 _))))
                  go_wp2_with fail
                  go_loopw [19] (fun v wq => ∃ t : Nat, v = .int .i64 (t : Int) ∧ t ≤ za ∧ Hid (Ph w w.heap.size gx bb p B c1 z1 m1 U1 c2 z2 m2 U2 i (fun x => ((Q x ∨ ∃ q, Slb Ua ma q ∧ InHead q x) ∨ ∃ j' x0, j' < jj ∧ u[j']? = some x0 ∧ x0 ≤ x ∧ x < x0 + za) ∨ ∃ t', t' < t ∧ x = x0 + t') wq ∧ Ints wq 0 (some ⟨g, 0, none⟩) u)) (fun v _ => za - (intOf v).toNat)
                  case atStart => exact ⟨0, rfl, Nat.zero_le _, (XJ.out.1.below (below_drewN (Below.refl _ wr) _)).weak (fun x hx => .inl hx), XJ.out.2.below (below_drewN (Below.refl _ wr) _)⟩
                  case round =>
                    clear XJ hcs hcg HO hdiv hmod hle
                    obtain ⟨t, rfl, ht, XT⟩ := hrel
                    have hcg := HG.out.1 _ _ XT.out.1
                    have hsz := size_any _ ca za (HG.out.2.1 _ _ XT.out.1).c1
                    have HSZ := hid hsz
                    clear hsz
                    by_cases htz : t = za
                    · subst htz
                      go_wp2_with (go_at_call 29; refine HSZ.out.mono ?_; rintro e wx ⟨rfl, ex⟩; rw [ex]; clear ex wx)
                      go_roundw
                      case rel =>
                        refine ⟨jj + 1, rfl, by omega, XT.out.1.weak (fun x hx => ?_), XT.out.2⟩
                        rcases hx with (hx | ⟨j', x1, h1, h2, h3, h4⟩) | ⟨t', h1, h2⟩
                        · exact .inl hx
                        · exact .inr ⟨j', x1, by omega, h2, h3, h4⟩
                        · exact .inr ⟨jj, x0, by omega, HX.out.1, by omega, by omega⟩
                      case measure => show n5 - ((jj : Int) + 1).toNat < n5 - (jj : Int).toNat; omega
                    · have htl : t < za := by omega
                      clear ht htz
                      obtain ⟨_, ha, _, _, hcs⟩ := XT.out.2.cell HX.out.1
                      cases ha
                      have hin : InPlace za q ij (x0 + t) := by have := HX.out.2.2.2.1; exact ⟨by omega, by omega⟩
                      obtain ⟨hcc, hcf⟩ := XT.out.1.at (x := x0 + t) (by omega) (by
                        rintro (((hx | ⟨q', hs', h3⟩) | ⟨j', x1, h1, h2, h3, h4⟩) | ⟨t', h1, h2⟩)
                        · exact HG.out.2.2.2.1 _ hx (.inr ⟨q, ij, HX.out.2.1, HX.out.2.2.1, hin⟩)
                        · exact head_place2 HG.out.2.2.1.page HX.out.2.1 h3 hin
                        · have hm := List.mem_of_getElem? h2
                          rw [HD.out.1] at hm
                          obtain ⟨q1, i1, _, hi1, hu1, hx1⟩ := usedOf_mem.1 hm
                          have hin1 : InPlace za q1 i1 (x0 + t) := ⟨by rw [← hx1]; exact h3, by rw [← hx1]; exact h4⟩
                          have e1 := place_place HG.out.2.2.1.page HG.out.2.2.1.page hi1 HX.out.2.1 hin1 hin
                          subst e1
                          have e2 := place_same HG.out.2.2.1.page hi1 HX.out.2.1 hin1 hin
                          subst e2
                          have e3 : x1 = x0 := by rw [hx1, HX.out.2.2.2.1]
                          subst e3
                          have hnd : u.Nodup := by rw [HD.out.1]; exact usedOf_nodup HG.out.2.2.1.pos HG.out.2.2.1.page
                          obtain ⟨l1, f1⟩ := List.getElem?_eq_some_iff.1 h2
                          obtain ⟨l2, f2⟩ := List.getElem?_eq_some_iff.1 HX.out.1
                          have := nodup_at hnd l1 l2 (by rw [f1, f2])
                          omega
                        · omega)
                      have hph := XT.out.1.set (x := x0 + t)
                      have hint := XT.out.2.other (w' := wr.setCell ⟨bb, x0 + t, none⟩ (.bool true)) (fun g' e _ hg' => by cases e; exact (setCell_but wr bb (x0 + t) (.bool true)).block g hg' hgb)
                      have XS := hid (And.intro hph hint)
                      clear hph hint hin
                      go_wp2_with (go_at_call 29; refine HSZ.out.mono ?_; rintro e wx ⟨rfl, ex⟩; rw [ex]; clear ex wx)
                      go_roundw
                      case rel =>
                        refine ⟨t + 1, rfl, by omega, XS.out.1.weak (fun x hx => ?_), XS.out.2⟩
                        rcases hx with (hx | ⟨t', h1, h2⟩) | hx
                        · exact .inl hx
                        · exact .inr ⟨t', by omega, h2⟩
                        · exact .inr ⟨t, by omega, hx⟩
                      case measure => show za - ((t : Int) + 1).toNat < za - (t : Int).toNat; omega
            · have hjl : j < n3 := by omega
              clear hj hjn
              obtain ⟨q, hq⟩ : ∃ q, ps[j]? = some q := ⟨_, List.getElem?_eq_getElem (by rw [← HC.out.2.1]; exact hjl)⟩
              have hqs : q < 2 ^ 6 ∧ Slb Ua ma q := pagesOf_mem.1 (by rw [← HC.out.1]; exact List.mem_of_getElem? hq)
              obtain ⟨y, hy⟩ : ∃ y, y = q * 1024 := ⟨_, rfl⟩
              have hyb : y < 65536 - 1000 := by have : 2 ^ 6 = 64 := rfl; omega
              obtain ⟨g, ha10, _, _, hcs⟩ := XJ.out.2.cell (x := y) (by rw [hy]; exact slabs_get (by rw [← HC.out.1]; exact hq))
              have hgb : g ≠ bb := HC.out.2.2 g ha10
              subst ha10
              have hord : ∀ W P, Ph w w.heap.size gx bb p B c1 z1 m1 U1 c2 z2 m2 U2 i P W → Calls Tryd.prog 12 #[.pointer (some ⟨p, 0, none⟩), .int .i64 (y : Int)] W fun e w' => e = .returned (.int .i64 0) ∧ w' = W := fun W P h => (HG.out.2.1 _ _ h).order hqs.2 _ (by rw [hy]; rfl) (by have : 2 ^ 6 = 64 := rfl; omega)
              have HO := hid (And.intro hord (And.intro hq (And.intro hqs hy)))
              clear hord hq hqs hy
              go_wp2_with fail
              refine (HO.out.1 _ _ XJ.out.1).mono ?_
              rintro e wx ⟨rfl, ex⟩
              rw [ex]
              clear ex wx
              go_wp2_with fail
              go_loopw [16] (fun v wq => ∃ t : Nat, v = .int .i64 (t : Int) ∧ t ≤ 64 ∧ Hid (Ph w w.heap.size gx bb p B c1 z1 m1 U1 c2 z2 m2 U2 i (fun x => (Q x ∨ ∃ j' q, j' < j ∧ ps[j']? = some q ∧ InHead q x) ∨ ∃ t', t' < t ∧ x = y + t') wq ∧ Ints wq 0 (some ⟨g, 0, none⟩) (slabsOf Ua ma (2 ^ 6)))) (fun v _ => 64 - (intOf v).toNat)
              case atStart => exact ⟨0, rfl, Nat.zero_le _, XJ.out.1.weak (fun x hx => .inl hx), XJ.out.2⟩
              case round =>
                clear XJ hcs
                obtain ⟨t, rfl, ht, XT⟩ := hrel
                by_cases ht64 : t = 64
                · subst ht64
                  go_wp2_with fail
                  go_roundw
                  case rel =>
                    refine ⟨j + 1, rfl, by omega, XT.out.1.weak (fun x hx => ?_), XT.out.2⟩
                    rcases hx with (hx | ⟨j', q', h1, h2, h3⟩) | ⟨t', h1, h2⟩
                    · exact .inl hx
                    · exact .inr ⟨j', q', by omega, h2, h3⟩
                    · exact .inr ⟨j, q, by omega, HO.out.2.1, by have := HO.out.2.2.2; exact ⟨by omega, by omega⟩⟩
                  case measure => show n3 - ((j : Int) + 1).toNat < n3 - (j : Int).toNat; omega
                · have htl : t < 64 := by omega
                  clear ht ht64
                  obtain ⟨_, ha, _, _, hcs⟩ := XT.out.2.cell (x := y) (by rw [HO.out.2.2.2]; exact slabs_get (by rw [← HC.out.1]; exact HO.out.2.1))
                  cases ha
                  have hin : InHead q (y + t) := by have := HO.out.2.2.2; exact ⟨by omega, by omega⟩
                  obtain ⟨hcc, hcf⟩ := XT.out.1.at (x := y + t) (by omega) (by
                    rintro ((hx | ⟨j', q', h1, h2, h3⟩) | ⟨t', h1, h2⟩)
                    · exact HG.out.2.2.2.1 _ hx (.inl ⟨q, HO.out.2.2.1.2, hin⟩)
                    · have e := head_head h3 hin
                      subst e
                      have hnd : ps.Nodup := by rw [HC.out.1]; exact ones_nodup _ _
                      obtain ⟨l1, e1⟩ := List.getElem?_eq_some_iff.1 h2
                      obtain ⟨l2, e2⟩ := List.getElem?_eq_some_iff.1 HO.out.2.1
                      have := nodup_at hnd l1 l2 (by rw [e1, e2])
                      omega
                    · omega)
                  have hph := XT.out.1.set (x := y + t)
                  have hint := XT.out.2.other (w' := wr.setCell ⟨bb, y + t, none⟩ (.bool true)) (fun g' e _ hg' => by cases e; exact (setCell_but wr bb (y + t) (.bool true)).block g hg' hgb)
                  have XS := hid (And.intro hph hint)
                  clear hph hint hin
                  go_wp2_with fail
                  go_roundw
                  case rel =>
                    refine ⟨t + 1, rfl, by omega, XS.out.1.weak (fun x hx => ?_), XS.out.2⟩
                    rcases hx with (hx | ⟨t', h1, h2⟩) | hx
                    · exact .inl hx
                    · exact .inr ⟨t', by omega, h2⟩
                    · exact .inr ⟨t, by omega, hx⟩
                  case measure => show 64 - ((t : Int) + 1).toNat < 64 - (t : Int).toNat; omega
    · have hil : i < ll := by omega
      clear hi hin
      obtain ⟨k, ca, za, ma, cb, zb, mb, Ua, Ub, hk, hk2, hcell, hSa, hza, hback⟩ : ∃ (k ca za ma cb zb mb : Nat) (Ua Ub : Pls), (i : Int).tmod 2 = (k : Int) ∧ k < 2 ∧ wr.cell? ⟨gx, k, none⟩ = some (.pointer (some ⟨ca, 0, none⟩)) ∧ Sys2 w w.heap.size (fun x => x = gx) wr p 6 i B ca za ma Ua cb zb mb Ub ∧ Sz za ma 6 ∧
          (∀ w' B' ct' Ua', Sys2 w w.heap.size (fun x => x = gx) w' p 6 ct' B' ca za ma Ua' cb zb mb Ub → ∃ U1 U2, Sys2 w w.heap.size (fun x => x = gx) w' p 6 ct' B' c1 z1 m1 U1 c2 z2 m2 U2) := by
        rcases Nat.mod_two_eq_zero_or_one i with e | e
        · exact ⟨0, c1, z1, m1, c2, z2, m2, U1, U2, by rw [Int.tmod_eq_emod_of_nonneg (by omega)]; omega, by omega, by rw [cell_of_row wr gx 0 _ _ _ HS.out.2]; rfl, HS.out.1, HZ.out.1, fun w' B' ct' Ua' h => ⟨_, _, h⟩⟩
        · exact ⟨1, c2, z2, m2, c1, z1, m1, U2, U1, by rw [Int.tmod_eq_emod_of_nonneg (by omega)]; omega, by omega, by rw [cell_of_row wr gx 1 _ _ _ HS.out.2]; rfl, HS.out.1.swap, HZ.out.2, fun w' B' ct' Ua' h => ⟨_, _, h.swap⟩⟩
      have X6 := hid (And.intro hSa (And.intro hza (And.intro hback HS.out.2)))
      clear hSa hza hback HS
      go_wp2_with fail
      refine (X6.out.1.one.used X6.out.2.1 (by omega)).mono ?_
      rintro e w7 ⟨v7, rfl, hrow7, hb7⟩
      obtain ⟨u, hu⟩ : ∃ u, u = usedOf Ua za ma (2 ^ 6) := ⟨_, rfl⟩
      rw [← hu] at hrow7
      obtain ⟨a7, cap7, rfl, hI7⟩ := ints_of hrow7
      have hul : u.length ≤ 4000 := by
        rw [hu, ← Gt_all]
        refine Nat.le_trans (Gt_len _ _ _ _ _) ?_
        exact Nat.le_trans (Nat.mul_le_mul (pagesOf_len _ _ _) X6.out.2.1.few) (by omega)
      obtain ⟨kk, hkk⟩ : ∃ kk, kk = u.length := ⟨_, rfl⟩
      rw [← hkk] at hul ⊢
      have hx7 : w7.heap[gx]? = some (.cells #[.pointer (some ⟨c1, 0, none⟩), .pointer (some ⟨c2, 0, none⟩)] 49) := (hb7.block gx (lt_of X6.out.2.2.2)).trans X6.out.2.2.2
      obtain ⟨s, o, kd, nn, hal, hsl, ck, cn, wk, wn⟩ := HA.out.at (X6.out.1.below hb7).b0 (Nat.le_refl _) hil
      have X7 := hid (And.intro (X6.out.1.below hb7) (And.intro X6.out.2.1 (And.intro X6.out.2.2.1 (And.intro hx7 (And.intro hI7 (And.intro hkk (And.intro hu (And.intro wk wn))))))))
      clear hrow7 hb7 X6 hu hI7 hkk hx7 wk wn
      have hroom : ∀ wq B' Ua', Sys2 w w.heap.size (fun x => x = gx) wq p 6 (i + 1) B' ca za ma Ua' cb zb mb Ub → wq.heap[gx]? = some (.cells #[.pointer (some ⟨c1, 0, none⟩), .pointer (some ⟨c2, 0, none⟩)] 49) → ∃ (i' : Nat), ((i : Int) + 1 = (i' : Int)) ∧ i' = i + 1 ∧ ∃ B U1 U2, Hid (Sys2 w w.heap.size (fun x => x = gx) wq p 6 i' B c1 z1 m1 U1 c2 z2 m2 U2 ∧ wq.heap[gx]? = some (.cells #[.pointer (some ⟨c1, 0, none⟩), .pointer (some ⟨c2, 0, none⟩)] 49)) := fun wq B' Ua' h hx => by
        obtain ⟨U1, U2, h2⟩ := X7.out.2.2.1 _ _ _ _ h
        exact ⟨i + 1, by omega, rfl, B', U1, U2, h2, hx⟩
      have HR := hid hroom
      clear hroom
      subst hal
      by_cases hkd : kd = 0 ∨ kd = 3
      · rcases hkd with rfl | rfl
        all_goals
          go_wp2_with fail
          refine (X7.out.1.take X7.out.2.1 (by omega)).mono ?_
          rintro e w8 ⟨ra, rb, B8, U8, rfl, hS8, hg8⟩
          have X8 := hid (And.intro hS8 ((hg8 gx rfl).trans X7.out.2.2.2.1))
          clear hS8 hg8
          go_wp2_with fail
          go_roundw
          case rel =>
            obtain ⟨i', e1, e2, h⟩ := HR.out _ _ _ X8.out.1 X8.out.2
            exact ⟨i', by rw [e1], by omega, h⟩
          case measure => show ll - ((i : Int) + 1).toNat < ll - (i : Int).toNat; omega
      · have hk0 : (kd == 0) = false := by rw [beq_eq_false_iff_ne]; omega
        have hk3 : (kd == 3) = false := by rw [beq_eq_false_iff_ne]; omega
        clear hkd
        by_cases hnn : 0 ≤ nn ∧ 0 < kk
        · obtain ⟨hn0, hkk0⟩ := hnn
          obtain ⟨N, rfl⟩ := Int.eq_ofNat_of_zero_le hn0
          obtain ⟨ix, hix⟩ : ∃ ix, ix = N % kk := ⟨_, rfl⟩
          have hmod : ((N : Nat) : Int).tmod (kk : Int) = (ix : Int) := by rw [Int.tmod_eq_emod_of_nonneg (by omega), hix, Int.natCast_emod]
          have hixk : ix < kk := by rw [hix]; exact Nat.mod_lt _ hkk0
          have hkz : ((kk : Int) == 0) = false := by rw [beq_eq_false_iff_ne]; omega
          have hkp : decide ((0 : Int) < (kk : Int)) = true := by simp; omega
          have hkp2 : decide (0 < kk) = true := by simp; omega
          obtain ⟨x, hx⟩ : ∃ x, u[ix]? = some x := ⟨_, List.getElem?_eq_getElem (by rw [← X7.out.2.2.2.2.2.1]; exact hixk)⟩
          obtain ⟨g7, ha7, _, _, hcx⟩ := X7.out.2.2.2.2.1.cell hx
          have hxb : x < 65536 + 1024 := by
            have hxu := List.mem_of_getElem? hx
            rw [X7.out.2.2.2.2.2.2.1] at hxu
            obtain ⟨q0, i0, hq0, hi0, _, hx0⟩ := usedOf_mem.1 hxu
            have := (place_in (p := q0) X7.out.2.1.page hi0).2
            have e6 : 2 ^ 6 = 64 := rfl
            rw [hx0]; omega
          clear hx hix
          subst ha7
          go_wp2_with fail
          refine (X7.out.1.give X7.out.2.1 (x : Int) (by omega) (by omega)).mono ?_
          rintro e w8 ⟨ra, B8, U8, rfl, hS8, hg8⟩
          have X8 := hid (And.intro hS8 ((hg8 gx rfl).trans X7.out.2.2.2.1))
          clear hS8 hg8
          go_wp2_with fail
          go_roundw
          case rel =>
            obtain ⟨i', e1, e2, h⟩ := HR.out _ _ _ (X8.out.1.more (by omega)) X8.out.2
            exact ⟨i', by rw [e1], by omega, h⟩
          case measure => show ll - ((i : Int) + 1).toNat < ll - (i : Int).toNat; omega
        · have X8 := hid (And.intro (X7.out.1.more (ct' := i + 1) (by omega)) X7.out.2.2.2.1)
          by_cases hn0 : 0 ≤ nn
          · have hkz : kk = 0 := by omega
            subst hkz
            go_wp2_with fail
            go_roundw
            case rel =>
              obtain ⟨i', e1, e2, h⟩ := HR.out _ _ _ X8.out.1 X8.out.2
              exact ⟨i', by rw [e1], by omega, h⟩
            case measure => show ll - ((i : Int) + 1).toNat < ll - (i : Int).toNat; omega
          · have hn1 : decide (0 ≤ nn) = false := by simp; omega
            go_wp2_with fail
            go_roundw
            case rel =>
              obtain ⟨i', e1, e2, h⟩ := HR.out _ _ _ X8.out.1 X8.out.2
              exact ⟨i', by rw [e1], by omega, h⟩
            case measure => show ll - ((i : Int) + 1).toNat < ll - (i : Int).toNat; omega
end Go.Proofs.YtohaoeilodebmaaDoor
