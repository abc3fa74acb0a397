/- The document's allocator: Give. -/
import Derived.Test.YtdmnemgooagehaaGreatDoorR7
import Derived.Deep.CutRange
namespace Go.Proofs.YtdmnemgooagehaaGreatDoor
open Go.RowKit Go.Maps

def RGave (w : World) (r : Nat) (Z : Nat → Prop) (K : Nat) (B : St) (a : Int) (e : Ending) (w' : World) : Prop :=
  ∃ (er : Int) (B' : St) (vF vU : Value) (F U : List (Nat × Nat)), e = .returned (.int .i64 er) ∧ Turn (fun x => x = r) w w' ∧ Inv K B' ∧ NoHeld B' ∧ RefM w' r Z K B' vF vU F U ∧
    ((er = 6 ∧ B' = B ∧ ∀ k i, B k i = .used → a ≠ addr k i) ∨ er = 0 ∧ ∃ k i : Nat, B k i = .used ∧ a = addr k i ∧ Less B B' k i)

/-- No free buddy of a block that is held: the order is the whole's, or what begins there is none, or of another order. -/
theorem bud_top {K : Nat} {B : St} (h : Inv K B) {i : Nat} (hh : HeldAt B K i) : B K (bud i) ≠ .free := by
  intro hf
  have h1 := (h.inn K i (by rw [(hh _ _).2 ⟨rfl, rfl⟩]; simp)).2
  have h2 := (h.inn K (bud i) (by rw [hf]; simp)).2
  have := bud_ne i
  simp at h1 h2
  omega
theorem bud_none {B : St} {F : List (Nat × Nat)} (hF : Lst B .free F) {k i : Nat} {y : Int} (hy : y = addr k i) (hno : ∀ j p k' : Nat, F[j]? = some (p, k') → ((p * 1024 : Nat) : Int) ≠ y) : B k i ≠ .free := by
  intro hf
  obtain ⟨j, hj, e⟩ := List.getElem_of_mem ((hF.mem _ _).2 ⟨i, rfl, hf⟩)
  exact hno j (i * 2 ^ k) k (by rw [List.getElem?_eq_getElem hj, e]) hy.symm
theorem bud_other {K : Nat} {B : St} (h : Inv K B) {F : List (Nat × Nat)} (hF : Lst B .free F) {k i j p k' : Nat} {y : Int} (hy : y = addr k i) (hx : F[j]? = some (p, k')) (he : ((p * 1024 : Nat) : Int) = y) (hne : k' ≠ k) : B k i ≠ .free := by
  intro hf
  obtain ⟨i', hb, ha⟩ := hF.blk hx
  have := addr_inj h (by rw [hb]; simp) (by rw [hf]; simp) (ha.symm.trans (he.trans hy))
  exact hne this.1
theorem bud_same {B : St} {F : List (Nat × Nat)} (hF : Lst B .free F) {k i j p : Nat} {y : Int} (hy : y = addr k i) (hx : F[j]? = some (p, k)) (he : ((p * 1024 : Nat) : Int) = y) : B k i = .free ∧ p = i * 2 ^ k := by
  obtain ⟨i', rfl, hb⟩ := (hF.mem p k).1 (List.mem_of_getElem? hx)
  rw [hy] at he
  unfold addr at he
  have e : i' * 2 ^ k = i * 2 ^ k := by omega
  have := Nat.eq_of_mul_eq_mul_right (Nat.two_pow_pos k) e
  subst this
  exact ⟨hb, rfl⟩
theorem bud_case {ii kk zz : Nat} {s y : Int} (hz : zz = ii * 2 ^ kk * 1024) (hs : s = ((1024 * 2 ^ kk : Nat) : Int)) (hy : y = addr kk (bud ii)) : (ii % 2 = 1 ∧ (zz : Int) - s = y ∧ y < (zz : Int)) ∨ (ii % 2 = 0 ∧ (zz : Int) + s = y ∧ ¬ y < (zz : Int)) := by
  have hp := Nat.two_pow_pos kk
  subst hz hs hy
  unfold addr bud
  generalize 2 ^ kk = q at *
  rcases Nat.mod_two_eq_zero_or_one ii with h2 | h2
  · right
    rw [if_pos h2, Nat.add_mul, Nat.one_mul]
    omega
  · left
    rw [if_neg (by omega)]
    have : (ii - 1) * q + q = ii * q := by rw [← Nat.succ_mul]; congr 1; omega
    omega
theorem half_addr (i k : Nat) : i / 2 * 2 ^ (k + 1) = (i - i % 2) * 2 ^ k := by
  have : i - i % 2 = i / 2 * 2 := by omega
  rw [this, Nat.pow_succ, Nat.mul_assoc, Nat.mul_comm 2]

set_option maxHeartbeats 8000000 in
set_option maxRecDepth 100000 in
theorem rgive_any (w : World) (r : Nat) (Z : Nat → Prop) (K : Nat) (B : St) (vF vU : Value) (F U : List (Nat × Nat)) (a : Int) (h : RefM w r Z K B vF vU F U) (hi : Inv K B) (hn : NoHeld B) :
    Calls Tryz.prog 85 #[.pointer (some ⟨r, 0, none⟩), .int .i64 a] w (RGave w r Z K B a) := by
  have hcU := h.cU
  have hK := h.small
  have hlen := h.lU.len hi (by simp)
  have hpw := pow_le20 hK
  obtain ⟨aF, cF, rfl, _⟩ := h.sF.open
  obtain ⟨aU, cU, rfl, hr⟩ := h.sU.open
  have HR := hid hr
  have HH := hid (And.intro h (And.intro hi hn))
  clear h hi hn hr
  go_enter Tryz.func85, Tryz.ntmps85
  go_wp2_with fail
  refine (find_any w U aU 0 cU a HR.out (by omega)).mono ?_
  rintro e w1 ⟨x, rfl, rfl, ⟨rfl, hno⟩ | ⟨j, p, k, rfl, hx, he⟩⟩
  · have HN := hid hno
    clear hno
    go_wp2_with fail
    go_ret
    refine ⟨6, B, _, _, F, U, rfl, Turn.refl _ _, HH.out.2.1, HH.out.2.2, HH.out.1, .inl ⟨rfl, rfl, fun k i hb' ha => ?_⟩⟩
    obtain ⟨j, hj, e⟩ := List.getElem_of_mem ((HH.out.1.lU.mem _ _).2 ⟨i, rfl, hb'⟩)
    exact HN.out j (i * 2 ^ k) k (by rw [List.getElem?_eq_getElem hj, e]) ha.symm
  · obtain ⟨g, rfl, c0, c1⟩ := HR.out.at hx
    have hjl : j < U.length := (List.getElem?_eq_some_iff.1 hx).1
    have hj1 : (j : Int) < (U.length : Int) := by omega
    obtain ⟨i, rfl, hb'⟩ := (HH.out.1.lU.mem p k).1 (List.mem_of_getElem? hx)
    have hkK := (HH.out.1.lU.lt HH.out.2.1 (by simp) (List.mem_of_getElem? hx)).1
    obtain ⟨z, hz⟩ : ∃ z : Nat, z = i * 2 ^ k * 1024 := ⟨_, rfl⟩
    rw [← hz] at c0 he
    have HL := hid (And.intro hx (And.intro hb' (And.intro hz he)))
    have hlr := HH.out.1.lr
    clear hx hb' hz he
    obtain ⟨xb, hxb⟩ : ∃ xb, xb = w1.heap.size := ⟨_, rfl⟩
    have HXB := hid hxb
    go_wp2_with fail
    have hb1 : Below w1.heap.size w1 (w1.alloc (.cells #[.int .i64 (z : Int), .int .i64 (k : Int)] 132)) := (Below.refl _ _).alloc (Nat.le_refl _) _
    have HM1 := hid (HH.out.1.below hb1)
    refine (cut_sl _ U 0 j _ HM1.out.sU (by omega) hjl).mono ?_
    rintro e w2 ⟨a2, c2, rfl, hs2, hb2⟩
    obtain ⟨B1, hi1, hh1, hu1, hf1⟩ := pick_step HH.out.2.1 HH.out.2.2 HL.out.2.1
    have hM2 := hid (HM1.out.setU hb2 hs2 (fun k i => (hf1 k i).symm) (HM1.out.lU.erase HL.out.1 hu1))
    have hc2 : w2.cell? ⟨r, 2, none⟩ = some (.slice (some ⟨g, 0, none⟩) U.length cU) := (HM1.out.below hb2).cU
    have hf2 := frozen_of_row w2 r 2 _ _ (HM1.out.below hb2).head
    have hx2 : w2.heap[xb]? = some (.cells #[.int .i64 (z : Int), .int .i64 (k : Int)] 132) := by
      rw [hxb, hb2.block _ (by simp)]; exact heap_alloc_new w1 _
    have ht2 : Turn (fun x => x = r) w1 (w2.setCell ⟨r, 2, none⟩ (.slice a2 (U.eraseIdx j).length c2)) := ((Turn.of_below hb1).bel hb2).but (But.setCell (But.refl r w2) (.inl rfl) _) (.inl rfl)
    have hxr : xb ≠ r := by omega
    have HXU : Hid ((U.eraseIdx j).length = 0 ∨ (Value.slice a2 (U.eraseIdx j).length c2).ownBlock ≠ some xb) := hs2.far (by rw [hxb]; simp)
    have HXF : Hid (F.length = 0 ∨ (Value.slice aF F.length cF).ownBlock ≠ some xb) := HH.out.1.sF.old (by omega)
    have hx2' : (w2.setCell ⟨r, 2, none⟩ (.slice a2 (U.eraseIdx j).length c2)).heap[xb]? = some (.cells #[.int .i64 (z : Int), .int .i64 (k : Int)] 132) := by rw [Below.heap_setCell _ _ _ _ hxr]; exact hx2
    have HB1 := hid (And.intro hi1 (And.intro hh1 (And.intro hu1 hf1)))
    rw [← hxb]
    clear hs2 hb2 hi1 hh1 hu1 hf1 hx2 hb1 HM1 hxb
    go_wp2_with fail
    generalize w2.setCell ⟨r, 2, none⟩ (.slice a2 (U.eraseIdx j).length c2) = w3 at *
    clear hc2 hf2 c0 c1 hcU
    go_loopw [35] (fun _ wr => ∃ (kk ii : Nat), kk ≤ K ∧ Hid (wr.heap[xb]? = some (.cells #[.int .i64 ((ii * 2 ^ kk * 1024 : Nat) : Int), .int .i64 (kk : Int)] 132)) ∧ (∃ B' vF' F', Hid (Inv K B' ∧ HeldAt B' kk ii ∧ SameUsed B1 B' ∧ RefM wr r Z K B' vF' (.slice a2 (U.eraseIdx j).length c2) F' (U.eraseIdx j) ∧ (F'.length = 0 ∨ vF'.ownBlock ≠ some xb))) ∧ Turn (fun x => x = r) w1 wr) (fun _ wr => match wr.cell? ⟨xb, 1, none⟩ with | some v => K - (intOf v).toNat | none => 0)
    case atStart => exact ⟨k, i, hkK, by rw [← HL.out.2.2.1]; exact hx2', ⟨B1, _, _, HB1.out.1, HB1.out.2.1, SameUsed.refl _, hM2.out, HXF.out⟩, ht2⟩

    case round =>
      obtain ⟨kk, ii, hkk, hP, ⟨B', vF', F', hB'⟩, htr⟩ := hrel
      clear hx2' ht2 hM2
      obtain ⟨zz, hzz⟩ : ∃ zz : Nat, zz = ii * 2 ^ kk * 1024 := ⟨_, rfl⟩
      have hxw : wr.heap[xb]? = some (.cells #[.int .i64 (zz : Int), .int .i64 (kk : Int)] 132) := by rw [hzz]; exact hP.out
      have x0 : wr.cell? ⟨xb, 0, none⟩ = some (.int .i64 (zz : Int)) := by rw [cell_of_row _ _ _ _ _ _ hxw]; rfl
      have x1 : wr.cell? ⟨xb, 1, none⟩ = some (.int .i64 (kk : Int)) := by rw [cell_of_row _ _ _ _ _ _ hxw]; rfl
      obtain ⟨aF', cF', evF, hrF⟩ := hB'.out.2.2.2.1.sF.open
      subst evF
      have yK := hB'.out.2.2.2.1.cK
      have hheld : B' kk ii = .held := (hB'.out.2.1 _ _).2 ⟨rfl, rfl⟩
      have hblk := block_lt hB'.out.1 (k := kk) (i := ii) (by rw [hheld]; simp)
      have hlenF := hB'.out.2.2.2.1.lF.len hB'.out.1 (by simp)
      have hiib : ii < 1048576 := Nat.lt_of_lt_of_le (hB'.out.1.inn kk ii (by rw [hheld]; simp)).2 (pow_le20 (by omega))
      have hppos := Nat.two_pow_pos kk
      have hzzb : zz ≤ 1073741824 := by omega
      have wrX := hid hxw
      have HMS := hid x1
      have HZZ := hid hzz
      have wrM := hid hB'.out.2.2.2.1
      have HRF := hid hrF
      clear hheld hxw hP hzz hrF
      by_cases hlt : kk < K
      · have hlt2 : (kk : Int) < (K : Int) := by omega
        obtain ⟨s, hs⟩ : ∃ s : Int, s = ((1024 * 2 ^ kk : Nat) : Int) := ⟨_, rfl⟩
        obtain ⟨y, hy⟩ : ∃ y : Int, y = addr kk (bud ii) := ⟨_, rfl⟩
        have hs1 : (0 : Int) < s := by omega
        have hs2 : s ≤ 1073741824 := by have := pow_le20 (show kk ≤ 20 by omega); omega
        have hs0 : (s == 0) = false := by simp; omega
        have hdv : (zz : Int) / s = (ii : Int) := by rw [HZZ.out, hs]; exact addr_div kk ii
        have hdv' : (zz : Int).tdiv s = (ii : Int) := by rw [Int.tdiv_eq_ediv_of_nonneg (by omega)]; exact hdv
        have hcase : (ii % 2 = 1 ∧ (zz : Int) - s = y ∧ y < (zz : Int)) ∨ (ii % 2 = 0 ∧ (zz : Int) + s = y ∧ ¬ y < (zz : Int)) := bud_case HZZ.out hs hy
        have hy0 : (0 : Int) ≤ y := by rw [hy]; unfold addr; omega
        have hy1 : y ≤ 4294967296 := by omega
        have HS := hid (And.intro hs hy)
        clear hs hy
        go_wp2_with fail
        go_quiet (fail)
        go_wp2_with fail
        have hXz : Below wr.heap.size wr (wr.drewN nq) := Below.drewN (Below.refl _ _) nq
        have wzM := hid (wrM.out.below hXz)
        have wzT := htr.bel hXz
        have wzX : (wr.drewN nq).heap[xb]? = some (.cells #[.int .i64 (zz : Int), .int .i64 (kk : Int)] 132) := (hXz.block xb ((Array.getElem?_eq_some_iff.1 wrX.out).1)).trans wrX.out
        have wzR := hid (HRF.out.below hXz)
        clear hXz
        generalize wr.drewN nq = wz at *
        have wz0 : wz.cell? ⟨xb, 0, none⟩ = some (.int .i64 (zz : Int)) := by rw [cell_of_row _ _ _ _ _ _ wzX]; rfl
        have wz1 : wz.cell? ⟨xb, 1, none⟩ = some (.int .i64 (kk : Int)) := by rw [cell_of_row _ _ _ _ _ _ wzX]; rfl
        have wzF := wzM.out.cF
        have wzX := hid wzX
        refine (rsize_any kk _ (by omega)).mono ?_
        rintro e w4 ⟨rfl, rfl⟩
        rw [← HS.out.1]
        have hc8 : Hid (ii % 2 = 1 → (zz : Int) - s = y) := fun h => by rcases hcase with h2 | h2 <;> omega
        have hc9 : Hid (ii % 2 = 0 → (zz : Int) + s = y) := fun h => by rcases hcase with h2 | h2 <;> omega
        have HCASE := hid hcase
        clear hcase
        go_upto_if 53 with fail
        go_cut [8] from 34 to 97 (fun t8 wc => t8 = .int .i64 y ∧ wc = w4)
        case first =>
          by_cases hpar : ii % 2 = 1
          · have hp1 : ((ii : Int).tmod 2 == 1) = true := by rw [Int.tmod_eq_emod_of_nonneg (by omega)]; simp; omega
            have hp2 : ((ii : Int) % 2 == 1) = true := by simp; omega
            have hp3 : (ii : Int) % 2 = 1 := by omega
            have hyz := hc8.out hpar
            go_wp2_with fail
            go_meet
            case rel => exact ⟨rfl, rfl⟩
          · have hp1 : ((ii : Int).tmod 2 == 1) = false := by rw [Int.tmod_eq_emod_of_nonneg (by omega)]; simp; omega
            have hp2 : ((ii : Int) % 2 == 1) = false := by simp; omega
            have hp3 : (ii : Int) % 2 = 0 := by omega
            have hyz := hc9.out (by omega)
            go_wp2_with fail
            go_meet
            case rel => exact ⟨by rw [hyz], rfl⟩
        case rest =>
          obtain ⟨rfl, rfl⟩ := hcut
          clear hdv hdv'
          go_wp2_with fail
          refine (find_any _ F' aF' 0 cF' y wzR.out (by omega)).mono ?_
          rintro e w6 ⟨x, rfl, rfl, ⟨rfl, hno⟩ | ⟨j2, p2, k2, rfl, hx2, he2⟩⟩
          · have hfree : Hid (B' kk (bud ii) ≠ .free) := bud_none wzM.out.lF HS.out.2 hno
            clear hno
            go_wp2_with fail
            go_quiet (fail)
            go_wp2_with fail
            have hXy : Below w6.heap.size w6 (w6.drewN nq) := Below.drewN (Below.refl _ _) nq
            have wyM := hid (wzM.out.below hXy)
            have wyT := wzT.bel hXy
            have wyX : (w6.drewN nq).heap[xb]? = some (.cells #[.int .i64 (zz : Int), .int .i64 (kk : Int)] 132) := (hXy.block xb ((Array.getElem?_eq_some_iff.1 wzX.out).1)).trans wzX.out
            clear hXy
            generalize w6.drewN nq = wy at *
            have wy0 : wy.cell? ⟨xb, 0, none⟩ = some (.int .i64 (zz : Int)) := by rw [cell_of_row _ _ _ _ _ _ wyX]; rfl
            have wy1 : wy.cell? ⟨xb, 1, none⟩ = some (.int .i64 (kk : Int)) := by rw [cell_of_row _ _ _ _ _ _ wyX]; rfl
            have wyF := wyM.out.cF
            have wyX := hid wyX
            obtain ⟨B2, hi2, hn2, hu2, hf2⟩ := free_step hB'.out.1 hB'.out.2.1 hfree.out
            have hnf : B' kk ii ≠ .free := by rw [(hB'.out.2.1 _ _).2 ⟨rfl, rfl⟩]; simp
            have HB2 := hid (And.intro hi2 (And.intro hn2 (And.intro hu2 (And.intro hf2 hnf))))
            obtain ⟨pp, hpp⟩ : ∃ pp, pp = ii * 2 ^ kk := ⟨_, rfl⟩
            have hzp : (zz : Int) = ((pp * 1024 : Nat) : Int) := by rw [HZZ.out, hpp]
            have hppb : pp ≤ 1048576 := by omega
            have HPP := hid (And.intro hpp hzp)
            have hlx : xb < wy.heap.size := (Array.getElem?_eq_some_iff.1 wyX.out).1
            have HG : Hid (∀ wx, Below wy.heap.size wy wx → wx.cell? ⟨xb, 0, none⟩ = some (.int .i64 (zz : Int)) ∧ wx.cell? ⟨xb, 1, none⟩ = some (.int .i64 (kk : Int)) ∧ wx.frozen? ⟨r, 1, none⟩ = false ∧ wx.cell? ⟨r, 1, none⟩ = some (.slice aF' F'.length cF')) := fun wx hx => ⟨by rw [cell_of_row _ _ _ _ _ _ ((hx.block xb hlx).trans wyX.out)]; rfl, by rw [cell_of_row _ _ _ _ _ _ ((hx.block xb hlx).trans wyX.out)]; rfl, frozen_of_row _ r 1 _ _ (wyM.out.below hx).head, (wyM.out.below hx).cF⟩
            have HKP : Hid (∀ (wx : World) (v : Value), wx.cell? ⟨xb, 0, none⟩ = some (.int .i64 (zz : Int)) → wx.cell? ⟨xb, 1, none⟩ = some (.int .i64 (kk : Int)) → (wx.setCell ⟨r, 1, none⟩ v).cell? ⟨xb, 0, none⟩ = some (.int .i64 (zz : Int)) ∧ (wx.setCell ⟨r, 1, none⟩ v).cell? ⟨xb, 1, none⟩ = some (.int .i64 (kk : Int))) := fun wx v e0 e1 => ⟨(World.cell?_of_block (Below.heap_setCell _ _ _ _ hxr)).trans e0, (World.cell?_of_block (Below.heap_setCell _ _ _ _ hxr)).trans e1⟩
            have HB5 : Hid (∀ wx, Below wy.drew.heap.size wy.drew wx → Below wy.heap.size wy wx) := fun wx hx => ⟨hx.os, hx.tape, hx.output, hx.size, hx.block⟩
            have HSF : Hid (Slc wy.drew 0 (.slice aF' F'.length cF') F') := (wyM.out.below ((Below.refl _ _).drew)).sF
            clear hi2 hn2 hu2 hf2 hnf hpp hzp hlx
            refine wp_region_held_drew (S := fun wx => wx.cell? ⟨xb, 0, none⟩ = some (.int .i64 (zz : Int)) ∧ wx.cell? ⟨xb, 1, none⟩ = some (.int .i64 (kk : Int))) (by kernel_rfl) ⟨wy0, wy1⟩ (fun hHeld => ?_)
            refine takeH (i := 0) (some 98) (.pointer (some ⟨r, 0, none⟩)) rfl rfl (by kernel_rfl) (by kernel_rfl) (by kernel_rfl) (fun _ _ _ h => h) (Or.inl ⟨by rfl, ?_⟩) (by assumption) ?_
            · (intro w hSw; (try dsimp only at hSw); go_simp)
            simp only [Act.put, List.setIfInBounds_toArray, List.set_cons_zero, List.set_cons_succ]
            refine takeH (i := 1) (some 99) (.pointer (some ⟨r, 0, none⟩)) rfl rfl (by kernel_rfl) (by kernel_rfl) (by kernel_rfl) (fun _ _ _ h => h) (Or.inl ⟨by rfl, ?_⟩) (by assumption) ?_
            · (intro w hSw; (try dsimp only at hSw); go_simp)
            simp only [Act.put, List.setIfInBounds_toArray, List.set_cons_zero, List.set_cons_succ]
            refine takeH (i := 2) (some 100) (.pointer (some ⟨r, 0, none⟩)) rfl rfl (by kernel_rfl) (by kernel_rfl) (by kernel_rfl) (fun _ _ _ h => h) (Or.inl ⟨by rfl, ?_⟩) (by assumption) ?_
            · (intro w hSw; (try dsimp only at hSw); go_simp)
            simp only [Act.put, List.setIfInBounds_toArray, List.set_cons_zero, List.set_cons_succ]
            refine takeH (i := 3) (some 101) (.pointer (some ⟨r, 1, none⟩)) rfl rfl (by kernel_rfl) (by kernel_rfl) (by kernel_rfl) (fun _ _ _ h => h) (Or.inl ⟨by rfl, ?_⟩) (by assumption) ?_
            · (intro w hSw; (try dsimp only at hSw); go_simp)
            simp only [Act.put, List.setIfInBounds_toArray, List.set_cons_zero, List.set_cons_succ]
            refine takeH (i := 5) (some 103) (.agg #[.int .i64 (zz : Int), .int .i64 (kk : Int)]) rfl rfl (by kernel_rfl) (by kernel_rfl) (by kernel_rfl) (fun _ _ _ h => h) (Or.inl ⟨by rfl, ?_⟩) (by assumption) ?_
            · (intro w hSw; (try dsimp only at hSw); go_simp)
            simp only [Act.put, List.setIfInBounds_toArray, List.set_cons_zero, List.set_cons_succ]
            refine wpAnyH_ready (rs := [4]) (by kernel_rfl) (by simp) ?_
            refine AllReadyH.cons (by simp only [List.getElem?_toArray, List.getElem?_cons_succ, List.getElem?_cons_zero]; rfl) (fun KK hK => ?_) AllReadyH.nil
            go_simp
            refine hK.out _ _ ⟨wy0, wy1⟩ (fun hHeld => ?_)
            clear hK KK
            refine wpAnyH_ready (rs := [6]) (by kernel_rfl) (by simp) ?_
            refine AllReadyH.cons (by simp only [List.getElem?_toArray, List.getElem?_cons_succ, List.getElem?_cons_zero]; rfl) (fun KK hK => ?_) AllReadyH.nil
            go_simp
            refine (put_slz _ F' 0 pp kk _ _ HPP.out.2 HSF.out (by omega) hppb (by omega)).mono ?_
            rintro e w5 ⟨a5, c5, t5, rfl, hst5, hs5, hb5⟩
            obtain ⟨g1, g2, g3, g4⟩ := HG.out w5 (HB5.out w5 hb5)
            have H5 := hid (And.intro hst5 (And.intro hs5 hb5))
            clear hst5 hs5 hb5
            go_wp2_with fail
            refine hK.out _ _ ⟨g1, g2⟩ (fun hHeld => ?_)
            clear hK KK
            refine takeH (i := 7) (some 105) (.pointer (some ⟨r, 0, none⟩)) rfl rfl (by kernel_rfl) (by kernel_rfl) (by kernel_rfl) (fun _ _ _ h => h) (Or.inl ⟨by rfl, ?_⟩) (by assumption) ?_
            · (intro w hSw; (try dsimp only at hSw); go_simp)
            simp only [Act.put, List.setIfInBounds_toArray, List.set_cons_zero, List.set_cons_succ]
            refine takeH (i := 8) (some 106) (.pointer (some ⟨r, 1, none⟩)) rfl rfl (by kernel_rfl) (by kernel_rfl) (by kernel_rfl) (fun _ _ _ h => h) (Or.inl ⟨by rfl, ?_⟩) (by assumption) ?_
            · (intro w hSw; (try dsimp only at hSw); go_simp)
            simp only [Act.put, List.setIfInBounds_toArray, List.set_cons_zero, List.set_cons_succ]
            refine wpAnyH_ready (rs := [9]) (by kernel_rfl) (by simp) ?_
            refine AllReadyH.cons (by simp only [List.getElem?_toArray, List.getElem?_cons_succ, List.getElem?_cons_zero]; rfl) (fun KK hK => ?_) AllReadyH.nil
            go_simp
            refine hK.out _ _ (HKP.out _ _ g1 g2) (fun hHeld => ?_)
            clear hK KK
            refine wpAnyH_done (by kernel_rfl) ?_ _
            go_wp2_with fail
            go_ret
            obtain ⟨hst5, hs5, hb5⟩ := H5.out
            have hb6 := HB5.out w5 hb5
            rw [HPP.out.1] at hst5 hs5
            have hput := wyM.out.putF hb6 hs5 hst5 HB2.out.1 HB2.out.2.2.2.1 HB2.out.2.2.2.2 HB2.out.2.2.1
            refine ⟨0, B2, _, _, _, _, rfl, (wyT.bel hb6).but (But.setCell (But.refl r w5) (.inl rfl) _) (.inl rfl), HB2.out.1, HB2.out.2.1, hput, .inr ⟨rfl, k, i, HL.out.2.1, ?_, fun k' i' => ?_⟩⟩
            · rw [← HL.out.2.2.2, HL.out.2.2.1]; rfl
            · rw [← HB2.out.2.2.1 k' i', ← hB'.out.2.2.1 k' i', HB1.out.2.2.1 k' i']
          · obtain ⟨g', rfl, d0, d1⟩ := wzR.out.at hx2
            have hj2 : (j2 : Int) < (F'.length : Int) := by have := (List.getElem?_eq_some_iff.1 hx2).1; omega
            have hj2' : j2 < F'.length := by omega
            by_cases hk2 : k2 = kk
            · subst hk2
              obtain ⟨hfr, hp2e⟩ := bud_same wzM.out.lF HS.out.2 hx2 he2
              obtain ⟨B2, hi2, hh2, hu2, hf2⟩ := join_step hB'.out.1 hB'.out.2.1 hfr
              have hk1 : k2 + 1 ≤ K := by omega
              rw [hp2e] at hx2
              have HX2 := hid hx2
              have HB2 := hid (And.intro hi2 (And.intro hh2 (And.intro hu2 hf2)))
              clear hx2 he2 hfr hp2e hi2 hh2 hu2 hf2
              go_wp2_with fail
              go_quiet (fail)
              go_wp2_with fail
              have hXy : Below w6.heap.size w6 (w6.drewN nq) := Below.drewN (Below.refl _ _) nq
              have wyM := hid (wzM.out.below hXy)
              have wyT := wzT.bel hXy
              have wyX : (w6.drewN nq).heap[xb]? = some (.cells #[.int .i64 (zz : Int), .int .i64 (k2 : Int)] 132) := (hXy.block xb ((Array.getElem?_eq_some_iff.1 wzX.out).1)).trans wzX.out
              clear hXy
              generalize w6.drewN nq = wy at *
              refine (cut_sl _ F' 0 j2 _ wyM.out.sF (by omega) hj2').mono ?_
              rintro e w7 ⟨a7, c7, rfl, hs7, hb7⟩
              have hlx : xb < wy.heap.size := (Array.getElem?_eq_some_iff.1 wyX).1
              have v0 : w7.cell? ⟨r, 1, none⟩ = some (.slice (some ⟨g', 0, none⟩) F'.length cF') := (wyM.out.below hb7).cF
              have v1 := frozen_of_row w7 r 1 _ _ (wyM.out.below hb7).head
              have h8 : (w7.setCell ⟨r, 1, none⟩ (.slice a7 (F'.eraseIdx j2).length c7)).heap[xb]? = some (.cells #[.int .i64 (zz : Int), .int .i64 (k2 : Int)] 132) := by rw [Below.heap_setCell _ _ _ _ hxr]; exact (hb7.block xb hlx).trans wyX
              have M8 := hid (wyM.out.setF hb7 hs7 (wyM.out.lF.erase HX2.out HB2.out.2.2.2) HB2.out.2.2.1)
              have T8 : Turn (fun x => x = r) w1 (w7.setCell ⟨r, 1, none⟩ (.slice a7 (F'.eraseIdx j2).length c7)) := (wyT.bel hb7).but (But.setCell (But.refl r w7) (.inl rfl) _) (.inl rfl)
              have far8 := hid (hs7.far hlx)
              clear hs7 hb7 wyX
              go_upto_region 14 with fail
              generalize w7.setCell ⟨r, 1, none⟩ (.slice a7 (F'.eraseIdx j2).length c7) = w8 at *
              clear v0 v1
              have q0 : w8.cell? ⟨xb, 0, none⟩ = some (.int .i64 (zz : Int)) := by rw [cell_of_row _ _ _ _ _ _ h8]; rfl
              have q1 : w8.cell? ⟨xb, 1, none⟩ = some (.int .i64 (k2 : Int)) := by rw [cell_of_row _ _ _ _ _ _ h8]; rfl
              have f0 := frozen_of_row w8 xb 0 _ _ h8
              have f1 := frozen_of_row w8 xb 1 _ _ h8
              have H8 := hid h8
              clear h8
              rcases HCASE.out with ⟨hpar, _, hylt⟩ | ⟨hpar, _, hylt⟩
              · go_upto_region 16 with fail
                have h9 : (w8.setCell ⟨xb, 0, none⟩ (.int .i64 y)).heap[xb]? = some (.cells #[.int .i64 y, .int .i64 (k2 : Int)] 132) := by rw [setCell_head H8.out]; rfl
                have b9 : But xb w8 (w8.setCell ⟨xb, 0, none⟩ (.int .i64 y)) := But.setCell (But.refl xb w8) (.inl rfl) _
                have M9 := hid (M8.out.but b9 hxr.symm far8.out HXU.out)
                have T9 := T8.but b9 (.inr (by have := HXB.out; omega))
                clear b9 M8 T8 q0 q1 f0 f1
                generalize w8.setCell ⟨xb, 0, none⟩ (.int .i64 y) = w9 at *
                have q1 : w9.cell? ⟨xb, 1, none⟩ = some (.int .i64 (k2 : Int)) := by rw [cell_of_row _ _ _ _ _ _ h9]; rfl
                have f1 := frozen_of_row w9 xb 1 _ _ h9
                have H9 := hid h9
                clear h9
                go_wp2_with fail
                go_roundw
                case rel =>
                  have b10 : But xb w9 (w9.setCell ⟨xb, 1, none⟩ (.int .i64 ((k2 : Int) + 1))) := But.setCell (But.refl xb w9) (.inl rfl) _
                  have e10 : y = ((ii / 2 * 2 ^ (k2 + 1) * 1024 : Nat) : Int) := by
                    rw [half_addr]
                    have h1 := HS.out.2
                    unfold addr bud at h1
                    rw [if_neg (by omega)] at h1
                    rw [h1, hpar]
                  have h10 : (w9.setCell ⟨xb, 1, none⟩ (.int .i64 ((k2 : Int) + 1))).heap[xb]? = some (.cells #[.int .i64 ((ii / 2 * 2 ^ (k2 + 1) * 1024 : Nat) : Int), .int .i64 ((k2 + 1 : Nat) : Int)] 132) := by
                    rw [setCell_head H9.out, ← e10]
                    rfl
                  exact ⟨k2 + 1, ii / 2, hk1, h10, ⟨B2, _, _, HB2.out.1, HB2.out.2.1, hB'.out.2.2.1.trans HB2.out.2.2.1, M9.out.but b10 hxr.symm far8.out HXU.out, far8.out⟩, T9.but b10 (.inr (by have := HXB.out; omega))⟩
                case measure =>
                  have e1 : (w9.setCell ⟨xb, 1, none⟩ (.int .i64 ((k2 : Int) + 1))).cell? ⟨xb, 1, none⟩ = some (.int .i64 ((k2 : Int) + 1)) := by rw [cell_of_row _ _ _ _ _ _ (setCell_head H9.out _)]; rfl
                  have e2 := HMS.out
                  simp only [e1, e2, intOf]
                  omega
              · go_wp2_with fail
                go_roundw
                case rel =>
                  have b10 : But xb w8 (w8.setCell ⟨xb, 1, none⟩ (.int .i64 ((k2 : Int) + 1))) := But.setCell (But.refl xb w8) (.inl rfl) _
                  have e10 : (zz : Int) = ((ii / 2 * 2 ^ (k2 + 1) * 1024 : Nat) : Int) := by
                    rw [half_addr]
                    rw [HZZ.out, hpar, Nat.sub_zero]
                  have h10 : (w8.setCell ⟨xb, 1, none⟩ (.int .i64 ((k2 : Int) + 1))).heap[xb]? = some (.cells #[.int .i64 ((ii / 2 * 2 ^ (k2 + 1) * 1024 : Nat) : Int), .int .i64 ((k2 + 1 : Nat) : Int)] 132) := by
                    rw [setCell_head H8.out, ← e10]
                    rfl
                  exact ⟨k2 + 1, ii / 2, hk1, h10, ⟨B2, _, _, HB2.out.1, HB2.out.2.1, hB'.out.2.2.1.trans HB2.out.2.2.1, M8.out.but b10 hxr.symm far8.out HXU.out, far8.out⟩, T8.but b10 (.inr (by have := HXB.out; omega))⟩
                case measure =>
                  have e1 : (w8.setCell ⟨xb, 1, none⟩ (.int .i64 ((k2 : Int) + 1))).cell? ⟨xb, 1, none⟩ = some (.int .i64 ((k2 : Int) + 1)) := by rw [cell_of_row _ _ _ _ _ _ (setCell_head H8.out _)]; rfl
                  have e2 := HMS.out
                  simp only [e1, e2, intOf]
                  omega
            · have hfree : Hid (B' kk (bud ii) ≠ .free) := bud_other hB'.out.1 wzM.out.lF HS.out.2 hx2 he2 hk2
              have hne : ((k2 : Int) != (kk : Int)) = true := by rw [bne_iff_ne]; omega
              have hne2 : ¬ ((k2 : Int) = (kk : Int)) := by omega
              clear hx2 he2
              go_wp2_with fail
              go_quiet (fail)
              go_wp2_with fail
              have hXy : Below w6.heap.size w6 (w6.drewN nq) := Below.drewN (Below.refl _ _) nq
              have wyM := hid (wzM.out.below hXy)
              have wyT := wzT.bel hXy
              have wyX : (w6.drewN nq).heap[xb]? = some (.cells #[.int .i64 (zz : Int), .int .i64 (kk : Int)] 132) := (hXy.block xb ((Array.getElem?_eq_some_iff.1 wzX.out).1)).trans wzX.out
              clear hXy
              generalize w6.drewN nq = wy at *
              have wy0 : wy.cell? ⟨xb, 0, none⟩ = some (.int .i64 (zz : Int)) := by rw [cell_of_row _ _ _ _ _ _ wyX]; rfl
              have wy1 : wy.cell? ⟨xb, 1, none⟩ = some (.int .i64 (kk : Int)) := by rw [cell_of_row _ _ _ _ _ _ wyX]; rfl
              have wyF := wyM.out.cF
              have wyX := hid wyX
              obtain ⟨B2, hi2, hn2, hu2, hf2⟩ := free_step hB'.out.1 hB'.out.2.1 hfree.out
              have hnf : B' kk ii ≠ .free := by rw [(hB'.out.2.1 _ _).2 ⟨rfl, rfl⟩]; simp
              have HB2 := hid (And.intro hi2 (And.intro hn2 (And.intro hu2 (And.intro hf2 hnf))))
              obtain ⟨pp, hpp⟩ : ∃ pp, pp = ii * 2 ^ kk := ⟨_, rfl⟩
              have hzp : (zz : Int) = ((pp * 1024 : Nat) : Int) := by rw [HZZ.out, hpp]
              have hppb : pp ≤ 1048576 := by omega
              have HPP := hid (And.intro hpp hzp)
              have hlx : xb < wy.heap.size := (Array.getElem?_eq_some_iff.1 wyX.out).1
              have HG : Hid (∀ wx, Below wy.heap.size wy wx → wx.cell? ⟨xb, 0, none⟩ = some (.int .i64 (zz : Int)) ∧ wx.cell? ⟨xb, 1, none⟩ = some (.int .i64 (kk : Int)) ∧ wx.frozen? ⟨r, 1, none⟩ = false ∧ wx.cell? ⟨r, 1, none⟩ = some (.slice (some ⟨g', 0, none⟩) F'.length cF')) := fun wx hx => ⟨by rw [cell_of_row _ _ _ _ _ _ ((hx.block xb hlx).trans wyX.out)]; rfl, by rw [cell_of_row _ _ _ _ _ _ ((hx.block xb hlx).trans wyX.out)]; rfl, frozen_of_row _ r 1 _ _ (wyM.out.below hx).head, (wyM.out.below hx).cF⟩
              have HKP : Hid (∀ (wx : World) (v : Value), wx.cell? ⟨xb, 0, none⟩ = some (.int .i64 (zz : Int)) → wx.cell? ⟨xb, 1, none⟩ = some (.int .i64 (kk : Int)) → (wx.setCell ⟨r, 1, none⟩ v).cell? ⟨xb, 0, none⟩ = some (.int .i64 (zz : Int)) ∧ (wx.setCell ⟨r, 1, none⟩ v).cell? ⟨xb, 1, none⟩ = some (.int .i64 (kk : Int))) := fun wx v e0 e1 => ⟨(World.cell?_of_block (Below.heap_setCell _ _ _ _ hxr)).trans e0, (World.cell?_of_block (Below.heap_setCell _ _ _ _ hxr)).trans e1⟩
              have HB5 : Hid (∀ wx, Below wy.drew.heap.size wy.drew wx → Below wy.heap.size wy wx) := fun wx hx => ⟨hx.os, hx.tape, hx.output, hx.size, hx.block⟩
              have HSF : Hid (Slc wy.drew 0 (.slice (some ⟨g', 0, none⟩) F'.length cF') F') := (wyM.out.below ((Below.refl _ _).drew)).sF
              clear hi2 hn2 hu2 hf2 hnf hpp hzp hlx
              refine wp_region_held_drew (S := fun wx => wx.cell? ⟨xb, 0, none⟩ = some (.int .i64 (zz : Int)) ∧ wx.cell? ⟨xb, 1, none⟩ = some (.int .i64 (kk : Int))) (by kernel_rfl) ⟨wy0, wy1⟩ (fun hHeld => ?_)
              refine takeH (i := 0) (some 98) (.pointer (some ⟨r, 0, none⟩)) rfl rfl (by kernel_rfl) (by kernel_rfl) (by kernel_rfl) (fun _ _ _ h => h) (Or.inl ⟨by rfl, ?_⟩) (by assumption) ?_
              · (intro w hSw; (try dsimp only at hSw); go_simp)
              simp only [Act.put, List.setIfInBounds_toArray, List.set_cons_zero, List.set_cons_succ]
              refine takeH (i := 1) (some 99) (.pointer (some ⟨r, 0, none⟩)) rfl rfl (by kernel_rfl) (by kernel_rfl) (by kernel_rfl) (fun _ _ _ h => h) (Or.inl ⟨by rfl, ?_⟩) (by assumption) ?_
              · (intro w hSw; (try dsimp only at hSw); go_simp)
              simp only [Act.put, List.setIfInBounds_toArray, List.set_cons_zero, List.set_cons_succ]
              refine takeH (i := 2) (some 100) (.pointer (some ⟨r, 0, none⟩)) rfl rfl (by kernel_rfl) (by kernel_rfl) (by kernel_rfl) (fun _ _ _ h => h) (Or.inl ⟨by rfl, ?_⟩) (by assumption) ?_
              · (intro w hSw; (try dsimp only at hSw); go_simp)
              simp only [Act.put, List.setIfInBounds_toArray, List.set_cons_zero, List.set_cons_succ]
              refine takeH (i := 3) (some 101) (.pointer (some ⟨r, 1, none⟩)) rfl rfl (by kernel_rfl) (by kernel_rfl) (by kernel_rfl) (fun _ _ _ h => h) (Or.inl ⟨by rfl, ?_⟩) (by assumption) ?_
              · (intro w hSw; (try dsimp only at hSw); go_simp)
              simp only [Act.put, List.setIfInBounds_toArray, List.set_cons_zero, List.set_cons_succ]
              refine takeH (i := 5) (some 103) (.agg #[.int .i64 (zz : Int), .int .i64 (kk : Int)]) rfl rfl (by kernel_rfl) (by kernel_rfl) (by kernel_rfl) (fun _ _ _ h => h) (Or.inl ⟨by rfl, ?_⟩) (by assumption) ?_
              · (intro w hSw; (try dsimp only at hSw); go_simp)
              simp only [Act.put, List.setIfInBounds_toArray, List.set_cons_zero, List.set_cons_succ]
              refine wpAnyH_ready (rs := [4]) (by kernel_rfl) (by simp) ?_
              refine AllReadyH.cons (by simp only [List.getElem?_toArray, List.getElem?_cons_succ, List.getElem?_cons_zero]; rfl) (fun KK hK => ?_) AllReadyH.nil
              go_simp
              refine hK.out _ _ ⟨wy0, wy1⟩ (fun hHeld => ?_)
              clear hK KK
              refine wpAnyH_ready (rs := [6]) (by kernel_rfl) (by simp) ?_
              refine AllReadyH.cons (by simp only [List.getElem?_toArray, List.getElem?_cons_succ, List.getElem?_cons_zero]; rfl) (fun KK hK => ?_) AllReadyH.nil
              go_simp
              refine (put_slz _ F' 0 pp kk _ _ HPP.out.2 HSF.out (by omega) hppb (by omega)).mono ?_
              rintro e w5 ⟨a5, c5, t5, rfl, hst5, hs5, hb5⟩
              obtain ⟨g1, g2, g3, g4⟩ := HG.out w5 (HB5.out w5 hb5)
              have H5 := hid (And.intro hst5 (And.intro hs5 hb5))
              clear hst5 hs5 hb5
              go_wp2_with fail
              refine hK.out _ _ ⟨g1, g2⟩ (fun hHeld => ?_)
              clear hK KK
              refine takeH (i := 7) (some 105) (.pointer (some ⟨r, 0, none⟩)) rfl rfl (by kernel_rfl) (by kernel_rfl) (by kernel_rfl) (fun _ _ _ h => h) (Or.inl ⟨by rfl, ?_⟩) (by assumption) ?_
              · (intro w hSw; (try dsimp only at hSw); go_simp)
              simp only [Act.put, List.setIfInBounds_toArray, List.set_cons_zero, List.set_cons_succ]
              refine takeH (i := 8) (some 106) (.pointer (some ⟨r, 1, none⟩)) rfl rfl (by kernel_rfl) (by kernel_rfl) (by kernel_rfl) (fun _ _ _ h => h) (Or.inl ⟨by rfl, ?_⟩) (by assumption) ?_
              · (intro w hSw; (try dsimp only at hSw); go_simp)
              simp only [Act.put, List.setIfInBounds_toArray, List.set_cons_zero, List.set_cons_succ]
              refine wpAnyH_ready (rs := [9]) (by kernel_rfl) (by simp) ?_
              refine AllReadyH.cons (by simp only [List.getElem?_toArray, List.getElem?_cons_succ, List.getElem?_cons_zero]; rfl) (fun KK hK => ?_) AllReadyH.nil
              go_simp
              refine hK.out _ _ (HKP.out _ _ g1 g2) (fun hHeld => ?_)
              clear hK KK
              refine wpAnyH_done (by kernel_rfl) ?_ _
              go_wp2_with fail
              go_ret
              obtain ⟨hst5, hs5, hb5⟩ := H5.out
              have hb6 := HB5.out w5 hb5
              rw [HPP.out.1] at hst5 hs5
              have hput := wyM.out.putF hb6 hs5 hst5 HB2.out.1 HB2.out.2.2.2.1 HB2.out.2.2.2.2 HB2.out.2.2.1
              refine ⟨0, B2, _, _, _, _, rfl, (wyT.bel hb6).but (But.setCell (But.refl r w5) (.inl rfl) _) (.inl rfl), HB2.out.1, HB2.out.2.1, hput, .inr ⟨rfl, k, i, HL.out.2.1, ?_, fun k' i' => ?_⟩⟩
              · rw [← HL.out.2.2.2, HL.out.2.2.1]; rfl
              · rw [← HB2.out.2.2.1 k' i', ← hB'.out.2.2.1 k' i', HB1.out.2.2.1 k' i']
      · obtain rfl : kk = K := by omega
        have hlt2 : ¬ ((kk : Int) < (kk : Int)) := by omega
        have hfree : Hid (B' kk (bud ii) ≠ .free) := bud_top hB'.out.1 hB'.out.2.1
        go_wp2_with fail
        go_quiet (fail)
        go_wp2_with fail
        have hXz : Below wr.heap.size wr (wr.drewN nq) := Below.drewN (Below.refl _ _) nq
        have wzM := hid (wrM.out.below hXz)
        have wzT := htr.bel hXz
        have wzX : (wr.drewN nq).heap[xb]? = some (.cells #[.int .i64 (zz : Int), .int .i64 (kk : Int)] 132) := (hXz.block xb ((Array.getElem?_eq_some_iff.1 wrX.out).1)).trans wrX.out
        clear hXz
        generalize wr.drewN nq = wz at *
        have wz0 : wz.cell? ⟨xb, 0, none⟩ = some (.int .i64 (zz : Int)) := by rw [cell_of_row _ _ _ _ _ _ wzX]; rfl
        have wz1 : wz.cell? ⟨xb, 1, none⟩ = some (.int .i64 (kk : Int)) := by rw [cell_of_row _ _ _ _ _ _ wzX]; rfl
        have wzF := wzM.out.cF
        have wzX := hid wzX
        obtain ⟨B2, hi2, hn2, hu2, hf2⟩ := free_step hB'.out.1 hB'.out.2.1 hfree.out
        have hnf : B' kk ii ≠ .free := by rw [(hB'.out.2.1 _ _).2 ⟨rfl, rfl⟩]; simp
        have HB2 := hid (And.intro hi2 (And.intro hn2 (And.intro hu2 (And.intro hf2 hnf))))
        obtain ⟨pp, hpp⟩ : ∃ pp, pp = ii * 2 ^ kk := ⟨_, rfl⟩
        have hzp : (zz : Int) = ((pp * 1024 : Nat) : Int) := by rw [HZZ.out, hpp]
        have hppb : pp ≤ 1048576 := by omega
        have HPP := hid (And.intro hpp hzp)
        have hlx : xb < wz.heap.size := (Array.getElem?_eq_some_iff.1 wzX.out).1
        have HG : Hid (∀ wx, Below wz.heap.size wz wx → wx.cell? ⟨xb, 0, none⟩ = some (.int .i64 (zz : Int)) ∧ wx.cell? ⟨xb, 1, none⟩ = some (.int .i64 (kk : Int)) ∧ wx.frozen? ⟨r, 1, none⟩ = false ∧ wx.cell? ⟨r, 1, none⟩ = some (.slice aF' F'.length cF')) := fun wx hx => ⟨by rw [cell_of_row _ _ _ _ _ _ ((hx.block xb hlx).trans wzX.out)]; rfl, by rw [cell_of_row _ _ _ _ _ _ ((hx.block xb hlx).trans wzX.out)]; rfl, frozen_of_row _ r 1 _ _ (wzM.out.below hx).head, (wzM.out.below hx).cF⟩
        have HKP : Hid (∀ (wx : World) (v : Value), wx.cell? ⟨xb, 0, none⟩ = some (.int .i64 (zz : Int)) → wx.cell? ⟨xb, 1, none⟩ = some (.int .i64 (kk : Int)) → (wx.setCell ⟨r, 1, none⟩ v).cell? ⟨xb, 0, none⟩ = some (.int .i64 (zz : Int)) ∧ (wx.setCell ⟨r, 1, none⟩ v).cell? ⟨xb, 1, none⟩ = some (.int .i64 (kk : Int))) := fun wx v e0 e1 => ⟨(World.cell?_of_block (Below.heap_setCell _ _ _ _ hxr)).trans e0, (World.cell?_of_block (Below.heap_setCell _ _ _ _ hxr)).trans e1⟩
        have HB5 : Hid (∀ wx, Below wz.drew.heap.size wz.drew wx → Below wz.heap.size wz wx) := fun wx hx => ⟨hx.os, hx.tape, hx.output, hx.size, hx.block⟩
        have HSF : Hid (Slc wz.drew 0 (.slice aF' F'.length cF') F') := (wzM.out.below ((Below.refl _ _).drew)).sF
        clear hi2 hn2 hu2 hf2 hnf hpp hzp hlx
        refine wp_region_held_drew (S := fun wx => wx.cell? ⟨xb, 0, none⟩ = some (.int .i64 (zz : Int)) ∧ wx.cell? ⟨xb, 1, none⟩ = some (.int .i64 (kk : Int))) (by kernel_rfl) ⟨wz0, wz1⟩ (fun hHeld => ?_)
        refine takeH (i := 0) (some 98) (.pointer (some ⟨r, 0, none⟩)) rfl rfl (by kernel_rfl) (by kernel_rfl) (by kernel_rfl) (fun _ _ _ h => h) (Or.inl ⟨by rfl, ?_⟩) (by assumption) ?_
        · (intro w hSw; (try dsimp only at hSw); go_simp)
        simp only [Act.put, List.setIfInBounds_toArray, List.set_cons_zero, List.set_cons_succ]
        refine takeH (i := 1) (some 99) (.pointer (some ⟨r, 0, none⟩)) rfl rfl (by kernel_rfl) (by kernel_rfl) (by kernel_rfl) (fun _ _ _ h => h) (Or.inl ⟨by rfl, ?_⟩) (by assumption) ?_
        · (intro w hSw; (try dsimp only at hSw); go_simp)
        simp only [Act.put, List.setIfInBounds_toArray, List.set_cons_zero, List.set_cons_succ]
        refine takeH (i := 2) (some 100) (.pointer (some ⟨r, 0, none⟩)) rfl rfl (by kernel_rfl) (by kernel_rfl) (by kernel_rfl) (fun _ _ _ h => h) (Or.inl ⟨by rfl, ?_⟩) (by assumption) ?_
        · (intro w hSw; (try dsimp only at hSw); go_simp)
        simp only [Act.put, List.setIfInBounds_toArray, List.set_cons_zero, List.set_cons_succ]
        refine takeH (i := 3) (some 101) (.pointer (some ⟨r, 1, none⟩)) rfl rfl (by kernel_rfl) (by kernel_rfl) (by kernel_rfl) (fun _ _ _ h => h) (Or.inl ⟨by rfl, ?_⟩) (by assumption) ?_
        · (intro w hSw; (try dsimp only at hSw); go_simp)
        simp only [Act.put, List.setIfInBounds_toArray, List.set_cons_zero, List.set_cons_succ]
        refine takeH (i := 5) (some 103) (.agg #[.int .i64 (zz : Int), .int .i64 (kk : Int)]) rfl rfl (by kernel_rfl) (by kernel_rfl) (by kernel_rfl) (fun _ _ _ h => h) (Or.inl ⟨by rfl, ?_⟩) (by assumption) ?_
        · (intro w hSw; (try dsimp only at hSw); go_simp)
        simp only [Act.put, List.setIfInBounds_toArray, List.set_cons_zero, List.set_cons_succ]
        refine wpAnyH_ready (rs := [4]) (by kernel_rfl) (by simp) ?_
        refine AllReadyH.cons (by simp only [List.getElem?_toArray, List.getElem?_cons_succ, List.getElem?_cons_zero]; rfl) (fun KK hK => ?_) AllReadyH.nil
        go_simp
        refine hK.out _ _ ⟨wz0, wz1⟩ (fun hHeld => ?_)
        clear hK KK
        refine wpAnyH_ready (rs := [6]) (by kernel_rfl) (by simp) ?_
        refine AllReadyH.cons (by simp only [List.getElem?_toArray, List.getElem?_cons_succ, List.getElem?_cons_zero]; rfl) (fun KK hK => ?_) AllReadyH.nil
        go_simp
        refine (put_slz _ F' 0 pp kk _ _ HPP.out.2 HSF.out (by omega) hppb (by omega)).mono ?_
        rintro e w5 ⟨a5, c5, t5, rfl, hst5, hs5, hb5⟩
        obtain ⟨g1, g2, g3, g4⟩ := HG.out w5 (HB5.out w5 hb5)
        have H5 := hid (And.intro hst5 (And.intro hs5 hb5))
        clear hst5 hs5 hb5
        go_wp2_with fail
        refine hK.out _ _ ⟨g1, g2⟩ (fun hHeld => ?_)
        clear hK KK
        refine takeH (i := 7) (some 105) (.pointer (some ⟨r, 0, none⟩)) rfl rfl (by kernel_rfl) (by kernel_rfl) (by kernel_rfl) (fun _ _ _ h => h) (Or.inl ⟨by rfl, ?_⟩) (by assumption) ?_
        · (intro w hSw; (try dsimp only at hSw); go_simp)
        simp only [Act.put, List.setIfInBounds_toArray, List.set_cons_zero, List.set_cons_succ]
        refine takeH (i := 8) (some 106) (.pointer (some ⟨r, 1, none⟩)) rfl rfl (by kernel_rfl) (by kernel_rfl) (by kernel_rfl) (fun _ _ _ h => h) (Or.inl ⟨by rfl, ?_⟩) (by assumption) ?_
        · (intro w hSw; (try dsimp only at hSw); go_simp)
        simp only [Act.put, List.setIfInBounds_toArray, List.set_cons_zero, List.set_cons_succ]
        refine wpAnyH_ready (rs := [9]) (by kernel_rfl) (by simp) ?_
        refine AllReadyH.cons (by simp only [List.getElem?_toArray, List.getElem?_cons_succ, List.getElem?_cons_zero]; rfl) (fun KK hK => ?_) AllReadyH.nil
        go_simp
        refine hK.out _ _ (HKP.out _ _ g1 g2) (fun hHeld => ?_)
        clear hK KK
        refine wpAnyH_done (by kernel_rfl) ?_ _
        go_wp2_with fail
        go_ret
        obtain ⟨hst5, hs5, hb5⟩ := H5.out
        have hb6 := HB5.out w5 hb5
        rw [HPP.out.1] at hst5 hs5
        have hput := wzM.out.putF hb6 hs5 hst5 HB2.out.1 HB2.out.2.2.2.1 HB2.out.2.2.2.2 HB2.out.2.2.1
        refine ⟨0, B2, _, _, _, _, rfl, (wzT.bel hb6).but (But.setCell (But.refl r w5) (.inl rfl) _) (.inl rfl), HB2.out.1, HB2.out.2.1, hput, .inr ⟨rfl, k, i, HL.out.2.1, ?_, fun k' i' => ?_⟩⟩
        · rw [← HL.out.2.2.2, HL.out.2.2.1]; rfl
        · rw [← HB2.out.2.2.1 k' i', ← hB'.out.2.2.1 k' i', HB1.out.2.2.1 k' i']
end Go.Proofs.YtdmnemgooagehaaGreatDoor
