/- What both caches tell of themselves, in any world behind theirs; both made. -/
import Derived.Test.YtdmnemgooagehaaGreatDoorK6
namespace Go.Proofs.YtdmnemgooagehaaGreatDoor
open Go.RowKit Go.Maps

theorem may9_any (x : Int) (w : World) (f : Bool) (hf : f = (decide (16 ≤ x) && decide (x ≤ 512) && (x % 16 == 0))) : Calls Tryz.prog 9 #[.int .i64 x] w fun e w' => e = .returned (.bool f) ∧ w' = w := by
  by_cases h1 : 16 ≤ x
  · by_cases h2 : x ≤ 512
    · obtain ⟨g, hg⟩ : ∃ g, g = (x % 16 == 0) := ⟨_, rfl⟩
      have d1 : decide (16 ≤ x) = true := by simp; omega
      have d2 : decide (x ≤ 512) = true := by simp; omega
      rw [d1, d2, Bool.true_and, Bool.true_and, ← hg] at hf
      subst hf
      go_enter Tryz.func9, Tryz.ntmps9
      go_wp2_with fail
      go_ret
      exact ⟨by rw [hg]; rfl, rfl⟩
    · have d2 : decide (x ≤ 512) = false := by simp; omega
      rw [d2, Bool.and_false, Bool.false_and] at hf
      subst hf
      go_enter Tryz.func9, Tryz.ntmps9
      go_wp2_with fail
      go_ret
      exact ⟨rfl, rfl⟩
  · have d1 : decide (16 ≤ x) = false := by simp; omega
    rw [d1, Bool.false_and, Bool.false_and] at hf
    subst hf
    go_enter Tryz.func9, Tryz.ntmps9
    go_wp2_with fail
    go_ret
    exact ⟨rfl, rfl⟩

theorem stake_nil (w : World) : Calls Tryz.prog 10 #[.pointer none] w fun e w' => e = .returned (.tuple #[.int .i64 0, .int .i64 1]) ∧ w' = w := by
  go_enter Tryz.func10, Tryz.ntmps10
  go_wp2_with fail
  go_ret2
  exact ⟨rfl, rfl⟩
theorem sgive_nil (x : Int) (w : World) : Calls Tryz.prog 13 #[.pointer none, .int .i64 x] w fun e w' => e = .returned (.int .i64 1) ∧ w' = w := by
  go_enter Tryz.func13, Tryz.ntmps13
  go_wp2_with fail
  go_ret
  exact ⟨rfl, rfl⟩
theorem slabsOf_none (m n : Nat) : slabsOf none_ m n = [] := by
  refine List.eq_nil_iff_forall_not_mem.2 fun x hx => ?_
  obtain ⟨p, _, hs, _⟩ := slabsOf_mem.1 hx
  exact none_slb _ _ hs

section
variable {w0 w w' : World} {Bd p c cc r sz m ct : Nat} {B : St} {U : Pls}
theorem sa_new {vF : Value} (h : Sys w0 Bd (fun _ => False) w p c 6 sz m ct (begin_ 6) none_) (hr : RefM w' r (fun x => w.heap.size ≤ x) 6 (begin_ 6) vF (.slice none 0 0) [(0, 6)] []) (hb : Below w.heap.size w w') :
    Sa w0 Bd (w'.alloc (.cells #[.pointer (some ⟨r, 0, none⟩), .int .i64 (sz : Int), .slice none 0 0, .slice none 0 0] 40)) p c w'.heap.size r sz m ct (begin_ 6) none_ := by
  obtain ⟨w2, hw2⟩ : ∃ w2, w2 = w'.alloc (.cells #[.pointer (some ⟨r, 0, none⟩), .int .i64 (sz : Int), .slice none 0 0, .slice none 0 0] 40) := ⟨_, rfl⟩
  rw [← hw2]
  have hb2 : Below w'.heap.size w' w2 := by rw [hw2]; exact (Below.refl _ w').alloc (Nat.le_refl _) _
  have hs2 : w2.heap.size = w'.heap.size + 1 := by rw [hw2]; simp
  have hc2 : w2.heap[w'.heap.size]? = some (.cells #[.pointer (some ⟨r, 0, none⟩), .int .i64 (sz : Int), .slice none 0 0, .slice none 0 0] 40) := by rw [hw2]; exact heap_alloc_new _ _
  have hb3 : Below w.heap.size w w2 := hb.trans (hb2.mono hb.size)
  have hs := hb.size
  have hlr := hr.lr
  have hbr : w.heap.size ≤ r := hr.br
  have hnil : ∀ L, L = [] → Irow w2 0 (.slice none 0 0) L := fun L e => by subst e; exact ⟨rfl, .inl ⟨rfl, rfl⟩⟩
  refine ⟨_, vF, .slice none 0 0, .slice none 0 0, .slice none 0 0, [(0, 6)], [], h.add hb3, ⟨?_, ⟨hc2, hnil _ (slabsOf_none _ _), hnil _ (usedOf_none _ _ _), fun x e => by (simp [Value.ownBlock] at e), fun x e => by (simp [Value.ownBlock] at e), by simp [Value.ownBlock], by simp [Value.ownBlock], ?_, ?_⟩, .inr ⟨hbr, by omega⟩, .inr ⟨by omega, by omega⟩, by omega⟩⟩
  · refine hr.move (by omega) (fun x hx _ => hb2.block x hx) (fun x hx hz => ⟨.inl (.inr ⟨hz, by omega⟩), by omega⟩) (fun x hx => ⟨.inr hx, by omega⟩)
  · exact ⟨.inl (.inr ⟨by omega, by omega⟩), by omega⟩
  · exact fun x hx => ⟨.inr hx, by omega⟩

/-- What is read of both, in any world behind. -/
structure Rdss (w : World) (p c cc r : Nat) (n1 n2 n3 : Nat) (aS aU aF : Option Addr) (cS cU cF : Nat) (x : Int) (f : Bool) : Prop where
  cells : ∀ wx, Below w.heap.size w wx → wx.cell? ⟨cc, 2, none⟩ = some (.slice aS n1 cS) ∧ wx.cell? ⟨cc, 3, none⟩ = some (.slice aU n2 cU) ∧ wx.cell? ⟨r, 1, none⟩ = some (.slice aF n3 cF)
  has1 : ∀ wx, Below w.heap.size w wx → Calls Tryz.prog 16 #[.pointer (some ⟨c, 0, none⟩), .int .i64 x] wx fun e w' => e = .returned (.bool f) ∧ Below wx.heap.size wx w'
  has2 : ∀ wx, Below w.heap.size w wx → Calls Tryz.prog 22 #[.pointer (some ⟨cc, 0, none⟩), .int .i64 x] wx fun e w' => e = .returned (.bool f) ∧ Below wx.heap.size wx w'
  used1 : ∀ wx, Below w.heap.size w wx → Calls Tryz.prog 14 #[.pointer (some ⟨c, 0, none⟩)] wx fun e w' => ∃ a cap, e = .returned (.slice a n2 cap) ∧ Below wx.heap.size wx w' ∧ ∀ wy, Below w'.heap.size w' wy → Below w.heap.size w wy → Calls Tryz.prog 23 #[.slice a n2 cap, .slice aU n2 cU] wy fun e w' => e = .returned (.bool true) ∧ Below wy.heap.size wy w'
  slab1 : ∀ wx, Below w.heap.size w wx → Calls Tryz.prog 15 #[.pointer (some ⟨c, 0, none⟩)] wx fun e w' => ∃ a cap, e = .returned (.slice a n1 cap) ∧ Below wx.heap.size wx w' ∧ ∀ wy, Below w'.heap.size w' wy → Below w.heap.size w wy → Calls Tryz.prog 23 #[.slice a n1 cap, .slice aS n1 cS] wy fun e w' => e = .returned (.bool true) ∧ Below wy.heap.size wy w'
  free1 : ∀ wx, Below w.heap.size w wx → Calls Tryz.prog 25 #[.pointer (some ⟨p, 0, none⟩)] wx fun e w' => ∃ a cap, e = .returned (.slice a n3 cap) ∧ Below wx.heap.size wx w' ∧ ∀ wy, Below w'.heap.size w' wy → Below w.heap.size w wy → Calls Tryz.prog 24 #[.slice a n3 cap, .slice aF n3 cF] wy fun e w' => e = .returned (.bool true) ∧ Below wy.heap.size wy w'
theorem Sa.reads (h : Sa w0 Bd w p c cc r sz m ct B U) (hz : Sz sz m 6) (hct : ct ≤ 1000000) (x : Int) (hx1 : -9223372036854775808 ≤ x) (hx2 : x < 9223372036854775808) :
    ∃ (n1 n2 n3 : Nat) (aS aU aF : Option Addr) (cS cU cF : Nat) (f : Bool), Rdss w p c cc r n1 n2 n3 aS aU aF cS cU cF x f := by
  obtain ⟨G, vF, vB, vS, vU, F, Ub, h1, h2⟩ := h
  obtain ⟨aS, cS, rfl⟩ := h2.rc.rS.open
  obtain ⟨aU, cU, rfl⟩ := h2.rc.rU.open
  obtain ⟨aF, cF, rfl, hrF⟩ := h2.rm.sF.open
  have hfU : (usedOf U sz m (2 ^ 6)).length ≤ 1000000 := Nat.le_trans (usedOf_few (U := U) (sz := sz) hz.few (by decide)) (by omega)
  have hfS : (slabsOf U m (2 ^ 6)).length ≤ 1000000 := Nat.le_trans (slabsOf_few (U := U) (m := m) (by decide)) (by omega)
  obtain ⟨f, hf⟩ : ∃ f : Bool, f = true ↔ ∃ q i, i < m ∧ U q i = true ∧ x = ((place sz q i : Nat) : Int) := by
    classical
    exact ⟨decide _, decide_eq_true_iff⟩
  have hfit := h1.fit
  have hus : (∃ y : Nat, y ∈ usedOf U sz m (2 ^ 6) ∧ ((y : Nat) : Int) = x) ↔ ∃ q i, i < m ∧ U q i = true ∧ x = ((place sz q i : Nat) : Int) := by
    constructor
    · rintro ⟨y, hy, rfl⟩
      obtain ⟨q, i, _, hi, hu, e⟩ := usedOf_mem.1 hy
      exact ⟨q, i, hi, hu, by rw [e]⟩
    · rintro ⟨q, i, hi, hu, rfl⟩
      exact ⟨_, usedOf_mem.2 ⟨q, i, (hfit.page q ⟨i, hi, hu⟩).2, hi, hu, rfl⟩, rfl⟩
  refine ⟨(slabsOf U m (2 ^ 6)).length, (usedOf U sz m (2 ^ 6)).length, F.length, aS, aU, aF, cS, cU, cF, f, ⟨fun wx hb => ?_, fun wx hb => ?_, fun wx hb => ?_, fun wx hb => ?_, fun wx hb => ?_, fun wx hb => ?_⟩⟩
  · have hr2 := h2.rc.below hb
    have hr1 := h2.rm.below hb
    exact ⟨hr2.c2, hr2.c3, hr1.cF⟩
  · refine ((h1.below hb).has hz x hx1 hx2).mono ?_
    rintro e w' ⟨g, rfl, hg, k, rfl⟩
    have : g = f := Bool.eq_iff_iff.2 (hg.out.trans hf.symm)
    exact ⟨by rw [this], below_drewN (Below.refl _ _) k⟩
  · refine (rhas_any (h2.rc.below hb) x hfU).mono ?_
    rintro e w' ⟨g, rfl, hg, rfl⟩
    have : g = f := Bool.eq_iff_iff.2 ((hg.out.trans hus).trans hf.symm)
    exact ⟨by rw [this], Below.refl _ _⟩
  · refine ((h1.below hb).used hz hct).mono ?_
    rintro e w1 ⟨v, rfl, hv, hb1⟩
    obtain ⟨a, cap, rfl⟩ := Irow.open hv
    refine ⟨a, cap, rfl, hb1, fun wy hy1 hy2 => isame_true wy _ _ _ _ _ (Irow.below hv hy1) (h2.rc.below hy2).rU hfU⟩
  · refine ((h1.below hb).slabs hct).mono ?_
    rintro e w1 ⟨v, rfl, hv, hb1⟩
    obtain ⟨a, cap, rfl⟩ := Irow.open hv
    refine ⟨a, cap, rfl, hb1, fun wy hy1 hy2 => isame_true wy _ _ _ _ _ (Irow.below hv hy1) (h2.rc.below hy2).rS hfS⟩
  · refine ((h1.below hb).free).mono ?_
    rintro e w1 ⟨a, cap, L, rfl, hL, hl, hR, hb1⟩
    obtain rfl := lst_one hL h2.rm.lF
    refine ⟨a, cap, rfl, hb1, fun wy hy1 hy2 => same_true wy L _ _ _ _ _ _ (hR.below hy1) (hrF.below hy2) hl⟩
/-- A used place that is picked. -/
theorem Sa.pick (h : Sa w0 Bd w p c cc r sz m ct B U) (hz : Sz sz m 6) : ∃ (n : Nat) (a : Option Addr) (cap : Nat), w.cell? ⟨cc, 3, none⟩ = some (.slice a n cap) ∧ n ≤ 1000000 ∧ ∀ j, j < n → ∃ g y : Nat, a = some ⟨g, 0, none⟩ ∧ w.cell? ⟨g, j, none⟩ = some (.int .i64 (y : Int)) ∧ y < 100000 := by
  obtain ⟨G, vF, vB, vS, vU, F, Ub, h1, h2⟩ := h
  obtain ⟨aU, cU, rfl⟩ := h2.rc.rU.open
  refine ⟨_, aU, cU, h2.rc.c3, Nat.le_trans (usedOf_few (U := U) (sz := sz) hz.few (by decide)) (by omega), fun j hj => ?_⟩
  obtain ⟨g, e, hc⟩ := h2.rc.rU.at (List.getElem?_eq_getElem hj)
  refine ⟨g, _, e, hc, ?_⟩
  obtain ⟨q, i, hq, hi, _, e⟩ := usedOf_mem.1 (List.getElem_mem hj)
  have h3 := Nat.mul_le_mul_right sz (Nat.le_of_lt hi)
  have h4 := hz.page
  have h5 : q < 64 := hq
  unfold place at e
  omega
end
end Go.Proofs.YtdmnemgooagehaaGreatDoor
