/- Both pools: made, carved, read. -/
import Derived.Test.YtdmnemgooagehaaGreatDoorO7
namespace Go.Proofs.YtdmnemgooagehaaGreatDoor
open Go.RowKit Go.Maps

theorem wraps_i64 (n : Int) (h₀ : 0 ≤ n) (h₁ : n < 2 ^ 62) : IntKind.i64.wrap n = n := by rw [IntKind.wrap_i64]; omega
theorem and_pred (a j : Nat) (h1 : 2 ^ j < a) (h2 : a < 2 ^ (j + 1)) : a &&& (a - 1) ≠ 0 := by
  intro h
  have hp : 0 < 2 ^ j := Nat.two_pow_pos j
  have e : 2 ^ (j + 1) = 2 * 2 ^ j := by rw [Nat.pow_succ]; omega
  have t1 : a / 2 ^ j = 1 := Nat.div_eq_of_lt_le (by omega) (by omega)
  have t2 : (a - 1) / 2 ^ j = 1 := Nat.div_eq_of_lt_le (by omega) (by omega)
  have hb : (a &&& (a - 1)).testBit j = true := by
    rw [Nat.testBit_and, Nat.testBit_eq_decide_div_mod_eq, Nat.testBit_eq_decide_div_mod_eq, t1, t2]; rfl
  rw [h] at hb
  simp at hb
theorem bits_pred (a j : Nat) (h1 : 2 ^ j < a) (h2 : a < 2 ^ (j + 1)) (h3 : a < 2 ^ 62) : (bits .and .i64 (a : Int) ((a : Int) - 1) == 0) = false := by
  have hp : 0 < 2 ^ j := Nat.two_pow_pos j
  have e : ((a : Int) - 1) = ((a - 1 : Nat) : Int) := by omega
  rw [e, (bits_nat .i64 62 (by decide) wraps_i64 a (a - 1) h3 (by omega)).1]
  have := and_pred a j h1 h2
  simp only [beq_eq_false_iff_ne, ne_eq]
  omega


theorem pnew_bad (s n : Int) (w : World) (h : s ≤ 131072 ∨ 1073741824 < s) (hno : ¬ ((s = 65536 ∨ s = 131072) ∧ 0 ≤ n ∧ n ≤ s)) : Calls Tryz.prog 28 #[.int .i64 s, .int .i64 n] w fun e w' => e = .returned (.pointer none) ∧ w' = w := by
  by_cases hn : n < 0 ∨ s < n
  · exact pnew_no s n w hn
  have hA : Calls Tryz.prog 91 #[.int .i64 s] w fun e w' => e = .returned (.pointer none) ∧ w' = w := by
    by_cases hs : s < 65536 ∨ 1073741824 < s
    · exact Ar.new_no s w hs
    · obtain ⟨a, rfl⟩ := Int.eq_ofNat_of_zero_le (show 0 ≤ s by omega)
      exact Ar.new_no2 _ w (by omega) (by omega) (bits_pred a 16 (by omega) (by omega) (by omega))
  have HA := hid hA
  have d1 : decide (n < 0) = false := by simp; omega
  have d2 : decide (s < n) = false := by simp; omega
  clear hA h hno hn
  go_enter Tryz.func28, Tryz.ntmps28
  go_wp2_with (go_at_call 91; refine HA.out.mono ?_; rintro e wx ⟨rfl, ex⟩; rw [ex]; clear ex wx)
  go_ret
  exact ⟨rfl, rfl⟩
theorem rmay_any (s n : Int) (w : World) (h : s ≤ 131072 ∨ 1073741824 < s) (f : Bool) (hf : f = true ↔ ((s = 65536 ∨ s = 131072) ∧ 0 ≤ n ∧ n ≤ s)) : Calls Tryz.prog 29 #[.int .i64 s, .int .i64 n] w fun e w' => e = .returned (.bool f) ∧ w' = w := by
  have hk : ∀ k : Nat, (65536 : Int) * 2 ^ k = ((65536 * 2 ^ k : Nat) : Int) := fun k => by rw [Int.natCast_mul, Int.natCast_pow]; rfl
  have hm : ∀ g, MayIs s g → (g = true ↔ s = 65536 ∨ s = 131072) := fun g hg => by
    constructor
    · intro e
      obtain ⟨k, hk14, e⟩ := hg.1 e
      rw [hk k] at e
      match k, hk14 with
      | 0, _ => exact .inl e
      | 1, _ => exact .inr e
      | k + 2, hk14 =>
        exfalso
        have h1 : 2 ^ (k + 2) = 4 * 2 ^ k := by rw [Nat.pow_add]; omega
        have h2 := Nat.two_pow_pos k
        have h3 := Nat.pow_le_pow_right (n := 2) (by omega) (show k ≤ 12 by omega)
        have h4 : (2 : Nat) ^ 12 = 4096 := by decide
        omega
    · intro e
      cases g
      · exfalso
        rcases e with e | e
        · exact hg.2 rfl 0 (by omega) (by rw [e]; rfl)
        · exact hg.2 rfl 1 (by omega) (by rw [e]; rfl)
      · rfl
  by_cases hs : s = 65536 ∨ s = 131072
  · have HG : Hid (Calls Tryz.prog 93 #[.int .i64 s] w fun e w' => e = .returned (.bool true) ∧ w' = w) := hid ((may1_any s w).mono fun e w' ⟨g, h1, h2, h3⟩ => ⟨by rw [h1, (hm g h3).2 hs], h2⟩)
    clear hm hk h
    by_cases h0 : 0 ≤ n
    · by_cases h1 : n ≤ s
      · obtain rfl : f = true := hf.2 ⟨hs, h0, h1⟩
        clear hf hs
        go_enter Tryz.func29, Tryz.ntmps29
        go_wp2_with (go_at_call 93; refine HG.out.mono ?_; rintro e w3 ⟨rfl, rfl⟩)
        go_ret
        exact ⟨rfl, rfl⟩
      · obtain rfl : f = false := by
          cases f
          · rfl
          · exact absurd (hf.1 rfl).2.2 h1
        have d1 : decide (n ≤ s) = false := by simp; omega
        clear hf hs
        go_enter Tryz.func29, Tryz.ntmps29
        go_wp2_with (go_at_call 93; refine HG.out.mono ?_; rintro e w3 ⟨rfl, rfl⟩)
        go_ret
        exact ⟨rfl, rfl⟩
    · obtain rfl : f = false := by
        cases f
        · rfl
        · exact absurd (hf.1 rfl).2.1 h0
      have d1 : decide (0 ≤ n) = false := by simp; omega
      clear hf hs
      go_enter Tryz.func29, Tryz.ntmps29
      go_wp2_with (go_at_call 93; refine HG.out.mono ?_; rintro e w3 ⟨rfl, rfl⟩)
      go_ret
      exact ⟨rfl, rfl⟩
  · have HG : Hid (Calls Tryz.prog 93 #[.int .i64 s] w fun e w' => e = .returned (.bool false) ∧ w' = w) := hid ((may1_any s w).mono fun e w' ⟨g, h1, h2, h3⟩ => ⟨by
      rw [h1]
      cases g
      · rfl
      · exact absurd ((hm true h3).1 rfl) hs, h2⟩)
    obtain rfl : f = false := by
      cases f
      · rfl
      · exact absurd (hf.1 rfl).1 hs
    clear hm hk h hf hs
    go_enter Tryz.func29, Tryz.ntmps29
    go_wp2_with (go_at_call 93; refine HG.out.mono ?_; rintro e w3 ⟨rfl, rfl⟩)
    go_ret
    exact ⟨rfl, rfl⟩

section
variable {w0 w w' : World} {H : Nat → Prop} {P : Pp} {R : Rw} {v v1 : Pv}
theorem pa_new {K N : Nat} {e : Ending} (h : Pw w0 w (fun _ => False) P (v0 K N)) (hK : P.K = K) (h6 : 6 ≤ K) (h14 : K ≤ 14) (hr : RpNew w K (1024 * 2 ^ K) N e w') : ∃ R, e = .returned (.pointer (some ⟨R.rp, 0, none⟩)) ∧ Pa w0 w' (fun _ => False) P R (v0 K N) := by
  obtain ⟨tg, R, rg, cap, vF, rfl, hRK, _, hb, hp⟩ := hr
  have hs := h.b0.size
  refine ⟨R, rfl, G0 w w', tg, rg, cap, vF, _, _, _, _, _, ⟨fun x hx => by have := hx.1; omega, fun _ h => h.elim, fun _ h => h.elim, by rw [hRK, hK], by omega, by omega⟩, (h.plus hb).fewer (fun x hx => ?_), hp⟩
  rcases hx with hx | hx
  · exact .inr hx
  · exact hx.elim
theorem Pa.carve1 (h : Pa w0 w H P R v) (hnx : v.nxt ≤ 1073741824) (i n : Int) : Calls Tryz.prog 44 #[.pointer (some ⟨P.tb, 0, none⟩), .int .i64 i, .int .i64 n] w fun e w' => e = .returned (.tuple #[.int .i64 (Qu.carveA v.l v.nxt i n).1, .int .i64 (Qu.carveA v.l v.nxt i n).2.1]) ∧
    PaM w0 w' H P R v { v with l := (Qu.carveA v.l v.nxt i n).2.2.1, nxt := (Qu.carveA v.l v.nxt i n).2.2.2 } ∧ ∀ x, H x → w'.heap[x]? = w.heap[x]? := by
  obtain ⟨G, tg, rg, cap, vF, vB, F, Ub, vS, vU, hC, h1, h2⟩ := h
  have hi := h1.inv
  have hfit := fun k k1 k7 => h1.fit (k := k) k1 k7
  have hqi := h1.qinv
  refine (h1.carve2 hnx i n).mono ?_
  rintro e w' ⟨hk, rfl, hp⟩
  exact ⟨rfl, ⟨G, tg, rg, cap, vF, vB, F, Ub, vS, vU, hC, hp, h2.keep hk.1 (fun x hx => hk.2 x (.inl hx)), by rw [hC.kk]; exact hi.1, hi.2, fun k k1 k7 => by rw [hC.kk]; exact hfit k k1 k7, hqi⟩, fun x hx => hk.2 x (.inr hx)⟩
theorem Pa.carve2 {i n : Int} (h : PaM w0 w H P R v { v with l := (Qu.carveA v.l v.nxt i n).2.2.1, nxt := (Qu.carveA v.l v.nxt i n).2.2.2 }) (hnx : v.nxt ≤ 1073741824) : Calls Tryz.prog 45 #[.pointer (some ⟨R.rq, 0, none⟩), .int .i64 i, .int .i64 n] w fun e w' => e = .returned (.tuple #[.int .i64 (Qu.carveA v.l v.nxt i n).1, .int .i64 (Qu.carveA v.l v.nxt i n).2.1]) ∧
    Pa w0 w' H P R { v with l := (Qu.carveA v.l v.nxt i n).2.2.1, nxt := (Qu.carveA v.l v.nxt i n).2.2.2 } ∧ ∀ x, H x → w'.heap[x]? = w.heap[x]? := by
  obtain ⟨G, tg, rg, cap, vF, vB, F, Ub, vS, vU, hC, h1, h2, hi, hn, hF, hI⟩ := h
  refine (Qu.rcarve_any h2.rt hI hnx i n).mono ?_
  intro e w' hp
  obtain ⟨rfl, ht, tg', rg', cap', hp'⟩ := h2.tree hp
  exact ⟨rfl, Pa.fin hC h1 ⟨ht, hi, hn, _, _, _, _, _, _, _, _, _, hp'⟩ rfl rfl rfl (SameUsed.refl _)⟩

/-- What is read of both, in any world behind. -/
structure PRd (w : World) (P : Pp) (R : Rw) (f c x : Int) (u : Int) (n3 : Nat) (aF : Option Addr) (cF : Nat) : Prop where
  cells : ∀ wx, Below w.heap.size w wx → wx.cell? ⟨R.rp, 1, none⟩ = some (.pointer (some ⟨R.r, 0, none⟩)) ∧ wx.cell? ⟨R.rp, 2, none⟩ = some (.pointer (some ⟨R.rq, 0, none⟩)) ∧ wx.cell? ⟨R.r, 1, none⟩ = some (.slice aF n3 cF)
  pcost : ∀ wx, Below w.heap.size w wx → Calls Tryz.prog 41 #[.int .i64 c] wx fun e w' => e = .returned (.int .i64 (costI c)) ∧ Below wx.heap.size wx w'
  rcost : ∀ wx, Below w.heap.size w wx → Calls Tryz.prog 43 #[.int .i64 c] wx fun e w' => e = .returned (.int .i64 (costI c)) ∧ Below wx.heap.size wx w'
  quota : ∀ wx, Below w.heap.size w wx → Calls Tryz.prog 34 #[.pointer (some ⟨P.pb, 0, none⟩)] wx fun e w' => e = .returned (.pointer (some ⟨P.tb, 0, none⟩)) ∧ Below wx.heap.size wx w'
  use : ∀ wx, Below w.heap.size w wx → Calls Tryz.prog 47 #[.pointer (some ⟨P.tb, 0, none⟩), .int .i64 f] wx fun e w' => e = .returned (.int .i64 u) ∧ Below wx.heap.size wx w'
  ruse : ∀ wx, Below w.heap.size w wx → Calls Tryz.prog 46 #[.pointer (some ⟨R.rq, 0, none⟩), .int .i64 f] wx fun e w' => ∃ y : Int, e = .returned (.tuple #[.int .i64 u, .int .i64 y]) ∧ Below wx.heap.size wx w'
  blocks : ∀ wx, Below w.heap.size w wx → Calls Tryz.prog 35 #[.pointer (some ⟨P.pb, 0, none⟩)] wx fun e w' => e = .returned (.pointer (some ⟨P.bb, 0, none⟩)) ∧ Below wx.heap.size wx w'
  free : ∀ wx, Below w.heap.size w wx → Calls Tryz.prog 25 #[.pointer (some ⟨P.bb, 0, none⟩)] wx fun e w' => ∃ a cap, e = .returned (.slice a n3 cap) ∧ Below wx.heap.size wx w' ∧ ∀ wy, Below w'.heap.size w' wy → Below w.heap.size w wy → Calls Tryz.prog 24 #[.slice a n3 cap, .slice aF n3 cF] wy fun e w' => e = .returned (.bool true) ∧ Below wy.heap.size wy w'
theorem Pa.reads (h : Pa w0 w H P R v) (f c x : Int) : ∃ (u : Int) (n3 : Nat) (aF : Option Addr) (cF : Nat), PRd w P R f c x u n3 aF cF := by
  have h0 := fun wx hb => h.below (w' := wx) hb
  obtain ⟨G, tg, rg, cap, vF, vB, F, Ub, vS, vU, hC, h1, h2⟩ := h
  have hlt : ∀ x, G x → x < w.heap.size := fun x hx => by
    obtain ⟨tag, _, _, _, h4⟩ := h1
    exact (h4 x (.inl hx)).1
  obtain ⟨aF, cF, rfl, hrF⟩ := h2.rm.sF.open
  have hqi := h1.qinv
  have hR := fun wx hb => h2.below hlt (w' := wx) hb
  refine ⟨Qu.useA v.l f, F.length, aF, cF, ⟨fun wx hb => ⟨(hR wx hb).c1, (hR wx hb).c2, (hR wx hb).rm.cF⟩, fun wx hb => ?_, fun wx hb => ?_, fun wx hb => ?_, fun wx hb => ?_, fun wx hb => ?_, fun wx hb => ?_, fun wx hb => ?_⟩⟩
  · exact ((h1.below hb).cost c).mono fun e w' ⟨h1, h2⟩ => ⟨h1, by rw [h2]; exact Below.refl _ _⟩
  · exact (rcost_any c wx).mono fun e w' ⟨h1, h2⟩ => ⟨h1, by rw [h2]; exact Below.refl _ _⟩
  · exact ((h1.below hb).quota).mono fun e w' ⟨h1, h2⟩ => ⟨h1, by rw [h2]; exact Below.refl _ _⟩
  · exact ((h1.below hb).use f).mono fun e w' h3 => h3
  · cases hi : Qu.the v.l f with
    | none => exact (Qu.ruse_none (hR wx hb).rt hqi.few f hi).mono fun e w' ⟨h1, h2⟩ => ⟨0, by rw [h1, show Qu.useA v.l f = 0 from by unfold Qu.useA; rw [hi]], by rw [h2]; exact Below.refl _ _⟩
    | some fc => exact (Qu.ruse_some (hR wx hb).rt hqi f fc hi).mono fun e w' ⟨h1, h2⟩ => ⟨((Qu.kids v.l f).length : Int), by rw [h1, show Qu.useA v.l f = (Qu.useOf v.l fc : Int) from by unfold Qu.useA; rw [hi]], by rw [h2]; exact Below.refl _ _⟩
  · exact ((h1.below hb).blocks).mono fun e w' ⟨h1, h2⟩ => ⟨h1, by rw [h2]; exact Below.refl _ _⟩
  · refine ((h1.below hb).free).mono ?_
    rintro e w1 ⟨a, cap, L, rfl, hL, hl, hRd, hb1⟩
    obtain rfl := lst_one hL h2.rm.lF
    exact ⟨a, cap, rfl, hb1, fun wy hy1 hy2 => same_true wy L _ _ _ _ _ _ (hRd.below hy1) (hrF.below hy2) hl⟩
/-- .. of a class. -/
structure CRd (w : World) (P : Pp) (R : Rw) (k : Nat) (x : Int) (n2 : Nat) (aU : Option Addr) (cU : Nat) (b : Bool) : Prop where
  cells : ∀ wx, Below w.heap.size w wx → wx.cell? ⟨R.rp, 3 + k, none⟩ = some (.pointer (some ⟨R.rb k, 0, none⟩)) ∧ wx.cell? ⟨R.rb k, 3, none⟩ = some (.slice aU n2 cU)
  few : n2 ≤ 1000000
  pick : ∀ j, j < n2 → ∃ g y : Nat, aU = some ⟨g, 0, none⟩ ∧ g < w.heap.size ∧ w.cell? ⟨g, j, none⟩ = some (.int .i64 (y : Int)) ∧ y < 100000000
  used : ∀ wx, Below w.heap.size w wx → Calls Tryz.prog 36 #[.pointer (some ⟨P.pb, 0, none⟩), .int .i64 (k : Int)] wx fun e w' => ∃ a cap, e = .returned (.slice a n2 cap) ∧ Below wx.heap.size wx w' ∧ ∀ wy, Below w'.heap.size w' wy → Below w.heap.size w wy → Calls Tryz.prog 23 #[.slice a n2 cap, .slice aU n2 cU] wy fun e w' => e = .returned (.bool true) ∧ Below wy.heap.size wy w'
  has1 : ∀ wx, Below w.heap.size w wx → Calls Tryz.prog 32 #[.pointer (some ⟨P.pb, 0, none⟩), .int .i64 (k : Int), .int .i64 x] wx fun e w' => e = .returned (.bool b) ∧ Below wx.heap.size wx w'
  has2 : ∀ wx, Below w.heap.size w wx → Calls Tryz.prog 22 #[.pointer (some ⟨R.rb k, 0, none⟩), .int .i64 x] wx fun e w' => e = .returned (.bool b) ∧ Below wx.heap.size wx w'
theorem Pa.creads (h : Pa w0 w H P R v) (hct : v.ct ≤ 1000000) {k : Nat} (k1 : 1 ≤ k) (k7 : k ≤ 7) (x : Int) (hx1 : -9223372036854775808 ≤ x) (hx2 : x < 9223372036854775808) : ∃ n2 aU cU b, CRd w P R k x n2 aU cU b := by
  obtain ⟨G, tg, rg, cap, vF, vB, F, Ub, vS, vU, hC, h1, h2⟩ := h
  have hlt : ∀ x, G x → x < w.heap.size := fun x hx => by
    obtain ⟨tag, _, _, _, h4⟩ := h1
    exact (h4 x (.inl hx)).1
  have hK14 := hC.k7
  have hN16 : 2 ^ R.K ≤ 16384 := by
    have := Nat.pow_le_pow_right (n := 2) (by decide) (show R.K ≤ 14 by rw [hC.kk]; exact hK14)
    have e : (2 : Nat) ^ 14 = 16384 := by decide
    omega
  have hz := sz_of k1 k7 (show 6 ≤ R.K by rw [hC.kk]; exact hC.k6) (show R.K ≤ 14 by rw [hC.kk]; exact hK14)
  have hfew : (usedOf (v.U k) (cost k) (many k) (2 ^ R.K)).length ≤ 1000000 := usedOf_few hz.few hN16
  have hR := fun wx hb => h2.below hlt (w' := wx) hb
  have hrc := h2.rc k k1 k7
  have hrr := fun wx hb => (hR wx hb).rc k k1 k7
  obtain ⟨aU, cU, eU⟩ := hrc.rU.open
  rw [eU] at hrc
  have hrU := fun wx hb => (hrr wx hb).rU
  have hc3 := fun wx hb => (hrr wx hb).c3
  rw [eU] at hrU hc3
  have hfit := h1.fit k1 k7
  obtain ⟨b, hb⟩ : ∃ b : Bool, b = true ↔ ∃ q i, i < many k ∧ v.U k q i = true ∧ x = ((place (cost k) q i : Nat) : Int) := by
    classical
    exact ⟨decide _, decide_eq_true_iff⟩
  refine ⟨(usedOf (v.U k) (cost k) (many k) (2 ^ R.K)).length, aU, cU, b, ⟨fun wx hb => ⟨(hR wx hb).cb k1 k7, hc3 wx hb⟩, hfew, fun j hj => ?_, fun wx hb => ?_, fun wx hbx => ?_, fun wx hbx => ?_⟩⟩
  · obtain ⟨g, e, hcx⟩ := hrc.rU.at (List.getElem?_eq_getElem hj)
    refine ⟨g, _, e, (hrc.rU.lt g (by rw [e]; rfl)).2, hcx, ?_⟩
    obtain ⟨q, i, hq, hi, _, ey⟩ := usedOf_mem.1 (List.getElem_mem hj)
    have h3 := (place_in (p := q) hz.page hi).2
    have h4 := hz.lo
    have hq2 : q < 16384 := Nat.lt_of_lt_of_le hq hN16
    have h6 : place (cost k) q i < 100000000 := by omega
    rw [ey]
    exact h6
  · refine ((h1.below hb).used hct (k : Int)).mono ?_
    rintro e w1 ⟨vv, rfl, hv, hb1⟩
    rw [usedK_of ⟨rfl, k1, k7⟩, ← hC.kk] at hv
    obtain ⟨a, cap, rfl⟩ := Irow.open hv
    exact ⟨a, cap, rfl, hb1, fun wy hy1 hy2 => isame_true wy _ _ _ _ _ (Irow.below hv hy1) (hrU wy hy2) hfew⟩
  · refine ((h1.below hbx).has (k : Int) x hx1 hx2).mono ?_
    rintro e w' ⟨g, rfl, hg, n, rfl⟩
    have : g = b := Bool.eq_iff_iff.2 (hg.out.trans (Iff.trans ⟨fun ⟨k', q, i, hk', h⟩ => by obtain rfl := cls_one hk' ⟨rfl, k1, k7⟩; exact ⟨q, i, h⟩, fun ⟨q, i, h⟩ => ⟨k, q, i, ⟨rfl, k1, k7⟩, h⟩⟩ hb.symm))
    exact ⟨by rw [this], below_drewN (Below.refl _ _) n⟩
  · refine (rhas_any (hrr wx hbx) x hfew).mono ?_
    rintro e w' ⟨g, rfl, hg, rfl⟩
    have : g = b := Bool.eq_iff_iff.2 (hg.out.trans (Iff.trans ⟨fun ⟨y, hy, e⟩ => by
      obtain ⟨q, i, _, hi, hu, ey⟩ := usedOf_mem.1 hy
      exact ⟨q, i, hi, hu, by rw [← e, ey]⟩, fun ⟨q, i, hi, hu, e⟩ => ⟨_, usedOf_mem.2 ⟨q, i, by rw [hC.kk]; exact (hfit.page q ⟨i, hi, hu⟩).2, hi, hu, rfl⟩, e.symm⟩⟩ hb.symm))
    exact ⟨by rw [this], Below.refl _ _⟩
end
end Go.Proofs.YtdmnemgooagehaaGreatDoor
