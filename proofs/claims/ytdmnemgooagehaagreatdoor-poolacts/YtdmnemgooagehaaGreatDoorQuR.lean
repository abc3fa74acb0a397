/- The document's Charge and Refund. -/
import Derived.Test.YtdmnemgooagehaaGreatDoorQuP
namespace Go.Proofs.YtdmnemgooagehaaGreatDoor.Qu
open Go.RowKit

def RPost (w : World) (q g : Nat) (er : Value) (l' : List Fac) (nxt' : Nat) (e : Ending) (w' : World) : Prop := e = .returned er ∧ (∃ g' cap', Rm w' q g' cap' l' nxt' ∧ (g' = g ∨ w.heap.size ≤ g')) ∧ Turn (fun x => x = q ∨ x = g) w w'

section
variable {w : World} {q g cap nxt : Nat} {l : List Fac}
theorem rcells_setC (hu : l.Pairwise fun a b => a.id < b.id) {k : Nat} {f : Fac} (hk : l[k]? = some f) (c : Nat) : rcells (setC l f.id c) = (rcells l).set (k * 4 + 3) (.int .i64 (c : Int)) := by
  have h1 := (split_at hu hk).1
  have hlt : k < l.length := (List.getElem?_eq_some_iff.1 hk).1
  rw [setC_at hu hk c]
  conv => rhs; rw [h1]
  have hlen : (rcells (l.take k)).length = k * 4 := by rw [rcells_len]; simp; omega
  rw [rcells_append, rcells_append]
  rw [List.set_append_right _ _ (by omega), hlen, show k * 4 + 3 - k * 4 = 3 from by omega]
  rfl
theorem Rm.setC (h : Rm w q g cap l nxt) (hu : l.Pairwise fun a b => a.id < b.id) {k : Nat} {f : Fac} (hk : l[k]? = some f) (c : Nat) : Rm (w.setCell ⟨g, k * 4 + 3, none⟩ (.int .i64 (c : Int))) q g cap (setC l f.id c) nxt := by
  have hlt : k < l.length := (List.getElem?_eq_some_iff.1 hk).1
  obtain ⟨cur, h1, h2, h3, h4, h5⟩ := h.body
  refine ⟨?_, ?_, h.ne⟩
  · rw [Below.heap_setCell _ _ _ _ h.ne.symm, setC_len]; exact h.head
  · rw [setC_len]
    refine ⟨by rw [rcells_len, setC_len], .inr ⟨g, cap, _, rfl, Nat.zero_le _, setCell_head h1 _, h2, h3, by simp [h4], ?_⟩⟩
    rw [rcells_setC hu hk c, ← h5, Array.toList_setIfInBounds, List.take_set]

theorem rback {w w' : World} (h : Below w.heap.size w w') : Turn (fun x => x = q ∨ x = g) w w' := Turn.of_below h
theorem RPost.same {er : Value} (h : Rm w q g cap l nxt) (k : Nat) : RPost w q g er l nxt (.returned er) (w.drewN k) :=
  ⟨rfl, ⟨g, cap, h.drewN k, .inl rfl⟩, (Turn.refl _ _).drewN k⟩

set_option maxHeartbeats 2000000 in
theorem rcharge_any {N : Nat} (h : Rm w q g cap l nxt) (hI : Inv N l nxt) (i n : Int) : Calls Tryz.prog 98 #[.pointer (some ⟨q, 0, none⟩), .int .i64 i, .int .i64 n] w (RPost w q g (.int .i64 (chargeA l i n).1) (chargeA l i n).2 nxt) := by
  have hl := hI.few
  cases hi : the l i with
  | none =>
    rw [show chargeA l i n = (6, l) from by unfold chargeA; rw [hi]]
    have HF := hid (rat_none h hl i hi)
    have HP := hid (RPost.same (er := .int .i64 6) h 0)
    clear h hi hI hl
    go_enter Tryz.func98, Tryz.ntmps98
    go_wp2_with (go_at_call 107; refine HF.out.mono ?_; rintro e w' ⟨rfl, rfl⟩)
    go_ret
    exact HP.out
  | some f =>
    obtain ⟨k, hk, hkl, hidn, hno⟩ := the_at hi
    have HF := hid (rat_some h hl i f k hk hidn hno)
    have hk0 : ¬ ((k : Int) < 0) := by omega
    by_cases hn : n < 0
    · rw [show chargeA l i n = (1, l) from by unfold chargeA; rw [hi]; simp [hn]]
      have HP := hid (RPost.same (er := .int .i64 1) h 0)
      clear h hi hI hl hidn hno hk
      go_enter Tryz.func98, Tryz.ntmps98
      go_wp2_with (go_at_call 107; refine HF.out.mono ?_; rintro e w' ⟨rfl, rfl⟩)
      go_ret
      exact HP.out
    have HG := rfits_any h hI i n f hi
    by_cases hf : (f.lim : Int) - (useOf l f : Int) < n
    · rw [show chargeA l i n = (5, l) from by unfold chargeA; rw [hi]; simp [hn, hf]]
      rw [decide_eq_false (show ¬ n ≤ (f.lim : Int) - (useOf l f : Int) by omega)] at HG
      have HP := hid (fun z => RPost.same (er := .int .i64 5) h z)
      have HG2 := hid HG
      clear h hi hI hl hidn hno hk HG hf
      go_enter Tryz.func98, Tryz.ntmps98
      go_wp2_with (first | (go_at_call 107; refine HF.out.mono ?_; rintro e w' ⟨rfl, rfl⟩) | (go_at_call 108; refine HG2.out.mono ?_; rintro e w' ⟨rfl, z, rfl⟩))
      go_ret
      exact HP.out z
    · obtain ⟨m, rfl⟩ := Int.eq_ofNat_of_zero_le (show 0 ≤ n by omega)
      rw [show chargeA l i (m : Int) = (0, setC l i (f.chg + m)) from by unfold chargeA; rw [hi]; simp [hn, hf]]
      rw [decide_eq_true (show (m : Int) ≤ (f.lim : Int) - (useOf l f : Int) by omega)] at HG
      have HG2 := hid HG
      have hks := hI.kids_sum (the_some hi).1
      have hcm : f.chg + m ≤ 1073741824 := by unfold useOf at *; omega
      have c0 := h.c0
      have c3 := h.fchg hk
      obtain ⟨cur, hb, _⟩ := h.body
      have hfr := frozen_of_row w g (k * 4 + 3) _ _ hb
      have hk1 : (0 : Int) ≤ (k : Int) := by omega
      have hk2 : (k : Int) < (l.length : Int) := by omega
      have HE := hid (And.intro h (And.intro hI.up (And.intro hk hidn)))
      clear h hi hI hl hidn hno hk HG hf hks hb
      obtain ⟨ch, hch⟩ : ∃ ch, ch = f.chg := ⟨_, rfl⟩
      rw [← hch] at c3 hcm ⊢
      clear hch
      go_enter Tryz.func98, Tryz.ntmps98
      go_wp2_with (first | (go_at_call 107; refine HF.out.mono ?_; rintro e w' ⟨rfl, rfl⟩) | (go_at_call 108; refine HG2.out.mono ?_; rintro e w' ⟨rfl, z, rfl⟩))
      go_region
      go_wp2_with fail
      go_ret
      refine ⟨rfl, ⟨g, cap, ?_, .inl rfl⟩, ?_⟩
      · have := ((HE.out.1.drewN (z + 1)).setC HE.out.2.1 HE.out.2.2.1 (ch + m))
        rw [HE.out.2.2.2] at this
        exact this
      · exact (((Turn.refl _ _).drewN (z + 1))).but (But.setCell (But.refl g _) (.inl rfl) _) (.inl (.inr rfl))

set_option maxHeartbeats 2000000 in
theorem rrefund_any {N : Nat} (h : Rm w q g cap l nxt) (hI : Inv N l nxt) (i n : Int) : Calls Tryz.prog 99 #[.pointer (some ⟨q, 0, none⟩), .int .i64 i, .int .i64 n] w (RPost w q g (.int .i64 (refundA l i n).1) (refundA l i n).2 nxt) := by
  have hl := hI.few
  cases hi : the l i with
  | none =>
    rw [show refundA l i n = (6, l) from by unfold refundA; rw [hi]]
    have HF := hid (rat_none h hl i hi)
    have HP := hid (RPost.same (er := .int .i64 6) h 0)
    clear h hi hI hl
    go_enter Tryz.func99, Tryz.ntmps99
    go_wp2_with (go_at_call 107; refine HF.out.mono ?_; rintro e w' ⟨rfl, rfl⟩)
    go_ret
    exact HP.out
  | some f =>
    obtain ⟨k, hk, hkl, hidn, hno⟩ := the_at hi
    have HF := hid (rat_some h hl i f k hk hidn hno)
    have hk0 : ¬ ((k : Int) < 0) := by omega
    have hk1 : (0 : Int) ≤ (k : Int) := by omega
    have hk2 : (k : Int) < (l.length : Int) := by omega
    have c0 := h.c0
    have c3 := h.fchg hk
    by_cases hn : n < 0 ∨ (f.chg : Int) < n
    · rw [show refundA l i n = (1, l) from by unfold refundA; rw [hi]; simp [hn]]
      have HP := hid (RPost.same (er := .int .i64 1) h 0)
      clear h hi hI hl hidn hno hk
      by_cases hn1 : n < 0
      · clear hn
        go_enter Tryz.func99, Tryz.ntmps99
        go_wp2_with (go_at_call 107; refine HF.out.mono ?_; rintro e w' ⟨rfl, rfl⟩)
        go_ret
        exact HP.out
      · have hn2 : (f.chg : Int) < n := by omega
        clear hn
        generalize f.chg = ch at *
        go_enter Tryz.func99, Tryz.ntmps99
        go_wp2_with (go_at_call 107; refine HF.out.mono ?_; rintro e w' ⟨rfl, rfl⟩)
        go_ret
        exact HP.out
    · obtain ⟨m, rfl⟩ := Int.eq_ofNat_of_zero_le (show 0 ≤ n by omega)
      rw [show refundA l i (m : Int) = (0, setC l i (f.chg - m)) from by unfold refundA; rw [hi]; simp only [hn, if_false, Int.toNat_natCast]]
      have hks := hI.kids_sum (the_some hi).1
      have hcm : f.chg ≤ 1073741824 := by unfold useOf at *; omega
      have hmc : ¬ (f.chg < m) := by omega
      have hm0 : ¬ ((m : Int) < 0) := by omega
      have hsub : (f.chg : Int) - (m : Int) = ((f.chg - m : Nat) : Int) := by omega
      have hd : f.chg - m ≤ 1073741824 := by omega
      obtain ⟨cur, hb, _⟩ := h.body
      have hfr := frozen_of_row w g (k * 4 + 3) _ _ hb
      have HE := hid (And.intro h (And.intro hI.up (And.intro hk hidn)))
      clear h hi hI hl hidn hno hk hn hks hb
      obtain ⟨d, hdd⟩ : ∃ d, d = f.chg - m := ⟨_, rfl⟩
      rw [← hdd] at hsub hd ⊢
      clear hdd
      generalize f.chg = ch at *
      go_enter Tryz.func99, Tryz.ntmps99
      go_wp2_with (go_at_call 107; refine HF.out.mono ?_; rintro e w' ⟨rfl, rfl⟩)
      go_region
      go_wp2_with fail
      go_ret
      refine ⟨rfl, ⟨g, cap, ?_, .inl rfl⟩, ?_⟩
      · have := ((HE.out.1.drewN 1).setC HE.out.2.1 HE.out.2.2.1 d)
        rw [HE.out.2.2.2] at this
        exact this
      · exact (((Turn.refl _ _).drewN 1)).but (But.setCell (But.refl g _) (.inl rfl) _) (.inl (.inr rfl))
end
end Go.Proofs.YtdmnemgooagehaaGreatDoor.Qu
