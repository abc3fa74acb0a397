/- Contracts of Charge and Refund. -/
import Derived.Test.YtlgceknfphholaaC
namespace Go.Proofs.Ytlgceknfphholaa
open Go.RowKit

theorem chargeT_nil (i n : Int) (w : World) : Calls Try.prog 13 #[.pointer none, .int .i64 i, .int .i64 n] w fun e w' => e = .returned (.int .i64 1) ∧ w' = w := by
  go_enter Try.func13, Try.ntmps13
  go_wp2_with (go_at_call 28; refine (find_nil i _).mono ?_; rintro e w' ⟨rfl, rfl⟩)
  go_ret
  exact ⟨rfl, rfl⟩
theorem refundT_nil (i n : Int) (w : World) : Calls Try.prog 14 #[.pointer none, .int .i64 i, .int .i64 n] w fun e w' => e = .returned (.int .i64 1) ∧ w' = w := by
  go_enter Try.func14, Try.ntmps14
  go_wp2_with (go_at_call 28; refine (find_nil i _).mono ?_; rintro e w' ⟨rfl, rfl⟩)
  go_ret
  exact ⟨rfl, rfl⟩

def ActPost (Z : Nat → Prop) (w : World) (p : Nat) (er : Int) (l' : List Fac) (nxt' : Nat) (e : Ending) (w' : World) : Prop := e = .returned (.int .i64 er) ∧ Qt Z w' p l' nxt' ∧ Turn Z w w'

theorem of_below_drewN {B : Nat} {w w' : World} (h : Below B w w') (k : Nat) : Below B w (w'.drewN k) := ⟨h.os, h.tape, h.output, h.size, h.block⟩

section
variable {Z : Nat → Prop} {N : Nat} {w : World} {p nxt : Nat} {l : List Fac}
set_option maxHeartbeats 2000000 in
theorem chargeT_any (h : Qt Z w p l nxt) (hI : Inv N l nxt) (i n : Int) : Calls Try.prog 13 #[.pointer (some ⟨p, 0, none⟩), .int .i64 i, .int .i64 n] w (ActPost Z w p (chargeA l i n).1 (chargeA l i n).2 nxt) := by
  have hl := hI.few
  cases hi : the l i with
  | none =>
    rw [show chargeA l i n = (6, l) from by unfold chargeA; rw [hi]]
    obtain ⟨a, cap, fb, hq, hz⟩ := id h
    have HF := hid (find_none hq hl i hi)
    have HQ := hid h
    clear h hq hz hi hI hl
    go_enter Try.func13, Try.ntmps13
    go_wp2_with (go_at_call 28; refine HF.out.mono ?_; rintro e w' ⟨rfl, rfl⟩)
    go_ret
    exact ⟨rfl, HQ.out, Turn.refl _ _⟩
  | some f =>
    obtain ⟨a, cap, fb, hq, hz⟩ := id h
    have HF := hid (find_some hq hl i f hi)
    have HQ := hid h
    have HZ := hid hz
    obtain ⟨hm, he⟩ := the_some hi
    have hk := hI.kids_sum hm
    rw [show kids l f.id = kids l i from by rw [he]] at hk
    have hu : useOf l f = f.chg + (kids l i).sum := by unfold useOf; rw [he]
    have HC := hid (carved_drew hq hl i)
    have hup := hI.up
    have hbl : fb f.id < w.heap.size := hq.lt (.inr (.inr ⟨f, hm, rfl⟩))
    have hown : Z (fb f.id) := hz _ (.inr (.inr ⟨f, hm, rfl⟩))
    by_cases hn : n < 0
    · rw [show chargeA l i n = (1, l) from by unfold chargeA; rw [hi]; simp [hn]]
      have HN := hid hn
      clear h hq hz hi hI hl hm he hk hu hup hbl hown hn HZ
      generalize fb f.id = b at *
      go_enter Try.func13, Try.ntmps13
      go_wp2_with (go_at_call 28; refine HF.out.mono ?_; rintro e w' ⟨rfl, rfl⟩)
      go_region_held3 (fun _ => True) (trivial) (first
        | (go_at_call 30; refine HC.out.mono ?_; rintro e w1 ⟨v, rfl, hO, hX⟩)
        | (go_at_call 34; refine (charge_no w1 b v n HN.out).mono ?_; rintro e w2 ⟨rfl, rfl⟩))
      go_wp2_with fail
      go_ret
      exact ⟨rfl, HQ.out.below hX, Turn.of_below hX⟩
    by_cases hf : (f.lim : Int) - (useOf l f : Int) < n
    · rw [show chargeA l i n = (5, l) from by unfold chargeA; rw [hi]; simp [hn, hf]]
      rw [hu] at hf hk
      have HU := hid (fun (v : Value) (w1 : World) (ho : w1.ownsRow w.heap.size 3 1 v (kids l i).length (nats (kids l i))) (hX : Below w.heap.size w w1) => charge_full w1 w.heap.size (fb f.id) v (kids l i) f.chg f.lim n ho ((hX.cell (p := ⟨fb f.id, 0, none⟩) hbl).trans (hq.lim hm)) ((hX.cell (p := ⟨fb f.id, 1, none⟩) hbl).trans (hq.chg hm)) (by omega) hk.2.1 hk.2.2 (by omega) hf)
      clear h hq hz hi hI hl hm he hk hu hup hbl hown hn hf HZ
      generalize fb f.id = b at *
      go_enter Try.func13, Try.ntmps13
      go_wp2_with (go_at_call 28; refine HF.out.mono ?_; rintro e w' ⟨rfl, rfl⟩)
      go_region_held3 (fun _ => True) (trivial) (first
        | (go_at_call 30; refine HC.out.mono ?_; rintro e w1 ⟨v, rfl, hO, hX⟩)
        | (go_at_call 34; refine (HU.out v w1 hO hX).mono ?_; rintro e w2 ⟨rfl, q, rfl⟩))
      go_wp2_with fail
      go_ret
      exact ⟨rfl, HQ.out.below (of_below_drewN hX q), Turn.of_below (of_below_drewN hX q)⟩
    · obtain ⟨m, rfl⟩ := Int.eq_ofNat_of_zero_le (show 0 ≤ n by omega)
      rw [show chargeA l i (m : Int) = (0, setC l i (f.chg + m)) from by unfold chargeA; rw [hi]; simp [hn, hf]]
      rw [hu] at hf hk
      have HU := hid (fun (v : Value) (w1 : World) (ho : w1.ownsRow w.heap.size 3 1 v (kids l i).length (nats (kids l i))) (hX : Below w.heap.size w w1) => charge_ok w1 w.heap.size (fb f.id) v (kids l i) f.chg f.lim m ho ((hX.cell (p := ⟨fb f.id, 0, none⟩) hbl).trans (hq.lim hm)) ((hX.cell (p := ⟨fb f.id, 1, none⟩) hbl).trans (hq.chg hm)) (frozen_of_row _ _ _ _ _ ((hX.block _ hbl).trans (hq.fac f hm))) (by omega) hk.2.1 hk.2.2 hf)
      have HE := hid (And.intro hq (And.intro hup (And.intro hm (And.intro he hown))))
      clear h hq hz hi hI hl hm he hk hu hup hbl hown hn hf
      obtain ⟨b, hb⟩ : ∃ b, b = fb f.id := ⟨_, rfl⟩
      rw [← hb] at HF HU
      have HB := hid hb
      clear hb
      go_enter Try.func13, Try.ntmps13
      go_wp2_with (go_at_call 28; refine HF.out.mono ?_; rintro e w' ⟨rfl, rfl⟩)
      go_region_held3 (fun _ => True) (trivial) (first
        | (go_at_call 30; refine HC.out.mono ?_; rintro e w1 ⟨v, rfl, hO, hX⟩)
        | (go_at_call 34; refine (HU.out v w1 hO hX).mono ?_; rintro e w2 ⟨rfl, q, rfl⟩))
      go_wp2_with fail
      go_ret
      refine ⟨rfl, ⟨a, cap, fb, ?_, fun x hx => HZ.out x (own_setC hx)⟩, ?_⟩
      · have := ((HE.out.1.below (of_below_drewN hX q))).setC HE.out.2.1 HE.out.2.2.1 (f.chg + m)
        rw [HE.out.2.2.2.1, ← HB.out] at this
        exact this
      · exact (Turn.of_below (of_below_drewN hX q)).but (But.setCell (But.refl b _) (.inl rfl) _) (.inl (by rw [HB.out]; exact HE.out.2.2.2.2))

set_option maxHeartbeats 2000000 in
theorem refundT_any (h : Qt Z w p l nxt) (hI : Inv N l nxt) (i n : Int) : Calls Try.prog 14 #[.pointer (some ⟨p, 0, none⟩), .int .i64 i, .int .i64 n] w (ActPost Z w p (refundA l i n).1 (refundA l i n).2 nxt) := by
  have hl := hI.few
  cases hi : the l i with
  | none =>
    rw [show refundA l i n = (6, l) from by unfold refundA; rw [hi]]
    obtain ⟨a, cap, fb, hq, hz⟩ := id h
    have HF := hid (find_none hq hl i hi)
    have HQ := hid h
    clear h hq hz hi hI hl
    go_enter Try.func14, Try.ntmps14
    go_wp2_with (go_at_call 28; refine HF.out.mono ?_; rintro e w' ⟨rfl, rfl⟩)
    go_ret
    exact ⟨rfl, HQ.out, Turn.refl _ _⟩
  | some f =>
    obtain ⟨a, cap, fb, hq, hz⟩ := id h
    have HF := hid (find_some hq hl i f hi)
    have HQ := hid h
    have HZ := hid hz
    obtain ⟨hm, he⟩ := the_some hi
    have hk := hI.kids_sum hm
    have hcl : f.chg ≤ 1073741824 := by unfold useOf at hk; omega
    have hup := hI.up
    have hown : Z (fb f.id) := hz _ (.inr (.inr ⟨f, hm, rfl⟩))
    by_cases hn : n < 0 ∨ (f.chg : Int) < n
    · rw [show refundA l i n = (1, l) from by unfold refundA; rw [hi]; simp [hn]]
      have HN := hid (refund_bad w (fb f.id) f.chg n (hq.chg hm) hn)
      clear h hq hz hi hI hl hm he hk hup hown hn HZ hcl
      generalize fb f.id = b at *
      go_enter Try.func14, Try.ntmps14
      go_wp2_with (first | (go_at_call 28; refine HF.out.mono ?_; rintro e w' ⟨rfl, rfl⟩) | (go_at_call 35; refine HN.out.mono ?_; rintro e w' ⟨rfl, rfl⟩))
      go_ret
      exact ⟨rfl, HQ.out, Turn.refl _ _⟩
    · obtain ⟨m, rfl⟩ := Int.eq_ofNat_of_zero_le (show 0 ≤ n by omega)
      rw [show refundA l i (m : Int) = (0, setC l i (f.chg - m)) from by unfold refundA; rw [hi]; simp only [hn, if_false, Int.toNat_natCast]]
      have HN := hid (refund_ok w (fb f.id) f.chg m (hq.chg hm) (frozen_of_row _ _ _ _ _ (hq.fac f hm)) hcl (by omega))
      have HE := hid (And.intro hq (And.intro hup (And.intro hm (And.intro he hown))))
      clear h hq hz hi hI hl hm he hk hup hown hn hcl
      obtain ⟨b, hb⟩ : ∃ b, b = fb f.id := ⟨_, rfl⟩
      rw [← hb] at HF HN
      have HB := hid hb
      clear hb
      go_enter Try.func14, Try.ntmps14
      go_wp2_with (first | (go_at_call 28; refine HF.out.mono ?_; rintro e w' ⟨rfl, rfl⟩) | (go_at_call 35; refine HN.out.mono ?_; rintro e w' ⟨rfl, rfl⟩))
      go_ret
      refine ⟨rfl, ⟨a, cap, fb, ?_, fun x hx => HZ.out x (own_setC hx)⟩, ?_⟩
      · have := HE.out.1.setC HE.out.2.1 HE.out.2.2.1 (f.chg - m)
        rw [HE.out.2.2.2.1, ← HB.out] at this
        exact this
      · exact (Turn.refl _ _).but (But.setCell (But.refl b _) (.inl rfl) _) (.inl (by rw [HB.out]; exact HE.out.2.2.2.2))
end
end Go.Proofs.Ytlgceknfphholaa
