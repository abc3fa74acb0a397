/- Contracts of New and Carve. -/
import Derived.Test.YtlgceknfphholaaE
namespace Go.Proofs.Ytlgceknfphholaa
open Go.RowKit

theorem new_bad (n : Int) (w : World) (h : n < 0 ∨ 1073741824 < n) : Calls Try.prog 9 #[.int .i64 n] w fun e w' => e = .returned (.pointer none) ∧ w' = w := by
  by_cases h1 : n < 0
  · clear h
    go_enter Try.func9, Try.ntmps9
    go_wp2_with fail
    go_ret
    exact ⟨rfl, rfl⟩
  · have h2 : 1073741824 < n := by omega
    clear h
    go_enter Try.func9, Try.ntmps9
    go_wp2_with fail
    go_ret
    exact ⟨rfl, rfl⟩

def NewPost (m : Nat) (w : World) (e : Ending) (w' : World) : Prop := ∃ p, e = .returned (.pointer (some ⟨p, 0, none⟩)) ∧ Qt (fun x => w.heap.size ≤ x) w' p [⟨0, -1, m, 0⟩] 1 ∧ Below w.heap.size w w'
set_option maxHeartbeats 1000000 in
theorem new_ok (m : Nat) (w : World) (h : (m : Int) ≤ 1073741824) : Calls Try.prog 9 #[.int .i64 (m : Int)] w (NewPost m w) := by
  have h1 : ¬ ((m : Int) < 0) := by omega
  have h2 : ¬ ((1073741824 : Int) < (m : Int)) := by omega
  have hq : Qm (w.alloc (.cells #[.slice none 0 0, .int .i64 0] 56)) w.heap.size none 0 [] 0 (fun _ => 0) :=
    ⟨heap_alloc_new _ _, World.ownsRow_nil _ _ _ _, by simp, by simp, by simp [Value.ownBlock], by simp, by simp⟩
  have HA := hid (add_any hq (by simp) (by simp) (by omega) (-1) m)
  have hb : Below w.heap.size w (w.alloc (.cells #[.slice none 0 0, .int .i64 0] 56)) := (Below.refl _ _).alloc (Nat.le_refl _) _
  clear hq
  go_enter Try.func9, Try.ntmps9
  go_wp2_with (go_at_call 27; refine HA.out.mono ?_; rintro e w1 ⟨rfl, ⟨a', cap', fb', hq, ho⟩, ht⟩)
  go_ret
  refine ⟨w.heap.size, rfl, ⟨a', cap', fb', hq, fun x hx => ?_⟩, Below.of_turn hb (by have := hb.size; omega) ht ?_⟩
  · rcases ho x hx with (rfl | e | ⟨f, hf, _⟩) | h
    · exact Nat.le_refl _
    · cases e
    · cases hf
    · simp at h; omega
  · rintro k (rfl | e | ⟨f, hf, _⟩)
    · exact Nat.le_refl _
    · cases e
    · cases hf

def CarvePost (Z : Nat → Prop) (w : World) (p : Nat) (r : Int × Int × List Fac × Nat) (e : Ending) (w' : World) : Prop := e = .returned (.tuple #[.int .i64 r.1, .int .i64 r.2.1]) ∧ Qt Z w' p r.2.2.1 r.2.2.2 ∧ Turn Z w w'

theorem carve_nil (i n : Int) (w : World) : Calls Try.prog 11 #[.pointer none, .int .i64 i, .int .i64 n] w fun e w' => e = .returned (.tuple #[.int .i64 0, .int .i64 1]) ∧ w' = w := by
  go_enter Try.func11, Try.ntmps11
  go_wp2_with (go_at_call 28; refine (find_nil i _).mono ?_; rintro e w' ⟨rfl, rfl⟩)
  go_ret2
  exact ⟨rfl, rfl⟩

section
variable {Z : Nat → Prop} {N : Nat} {w : World} {p nxt : Nat} {l : List Fac}
set_option maxHeartbeats 2000000 in
theorem carve_any (h : Qt Z w p l nxt) (hI : Inv N l nxt) (hZ : ∀ x, w.heap.size ≤ x → Z x) (hnx : nxt ≤ 1073741824) (i n : Int) : Calls Try.prog 11 #[.pointer (some ⟨p, 0, none⟩), .int .i64 i, .int .i64 n] w (CarvePost Z w p (carveA l nxt i n)) := by
  have hl := hI.few
  cases hi : the l i with
  | none =>
    rw [show carveA l nxt i n = (0, 6, l, nxt) from by unfold carveA; rw [hi]]
    obtain ⟨a, cap, fb, hq, hz⟩ := id h
    have HF := hid (find_none hq hl i hi)
    have HQ := hid h
    clear h hq hz hi hI hl hZ
    go_enter Try.func11, Try.ntmps11
    go_wp2_with (go_at_call 28; refine HF.out.mono ?_; rintro e w' ⟨rfl, rfl⟩)
    go_ret2
    exact ⟨rfl, HQ.out, Turn.refl _ _⟩
  | some f =>
    obtain ⟨a, cap, fb, hq, hz⟩ := id h
    have HF := hid (find_some hq hl i f hi)
    have HQ := hid h
    have HZ := hid hz
    obtain ⟨hm, he⟩ := the_some hi
    have hk := hI.kids_sum hm
    rw [show kids l f.id = kids l i from by rw [he]] at hk
    have hu : useOf l f = f.chg + (kids l i).sum := by unfold useOf; rw [he]
    have HC := hid (carved_drew hq hl i)
    have hbl : fb f.id < w.heap.size := hq.lt (.inr (.inr ⟨f, hm, rfl⟩))
    by_cases hn : n < 0
    · rw [show carveA l nxt i n = (0, 1, l, nxt) from by unfold carveA; rw [hi]; simp [hn]]
      have HN := hid hn
      clear h hq hz hi hI hl hm he hk hu hbl hn HZ hZ
      generalize fb f.id = b at *
      go_enter Try.func11, Try.ntmps11
      go_wp2_with (go_at_call 28; refine HF.out.mono ?_; rintro e w' ⟨rfl, rfl⟩)
      go_region_held3 (fun _ => True) (trivial) (first
        | (go_at_call 30; refine HC.out.mono ?_; rintro e w1 ⟨v, rfl, hO, hX⟩)
        | (go_at_call 29; refine (fits_no w1 b v n HN.out).mono ?_; rintro e w2 ⟨rfl, rfl⟩))
      go_wp2_with fail
      go_ret2
      exact ⟨rfl, HQ.out.below hX, Turn.of_below hX⟩
    by_cases hf : (f.lim : Int) - (useOf l f : Int) < n
    · rw [show carveA l nxt i n = (0, 5, l, nxt) from by unfold carveA; rw [hi]; simp [hn, hf]]
      rw [hu] at hf hk
      have HU := fun (v : Value) (w1 : World) (ho : w1.ownsRow w.heap.size 3 1 v (kids l i).length (nats (kids l i))) (hX : Below w.heap.size w w1) => fits_any w1 w.heap.size (fb f.id) v (kids l i) f.chg f.lim n ho ((hX.cell (p := ⟨fb f.id, 0, none⟩) hbl).trans (hq.lim hm)) ((hX.cell (p := ⟨fb f.id, 1, none⟩) hbl).trans (hq.chg hm)) (by omega) hk.2.1 hk.2.2 (by omega)
      simp only [if_pos hf] at HU
      have HU2 := hid HU
      clear h hq hz hi hI hl hm he hk hu hbl hn hf HZ HU hZ
      generalize fb f.id = b at *
      go_enter Try.func11, Try.ntmps11
      go_wp2_with (go_at_call 28; refine HF.out.mono ?_; rintro e w' ⟨rfl, rfl⟩)
      go_region_held3 (fun _ => True) (trivial) (first
        | (go_at_call 30; refine HC.out.mono ?_; rintro e w1 ⟨v, rfl, hO, hX⟩)
        | (go_at_call 29; refine (HU2.out v w1 hO hX).mono ?_; rintro e w2 ⟨rfl, q, rfl⟩))
      go_wp2_with fail
      go_ret2
      exact ⟨rfl, HQ.out.below (of_below_drewN hX q), Turn.of_below (of_below_drewN hX q)⟩
    · obtain ⟨m, rfl⟩ := Int.eq_ofNat_of_zero_le (show 0 ≤ n by omega)
      have HU := fun (v : Value) (w1 : World) (ho : w1.ownsRow w.heap.size 3 1 v (kids l i).length (nats (kids l i))) (hX : Below w.heap.size w w1) => fits_any w1 w.heap.size (fb f.id) v (kids l i) f.chg f.lim m ho ((hX.cell (p := ⟨fb f.id, 0, none⟩) hbl).trans (hq.lim hm)) ((hX.cell (p := ⟨fb f.id, 1, none⟩) hbl).trans (hq.chg hm)) (by omega) hk.2.1 hk.2.2 (by omega)
      simp only [← hu, if_neg hf] at HU
      have HU2 := hid HU
      have hcp := hq.cell
      have hpl : p < w.heap.size := hq.lt (.inl rfl)
      have HE := hid (And.intro hq (And.intro hI.low hZ))
      by_cases hf32 : 32 ≤ l.length
      · rw [show carveA l nxt i (m : Int) = (0, 11, l, nxt) from by unfold carveA; rw [hi]; simp [hn, hf, hf32]]
        have h32 : (32 : Int) ≤ (l.length : Int) := by omega
        clear h hq hz hi hI hl hm he hk hu hbl hn hf HU hf32 hZ
        generalize fb f.id = b at *
        go_enter Try.func11, Try.ntmps11
        go_wp2_with (go_at_call 28; refine HF.out.mono ?_; rintro e w' ⟨rfl, rfl⟩)
        go_region_held3 (fun _ => True) (trivial) (first
          | (go_at_call 30; refine HC.out.mono ?_; rintro e w1 ⟨v, rfl, hO, hX⟩)
          | (go_at_call 29; refine (HU2.out v w1 hO hX).mono ?_; rintro e w2 ⟨rfl, q, rfl⟩))
        have hcp1 := (hX.cell (p := ⟨p, 0, none⟩) hpl).trans hcp
        go_wp2_with fail
        go_ret2
        exact ⟨rfl, HQ.out.below (of_below_drewN hX q), Turn.of_below (of_below_drewN hX q)⟩
      · rw [show carveA l nxt i (m : Int) = ((nxt : Int), 0, l ++ [⟨nxt, i, m, 0⟩], nxt + 1) from by unfold carveA; rw [hi]; simp [hn, hf, hf32]]
        have h32 : ¬ ((32 : Int) ≤ (l.length : Int)) := by omega
        clear h hq hz hi hI hm he hk hu hbl hn hf HU hf32 hZ
        generalize fb f.id = b at *
        go_enter Try.func11, Try.ntmps11
        go_wp2_with (go_at_call 28; refine HF.out.mono ?_; rintro e w' ⟨rfl, rfl⟩)
        go_region_held3 (fun _ => True) (trivial) (first
          | (go_at_call 30; refine HC.out.mono ?_; rintro e w1 ⟨v, rfl, hO, hX⟩)
          | (go_at_call 29; refine (HU2.out v w1 hO hX).mono ?_; rintro e w2 ⟨rfl, q, rfl⟩))
        have hcp1 := (hX.cell (p := ⟨p, 0, none⟩) hpl).trans hcp
        have HX := hid (of_below_drewN hX q)
        have HA := hid (add_any (HE.out.1.below HX.out) hl HE.out.2.1 hnx i m)
        go_wp2_with (go_at_call 27; refine HA.out.mono ?_; rintro e w3 ⟨rfl, ⟨a', cap', fb', hq, ho⟩, ht⟩)
        go_ret2
        refine ⟨rfl, ⟨a', cap', fb', hq, fun x hx => ?_⟩, (Turn.of_below HX.out).trans (ht.wide HZ.out)⟩
        rcases ho x hx with e | e
        · exact HZ.out x e
        · exact HE.out.2.2 x (Nat.le_trans HX.out.size e)
end
end Go.Proofs.Ytlgceknfphholaa
