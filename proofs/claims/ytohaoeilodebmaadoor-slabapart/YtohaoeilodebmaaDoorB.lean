/- Contracts of Set and Count. -/
import Derived.Test.YtohaoeilodebmaaDoorA
import Derived.RegionTactic
import Derived.Deep.RegionHeld
import Derived.ChangeAlike
namespace Go.Proofs.YtohaoeilodebmaaDoor
open Go.RowKit

/-- The slice has these numbers, in memory other than the block g. -/
def Src (w : World) (g : Nat) (a : Option Addr) (l : List Int) : Prop :=
  l.length = 0 ∨ ∃ s o, a = some ⟨s, o, none⟩ ∧ s ≠ g ∧ s < w.heap.size ∧ ∀ j, j < l.length → w.cell? ⟨s, o + j, none⟩ = some (.int .i64 (l[j]?.getD 0))

theorem Bits.same {w w' : World} {b g n : Nat} {ws : List Nat} (h : Bits w b g n ws) (e : w'.heap = w.heap) : Bits w' b g n ws :=
  ⟨by rw [e]; exact h.head, by rw [e]; exact h.body, h.unlike, h.small, h.ok⟩
theorem Bits.below {w w' : World} {b g n : Nat} {ws : List Nat} (h : Bits w b g n ws) (hb : Below w.heap.size w w') : Bits w' b g n ws :=
  ⟨by rw [hb.block b h.lt.1]; exact h.head, by rw [hb.block g h.lt.2]; exact h.body, h.unlike, h.small, h.ok⟩
theorem Bits.but {w w' : World} {b g n r : Nat} {ws : List Nat} (h : Bits w b g n ws) (hb : But r w w') (h1 : b ≠ r) (h2 : g ≠ r) : Bits w' b g n ws :=
  ⟨by rw [hb.block b h.lt.1 h1]; exact h.head, by rw [hb.block g h.lt.2 h2]; exact h.body, h.unlike, h.small, h.ok⟩
theorem But.drewN {g : Nat} {a w : World} (h : But g a w) (k : Nat) : But g a (w.drewN k) := ⟨h.os, h.tape, h.output, h.size, h.block⟩
theorem Below.drewN {B : Nat} {a w : World} (h : Below B a w) (k : Nat) : Below B a (w.drewN k) := ⟨h.os, h.tape, h.output, h.size, h.block⟩

theorem wv_set (ws : List Nat) (i x : Nat) : (wv ws).setIfInBounds i (.int .u64 (x : Int)) = wv (ws.set i x) := by
  apply Array.ext'
  simp [wv, List.map_set]

/-- A bit turned in memory. -/
theorem Bits.flip {w : World} {b g n : Nat} {ws : List Nat} (h : Bits w b g n ws) (i : Nat) (hi : i < n) :
    Bits (w.setCell ⟨g, i / 64, none⟩ (.int .u64 (((ws[i / 64]?.getD 0) ^^^ 2 ^ (i % 64) : Nat) : Int))) b g n (flip ws i) := by
  refine ⟨?_, ?_, h.unlike, h.small, h.ok.flip i hi⟩
  · rw [Below.heap_setCell _ _ _ _ h.unlike, flip_length]; exact h.head
  · rw [heap_setCell_same _ g (i / 64) _ _ _ h.body, wv_set]; rfl

theorem step_no {n : Nat} {on : Bool} {v : List Nat} {t : Nat} {x : Int} (h : hasB n x = false) : step n on (v, t) x = (v, t) := by
  unfold step
  rw [if_neg]
  rintro ⟨h0, h1, _⟩
  unfold hasB at h
  rw [decide_eq_true ⟨h0, h1⟩] at h
  cases h
theorem step_same {n : Nat} {on : Bool} {v : List Nat} {t i : Nat} (h : bit v i = on) : step n on (v, t) (i : Int) = (v, t) := by
  unfold step
  rw [if_neg]
  rintro ⟨_, _, h2⟩
  exact h2 (by simpa using h)
theorem step_turn {n : Nat} {on : Bool} {v : List Nat} {t i : Nat} (hi : i < n) (h : bit v i ≠ on) : step n on (v, t) (i : Int) = (flip v i, t + 1) := by
  unfold step
  rw [if_pos ⟨by omega, by omega, by simpa using h⟩]
  rfl

set_option maxHeartbeats 1000000 in
theorem set_any (b g n : Nat) (ws : List Nat) (on : Bool) (l : List Int) (a : Option Addr) (cap : Nat) (w : World) (hB : Bits w b g n ws) (hI : Src w g a l) (hl : l.length ≤ 1000000) :
    Calls Tryd.prog 36 #[.pointer (some ⟨b, 0, none⟩), .bool on, .slice a l.length cap] w fun e w' => e = .returned (.int .i64 ((setAll n on ws l).2 : Int)) ∧ Bits w' b g n (setAll n on ws l).1 ∧ But g w w' := by
  have HI := hid hI
  have HB := hid hB
  clear hI hB
  go_enter Tryd.func36, Tryd.ntmps36
  go_wp2
  go_loopw [7, 12] (fun t i wr => ∃ j : Nat, j ≤ l.length ∧ i = .int .i64 j ∧ t = .int .i64 ((setAll n on ws (l.take j)).2 : Int) ∧ Hid (Bits wr b g n (setAll n on ws (l.take j)).1) ∧ But g w wr) (fun _ i _ => l.length - (intOf i).toNat)
  case atStart => exact ⟨0, Nat.zero_le _, rfl, rfl, HB, But.refl _ _⟩
  case round =>
    obtain ⟨j, hj, rfl, rfl, hBr, hbut⟩ := hrel
    by_cases hlj : j < l.length
    · rcases HI.out with h | ⟨s, o, rfl, hsg, hs, hc⟩
      · omega
      have hcs : wr.cell? ⟨s, o + j, none⟩ = some (.int .i64 (l[j]?.getD 0)) := by
        rw [World.cell?_of_block (w := w) (hbut.block s hs hsg)]; exact hc j hlj
      have hsn : setAll n on ws (l.take (j + 1)) = step n on (setAll n on ws (l.take j)) (l[j]?.getD 0) := by
        rw [← setAll_snoc, List.take_succ_eq_append_getElem hlj, List.getElem?_eq_getElem hlj]; rfl
      have hle : (setAll n on ws (l.take j)).2 ≤ 1000000 := by
        have := setAll_le n on ws (l.take j)
        have := List.length_take_le j l
        omega
      generalize l[j]?.getD 0 = x at *
      generalize setAll n on ws (l.take j) = p at *
      obtain ⟨v, t⟩ := p
      simp only at hle hBr
      have HSN := hid hsn
      clear hsn hc HI HB
      have h0 := hBr.out.c0
      go_wp2_with fail
      refine (has_cell b n x _ h0).mono ?_
      rintro e w1 ⟨rfl, rfl⟩
      cases hh : hasB n x
      · have HH := hid hh
        clear hh
        go_wp2_with fail
        exact ⟨⟨j + 1, by omega, by go_num, by rw [HSN.out, step_no HH.out], by rw [HSN.out, step_no HH.out]; exact hBr, hbut⟩, by simp [intOf]; omega⟩
      · obtain ⟨i, rfl, hi⟩ : ∃ i : Nat, x = (i : Int) ∧ i < n := by
          have h := of_decide_eq_true hh
          exact ⟨x.toNat, by omega, by omega⟩
        clear hh
        go_wp2_with fail
        refine (get_in b g n v i _ hBr.out hi).mono ?_
        rintro e w2 ⟨rfl, k, rfl⟩
        by_cases hb : bit v i = on
        · have HH := hid hb
          have hne : (bit v i == on) = true := by rw [hb]; simp
          clear hb
          go_wp2_with fail
          exact ⟨⟨j + 1, by omega, by go_num, by rw [HSN.out, step_same HH.out], by rw [HSN.out, step_same HH.out]; exact hBr.out.same rfl, hbut.drewN k⟩, by simp [intOf]; omega⟩
        · have HH := hid hb
          have hne : (bit v i == on) = false := by simpa using hb
          clear hb
          have h1 := hBr.out.c1
          have h5 : i / 64 < v.length := by rw [hBr.out.ok.len]; omega
          have h2 := hBr.out.at (i / 64) h5
          have h3 := hBr.out.ok.word (i / 64)
          have h4 : v.length ≤ 16384 := by rw [hBr.out.ok.len]; have := hBr.out.small; omega
          have h6 := hBr.out.small
          have hfro := frozen_of_row _ g (i / 64) _ _ hBr.out.body
          have hnew := hid (hBr.out.flip i hi)
          have hst := hid (step_turn (t := t) hi HH.out)
          obtain ⟨x, hx⟩ : ∃ x, v[i / 64]?.getD 0 = x := ⟨_, rfl⟩
          rw [hx] at h2 h3 hnew
          obtain ⟨q, hq⟩ : ∃ q, q = i / 64 := ⟨_, rfl⟩
          obtain ⟨p, hp⟩ : ∃ p : Nat, p = 2 ^ (i % 64) := ⟨_, rfl⟩
          rw [← hq] at h2 h5 hfro hnew
          rw [← hp] at hnew
          have hxor : bits .xor .u64 (x : Int) (p : Int) = ((x ^^^ p : Nat) : Int) := by
            refine u64_xor_nat x p h3 ?_
            have hlt : 2 ^ (i % 64) < 2 ^ 64 := Nat.pow_lt_pow_right (by omega) (Nat.mod_lt _ (by omega))
            rw [hp]
            exact hlt
          obtain ⟨y, hy⟩ : ∃ y : Nat, y = x ^^^ p := ⟨_, rfl⟩
          rw [← hy] at hxor hnew
          have hq' : (i : Int) / 64 = (q : Int) := by omega
          have hlt : (q : Int) < (v.length : Int) := by omega
          have hqw := wrap_i (q : Int) (by omega) (by omega)
          have HP := hid hp
          clear hp hx hq hy hcs
          go_wp2_with fail
          go_region_with (go_at_call 64; refine (bitOf_p i p _ (by omega) HP.out).mono ?_; rintro e w4 ⟨rfl, rfl⟩)
          all_goals
            go_wp2
            exact ⟨⟨j + 1, by omega, by go_num, by rw [HSN.out, hst.out]; go_num, by rw [HSN.out, hst.out]; exact hnew.out.same rfl, (hbut.drewN _).drew.setCell (.inl rfl) _⟩, by simp [intOf]; omega⟩
    · obtain rfl : j = l.length := by omega
      rw [List.take_length] at hBr
      have e : (setAll n on ws (l.take l.length)).2 = (setAll n on ws l).2 := by rw [List.take_length]
      go_wp2
      go_ret
      exact ⟨ret_int (by rw [e]), hBr.out, hbut⟩
end Go.Proofs.YtohaoeilodebmaaDoor
