/- A table's functions that only read. -/
import Derived.Test.YthpkmegjbehgaaaDoorX2
namespace Go.Proofs.YthpkmegjbehgaaaDoor
open Go.RowKit Go.Maps

theorem stands_raw (w : World) (hb pb x : Nat) (f : Bool) (c0 : w.cell? ⟨hb, 0, none⟩ = some (.pointer (some ⟨pb, 0, none⟩))) (c2 : w.cell? ⟨hb, 2, none⟩ = some (.int .i64 (x : Int)))
    (HS : Hid (∀ k, Calls Tryd.prog 59 #[.pointer (some ⟨pb, 0, none⟩), .int .i64 2, .int .i64 (x : Int)] (w.drewN k) fun e w' => e = .returned (.bool f) ∧ ∃ m, w' = (w.drewN k).drewN m)) :
    Calls Tryd.prog 29 #[.pointer (some ⟨hb, 0, none⟩)] w fun e w' => e = .returned (.bool f) ∧ ∃ m, w' = w.drewN m := by
  go_enter Tryd.func29, Tryd.ntmps29
  go_wp2_with fail
  go_quiet ((go_at_call 59; exact Calls.quiet_of (HS.out _)))
  go_wp2_with fail
  go_ret
  exact ⟨rfl, nq, rfl⟩
theorem entryAt_any (w : World) (l s j : Nat) (hl : l < 2147483648) (hj : j < 16) (hm : (s : Int).tmod 16 = (j : Int)) :
    Calls Tryd.prog 33 #[.int .i64 (l : Int), .int .i64 (s : Int)] w fun e w' => e = .returned (.int .i64 ((l : Int) + (j : Int) * 16)) ∧ w' = w := by
  go_enter Tryd.func33, Tryd.ntmps33
  go_wp2_with fail
  go_ret
  exact ⟨rfl, rfl⟩
section
variable {w0 w w' : World} {G : Nat → Prop} {P : Pp} {v : Pv} {hb x : Nat} {LF : Nat → Option (Nat × Nat)} {A B : Nat → Nat}
theorem Tb.has_ (h : Tb w0 w G P v hb x LF A B) : Calls Tryd.prog 59 #[.pointer (some ⟨P.pb, 0, none⟩), .int .i64 2, .int .i64 (x : Int)] w fun e w' => e = .returned (.bool true) ∧ ∃ m, w' = w.drewN m := by
  refine (h.pw.has 2 (x : Int) (by omega) (by have := h.xlt; omega)).mono ?_
  rintro e w' ⟨f, rfl, hf, n, rfl⟩
  obtain ⟨q, i, _, hi, hu, hx⟩ := h.tm.tk
  have : f = true := hf.out.2 ⟨2, q, i, ⟨rfl, by decide, by decide⟩, hi, hu, by rw [hx]⟩
  subst this
  exact ⟨rfl, n, rfl⟩
theorem stands_any (h : Tb w0 w G P v hb x LF A B) : Calls Tryd.prog 29 #[.pointer (some ⟨hb, 0, none⟩)] w fun e w' => e = .returned (.bool true) ∧ ∃ m, w' = w.drewN m :=
  stands_raw w hb P.pb x true h.c0 h.c2 (hid (fun k => (h.drewN k).has_))
theorem check_in (h : Tb w0 w G P v hb x LF A B) (s : Nat) (hs : s < 256) : Calls Tryd.prog 30 #[.pointer (some ⟨hb, 0, none⟩), .int .i64 (s : Int)] w fun e w' => e = .returned (.int .i64 0) ∧ ∃ m, w' = w.drewN m := by
  have HS := hid (stands_any h)
  clear h
  have h1 : decide ((s : Int) < 0) = false := by simp
  have h2 : decide ((256 : Int) ≤ (s : Int)) = false := by simp; omega
  go_enter Tryd.func30, Tryd.ntmps30
  go_wp2_with fail
  refine HS.out.mono ?_
  rintro e w1 ⟨rfl, m, rfl⟩
  go_wp2_with fail
  go_ret
  exact ⟨rfl, m, rfl⟩
theorem check_out (h : Tb w0 w G P v hb x LF A B) (s : Int) (hs : s < 0 ∨ 256 ≤ s) : Calls Tryd.prog 30 #[.pointer (some ⟨hb, 0, none⟩), .int .i64 s] w fun e w' => e = .returned (.int .i64 2) ∧ ∃ m, w' = w.drewN m := by
  have HS := hid (stands_any h)
  clear h
  by_cases h0 : s < 0
  · have h1 : decide (s < 0) = true := by simp; omega
    clear hs h0
    go_enter Tryd.func30, Tryd.ntmps30
    go_wp2_with fail
    refine HS.out.mono ?_
    rintro e w1 ⟨rfl, m, rfl⟩
    go_wp2_with fail
    go_ret
    exact ⟨rfl, m, rfl⟩
  · have h1 : decide (s < 0) = false := by simp; omega
    have h2 : decide ((256 : Int) ≤ s) = true := by simp; omega
    clear hs h0
    go_enter Tryd.func30, Tryd.ntmps30
    go_wp2_with fail
    refine HS.out.mono ?_
    rintro e w1 ⟨rfl, m, rfl⟩
    go_wp2_with fail
    go_ret
    exact ⟨rfl, m, rfl⟩
theorem leafWord_any (h : Tb w0 w G P v hb x LF A B) (n : Nat) (hn : n < 16) : Calls Tryd.prog 60 #[.pointer (some ⟨hb, 0, none⟩), .int .i64 (n : Int)] w fun e w' => e = .returned (.int .i64 ((x : Int) + (n : Int) * 8)) ∧ w' = w := by
  have c2 := h.c2
  have hx := h.xlt.2
  clear h
  go_enter Tryd.func60, Tryd.ntmps60
  go_wp2_with fail
  go_ret
  exact ⟨rfl, rfl⟩
theorem word_any (h : Tb w0 w G P v hb x LF A B) (a : Nat) (ha : a + 8 ≤ v.m.length) (h8 : a % 8 = 0) : Calls Tryd.prog 35 #[.pointer (some ⟨hb, 0, none⟩), .int .i64 (a : Int)] w fun e w' => e = .returned (.int .u64 (Ar.wordAt v.m a)) ∧ Below w.heap.size w w' := by
  have c0 := h.c0
  have HA := hid h.pw.arena
  have HL := hid (h.pw.load a ha h8)
  clear h
  go_enter Tryd.func35, Tryd.ntmps35
  go_wp2_with (go_at_call 17; refine HA.out.mono ?_; rintro e wx ⟨rfl, ex⟩; rw [ex]; clear ex wx)
  refine HL.out.mono ?_
  rintro e w1 ⟨rfl, hb1⟩
  have HB := hid hb1
  clear hb1
  go_wp2_with fail
  go_ret
  exact ⟨rfl, HB.out⟩
theorem leaf_any (h : Tb w0 w G P v hb x LF A B) (n : Nat) (hn : n < 16) : Calls Tryd.prog 34 #[.pointer (some ⟨hb, 0, none⟩), .int .i64 (n : Int)] w fun e w' => e = .returned (.int .i64 ((lfA (LF n) : Nat) : Int)) ∧ Below w.heap.size w w' := by
  have HW := hid (leafWord_any h n hn)
  have hx := h.xlt
  have h16 := h.tm.x_in.2.2
  have hw := word_any h (x + 8 * n) (by omega) (by omega)
  have hlt := h.lfA_lt hn
  rw [h.tm.lf n hn, show ((x + 8 * n : Nat) : Int) = (x : Int) + (n : Int) * 8 by omega] at hw
  have HR := hid hw
  clear h hw hx h16
  generalize lfA (LF n) = y at *
  go_enter Tryd.func34, Tryd.ntmps34
  go_wp2_with (go_at_call 60; refine HW.out.mono ?_; rintro e wx ⟨rfl, ex⟩; rw [ex]; clear ex wx)
  refine HR.out.mono ?_
  rintro e w1 ⟨rfl, hb1⟩
  have HB := hid hb1
  clear hb1
  go_wp2_with fail
  go_ret
  exact ⟨rfl, HB.out⟩
/-- What an entry's words are: 0, 0 of an empty one. -/
def getB2 (A B : Nat → Nat) (s : Nat) : Nat := if A s = 0 then 0 else B s
theorem tget_out (h : Tb w0 w G P v hb x LF A B) (s : Int) (hs : s < 0 ∨ 256 ≤ s) : Calls Tryd.prog 10 #[.pointer (some ⟨hb, 0, none⟩), .int .i64 s] w fun e w' => e = .returned (.tuple #[.int .u64 0, .int .u64 0]) ∧ Below w.heap.size w w' := by
  have HC := hid (check_out h s hs)
  clear h hs
  go_enter Tryd.func10, Tryd.ntmps10
  go_wp2_with fail
  refine HC.out.mono ?_
  rintro e w1 ⟨rfl, m, rfl⟩
  go_wp2_with fail
  go_ret2
  exact ⟨rfl, below_drewN (Below.refl _ w) m⟩
theorem tget_any (h : Tb w0 w G P v hb x LF A B) (s : Nat) (hs : s < 256) : Calls Tryd.prog 10 #[.pointer (some ⟨hb, 0, none⟩), .int .i64 (s : Int)] w fun e w' => e = .returned (.tuple #[.int .u64 ((A s : Nat) : Int), .int .u64 ((getB2 A B s : Nat) : Int)]) ∧ Below w.heap.size w w' := by
  have HC := hid (check_in h s hs)
  have HH := hid h
  clear h
  obtain ⟨n, hn⟩ : ∃ n, n = s / 16 := ⟨_, rfl⟩
  obtain ⟨j, hj⟩ : ∃ j, j = s % 16 := ⟨_, rfl⟩
  have hq : (s : Int).tdiv 16 = (n : Int) := by rw [Int.tdiv_eq_ediv_of_nonneg (by omega)]; omega
  have hm : (s : Int).tmod 16 = (j : Int) := by rw [Int.tmod_eq_emod_of_nonneg (by omega)]; omega
  have hn16 : n < 16 := by omega
  have hj16 : j < 16 := by omega
  have hs2 : s = 16 * n + j := by omega
  have HSE := hid hs2
  clear hn hj hs2
  cases hl : LF n with
  | none =>
    have HL : Hid (∀ m, Calls Tryd.prog 34 #[.pointer (some ⟨hb, 0, none⟩), .int .i64 (n : Int)] (w.drewN m) fun e w' => e = .returned (.int .i64 0) ∧ Below w.heap.size w w') := hid (fun m => by
      have := leaf_any (HH.out.drewN m) n hn16
      rw [hl] at this
      exact this.mono (fun e w' h => ⟨h.1, (below_drewN (Below.refl _ w) m).trans h.2⟩))
    have e0 : A s = 0 := by rw [HSE.out]; exact HH.out.tm.no n hn16 hl j hj16
    rw [show getB2 A B s = 0 by unfold getB2; rw [if_pos e0], e0]
    clear e0 hl
    go_enter Tryd.func10, Tryd.ntmps10
    go_wp2_with fail
    refine HC.out.mono ?_
    rintro e w1 ⟨rfl, m, rfl⟩
    go_wp2_with fail
    refine (HL.out m).mono ?_
    rintro e w2 ⟨rfl, hb2⟩
    have HB := hid hb2
    clear hb2
    go_wp2_with fail
    go_ret2
    exact ⟨rfl, HB.out⟩
  | some p =>
    obtain ⟨q, i⟩ := p
    have hin := HH.out.llt hn16 hl
    have hen := HH.out.tm.en n q i hn16 hl j hj16
    rw [← HSE.out] at hen
    have hlo := (HH.out.tm.l_in hn16 hl).2.1
    have HL : Hid (∀ m, Calls Tryd.prog 34 #[.pointer (some ⟨hb, 0, none⟩), .int .i64 (n : Int)] (w.drewN m) fun e w' => e = .returned (.int .i64 ((place (cost 7) q i : Nat) : Int)) ∧ Below w.heap.size w w') := hid (fun m => by
      have := leaf_any (HH.out.drewN m) n hn16
      rw [hl] at this
      exact this.mono (fun e w' h => ⟨h.1, (below_drewN (Below.refl _ w) m).trans h.2⟩))
    obtain ⟨y, hy⟩ : ∃ y, y = place (cost 7) q i := ⟨_, rfl⟩
    rw [← hy] at hin hen hlo HL
    have HW : Hid (∀ w1, Below w.heap.size w w1 → Calls Tryd.prog 35 #[.pointer (some ⟨hb, 0, none⟩), .int .i64 ((y : Int) + (j : Int) * 16)] w1 fun e w' => e = .returned (.int .u64 ((A s : Nat) : Int)) ∧ Below w.heap.size w w') := hid (fun w1 hb1 => by
      have := word_any (HH.out.below hb1) (y + 16 * j) (by omega) (by omega)
      rw [hen.1, show ((y + 16 * j : Nat) : Int) = (y : Int) + (j : Int) * 16 by omega] at this
      exact this.mono (fun e w' h => ⟨h.1, hb1.trans (h.2.mono hb1.size)⟩))
    have HW2 : Hid (∀ w1, Below w.heap.size w w1 → Calls Tryd.prog 35 #[.pointer (some ⟨hb, 0, none⟩), .int .i64 ((y : Int) + (j : Int) * 16 + 8)] w1 fun e w' => e = .returned (.int .u64 ((B s : Nat) : Int)) ∧ Below w.heap.size w w') := hid (fun w1 hb1 => by
      have := word_any (HH.out.below hb1) (y + 16 * j + 8) (by omega) (by omega)
      rw [hen.2, show ((y + 16 * j + 8 : Nat) : Int) = (y : Int) + (j : Int) * 16 + 8 by omega] at this
      exact this.mono (fun e w' h => ⟨h.1, hb1.trans (h.2.mono hb1.size)⟩))
    have HE : Hid (∀ w1, Calls Tryd.prog 33 #[.int .i64 (y : Int), .int .i64 (s : Int)] w1 fun e w' => e = .returned (.int .i64 ((y : Int) + (j : Int) * 16)) ∧ w' = w1) := hid (fun w1 => entryAt_any w1 y s j (by omega) hj16 hm)
    have hy0 : ((y : Int) == 0) = false := by rw [beq_eq_false_iff_ne]; omega
    have hy2 : y < 2147483648 := hin.2.1
    clear hen hin hlo hl hy hm
    by_cases e0 : A s = 0
    · rw [show getB2 A B s = 0 by unfold getB2; rw [if_pos e0]]
      rw [e0] at HW ⊢
      clear e0 HW2
      go_enter Tryd.func10, Tryd.ntmps10
      go_wp2_with fail
      refine HC.out.mono ?_
      rintro e w1 ⟨rfl, m, rfl⟩
      go_wp2_with fail
      refine (HL.out m).mono ?_
      rintro e w2 ⟨rfl, hb2⟩
      have HB := hid hb2
      clear hb2
      go_wp2_with (go_at_call 33; refine (HE.out _).mono ?_; rintro e wx ⟨rfl, ex⟩; rw [ex]; clear ex wx)
      refine (HW.out _ HB.out).mono ?_
      rintro e w3 ⟨rfl, hb3⟩
      have HB3 := hid hb3
      clear hb3
      go_wp2_with fail
      go_ret2
      exact ⟨rfl, HB3.out⟩
    · rw [show getB2 A B s = B s by unfold getB2; rw [if_neg e0]]
      have ha0 : (((A s : Nat) : Int) == 0) = false := by rw [beq_eq_false_iff_ne]; omega
      clear e0
      generalize A s = aa at *
      generalize B s = bb at *
      go_enter Tryd.func10, Tryd.ntmps10
      go_wp2_with fail
      refine HC.out.mono ?_
      rintro e w1 ⟨rfl, m, rfl⟩
      go_wp2_with fail
      refine (HL.out m).mono ?_
      rintro e w2 ⟨rfl, hb2⟩
      have HB := hid hb2
      clear hb2
      go_wp2_with (go_at_call 33; refine (HE.out _).mono ?_; rintro e wx ⟨rfl, ex⟩; rw [ex]; clear ex wx)
      refine (HW.out _ HB.out).mono ?_
      rintro e w3 ⟨rfl, hb3⟩
      have HB3 := hid hb3
      clear hb3
      go_wp2_with fail
      refine (HW2.out _ HB3.out).mono ?_
      rintro e w4 ⟨rfl, hb4⟩
      have HB4 := hid hb4
      clear hb4
      go_wp2_with fail
      go_ret2
      exact ⟨rfl, HB4.out⟩
end
end Go.Proofs.YthpkmegjbehgaaaDoor
