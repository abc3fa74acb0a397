/- A table: a leaf put back, an entry cleared; what may not be set; its slots, its leaves. -/
import Derived.Test.YthpkmegjbehgaaaDoorX4
namespace Go.Proofs.YthpkmegjbehgaaaDoor
open Go.RowKit Go.Maps

theorem nums_appT (l m : List Nat) : nums (l ++ m) = nums l ++ nums m := by unfold nums; rw [List.map_append]
theorem ones_succ (f : Nat → Bool) (k : Nat) : ones f (k + 1) = ones f k ++ if f k = true then [k] else [] := by
  unfold ones
  rw [List.range_succ, List.filter_append]
  congr 1
  cases e : f k <;> simp [e]
theorem ones_le (f : Nat → Bool) (k : Nat) : (ones f k).length ≤ k := by rw [ones_len]; exact cnt_le _ _
section
variable {w0 w w' : World} {G : Nat → Prop} {P : Pp} {v : Pv} {hb x N ct : Nat} {LF : Nat → Option (Nat × Nat)} {A B : Nat → Nat}
/-- A leaf is put back. -/
theorem Ty.put7 (h : Ty w0 w G P v hb x LF A B N ct) {n q i : Nat} (hn : n < 16) (hl : LF n = some (q, i)) : Calls Tryd.prog 63 #[.pointer (some ⟨P.pb, 0, none⟩), .int .i64 0, .int .i64 7, .int .i64 ((place (cost 7) q i : Nat) : Int)] w fun e w' =>
    e = .returned (.int .i64 0) ∧ Hid ((∀ z, G z → w'.heap[z]? = w.heap[z]?) ∧ ∃ B', PutIt v 0 ((place (cost 7) q i : Nat) : Int) 7 q i B' ∧ Pw w0 w' G P (putV v 0 7 q i B')) := by
  have hin := h.tb.llt hn hl
  refine (h.tb.pw.put 0 7 ((place (cost 7) q i : Nat) : Int) (by omega) (by omega)).mono ?_
  rintro e w2 ⟨hk, ⟨er, rfl, h0, hno, _⟩ | ⟨k, q2, i2, B', hc, rfl, hg, hp⟩⟩
  · exact (h.noput hn hl h0 hno).elim
  · have e1 : k = 7 := by have := hc.1; omega
    subst e1
    obtain ⟨_, hi, _⟩ := h.tb.tm.us n q i hn hl
    have hm := many_in (k := 7) (by decide) (by decide)
    have hcc := cost_in (k := 7) (by decide) (by decide)
    obtain ⟨rfl, rfl⟩ := place_one (by omega) hm.2.2 hg.lt hi (by have := hg.at_; omega : place (cost 7) q2 i2 = place (cost 7) q i)
    exact ⟨rfl, hid ⟨hk, B', hg, hp⟩⟩
def TrPost (w0 w : World) (G : Nat → Prop) (P : Pp) (hb x N ct : Nat) (LF : Nat → Option (Nat × Nat)) (A B : Nat → Nat) (n : Nat) (w' : World) : Prop :=
  (∀ z, G z → w'.heap[z]? = w.heap[z]?) ∧ ∃ v' LF', Ty w0 w' G P v' hb x LF' A B N ct ∧ (∀ m, m ≠ n → LF' m = LF m) ∧ ((LF' n).isSome = true ↔ hasE A n = true)
set_option maxRecDepth 100000 in
set_option maxHeartbeats 4000000 in
theorem trim_any (h : Ty w0 w G P v hb x LF A B N ct) (n q i : Nat) (hn : n < 16) (hl : LF n = some (q, i)) : Calls Tryd.prog 39 #[.pointer (some ⟨hb, 0, none⟩), .int .i64 (n : Int)] w fun e w' => e = .returned (.int .i64 0) ∧ Hid (TrPost w0 w G P hb x N ct LF A B n w') := by
  have hL := leaf_any h.tb n hn
  rw [hl] at hL
  have hin := h.tb.llt hn hl
  obtain ⟨y, hy⟩ : ∃ y, y = place (cost 7) q i := ⟨_, rfl⟩
  have HL := hid (show Calls Tryd.prog 34 #[.pointer (some ⟨hb, 0, none⟩), .int .i64 (n : Int)] w fun e w' => e = .returned (.int .i64 ((y : Nat) : Int)) ∧ Below w.heap.size w w' from by rw [hy]; exact hL)
  rw [← hy] at hin
  have hy31 : y < 2147483648 := hin.2.1
  have HE : Hid (∀ w1 (j : Nat), j < 16 → Calls Tryd.prog 33 #[.int .i64 (y : Int), .int .i64 (j : Int)] w1 fun e w' => e = .returned (.int .i64 ((y : Int) + (j : Int) * 16)) ∧ w' = w1) := hid (fun w1 j hj => entryAt_any w1 y j j hy31 hj (by rw [Int.tmod_eq_emod_of_nonneg (by omega)]; omega))
  have HW : Hid (∀ w1 (j : Nat), j < 16 → Below w.heap.size w w1 → Calls Tryd.prog 35 #[.pointer (some ⟨hb, 0, none⟩), .int .i64 ((y : Int) + (j : Int) * 16)] w1 fun e w' => e = .returned (.int .u64 ((A (16 * n + j) : Nat) : Int)) ∧ Below w.heap.size w w') := hid (fun w1 j hj hb1 => by
    have := word_any (h.tb.below hb1) (y + 16 * j) (by omega) (by omega)
    have hen := h.tb.tm.en n q i hn hl j hj
    rw [← hy] at hen
    rw [hen.1, show ((y + 16 * j : Nat) : Int) = (y : Int) + (j : Int) * 16 by omega] at this
    exact this.mono (fun e w' h => ⟨h.1, hb1.trans (h.2.mono hb1.size)⟩))
  have HH := hid (And.intro h (And.intro hl hy))
  clear h hl hL hin hy
  go_enter Tryd.func39, Tryd.ntmps39
  go_wp2_with fail
  refine HL.out.mono ?_
  rintro e w1 ⟨rfl, hb1⟩
  have HB1 := hid hb1
  clear hb1
  go_wp2_with fail
  go_loopw [11] (fun t wr => ∃ k : Nat, k ≤ 16 ∧ t = .int .i64 (k : Int) ∧ Hid ((∀ j, j < k → A (16 * n + j) = 0) ∧ Below w.heap.size w wr)) (fun t _ => 16 - (intOf t).toNat)
  case atStart => exact ⟨0, Nat.zero_le _, rfl, fun j hj => absurd hj (by omega), HB1.out⟩
  case round =>
    obtain ⟨k, hk, rfl, HX⟩ := hrel
    by_cases hk16 : k = 16
    · subst hk16
      have h2 := HH.out.1.below HX.out.2
      have c0 := h2.tb.c0
      have c1 := h2.tb.c1
      have hpu := (h2.below (show Below wr.heap.size wr wr.drew from below_drewN (Below.refl _ wr) 1)).put7 hn HH.out.2.1
      rw [← HH.out.2.2] at hpu
      have HP := hid hpu
      clear h2 hpu
      go_wp2_with fail
      go_region_held3 (fun W => W.cell? ⟨hb, 0, none⟩ = some (.pointer (some ⟨P.pb, 0, none⟩)) ∧ W.cell? ⟨hb, 1, none⟩ = some (.int .i64 0)) (first | exact ⟨c0, c1⟩ | exact ⟨d0, d1⟩) (first
        | (go_at_call 63; refine HP.out.mono ?_; rintro e w2 ⟨rfl, hQ⟩; have d0 : w2.cell? ⟨hb, 0, none⟩ = some (.pointer (some ⟨P.pb, 0, none⟩)) := (World.cell?_of_block (hQ.out.1 hb HH.out.1.tb.g)).trans c0; have d1 : w2.cell? ⟨hb, 1, none⟩ = some (.int .i64 0) := (World.cell?_of_block (hQ.out.1 hb HH.out.1.tb.g)).trans c1))
      have hkeep : Hid (∀ z, G z → w2.heap[z]? = w.heap[z]?) := hid (fun z hz => (hQ.out.1 z hz).trans (HX.out.2.block z (HH.out.1.tb.pw.glt hz)))
      obtain ⟨B', hg, hp⟩ := hQ.out.2
      have d2 : w2.cell? ⟨hb, 2, none⟩ = some (.int .i64 (x : Int)) := (World.cell?_of_block (hkeep.out hb HH.out.1.tb.g)).trans HH.out.1.tb.c2
      have hx := HH.out.1.tb.xlt
      have hxa := HH.out.1.tb.tm.x_in.2.2
      have HWd := hid (leafWord_raw w2 hb x n d2 hx.2 hn)
      have HS := hid (hp.store1 (x + 8 * n) 0 ((x : Int) + (n : Int) * 8) (by omega) (by show _ ≤ v.m.length; omega) (by omega) (by omega))
      have HA := hid hp.arena
      have HY := hid (And.intro hg hp)
      clear hg hp hx hxa hQ
      go_wp2_with (first
        | (go_at_call 17; refine HA.out.mono ?_; rintro e wx ⟨rfl, ex⟩; rw [ex]; clear ex wx)
        | (go_at_call 60; refine HWd.out.mono ?_; rintro e wx ⟨rfl, ex⟩; rw [ex]; clear ex wx))
      refine HS.out.mono ?_
      rintro e w3 ⟨rfl, hp3, hk3⟩
      have H3 := hid (And.intro hp3 hk3)
      clear hp3 hk3
      go_wp2_with fail
      go_ret
      obtain ⟨h1, hl, hy⟩ := HH.out
      have hg := HY.out.1
      rw [hy] at hg
      have hno : hasE A n = false := by
        cases e : hasE A n with
        | false => rfl
        | true =>
          obtain ⟨j, hj, h0⟩ := hasE_iff.1 e
          exact absurd (HX.out.1 j hj) h0
      refine ⟨rfl, hid ⟨fun z hz => (H3.out.2 z hz).trans (hkeep.out z hz), _, _, h1.trim_ hn hl hg HX.out.1 H3.out.1 ((H3.out.2 hb h1.tb.g).trans (hkeep.out hb h1.tb.g)), fun m hm => now_ne _ _ hm, ?_⟩⟩
      rw [now_at, hno]
      simp
    · have hk2 : k < 16 := by omega
      have HW2 := hid (HW.out wr k hk2 HX.out.2)
      have HE2 := hid (HE.out wr k hk2)
      by_cases h0 : A (16 * n + k) = 0
      · have H0 := hid h0
        rw [h0] at HW2
        clear h0
        go_wp2_with (go_at_call 33; refine HE2.out.mono ?_; rintro e wx ⟨rfl, ex⟩; rw [ex]; clear ex wx)
        refine HW2.out.mono ?_
        rintro e w2 ⟨rfl, hb2⟩
        have HB2 := hid hb2
        clear hb2
        go_wp2_with fail
        refine ⟨⟨k + 1, by omega, by go_num, hid ⟨fun j hj => ?_, HB2.out⟩⟩, by simp [intOf]; omega⟩
        by_cases e : j = k
        · subst e; exact H0.out
        · exact HX.out.1 j (by omega)
      · have ha0 : (((A (16 * n + k) : Nat) : Int) != 0) = true := by rw [bne_iff_ne]; omega
        have H0 := hid h0
        have HE0 := hid (show hasE A n = true from hasE_iff.2 ⟨k, hk2, h0⟩)
        clear h0
        generalize A (16 * n + k) = aa at *
        go_wp2_with (go_at_call 33; refine HE2.out.mono ?_; rintro e wx ⟨rfl, ex⟩; rw [ex]; clear ex wx)
        refine HW2.out.mono ?_
        rintro e w2 ⟨rfl, hb2⟩
        have HB2 := hid hb2
        clear hb2
        go_wp2_with fail
        go_ret
        refine ⟨rfl, hid ⟨fun z hz => HB2.out.block z (HH.out.1.tb.pw.glt hz), v, LF, HH.out.1.below HB2.out, fun _ _ => rfl, ?_⟩⟩
        rw [HH.out.2.1, HE0.out]
        simp
/-- What may not be set. -/
theorem tset_out (h : Tb w0 w G P v hb x LF A B) (s : Int) (hs : s < 0 ∨ 256 ≤ s) (a b : Int) : Calls Tryd.prog 9 #[.pointer (some ⟨hb, 0, none⟩), .int .i64 s, .int .u64 a, .int .u64 b] w fun e w' => e = .returned (.int .i64 2) ∧ Below w.heap.size w w' := by
  have HC := hid (check_out h s hs)
  clear h hs
  go_enter Tryd.func9, Tryd.ntmps9
  go_wp2_with fail
  refine HC.out.mono ?_
  rintro e w1 ⟨rfl, m, rfl⟩
  go_wp2_with fail
  go_ret
  exact ⟨rfl, below_drewN (Below.refl _ w) m⟩
theorem tset_zero (h : Tb w0 w G P v hb x LF A B) (s : Nat) (hs : s < 256) (b : Int) : Calls Tryd.prog 9 #[.pointer (some ⟨hb, 0, none⟩), .int .i64 (s : Int), .int .u64 0, .int .u64 b] w fun e w' => e = .returned (.int .i64 1) ∧ Below w.heap.size w w' := by
  have HC := hid (check_in h s hs)
  clear h
  go_enter Tryd.func9, Tryd.ntmps9
  go_wp2_with fail
  refine HC.out.mono ?_
  rintro e w1 ⟨rfl, m, rfl⟩
  go_wp2_with fail
  go_ret
  exact ⟨rfl, below_drewN (Below.refl _ w) m⟩
/-- An empty entry can't be cleared. -/
theorem tclear_none (h : Tz w0 w G P hb x N ct A B) (s : Nat) (hs : s < 256) (h0 : A s = 0) : Calls Tryd.prog 14 #[.pointer (some ⟨hb, 0, none⟩), .int .i64 (s : Int)] w fun e w' => e = .returned (.int .i64 6) ∧ Below w.heap.size w w' := by
  obtain ⟨v, LF, B0, h1, _, _⟩ := h.ex
  have HC := hid (check_in h1.tb s hs)
  have HG : Hid (∀ m, Calls Tryd.prog 10 #[.pointer (some ⟨hb, 0, none⟩), .int .i64 (s : Int)] (w.drewN m) fun e w' => e = .returned (.tuple #[.int .u64 0, .int .u64 ((getB2 A B0 s : Nat) : Int)]) ∧ Below w.heap.size w w') := hid (fun m => by
    have := tget_any (h1.tb.drewN m) s hs
    rw [h0] at this
    exact this.mono (fun e w' h => ⟨h.1, (below_drewN (Below.refl _ w) m).trans h.2⟩))
  clear h h1 h0
  go_enter Tryd.func14, Tryd.ntmps14
  go_wp2_with fail
  refine HC.out.mono ?_
  rintro e w1 ⟨rfl, m, rfl⟩
  go_wp2_with fail
  refine (HG.out m).mono ?_
  rintro e w2 ⟨rfl, hb2⟩
  have HB2 := hid hb2
  clear hb2
  go_wp2_with fail
  go_ret
  exact ⟨rfl, HB2.out⟩
def ClPost (w0 w : World) (G : Nat → Prop) (P : Pp) (hb x N ct : Nat) (A B : Nat → Nat) (s : Nat) (w' : World) : Prop :=
  (∀ z, G z → w'.heap[z]? = w.heap[z]?) ∧ Tz w0 w' G P hb x N ct (now A s 0) B
set_option maxRecDepth 100000 in
set_option maxHeartbeats 4000000 in
theorem tclear_any (h : Tz w0 w G P hb x N ct A B) (s : Nat) (hs : s < 256) (h0 : A s ≠ 0) : Calls Tryd.prog 14 #[.pointer (some ⟨hb, 0, none⟩), .int .i64 (s : Int)] w fun e w' => e = .returned (.int .i64 0) ∧ Hid (ClPost w0 w G P hb x N ct A B s w') := by
  obtain ⟨v, LF, B0, h1, h2, h3⟩ := h.ex
  obtain ⟨n, hn⟩ : ∃ n, n = s / 16 := ⟨_, rfl⟩
  obtain ⟨j, hj⟩ : ∃ j, j = s % 16 := ⟨_, rfl⟩
  have hq : (s : Int).tdiv 16 = (n : Int) := by rw [Int.tdiv_eq_ediv_of_nonneg (by omega)]; omega
  have hm : (s : Int).tmod 16 = (j : Int) := by rw [Int.tmod_eq_emod_of_nonneg (by omega)]; omega
  have hn16 : n < 16 := by omega
  have hj16 : j < 16 := by omega
  have HSE := hid (And.intro hn (show s = 16 * n + j by omega))
  have HC := hid (check_in h1.tb s hs)
  have HG : Hid (∀ m, Calls Tryd.prog 10 #[.pointer (some ⟨hb, 0, none⟩), .int .i64 (s : Int)] (w.drewN m) fun e w' => e = .returned (.tuple #[.int .u64 ((A s : Nat) : Int), .int .u64 ((getB2 A B0 s : Nat) : Int)]) ∧ Below w.heap.size w w') := hid (fun m =>
    (tget_any (h1.tb.drewN m) s hs).mono (fun e w' h => ⟨h.1, (below_drewN (Below.refl _ w) m).trans h.2⟩))
  obtain ⟨q, i, hl⟩ : ∃ q i, LF n = some (q, i) := by
    cases e : LF n with
    | none => exact absurd (h1.tb.tm.no n hn16 e j hj16) (by rw [← HSE.out.2]; exact h0)
    | some p => exact ⟨p.1, p.2, rfl⟩
  have hin := h1.tb.llt hn16 hl
  obtain ⟨y, hy⟩ : ∃ y, y = place (cost 7) q i := ⟨_, rfl⟩
  have HL : Hid (∀ w1, Below w.heap.size w w1 → Calls Tryd.prog 34 #[.pointer (some ⟨hb, 0, none⟩), .int .i64 (n : Int)] w1 fun e w' => e = .returned (.int .i64 ((y : Nat) : Int)) ∧ Below w.heap.size w w') := hid (fun w1 hb1 => by
    have hL := leaf_any (h1.tb.below hb1) n hn16
    rw [hl] at hL
    exact hL.mono (fun e w' h => ⟨by rw [hy]; exact h.1, hb1.trans (h.2.mono hb1.size)⟩))
  rw [← hy] at hin
  have hy31 : y < 2147483648 := hin.2.1
  have HE : Hid (∀ w1, Calls Tryd.prog 33 #[.int .i64 (y : Int), .int .i64 (s : Int)] w1 fun e w' => e = .returned (.int .i64 ((y : Int) + (j : Int) * 16)) ∧ w' = w1) := hid (fun w1 => entryAt_any w1 y s j hy31 hj16 hm)
  have ha0 : (((A s : Nat) : Int) == 0) = false := by rw [beq_eq_false_iff_ne]; omega
  have HH := hid (And.intro h1 (And.intro h2 (And.intro h3 (And.intro hl (And.intro hy hin)))))
  clear h h1 h2 h3 hn hj hl hy hin h0 hm
  obtain ⟨aa, haa⟩ : ∃ aa, aa = A s := ⟨_, rfl⟩
  obtain ⟨bb, hbb⟩ : ∃ bb, bb = getB2 A B0 s := ⟨_, rfl⟩
  rw [← haa, ← hbb] at HG
  rw [← haa] at ha0
  clear haa hbb
  go_enter Tryd.func14, Tryd.ntmps14
  go_wp2_with fail
  refine HC.out.mono ?_
  rintro e w1 ⟨rfl, m, rfl⟩
  go_wp2_with fail
  refine (HG.out m).mono ?_
  rintro e w2 ⟨rfl, hb2⟩
  have HB2 := hid hb2
  clear hb2
  go_wp2_with fail
  refine (HL.out _ HB2.out).mono ?_
  rintro e w3 ⟨rfl, hb3⟩
  have h3 := HH.out.1.below hb3
  have c0 := h3.tb.c0
  have HA := hid h3.tb.pw.arena
  have HS := hid (h3.tb.pw.store2 (y + 16 * j) 0 0 ((y : Int) + (j : Int) * 16) (by omega) (by have := HH.out.2.2.2.2.2; omega) (by have := HH.out.2.2.2.2.2; omega) (by omega) (by omega))
  have HB3 := hid (And.intro hb3 h3)
  clear hb3 h3
  go_wp2_with (first
    | (go_at_call 17; refine HA.out.mono ?_; rintro e wx ⟨rfl, ex⟩; rw [ex]; clear ex wx)
    | (go_at_call 33; refine (HE.out _).mono ?_; rintro e wx ⟨rfl, ex⟩; rw [ex]; clear ex wx))
  refine HS.out.mono ?_
  rintro e w4 ⟨rfl, hp4, hk4⟩
  have h4 := HB3.out.2.set_ (n := n) (q := q) (i := i) (j := j) (a := 0) (b := 0) hn16 HH.out.2.2.2.1 hj16 (by decide) (by decide) (by rw [← HH.out.2.2.2.2.1]; exact hp4) (hk4 hb HB3.out.2.tb.g)
  rw [← HSE.out.2] at h4
  have HT := hid (trim_any h4 n q i hn16 HH.out.2.2.2.1)
  have HK : Hid (∀ z, G z → w4.heap[z]? = w.heap[z]?) := hid (fun z hz => (hk4 z hz).trans (HB3.out.1.block z (HH.out.1.tb.pw.glt hz)))
  clear hp4 hk4 h4
  go_wp2_with fail
  refine HT.out.mono ?_
  rintro e w5 ⟨rfl, hT⟩
  go_wp2_with fail
  go_ret
  obtain ⟨hk5, v', LF', h5, hl5, hl6⟩ := hT.out
  obtain ⟨h1, h2, h3, hl, hy, hin⟩ := HH.out
  obtain ⟨hnE, hsE⟩ := HSE.out
  refine ⟨rfl, hid ⟨fun z hz => (hk5 z hz).trans (HK.out z hz), v', LF', _, h5, fun m hm => ?_, fun s' hs' => ?_⟩⟩
  · by_cases e : m = n
    · subst e; exact hl6
    · rw [hl5 m e, h2 m hm, hasE_other (by omega)]
  · have e : s' ≠ s := fun e => hs' (by rw [e, now_at])
    rw [now_ne _ _ e] at hs' ⊢
    exact h3 s' hs'
/-- The slots that aren't empty. -/
def slotsL (A : Nat → Nat) (k : Nat) : List Nat := ones (fun s => A s != 0) k
set_option maxRecDepth 100000 in
set_option maxHeartbeats 4000000 in
theorem slots_any (h : Tb w0 w G P v hb x LF A B) : Calls Tryd.prog 15 #[.pointer (some ⟨hb, 0, none⟩)] w (SlabsPost w (slotsL A 256)) := by
  obtain ⟨i0, hi0, hz0, hz1, hz2⟩ := info_parts Qu.info3
  have HIF := hid (And.intro hi0 (And.intro hz0 (And.intro hz1 hz2)))
  have HQ := hid h
  clear h hi0 hz0 hz1 hz2
  go_enter Tryd.func15, Tryd.ntmps15
  go_wp2_with fail
  go_loopw [3, 7] (fun u t wr => ∃ k : Nat, k ≤ 256 ∧ t = .int .i64 k ∧ Hid (wr.ownsRow w.heap.size 3 1 u (slotsL A k).length (nums (slotsL A k))) ∧ Hid (Below w.heap.size w wr)) (fun _ t _ => 256 - (intOf t).toNat)
  case atStart => exact ⟨0, Nat.zero_le _, rfl, World.ownsRow_nil _ _ _ _, Below.refl _ _⟩
  case round =>
    obtain ⟨k, hk, rfl, hO, hX⟩ := hrel
    by_cases hlt : k < 256
    · have HG := hid (tget_any (HQ.out.below hX.out) k hlt)
      have hkl := ones_le (fun s => A s != 0) k
      have hsc := ones_succ (fun s => A s != 0) k
      by_cases h0 : A k = 0
      · have HK : Hid (slotsL A (k + 1) = slotsL A k) := hid (by unfold slotsL; rw [hsc]; simp [h0])
        rw [h0] at HG
        clear h0 hsc hkl
        go_wp2_with fail
        refine HG.out.mono ?_
        rintro e w5 ⟨rfl, hb5⟩
        have hX5 : Below w.heap.size w w5 := hX.out.trans (hb5.mono hX.out.size)
        have hO5 := hO.out.bel hb5 (Nat.le_refl _)
        have H5 := hid (And.intro hO5 hX5)
        clear hb5 hX5 hO5
        go_wp2_with fail
        exact ⟨⟨k + 1, by omega, by go_num, hid (by rw [HK.out]; exact H5.out.1), hid H5.out.2⟩, by simp [intOf]; omega⟩
      · have HK : Hid (slotsL A (k + 1) = slotsL A k ++ [k]) := hid (by unfold slotsL; rw [hsc]; simp [h0])
        have ha0 : (((A k : Nat) : Int) != 0) = true := by rw [bne_iff_ne]; omega
        have hkl' : (slotsL A k).length ≤ k := hkl
        clear h0 hsc hkl
        generalize slotsL A k = K at *
        generalize A k = ak at *
        generalize getB2 A B k = bk at *
        go_wp2_with fail
        refine HG.out.mono ?_
        rintro e w5 ⟨rfl, hb5⟩
        have hX5 : Below w.heap.size w w5 := hX.out.trans (hb5.mono hX.out.size)
        have hO5 := hO.out.bel hb5 (Nat.le_refl _)
        have H5 := hid (And.intro hO5 hX5)
        have hs5 := hX5.size
        clear hb5 hX5 hO5
        go_wp2_with (first
          | (at_builtin; refine wpList_append_own _ rfl _ _ 38 rfl w.heap.size 3 i0 (.int .i64 0) 1 8 Tryd.underlying38 HIF.out.1 HIF.out.2.1 HIF.out.2.2.1 HIF.out.2.2.2 rfl (by decide) _ _ _ rfl (H5.out.1.alloc _) ⟨w5.heap.size, 0, none⟩ 1 1 [.int .i64 (k : Int)] rfl rfl (one_new _ _ _) (one_cell _) (by unfold maxLen; omega) (by omega) (by simp; omega) ?_)
          | fail)
        intro v' w6 hown' hgrow _
        have hX6 : Below w.heap.size w w6 := Below.grown (H5.out.2.alloc hs5 _) hgrow (by simp; omega) (fun r hr => (Qu.own_block H5.out.1 r hr).1)
        have H6 := hid (And.intro hown' hX6)
        clear hown' hX6 hgrow
        go_wp2_with fail
        exact ⟨⟨k + 1, by omega, by go_num, hid (by rw [HK.out, List.length_append, nums_appT]; exact H6.out.1), hid H6.out.2⟩, by simp [intOf]; omega⟩
    · obtain rfl : k = 256 := by omega
      go_wp2_with fail
      go_ret
      exact ⟨_, rfl, hO.out, hX.out⟩
def leavesL (LF : Nat → Option (Nat × Nat)) (k : Nat) : List Nat := (ones (fun n => (LF n).isSome) k).map fun n => lfA (LF n)
theorem leavesL_len (LF : Nat → Option (Nat × Nat)) : (leavesL LF 16).length = kl LF := by unfold leavesL kl; rw [List.length_map, ones_len]
set_option maxRecDepth 100000 in
set_option maxHeartbeats 4000000 in
theorem leaves_any (h : Tb w0 w G P v hb x LF A B) : Calls Tryd.prog 11 #[.pointer (some ⟨hb, 0, none⟩)] w (SlabsPost w (leavesL LF 16)) := by
  obtain ⟨i0, hi0, hz0, hz1, hz2⟩ := info_parts Qu.info3
  have HIF := hid (And.intro hi0 (And.intro hz0 (And.intro hz1 hz2)))
  have HQ := hid h
  have HST := hid (stands_any h)
  clear h hi0 hz0 hz1 hz2
  go_enter Tryd.func11, Tryd.ntmps11
  go_wp2_with fail
  refine HST.out.mono ?_
  rintro e w1 ⟨rfl, m, rfl⟩
  have HBM := hid (below_drewN (Below.refl w.heap.size w) m)
  go_wp2_with fail
  go_loopw [3, 9] (fun u t wr => ∃ k : Nat, k ≤ 16 ∧ t = .int .i64 k ∧ Hid (wr.ownsRow w.heap.size 3 1 u (leavesL LF k).length (nums (leavesL LF k))) ∧ Hid (Below w.heap.size w wr)) (fun _ t _ => 16 - (intOf t).toNat)
  case atStart => exact ⟨0, Nat.zero_le _, rfl, World.ownsRow_nil _ _ _ _, HBM.out⟩
  case round =>
    obtain ⟨k, hk, rfl, hO, hX⟩ := hrel
    by_cases hlt : k < 16
    · have HG := hid (leaf_any (HQ.out.below hX.out) k hlt)
      have hkl := ones_le (fun n => (LF n).isSome) k
      have hsc := ones_succ (fun n => (LF n).isSome) k
      have hlf := HQ.out.tm.lfA_ne hlt
      have hlt31 := HQ.out.lfA_lt hlt
      by_cases h0 : LF k = none
      · have HK : Hid (leavesL LF (k + 1) = leavesL LF k) := hid (by unfold leavesL; rw [hsc]; simp [h0])
        rw [hlf.2 h0] at HG
        clear h0 hsc hkl hlf hlt31
        go_wp2_with fail
        refine HG.out.mono ?_
        rintro e w5 ⟨rfl, hb5⟩
        have hX5 : Below w.heap.size w w5 := hX.out.trans (hb5.mono hX.out.size)
        have hO5 := hO.out.bel hb5 (Nat.le_refl _)
        have H5 := hid (And.intro hO5 hX5)
        clear hb5 hX5 hO5
        go_wp2_with fail
        exact ⟨⟨k + 1, by omega, by go_num, hid (by rw [HK.out]; exact H5.out.1), hid H5.out.2⟩, by simp [intOf]; omega⟩
      · have hs0 : (LF k).isSome = true := by
          cases e : LF k with
          | none => exact absurd e h0
          | some p => rfl
        have HK : Hid (leavesL LF (k + 1) = leavesL LF k ++ [lfA (LF k)]) := hid (by unfold leavesL; rw [hsc]; simp [hs0])
        have ha1 : lfA (LF k) ≠ 0 := fun e => h0 (hlf.1 e)
        have ha0 : (((lfA (LF k) : Nat) : Int) != 0) = true := by rw [bne_iff_ne]; omega
        have hkl' : (leavesL LF k).length ≤ k := by unfold leavesL; rw [List.length_map]; exact hkl
        clear h0 hsc hkl hlf ha1 hs0
        generalize leavesL LF k = K at *
        generalize lfA (LF k) = ak at *
        go_wp2_with fail
        refine HG.out.mono ?_
        rintro e w5 ⟨rfl, hb5⟩
        have hX5 : Below w.heap.size w w5 := hX.out.trans (hb5.mono hX.out.size)
        have hO5 := hO.out.bel hb5 (Nat.le_refl _)
        have H5 := hid (And.intro hO5 hX5)
        have hs5 := hX5.size
        clear hb5 hX5 hO5
        go_wp2_with (first
          | (at_builtin; refine wpList_append_own _ rfl _ _ 38 rfl w.heap.size 3 i0 (.int .i64 0) 1 8 Tryd.underlying38 HIF.out.1 HIF.out.2.1 HIF.out.2.2.1 HIF.out.2.2.2 rfl (by decide) _ _ _ rfl (H5.out.1.alloc _) ⟨w5.heap.size, 0, none⟩ 1 1 [.int .i64 (ak : Int)] rfl rfl (one_new _ _ _) (one_cell _) (by unfold maxLen; omega) (by omega) (by simp; omega) ?_)
          | fail)
        intro v' w6 hown' hgrow _
        have hX6 : Below w.heap.size w w6 := Below.grown (H5.out.2.alloc hs5 _) hgrow (by simp; omega) (fun r hr => (Qu.own_block H5.out.1 r hr).1)
        have H6 := hid (And.intro hown' hX6)
        clear hown' hX6 hgrow
        go_wp2_with fail
        exact ⟨⟨k + 1, by omega, by go_num, hid (by rw [HK.out, List.length_append, nums_appT]; exact H6.out.1), hid H6.out.2⟩, by simp [intOf]; omega⟩
    · obtain rfl : k = 16 := by omega
      go_wp2_with fail
      go_ret
      exact ⟨_, rfl, hO.out, hX.out⟩
end
end Go.Proofs.YthpkmegjbehgaaaDoor
