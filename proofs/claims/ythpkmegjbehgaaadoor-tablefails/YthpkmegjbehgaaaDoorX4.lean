/- A table's functions that turn it: a leaf got and put back, an entry set and cleared. -/
import Derived.Test.YthpkmegjbehgaaaDoorX3
namespace Go.Proofs.YthpkmegjbehgaaaDoor
open Go.RowKit Go.Maps

theorem leafWord_raw (w : World) (hb x n : Nat) (c2 : w.cell? ⟨hb, 2, none⟩ = some (.int .i64 (x : Int))) (hx : x < 2147483648) (hn : n < 16) : Calls Tryd.prog 60 #[.pointer (some ⟨hb, 0, none⟩), .int .i64 (n : Int)] w fun e w' => e = .returned (.int .i64 ((x : Int) + (n : Int) * 8)) ∧ w' = w := by
  go_enter Tryd.func60, Tryd.ntmps60
  go_wp2_with fail
  go_ret
  exact ⟨rfl, rfl⟩
section
variable {w0 w w' : World} {G : Nat → Prop} {P : Pp} {v : Pv} {hb x N ct : Nat} {LF : Nat → Option (Nat × Nat)} {A B : Nat → Nat}
theorem Pw.glt (h : Pw w0 w G P v) {y : Nat} (hy : G y) : y < w.heap.size := by
  obtain ⟨tag, h1, h2, h3, h4⟩ := h
  exact (h4 y hy).1
theorem Pw.store1 (h : Pw w0 w G P v) (a : Nat) (z ai : Int) (hai : (a : Int) = ai) (ha : a + 8 ≤ v.m.length) (h8 : a % 8 = 0) (hz : 0 ≤ z ∧ z < 18446744073709551616) :
    Calls Tryd.prog 32 #[.pointer (some ⟨P.ab, 0, none⟩), .int .i64 ai, .slice (some ⟨w.heap.size, 0, none⟩) 1 1] (w.alloc (.cells #[.int .u64 z] 31)) fun e w' =>
      e = .returned (.int .i64 0) ∧ Pw w0 w' G P { v with m := Ar.putAt v.m a (Ar.wordsBytes [z]) } ∧ ∀ y, G y → w'.heap[y]? = w.heap[y]? := by
  have hb4 : Below w.heap.size w (w.alloc (.cells #[.int .u64 z] 31)) := (Below.refl _ _).alloc (Nat.le_refl _) _
  rw [← hai]
  refine ((h.plus hb4).store a [z] w.heap.size 0 1 (by simpa using ha) h8 (.inr ⟨Nat.le_refl _, by simp⟩) (fun j hj => by
    have e : j = 0 := by simp at hj; omega
    subst e
    rw [cell_of_row _ _ _ _ _ _ (heap_alloc_new _ _)]; rfl) (fun j => by
    rcases Nat.eq_zero_or_pos j with e | e
    · subst e; exact hz
    · rw [List.getElem?_eq_none (by simp; omega)]; decide)).mono ?_
  rintro e w' ⟨rfl, h4, hk⟩
  exact ⟨rfl, h4.fewer (fun x hx => .inl hx), fun y hy => (hk y (.inl hy)).trans (hb4.block y (h.glt hy))⟩
theorem Pw.store2 (h : Pw w0 w G P v) (a : Nat) (z u ai : Int) (hai : (a : Int) = ai) (ha : a + 16 ≤ v.m.length) (h8 : a % 8 = 0) (hz : 0 ≤ z ∧ z < 18446744073709551616) (hu : 0 ≤ u ∧ u < 18446744073709551616) :
    Calls Tryd.prog 32 #[.pointer (some ⟨P.ab, 0, none⟩), .int .i64 ai, .slice (some ⟨w.heap.size, 0, none⟩) 2 2] (w.alloc (.cells #[.int .u64 z, .int .u64 u] 31)) fun e w' =>
      e = .returned (.int .i64 0) ∧ Pw w0 w' G P { v with m := Ar.putAt v.m a (Ar.wordsBytes [z, u]) } ∧ ∀ y, G y → w'.heap[y]? = w.heap[y]? := by
  have hb4 : Below w.heap.size w (w.alloc (.cells #[.int .u64 z, .int .u64 u] 31)) := (Below.refl _ _).alloc (Nat.le_refl _) _
  rw [← hai]
  refine ((h.plus hb4).store a [z, u] w.heap.size 0 2 (by simpa using ha) h8 (.inr ⟨Nat.le_refl _, by simp⟩) (fun j hj => by
    rw [cell_of_row _ _ _ _ _ _ (heap_alloc_new _ _)]
    have e : j = 0 ∨ j = 1 := by simp at hj; omega
    rcases e with rfl | rfl <;> rfl) (fun j => by
    by_cases e0 : j = 0
    · subst e0; exact hz
    · by_cases e1 : j = 1
      · subst e1; exact hu
      · rw [List.getElem?_eq_none (by simp; omega)]; decide)).mono ?_
  rintro e w' ⟨rfl, h4, hk⟩
  exact ⟨rfl, h4.fewer (fun x hx => .inl hx), fun y hy => (hk y (.inl hy)).trans (hb4.block y (h.glt hy))⟩

/-- A leaf asked of the pool. -/
def Got7 (w0 w : World) (G : Nat → Prop) (P : Pp) (v : Pv) (hb x : Nat) (LF : Nat → Option (Nat × Nat)) (A B : Nat → Nat) (N ct : Nat) (y er : Int) (w' : World) : Prop :=
  (∀ z, G z → w'.heap[z]? = w.heap[z]?) ∧ ((er = 5 ∧ y = 0 ∧ N < 128 + 256 * (kl LF + 1) ∧ ∃ v', Ty w0 w' G P v' hb x LF A B N (ct + 1)) ∨
    (er = 0 ∧ ∃ q i B' U', y = ((place (cost 7) q i : Nat) : Int) ∧ GotIt P v 0 7 q i B' U' ∧ Pw w0 w' G P (gotV v 0 7 q i B' U')))
theorem Ty.get7 (h : Ty w0 w G P v hb x LF A B N ct) (hct : ct ≤ 1000000) : Calls Tryd.prog 7 #[.pointer (some ⟨P.pb, 0, none⟩), .int .i64 0, .int .i64 7] w fun e w' => ∃ y er : Int, e = .returned (.tuple #[.int .i64 y, .int .i64 er]) ∧ Hid (Got7 w0 w G P v hb x LF A B N ct y er w') := by
  refine (h.tb.pw.get (by have := h.ct; omega) 0 7).mono ?_
  rintro e w2 ⟨hk, ⟨er, rfl, h0, hn, hp⟩ | ⟨k, q, i, B', U', hc, rfl, hg, hp⟩⟩
  · obtain ⟨rfl, hN⟩ := h.noget h0 hn
    refine ⟨0, 5, rfl, hk, .inl ⟨rfl, rfl, hN, { v with ct := v.ct + 1 }, ⟨⟨hp, h.tb.g, (hk _ h.tb.g).trans h.tb.hd, ⟨h.tb.tm.tk, h.tb.tm.us, h.tb.tm.un, h.tb.tm.lf, h.tb.tm.en, h.tb.tm.no, h.tb.tm.sm⟩⟩, ⟨h.sm.l, h.sm.sum, h.sm.ex, h.sm.le⟩, h.l2, h.l7, h.lo, ?_, h.hK⟩⟩⟩
    have := h.ct
    show v.ct + 1 ≤ _
    omega
  · have e1 : k = 7 := by have := hc.1; omega
    subst e1
    exact ⟨_, 0, rfl, hk, .inr ⟨rfl, q, i, B', U', rfl, hg, hp⟩⟩

def RePost (w0 w : World) (G : Nat → Prop) (P : Pp) (hb x : Nat) (LF : Nat → Option (Nat × Nat)) (A B : Nat → Nat) (N ct n : Nat) (y er : Int) (w' : World) : Prop :=
  (∀ z, G z → w'.heap[z]? = w.heap[z]?) ∧
  ((er = 0 ∧ (LF n ≠ none ∨ 128 + 256 * (kl LF + 1) ≤ N) ∧ ∃ v' LF' B' q i, y = ((place (cost 7) q i : Nat) : Int) ∧ Ty w0 w' G P v' hb x LF' A B' N (ct + 1) ∧ LF' n = some (q, i) ∧ (∀ m, m ≠ n → LF' m = LF m) ∧ ∀ s, A s ≠ 0 → B' s = B s) ∨
   (er = 5 ∧ LF n = none ∧ N < 128 + 256 * (kl LF + 1) ∧ ∃ v', Ty w0 w' G P v' hb x LF A B N (ct + 1)))
set_option maxRecDepth 100000 in
set_option maxHeartbeats 4000000 in
theorem reach_any (h : Ty w0 w G P v hb x LF A B N ct) (hct : ct ≤ 1000000) (n : Nat) (hn : n < 16) : Calls Tryd.prog 31 #[.pointer (some ⟨hb, 0, none⟩), .int .i64 (n : Int)] w fun e w' => ∃ y er : Int, e = .returned (.tuple #[.int .i64 y, .int .i64 er]) ∧ RePost w0 w G P hb x LF A B N ct n y er w' := by
  have HL := hid (leaf_any h.tb n hn)
  have HH := hid h
  have hx := h.tb.xlt.2
  clear h
  cases hl : LF n with
  | some p =>
    obtain ⟨q, i⟩ := p
    have HLE := hid hl
    have hin := HH.out.tb.llt hn hl
    have hlo := (HH.out.tb.tm.l_in hn hl).2.1
    rw [hl] at HL
    have HL' : Hid (Calls Tryd.prog 34 #[.pointer (some ⟨hb, 0, none⟩), .int .i64 (n : Int)] w fun e w' => e = .returned (.int .i64 ((place (cost 7) q i : Nat) : Int)) ∧ Below w.heap.size w w') := HL
    obtain ⟨y, hy⟩ : ∃ y, y = place (cost 7) q i := ⟨_, rfl⟩
    rw [← hy] at hin hlo HL'
    have HY := hid hy
    have hy0 : ((y : Int) != 0) = true := by rw [bne_iff_ne]; omega
    clear hl hin hlo hy HL
    go_enter Tryd.func31, Tryd.ntmps31
    go_wp2_with fail
    refine HL'.out.mono ?_
    rintro e w1 ⟨rfl, hb1⟩
    have HB := hid hb1
    clear hb1
    go_wp2_with fail
    go_ret2
    refine ⟨_, _, rfl, fun z hz => HB.out.block z (HH.out.tb.pw.glt hz), .inl ⟨rfl, .inl (by rw [HLE.out]; simp), v, LF, B, q, i, by rw [HY.out], (HH.out.below HB.out).more, HLE.out, fun _ _ => rfl, fun _ _ => rfl⟩⟩
  | none =>
    have HLE := hid hl
    rw [hl] at HL
    have HL' : Hid (Calls Tryd.prog 34 #[.pointer (some ⟨hb, 0, none⟩), .int .i64 (n : Int)] w fun e w' => e = .returned (.int .i64 0) ∧ Below w.heap.size w w') := HL
    clear hl HL
    go_enter Tryd.func31, Tryd.ntmps31
    go_wp2_with fail
    refine HL'.out.mono ?_
    rintro e w1 ⟨rfl, hb1⟩
    have h1 := HH.out.below hb1
    have c0 := h1.tb.c0
    have c1 := h1.tb.c1
    have HG := hid ((h1.below (show Below w1.heap.size w1 w1.drew from below_drewN (Below.refl _ w1) 1)).get7 hct)
    have HB := hid (And.intro hb1 h1)
    clear hb1 h1
    go_wp2_with fail
    go_region_held3 (fun W => W.cell? ⟨hb, 0, none⟩ = some (.pointer (some ⟨P.pb, 0, none⟩)) ∧ W.cell? ⟨hb, 1, none⟩ = some (.int .i64 0)) (first | exact ⟨c0, c1⟩ | exact ⟨d0, d1⟩) (first
      | (go_at_call 7; refine HG.out.mono ?_; rintro e w2 ⟨y, er, rfl, hG7⟩; have d0 : w2.cell? ⟨hb, 0, none⟩ = some (.pointer (some ⟨P.pb, 0, none⟩)) := (World.cell?_of_block (hG7.out.1 hb HH.out.tb.g)).trans c0; have d1 : w2.cell? ⟨hb, 1, none⟩ = some (.int .i64 0) := (World.cell?_of_block (hG7.out.1 hb HH.out.tb.g)).trans c1))
    have hkeep : Hid (∀ z, G z → w2.heap[z]? = w.heap[z]?) := hid (fun z hz => (hG7.out.1 z hz).trans (HB.out.1.block z (HH.out.tb.pw.glt hz)))
    rcases hG7.out.2 with ⟨rfl, rfl, hN, hv⟩ | ⟨rfl, q, i, B', U', hy, hg, hp⟩
    · have HV := hid (And.intro hN hv)
      clear hN hv hG7
      go_wp2_with fail
      go_ret2
      exact ⟨_, _, rfl, hkeep.out, .inr ⟨rfl, HLE.out, HV.out.1, HV.out.2⟩⟩
    · have hN := HB.out.2.got hg
      have hpi := place_hi (by decide) (by decide) hg.tk.lt hg.qN
      have hK := HH.out.hK
      have d2 : w2.cell? ⟨hb, 2, none⟩ = some (.int .i64 (x : Int)) := (World.cell?_of_block (hkeep.out hb HH.out.tb.g)).trans HH.out.tb.c2
      have hxl := HH.out.tb.xlt.1
      have hlen2 := hp.len
      have hxa := HH.out.tb.tm.x_in
      rw [hK] at hpi hlen2 hxa
      have e6 : (2 : Nat) ^ 6 = 64 := by decide
      have HW := hid (leafWord_raw w2 hb x n d2 hx hn)
      have HS := hid (hp.store1 (x + 8 * n) y ((x : Int) + (n : Int) * 8) (by omega) (by omega) (by omega) (by omega))
      have HA := hid hp.arena
      have hwy : IntKind.u64.wrap y = y := by rw [IntKind.wrap_u64]; omega
      have HY := hid (And.intro hy (And.intro hg (And.intro hp hN)))
      clear hy hg hpi hp hlen2 hxl hxa hN hK e6 hG7
      go_wp2_with (first
        | (go_at_call 17; refine HA.out.mono ?_; rintro e wx ⟨rfl, ex⟩; rw [ex]; clear ex wx)
        | (go_at_call 60; refine HW.out.mono ?_; rintro e wx ⟨rfl, ex⟩; rw [ex]; clear ex wx))
      refine HS.out.mono ?_
      rintro e w3 ⟨rfl, hp3, hk3⟩
      have H3 := hid (And.intro hp3 hk3)
      clear hp3 hk3
      go_wp2_with fail
      go_ret2
      obtain ⟨hy, hg, hp, hN⟩ := HY.out
      subst hy
      refine ⟨_, _, rfl, fun z hz => (H3.out.2 z hz).trans (hkeep.out z hz), .inl ⟨rfl, .inr hN, _, _, _, q, i, rfl, HH.out.reach_ hg hn HLE.out hp H3.out.1 ((H3.out.2 hb HH.out.tb.g).trans (hkeep.out hb HH.out.tb.g)), now_at _ _ _, fun m hm => now_ne _ _ hm, fun s hs => ?_⟩⟩
      show (if _ then _ else _) = _
      rw [if_neg]
      intro e
      exact hs (by have := HH.out.tb.tm.no n hn HLE.out (s % 16) (by omega); rwa [show 16 * n + s % 16 = s by omega] at this)

/-- Behind a Set. -/
def SetPost (w0 w : World) (G : Nat → Prop) (P : Pp) (hb x N ct : Nat) (A B : Nat → Nat) (s a b : Nat) (er : Int) (w' : World) : Prop :=
  (∀ z, G z → w'.heap[z]? = w.heap[z]?) ∧
  ((er = 0 ∧ (hasE A (s / 16) = true ∨ 128 + 256 * (nlA A + 1) ≤ N) ∧ Tz w0 w' G P hb x N (ct + 1) (now A s a) (now B s b)) ∨
   (er = 5 ∧ hasE A (s / 16) = false ∧ N < 128 + 256 * (nlA A + 1) ∧ Tz w0 w' G P hb x N (ct + 1) A B))
set_option maxRecDepth 100000 in
set_option maxHeartbeats 4000000 in
theorem tset_any (h : Tz w0 w G P hb x N ct A B) (hct : ct ≤ 1000000) (s a b : Nat) (hs : s < 256) (ha : a ≠ 0) (ha2 : a < 18446744073709551616) (hb2 : b < 18446744073709551616) :
    Calls Tryd.prog 9 #[.pointer (some ⟨hb, 0, none⟩), .int .i64 (s : Int), .int .u64 (a : Int), .int .u64 (b : Int)] w fun e w' => ∃ er : Int, e = .returned (.int .i64 er) ∧ Hid (SetPost w0 w G P hb x N ct A B s a b er w') := by
  obtain ⟨v, LF, B0, h1, h2, h3⟩ := h.ex
  obtain ⟨n, hn⟩ : ∃ n, n = s / 16 := ⟨_, rfl⟩
  obtain ⟨j, hj⟩ : ∃ j, j = s % 16 := ⟨_, rfl⟩
  have hq : (s : Int).tdiv 16 = (n : Int) := by rw [Int.tdiv_eq_ediv_of_nonneg (by omega)]; omega
  have hm : (s : Int).tmod 16 = (j : Int) := by rw [Int.tmod_eq_emod_of_nonneg (by omega)]; omega
  have hn16 : n < 16 := by omega
  have hj16 : j < 16 := by omega
  have HSE := hid (And.intro hn (show s = 16 * n + j by omega))
  have hkl := kl_nlA h2
  have hsn := h2 n hn16
  have HC := hid (check_in h1.tb s hs)
  have HR : Hid (∀ m, Calls Tryd.prog 31 #[.pointer (some ⟨hb, 0, none⟩), .int .i64 (n : Int)] (w.drewN m) fun e w' => ∃ y er : Int, e = .returned (.tuple #[.int .i64 y, .int .i64 er]) ∧ RePost w0 w G P hb x LF A B0 N ct n y er w') := hid (fun m => reach_any (h1.below (below_drewN (Below.refl _ w) m)) hct n hn16)
  have HH := hid (And.intro h1 (And.intro h2 (And.intro h3 (And.intro hkl hsn))))
  have ha0 : ((a : Int) == 0) = false := by rw [beq_eq_false_iff_ne]; omega
  have HA0 := hid ha
  clear h h1 h2 h3 hn hj hkl hsn ha
  go_enter Tryd.func9, Tryd.ntmps9
  go_wp2_with fail
  refine HC.out.mono ?_
  rintro e w1 ⟨rfl, m, rfl⟩
  go_wp2_with fail
  refine (HR.out m).mono ?_
  rintro e w2 ⟨y, er, rfl, hkeep, ⟨rfl, hor, v', LF', B', q, i, rfl, h4, hl4, hl5, hB'⟩ | ⟨rfl, hl, hN, v', h4⟩⟩
  · have hin := h4.tb.llt hn16 hl4
    have HA := hid h4.tb.pw.arena
    have d0 := h4.tb.c0
    have HS := hid (h4.tb.pw.store2 (place (cost 7) q i + 16 * j) (a : Int) (b : Int) ((place (cost 7) q i : Int) + (j : Int) * 16) (by omega) (by omega) (by omega) (by omega) (by omega))
    have HE : Hid (∀ w1, Calls Tryd.prog 33 #[.int .i64 ((place (cost 7) q i : Nat) : Int), .int .i64 (s : Int)] w1 fun e w' => e = .returned (.int .i64 (((place (cost 7) q i : Nat) : Int) + (j : Int) * 16)) ∧ w' = w1) := hid (fun w1 => entryAt_any w1 _ s j (by omega) hj16 hm)
    have H4 := hid (And.intro hkeep (And.intro hor (And.intro h4 (And.intro hl4 (And.intro hl5 hB')))))
    have hq31 := hin.2.1
    clear hkeep hor h4 hl4 hl5 hB' hin hm HR
    obtain ⟨z, hz⟩ : ∃ z, z = place (cost 7) q i := ⟨_, rfl⟩
    rw [← hz] at HS HE hq31 ⊢
    have HZ := hid hz
    clear hz
    go_wp2_with (first
      | (go_at_call 17; refine HA.out.mono ?_; rintro e wx ⟨rfl, ex⟩; rw [ex]; clear ex wx)
      | (go_at_call 33; refine (HE.out _).mono ?_; rintro e wx ⟨rfl, ex⟩; rw [ex]; clear ex wx))
    refine HS.out.mono ?_
    rintro e w3 ⟨rfl, hp3, hk3⟩
    have H3 := hid (And.intro hp3 hk3)
    clear hp3 hk3
    go_wp2_with fail
    go_ret
    obtain ⟨hkeep, hor, h4, hl4, hl5, hB'⟩ := H4.out
    obtain ⟨h1, h2, h3, hkl, hsn⟩ := HH.out
    obtain ⟨hnE, hsE⟩ := HSE.out
    have hd3 := (H3.out.2 hb h4.tb.g)
    have h5 := h4.set_ hn16 hl4 hj16 ha2 hb2 (by rw [← HZ.out]; exact H3.out.1) hd3
    rw [← hsE] at h5
    refine ⟨0, rfl, hid ⟨fun z hz => (H3.out.2 z hz).trans (hkeep z hz), .inl ⟨rfl, ?_, ⟨_, _, _, h5, fun m hm => ?_, fun s' hs' => ?_⟩⟩⟩⟩
    · rw [← hnE, ← hkl]
      refine hor.imp (fun e => hsn.1 ?_) id
      cases e2 : LF n with
      | none => exact absurd e2 e
      | some p => rfl
    · by_cases e : m = n
      · subst e
        rw [hl4, hnE, hasE_set HA0.out]
        simp
      · rw [hl5 m e, h2 m hm, hasE_other (by omega)]
    · by_cases e : s' = s
      · subst e; rw [now_at, now_at]
      · rw [now_ne _ _ e] at hs'
        rw [now_ne _ _ e, now_ne _ _ e, hB' s' hs', h3 s' hs']
  · have H4 := hid (And.intro hkeep (And.intro hl (And.intro hN h4)))
    clear hkeep hl hN h4 HR
    go_wp2_with fail
    go_ret
    obtain ⟨hkeep, hl, hN, h4⟩ := H4.out
    obtain ⟨h1, h2, h3, hkl, hsn⟩ := HH.out
    obtain ⟨hnE, hsE⟩ := HSE.out
    refine ⟨5, rfl, hid ⟨hkeep, .inr ⟨rfl, ?_, by rw [← hkl]; exact hN, ⟨v', LF, B0, h4, h2, h3⟩⟩⟩⟩
    rw [hl] at hsn
    rw [← hnE]
    cases e : hasE A n with
    | false => rfl
    | true => exact absurd (hsn.2 e) (by simp)
end
end Go.Proofs.YthpkmegjbehgaaaDoor
