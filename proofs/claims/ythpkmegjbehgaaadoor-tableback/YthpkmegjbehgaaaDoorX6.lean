/- A table: how many leaves would be got; the table of a place; a pool whose first place is a task's. -/
import Derived.Test.YthpkmegjbehgaaaDoorX5
namespace Go.Proofs.YthpkmegjbehgaaaDoor
open Go.RowKit Go.Maps

/-- A row of numbers that can be read. -/
def Nrow (w : World) (a : Option Addr) (l : List Int) : Prop :=
  l.length = 0 ∨ ∃ s o, a = some ⟨s, o, none⟩ ∧ s < w.heap.size ∧ ∀ j, j < l.length → w.cell? ⟨s, o + j, none⟩ = some (.int .i64 (l[j]?.getD 0))
theorem Nrow.below {w w' : World} {a : Option Addr} {l : List Int} (h : Nrow w a l) (hb : Below w.heap.size w w') : Nrow w' a l := by
  rcases h with h | ⟨s, o, e, hs, hc⟩
  · exact .inl h
  · exact .inr ⟨s, o, e, Nat.lt_of_lt_of_le hs hb.size, fun j hj => (hb.cell (p := ⟨s, o + j, none⟩) hs).trans (hc j hj)⟩
theorem Nrow.at {w : World} {a : Option Addr} {l : List Int} (h : Nrow w a l) {k : Nat} (hk : k < l.length) : ∃ s o, a = some ⟨s, o, none⟩ ∧ s < w.heap.size ∧ w.cell? ⟨s, o + k, none⟩ = some (.int .i64 (l[k]?.getD 0)) := by
  rcases h with h | ⟨s, o, e, hs, hc⟩
  · omega
  · exact ⟨s, o, e, hs, hc k hk⟩
/-- The slot is one of the n-th leaf. -/
def onLeaf (s : Int) (n : Nat) : Bool := decide (0 ≤ s) && decide (s < 256) && decide (s.toNat / 16 = n)
theorem onLeaf_of {s n : Nat} (hs : s < 256) : onLeaf (s : Int) n = true ↔ s / 16 = n := by
  unfold onLeaf
  simp
  omega
theorem onLeaf_no {s : Int} {n : Nat} (hs : s < 0 ∨ 256 ≤ s) : onLeaf s n = false := by
  unfold onLeaf
  rcases hs with hs | hs
  · simp; omega
  · simp; omega
/-- A leaf that would be got. -/
def needF (LF : Nat → Option (Nat × Nat)) (l : List Int) (n : Nat) : Bool := (LF n).isNone && l.any fun s => onLeaf s n
theorem needF_snoc (LF : Nat → Option (Nat × Nat)) (l : List Int) (s : Int) (n : Nat) : needF LF (l ++ [s]) n = (needF LF l n || ((LF n).isNone && onLeaf s n)) := by
  unfold needF
  simp [List.any_append, Bool.and_or_distrib_left]
theorem take_snocI {l : List Int} {k : Nat} (hk : k < l.length) : l.take (k + 1) = l.take k ++ [l[k]?.getD 0] := by
  rw [List.take_add_one, List.getElem?_eq_getElem hk]; rfl
theorem count16 {ws : List Nat} (h : Okm 16 ws) : count ws = cnt (bit ws) 16 := by
  have hl : ws.length = 1 := h.len
  have hz : ∀ i, 16 ≤ i → i < 64 → bit ws i = false := fun i h1 h2 => h.off i h1
  unfold count
  rw [total_eq, hl, show 64 * 1 = 16 + 48 by decide, cnt_add]
  have : cnt (fun j => bit ws (16 + j)) 48 = cnt (fun _ => false) 48 := cnt_congr (fun i hi => hz _ (by omega) (by omega))
  rw [this]
  have e : cnt (fun _ => false) 48 = 0 := by decide
  omega
section
variable {w0 w w' : World} {G : Nat → Prop} {P : Pp} {v : Pv} {hb x N ct : Nat} {LF : Nat → Option (Nat × Nat)} {A B : Nat → Nat}
set_option maxRecDepth 100000 in
set_option maxHeartbeats 4000000 in
theorem need_any (h : Tb w0 w G P v hb x LF A B) (l : List Int) (a : Option Addr) (cap : Nat) (hI : Nrow w a l) (hl : l.length ≤ 1000000) :
    Calls Tryd.prog 16 #[.pointer (some ⟨hb, 0, none⟩), .slice a l.length cap] w fun e w' => e = .returned (.int .i64 ((cnt (needF LF l) 16 : Nat) : Int)) ∧ Below w.heap.size w w' := by
  have HH := hid h
  have HI := hid hI
  clear h hI
  go_enter Tryd.func16, Tryd.ntmps16
  go_wp2_with fail
  refine (new_ok 16 w (by decide)).mono ?_
  rintro e w1 ⟨b, g, rfl, hB, hb1, hlb, hlg⟩
  have H1 := hid (And.intro hB (And.intro hb1 (And.intro hlb hlg)))
  clear hB hb1 hlb hlg
  go_wp2_with fail
  go_loopw [12] (fun t wr => ∃ (k : Nat) (ws : List Nat), k ≤ l.length ∧ t = .int .i64 (k : Int) ∧ Hid (Bits wr b g 16 ws ∧ Below w.heap.size w wr ∧ ∀ i, i < 16 → bit ws i = needF LF (l.take k) i)) (fun t _ => l.length - (intOf t).toNat)
  case atStart =>
    refine ⟨0, _, Nat.zero_le _, rfl, H1.out.1, H1.out.2.1, fun i hi => ?_⟩
    have : bit (List.replicate ((16 + 63) / 64) 0) i = false := by
      unfold bit
      rw [show (List.replicate ((16 + 63) / 64) 0)[i / 64]?.getD 0 = 0 from by rw [List.getElem?_replicate]; split <;> rfl]
      exact Nat.zero_testBit _
    rw [this]
    simp [needF]
  case round =>
    obtain ⟨k, ws, hk, rfl, HX⟩ := hrel
    by_cases hkl : k = l.length
    · subst hkl
      have HC := hid (count_any b g 16 ws wr HX.out.1)
      go_wp2_with (go_at_call 42; refine HC.out.mono ?_; rintro e wx ⟨rfl, ex⟩; rw [ex]; clear ex wx)
      go_ret
      refine ⟨?_, HX.out.2.1⟩
      rw [count16 HX.out.1.ok, cnt_congr HX.out.2.2, List.take_length]
      rfl
    · have hk2 : k < l.length := by omega
      obtain ⟨s, o, rfl, hs, hc⟩ := HI.out.at hk2
      have hc' := (HX.out.2.1.cell (p := ⟨s, o + k, none⟩) hs).trans hc
      have HTK := hid (take_snocI hk2)
      obtain ⟨z, hz⟩ : ∃ z, z = l[k]?.getD 0 := ⟨_, rfl⟩
      rw [← hz] at hc' HTK
      clear hc hz
      by_cases hin : 0 ≤ z ∧ z < 256
      · obtain ⟨sn, rfl⟩ := Int.eq_ofNat_of_zero_le hin.1
        have hsn : sn < 256 := by omega
        have HCK := hid (check_in (HH.out.below HX.out.2.1) sn hsn)
        obtain ⟨n, hn⟩ : ∃ n, n = sn / 16 := ⟨_, rfl⟩
        have hq : (sn : Int).tdiv 16 = (n : Int) := by rw [Int.tdiv_eq_ediv_of_nonneg (by omega)]; omega
        have hn16 : n < 16 := by omega
        have HON := hid (fun i => show onLeaf (sn : Int) i = true ↔ i = n by rw [onLeaf_of hsn, hn]; exact eq_comm)
        have HLE : Hid (∀ m, Calls Tryd.prog 34 #[.pointer (some ⟨hb, 0, none⟩), .int .i64 (n : Int)] (wr.drewN m) fun e w' => e = .returned (.int .i64 ((lfA (LF n) : Nat) : Int)) ∧ Below wr.heap.size wr w') := hid (fun m => (leaf_any ((HH.out.below HX.out.2.1).drewN m) n hn16).mono (fun e w' h => ⟨h.1, (below_drewN (Below.refl _ wr) m).trans h.2⟩))
        have hlz := HH.out.tm.lfA_ne hn16
        have hl31 := HH.out.lfA_lt hn16
        clear hin hn
        by_cases h0 : LF n = none
        · have HL0 := hid h0
          rw [hlz.2 h0] at HLE
          clear h0 hlz hl31
          go_wp2_with fail
          refine HCK.out.mono ?_
          rintro e w3 ⟨rfl, m, rfl⟩
          go_wp2_with fail
          refine (HLE.out m).mono ?_
          rintro e w4 ⟨rfl, hb4⟩
          have hB4 := HX.out.1.below hb4
          have hb4' : Below w4.heap.size w4 (w4.alloc (.cells #[.int .i64 (n : Int)] 3)) := (Below.refl _ _).alloc (Nat.le_refl _) _
          have HS := hid (set_any b g 16 ws true [(n : Int)] (some ⟨w4.heap.size, 0, none⟩) 1 (w4.alloc (.cells #[.int .i64 (n : Int)] 3)) (hB4.below hb4') (.inr ⟨w4.heap.size, 0, rfl, by have := hB4.lt.2; omega, by simp, fun j hj => by
            have e : j = 0 := by simp at hj; omega
            subst e
            rw [cell_of_row _ _ _ _ _ _ (heap_alloc_new _ _)]; rfl⟩) (by simp))
          have H4 := hid (And.intro hb4 hb4')
          clear hb4 hb4' hB4
          go_wp2_with fail
          refine HS.out.mono ?_
          rintro e w5 ⟨rfl, hB5, hbut⟩
          have hX := HX.out.2.1
          have hx4 : Below w.heap.size w w4 := hX.trans (H4.out.1.mono hX.size)
          have hx5 : Below w.heap.size w (w4.alloc (.cells #[.int .i64 (n : Int)] 3)) := hx4.trans (H4.out.2.mono hx4.size)
          have hx6 : Below w.heap.size w w5 := Below.of_but hx5 hx5.size hbut H1.out.2.2.2
          have H5 := hid (And.intro hB5 hx6)
          clear hB5 hbut hX hx4 hx5 hx6
          go_wp2_with fail
          refine ⟨⟨k + 1, _, by omega, by go_num, hid ⟨H5.out.1, H5.out.2, fun i hi => ?_⟩⟩, by simp [intOf]; omega⟩
          rw [HTK.out, needF_snoc, ← HX.out.2.2 i hi, setAll_bit true HX.out.1.ok]
          by_cases e : i = n
          · subst e
            rw [if_pos ⟨hi, by simp⟩, HL0.out, (HON.out i).2 rfl]
            simp
          · rw [if_neg (fun h => e (by have := h.2; simp at this; omega))]
            have : onLeaf (sn : Int) i = false := by
              cases e2 : onLeaf (sn : Int) i with
              | false => rfl
              | true => exact absurd ((HON.out i).1 e2) e
            rw [this]; simp
        · have HL0 := hid h0
          have hne : lfA (LF n) ≠ 0 := fun e => h0 (hlz.1 e)
          have ha0 : (((lfA (LF n) : Nat) : Int) == 0) = false := by rw [beq_eq_false_iff_ne]; omega
          clear h0 hlz hne
          generalize lfA (LF n) = y at *
          go_wp2_with fail
          refine HCK.out.mono ?_
          rintro e w3 ⟨rfl, m, rfl⟩
          go_wp2_with fail
          refine (HLE.out m).mono ?_
          rintro e w4 ⟨rfl, hb4⟩
          have H4 := hid hb4
          clear hb4
          go_wp2_with fail
          refine ⟨⟨k + 1, ws, by omega, by go_num, hid ⟨HX.out.1.below H4.out, HX.out.2.1.trans (H4.out.mono HX.out.2.1.size), fun i hi => ?_⟩⟩, by simp [intOf]; omega⟩
          rw [HTK.out, needF_snoc, ← HX.out.2.2 i hi]
          by_cases e : i = n
          · subst e
            have : (LF i).isNone = false := by
              cases e2 : LF i with
              | none => exact absurd e2 HL0.out
              | some p => rfl
            rw [this]; simp
          · have : onLeaf (sn : Int) i = false := by
              cases e2 : onLeaf (sn : Int) i with
              | false => rfl
              | true => exact absurd ((HON.out i).1 e2) e
            rw [this]; simp
      · have hout : z < 0 ∨ 256 ≤ z := by omega
        have HCK := hid (check_out (HH.out.below HX.out.2.1) z hout)
        have HON := hid (fun i => onLeaf_no (s := z) (n := i) hout)
        clear hin hout
        go_wp2_with fail
        refine HCK.out.mono ?_
        rintro e w3 ⟨rfl, m, rfl⟩
        have hb3 := below_drewN (Below.refl wr.heap.size wr) m
        have H3 := hid hb3
        clear hb3
        go_wp2_with fail
        refine ⟨⟨k + 1, ws, by omega, by go_num, hid ⟨HX.out.1.below H3.out, HX.out.2.1.trans (H3.out.mono HX.out.2.1.size), fun i hi => ?_⟩⟩, by simp [intOf]; omega⟩
        rw [HTK.out, needF_snoc, ← HX.out.2.2 i hi, HON.out i]
        simp
/-- The table of a task's place. -/
theorem at_any (hp : Pw w0 w G P v) (ht : Tm P v x LF A B) (_hx : x < 2147483648) : Calls Tryd.prog 8 #[.pointer (some ⟨P.pb, 0, none⟩), .int .i64 0, .int .i64 (x : Int)] w fun e w' =>
    e = .returned (.pointer (some ⟨w.heap.size, 0, none⟩)) ∧ Hid (Tb w0 w' (fun y => G y ∨ y = w.heap.size) P v w.heap.size x LF A B ∧ Below w.heap.size w w') := by
  have hb1 : Below w.heap.size w (w.alloc (.cells #[ptrAt P.pb, .int .i64 0, .int .i64 (x : Int)] 68)) := (Below.refl _ _).alloc (Nat.le_refl _) _
  have hT : Tb w0 (w.alloc (.cells #[ptrAt P.pb, .int .i64 0, .int .i64 (x : Int)] 68)) (fun y => G y ∨ y = w.heap.size) P v w.heap.size x LF A B :=
    ⟨(hp.plus hb1).fewer (fun y hy => hy.imp id (fun e => by subst e; simp)), .inr rfl, heap_alloc_new _ _, ht⟩
  have HS := hid (stands_any hT)
  have HT := hid (And.intro hT hb1)
  clear hT hb1 hp ht
  go_enter Tryd.func8, Tryd.ntmps8
  go_wp2_with fail
  refine HS.out.mono ?_
  rintro e w1 ⟨rfl, m, rfl⟩
  go_wp2_with fail
  go_ret
  exact ⟨rfl, hid ⟨HT.out.1.drewN m, Below.drewN HT.out.2 m⟩⟩
/-- No table is at an odd address. -/
theorem at_odd (hp : Pw w0 w G P v) (_hx : x < 2147483648) (hodd : x % 16 ≠ 0) : Calls Tryd.prog 8 #[.pointer (some ⟨P.pb, 0, none⟩), .int .i64 0, .int .i64 (x : Int)] w fun e w' => e = .returned (.pointer none) ∧ Below w.heap.size w w' := by
  have hb1 : Below w.heap.size w (w.alloc (.cells #[ptrAt P.pb, .int .i64 0, .int .i64 (x : Int)] 68)) := (Below.refl _ _).alloc (Nat.le_refl _) _
  have hd : (w.alloc (.cells #[ptrAt P.pb, .int .i64 0, .int .i64 (x : Int)] 68)).heap[w.heap.size]? = _ := heap_alloc_new _ _
  have HS := hid (stands_raw (w.alloc (.cells #[ptrAt P.pb, .int .i64 0, .int .i64 (x : Int)] 68)) w.heap.size P.pb x false (by rw [cell_of_row _ _ 0 _ _ _ hd]; rfl) (by rw [cell_of_row _ _ 2 _ _ _ hd]; rfl) (hid (fun k => by
    refine (((hp.below hb1).drewN k).has 2 (x : Int) (by omega) (by omega)).mono ?_
    rintro e w' ⟨f, rfl, hf, n, rfl⟩
    have : f = false := by
      cases e : f with
      | false => rfl
      | true =>
        obtain ⟨k, q, i, hk, _, _, hx⟩ := hf.out.1 e
        have := place_al k q i hk.2.1 hk.2.2
        omega
    subst this
    exact ⟨rfl, n, rfl⟩)))
  have HB := hid hb1
  clear hd hb1 hp
  go_enter Tryd.func8, Tryd.ntmps8
  go_wp2_with fail
  refine HS.out.mono ?_
  rintro e w1 ⟨rfl, m, rfl⟩
  go_wp2_with fail
  go_ret
  exact ⟨rfl, Below.drewN HB.out m⟩
/-- The first place that is got of a new pool. -/
theorem start_get (hp : Pw w0 w G P (v0 6 N)) (_hK : P.K = 6) (hN : 128 ≤ N) : Calls Tryd.prog 7 #[.pointer (some ⟨P.pb, 0, none⟩), .int .i64 0, .int .i64 2] w fun e w' =>
    ∃ q i B' U', e = .returned (.tuple #[.int .i64 ((place (cost 2) q i : Nat) : Int), .int .i64 0]) ∧ Hid (GotIt P (v0 6 N) 0 2 q i B' U' ∧ Pw w0 w' G P (gotV (v0 6 N) 0 2 q i B' U')) := by
  have hi := hp.inv
  refine (hp.get (by show (0 : Nat) ≤ _; omega) 0 2).mono ?_
  rintro e w2 ⟨_, ⟨er, rfl, h0, hn, _⟩ | ⟨k, q, i, B', U', hc, rfl, hg, h2⟩⟩
  · exfalso
    rcases hn with ⟨_, h2⟩ | ⟨k, hk, h2⟩
    · exact h2 (by decide)
    · have e1 : k = 2 := by have := hk.1; omega
      subst e1
      have ec : (Qu.chargeA (v0 6 N).l 0 ((cost 2 : Nat) : Int)).1 = 0 := by
        rw [show (v0 6 N).l = root N 0 from rfl, root_charge, cost2, if_pos (by omega)]
      rcases h2 with h2 | ⟨_, _, _, h3⟩
      · exact h0 (h2.trans ec)
      · exact h3 P.K 0 ((whole_free hi.1 hi.2 (fun k i e => absurd ((begin_us 6 k i).1 e) (by simp)) P.K 0).2 ⟨rfl, rfl⟩)
  · have e1 : k = 2 := by have := hc.1; omega
    subst e1
    exact ⟨q, i, B', U', rfl, hid ⟨hg, h2⟩⟩
theorem start_tm {q i : Nat} {B' : St} {U' : Pls} (hlen : (v0 6 N).m.length = 2 ^ P.K * 1024) (g : GotIt P (v0 6 N) 0 2 q i B' U') : Tm P (gotV (v0 6 N) 0 2 q i B' U') (place (cost 2) q i) (fun _ => none) (fun _ => 0) (fun _ => 0) := by
  have h1 := place_hi (by decide) (by decide) g.tk.lt g.qN
  have c2 := cost2
  refine ⟨⟨q, i, g.qN, g.tk.lt, ?_, rfl⟩, fun n q i _ h => (by cases h), fun n n' p _ _ h => (by cases h), fun n hn => ?_, fun n q i _ h => (by cases h), fun _ _ _ _ _ => rfl, fun _ => ⟨by decide, by decide⟩⟩
  · show now (v0 6 N).U 2 U' 2 q i = true
    rw [now_at, g.tk.now]; exact setU_same _ _ _ _
  · show Ar.wordAt (Ar.putAt (v0 6 N).m (place (cost 2) q i) (List.replicate (cost 2) 0)) _ = 0
    exact wordAt_zeros (by rw [hlen]; omega) (by omega) (by omega)
theorem start_ty {q i : Nat} {B' : St} {U' : Pls} (h : Tb w0 w G P (gotV (v0 6 N) 0 2 q i B' U') hb (place (cost 2) q i) (fun _ => none) (fun _ => 0) (fun _ => 0)) (g : GotIt P (v0 6 N) 0 2 q i B' U') (hK : P.K = 6) :
    Tz w0 w G P hb (place (cost 2) q i) N 1 (fun _ => 0) (fun _ => 0) := by
  obtain ⟨_, hl, hl2⟩ := costs_got g
  have hs := (Sm.start P 6 N).got g
  have z : ∀ k, lenK P (v0 6 N) k = 0 := fun k => by
    show (usedOf none_ _ _ _).length = 0
    rw [usedOf_none]; rfl
  have hk0 : kl (fun _ => none) = 0 := by decide
  refine ⟨_, _, _, ⟨h, ?_, ?_, ?_, fun k h2 h7 => ?_, Nat.le_refl _, hK⟩, fun n hn => ?_, fun s hs => absurd rfl hs⟩
  · rw [hk0]
    rw [cost2] at hs
    exact hs
  · rw [hl, z]
  · rw [hk0, hl2 7 (by decide), z]
  · rw [hl2 k h2, z]
  · simp [hasE]
end
end Go.Proofs.YthpkmegjbehgaaaDoor
