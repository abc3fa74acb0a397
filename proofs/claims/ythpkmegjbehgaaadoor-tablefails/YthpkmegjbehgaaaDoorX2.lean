/- A table in memory over a pool: what is charged, how many places are used; a leaf got, put back. -/
import Derived.Test.YthpkmegjbehgaaaDoorX1
namespace Go.Proofs.YthpkmegjbehgaaaDoor
open Go.RowKit Go.Maps

structure Tb (w0 w : World) (G : Nat → Prop) (P : Pp) (v : Pv) (hb x : Nat) (LF : Nat → Option (Nat × Nat)) (A B : Nat → Nat) : Prop where
  pw : Pw w0 w G P v
  g : G hb
  hd : w.heap[hb]? = some (.cells #[ptrAt P.pb, .int .i64 0, .int .i64 ((x : Nat) : Int)] 68)
  tm : Tm P v x LF A B
section
variable {w0 w w' : World} {G : Nat → Prop} {P : Pp} {v : Pv} {hb x : Nat} {LF : Nat → Option (Nat × Nat)} {A B : Nat → Nat}
theorem Tb.lt (h : Tb w0 w G P v hb x LF A B) : hb < w.heap.size := lt_of h.hd
theorem Tb.below (h : Tb w0 w G P v hb x LF A B) (hb' : Below w.heap.size w w') : Tb w0 w' G P v hb x LF A B := ⟨h.pw.below hb', h.g, (hb'.block hb h.lt).trans h.hd, h.tm⟩
theorem Tb.drewN (h : Tb w0 w G P v hb x LF A B) (n : Nat) : Tb w0 (w.drewN n) G P v hb x LF A B := h.below (below_drewN (Below.refl _ w) n)
theorem Tb.drew (h : Tb w0 w G P v hb x LF A B) : Tb w0 w.drew G P v hb x LF A B := h.drewN 1
theorem Tb.c0 (h : Tb w0 w G P v hb x LF A B) : w.cell? ⟨hb, 0, none⟩ = some (.pointer (some ⟨P.pb, 0, none⟩)) := by rw [cell_of_row w _ 0 _ _ _ h.hd]; rfl
theorem Tb.c1 (h : Tb w0 w G P v hb x LF A B) : w.cell? ⟨hb, 1, none⟩ = some (.int .i64 0) := by rw [cell_of_row w _ 1 _ _ _ h.hd]; rfl
theorem Tb.c2 (h : Tb w0 w G P v hb x LF A B) : w.cell? ⟨hb, 2, none⟩ = some (.int .i64 ((x : Nat) : Int)) := by rw [cell_of_row w _ 2 _ _ _ h.hd]; rfl
theorem Tb.xlt (h : Tb w0 w G P v hb x LF A B) : x + 128 ≤ v.m.length ∧ x < 2147483648 := by
  have h1 := h.tm.x_in
  have h2 := h.pw.len
  have h3 := h.pw.hK
  have : (2 : Nat) ^ P.K ≤ 2 ^ 20 := Nat.pow_le_pow_right (by decide) (by omega)
  have : (2 : Nat) ^ 20 = 1048576 := by decide
  omega
theorem Tb.llt (h : Tb w0 w G P v hb x LF A B) {n q i : Nat} (hn : n < 16) (hl : LF n = some (q, i)) : place (cost 7) q i + 256 ≤ v.m.length ∧ place (cost 7) q i < 2147483648 ∧ place (cost 7) q i % 16 = 0 := by
  have h1 := h.tm.l_in hn hl
  have h2 := h.pw.len
  have h3 := h.pw.hK
  have : (2 : Nat) ^ P.K ≤ 2 ^ 20 := Nat.pow_le_pow_right (by decide) (by omega)
  have : (2 : Nat) ^ 20 = 1048576 := by decide
  omega
theorem Tb.lfA_lt (h : Tb w0 w G P v hb x LF A B) {n : Nat} (hn : n < 16) : lfA (LF n) < 2147483648 := by
  cases e : LF n with
  | none => simp [lfA]
  | some p =>
    obtain ⟨q, i⟩ := p
    exact (h.llt hn e).2.1
end

/-- How many leaves there are. -/
def kl (LF : Nat → Option (Nat × Nat)) : Nat := cnt (fun n => (LF n).isSome) 16
theorem kl_le (LF : Nat → Option (Nat × Nat)) : kl LF ≤ 16 := cnt_le _ _
theorem kl_on {LF : Nat → Option (Nat × Nat)} {n : Nat} {p : Nat × Nat} (hn : n < 16) (hl : LF n = none) : kl (now LF n (some p)) = kl LF + 1 := by
  have h := cnt_turn (f := fun n => (LF n).isSome) (g := fun m => (now LF n (some p) m).isSome) (i := n) (fun j hj => by rw [now_ne _ _ hj]) (n := 16) hn
  rw [now_at, hl] at h
  unfold kl
  simpa using h
theorem kl_off {LF : Nat → Option (Nat × Nat)} {n : Nat} {p : Nat × Nat} (hn : n < 16) (hl : LF n = some p) : kl LF = kl (now LF n none) + 1 := by
  have h := cnt_turn (f := fun n => (LF n).isSome) (g := fun m => (now LF n none m).isSome) (i := n) (fun j hj => by rw [now_ne _ _ hj]) (n := 16) hn
  rw [now_at, hl] at h
  unfold kl
  simpa using h.symm

/-- A table that is alone over its pool, but for its task's place: what is charged. -/
structure Ty (w0 w : World) (G : Nat → Prop) (P : Pp) (v : Pv) (hb x : Nat) (LF : Nat → Option (Nat × Nat)) (A B : Nat → Nat) (N ct : Nat) : Prop where
  tb : Tb w0 w G P v hb x LF A B
  sm : Sm P v N (128 + 256 * kl LF)
  l2 : lenK P v 2 = 1
  l7 : lenK P v 7 = kl LF
  lo : ∀ k, k ≠ 2 → k ≠ 7 → lenK P v k = 0
  ct : v.ct ≤ ct
  hK : P.K = 6

theorem flat_ge {f : Nat → List Nat} : ∀ {l : List Nat}, (∀ p, p ∈ l → 1 ≤ (f p).length) → l.length ≤ (l.flatMap f).length
  | [], _ => by simp
  | p :: l, h => by
    rw [List.flatMap_cons, List.length_append, List.length_cons]
    have h1 := h p List.mem_cons_self
    have h2 := flat_ge (l := l) (fun q hq => h q (List.mem_cons_of_mem _ hq))
    omega
theorem sl_le_len (P : Pp) (v : Pv) (k : Nat) : slN P v k ≤ lenK P v k := by
  unfold lenK slN usedOf
  refine flat_ge (fun p hp => ?_)
  rw [List.length_map]
  obtain ⟨i, hi, hu⟩ := (pagesOf_mem.1 hp).2
  exact List.length_pos_iff_exists_mem.2 ⟨i, ones_mem.2 ⟨hi, hu⟩⟩
section
variable {w0 w w' : World} {G : Nat → Prop} {P : Pp} {v : Pv} {hb x N ct : Nat} {LF : Nat → Option (Nat × Nat)} {A B : Nat → Nat}
theorem Ty.below (h : Ty w0 w G P v hb x LF A B N ct) (hb' : Below w.heap.size w w') : Ty w0 w' G P v hb x LF A B N ct := ⟨h.tb.below hb', h.sm, h.l2, h.l7, h.lo, h.ct, h.hK⟩
theorem Ty.more (h : Ty w0 w G P v hb x LF A B N ct) : Ty w0 w G P v hb x LF A B N (ct + 1) := ⟨h.tb, h.sm, h.l2, h.l7, h.lo, Nat.le_succ_of_le h.ct, h.hK⟩
theorem Ty.room (h : Ty w0 w G P v hb x LF A B N ct) : ¬ ∀ a j, v.B a j ≠ .free := fun hno => by
  have hi := h.tb.pw.inv
  have hE := h.sm.ex
  have e1 := hE.pages hi.1 hi.2
  have e2 : pages P.K (isK v.B .free) (P.K + 1) = 0 := pages_zero (fun k i _ => by unfold isK; simp; exact hno k i)
  have e3 : cnt (fun p => decide (v.B 0 p = .used)) (2 ^ P.K) ≤ sumTo (fun k => slN P v k) 7 := by
    refine Nat.le_trans (cnt_or (g := fun k p => decide (0 < cnt (v.U k p) (many k))) (fun p hp => ?_) _) (Nat.le_of_eq (sumTo_congr (fun k _ _ => ?_)))
    · obtain ⟨_, k, hk, hs⟩ := (hE 0 p).1 (by simpa using hp)
      exact ⟨k, hk.1, hk.2, by simpa using (slb_cnt _ _ _).1 hs⟩
    · unfold slN pagesOf; rw [ones_len]
  have l1 := sl_le_len P v 1
  have l2 := sl_le_len P v 2
  have l3 := sl_le_len P v 3
  have l4 := sl_le_len P v 4
  have l5 := sl_le_len P v 5
  have l6 := sl_le_len P v 6
  have l7 := sl_le_len P v 7
  rw [h.lo 1 (by decide) (by decide)] at l1
  rw [h.l2] at l2
  rw [h.lo 3 (by decide) (by decide)] at l3
  rw [h.lo 4 (by decide) (by decide)] at l4
  rw [h.lo 5 (by decide) (by decide)] at l5
  rw [h.lo 6 (by decide) (by decide)] at l6
  rw [h.l7] at l7
  have := kl_le LF
  simp only [sumTo, Nat.zero_add, Nat.reduceAdd] at e3
  rw [h.hK] at e1 e2 e3
  have e6 : (2 : Nat) ^ 6 = 64 := by decide
  omega
/-- A leaf can't be got: for want of quota. -/
theorem Ty.noget (h : Ty w0 w G P v hb x LF A B N ct) {er : Int} (h0 : er ≠ 0) (hn : NoGet v 0 7 er) : er = 5 ∧ N < 128 + 256 * (kl LF + 1) := by
  rcases hn with ⟨_, h2⟩ | ⟨k, hk, h2⟩
  · exact absurd (by decide) h2
  · have e1 : k = 7 := by have := hk.1; omega
    subst e1
    rw [h.sm.l, root_charge, cost7] at h2
    by_cases hc : 128 + 256 * kl LF + 256 ≤ N
    · rw [if_pos hc] at h2
      rcases h2 with h2 | ⟨_, _, _, h3⟩
      · exact absurd h2 h0
      · exact (h.room h3).elim
    · rw [if_neg hc] at h2
      rcases h2 with h2 | ⟨_, h2, _⟩
      · exact ⟨h2, by omega⟩
      · cases h2
set_option maxRecDepth 100000 in
theorem Ty.got (h : Ty w0 w G P v hb x LF A B N ct) {q i : Nat} {B' : St} {U' : Pls} (g : GotIt P v 0 7 q i B' U') : 128 + 256 * (kl LF + 1) ≤ N := by
  have e := g.chg
  rw [h.sm.l, root_charge, cost7] at e
  by_cases hc : 128 + 256 * kl LF + 256 ≤ N
  · clear e
    generalize kl LF = z at *
    omega
  · rw [if_neg hc] at e; cases e
/-- A leaf was got, and its word stored. -/
theorem Ty.reach_ {q i n : Nat} {B' : St} {U' : Pls} (h : Ty w0 w G P v hb x LF A B N ct) (g : GotIt P v 0 7 q i B' U') (hn : n < 16) (hl : LF n = none) (hp1 : Pw w0 w' G P (gotV v 0 7 q i B' U')) {w2 : World}
    (hp : Pw w0 w2 G P { gotV v 0 7 q i B' U' with m := Ar.putAt (gotV v 0 7 q i B' U').m (x + 8 * n) (Ar.wordsBytes [((place (cost 7) q i : Nat) : Int)]) }) (hd : w2.heap[hb]? = w.heap[hb]?) :
    Ty w0 w2 G P { gotV v 0 7 q i B' U' with m := Ar.putAt (gotV v 0 7 q i B' U').m (x + 8 * n) (Ar.wordsBytes [((place (cost 7) q i : Nat) : Int)]) } hb x (now LF n (some (q, i))) A (fun s => if s / 16 = n then 0 else B s) N (ct + 1) := by
  obtain ⟨_, hl1, hl2⟩ := costs_got g
  have hs := h.sm.got g
  have hkl := kl_on (p := (q, i)) hn hl
  refine ⟨⟨hp, h.tb.g, hd.trans h.tb.hd, h.tb.tm.reach_ h.tb.pw.len g hp1 hn hl⟩, ?_, ?_, ?_, fun k h2 h7 => ?_, ?_, h.hK⟩
  · rw [hkl, show 128 + 256 * (kl LF + 1) = 128 + 256 * kl LF + cost 7 by rw [cost7]; omega]
    exact ⟨hs.l, hs.sum, hs.ex, hs.le⟩
  · exact (hl2 2 (by decide)).trans h.l2
  · rw [hkl]; exact hl1.trans (by rw [h.l7])
  · exact (hl2 k h7).trans (h.lo k h2 h7)
  · have := h.ct
    show v.ct + 1 ≤ ct + 1
    omega
theorem Ty.noput (h : Ty w0 w G P v hb x LF A B N ct) {n q i : Nat} (hn : n < 16) (hl : LF n = some (q, i)) {er : Int} (h0 : er ≠ 0) (hno : NoPut v 0 7 ((place (cost 7) q i : Nat) : Int) er) : False := by
  obtain ⟨hq, hi, hu⟩ := h.tb.tm.us n q i hn hl
  rcases hno with ⟨_, h2⟩ | ⟨k, hk, h2⟩
  · exact absurd (by decide) h2
  · have e1 : k = 7 := by have := hk.1; omega
    subst e1
    rcases h2 with ⟨_, h2⟩ | h2
    · exact h2 q i hi hu rfl
    · have := kl_off hn hl
      rw [h.sm.l, root_refund, cost7, if_pos (by omega)] at h2
      exact h0 h2
/-- A leaf was put back, and its word is 0. -/
theorem Ty.trim_ {q i n : Nat} {B' : St} (h : Ty w0 w G P v hb x LF A B N ct) (hn : n < 16) (hl : LF n = some (q, i)) (g : PutIt v 0 ((place (cost 7) q i : Nat) : Int) 7 q i B') (hz : ∀ j, j < 16 → A (16 * n + j) = 0) {w2 : World}
    (hp : Pw w0 w2 G P { putV v 0 7 q i B' with m := Ar.putAt (putV v 0 7 q i B').m (x + 8 * n) (Ar.wordsBytes [(0 : Int)]) }) (hd : w2.heap[hb]? = w.heap[hb]?) :
    Ty w0 w2 G P { putV v 0 7 q i B' with m := Ar.putAt (putV v 0 7 q i B').m (x + 8 * n) (Ar.wordsBytes [(0 : Int)]) } hb x (now LF n none) A B N ct := by
  have hq := h.tb.pw.put_lt g
  obtain ⟨hc, hl1, hl2⟩ := costs_put (P := P) g hq
  have hkl := kl_off hn hl
  have hle := h.sm.le
  have e7 := h.l7
  refine ⟨⟨hp, h.tb.g, hd.trans h.tb.hd, h.tb.tm.trim_ h.tb.pw g hn hl hz⟩, ⟨?_, ?_, h.tb.pw.exact_put h.sm.ex g, by omega⟩, ?_, ?_, fun k h2 h7 => ?_, h.ct, h.hK⟩
  · show (Qu.refundA v.l 0 ((cost 7 : Nat) : Int)).2 = _
    rw [h.sm.l, root_refund, cost7, if_pos (by omega)]
    have e3 : 128 + 256 * kl LF - 256 = 128 + 256 * kl (now LF n none) := by omega
    rw [e3]
  · have := h.sm.sum
    rw [cost7] at hc
    show costs P (putV v 0 7 q i B') = _
    omega
  · exact (hl2 2 (by decide)).symm.trans h.l2
  · show lenK P (putV v 0 7 q i B') 7 = _
    omega
  · exact (hl2 k h7).symm.trans (h.lo k h2 h7)
/-- An entry was stored. -/
theorem Ty.set_ (h : Ty w0 w G P v hb x LF A B N ct) {n q i j a b : Nat} (hn : n < 16) (hl : LF n = some (q, i)) (hj : j < 16) (ha : a < 18446744073709551616) (hb2 : b < 18446744073709551616) {w2 : World}
    (hp : Pw w0 w2 G P { v with m := Ar.putAt v.m (place (cost 7) q i + 16 * j) (Ar.wordsBytes [(a : Int), (b : Int)]) }) (hd : w2.heap[hb]? = w.heap[hb]?) :
    Ty w0 w2 G P { v with m := Ar.putAt v.m (place (cost 7) q i + 16 * j) (Ar.wordsBytes [(a : Int), (b : Int)]) } hb x LF (now A (16 * n + j) a) (now B (16 * n + j) b) N ct :=
  ⟨⟨hp, h.tb.g, hd.trans h.tb.hd, h.tb.tm.set_ h.tb.pw hn hl hj ha hb2⟩, ⟨h.sm.l, h.sm.sum, h.sm.ex, h.sm.le⟩, h.l2, h.l7, h.lo, h.ct, h.hK⟩
end

/-- A table as the laws have it: its entries. -/
structure Tz (w0 w : World) (G : Nat → Prop) (P : Pp) (hb x N ct : Nat) (A B : Nat → Nat) : Prop where
  ex : ∃ v LF B', Ty w0 w G P v hb x LF A B' N ct ∧ (∀ n, n < 16 → ((LF n).isSome = true ↔ hasE A n = true)) ∧ ∀ s, A s ≠ 0 → B' s = B s
theorem kl_nlA {LF : Nat → Option (Nat × Nat)} {A : Nat → Nat} (h : ∀ n, n < 16 → ((LF n).isSome = true ↔ hasE A n = true)) : kl LF = nlA A := by
  unfold kl nlA
  exact cnt_congr (fun n hn => by rw [Bool.eq_iff_iff]; exact h n hn)
theorem Tz.below {w0 w w' : World} {G : Nat → Prop} {P : Pp} {hb x N ct : Nat} {A B : Nat → Nat} (h : Tz w0 w G P hb x N ct A B) (hb' : Below w.heap.size w w') : Tz w0 w' G P hb x N ct A B := by
  obtain ⟨v, LF, B', h1, h2, h3⟩ := h.ex
  exact ⟨v, LF, B', h1.below hb', h2, h3⟩
end Go.Proofs.YthpkmegjbehgaaaDoor
