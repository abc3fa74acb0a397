/- The acts of the pools' laws, as they came in; what is charged is what is used costs (no program beside that). -/
import Derived.Test.YtdmnemgooagehaaGreatDoorWt
namespace Go.Proofs.YtdmnemgooagehaaGreatDoor
open Go.ChangeShapes Go.WideShapes Go.ChangeAt Go.RowKit Go.Maps

/-- The slice has so many acts, in memory that was there. -/
def Acts6 (w : World) (a : Option Addr) (len : Nat) : Prop :=
  len = 0 ∨ ∃ s o, a = some ⟨s, o, none⟩ ∧ s < w.heap.size ∧ ∀ i : Nat, i < len → ∃ kd f c n : Int, w.cell? ⟨s, o + i * 4, none⟩ = some (.int .i64 kd) ∧ w.cell? ⟨s, o + i * 4 + 1, none⟩ = some (.int .i64 f) ∧ w.cell? ⟨s, o + i * 4 + 2, none⟩ = some (.int .i64 c) ∧ w.cell? ⟨s, o + i * 4 + 3, none⟩ = some (.int .i64 n) ∧ (Lit.int .i64 kd).wf = true ∧ (Lit.int .i64 f).wf = true ∧ (Lit.int .i64 c).wf = true ∧ (Lit.int .i64 n).wf = true

theorem Acts6.at {w w' : World} {Bd : Nat} {a : Option Addr} {len : Nat} (h : Acts6 w a len) (hb : Below Bd w w') (hB : w.heap.size ≤ Bd) {i : Nat} (hi : i < len) :
    ∃ s o, ∃ kd f c n : Int, a = some ⟨s, o, none⟩ ∧ s < w'.heap.size ∧ w'.cell? ⟨s, o + i * 4, none⟩ = some (.int .i64 kd) ∧ w'.cell? ⟨s, o + i * 4 + 1, none⟩ = some (.int .i64 f) ∧ w'.cell? ⟨s, o + i * 4 + 2, none⟩ = some (.int .i64 c) ∧ w'.cell? ⟨s, o + i * 4 + 3, none⟩ = some (.int .i64 n) ∧ (Lit.int .i64 kd).wf = true ∧ (Lit.int .i64 f).wf = true ∧ (Lit.int .i64 c).wf = true ∧ (Lit.int .i64 n).wf = true := by
  rcases h with h | ⟨s, o, rfl, hs, hc⟩
  · omega
  · obtain ⟨kd, f, c, n, h0, h1, h2, h3, h4⟩ := hc i hi
    exact ⟨s, o, kd, f, c, n, rfl, by have := hb.size; omega, (hb.cell (p := ⟨s, o + i * 4, none⟩) (show s < Bd by omega)).trans h0, (hb.cell (p := ⟨s, o + i * 4 + 1, none⟩) (show s < Bd by omega)).trans h1, (hb.cell (p := ⟨s, o + i * 4 + 2, none⟩) (show s < Bd by omega)).trans h2, (hb.cell (p := ⟨s, o + i * 4 + 3, none⟩) (show s < Bd by omega)).trans h3, h4⟩
theorem cells28 : Tryz.prog.cellsOf 70 = 4 := by kernel_rfl

set_option maxRecDepth 1000000 in
theorem act6_of {H : Type} {enc : TypeId × Value → H} {w : World} {fuel : Nat} {cs : List Value} {x : DataW H × List MemPlace} {s p : Nat} (h : DataW.trod enc Tryz.prog w 0 (fun _ => true) true fuel 70 cs = some x) (hc : ∀ j, j < 4 → w.cell? ⟨s, p + j, none⟩ = cs[j]?) :
    ∃ kd f c n : Int, w.cell? ⟨s, p, none⟩ = some (.int .i64 kd) ∧ w.cell? ⟨s, p + 1, none⟩ = some (.int .i64 f) ∧ w.cell? ⟨s, p + 2, none⟩ = some (.int .i64 c) ∧ w.cell? ⟨s, p + 3, none⟩ = some (.int .i64 n) ∧ (Lit.int .i64 kd).wf = true ∧ (Lit.int .i64 f).wf = true ∧ (Lit.int .i64 c).wf = true ∧ (Lit.int .i64 n).wf = true := by
  obtain ⟨xs, n, _, _, hl, hlen, hf⟩ := DataW.trod_struct Tryz.underlying70 h
  rw [cells28] at hl
  match cs, hl with
  | [v0, v1, v2, v3], _ =>
    match xs, hlen with
    | [y0, y1, y2, y3], _ =>
      have f0 : DataW.trod enc Tryz.prog w 0 (fun _ => true) true n 3 (([v0, v1, v2, v3].drop 0).take (Tryz.prog.cellsOf 3)) = some y0 := hf 0 _ rfl
      have f1 : DataW.trod enc Tryz.prog w 0 (fun _ => true) true n 3 (([v0, v1, v2, v3].drop 1).take (Tryz.prog.cellsOf 3)) = some y1 := hf 1 _ rfl
      have f2 : DataW.trod enc Tryz.prog w 0 (fun _ => true) true n 3 (([v0, v1, v2, v3].drop 2).take (Tryz.prog.cellsOf 3)) = some y2 := hf 2 _ rfl
      have f3 : DataW.trod enc Tryz.prog w 0 (fun _ => true) true n 3 (([v0, v1, v2, v3].drop 3).take (Tryz.prog.cellsOf 3)) = some y3 := hf 3 _ rfl
      rw [cells3] at f0 f1 f2 f3
      obtain ⟨a0, e0, _, w0⟩ := DataW.trod_int Tryz.underlying3 f0
      obtain ⟨a1, e1, _, w1⟩ := DataW.trod_int Tryz.underlying3 f1
      obtain ⟨a2, e2, _, w2⟩ := DataW.trod_int Tryz.underlying3 f2
      obtain ⟨a3, e3, _, w3⟩ := DataW.trod_int Tryz.underlying3 f3
      simp at e0 e1 e2 e3
      subst e0 e1 e2 e3
      exact ⟨a0, a1, a2, a3, hc 0 (by omega), hc 1 (by omega), hc 2 (by omega), hc 3 (by omega), w0, w1, w2, w3⟩

theorem acts6_of {H : Type} {enc : TypeId × Value → H} {w : World} {fuel : Nat} {a : Option Addr} {len cap : Nat} {x : DataW H × List MemPlace} (h : DataW.trod enc Tryz.prog w 0 (fun _ => true) true fuel 55 [.slice a len cap] = some x) : Acts6 w a len := by
  rcases Deep.open_slice Tryz.underlying55 h with ⟨hcs, _⟩ | ⟨b, l, c, m, n, D, Pl, hcs, _, hl, hm, hmm, _, hx⟩
  · obtain ⟨rfl, rfl, rfl⟩ : a = none ∧ len = 0 ∧ cap = 0 := by simpa using hcs
    exact .inl rfl
  · obtain ⟨rfl, rfl, rfl⟩ : a = some b ∧ len = l ∧ cap = c := by simpa using hcs
    simp only [if_true] at hmm
    subst hmm
    by_cases h0 : len = 0
    · exact .inl h0
    rw [cells28] at hx
    obtain ⟨cs0, hc0, ht0⟩ := hx 0 (by omega)
    obtain ⟨_, hl0, hcell0⟩ := World.cells?_some hc0
    obtain ⟨s, o, spot⟩ := b
    have hsp : spot = none := by
      have h1 := hcell0 0 (by omega)
      rw [List.getElem?_eq_getElem (by omega)] at h1
      have := World.cell?_spot h1
      simpa [Addr.add] using this
    subst hsp
    refine .inr ⟨s, o, rfl, ?_, ?_⟩
    · have h1 := hcell0 0 (by omega)
      rw [List.getElem?_eq_getElem (by omega), Nat.zero_mul, addr_add, addr_add] at h1
      exact block_lt_of_cell h1
    · intro i hi
      obtain ⟨cs, hc, ht⟩ := hx i (by omega)
      obtain ⟨_, hl1, hcell⟩ := World.cells?_some hc
      refine act6_of ht (fun j hj => ?_)
      have := hcell j hj
      rw [addr_add, addr_add] at this
      exact this

theorem sumTo_mono {f : Nat → Nat} : ∀ {j i : Nat}, i ≤ j → sumTo f i ≤ sumTo f j
  | 0, i, h => by have : i = 0 := by omega
                  subst this; exact Nat.le_refl _
  | j + 1, i, h => by
    by_cases e : i = j + 1
    · subst e; exact Nat.le_refl _
    · exact Nat.le_trans (sumTo_mono (show i ≤ j by omega)) (by show sumTo f j ≤ sumTo f j + f (j + 1); omega)
theorem sumTo_at {f : Nat → Nat} {j k : Nat} (h1 : 1 ≤ k) (h : k ≤ j) : f k ≤ sumTo f j := by
  refine Nat.le_trans ?_ (sumTo_mono h)
  obtain ⟨i, rfl⟩ : ∃ i, k = i + 1 := ⟨k - 1, by omega⟩
  show f (i + 1) ≤ sumTo f i + f (i + 1)
  omega
theorem usedOf_none (sz m n : Nat) : usedOf none_ sz m n = [] := by
  refine List.eq_nil_iff_forall_not_mem.2 (fun x hx => ?_)
  obtain ⟨p, i, _, _, hu, _⟩ := usedOf_mem.1 hx
  cases hu
/-- The root's charge is what all that is used costs. -/
structure Sm (P : Pp) (v : Pv) (N c : Nat) : Prop where
  l : v.l = root N c
  sum : costs P v = c
  ex : ExactP v
  le : c ≤ N
theorem sumTo_zero {f : Nat → Nat} : ∀ {j : Nat}, (∀ k, 1 ≤ k → k ≤ j → f k = 0) → sumTo f j = 0
  | 0, _ => rfl
  | j + 1, h => by unfold sumTo; rw [sumTo_zero (fun k h1 h2 => h k h1 (by omega)), h (j + 1) (by omega) (by omega)]
theorem Sm.start (P : Pp) (K N : Nat) : Sm P (v0 K N) N 0 := ⟨rfl, sumTo_zero (fun k _ _ => by show (usedOf none_ _ _ _).length * _ = 0; rw [usedOf_none]; simp), ExactP.start K N, Nat.zero_le _⟩
theorem Sm.more {P : Pp} {v : Pv} {N c : Nat} (h : Sm P v N c) : Sm P { v with ct := v.ct + 1 } N c := ⟨h.l, h.sum, h.ex, h.le⟩
theorem Sm.got {P : Pp} {v : Pv} {N c k q i : Nat} {B' : St} {U' : Pls} (h : Sm P v N c) (g : GotIt P v 0 k q i B' U') : Sm P (gotV v 0 k q i B' U') N (c + cost k) := by
  have e := g.chg
  rw [h.l, root_charge] at e
  by_cases hl : c + cost k ≤ N
  · refine ⟨?_, by rw [(costs_got g).1, h.sum], h.ex.got g, hl⟩
    show (Qu.chargeA v.l 0 ((cost k : Nat) : Int)).2 = _
    rw [h.l, root_charge, if_pos hl]
  · rw [if_neg hl] at e; cases e
theorem Sm.cost_le {P : Pp} {v : Pv} {N c k : Nat} (h : Sm P v N c) (h1 : 1 ≤ k) (h7 : k ≤ 7) : lenK P v k * cost k ≤ c := by
  rw [← h.sum]
  exact sumTo_at (f := fun k => lenK P v k * cost k) h1 h7
theorem Sm.put {P : Pp} {v : Pv} {N c k q i : Nat} {B' : St} {x : Int} {w0 w : World} {G : Nat → Prop} (hp : Pw w0 w G P v) (h : Sm P v N c) (g : PutIt v 0 x k q i B') : ∃ c', Sm P (putV v 0 k q i B') N c' := by
  have e := costs_put (P := P) g (hp.put_lt g)
  have hl := h.le
  rw [h.sum] at e
  refine ⟨costs P (putV v 0 k q i B'), ?_, rfl, hp.exact_put h.ex g, by omega⟩
  show (Qu.refundA v.l 0 ((cost k : Nat) : Int)).2 = _
  rw [h.l, root_refund, if_pos (by omega)]
  show root N (c - cost k) = _
  rw [show c - cost k = costs P (putV v 0 k q i B') by omega]
/-- A used place may be put back. -/
theorem Sm.noput {P : Pp} {v : Pv} {N c k : Nat} {x er : Int} {y : Nat} (h : Sm P v N c) (hk : Cls (k : Int) k) (hy : y ∈ usedOf (v.U k) (cost k) (many k) (2 ^ P.K)) (hx : x = (y : Int)) (h0 : er ≠ 0) (hn : NoPut v 0 (k : Int) x er) : False := by
  rcases hn with ⟨_, h2⟩ | ⟨k', hk', h2⟩
  · exact h2 ⟨by have := hk.2.1; omega, by have := hk.2.2; omega⟩
  · have e1 : k' = k := by have := hk'.1; omega
    subst e1
    obtain ⟨q, i, _, hi, hu, rfl⟩ := usedOf_mem.1 hy
    rcases h2 with ⟨_, h2⟩ | h2
    · exact h2 q i hi hu hx
    · have e2 : 1 ≤ lenK P v k' := List.length_pos_of_mem hy
      have e3 := h.cost_le hk.2.1 hk.2.2
      have e4 : cost k' ≤ lenK P v k' * cost k' := Nat.le_mul_of_pos_left _ e2
      rw [h.l, root_refund, if_pos (by omega)] at h2
      exact h0 h2
end Go.Proofs.YtdmnemgooagehaaGreatDoor
