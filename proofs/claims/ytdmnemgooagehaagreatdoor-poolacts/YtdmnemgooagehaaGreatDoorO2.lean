/- The document's pool behind a call of its tree, or of one of its caches. -/
import Derived.Test.YtdmnemgooagehaaGreatDoorO1
namespace Go.Proofs.YtdmnemgooagehaaGreatDoor
open Go.RowKit Go.Maps

def Gr (G : Nat → Prop) (w w' : World) (x : Nat) : Prop := G x ∨ w.heap.size ≤ x ∧ x < w'.heap.size
section
variable {w w' : World} {G : Nat → Prop} {tg tg' : Nat → Nat}
theorem zt_move {t : Nat} (hag : ∀ x, x < w.heap.size → tg' x = tg x) (x : Nat) (hx : x < w.heap.size) (h : Zt w G tg t x) : Zt w' (Gr G w w') tg' t x :=
  ⟨.inl (.inl (h.1.resolve_right (by omega))), by rw [hag x hx]; exact h.2⟩
theorem zt_new {t : Nat} (hnw : ∀ x, w'.heap.size ≤ x → tg' x = 0) (x : Nat) (hx : w'.heap.size ≤ x) : Zt w' (Gr G w w') tg' t x := ⟨.inr hx, .inl (hnw x hx)⟩
theorem zt_re {t : Nat} (x : Nat) (hx : x < w'.heap.size) (h : Zt w G tg t x) : Zt w' (Gr G w w') tg t x := ⟨.inl (by rcases h.1 with h1 | h1; exact .inl h1; exact .inr ⟨h1, hx⟩), h.2⟩
theorem zt_g {t x : Nat} (h : Zt w G tg t x) (hx : x < w.heap.size) : G x := h.1.resolve_right (by omega)
end
section
variable {w w' : World} {G : Nat → Prop} {tg : Nat → Nat} {R : Rw} {B : St} {U : Nat → Pls} {l : List Qu.Fac} {nxt rg cap : Nat} {vF vB : Value} {F Ub : List (Nat × Nat)} {vS vU : Nat → Value}
theorem RefP.gr (h : RefP w G tg R B U l nxt rg cap vF vB F Ub vS vU) : G R.r := zt_g h.rm.br h.rm.lr
theorem RefP.gb (h : RefP w G tg R B U l nxt rg cap vF vB F Ub vS vU) {k : Nat} (h1 : 1 ≤ k) (h7 : k ≤ 7) : G (R.rb k) := zt_g (h.rc k h1 h7).br (h.rc k h1 h7).lc
theorem RefP.keep (h : RefP w G tg R B U l nxt rg cap vF vB F Ub vS vU) (hs : w.heap.size ≤ w'.heap.size) (hk : ∀ x, G x → w'.heap[x]? = w.heap[x]?) : RefP w' G tg R B U l nxt rg cap vF vB F Ub vS vU := by
  have hz : ∀ t x, x < w.heap.size → Zt w G tg t x → Zt w' G tg t x := fun t x hx hz => ⟨.inl (zt_g hz hx), hz.2⟩
  have hn : ∀ t x, w'.heap.size ≤ x → Zt w' G tg t x := fun t x hx => ⟨.inr hx, .inl (h.new x (by omega))⟩
  exact ⟨(hk _ h.gp).trans h.hd, h.rm.move hs (fun x hx hz => hk x (zt_g hz hx)) (hz 2) (hn 2), h.rt.other (hk _ h.gq) (hk _ h.gg), fun k h1 h7 => (h.rc k h1 h7).move hs (fun x hx hz => hk x (zt_g hz hx)) (hz _) (hn _), h.tp, h.tr, h.tq, h.tgg, h.tb, h.gp, h.gq, h.gg, fun x hx => h.new x (by omega)⟩
theorem RefP.below (h : RefP w G tg R B U l nxt rg cap vF vB F Ub vS vU) (hG : ∀ x, G x → x < w.heap.size) (hb : Below w.heap.size w w') : RefP w' G tg R B U l nxt rg cap vF vB F Ub vS vU := h.keep hb.size (fun x hx => hb.block x (hG x hx))
/-- Behind a call of the tree. -/
theorem RefP.tree (h : RefP w G tg R B U l nxt rg cap vF vB F Ub vS vU) {er : Value} {l' : List Qu.Fac} {nxt' : Nat} {e : Ending} (hp : Qu.RPost w R.rq rg er l' nxt' e w') :
    e = .returned er ∧ Turn G w w' ∧ ∃ tg' rg' cap', RefP w' (Gr G w w') tg' R B U l' nxt' rg' cap' vF vB F Ub vS vU := by
  obtain ⟨rfl, ⟨g', cap', hm, hg⟩, ht⟩ := hp
  have hG : ∀ x, (x = R.rq ∨ x = rg) → G x := fun x hx => by rcases hx with rfl | rfl; exact h.gq; exact h.gg
  have hss := ht.size
  have hq3 : ∀ x, (x = R.rq ∨ x = rg) → tg x = 3 := fun x hx => by rcases hx with rfl | rfl; exact h.tq; exact h.tgg
  have hlg := hm.lg
  have hlq := h.rt.lq
  have hlp := h.lp
  have hag : ∀ x, x < w.heap.size → (if x = g' then 3 else tg x) = tg x := fun x hx => by
    split
    · rename_i e
      subst e
      rcases hg with rfl | hg
      · exact h.tgg.symm
      · omega
    · rfl
  have hnw : ∀ x, w'.heap.size ≤ x → (if x = g' then 3 else tg x) = 0 := fun x hx => by
    rw [if_neg (by omega)]
    exact h.new x (by omega)
  have ho : ∀ t, t ≠ 3 → ∀ x, x < w.heap.size → Zt w G tg t x → w'.heap[x]? = w.heap[x]? := fun t ht3 x hx hz => ht.block x hx (fun hs => by
    have := hq3 x hs
    rcases hz.2 with e | e <;> omega)
  refine ⟨rfl, ⟨ht.os, ht.tape, ht.output, ht.size, fun x hx hs => ht.block x hx (fun e => hs (hG x e))⟩, fun x => if x = g' then 3 else tg x, g', cap', ?_⟩
  exact ⟨(ht.block _ hlp (fun hs => by have := hq3 _ hs; have := h.tp; omega)).trans h.hd, h.rm.move hss (ho 2 (by omega)) (zt_move hag) (zt_new hnw), hm, fun k h1 h7 => (h.rc k h1 h7).move hss (ho _ (by omega)) (zt_move hag) (zt_new hnw), (hag _ hlp).trans h.tp, (hag _ h.rm.lr).trans h.tr, (hag _ hlq).trans h.tq, if_pos rfl, fun k h1 h7 => (hag _ (h.rc k h1 h7).lc).trans (h.tb k h1 h7), .inl h.gp, .inl h.gq, by
    rcases hg with rfl | hg
    · exact .inl h.gg
    · exact .inr ⟨hg, hlg⟩, hnw⟩
/-- Behind a call of the cache of a class. -/
theorem RefP.cach (h : RefP w G tg R B U l nxt rg cap vF vB F Ub vS vU) {k : Nat} (h1 : 1 ≤ k) (h7 : k ≤ 7) {B' : St} {U1 : Pls} {vF' vB' : Value} {F' Ub' : List (Nat × Nat)} {vS' vU' : Value} (ht : Turn (fun x => x = R.rb k ∨ x = R.r) w w')
    (hm : RefM w' R.r (Zt w G tg 2) R.K B' vF' vB' F' Ub') (hc : RefC w' (R.rb k) R.r (Zt w G tg (10 + k)) (cost k) (many k) (2 ^ R.K) U1 vS' vU') :
    Turn G w w' ∧ RefP w' (Gr G w w') tg R B' (now U k U1) l nxt rg cap vF' vB' F' Ub' (fun j => if j = k then vS' else vS j) (fun j => if j = k then vU' else vU j) := by
  have hss := ht.size
  have hlp := h.lp
  have hS : ∀ x, (x = R.rb k ∨ x = R.r) → tg x = 10 + k ∨ tg x = 2 := fun x hx => by rcases hx with rfl | rfl; exact .inl (h.tb k h1 h7); exact .inr h.tr
  have hn : ∀ x t, tg x = t → t ≠ 10 + k → t ≠ 2 → ¬ (x = R.rb k ∨ x = R.r) := fun x t e n1 n2 hx => by rcases hS x hx with e1 | e1 <;> omega
  refine ⟨⟨ht.os, ht.tape, ht.output, ht.size, fun x hx hs => ht.block x hx (fun e => hs (by rcases e with rfl | rfl; exact h.gb h1 h7; exact h.gr))⟩, ?_⟩
  have hnw : ∀ x, w'.heap.size ≤ x → tg x = 0 := fun x hx => h.new x (by omega)
  refine ⟨(ht.block _ hlp (hn _ 1 h.tp (by omega) (by omega))).trans h.hd, hm.re zt_re (zt_new hnw), h.rt.other (ht.block _ h.rt.lq (hn _ 3 h.tq (by omega) (by omega))) (ht.block _ h.rt.lg (hn _ 3 h.tgg (by omega) (by omega))), fun j j1 j7 => ?_, h.tp, h.tr, h.tq, h.tgg, h.tb, .inl h.gp, .inl h.gq, .inl h.gg, hnw⟩
  by_cases e : j = k
  · subst e
    rw [if_pos rfl, if_pos rfl, now_at]
    exact hc.re zt_re (zt_new hnw)
  · rw [if_neg e, if_neg e, now_ne _ _ e]
    exact (h.rc j j1 j7).move hss (fun x hx hz => ht.block x hx (fun hs => by
      rcases hS x hs with e1 | e1 <;> rcases hz.2 with e2 | e2 <;> omega)) (zt_move fun _ _ => rfl) (zt_new hnw)
end
end Go.Proofs.YtdmnemgooagehaaGreatDoor
