/- A pool in memory, between two calls: its tree, its allocator, its arena and its seven caches; every block has a tag, which tells whose it is. · A pool: what is only asked of it. · A pool: its parts' calls, said of the whole pool. · A pool: Get and Put. · A pool: Put. · A pool: New. · A pool's mathematics: used blocks are the slabs; how much is used; what is charged. No program is named here. · A pool: what its tree, its allocator and its arena are asked. · A pool as the laws have it: made behind a world, beside blocks of the law's own. · The function alive of layer 6, by which every law of the pools begins. -/
import Derived.Test.YtdmnemgooagehaaGreatDoorWe
import Derived.Test.YtdmnemgooagehaaGreatDoorWq
import Derived.Test.YtdmnemgooagehaaGreatDoorWr
namespace Go.Proofs.YtdmnemgooagehaaGreatDoor
open Go.RowKit Go.Maps

/-- How many places of a class a page has. -/
def many (k : Nat) : Nat := 960 / cost k
theorem cls {k : Nat} (h1 : 1 ≤ k) (h7 : k ≤ 7) : k = 1 ∨ k = 2 ∨ k = 3 ∨ k = 4 ∨ k = 5 ∨ k = 6 ∨ k = 7 := by omega
theorem cost_in {k : Nat} (h1 : 1 ≤ k) (h7 : k ≤ 7) : 32 ≤ cost k ∧ cost k ≤ 256 ∧ cost k % 16 = 0 := by
  rcases cls h1 h7 with rfl | rfl | rfl | rfl | rfl | rfl | rfl <;> decide
theorem many_in {k : Nat} (h1 : 1 ≤ k) (h7 : k ≤ 7) : 3 ≤ many k ∧ many k ≤ 30 ∧ 64 + many k * cost k ≤ 1024 := by
  rcases cls h1 h7 with rfl | rfl | rfl | rfl | rfl | rfl | rfl <;> decide

/-- Where the parts of a pool are. -/
structure Pp where
  pb : Nat
  tb : Nat
  bb : Nat
  ab : Nat
  ag : Nat
  mm : Nat
  K : Nat
  N : Nat
  bf : Nat → Nat
  gf : Nat → Nat
  cb : Nat → Nat
/-- What a pool has. -/
structure Pv where
  ct : Nat
  B : St
  U : Nat → Pls
  l : List Qu.Fac
  nxt : Nat
  m : List Int

def ptrAt (x : Nat) : Value := .pointer (some ⟨x, 0, none⟩)
/-- A pool's cells, so many caches made. -/
def poolCells (tb bb ab : Nat) (cb : Nat → Nat) (j : Nat) : Array Value :=
  #[ptrAt tb, ptrAt bb, ptrAt ab, .pointer none] ++ ((List.range 7).map fun k => if k + 1 < j then ptrAt (cb (k + 1)) else .pointer none).toArray
theorem poolCells_c {tb bb ab : Nat} {cb : Nat → Nat} {k : Nat} (h1 : 1 ≤ k) (h7 : k ≤ 7) : (poolCells tb bb ab cb 8)[3 + k]? = some (ptrAt (cb k)) := by
  rcases cls h1 h7 with rfl | rfl | rfl | rfl | rfl | rfl | rfl <;> rfl
theorem poolCells_size (tb bb ab : Nat) (cb : Nat → Nat) (j : Nat) : (poolCells tb bb ab cb j).size = 11 := by simp [poolCells]

structure Po (w : World) (tag : Nat → Nat) (P : Pp) (v : Pv) : Prop where
  head : w.heap[P.pb]? = some (.cells (poolCells P.tb P.bb P.ab P.cb 8) 143)
  tree : Qu.Qt (fun x => tag x = 3) w P.tb v.l v.nxt
  inv : Qu.Inv P.N v.l v.nxt
  good : Good w P.bb P.mm P.K P.bf P.gf v.B v.ct
  aren : Ar.Arena w P.ab P.ag v.m
  len : v.m.length = 2 ^ P.K * 1024
  cach : ∀ k, 1 ≤ k → k ≤ 7 → Sl w (fun x => tag x = 10 + k) (P.cb k) P.bb (cost k) (many k) v.ct (v.U k)
  tab : Tab w
  cst : Cst w
  fit : ∀ k, 1 ≤ k → k ≤ 7 → Fit v.B (v.U k) (many k) (2 ^ P.K)
  apt : ∀ j k, 1 ≤ j → j ≤ 7 → 1 ≤ k → k ≤ 7 → j ≠ k → Apart2 (v.U j) (v.U k) (many j) (many k)
  tP : tag P.pb = 1
  tA : tag P.ab = 2 ∧ tag P.ag = 2
  tB : ∀ x, AB P.bb P.mm P.K P.bf P.gf x → tag x = 4
  t0 : tag 0 = 5 ∧ tag 2 = 5
  hK : 6 ≤ P.K ∧ P.K ≤ 20

theorem turn_of_qu {S : Nat → Prop} {w w' : World} (h : Qu.Turn S w w') : Turn S w w' := ⟨h.os, h.tape, h.output, h.size, h.block⟩
theorem qu_of_turn {S : Nat → Prop} {w w' : World} (h : Turn S w w') : Qu.Turn S w w' := ⟨h.os, h.tape, h.output, h.size, h.block⟩
theorem turn_of_ar {w w' : World} {g : Nat} (h : Ar.But g w w') : Turn (fun x => x = g) w w' := ⟨h.os, h.tape, h.output, h.size, fun k hk hn => h.block k hk hn⟩
theorem Cst.pos {w : World} (h : Cst w) : 0 < w.heap.size := block_lt_of_cell (h 0 (by omega))
theorem Cst.turn {T : Nat → Prop} {w w' : World} (h : Cst w) (ht : Turn T w w') (h0 : ¬ T 0) : Cst w' := fun j hj => (World.cell?_of_block (ht.block 0 h.pos h0)).trans (h j hj)
theorem Cst.below {w w' : World} (h : Cst w) (hb : Below w.heap.size w w') : Cst w' := h.turn (T := fun _ => False) (Turn.of_below hb) (fun e => e)
theorem Arena_turn {T : Nat → Prop} {w w' : World} {b g : Nat} {m : List Int} (h : Ar.Arena w b g m) (ht : Turn T w w') (hb : ¬ T b) (hg : ¬ T g) : Ar.Arena w' b g m :=
  ⟨(ht.block b h.lt.1 hb).trans h.head, (ht.block g h.lt.2 hg).trans h.body, h.unlike, h.small, h.byte⟩
theorem Came.fit2 {B B' : St} {U V : Pls} {m m2 q N : Nat} (h : Came B B' U m q) (hF : Fit B V m2 N) : Fit B' V m2 N := by
  rcases h with ⟨_, rfl⟩ | ⟨_, _, _, hp, _⟩
  · exact hF
  · exact hF.more (fun r hr => (hp 0 r).2 (.inl hr))

/-- Tags agree on all that there is. -/
def Agr (w : World) (tag tag' : Nat → Nat) : Prop := ∀ x, x < w.heap.size → tag' x = tag x
theorem Agr.refl (w : World) (tag : Nat → Nat) : Agr w tag tag := fun _ _ => rfl
theorem Agr.trans {w w' : World} {t t' t'' : Nat → Nat} (h : Agr w t t') (k : Agr w' t' t'') (hs : w.heap.size ≤ w'.heap.size) : Agr w t t'' := fun x hx => (k x (by omega)).trans (h x hx)
/-- Tags anew for what there isn't yet. -/
def retag (w : World) (tag : Nat → Nat) (t : Nat) : Nat → Nat := fun x => if x < w.heap.size then tag x else t
theorem retag_agr (w : World) (tag : Nat → Nat) (t : Nat) : Agr w tag (retag w tag t) := fun x hx => by unfold retag; rw [if_pos hx]
theorem retag_new (w : World) (tag : Nat → Nat) (t : Nat) {x : Nat} (hx : w.heap.size ≤ x) : retag w tag t x = t := by unfold retag; rw [if_neg (by omega)]
/-- The pool's own blocks. -/
def Mine (tag : Nat → Nat) (x : Nat) : Prop := tag x ≠ 0 ∧ tag x ≠ 5
theorem mine_of {tag : Nat → Nat} {x t : Nat} (h : tag x = t) (h0 : t ≠ 0) (h5 : t ≠ 5) : Mine tag x := ⟨by rw [h]; exact h0, by rw [h]; exact h5⟩

section
variable {w w' : World} {tag tag' : Nat → Nat} {P : Pp} {v : Pv}
theorem Po.re (h : Po w tag P v) (ha : Agr w tag tag') : Po w tag' P v := by
  refine ⟨h.head, ?_, h.inv, h.good, h.aren, h.len, fun k h1 h7 => ?_, h.tab, h.cst, h.fit, h.apt, ?_, ?_, fun x hx => ?_, ?_, h.hK⟩
  · exact h.tree.narrow.wide (fun x hx => by rw [ha x hx.2]; exact hx.1)
  · exact ((h.cach k h1 h7).own).wide (fun x hx => by rw [ha x hx.2]; exact hx.1) (Nat.le_refl _)
  · rw [ha _ (lt_of h.head)]; exact h.tP
  · rw [ha _ h.aren.lt.1, ha _ h.aren.lt.2]; exact h.tA
  · rw [ha _ (h.good.lab hx)]; exact h.tB x hx
  · rw [ha _ h.cst.pos, ha _ (by have := h.tab.pos; omega)]; exact h.t0
/-- Others' blocks may turn, and new ones come. -/
theorem Po.others (h : Po w tag P v) (ht : Turn (fun x => tag x = 0) w w') : Po w' tag P v := by
  have hx : ∀ x t, tag x = t → t ≠ 0 → ¬ tag x = 0 := fun x t e h0 e2 => h0 (e.symm.trans e2)
  exact ⟨(ht.block _ (lt_of h.head) (hx _ _ h.tP (by decide))).trans h.head, h.tree.turn (qu_of_turn ht) (fun x e => hx x _ e (by decide)), h.inv, h.good.turn ht (fun x e => hx x _ (h.tB x e) (by decide)), Arena_turn h.aren ht (hx _ _ h.tA.1 (by decide)) (hx _ _ h.tA.2 (by decide)), h.len, fun k h1 h7 => (h.cach k h1 h7).turn ht (fun x e => hx x _ e (by omega)), h.tab.turn ht (hx _ _ h.t0.2 (by decide)), h.cst.turn ht (hx _ _ h.t0.1 (by decide)), h.fit, h.apt, h.tP, h.tA, h.tB, h.t0, h.hK⟩
theorem Po.below (h : Po w tag P v) (hb : Below w.heap.size w w') : Po w' tag P v := h.others (Turn.of_below hb)
theorem Po.drew (h : Po w tag P v) : Po w.drew tag P v := h.others (Turn.refl _ _).drew
theorem Po.drewN (h : Po w tag P v) (k : Nat) : Po (w.drewN k) tag P v := h.others ((Turn.refl _ _).drewN k)
/-- The tree has turned. -/
theorem Po.tree_ {l : List Qu.Fac} {nxt : Nat} (h : Po w tag P v) (hi : Qu.Inv P.N l nxt) (hq : Qu.Qt (fun x => tag x = 3) w' P.tb l nxt) (hq2 : Qu.Turn (fun x => tag x = 3) w w') : Po w' tag P { v with l := l, nxt := nxt } := by
  have ht := turn_of_qu hq2
  have hx : ∀ x t, tag x = t → t ≠ 3 → ¬ tag x = 3 := fun x t e h0 e2 => h0 (e.symm.trans e2)
  exact ⟨(ht.block _ (lt_of h.head) (hx _ _ h.tP (by decide))).trans h.head, hq, hi, h.good.turn ht (fun x e => hx x _ (h.tB x e) (by decide)), Arena_turn h.aren ht (hx _ _ h.tA.1 (by decide)) (hx _ _ h.tA.2 (by decide)), h.len, fun k h1 h7 => (h.cach k h1 h7).turn ht (fun x e => hx x _ e (by omega)), h.tab.turn ht (hx _ _ h.t0.2 (by decide)), h.cst.turn ht (hx _ _ h.t0.1 (by decide)), h.fit, h.apt, h.tP, h.tA, h.tB, h.t0, h.hK⟩
/-- The arena has turned. -/
theorem Po.aren_ {m : List Int} (h : Po w tag P v) (hA : Ar.Arena w' P.ab P.ag m) (hl : m.length = v.m.length) (hb : Ar.But P.ag w w') : Po w' tag P { v with m := m } := by
  have ht := turn_of_ar hb
  have hx : ∀ x t, tag x = t → t ≠ 2 → ¬ x = P.ag := fun x t e h0 e2 => h0 (e.symm.trans (e2 ▸ h.tA.2))
  exact ⟨(ht.block _ (lt_of h.head) (hx _ _ h.tP (by decide))).trans h.head, h.tree.turn (qu_of_turn ht) (fun x e => hx x _ e (by decide)), h.inv, h.good.turn ht (fun x e => hx x _ (h.tB x e) (by decide)), hA, hl.trans h.len, fun k h1 h7 => (h.cach k h1 h7).turn ht (fun x e => hx x _ e (by omega)), h.tab.turn ht (hx _ _ h.t0.2 (by decide)), h.cst.turn ht (hx _ _ h.t0.1 (by decide)), h.fit, h.apt, h.tP, h.tA, h.tB, h.t0, h.hK⟩
/-- A cache has turned, and the allocator. -/
theorem Po.cach_ {k ct : Nat} {Z : Nat → Prop} {B : St} {U : Pls} (h : Po w tag P v) (h1 : 1 ≤ k) (h7 : k ≤ 7) (hn : ∀ x, w.heap.size ≤ x → tag x = 10 + k) (ht : Turn (Tn (fun x => tag x = 10 + k) P.mm P.K P.gf) w w')
    (hZ : ∀ x, Z x → tag x = 10 + k ∨ w.heap.size ≤ x) (hG : Good w' P.bb P.mm P.K P.bf P.gf B ct) (hS : Sl w' Z (P.cb k) P.bb (cost k) (many k) ct U) (hc : v.ct ≤ ct) (hF : Fit B U (many k) (2 ^ P.K))
    (hF2 : ∀ j, 1 ≤ j → j ≤ 7 → j ≠ k → Fit B (v.U j) (many j) (2 ^ P.K)) (hA : ∀ j, 1 ≤ j → j ≤ 7 → j ≠ k → Apart2 U (v.U j) (many k) (many j)) : Po w' tag P { v with ct := ct, B := B, U := now v.U k U } := by
  have hx : ∀ x t, tag x = t → t ≠ 10 + k → t ≠ 4 → ¬ Tn (fun x => tag x = 10 + k) P.mm P.K P.gf x := fun x t e h0 h4 e2 => by
    rcases e2 with e2 | e2
    · exact h0 (e.symm.trans e2)
    · exact h4 (e.symm.trans (h.tB x e2.ab))
  refine ⟨(ht.block _ (lt_of h.head) (hx _ _ h.tP (by omega) (by decide))).trans h.head, h.tree.turn (qu_of_turn ht) (fun x e => hx x _ e (by omega) (by decide)), h.inv, hG, Arena_turn h.aren ht (hx _ _ h.tA.1 (by omega) (by decide)) (hx _ _ h.tA.2 (by omega) (by decide)), h.len, fun j hj1 hj7 => ?_, h.tab.turn ht (hx _ _ h.t0.2 (by omega) (by decide)), h.cst.turn ht (hx _ _ h.t0.1 (by omega) (by decide)), fun j hj1 hj7 => ?_, fun i j hi1 hi7 hj1 hj7 hij => ?_, h.tP, h.tA, h.tB, h.t0, h.hK⟩
  · show Sl w' _ _ _ _ _ ct (now v.U k U j)
    by_cases e : j = k
    · subst e; rw [now_at]
      exact hS.wide (fun x hx => (hZ x hx).elim id (hn x)) (Nat.le_refl _)
    · rw [now_ne _ _ e]
      exact ((h.cach j hj1 hj7).turn ht (fun x e2 => hx x _ e2 (by omega) (by omega))).wide (fun _ h => h) hc
  · show Fit B (now v.U k U j) _ _
    by_cases e : j = k
    · subst e; rw [now_at]; exact hF
    · rw [now_ne _ _ e]; exact hF2 j hj1 hj7 e
  · show Apart2 (now v.U k U i) (now v.U k U j) _ _
    by_cases e : i = k
    · subst e; rw [now_at, now_ne _ _ (fun e2 => hij e2.symm)]; exact hA j hj1 hj7 (fun e2 => hij e2.symm)
    · rw [now_ne _ _ e]
      by_cases e2 : j = k
      · subst e2; rw [now_at]; exact (hA i hi1 hi7 e).symm
      · rw [now_ne _ _ e2]; exact h.apt i j hi1 hi7 hj1 hj7 hij
theorem Po.tn (h : Po w tag P v) {k : Nat} (hk : 1 ≤ k) : ∀ x, Tn (fun x => tag x = 10 + k) P.mm P.K P.gf x → Mine tag x := fun x hx => by
  rcases hx with e | e
  · exact mine_of e (by omega) (by omega)
  · exact mine_of (h.tB x e.ab) (by decide) (by decide)
theorem Po.c0 (h : Po w tag P v) : w.cell? ⟨P.pb, 0, none⟩ = some (.pointer (some ⟨P.tb, 0, none⟩)) := by rw [cell_of_row w _ 0 _ _ _ h.head]; rfl
theorem Po.c1 (h : Po w tag P v) : w.cell? ⟨P.pb, 1, none⟩ = some (.pointer (some ⟨P.bb, 0, none⟩)) := by rw [cell_of_row w _ 1 _ _ _ h.head]; rfl
theorem Po.c2 (h : Po w tag P v) : w.cell? ⟨P.pb, 2, none⟩ = some (.pointer (some ⟨P.ab, 0, none⟩)) := by rw [cell_of_row w _ 2 _ _ _ h.head]; rfl
theorem Po.c3 (h : Po w tag P v) : w.cell? ⟨P.pb, 3, none⟩ = some (.pointer none) := by rw [cell_of_row w _ 3 _ _ _ h.head]; rfl
theorem Po.ck (h : Po w tag P v) {k : Nat} (h1 : 1 ≤ k) (h7 : k ≤ 7) : w.cell? ⟨P.pb, 3 + k, none⟩ = some (.pointer (some ⟨P.cb k, 0, none⟩)) := by rw [cell_of_row w _ _ _ _ _ h.head, poolCells_c h1 h7]; rfl
theorem Po.size (h : Po w tag P v) {k : Nat} (h1 : 1 ≤ k) (h7 : k ≤ 7) : w.cell? ⟨P.cb k, 1, none⟩ = some (.int .i64 ((cost k : Nat) : Int)) := by
  obtain ⟨mb, nm, D, a, cap, nn, L, sb, bm, gm, ws, hC, _⟩ := h.cach k h1 h7
  exact hC.c1
end
end Go.Proofs.YtdmnemgooagehaaGreatDoor

namespace Go.Proofs.YtdmnemgooagehaaGreatDoor
open Go.RowKit Go.Maps

/-- A class's number. -/
def Cls (c : Int) (k : Nat) : Prop := c = (k : Int) ∧ 1 ≤ k ∧ k ≤ 7
theorem cls_or (c : Int) : (∃ k, Cls c k) ∨ ¬ (1 ≤ c ∧ c ≤ 7) := by
  by_cases h : 1 ≤ c ∧ c ≤ 7
  · exact .inl ⟨c.toNat, by omega, by omega, by omega⟩
  · exact .inr h
theorem pquota_nil (w : World) : Calls Tryz.prog 34 #[.pointer none] w fun e w' => e = .returned (.pointer none) ∧ w' = w := by
  go_enter Tryz.func34, Tryz.ntmps34
  go_wp2_with fail
  go_ret
  exact ⟨rfl, rfl⟩
theorem pblocks_nil (w : World) : Calls Tryz.prog 35 #[.pointer none] w fun e w' => e = .returned (.pointer none) ∧ w' = w := by
  go_enter Tryz.func35, Tryz.ntmps35
  go_wp2_with fail
  go_ret
  exact ⟨rfl, rfl⟩
theorem parena_nil (w : World) : Calls Tryz.prog 33 #[.pointer none] w fun e w' => e = .returned (.pointer none) ∧ w' = w := by
  go_enter Tryz.func33, Tryz.ntmps33
  go_wp2_with fail
  go_ret
  exact ⟨rfl, rfl⟩
theorem pcache_nil (c : Int) (w : World) : Calls Tryz.prog 94 #[.pointer none, .int .i64 c] w fun e w' => e = .returned (.pointer none) ∧ w' = w := by
  go_enter Tryz.func94, Tryz.ntmps94
  go_wp2_with fail
  go_ret
  exact ⟨rfl, rfl⟩

section
variable {w w' : World} {tag tag' : Nat → Nat} {P : Pp} {v : Pv}
theorem pquota_any (h : Po w tag P v) : Calls Tryz.prog 34 #[.pointer (some ⟨P.pb, 0, none⟩)] w fun e w' => e = .returned (.pointer (some ⟨P.tb, 0, none⟩)) ∧ w' = w := by
  have hc := h.c0
  clear h
  go_enter Tryz.func34, Tryz.ntmps34
  go_wp2_with fail
  go_ret
  exact ⟨rfl, rfl⟩
theorem pblocks_any (h : Po w tag P v) : Calls Tryz.prog 35 #[.pointer (some ⟨P.pb, 0, none⟩)] w fun e w' => e = .returned (.pointer (some ⟨P.bb, 0, none⟩)) ∧ w' = w := by
  have hc := h.c1
  clear h
  go_enter Tryz.func35, Tryz.ntmps35
  go_wp2_with fail
  go_ret
  exact ⟨rfl, rfl⟩
theorem parena_any (h : Po w tag P v) : Calls Tryz.prog 33 #[.pointer (some ⟨P.pb, 0, none⟩)] w fun e w' => e = .returned (.pointer (some ⟨P.ab, 0, none⟩)) ∧ w' = w := by
  have hc := h.c2
  clear h
  go_enter Tryz.func33, Tryz.ntmps33
  go_wp2_with fail
  go_ret
  exact ⟨rfl, rfl⟩
theorem pcache_in (h : Po w tag P v) {c : Int} {k : Nat} (hk : Cls c k) : Calls Tryz.prog 94 #[.pointer (some ⟨P.pb, 0, none⟩), .int .i64 c] w fun e w' => e = .returned (.pointer (some ⟨P.cb k, 0, none⟩)) ∧ w' = w := by
  obtain ⟨rfl, h1, h7⟩ := hk
  have hc := h.ck h1 h7
  clear h
  have h0 : decide ((k : Int) < 0) = false := by simp
  have h8 : decide ((8 : Int) ≤ (k : Int)) = false := by simp; omega
  go_enter Tryz.func94, Tryz.ntmps94
  go_wp2_with fail
  go_ret
  exact ⟨rfl, rfl⟩
theorem pcache_no (h : Po w tag P v) {c : Int} (hk : ¬ (1 ≤ c ∧ c ≤ 7)) : Calls Tryz.prog 94 #[.pointer (some ⟨P.pb, 0, none⟩), .int .i64 c] w fun e w' => e = .returned (.pointer none) ∧ w' = w := by
  have hc := h.c3
  clear h
  by_cases h0 : c < 0
  · have h0' : decide (c < 0) = true := by simp; omega
    clear hk
    go_enter Tryz.func94, Tryz.ntmps94
    go_wp2_with fail
    go_ret
    exact ⟨rfl, rfl⟩
  · have h0' : decide (c < 0) = false := by simp; omega
    by_cases h8 : 8 ≤ c
    · have h8' : decide ((8 : Int) ≤ c) = true := by simp; omega
      clear hk
      go_enter Tryz.func94, Tryz.ntmps94
      go_wp2_with fail
      go_ret
      exact ⟨rfl, rfl⟩
    · have : c = 0 := by omega
      subst this
      clear hk h0 h0' h8
      go_enter Tryz.func94, Tryz.ntmps94
      go_wp2_with fail
      go_ret
      exact ⟨rfl, rfl⟩
def costI (c : Int) : Int := if 1 ≤ c ∧ c ≤ 7 then ((cost c.toNat : Nat) : Int) else 0
theorem costI_of {c : Int} {k : Nat} (h : Cls c k) : costI c = ((cost k : Nat) : Int) := by
  obtain ⟨rfl, h1, h7⟩ := h
  unfold costI
  rw [if_pos (by omega), Int.toNat_natCast]
theorem pcost_any (w : World) (hC : Cst w) (c : Int) : Calls Tryz.prog 41 #[.int .i64 c] w fun e w' => e = .returned (.int .i64 (costI c)) ∧ w' = w := by
  by_cases h0 : c < 0
  · rw [show costI c = 0 from by unfold costI; rw [if_neg (by omega)]]
    have h0' : decide (c < 0) = true := by simp; omega
    go_enter Tryz.func41, Tryz.ntmps41
    go_wp2_with fail
    go_ret
    exact ⟨rfl, rfl⟩
  · have h0' : decide (c < 0) = false := by simp; omega
    by_cases h8 : 8 ≤ c
    · rw [show costI c = 0 from by unfold costI; rw [if_neg (by omega)]]
      have h8' : decide ((8 : Int) ≤ c) = true := by simp; omega
      go_enter Tryz.func41, Tryz.ntmps41
      go_wp2_with fail
      go_ret
      exact ⟨rfl, rfl⟩
    · obtain ⟨k, rfl⟩ := Int.eq_ofNat_of_zero_le (show 0 ≤ c by omega)
      have hc := hC k (by omega)
      have e : costI (k : Int) = ((cost k : Nat) : Int) := by
        unfold costI
        split
        · rw [Int.toNat_natCast]
        · have : k = 0 := by omega
          subst this; rfl
      rw [e]
      clear e hC h0
      have h0' : decide ((k : Int) < 0) = false := by simp
      have h8' : decide ((8 : Int) ≤ (k : Int)) = false := by simp; omega
      generalize ((cost k : Nat) : Int) = z at *
      go_enter Tryz.func41, Tryz.ntmps41
      go_wp2_with fail
      go_ret
      exact ⟨rfl, rfl⟩

theorem Po.sz (h : Po w tag P v) {k : Nat} (h1 : 1 ≤ k) (h7 : k ≤ 7) : Sz (cost k) (many k) P.K := ⟨by have := cost_in h1 h7; omega, by have := cost_in h1 h7; omega, rfl, h.hK.1, h.hK.2⟩
def PHasPost (w : World) (v : Pv) (c x : Int) (e : Ending) (w' : World) : Prop := ∃ f : Bool, e = .returned (.bool f) ∧ Hid (f = true ↔ ∃ k q i, Cls c k ∧ i < many k ∧ v.U k q i = true ∧ x = ((place (cost k) q i : Nat) : Int)) ∧ ∃ n, w' = w.drewN n
theorem phas_any (h : Po w tag P v) (c x : Int) (hx1 : -9223372036854775808 ≤ x) (hx2 : x < 9223372036854775808) : Calls Tryz.prog 32 #[.pointer (some ⟨P.pb, 0, none⟩), .int .i64 c, .int .i64 x] w (PHasPost w v c x) := by
  rcases cls_or c with ⟨k, hk⟩ | hk
  · have HC := hid (pcache_in h hk)
    have hz := h.sz hk.2.1 hk.2.2
    have HS := hid (shas_any x (h.cach k hk.2.1 hk.2.2) hz.lo hz.hi hz.m hx1 hx2)
    have HK := hid hk
    clear h hk hz
    go_enter Tryz.func32, Tryz.ntmps32
    go_wp2_with (go_at_call 94; refine HC.out.mono ?_; rintro e wx ⟨rfl, ex⟩; rw [ex]; clear ex wx)
    refine HS.out.mono ?_
    rintro e wx ⟨f, rfl, hf, n, rfl⟩
    have HF := hid hf
    clear hf
    go_wp2_with fail
    go_ret
    refine ⟨f, rfl, hid ?_, n, rfl⟩
    rw [HF.out.out]
    constructor
    · rintro ⟨q, i, hi, hu, hx⟩
      exact ⟨k, q, i, HK.out, hi, hu, hx⟩
    · rintro ⟨k', q, i, hk', hi, hu, hx⟩
      have : k' = k := by have := hk'.1; have := HK.out.1; omega
      subst this
      exact ⟨q, i, hi, hu, hx⟩
  · have HC := hid (pcache_no h hk)
    have HK := hid hk
    clear h hk
    go_enter Tryz.func32, Tryz.ntmps32
    go_wp2_with (first | (go_at_call 94; refine HC.out.mono ?_; rintro e wx ⟨rfl, ex⟩; rw [ex]; clear ex wx) | (go_at_call 16; refine (shas_nil _ _).mono ?_; rintro e wx ⟨rfl, ex⟩; rw [ex]; clear ex wx))
    go_ret
    refine ⟨false, rfl, hid ?_, 0, rfl⟩
    constructor
    · intro h; cases h
    · rintro ⟨k', q, i, hk', _⟩
      exact absurd ⟨by have := hk'.1; have := hk'.2.1; omega, by have := hk'.1; have := hk'.2.2; omega⟩ HK.out

set_option maxRecDepth 100000 in
theorem sused_nil (w : World) : Calls Tryz.prog 14 #[.pointer none] w fun e w' => e = .returned (.slice none 0 0) ∧ Below w.heap.size w w' := by
  refine (callsIn_wide (n := 6)).1 ?_
  refine callsIn_of_wp_marks Tryz.func14 rfl trivial ?_ rfl
  refine wpIn_wide.2 ?_
  simp only [Tryz.ntmps14, List.size_toArray, List.length_cons, List.length_nil, Nat.reduceAdd, Nat.reduceSub, Array.replicate_succ, Array.replicate_zero, List.push_toArray, List.append_toArray, List.nil_append, List.cons_append]
  go_wp2_with (go_at_call 15; refine (slabs_nil _).mono ?_; rintro e wx ⟨rfl, ex⟩; rw [ex]; clear ex wx)
  have hb0 : Below w.heap.size w ((w.alloc (.cells #[.pointer none] 26)).alloc (.cells #[.slice none 0 0] 34)) := ((Below.refl _ w).alloc (Nat.le_refl _) _).alloc (by simp) _
  have HB := hid hb0
  clear hb0
  refine wp_loop_rounds 1 ?_
  rw [rounds_succ]
  go_wp2_with fail
  refine leaves_marks [] _ (fun W' => Below w.heap.size w W') HB.out (fun D hD => by cases hD) List.nodup_nil (fun W' D hD => by cases hD) (fun W' hI => ?_)
  exact ⟨_, results_tmp rfl _ _ _, rfl, hI⟩
/-- Where used places of a class begin. -/
def usedK (P : Pp) (v : Pv) (c : Int) : List Nat := if 1 ≤ c ∧ c ≤ 7 then usedOf (v.U c.toNat) (cost c.toNat) (many c.toNat) (2 ^ P.K) else []
theorem usedK_of {c : Int} {k : Nat} (h : Cls c k) : usedK P v c = usedOf (v.U k) (cost k) (many k) (2 ^ P.K) := by
  obtain ⟨rfl, h1, h7⟩ := h
  unfold usedK
  rw [if_pos (by omega), Int.toNat_natCast]
theorem pused_any (h : Po w tag P v) (hc : v.ct ≤ 1000000) (c : Int) : Calls Tryz.prog 36 #[.pointer (some ⟨P.pb, 0, none⟩), .int .i64 c] w (SlabsPost w (usedK P v c)) := by
  rcases cls_or c with ⟨k, hk⟩ | hk
  · rw [usedK_of hk]
    have HC := hid (pcache_in h hk)
    have hz := h.sz hk.2.1 hk.2.2
    have HS := hid (sused_any (h.cach k hk.2.1 hk.2.2) (h.fit k hk.2.1 hk.2.2) h.tab hc hz.pages hz.lo hz.hi hz.m)
    clear h hk hz
    generalize usedOf (v.U k) (cost k) (many k) (2 ^ P.K) = l at *
    go_enter Tryz.func36, Tryz.ntmps36
    go_wp2_with (go_at_call 94; refine HC.out.mono ?_; rintro e wx ⟨rfl, ex⟩; rw [ex]; clear ex wx)
    refine HS.out.mono ?_
    rintro e wx ⟨u, rfl, hrow, hb⟩
    have HR := hid (And.intro hrow hb)
    clear hrow hb
    go_wp2_with fail
    go_ret
    exact ⟨u, rfl, HR.out⟩
  · rw [show usedK P v c = [] from by unfold usedK; rw [if_neg hk]]
    have HC := hid (pcache_no h hk)
    clear h hk
    go_enter Tryz.func36, Tryz.ntmps36
    go_wp2_with (go_at_call 94; refine HC.out.mono ?_; rintro e wx ⟨rfl, ex⟩; rw [ex]; clear ex wx)
    refine (sused_nil _).mono ?_
    rintro e wx ⟨rfl, hb⟩
    have HB := hid hb
    clear hb
    go_wp2_with fail
    go_ret
    exact ⟨_, rfl, World.ownsRow_nil _ _ _ _, HB.out⟩
end
end Go.Proofs.YtdmnemgooagehaaGreatDoor

namespace Go.Proofs.YtdmnemgooagehaaGreatDoor
open Go.RowKit Go.Maps

theorem now_self {α : Type} (f : Nat → α) (q : Nat) : now f q (f q) = f := by
  funext r
  by_cases e : r = q
  · subst e; rw [now_at]
  · rw [now_ne _ _ e]
theorem chargeA_err {l : List Qu.Fac} {i n : Int} (h : (Qu.chargeA l i n).1 ≠ 0) : (Qu.chargeA l i n).2 = l := by
  unfold Qu.chargeA at h ⊢
  revert h
  split <;> (try split) <;> (try split) <;> simp
theorem refundA_err {l : List Qu.Fac} {i n : Int} (h : (Qu.refundA l i n).1 ≠ 0) : (Qu.refundA l i n).2 = l := by
  unfold Qu.refundA at h ⊢
  revert h
  split <;> (try split) <;> simp
theorem charge_inv {l : List Qu.Fac} {i n : Int} (h : (Qu.chargeA l i n).1 = 0) : ∃ f, Qu.the l i = some f ∧ 0 ≤ n ∧ n ≤ (f.lim : Int) - (Qu.useOf l f : Int) ∧ (Qu.chargeA l i n).2 = Qu.setC l i (f.chg + n.toNat) := by
  unfold Qu.chargeA at h ⊢
  cases hi : Qu.the l i with
  | none => rw [hi] at h; simp at h
  | some f =>
    rw [hi] at h
    by_cases hn : n < 0
    · simp [hn] at h
    · by_cases hf : (f.lim : Int) - (Qu.useOf l f : Int) < n
      · simp [hn, hf] at h
      · exact ⟨f, rfl, by omega, by omega, by simp [hn, hf]⟩
theorem the_setC {N nxt : Nat} {l : List Qu.Fac} (hI : Qu.Inv N l nxt) {i : Int} {f : Qu.Fac} (h : Qu.the l i = some f) (c : Nat) : Qu.the (Qu.setC l i c) i = some { f with chg := c } := by
  obtain ⟨hm, he⟩ := Qu.the_some h
  have hu : (Qu.setC l i c).Pairwise fun a b => a.id < b.id := by
    have e := Qu.setC_ids l i c
    have := hI.up
    rw [← List.pairwise_map (f := Qu.Fac.id) (R := fun a b => a < b)] at this ⊢
    rw [e]; exact this
  have hf : { f with chg := c } ∈ Qu.setC l i c := by
    unfold Qu.setC
    rw [List.mem_map]
    exact ⟨f, hm, by rw [if_pos he]⟩
  have := Qu.the_mem hu hf
  rw [show (({ f with chg := c } : Qu.Fac).id : Int) = i from he] at this
  exact this
/-- What was charged may be refunded, and then it is as it was. -/
theorem refund_charge {N nxt : Nat} {l : List Qu.Fac} (hI : Qu.Inv N l nxt) {i n : Int} (h : (Qu.chargeA l i n).1 = 0) : Qu.refundA (Qu.chargeA l i n).2 i n = (0, l) := by
  obtain ⟨f, hf, h0, _, e⟩ := charge_inv h
  obtain ⟨hm, he⟩ := Qu.the_some hf
  rw [e]
  unfold Qu.refundA
  rw [the_setC hI hf]
  have h1 : ¬ (n < 0 ∨ ((f.chg + n.toNat : Nat) : Int) < n) := by omega
  simp only [h1, if_false]
  rw [Qu.setC_setC, show f.chg + n.toNat - n.toNat = f.chg by omega, ← he, Qu.setC_self hI.up hm]

section
variable {w w' : World} {tag tag' : Nat → Nat} {P : Pp} {v : Pv}
def ChgP (w : World) (tag : Nat → Nat) (P : Pp) (v : Pv) (r : Int × List Qu.Fac) (e : Ending) (w' : World) : Prop := e = .returned (.int .i64 r.1) ∧ Po w' tag P { v with l := r.2 } ∧ Turn (Mine tag) w w'
theorem Po.charge_ (h : Po w tag P v) (f n : Int) : Calls Tryz.prog 95 #[.pointer (some ⟨P.tb, 0, none⟩), .int .i64 f, .int .i64 n] w (ChgP w tag P v (Qu.chargeA v.l f n)) := by
  refine (Qu.chargeT_any h.tree h.inv f n).mono ?_
  rintro e w' ⟨rfl, hq, ht⟩
  exact ⟨rfl, h.tree_ (h.inv.chargeA f n) hq ht, (turn_of_qu ht).wide (fun x e => mine_of e (by decide) (by decide))⟩
theorem Po.refund_ (h : Po w tag P v) (f n : Int) : Calls Tryz.prog 96 #[.pointer (some ⟨P.tb, 0, none⟩), .int .i64 f, .int .i64 n] w (ChgP w tag P v (Qu.refundA v.l f n)) := by
  refine (Qu.refundT_any h.tree h.inv f n).mono ?_
  rintro e w' ⟨rfl, hq, ht⟩
  exact ⟨rfl, h.tree_ (h.inv.refundA f n) hq ht, (turn_of_qu ht).wide (fun x e => mine_of e (by decide) (by decide))⟩
theorem Po.n2 (h : Po w tag P v) {k : Nat} : ¬ Tn (fun x => tag x = 10 + k) P.mm P.K P.gf 2 := fun e => by
  rcases e with e | e
  · have := h.t0.2; omega
  · have := h.t0.2; have := h.tB _ e.ab; omega
theorem Po.ab (h : Po w tag P v) {k : Nat} : ∀ x, tag x = 10 + k → ¬ AB P.bb P.mm P.K P.bf P.gf x := fun x e ha => by have := h.tB x ha; omega

def TakeP (w : World) (tag : Nat → Nat) (P : Pp) (v : Pv) (k : Nat) (e : Ending) (w' : World) : Prop :=
  ∃ B' U', Po w' tag P { v with ct := v.ct + 1, B := B', U := now v.U k U' } ∧ Turn (Mine tag) w w' ∧
    ((e = .returned (.tuple #[.int .i64 0, .int .i64 4]) ∧ B' = v.B ∧ U' = v.U k ∧ (∀ q, ¬ Opened (v.U k) (many k) q) ∧ ∀ a j, v.B a j ≠ .free) ∨
     ∃ q i, e = .returned (.tuple #[.int .i64 ((place (cost k) q i : Nat) : Int), .int .i64 0]) ∧ Taken (v.U k) U' (many k) q i ∧ Came v.B B' (v.U k) (many k) q ∧ q < 2 ^ P.K)
theorem Po.take_ (h : Po w tag P v) {k : Nat} (h1 : 1 ≤ k) (h7 : k ≤ 7) (hn : ∀ x, w.heap.size ≤ x → tag x = 10 + k) (hc : v.ct ≤ 1000000) : Calls Tryz.prog 10 #[.pointer (some ⟨P.cb k, 0, none⟩)] w (TakeP w tag P v k) := by
  have hz := h.sz h1 h7
  refine (stake_any (h.cach k h1 h7) h.good h.ab h.tab h.n2 hc h.hK.2 rfl (h.fit k h1 h7) hz.lo hz.hi hz.m).mono ?_
  rintro e w' ⟨Z', B', ht, hZ', hG', hh⟩
  have htm := ht.wide (h.tn h1)
  rcases hh with ⟨rfl, e1, e2, rfl, e4⟩ | ⟨q, i, U', rfl, e1, e2, e3, e4⟩
  · refine ⟨v.B, v.U k, ?_, htm, .inl ⟨rfl, rfl, rfl, e1, e2⟩⟩
    exact h.cach_ h1 h7 hn ht hZ' hG' e4 (by omega) (h.fit k h1 h7) (fun j hj1 hj7 _ => h.fit j hj1 hj7) (fun j hj1 hj7 hj => h.apt k j h1 h7 hj1 hj7 (fun e => hj e.symm))
  · refine ⟨B', U', ?_, htm, .inr ⟨q, i, rfl, e1, e4, (e3.page q ⟨i, e1.lt, by rw [e1.now]; exact setU_same _ _ _ _⟩).2⟩⟩
    refine h.cach_ h1 h7 hn ht hZ' hG' e2 (by omega) e3 (fun j hj1 hj7 _ => e4.fit2 (h.fit j hj1 hj7)) (fun j hj1 hj7 hj => ?_)
    rw [e1.now]
    refine (h.apt k j h1 h7 hj1 hj7 (fun e => hj e.symm)).take ?_
    rcases e4 with ⟨hs, _⟩ | ⟨_, _, hu, _⟩
    · exact .inl hs
    · exact .inr ((h.fit j hj1 hj7).new hu)
def GiveP (w : World) (tag : Nat → Nat) (P : Pp) (v : Pv) (k q i : Nat) (e : Ending) (w' : World) : Prop :=
  ∃ B', e = .returned (.int .i64 0) ∧ Po w' tag P { v with B := B', U := now v.U k (setU (v.U k) q i false) } ∧ Turn (Mine tag) w w' ∧
    ((Slb (setU (v.U k) q i false) (many k) q ∧ B' = v.B) ∨ (¬ Slb (setU (v.U k) q i false) (many k) q ∧ Less v.B B' 0 q))
theorem Po.give_ (h : Po w tag P v) {k q i : Nat} (h1 : 1 ≤ k) (h7 : k ≤ 7) (hn : ∀ x, w.heap.size ≤ x → tag x = 10 + k) (hi : i < many k) (hu : v.U k q i = true) (x : Int) (hx : x = ((place (cost k) q i : Nat) : Int)) (hx2 : x < 9223372036854775808) : Calls Tryz.prog 13 #[.pointer (some ⟨P.cb k, 0, none⟩), .int .i64 x] w (GiveP w tag P v k q i) := by
  have hz := h.sz h1 h7
  refine (sgive_any x (h.cach k h1 h7) h.good h.ab h.tab h.n2 hz.pages (h.fit k h1 h7) hz.lo hz.hi hz.m (by omega) hx2).mono ?_
  rintro e w' ⟨Z', B', ht, hZ', hG', hh⟩
  have htm := ht.wide (h.tn h1)
  rcases hh with ⟨rfl, e1, rfl, e4⟩ | ⟨q', i', rfl, e1, e2, e3, e4, e5, e6⟩
  · exact absurd hx (e1 q i hi hu)
  · obtain ⟨rfl, rfl⟩ := place_one hz.pos hz.page hi e1 (by omega : place (cost k) q i = place (cost k) q' i')
    refine ⟨B', rfl, ?_, htm, e6⟩
    refine h.cach_ h1 h7 hn ht hZ' hG' e4 (Nat.le_refl _) e5 (fun j hj1 hj7 hj => ?_) (fun j hj1 hj7 hj => (h.apt k j h1 h7 hj1 hj7 (fun e => hj e.symm)).give)
    have hF := h.fit j hj1 hj7
    rcases e6 with ⟨_, rfl⟩ | ⟨_, hl⟩
    · exact hF
    · exact ⟨fun r hr => ⟨(hl 0 r).2 ⟨(hF.page r hr).1, fun e => h.apt k j h1 h7 hj1 hj7 (fun e => hj e.symm) r ⟨⟨i, hi, e.2 ▸ hu⟩, hr⟩⟩, (hF.page r hr).2⟩, hF.inn⟩
def FillP (w : World) (tag : Nat → Nat) (P : Pp) (v : Pv) (m : List Int) (e : Ending) (w' : World) : Prop := e = .returned (.int .i64 0) ∧ Po w' tag P { v with m := m } ∧ Turn (Mine tag) w w'
theorem Po.arMine (h : Po w tag P v) : ∀ x, x = P.ag → Mine tag x := fun x e => by subst e; exact mine_of h.tA.2 (by decide) (by decide)
theorem Po.fill_ (h : Po w tag P v) (a n : Nat) (c : Int) (hx : a + n ≤ v.m.length) (h0 : 0 ≤ c) (h1 : c ≤ 255) : Calls Tryz.prog 40 #[.pointer (some ⟨P.ab, 0, none⟩), .int .i64 (a : Int), .int .i64 (n : Int), .int .u8 c] w (FillP w tag P v (Ar.putAt v.m a (List.replicate n c))) := by
  refine (Ar.fill_ok P.ab P.ag v.m a n c w h.aren (by omega) (by omega) (by omega) h0 h1).mono ?_
  rintro e w' ⟨rfl, hA, hb⟩
  rw [Int.toNat_natCast, Int.toNat_natCast] at hA
  exact ⟨rfl, h.aren_ hA (by rw [Ar.putAt_length _ _ _ (by rw [List.length_replicate]; exact hx)]) hb, (turn_of_ar hb).wide h.arMine⟩
theorem Po.place_in (h : Po w tag P v) {k q i : Nat} (h1 : 1 ≤ k) (h7 : k ≤ 7) (hi : i < many k) (hq : q < 2 ^ P.K) : place (cost k) q i + cost k ≤ v.m.length ∧ place (cost k) q i + cost k ≤ 1073741824 := by
  have hz := h.sz h1 h7
  have e := (Go.Proofs.YtdmnemgooagehaaGreatDoor.place_in hz.page hi (p := q)).2
  have hp := hz.pages
  have hl := h.len
  omega
end
end Go.Proofs.YtdmnemgooagehaaGreatDoor

namespace Go.Proofs.YtdmnemgooagehaaGreatDoor
open Go.RowKit Go.Maps

theorem pget_nil (f c : Int) (w : World) : Calls Tryz.prog 30 #[.pointer none, .int .i64 f, .int .i64 c] w fun e w' => e = .returned (.tuple #[.int .i64 0, .int .i64 1]) ∧ w' = w := by
  go_enter Tryz.func30, Tryz.ntmps30
  go_wp2_with (go_at_call 94; refine (pcache_nil _ _).mono ?_; rintro e wx ⟨rfl, ex⟩; rw [ex]; clear ex wx)
  go_ret2
  exact ⟨rfl, rfl⟩
theorem pput_nil (f c x : Int) (w : World) : Calls Tryz.prog 31 #[.pointer none, .int .i64 f, .int .i64 c, .int .i64 x] w fun e w' => e = .returned (.int .i64 1) ∧ w' = w := by
  go_enter Tryz.func31, Tryz.ntmps31
  go_wp2_with (go_at_call 94; refine (pcache_nil _ _).mono ?_; rintro e wx ⟨rfl, ex⟩; rw [ex]; clear ex wx)
  go_ret
  exact ⟨rfl, rfl⟩

/-- Why memory can't be got. -/
def NoGet (v : Pv) (f c er : Int) : Prop :=
  (er = 1 ∧ ¬ (1 ≤ c ∧ c ≤ 7)) ∨ ∃ k, Cls c k ∧ (er = (Qu.chargeA v.l f ((cost k : Nat) : Int)).1 ∨ er = 4 ∧ (Qu.chargeA v.l f ((cost k : Nat) : Int)).1 = 0 ∧ (∀ q, ¬ Opened (v.U k) (many k) q) ∧ ∀ a j, v.B a j ≠ .free)
/-- What a pool has behind a Get that is OK. -/
def gotV (v : Pv) (f : Int) (k q i : Nat) (B' : St) (U' : Pls) : Pv :=
  { ct := v.ct + 1, B := B', U := now v.U k U', l := (Qu.chargeA v.l f ((cost k : Nat) : Int)).2, nxt := v.nxt, m := Ar.putAt v.m (place (cost k) q i) (List.replicate (cost k) 0) }
structure GotIt (P : Pp) (v : Pv) (f : Int) (k q i : Nat) (B' : St) (U' : Pls) : Prop where
  k1 : 1 ≤ k
  k7 : k ≤ 7
  chg : (Qu.chargeA v.l f ((cost k : Nat) : Int)).1 = 0
  tk : Taken (v.U k) U' (many k) q i
  cm : Came v.B B' (v.U k) (many k) q
  qN : q < 2 ^ P.K
def PGetPost (w : World) (tag : Nat → Nat) (P : Pp) (v : Pv) (f c : Int) (e : Ending) (w' : World) : Prop :=
  ∃ tag', Turn (Mine tag) w w' ∧ Agr w tag tag' ∧
    ((∃ er, e = .returned (.tuple #[.int .i64 0, .int .i64 er]) ∧ er ≠ 0 ∧ NoGet v f c er ∧ Po w' tag' P { v with ct := v.ct + 1 }) ∨
     ∃ k q i B' U', Cls c k ∧ e = .returned (.tuple #[.int .i64 ((place (cost k) q i : Nat) : Int), .int .i64 0]) ∧ GotIt P v f k q i B' U' ∧ Po w' tag' P (gotV v f k q i B' U'))

section
variable {w w' : World} {tag tag' : Nat → Nat} {P : Pp} {v : Pv}
theorem Po.more (h : Po w tag P v) : Po w tag P { v with ct := v.ct + 1 } :=
  ⟨h.head, h.tree, h.inv, h.good.more (Nat.le_succ _), h.aren, h.len, fun k h1 h7 => (h.cach k h1 h7).wide (fun _ h => h) (Nat.le_succ _), h.tab, h.cst, h.fit, h.apt, h.tP, h.tA, h.tB, h.t0, h.hK⟩
theorem mine_agr {w : World} {tag tag' : Nat → Nat} {x : Nat} (ha : Agr w tag tag') (hx : x < w.heap.size) (h : Mine tag' x) : Mine tag x := by
  unfold Mine at h ⊢
  rw [ha x hx] at h
  exact h
theorem Turn.agr {w w1 w2 : World} {tag tag' : Nat → Nat} (h : Turn (Mine tag) w w1) (k : Turn (Mine tag') w1 w2) (ha : Agr w tag tag') : Turn (Mine tag) w w2 :=
  h.next k (fun x hx => by
    by_cases e : x < w.heap.size
    · exact .inl (mine_agr ha e hx)
    · exact .inr (by omega))

set_option maxHeartbeats 4000000 in
set_option maxRecDepth 100000 in
theorem pget_any (h : Po w tag P v) (hc : v.ct ≤ 1000000) (f c : Int) : Calls Tryz.prog 30 #[.pointer (some ⟨P.pb, 0, none⟩), .int .i64 f, .int .i64 c] w (PGetPost w tag P v f c) := by
  rcases cls_or c with ⟨k, hk⟩ | hk
  · have HC := hid (pcache_in h hk)
    have hz := h.sz hk.2.1 hk.2.2
    have hS := h.drew.size hk.2.1 hk.2.2
    have hG := h.drew.charge_ f ((cost k : Nat) : Int)
    have hc0 := h.drew.c0
    obtain ⟨z, hzc⟩ : ∃ z, z = ((cost k : Nat) : Int) := ⟨_, rfl⟩
    obtain ⟨er, her⟩ : ∃ er, er = (Qu.chargeA v.l f ((cost k : Nat) : Int)).1 := ⟨_, rfl⟩
    have HS := hid (show Calls Tryz.prog 11 #[.pointer (some ⟨P.cb k, 0, none⟩)] w.drew fun e w' => e = .returned (.int .i64 z) ∧ w' = w.drew from by rw [hzc]; exact size_any _ _ _ hS)
    have HG := hid (show Calls Tryz.prog 95 #[.pointer (some ⟨P.tb, 0, none⟩), .int .i64 f, .int .i64 z] w.drew fun e w' => e = .returned (.int .i64 er) ∧ Po w' tag P { v with l := (Qu.chargeA v.l f ((cost k : Nat) : Int)).2 } ∧ Turn (Mine tag) w w' from by
      rw [hzc]
      refine hG.mono ?_
      rintro e w' ⟨rfl, hp, ht⟩
      exact ⟨by rw [her], hp, (Turn.refl _ _).drew.trans ht⟩)
    have hpb := h.c0
    have HH := hid (And.intro h (And.intro hk (And.intro hz (And.intro hzc her))))
    clear h hk hz hS hG hc0 hzc her
    by_cases h0 : er = 0
    · subst h0
      go_enter Tryz.func30, Tryz.ntmps30
      go_wp2_with (go_at_call 94; refine HC.out.mono ?_; rintro e wx ⟨rfl, ex⟩; rw [ex]; clear ex wx)
      go_region_held3 (fun W => W.cell? ⟨P.pb, 0, none⟩ = some (.pointer (some ⟨P.tb, 0, none⟩))) (first | assumption | exact hpb) (first
        | (go_at_call 11; refine HS.out.mono ?_; rintro e w1 ⟨rfl, rfl⟩)
        | (go_at_call 95; refine HG.out.mono ?_; rintro e w1 ⟨rfl, hp1, ht1⟩; have hpb1 := hp1.c0))
      obtain ⟨h, hk, hz, hzc, her⟩ := HH.out
      have hs1 := ht1.size
      have ha1 : Agr w tag (retag w1 tag (10 + k)) := fun x hx => retag_agr w1 tag _ x (by omega)
      have hp1' := hp1.re (retag_agr w1 tag (10 + k))
      have HT := hid (hp1'.take_ hk.2.1 hk.2.2 (fun x hx => retag_new w1 tag _ hx) hc)
      have H1 := hid (And.intro hp1 (And.intro ht1 ha1))
      clear h hk hz hzc her hs1 ha1 hp1' hp1 ht1
      go_wp2_with fail
      refine HT.out.mono ?_
      rintro e w2 ⟨B', U', hp2, ht2, ⟨rfl, rfl, rfl, hno, hnf⟩ | ⟨q, i, rfl, htk, hcm, hqN⟩⟩
      · obtain ⟨h, hk, hz, hzc, her⟩ := HH.out
        have hS2 := hp2.drew.size hk.2.1 hk.2.2
        have hR := hp2.drew.refund_ f ((cost k : Nat) : Int)
        have hpb2 := hp2.c0
        have e1 := refund_charge h.inv her.symm
        have HS2 := hid (show Calls Tryz.prog 11 #[.pointer (some ⟨P.cb k, 0, none⟩)] w2.drew fun e w' => e = .returned (.int .i64 z) ∧ w' = w2.drew from by rw [hzc]; exact size_any _ _ _ hS2)
        have HR := hid (show Calls Tryz.prog 96 #[.pointer (some ⟨P.tb, 0, none⟩), .int .i64 f, .int .i64 z] w2.drew fun e w' => (∃ r, e = .returned (.int .i64 r)) ∧ Po w' (retag w1 tag (10 + k)) P { v with ct := v.ct + 1 } ∧ Turn (Mine (retag w1 tag (10 + k))) w2 w' from by
          rw [hzc]
          refine hR.mono ?_
          rintro e w' ⟨rfl, hp, ht⟩
          refine ⟨⟨_, rfl⟩, ?_, (Turn.refl _ _).drew.trans ht⟩
          have e2 : (Qu.refundA (Qu.chargeA v.l f ((cost k : Nat) : Int)).2 f ((cost k : Nat) : Int)).2 = v.l := by rw [e1]
          have e3 : now v.U k (v.U k) = v.U := now_self _ _
          simp only [e2, e3] at hp
          exact hp)
        have H2 := hid (And.intro ht2 (And.intro hno hnf))
        clear h hk hz hzc her hS2 hR e1 hp2 ht2 hno hnf
        go_wp2_with fail
        go_region_held3 (fun W => W.cell? ⟨P.pb, 0, none⟩ = some (.pointer (some ⟨P.tb, 0, none⟩))) (first | assumption | exact hpb2) (first
          | (go_at_call 11; refine HS2.out.mono ?_; rintro e w3 ⟨rfl, rfl⟩)
          | (go_at_call 96; refine HR.out.mono ?_; rintro e w3 ⟨⟨r, rfl⟩, hp3, ht3⟩; have hpb3 := hp3.c0))
        have H3 := hid (And.intro hp3 ht3)
        clear hp3 ht3
        go_wp2_with fail
        go_ret2
        refine ⟨_, (H1.out.2.1.agr H2.out.1 H1.out.2.2).agr H3.out.2 H1.out.2.2, H1.out.2.2, .inl ⟨4, rfl, by decide, .inr ⟨k, HH.out.2.1, .inr ⟨rfl, HH.out.2.2.2.2.symm, H2.out.2.1, H2.out.2.2⟩⟩, H3.out.1⟩⟩
      · obtain ⟨h, hk, hz, hzc, her⟩ := HH.out
        have hS2 := hp2.drew.size hk.2.1 hk.2.2
        have hin := hp2.place_in hk.2.1 hk.2.2 htk.lt hqN
        have hR := hp2.drew.fill_ (place (cost k) q i) (cost k) 0 hin.1 (by decide) (by decide)
        have hpb2 := hp2.c2
        obtain ⟨pl, hpl⟩ : ∃ pl, pl = ((place (cost k) q i : Nat) : Int) := ⟨_, rfl⟩
        have HS2 := hid (show Calls Tryz.prog 11 #[.pointer (some ⟨P.cb k, 0, none⟩)] w2.drew fun e w' => e = .returned (.int .i64 z) ∧ w' = w2.drew from by rw [hzc]; exact size_any _ _ _ hS2)
        have HR := hid (show Calls Tryz.prog 40 #[.pointer (some ⟨P.ab, 0, none⟩), .int .i64 pl, .int .i64 z, .int .u8 0] w2.drew fun e w' => (∃ r, e = .returned (.int .i64 r)) ∧ Po w' (retag w1 tag (10 + k)) P (gotV v f k q i B' U') ∧ Turn (Mine (retag w1 tag (10 + k))) w2 w' from by
          rw [hzc, hpl]
          refine hR.mono ?_
          rintro e w' ⟨rfl, hp, ht⟩
          exact ⟨⟨_, rfl⟩, hp, (Turn.refl _ _).drew.trans ht⟩)
        have HI := hid (show GotIt P v f k q i B' U' from ⟨hk.2.1, hk.2.2, her.symm, htk, hcm, hqN⟩)
        have H2 := hid (And.intro ht2 hpl)
        rw [← hpl]
        clear h hk hz hzc her hS2 hR hp2 ht2 htk hcm hqN hin hpl
        go_wp2_with fail
        go_region_held3 (fun W => W.cell? ⟨P.pb, 2, none⟩ = some (.pointer (some ⟨P.ab, 0, none⟩))) (first | assumption | exact hpb2) (first
          | (go_at_call 11; refine HS2.out.mono ?_; rintro e w3 ⟨rfl, rfl⟩)
          | (go_at_call 40; refine HR.out.mono ?_; rintro e w3 ⟨⟨r, rfl⟩, hp3, ht3⟩; have hpb3 := hp3.c2))
        have H3 := hid (And.intro hp3 ht3)
        clear hp3 ht3
        go_wp2_with fail
        go_ret2
        refine ⟨_, (H1.out.2.1.agr H2.out.1 H1.out.2.2).agr H3.out.2 H1.out.2.2, H1.out.2.2, .inr ⟨k, q, i, B', U', HH.out.2.1, by rw [H2.out.2]; rfl, HI.out, H3.out.1⟩⟩
    · have h0' : (er != 0) = true := by simpa using h0
      have H0 := hid h0
      clear h0
      go_enter Tryz.func30, Tryz.ntmps30
      go_wp2_with (go_at_call 94; refine HC.out.mono ?_; rintro e wx ⟨rfl, ex⟩; rw [ex]; clear ex wx)
      go_region_held3 (fun W => W.cell? ⟨P.pb, 0, none⟩ = some (.pointer (some ⟨P.tb, 0, none⟩))) (first | assumption | exact hpb) (first
        | (go_at_call 11; refine HS.out.mono ?_; rintro e w1 ⟨rfl, rfl⟩)
        | (go_at_call 95; refine HG.out.mono ?_; rintro e w1 ⟨rfl, hp1, ht1⟩; have hpb1 := hp1.c0))
      have H1 := hid (And.intro hp1 ht1)
      clear hp1 ht1
      go_wp2_with fail
      go_ret2
      obtain ⟨h, hk, hz, hzc, her⟩ := HH.out
      refine ⟨tag, H1.out.2, Agr.refl _ _, .inl ⟨er, rfl, H0.out, .inr ⟨k, hk, .inl her⟩, ?_⟩⟩
      have e2 : (Qu.chargeA v.l f ((cost k : Nat) : Int)).2 = v.l := chargeA_err (by rw [← her]; exact H0.out)
      have hp := H1.out.1
      simp only [e2] at hp
      exact hp.more
  · have HC := hid (pcache_no h hk)
    have HH := hid (And.intro h hk)
    clear h hk
    go_enter Tryz.func30, Tryz.ntmps30
    go_wp2_with (go_at_call 94; refine HC.out.mono ?_; rintro e wx ⟨rfl, ex⟩; rw [ex]; clear ex wx)
    go_ret2
    exact ⟨tag, Turn.refl _ _, Agr.refl _ _, .inl ⟨1, rfl, by decide, .inl ⟨rfl, HH.out.2⟩, HH.out.1.more⟩⟩
end
end Go.Proofs.YtdmnemgooagehaaGreatDoor

namespace Go.Proofs.YtdmnemgooagehaaGreatDoor
open Go.RowKit Go.Maps

/-- Why memory isn't put back. -/
def NoPut (v : Pv) (f c x er : Int) : Prop :=
  (er = 1 ∧ ¬ (1 ≤ c ∧ c ≤ 7)) ∨ ∃ k, Cls c k ∧ ((er = 6 ∧ ∀ q i, i < many k → v.U k q i = true → x ≠ ((place (cost k) q i : Nat) : Int)) ∨ er = (Qu.refundA v.l f ((cost k : Nat) : Int)).1)
/-- What a pool has behind a Put that is OK. -/
def putV (v : Pv) (f : Int) (k q i : Nat) (B' : St) : Pv :=
  { ct := v.ct, B := B', U := now v.U k (setU (v.U k) q i false), l := (Qu.refundA v.l f ((cost k : Nat) : Int)).2, nxt := v.nxt, m := v.m }
structure PutIt (v : Pv) (f x : Int) (k q i : Nat) (B' : St) : Prop where
  k1 : 1 ≤ k
  k7 : k ≤ 7
  ref : (Qu.refundA v.l f ((cost k : Nat) : Int)).1 = 0
  lt : i < many k
  used : v.U k q i = true
  at_ : x = ((place (cost k) q i : Nat) : Int)
  less : (Slb (setU (v.U k) q i false) (many k) q ∧ B' = v.B) ∨ (¬ Slb (setU (v.U k) q i false) (many k) q ∧ Less v.B B' 0 q)
def PPutPost (w : World) (tag : Nat → Nat) (P : Pp) (v : Pv) (f c x : Int) (e : Ending) (w' : World) : Prop :=
  ∃ tag', Turn (Mine tag) w w' ∧ Agr w tag tag' ∧
    ((∃ er, e = .returned (.int .i64 er) ∧ er ≠ 0 ∧ NoPut v f c x er ∧ Po w' tag' P v) ∨
     ∃ k q i B', Cls c k ∧ e = .returned (.int .i64 0) ∧ PutIt v f x k q i B' ∧ Po w' tag' P (putV v f k q i B'))

section
variable {w w' : World} {tag tag' : Nat → Nat} {P : Pp} {v : Pv}
set_option maxHeartbeats 4000000 in
set_option maxRecDepth 100000 in
theorem pput_any (h : Po w tag P v) (f c x : Int) (hx1 : -9223372036854775808 ≤ x) (hx2 : x < 9223372036854775808) : Calls Tryz.prog 31 #[.pointer (some ⟨P.pb, 0, none⟩), .int .i64 f, .int .i64 c, .int .i64 x] w (PPutPost w tag P v f c x) := by
  rcases cls_or c with ⟨k, hk⟩ | hk
  · have HC := hid (pcache_in h hk)
    have hz := h.sz hk.2.1 hk.2.2
    have HA := hid (shas_any x (h.cach k hk.2.1 hk.2.2) hz.lo hz.hi hz.m hx1 hx2)
    obtain ⟨z, hzc⟩ : ∃ z, z = ((cost k : Nat) : Int) := ⟨_, rfl⟩
    obtain ⟨er, her⟩ : ∃ er, er = (Qu.refundA v.l f ((cost k : Nat) : Int)).1 := ⟨_, rfl⟩
    have HS := hid (fun n => show Calls Tryz.prog 11 #[.pointer (some ⟨P.cb k, 0, none⟩)] (w.drewN n).drew fun e w' => e = .returned (.int .i64 z) ∧ w' = (w.drewN n).drew from by rw [hzc]; exact size_any _ _ _ ((h.drewN n).drew.size hk.2.1 hk.2.2))
    have HG := hid (fun n => show Calls Tryz.prog 96 #[.pointer (some ⟨P.tb, 0, none⟩), .int .i64 f, .int .i64 z] (w.drewN n).drew fun e w' => e = .returned (.int .i64 er) ∧ Po w' tag P { v with l := (Qu.refundA v.l f ((cost k : Nat) : Int)).2 } ∧ Turn (Mine tag) w w' from by
      rw [hzc]
      refine ((h.drewN n).drew.refund_ f ((cost k : Nat) : Int)).mono ?_
      rintro e w' ⟨rfl, hp, ht⟩
      exact ⟨by rw [her], hp, ((Turn.refl _ _).drewN n).drew.trans ht⟩)
    have hpb := h.c0
    have HH := hid (And.intro h (And.intro hk (And.intro hz (And.intro hzc her))))
    clear h hk hz hzc her
    go_enter Tryz.func31, Tryz.ntmps31
    go_wp2_with (go_at_call 94; refine HC.out.mono ?_; rintro e wx ⟨rfl, ex⟩; rw [ex]; clear ex wx)
    refine HA.out.mono ?_
    rintro e wx ⟨hf, rfl, hff, n, rfl⟩
    have hpbn : (w.drewN n).cell? ⟨P.pb, 0, none⟩ = some (.pointer (some ⟨P.tb, 0, none⟩)) := hpb
    have HF := hid hff
    clear hff
    cases hf with
    | false =>
      go_wp2_with fail
      go_ret
      obtain ⟨h, hk, hz, hzc, her⟩ := HH.out
      refine ⟨tag, (Turn.refl _ _).drewN n, Agr.refl _ _, .inl ⟨6, rfl, by decide, .inr ⟨k, hk, .inl ⟨rfl, fun q i hi hu hx => ?_⟩⟩, h.drewN n⟩⟩
      have := HF.out.out.2 ⟨q, i, hi, hu, hx⟩
      cases this
    | true =>
      by_cases h0 : er = 0
      · subst h0
        go_wp2_with fail
        go_region_held3 (fun W => W.cell? ⟨P.pb, 0, none⟩ = some (.pointer (some ⟨P.tb, 0, none⟩))) (first | assumption | exact hpbn) (first
          | (go_at_call 11; refine (HS.out n).mono ?_; rintro e w1 ⟨rfl, rfl⟩)
          | (go_at_call 96; refine (HG.out n).mono ?_; rintro e w1 ⟨rfl, hp1, ht1⟩; have hpb1 := hp1.c0))
        obtain ⟨h, hk, hz, hzc, her⟩ := HH.out
        obtain ⟨q, i, hi, hu, hx⟩ := HF.out.out.1 trivial
        have hs1 := ht1.size
        have ha1 : Agr w tag (retag w1 tag (10 + k)) := fun x hx => retag_agr w1 tag _ x (by omega)
        have HT := hid ((hp1.re (retag_agr w1 tag (10 + k))).give_ hk.2.1 hk.2.2 (fun x hx => retag_new w1 tag _ hx) hi hu x hx hx2)
        have H1 := hid (And.intro ht1 (And.intro ha1 (And.intro hi (And.intro hu hx))))
        clear h hk hz hzc her hs1 ha1 hp1 ht1 hi hu hx
        go_wp2_with fail
        refine HT.out.mono ?_
        rintro e w2 ⟨B', rfl, hp2, ht2, hl⟩
        have H2 := hid (And.intro hp2 (And.intro ht2 hl))
        clear hp2 ht2 hl
        go_wp2_with fail
        go_ret
        obtain ⟨h, hk, hz, hzc, her⟩ := HH.out
        exact ⟨_, H1.out.1.agr H2.out.2.1 H1.out.2.1, H1.out.2.1, .inr ⟨k, q, i, B', hk, rfl, ⟨hk.2.1, hk.2.2, her.symm, H1.out.2.2.1, H1.out.2.2.2.1, H1.out.2.2.2.2, H2.out.2.2⟩, H2.out.1⟩⟩
      · have h0' : (er != 0) = true := by simpa using h0
        have H0 := hid h0
        clear h0
        go_wp2_with fail
        go_region_held3 (fun W => W.cell? ⟨P.pb, 0, none⟩ = some (.pointer (some ⟨P.tb, 0, none⟩))) (first | assumption | exact hpbn) (first
          | (go_at_call 11; refine (HS.out n).mono ?_; rintro e w1 ⟨rfl, rfl⟩)
          | (go_at_call 96; refine (HG.out n).mono ?_; rintro e w1 ⟨rfl, hp1, ht1⟩; have hpb1 := hp1.c0))
        have H1 := hid (And.intro hp1 ht1)
        clear hp1 ht1
        go_wp2_with fail
        go_ret
        obtain ⟨h, hk, hz, hzc, her⟩ := HH.out
        refine ⟨tag, H1.out.2, Agr.refl _ _, .inl ⟨er, rfl, H0.out, .inr ⟨k, hk, .inr her⟩, ?_⟩⟩
        have e2 : (Qu.refundA v.l f ((cost k : Nat) : Int)).2 = v.l := refundA_err (by rw [← her]; exact H0.out)
        have hp := H1.out.1
        simp only [e2] at hp
        exact hp
  · have HC := hid (pcache_no h hk)
    have HH := hid (And.intro h hk)
    clear h hk
    go_enter Tryz.func31, Tryz.ntmps31
    go_wp2_with (go_at_call 94; refine HC.out.mono ?_; rintro e wx ⟨rfl, ex⟩; rw [ex]; clear ex wx)
    go_ret
    exact ⟨tag, Turn.refl _ _, Agr.refl _ _, .inl ⟨1, rfl, by decide, .inl ⟨rfl, HH.out.2⟩, HH.out.1⟩⟩
end
end Go.Proofs.YtdmnemgooagehaaGreatDoor

namespace Go.Proofs.YtdmnemgooagehaaGreatDoor
open Go.RowKit Go.Maps

theorem pnew_no (s n : Int) (w : World) (h : n < 0 ∨ s < n) : Calls Tryz.prog 28 #[.int .i64 s, .int .i64 n] w fun e w' => e = .returned (.pointer none) ∧ w' = w := by
  by_cases h0 : n < 0
  · have h0' : decide (n < 0) = true := by simp; omega
    clear h
    go_enter Tryz.func28, Tryz.ntmps28
    go_wp2_with fail
    go_ret
    exact ⟨rfl, rfl⟩
  · have h0' : decide (n < 0) = false := by simp; omega
    have h1 : decide (s < n) = true := by simp; omega
    clear h
    go_enter Tryz.func28, Tryz.ntmps28
    go_wp2_with fail
    go_ret
    exact ⟨rfl, rfl⟩

def costA : Array Value := #[.int .i64 0, .int .i64 64, .int .i64 128, .int .i64 256, .int .i64 32, .int .i64 32, .int .i64 48, .int .i64 256]
theorem eight {j : Nat} (h : j < 8) : j = 0 ∨ j = 1 ∨ j = 2 ∨ j = 3 ∨ j = 4 ∨ j = 5 ∨ j = 6 ∨ j = 7 := by omega
theorem run_index73 (j : Nat) (hj : j < 8) (w : World) : (Instr.index 144 (.agg costA) (.int .i64 (j : Int))).run Tryz.prog w = .ok (.int .i64 ((cost j : Nat) : Int)) w := by
  rcases eight hj with rfl | rfl | rfl | rfl | rfl | rfl | rfl | rfl <;> kernel_rfl
theorem costA_at {j : Nat} (hj : j < 8) : costA.toList[j]? = some (.int .i64 ((cost j : Nat) : Int)) := by
  rcases eight hj with rfl | rfl | rfl | rfl | rfl | rfl | rfl | rfl <;> rfl
theorem range73 {w : World} (h : Cst w) : w.rangeAt 0 0 costA.toList := fun j v hv => by
  have hj : j < 8 := (List.getElem?_eq_some_iff.1 hv).1
  rw [Nat.zero_add, h j hj]
  rw [costA_at hj] at hv
  exact hv
theorem info73 : (Tryz.prog.info? 144).map (·.size) = some 8 := by kernel_rfl
theorem wpList_load73 {ops : Array Oper} {rest : List Oper} {op : Oper} {a : Act} {w : World} {Q : Exit → Act → World → Prop} (hgd : op.guard = none) (x : Operand) (ho : op.op = .load 144 x)
    (A : Array Value) (hx : a.eval x = .pointer (some ⟨0, 0, none⟩)) (hC : Cst w) (hA : costA = A)
    (h : wpList Tryz.prog ops Q rest (a.put op.dst (.agg A)) w) : wpList Tryz.prog ops Q (op :: rest) a w := by
  refine wpList_load_mid hgd 144 x ho 0 0 hx costA.toList _ (range73 hC) Tryz.underlying144 rfl (by rw [info73]; rfl) ?_
  rw [Array.toArray_toList, hA]; exact h

/-- What slab.New comes to, of each class's cost. -/
def SJ (w : World) (bb j : Nat) (e : Ending) (w' : World) : Prop :=
  ∃ (vv : Value) (r : Option Nat), e = .returned vv ∧ Hid (vv = .pointer (r.map fun c => ⟨c, 0, none⟩)) ∧ Below w.heap.size w w' ∧ (j = 0 → r = none) ∧ (1 ≤ j → ∃ c, r = some c ∧ Sl w' (fun x => w.heap.size ≤ x ∧ x < w'.heap.size) c bb (cost j) (many j) 0 none_)
theorem snewJ (bb j : Nat) (w : World) (hj : j < 8) : Calls Tryz.prog 8 #[.pointer (some ⟨bb, 0, none⟩), .int .i64 ((cost j : Nat) : Int)] w (SJ w bb j) := by
  rcases Nat.eq_zero_or_pos j with rfl | h1
  · refine (snew_no bb ((cost 0 : Nat) : Int) w (by left; decide)).mono ?_
    rintro e w' ⟨rfl, rfl⟩
    exact ⟨_, none, rfl, hid rfl, Below.refl _ _, fun _ => rfl, fun h => by omega⟩
  · have hc := cost_in (show 1 ≤ j by omega) (show j ≤ 7 by omega)
    refine (snew_any bb (cost j) w (by omega) (by omega) hc.2.2).mono ?_
    intro e w' h
    obtain ⟨c, rfl, hb, hS⟩ := new_sl (m := many j) h
    exact ⟨_, some c, rfl, hid rfl, hb, fun h => by omega, fun _ => ⟨c, rfl, hS⟩⟩

theorem poolCells_nil {tb bb ab : Nat} {cb : Nat → Nat} {j : Nat} (hj : j < 8) : (poolCells tb bb ab cb j)[3 + j]? = some (.pointer none) := by
  rcases eight hj with rfl | rfl | rfl | rfl | rfl | rfl | rfl | rfl <;> rfl
theorem poolCells_set {tb bb ab : Nat} {cb : Nat → Nat} {j : Nat} {r : Option Nat} (hj : j < 8) (h0 : j = 0 → r = none) (h1 : 1 ≤ j → ∃ c, r = some c) :
    (poolCells tb bb ab cb j).setIfInBounds (3 + j) (.pointer (r.map fun c => ⟨c, 0, none⟩)) = poolCells tb bb ab (now cb j (r.getD 0)) (j + 1) := by
  rcases Nat.eq_zero_or_pos j with rfl | hp
  · rw [h0 rfl]; rfl
  · obtain ⟨c, rfl⟩ := h1 hp
    rcases eight hj with rfl | rfl | rfl | rfl | rfl | rfl | rfl | rfl <;> first | omega | rfl
theorem poolCells_1 (tb bb ab : Nat) (cb : Nat → Nat) (j : Nat) : (poolCells tb bb ab cb j)[1]? = some (ptrAt bb) := rfl

theorem cell_beside (w : World) (b i k : Nat) (x : Value) (h : i ≠ k) : (w.setCell ⟨b, i, none⟩ x).cell? ⟨b, k, none⟩ = w.cell? ⟨b, k, none⟩ :=
  World.cell?_setCell_other _ _ _ _ (fun e => h (congrArg Addr.off e))
/-- A pool under way: so many classes have their caches. -/
structure PoJ (w0 w : World) (tag : Nat → Nat) (pb tb bb ab ag mm K N : Nat) (bf gf cb : Nat → Nat) (j : Nat) : Prop where
  head : w.heap[pb]? = some (.cells (poolCells tb bb ab cb j) 143)
  tree : Qu.Qt (fun x => tag x = 3) w tb [⟨0, -1, N, 0⟩] 1
  good : Good w bb mm K bf gf (begin_ K) 0
  aren : Ar.Arena w ab ag (Ar.zeros (1024 * 2 ^ K))
  cach : ∀ k, 1 ≤ k → k < j → k ≤ 7 → Sl w (fun x => tag x = 10 + k) (cb k) bb (cost k) (many k) 0 none_
  tab : Tab w
  cst : Cst w
  bel : Below w0.heap.size w0 w
  tP : tag pb = 1
  tA : tag ab = 2 ∧ tag ag = 2
  tB : ∀ x, AB bb mm K bf gf x → tag x = 4
  low : ∀ x, x < w0.heap.size → tag x = if x = 0 ∨ x = 2 then 5 else 0
  s0 : 2 < w0.heap.size
section
variable {w0 w w' : World} {tag : Nat → Nat} {pb tb bb ab ag mm K N j : Nat} {bf gf cb : Nat → Nat}
theorem PoJ.t0 (h : PoJ w0 w tag pb tb bb ab ag mm K N bf gf cb j) : tag 0 = 5 ∧ tag 2 = 5 := ⟨by rw [h.low 0 (by have := h.s0; omega)]; rfl, by rw [h.low 2 h.s0]; rfl⟩
theorem PoJ.next {r : Option Nat} {w1 : World} (h : PoJ w0 w tag pb tb bb ab ag mm K N bf gf cb j) (hj : j < 8) (hb : Below w.heap.size w w') (h0 : j = 0 → r = none) (h1 : 1 ≤ j → ∃ c, r = some c ∧ Sl w' (fun x => w.heap.size ≤ x ∧ x < w'.heap.size) c bb (cost j) (many j) 0 none_)
    (hw : w1 = w'.setCell ⟨pb, 3 + j, none⟩ (.pointer (r.map fun c => ⟨c, 0, none⟩))) : PoJ w0 w1 (retag w tag (10 + j)) pb tb bb ab ag mm K N bf gf (now cb j (r.getD 0)) (j + 1) := by
  have hpl := lt_of h.head
  have hsz := hb.size
  have ha := retag_agr w tag (10 + j)
  have hp : retag w tag (10 + j) pb = 1 := (ha _ hpl).trans h.tP
  have hbut : But pb w' w1 := by rw [hw]; exact But.setCell (But.refl pb w') (.inl rfl) _
  have ht : Turn (fun x => x = pb) w' w1 := Turn.of_but hbut (.inl rfl)
  have hx : ∀ x t, retag w tag (10 + j) x = t → t ≠ 1 → ¬ x = pb := fun x t e h0 e2 => h0 (e.symm.trans (e2 ▸ hp))
  have hT : Qu.Qt (fun x => retag w tag (10 + j) x = 3) w tb [⟨0, -1, N, 0⟩] 1 := h.tree.narrow.wide (fun x hx => by rw [ha x hx.2]; exact hx.1)
  have hA : retag w tag (10 + j) ab = 2 ∧ retag w tag (10 + j) ag = 2 := ⟨(ha _ h.aren.lt.1).trans h.tA.1, (ha _ h.aren.lt.2).trans h.tA.2⟩
  have hB : ∀ x, AB bb mm K bf gf x → retag w tag (10 + j) x = 4 := fun x hx => (ha _ (h.good.lab hx)).trans (h.tB x hx)
  have hlow : ∀ x, x < w0.heap.size → retag w tag (10 + j) x = if x = 0 ∨ x = 2 then 5 else 0 := fun x hx => (ha _ (by have := h.bel.size; omega)).trans (h.low x hx)
  have h05 : retag w tag (10 + j) 0 = 5 ∧ retag w tag (10 + j) 2 = 5 := ⟨(ha _ h.cst.pos).trans h.t0.1, (ha _ (by have := h.tab.pos; omega)).trans h.t0.2⟩
  have hpb0 : w0.heap.size ≤ pb := by
    by_cases e : pb < w0.heap.size
    · have := h.low pb e; rw [h.tP] at this; split at this <;> omega
    · omega
  refine ⟨?_, ((hT.below hb).turn (qu_of_turn ht) (fun x e => hx x _ e (by decide))), (h.good.below hb).turn ht (fun x e => hx x _ (hB x e) (by decide)), Arena_turn (h.aren.below hb) ht (hx _ _ hA.1 (by decide)) (hx _ _ hA.2 (by decide)), fun k hk1 hkj hk7 => ?_, (h.tab.below hb h.tab.pos).turn ht (hx _ _ h05.2 (by decide)), (h.cst.below hb).turn ht (hx _ _ h05.1 (by decide)), ?_, hp, hA, hB, hlow, h.s0⟩
  · rw [hw, heap_setCell_same _ pb (3 + j) _ _ _ ((hb.block pb hpl).trans h.head), poolCells_set hj h0 (fun e => by obtain ⟨c, hc, _⟩ := h1 e; exact ⟨c, hc⟩)]
  · by_cases e : k = j
    · subst e
      obtain ⟨c, rfl, hS⟩ := h1 hk1
      rw [now_at]
      exact (hS.turn ht (fun x hx2 e2 => by omega)).wide (fun x hx2 => retag_new w tag _ hx2.1) (Nat.le_refl _)
    · rw [now_ne _ _ e]
      exact ((((h.cach k hk1 (by omega) hk7).own).wide (fun x hx => (by rw [ha x hx.2]; exact hx.1 : retag w tag (10 + j) x = 10 + k)) (Nat.le_refl _)).below hb).turn ht (fun x e2 => hx x _ e2 (by omega))
  · exact Below.of_but (Below.of_below h.bel h.bel.size hb) (by have := h.bel.size; omega) hbut hpb0
/-- A pool that is new. -/
def v0 (K N : Nat) : Pv := { ct := 0, B := begin_ K, U := fun _ => none_, l := [⟨0, -1, N, 0⟩], nxt := 1, m := Ar.zeros (1024 * 2 ^ K) }
theorem PoJ.po (h : PoJ w0 w tag pb tb bb ab ag mm K N bf gf cb 8) (hN : N ≤ 1073741824) (hK : 6 ≤ K ∧ K ≤ 20) : Po w tag ⟨pb, tb, bb, ab, ag, mm, K, N, bf, gf, cb⟩ (v0 K N) :=
  ⟨h.head, h.tree, Qu.Inv.new N hN, h.good, h.aren, by show (Ar.zeros (1024 * 2 ^ K)).length = 2 ^ K * 1024; rw [Ar.zeros_length]; exact Nat.mul_comm _ _, fun k h1 h7 => h.cach k h1 (by omega) h7, h.tab, h.cst, fun k h1 h7 => ⟨fun q hq => absurd hq (none_slb _ _), fun _ _ h => by cases h⟩, fun i j _ _ _ _ _ q hq => none_slb _ _ hq.1, h.tP, h.tA, h.tB, h.t0, hK⟩
end

def PNewPost (w : World) (K N : Nat) (e : Ending) (w' : World) : Prop :=
  ∃ P tag, e = .returned (.pointer (some ⟨P.pb, 0, none⟩)) ∧ P.K = K ∧ P.N = N ∧ Po w' tag P (v0 K N) ∧ Below w.heap.size w w' ∧ ∀ x, x < w.heap.size → tag x = if x = 0 ∨ x = 2 then 5 else 0
set_option maxHeartbeats 4000000 in
set_option maxRecDepth 100000 in
theorem pnew_any (K N : Nat) (w : World) (hT : Tab w) (hC : Cst w) (hK : 6 ≤ K ∧ K ≤ 20) (hN : N ≤ 1024 * 2 ^ K) (hp2 : (bits .and .i64 ((1024 * 2 ^ K : Nat) : Int) (((1024 * 2 ^ K : Nat) : Int) - 1) == 0) = true) :
    Calls Tryz.prog 28 #[.int .i64 ((1024 * 2 ^ K : Nat) : Int), .int .i64 (N : Int)] w (PNewPost w K N) := by
  have hq1 : 64 ≤ 2 ^ K := Nat.pow_le_pow_right (n := 2) (by omega) hK.1
  have hq2 : 2 ^ K ≤ 1048576 := pow_le20 hK.2
  have HA := hid (Ar.new_ok (1024 * 2 ^ K) w (by omega) (by omega) hp2)
  have HQ := hid (fun w => Qu.new_ok N w (by omega))
  have HB := hid (fun w hT => newB_any K w hT hK.1 hK.2)
  obtain ⟨S, hS⟩ : ∃ S, S = 1024 * 2 ^ K := ⟨_, rfl⟩
  have hd1 : decide ((N : Int) < 0) = false := by simp
  have hd2 : decide (S < N) = false := by simp; omega
  rw [← hS] at HA HB
  rw [← hS]
  have HH := hid (And.intro hT (And.intro hC (And.intro hK (And.intro (show N ≤ 1073741824 by omega) hS))))
  clear hT hC hK hN hp2 hq1 hq2 hS
  go_enter Tryz.func28, Tryz.ntmps28
  go_wp2_with fail
  refine HA.out.mono ?_
  rintro e w1 ⟨ab, ag, rfl, hA, hb1, hl1, hl2⟩
  have H1 := hid (And.intro hA (And.intro hb1 (And.intro hl1 hl2)))
  clear hA hb1 hl1 hl2
  go_wp2_with fail
  refine (HQ.out w1).mono ?_
  rintro e w2 ⟨tb, rfl, hQ, hb2⟩
  have H2 := hid (And.intro hQ hb2)
  have HT2 := hid ((HH.out.1.below H1.out.2.1 HH.out.1.pos).below hb2 (by have := HH.out.1.pos; have := H1.out.2.1.size; omega))
  clear hQ hb2
  go_wp2_with fail
  refine (HB.out w2 HT2.out).mono ?_
  rintro e w3 ⟨bb, mm, bf, gf, rfl, hM, hNew, hb3⟩
  have hP0 : Hid (PoJ w (w3.alloc (.cells #[.pointer (some ⟨tb, 0, none⟩), .pointer (some ⟨bb, 0, none⟩), .pointer (some ⟨ab, 0, none⟩), .pointer none, .pointer none, .pointer none, .pointer none, .pointer none, .pointer none, .pointer none, .pointer none] 143)) (fun x => if x < w.heap.size then (if x = 0 ∨ x = 2 then 5 else 0) else if x < w1.heap.size then 2 else if x < w2.heap.size then 3 else if x < w3.heap.size then 4 else 1) w3.heap.size tb bb ab ag mm K N bf gf (fun _ => 0) 0) := by
    obtain ⟨hT, hC, hK, hN, hS⟩ := HH.out
    obtain ⟨hA, hb1, hl1, hl2⟩ := H1.out
    obtain ⟨hQ, hb2⟩ := H2.out
    have s1 := hb1.size
    have s2 := hb2.size
    have s3 := hb3.size
    have hbw : Below w3.heap.size w3 (w3.alloc (.cells #[.pointer (some ⟨tb, 0, none⟩), .pointer (some ⟨bb, 0, none⟩), .pointer (some ⟨ab, 0, none⟩), .pointer none, .pointer none, .pointer none, .pointer none, .pointer none, .pointer none, .pointer none, .pointer none] 143)) := (Below.refl _ _).alloc (Nat.le_refl _) _
    have h13 : Below w1.heap.size w1 w3 := hb2.trans (hb3.mono s2)
    have hlA := hA.lt
    have hG : Good w3 bb mm K bf gf (begin_ K) 0 := ⟨begin_inv K, begin_noheld K, hM⟩
    have hltB : ∀ x, AB bb mm K bf gf x → w2.heap.size ≤ x ∧ x < w3.heap.size := fun x hx => ⟨by
      rcases hx with rfl | rfl | ⟨k, hk, rfl | rfl⟩
      · exact hNew.1
      · exact hNew.2.1
      · exact (hNew.2.2 k hk).1
      · exact (hNew.2.2 k hk).2, hG.lab hx⟩
    have hw3 : Below w.heap.size w w3 := hb1.trans (h13.mono s1)
    refine ⟨heap_alloc_new _ _, ?_, hG.below hbw, ?_, fun k _ hk => by omega, (HT2.out.below hb3 HT2.out.pos).below hbw (by have := HT2.out.pos; omega), ?_, hw3.trans (hbw.mono (by omega)), ?_, ?_, fun x hx => ?_, fun x hx => by simp [hx], hT.pos⟩
    · refine (((hQ.narrow).below hb3).below hbw).wide (fun x hx => ?_)
      have h1 : ¬ x < w.heap.size := by omega
      have h2 : ¬ x < w1.heap.size := by omega
      have h3 : x < w2.heap.size := hx.2
      simp only [h1, h2, h3, if_true, if_false]
    · rw [← hS]
      exact (Ar.Arena.below hA h13).below hbw
    · exact (((hC.below hb1).below hb2).below hb3).below hbw
    · have h1 : ¬ w3.heap.size < w.heap.size := by omega
      have h2 : ¬ w3.heap.size < w1.heap.size := by omega
      have h3 : ¬ w3.heap.size < w2.heap.size := by omega
      simp only [h1, h2, h3, Nat.lt_irrefl, if_false]
    · constructor
      · have h1 : ¬ ab < w.heap.size := by omega
        simp only [h1, hlA.1, if_true, if_false]
      · have h1 : ¬ ag < w.heap.size := by omega
        simp only [h1, hlA.2, if_true, if_false]
    · have := hltB x hx
      have h1 : ¬ x < w.heap.size := by omega
      have h2 : ¬ x < w1.heap.size := by omega
      have h3 : ¬ x < w2.heap.size := by omega
      simp only [h1, h2, h3, this.2, if_true, if_false]
  clear hM hNew hb3
  obtain ⟨A, hA⟩ : ∃ A, A = costA := ⟨_, rfl⟩
  have HIX := hid (fun j hj w => by rw [hA]; exact run_index73 j hj w : ∀ (j : Nat), j < 8 → ∀ w, (Instr.index 144 (.agg A) (.int .i64 (j : Int))).run Tryz.prog w = .ok (.int .i64 ((cost j : Nat) : Int)) w)
  have hcst := hid hP0.out.cst
  have HAA := hid hA
  clear hA
  go_wp2_with (refine wpList_load73 rfl _ rfl A rfl hcst.out HAA.out.symm ?_)
  go_loopw [28] (fun t wr => ∃ j : Nat, j ≤ 8 ∧ t = .int .i64 (j : Int) ∧ ∃ tag cb, Hid (PoJ w wr tag w3.heap.size tb bb ab ag mm K N bf gf cb j)) (fun t _ => 8 - (intOf t).toNat)
  case atStart => exact ⟨0, by omega, rfl, _, _, hP0⟩
  case round =>
    obtain ⟨j, hj, rfl, tag, cb, hP⟩ := hrel
    clear hP0 hcst
    obtain ⟨pb, hpb⟩ : ∃ pb, pb = w3.heap.size := ⟨_, rfl⟩
    rw [← hpb] at hP ⊢
    have HPB := hid hpb
    clear hpb
    by_cases hlt : j < 8
    · have hpc : wr.cell? ⟨pb, 3 + j, none⟩ = some (.pointer none) := by rw [cell_of_row wr pb (3 + j) _ _ _ hP.out.head, poolCells_nil hlt]
      have hp1 : wr.cell? ⟨pb, 1, none⟩ = some (.pointer (some ⟨bb, 0, none⟩)) := by rw [cell_of_row wr pb 1 _ _ _ hP.out.head, poolCells_1]; rfl
      have hplt := lt_of hP.out.head
      have hi : ∀ w, (Instr.index 144 (.agg A) (.int .i64 (j : Int))).run Tryz.prog w = .ok (.int .i64 ((cost j : Nat) : Int)) w := HIX.out j hlt
      obtain ⟨z, hz⟩ : ∃ z, z = ((cost j : Nat) : Int) := ⟨_, rfl⟩
      have hj8 : (j : Int) < 8 := by omega
      rcases Nat.eq_zero_or_pos j with hj0 | hj0
      · have HS := hid (fun w => show Calls Tryz.prog 8 #[.pointer (some ⟨bb, 0, none⟩), .int .i64 ((cost j : Nat) : Int)] w fun e w' => e = .returned (.pointer none) ∧ Below w.heap.size w w' from (snewJ bb j w hlt).mono fun e w' ⟨vv, r, he, hv, hb, h0, _⟩ => by
          have := h0 hj0
          subst this
          exact ⟨by rw [he, hv.out]; rfl, hb⟩)
        rw [← hz] at hi HS
        have HJ := hid hj0
        clear hz hd1 hd2 hj0
        go_wp2_with fail
        go_region_held3 (fun W => W.cell? ⟨pb, 1, none⟩ = some (.pointer (some ⟨bb, 0, none⟩))) (first | assumption | exact hp1 | exact (cell_beside _ pb (3 + j) 1 _ (by omega)).trans (by assumption)) (first
          | (go_at_call 8; refine (HS.out _).mono ?_; rintro e w5 ⟨rfl, hb5⟩; have hc5 : w5.cell? ⟨pb, 3 + j, none⟩ = some (.pointer none) := ((hb5.cell (p := ⟨pb, 3 + j, none⟩) hplt).trans hpc); have hf5 : w5.frozen? ⟨pb, 3 + j, none⟩ = false := (frozen_of_row _ pb (3 + j) _ _ ((hb5.block pb hplt).trans hP.out.head)); have hp5 : w5.cell? ⟨pb, 1, none⟩ = some (.pointer (some ⟨bb, 0, none⟩)) := ((hb5.cell (p := ⟨pb, 1, none⟩) hplt).trans hp1)))
        go_wp2_with fail
        have hb5' : Below wr.heap.size wr w5 := ⟨hb5.os, hb5.tape, hb5.output, hb5.size, hb5.block⟩
        exact ⟨⟨j + 1, by omega, by go_num, _, _, hid (hP.out.next (r := none) hlt hb5' (fun _ => rfl) (fun h => by have := HJ.out; omega) rfl)⟩, by simp [intOf]; omega⟩
      · have HS := hid (fun w => show Calls Tryz.prog 8 #[.pointer (some ⟨bb, 0, none⟩), .int .i64 ((cost j : Nat) : Int)] w fun e w' => ∃ c, e = .returned (.pointer (some ⟨c, 0, none⟩)) ∧ Below w.heap.size w w' ∧ Hid (Sl w' (fun x => w.heap.size ≤ x ∧ x < w'.heap.size) c bb (cost j) (many j) 0 none_) from (snewJ bb j w hlt).mono fun e w' ⟨vv, r, he, hv, hb, _, h1⟩ => by
          obtain ⟨c, hc, hS⟩ := h1 hj0
          subst hc
          exact ⟨c, by rw [he, hv.out]; rfl, hb, hid hS⟩)
        rw [← hz] at hi HS
        have HJ := hid hj0
        clear hz hd1 hd2 hj0
        go_wp2_with fail
        go_region_held3 (fun W => W.cell? ⟨pb, 1, none⟩ = some (.pointer (some ⟨bb, 0, none⟩))) (first | assumption | exact hp1 | exact (cell_beside _ pb (3 + j) 1 _ (by omega)).trans (by assumption)) (first
          | (go_at_call 8; refine (HS.out _).mono ?_; rintro e w5 ⟨c, rfl, hb5, H15⟩; have hc5 : w5.cell? ⟨pb, 3 + j, none⟩ = some (.pointer none) := ((hb5.cell (p := ⟨pb, 3 + j, none⟩) hplt).trans hpc); have hf5 : w5.frozen? ⟨pb, 3 + j, none⟩ = false := (frozen_of_row _ pb (3 + j) _ _ ((hb5.block pb hplt).trans hP.out.head)); have hp5 : w5.cell? ⟨pb, 1, none⟩ = some (.pointer (some ⟨bb, 0, none⟩)) := ((hb5.cell (p := ⟨pb, 1, none⟩) hplt).trans hp1)))
        go_wp2_with fail
        have hb5' : Below wr.heap.size wr w5 := ⟨hb5.os, hb5.tape, hb5.output, hb5.size, hb5.block⟩
        exact ⟨⟨j + 1, by omega, by go_num, _, _, hid (hP.out.next (r := some c) hlt hb5' (fun h => by have := HJ.out; omega) (fun _ => ⟨c, rfl, H15.out⟩) rfl)⟩, by simp [intOf]; omega⟩
    · obtain rfl : j = 8 := by omega
      clear hd1 hd2
      go_wp2_with fail
      go_ret
      obtain ⟨hT, hC, hK, hN, hS⟩ := HH.out
      exact ⟨⟨pb, tb, bb, ab, ag, mm, K, N, bf, gf, cb⟩, tag, rfl, rfl, rfl, hP.out.po hN hK, hP.out.bel, hP.out.low⟩
end Go.Proofs.YtdmnemgooagehaaGreatDoor

namespace Go.Proofs.YtdmnemgooagehaaGreatDoor
open Go.RowKit Go.Maps

/-- The used blocks are just the slabs of the seven caches. -/
def ExactP (v : Pv) : Prop := ∀ a r, v.B a r = .used ↔ a = 0 ∧ ∃ k, (1 ≤ k ∧ k ≤ 7) ∧ Slb (v.U k) (many k) r
theorem ExactP.start (K N : Nat) : ExactP (v0 K N) := fun a r => ⟨fun h => absurd ((begin_us K a r).1 h) (by simp), fun ⟨_, k, _, h⟩ => absurd h (none_slb _ _)⟩
theorem slb_now_on {v : Pv} {k q i : Nat} (hi : i < many k) (j r : Nat) : Slb (now v.U k (setU (v.U k) q i true) j) (many j) r ↔ Slb (v.U j) (many j) r ∨ (j = k ∧ r = q) := by
  by_cases e : j = k
  · subst e
    rw [now_at]
    by_cases e2 : r = q
    · subst e2; exact ⟨fun _ => .inr ⟨rfl, rfl⟩, fun _ => slb_on hi⟩
    · rw [slb_other true e2]; exact ⟨.inl, fun h => h.resolve_right (fun h => e2 h.2)⟩
  · rw [now_ne _ _ e]; exact ⟨.inl, fun h => h.resolve_right (fun h => e h.1)⟩
theorem ExactP.got {P : Pp} {v : Pv} {f : Int} {k q i : Nat} {B' : St} {U' : Pls} (h : ExactP v) (g : GotIt P v f k q i B' U') : ExactP (gotV v f k q i B' U') := fun a r => by
  show B' a r = .used ↔ a = 0 ∧ ∃ j, (1 ≤ j ∧ j ≤ 7) ∧ Slb (now v.U k U' j) (many j) r
  rw [g.tk.now]
  have hs := fun j => slb_now_on (v := v) (q := q) g.tk.lt j r
  rcases g.cm with ⟨h1, e⟩ | ⟨_, _, _, hp, _⟩
  · rw [e, h a r]
    constructor
    · rintro ⟨ha, j, hj, h2⟩
      exact ⟨ha, j, hj, (hs j).2 (.inl h2)⟩
    · rintro ⟨ha, j, hj, h2⟩
      rcases (hs j).1 h2 with h3 | ⟨rfl, rfl⟩
      · exact ⟨ha, j, hj, h3⟩
      · exact ⟨ha, j, hj, h1⟩
  · rw [hp a r, h a r]
    constructor
    · rintro (⟨ha, j, hj, h2⟩ | ⟨ha, hr⟩)
      · exact ⟨ha, j, hj, (hs j).2 (.inl h2)⟩
      · exact ⟨ha, k, ⟨g.k1, g.k7⟩, (hs k).2 (.inr ⟨rfl, hr⟩)⟩
    · rintro ⟨ha, j, hj, h2⟩
      rcases (hs j).1 h2 with h3 | ⟨_, hr⟩
      · exact .inl ⟨ha, j, hj, h3⟩
      · exact .inr ⟨ha, hr⟩
theorem ExactP.put {v : Pv} {f x : Int} {k q i : Nat} {B' : St} (h : ExactP v) (hA : ∀ j, 1 ≤ j → j ≤ 7 → j ≠ k → ¬ Slb (v.U j) (many j) q) (g : PutIt v f x k q i B') : ExactP (putV v f k q i B') := fun a r => by
  show B' a r = .used ↔ a = 0 ∧ ∃ j, (1 ≤ j ∧ j ≤ 7) ∧ Slb (now v.U k (setU (v.U k) q i false) j) (many j) r
  have hq : Slb (v.U k) (many k) q := ⟨i, g.lt, g.used⟩
  rcases g.less with ⟨h1, e⟩ | ⟨h1, hl⟩
  · have hs : ∀ j, Slb (now v.U k (setU (v.U k) q i false) j) (many j) r ↔ Slb (v.U j) (many j) r := fun j => by
      by_cases e : j = k
      · subst e; rw [now_at]
        by_cases e2 : r = q
        · subst e2; exact ⟨fun _ => hq, fun _ => h1⟩
        · exact slb_other false e2
      · rw [now_ne _ _ e]
    rw [e, h a r]
    exact ⟨fun ⟨ha, j, hj, h2⟩ => ⟨ha, j, hj, (hs j).2 h2⟩, fun ⟨ha, j, hj, h2⟩ => ⟨ha, j, hj, (hs j).1 h2⟩⟩
  · rw [hl a r, h a r]
    have hs : ∀ j, 1 ≤ j → j ≤ 7 → (Slb (now v.U k (setU (v.U k) q i false) j) (many j) r ↔ Slb (v.U j) (many j) r ∧ r ≠ q) := fun j hj1 hj7 => by
      by_cases e : j = k
      · subst e; rw [now_at]
        by_cases e2 : r = q
        · subst e2; exact ⟨fun h => absurd h h1, fun h => absurd rfl h.2⟩
        · rw [slb_other false e2]; exact ⟨fun h => ⟨h, e2⟩, fun h => h.1⟩
      · rw [now_ne _ _ e]
        exact ⟨fun h => ⟨h, fun e2 => hA j hj1 hj7 e (e2 ▸ h)⟩, fun h => h.1⟩
    constructor
    · rintro ⟨⟨ha, j, hj, h2⟩, hn⟩
      exact ⟨ha, j, hj, (hs j hj.1 hj.2).2 ⟨h2, fun e => hn ⟨ha, e⟩⟩⟩
    · rintro ⟨ha, j, hj, h2⟩
      have := (hs j hj.1 hj.2).1 h2
      exact ⟨⟨ha, j, hj, this.1⟩, fun e => this.2 e.2⟩

/-- How many places of a class are used. -/
def lenK (P : Pp) (v : Pv) (k : Nat) : Nat := (usedOf (v.U k) (cost k) (many k) (2 ^ P.K)).length
theorem len_add {l l' : List Nat} {x : Nat} (h : l.Nodup) (h' : l'.Nodup) (hx : x ∉ l) (hm : ∀ y, y ∈ l' ↔ y ∈ l ∨ y = x) : l'.length = l.length + 1 := by
  have hP : l'.Perm (x :: l) := (List.perm_ext_iff_of_nodup h' (List.nodup_cons.2 ⟨hx, h⟩)).2 (fun y => by rw [hm y, List.mem_cons]; exact Or.comm)
  rw [hP.length_eq, List.length_cons]
theorem lenK_on {P : Pp} {v : Pv} {k q i : Nat} (h1 : 1 ≤ k) (h7 : k ≤ 7) (hi : i < many k) (hq : q < 2 ^ P.K) (hf : v.U k q i = false) : (usedOf (setU (v.U k) q i true) (cost k) (many k) (2 ^ P.K)).length = lenK P v k + 1 := by
  have hc := cost_in h1 h7
  have hm := many_in h1 h7
  refine len_add (usedOf_nodup (by omega) hm.2.2) (usedOf_nodup (by omega) hm.2.2) (fun h => ?_) (used_on hi hq)
  have := (used_is (by omega) hm.2.2 hq hi).1 h
  rw [hf] at this; cases this
theorem lenK_off {P : Pp} {v : Pv} {k q i : Nat} (h1 : 1 ≤ k) (h7 : k ≤ 7) (hi : i < many k) (hq : q < 2 ^ P.K) (hu : v.U k q i = true) : (usedOf (setU (v.U k) q i false) (cost k) (many k) (2 ^ P.K)).length + 1 = lenK P v k := by
  have hc := cost_in h1 h7
  have hm := many_in h1 h7
  have hg : Given (v.U k) (setU (v.U k) q i false) (many k) q i := ⟨hi, hu, rfl⟩
  have hmem := fun y => hg.mem (x := y) (n := 2 ^ P.K) (by omega) hm.2.2
  have hx := (used_is (by omega) hm.2.2 hq hi).2 hu
  refine (len_add (usedOf_nodup (by omega) hm.2.2) (usedOf_nodup (by omega) hm.2.2) (fun h => ((hmem _).1 h).2 rfl) (fun y => ?_)).symm
  rw [hmem y]
  by_cases e : y = place (cost k) q i
  · subst e; exact ⟨fun _ => .inr rfl, fun _ => hx⟩
  · exact ⟨fun h => .inl ⟨h, e⟩, fun h => h.elim (fun h => h.1) (fun h => absurd h e)⟩
def sumTo (f : Nat → Nat) : Nat → Nat
  | 0 => 0
  | j + 1 => sumTo f j + f (j + 1)
theorem sumTo_congr {f g : Nat → Nat} : ∀ {j : Nat}, (∀ k, 1 ≤ k → k ≤ j → f k = g k) → sumTo f j = sumTo g j
  | 0, _ => rfl
  | j + 1, h => by unfold sumTo; rw [sumTo_congr (fun k h1 h2 => h k h1 (by omega)), h (j + 1) (by omega) (by omega)]
theorem sumTo_one {f g : Nat → Nat} {k d : Nat} (hk : f k = g k + d) (h : ∀ j, j ≠ k → f j = g j) : ∀ {j : Nat}, 1 ≤ k → k ≤ j → sumTo f j = sumTo g j + d
  | 0, h1, h2 => by omega
  | j + 1, h1, h2 => by
    unfold sumTo
    by_cases e : k = j + 1
    · subst e; rw [sumTo_congr (fun i _ hi => h i (by omega)), hk]; omega
    · rw [sumTo_one hk h h1 (by omega), h (j + 1) (by omega)]; omega
def costs (P : Pp) (v : Pv) : Nat := sumTo (fun k => lenK P v k * cost k) 7
theorem costs_got {P : Pp} {v : Pv} {f : Int} {k q i : Nat} {B' : St} {U' : Pls} (g : GotIt P v f k q i B' U') : costs P (gotV v f k q i B' U') = costs P v + cost k ∧ lenK P (gotV v f k q i B' U') k = lenK P v k + 1 ∧ ∀ j, j ≠ k → lenK P (gotV v f k q i B' U') j = lenK P v j := by
  have e1 : lenK P (gotV v f k q i B' U') k = lenK P v k + 1 := by
    show (usedOf (now v.U k U' k) _ _ _).length = _
    rw [now_at, g.tk.now]
    exact lenK_on g.k1 g.k7 g.tk.lt g.qN g.tk.free
  have e2 : ∀ j, j ≠ k → lenK P (gotV v f k q i B' U') j = lenK P v j := fun j hj => by
    show (usedOf (now v.U k U' j) _ _ _).length = _
    rw [now_ne _ _ hj]; rfl
  exact ⟨sumTo_one (by rw [e1, Nat.add_mul, Nat.one_mul]) (fun j hj => by rw [e2 j hj]) g.k1 g.k7, e1, e2⟩
theorem costs_put {P : Pp} {v : Pv} {f x : Int} {k q i : Nat} {B' : St} (g : PutIt v f x k q i B') (hq : q < 2 ^ P.K) : costs P v = costs P (putV v f k q i B') + cost k ∧ lenK P v k = lenK P (putV v f k q i B') k + 1 ∧ ∀ j, j ≠ k → lenK P v j = lenK P (putV v f k q i B') j := by
  have e1 : lenK P v k = lenK P (putV v f k q i B') k + 1 := by
    show _ = (usedOf (now v.U k _ k) _ _ _).length + 1
    rw [now_at]
    exact (lenK_off g.k1 g.k7 g.lt hq g.used).symm
  have e2 : ∀ j, j ≠ k → lenK P v j = lenK P (putV v f k q i B') j := fun j hj => by
    show _ = (usedOf (now v.U k _ j) _ _ _).length
    rw [now_ne _ _ hj]; rfl
  exact ⟨sumTo_one (by rw [e1, Nat.add_mul, Nat.one_mul]) (fun j hj => by rw [e2 j hj]) g.k1 g.k7, e1, e2⟩

/-- The root alone. -/
def root (N c : Nat) : List Qu.Fac := [⟨0, -1, N, c⟩]
theorem root_the (N c : Nat) : Qu.the (root N c) 0 = some ⟨0, -1, N, c⟩ := rfl
theorem root_use (N c : Nat) : Qu.useOf (root N c) ⟨0, -1, N, c⟩ = c := by show c + (Qu.kids (root N c) 0).sum = c; rfl
theorem root_useA (N c : Nat) : Qu.useA (root N c) 0 = (c : Int) := by unfold Qu.useA; rw [root_the]; show ((Qu.useOf (root N c) ⟨0, -1, N, c⟩ : Nat) : Int) = _; rw [root_use]
theorem root_chgA (N c : Nat) : Qu.chgA (root N c) 0 = (c : Int) := by unfold Qu.chgA; rw [root_the]
theorem root_charge (N c n : Nat) : Qu.chargeA (root N c) 0 (n : Int) = if c + n ≤ N then (0, root N (c + n)) else (5, root N c) := by
  unfold Qu.chargeA
  rw [root_the]
  have hn : ¬ ((n : Int) < 0) := by omega
  simp only [hn, if_false, root_use]
  by_cases h : c + n ≤ N
  · rw [if_neg (by omega), if_pos h, Int.toNat_natCast]; rfl
  · rw [if_pos (by omega), if_neg h]
theorem root_refund (N c n : Nat) : Qu.refundA (root N c) 0 (n : Int) = if n ≤ c then (0, root N (c - n)) else (1, root N c) := by
  unfold Qu.refundA
  rw [root_the]
  by_cases h : n ≤ c
  · have h2 : ¬ ((n : Int) < 0 ∨ (c : Int) < (n : Int)) := by omega
    simp only [h2, if_false]
    rw [if_pos h, Int.toNat_natCast]; rfl
  · have h2 : (n : Int) < 0 ∨ (c : Int) < (n : Int) := by omega
    simp only [h2, if_true]
    rw [if_neg h]

/-- The first page of an empty pool. -/
theorem first_page {K : Nat} {B B' : St} {U : Pls} {m q : Nat} (hi : Inv K B) (hn : NoHeld B) (hu : ∀ k i, B k i ≠ .used) (hs : ¬ Slb U m q) (hc : Came B B' U m q) : q = 0 := by
  rcases hc with ⟨h1, _⟩ | ⟨_, _, _, _, k, j, hl, hp⟩
  · exact absurd h1 hs
  · obtain ⟨rfl, rfl⟩ := (whole_free hi hn hu k j).1 hl.2.1
    simp [pag, addr] at hp
    omega
/-- How many pages are free, and used. -/
theorem ExactP.pages {v : Pv} {K : Nat} (h : ExactP v) (hi : Inv K v.B) (hn : NoHeld v.B) : pages K (isK v.B .free) (K + 1) + cnt (fun p => decide (v.B 0 p = .used)) (2 ^ K) = 2 ^ K := by
  have e1 := pages_all hi hn
  have e2 : Go.Proofs.YtdmnemgooagehaaGreatDoor.pages K (isK v.B .used) (K + 1) = cnt (fun p => decide (v.B 0 p = .used)) (2 ^ K) := by
    rw [pages_low (fun k i hk => by unfold isK; simp; intro e; have := ((h k i).1 e).1; omega)]
    rfl
  omega
end Go.Proofs.YtdmnemgooagehaaGreatDoor

namespace Go.Proofs.YtdmnemgooagehaaGreatDoor
open Go.RowKit Go.Maps

section
variable {w w' : World} {tag tag' : Nat → Nat} {P : Pp} {v : Pv}
theorem Po.use_ (h : Po w tag P v) (i : Int) : Calls Tryz.prog 47 #[.pointer (some ⟨P.tb, 0, none⟩), .int .i64 i] w (Qu.UsePost (Qu.useA v.l i) w) := by
  obtain ⟨a, cap, fb, hq, _⟩ := h.tree
  exact Qu.useT_any hq h.inv i
theorem Po.left_ (h : Po w tag P v) : Calls Tryz.prog 62 #[.pointer (some ⟨P.bb, 0, none⟩)] w fun e w' => e = .returned (.int .i64 ((pages P.K (isK v.B .free) (P.K + 1) * 1024 : Nat) : Int)) ∧ w' = w :=
  left_any w P.bb P.mm P.K P.bf P.gf v.B v.ct h.good.2.2 h.good.1
theorem Po.free_ (h : Po w tag P v) : Calls Tryz.prog 25 #[.pointer (some ⟨P.bb, 0, none⟩)] w (Got v.B .free w) :=
  got_free w P.bb P.mm P.K P.bf P.gf v.B v.ct h.good h.tab
theorem Po.carve_ (h : Po w tag P v) (hn : ∀ x, w.heap.size ≤ x → tag x = 3) (hx : v.nxt ≤ 1073741824) (i n : Int) : Calls Tryz.prog 44 #[.pointer (some ⟨P.tb, 0, none⟩), .int .i64 i, .int .i64 n] w fun e w' =>
    e = .returned (.tuple #[.int .i64 (Qu.carveA v.l v.nxt i n).1, .int .i64 (Qu.carveA v.l v.nxt i n).2.1]) ∧ Po w' tag P { v with l := (Qu.carveA v.l v.nxt i n).2.2.1, nxt := (Qu.carveA v.l v.nxt i n).2.2.2 } ∧ Turn (Mine tag) w w' := by
  refine (Qu.carve_any h.tree h.inv hn hx i n).mono ?_
  rintro e w' ⟨rfl, hq, ht⟩
  exact ⟨rfl, h.tree_ (h.inv.carveA i n).1 hq ht, (turn_of_qu ht).wide (fun x e => mine_of e (by decide) (by decide))⟩
theorem Po.load_ (h : Po w tag P v) (a : Nat) (ha : a + 8 ≤ v.m.length) (h8 : a % 8 = 0) : Calls Tryz.prog 39 #[.pointer (some ⟨P.ab, 0, none⟩), .int .i64 (a : Int)] w fun e w' => e = .returned (.tuple #[.int .u64 (Ar.wordAt v.m a), .int .i64 0]) ∧ Below w.heap.size w w' := by
  refine (Ar.load_ok P.ab P.ag v.m a w h.aren (by omega) (by omega) (by omega)).mono ?_
  rintro e w' ⟨rfl, hb⟩
  rw [Int.toNat_natCast]
  exact ⟨rfl, hb⟩
/-- Words stored, out of a slice that is none of the pool's. -/
theorem Po.store_ (h : Po w tag P v) (a : Nat) (ws : List Int) (s o cap : Nat) (ha : a + 8 * ws.length ≤ v.m.length) (h8 : a % 8 = 0) (hs : s < w.heap.size) (ht0 : tag s = 0) (hsrc : ∀ j, j < ws.length → w.cell? ⟨s, o + j, none⟩ = some (.int .u64 (ws[j]?.getD 0))) (hws : Ar.Word ws) :
    Calls Tryz.prog 90 #[.pointer (some ⟨P.ab, 0, none⟩), .int .i64 (a : Int), .slice (some ⟨s, o, none⟩) ws.length cap] w (FillP w tag P v (Ar.putAt v.m a (Ar.wordsBytes ws))) := by
  refine (Ar.store_ok P.ab P.ag v.m ws a s o cap w h.aren (by omega) (by omega) (by omega) hs (fun e => by have := h.tA.2; rw [← e, ht0] at this; cases this) hsrc hws).mono ?_
  rintro e w' ⟨rfl, hA, hb⟩
  rw [Int.toNat_natCast] at hA
  exact ⟨rfl, h.aren_ hA (by rw [Ar.putAt_length _ _ _ (by rw [Ar.wordsBytes_length]; exact ha)]) hb, (turn_of_ar hb).wide h.arMine⟩
/-- What is behind a call that only makes new memory. -/
theorem Po.plus (h : Po w tag P v) (hb : Below w.heap.size w w') : Po w' (retag w tag 0) P v := (h.re (retag_agr w tag 0)).below hb
end

/-- Words beside what is written. -/
theorem putAt_out {m cs : List Int} {o : Nat} (h : o + cs.length ≤ m.length) {i : Nat} (hi : i < o ∨ o + cs.length ≤ i) : (Ar.putAt m o cs)[i]? = m[i]? := by
  rw [Ar.putAt_get m o cs h i]
  rcases hi with hi | hi
  · rw [if_pos hi]
  · rw [if_neg (by omega), if_neg (by omega)]
theorem putAt_in {m cs : List Int} {o : Nat} (h : o + cs.length ≤ m.length) {j : Nat} (hj : j < cs.length) : (Ar.putAt m o cs)[o + j]? = cs[j]? := by
  rw [Ar.putAt_get m o cs h (o + j), if_neg (by omega), if_pos (by omega), show o + j - o = j by omega]
theorem wordAt_out {m cs : List Int} {o a : Nat} (h : o + cs.length ≤ m.length) (hi : a + 8 ≤ o ∨ o + cs.length ≤ a) : Ar.wordAt (Ar.putAt m o cs) a = Ar.wordAt m a := by
  unfold Ar.wordAt
  rw [putAt_out h (by omega : a < o ∨ o + cs.length ≤ a), putAt_out h (by omega : a + 1 < o ∨ o + cs.length ≤ a + 1), putAt_out h (by omega : a + 2 < o ∨ o + cs.length ≤ a + 2), putAt_out h (by omega : a + 3 < o ∨ o + cs.length ≤ a + 3), putAt_out h (by omega : a + 4 < o ∨ o + cs.length ≤ a + 4), putAt_out h (by omega : a + 5 < o ∨ o + cs.length ≤ a + 5), putAt_out h (by omega : a + 6 < o ∨ o + cs.length ≤ a + 6), putAt_out h (by omega : a + 7 < o ∨ o + cs.length ≤ a + 7)]
theorem zeros_at {m : List Int} {o n : Nat} (h : o + n ≤ m.length) {j : Nat} (hj : j < n) : (Ar.putAt m o (List.replicate n 0))[o + j]? = some 0 := by
  rw [putAt_in (by rw [List.length_replicate]; exact h) (by rw [List.length_replicate]; exact hj), List.getElem?_replicate, if_pos hj]
theorem wordAt_zeros {m : List Int} {o n a : Nat} (h : o + n ≤ m.length) (h1 : o ≤ a) (h2 : a + 8 ≤ o + n) : Ar.wordAt (Ar.putAt m o (List.replicate n 0)) a = 0 := by
  have e : ∀ j, j < 8 → (Ar.putAt m o (List.replicate n 0))[a + j]? = some 0 := fun j hj => by
    have := zeros_at h (j := a + j - o) (by omega)
    rwa [show o + (a + j - o) = a + j by omega] at this
  have e0 := e 0 (by omega)
  rw [Nat.add_zero] at e0
  unfold Ar.wordAt
  rw [e0, e 1 (by omega), e 2 (by omega), e 3 (by omega), e 4 (by omega), e 5 (by omega), e 6 (by omega), e 7 (by omega)]
  rfl
end Go.Proofs.YtdmnemgooagehaaGreatDoor

namespace Go.Proofs.YtdmnemgooagehaaGreatDoor
open Go.RowKit Go.Maps

/-- A pool that was made behind the world w0; the law's own blocks (G) are none of the pool's. -/
def Pw (w0 w : World) (G : Nat → Prop) (P : Pp) (v : Pv) : Prop :=
  ∃ tag, Po w tag P v ∧ Below w0.heap.size w0 w ∧ (∀ x, x < w0.heap.size → ¬ Mine tag x) ∧ ∀ x, G x → x < w.heap.size ∧ tag x = 0

section
variable {w0 w w' : World} {G : Nat → Prop} {P : Pp} {v : Pv}
theorem Pw.b0 (h : Pw w0 w G P v) : Below w0.heap.size w0 w := h.choose_spec.2.1
theorem Pw.new (K N : Nat) (hT : Tab w) (hC : Cst w) (hK : 6 ≤ K ∧ K ≤ 20) (hN : N ≤ 1024 * 2 ^ K) (hp2 : (bits .and .i64 ((1024 * 2 ^ K : Nat) : Int) (((1024 * 2 ^ K : Nat) : Int) - 1) == 0) = true) (hb : Below w0.heap.size w0 w) (hG : ∀ x, G x → x < w.heap.size ∧ x ≠ 0 ∧ x ≠ 2) :
    Calls Tryz.prog 28 #[.int .i64 ((1024 * 2 ^ K : Nat) : Int), .int .i64 (N : Int)] w fun e w' => ∃ P, e = .returned (.pointer (some ⟨P.pb, 0, none⟩)) ∧ P.K = K ∧ P.N = N ∧ Pw w0 w' G P (v0 K N) ∧ Below w.heap.size w w' := by
  refine (pnew_any K N w hT hC hK hN hp2).mono ?_
  rintro e w' ⟨P, tag, rfl, h1, h2, hp, hb2, hlow⟩
  have hs := hb.size
  refine ⟨P, rfl, h1, h2, ⟨tag, hp, Below.of_below hb hb.size hb2, fun x hx => ?_, fun x hx => ?_⟩, hb2⟩
  · have := hlow x (by omega)
    unfold Mine
    rw [this]
    split <;> simp
  · obtain ⟨e1, e2, e3⟩ := hG x hx
    refine ⟨Nat.lt_of_lt_of_le e1 hb2.size, ?_⟩
    rw [hlow x e1, if_neg (by omega)]
theorem Pw.below (h : Pw w0 w G P v) (hb : Below w.heap.size w w') : Pw w0 w' G P v := by
  obtain ⟨tag, h1, h2, h3, h4⟩ := h
  exact ⟨tag, h1.below hb, Below.of_below h2 h2.size hb, h3, fun x hx => ⟨Nat.lt_of_lt_of_le (h4 x hx).1 hb.size, (h4 x hx).2⟩⟩
theorem Pw.drewN (h : Pw w0 w G P v) (k : Nat) : Pw w0 (w.drewN k) G P v := h.below (below_drewN (Below.refl _ w) k)
theorem Pw.drew (h : Pw w0 w G P v) : Pw w0 w.drew G P v := h.drewN 1
theorem Pw.fewer {G' : Nat → Prop} (h : Pw w0 w G P v) (hg : ∀ x, G' x → G x) : Pw w0 w G' P v := by
  obtain ⟨tag, h1, h2, h3, h4⟩ := h
  exact ⟨tag, h1, h2, h3, fun x hx => h4 x (hg x hx)⟩
/-- The law's own blocks may turn; what has come is the law's. -/
theorem Pw.grown (h : Pw w0 w G P v) (ht : Turn G w w') (hG : ∀ x, G x → w0.heap.size ≤ x) : Pw w0 w' (fun x => G x ∨ w.heap.size ≤ x ∧ x < w'.heap.size) P v := by
  obtain ⟨tag, h1, h2, h3, h4⟩ := h
  have hs := h2.size
  refine ⟨retag w tag 0, (h1.re (retag_agr w tag 0)).others (ht.wide (fun x hx => (retag_agr w tag 0 x (h4 x hx).1).trans (h4 x hx).2)), Below.of_turn h2 hs ht hG, fun x hx => ?_, fun x hx => ?_⟩
  · unfold Mine; rw [retag_agr w tag 0 x (by omega)]; exact h3 x hx
  · rcases hx with hx | ⟨e1, e2⟩
    · exact ⟨Nat.lt_of_lt_of_le (h4 x hx).1 ht.size, (retag_agr w tag 0 x (h4 x hx).1).trans (h4 x hx).2⟩
    · exact ⟨e2, retag_new w tag 0 e1⟩
theorem Pw.plus (h : Pw w0 w G P v) (hb : Below w.heap.size w w') : Pw w0 w' (fun x => G x ∨ w.heap.size ≤ x ∧ x < w'.heap.size) P v := by
  obtain ⟨tag, h1, h2, h3, h4⟩ := h
  have hs := h2.size
  refine ⟨retag w tag 0, h1.plus hb, Below.of_below h2 hs hb, fun x hx => ?_, fun x hx => ?_⟩
  · unfold Mine; rw [retag_agr w tag 0 x (by omega)]; exact h3 x hx
  · rcases hx with hx | ⟨e1, e2⟩
    · exact ⟨Nat.lt_of_lt_of_le (h4 x hx).1 hb.size, (retag_agr w tag 0 x (h4 x hx).1).trans (h4 x hx).2⟩
    · exact ⟨e2, retag_new w tag 0 e1⟩
/-- Behind a call of the pool. -/
theorem Pw.call {tag tag' : Nat → Nat} {v' : Pv} (h2 : Below w0.heap.size w0 w) (h3 : ∀ x, x < w0.heap.size → ¬ Mine tag x) (h4 : ∀ x, G x → x < w.heap.size ∧ tag x = 0) (ht : Turn (Mine tag) w w') (ha : Agr w tag tag') (hp : Po w' tag' P v') :
    Pw w0 w' G P v' ∧ ∀ x, G x → w'.heap[x]? = w.heap[x]? := by
  have hs := h2.size
  refine ⟨⟨tag', hp, Below.of_turn h2 hs ht (fun x hx => ?_), fun x hx => ?_, fun x hx => ⟨Nat.lt_of_lt_of_le (h4 x hx).1 ht.size, (ha x (h4 x hx).1).trans (h4 x hx).2⟩⟩, fun x hx => ht.block x (h4 x hx).1 (fun e => e.1 (h4 x hx).2)⟩
  · by_cases e : x < w0.heap.size
    · exact absurd hx (h3 x e)
    · omega
  · exact fun e => h3 x hx (mine_agr ha (by omega) e)

def GetW (w0 w : World) (G : Nat → Prop) (P : Pp) (v : Pv) (f c : Int) (e : Ending) (w' : World) : Prop :=
  (∀ x, G x → w'.heap[x]? = w.heap[x]?) ∧ ((∃ er, e = .returned (.tuple #[.int .i64 0, .int .i64 er]) ∧ er ≠ 0 ∧ NoGet v f c er ∧ Pw w0 w' G P { v with ct := v.ct + 1 }) ∨
     ∃ k q i B' U', Cls c k ∧ e = .returned (.tuple #[.int .i64 ((place (cost k) q i : Nat) : Int), .int .i64 0]) ∧ GotIt P v f k q i B' U' ∧ Pw w0 w' G P (gotV v f k q i B' U'))
theorem Pw.get (h : Pw w0 w G P v) (hc : v.ct ≤ 1000000) (f c : Int) : Calls Tryz.prog 30 #[.pointer (some ⟨P.pb, 0, none⟩), .int .i64 f, .int .i64 c] w (GetW w0 w G P v f c) := by
  obtain ⟨tag, h1, h2, h3, h4⟩ := h
  refine (pget_any h1 hc f c).mono ?_
  rintro e w' ⟨tag', ht, ha, ⟨er, rfl, h0, hn, hp⟩ | ⟨k, q, i, B', U', hk, rfl, hg, hp⟩⟩
  · obtain ⟨hp, hg⟩ := Pw.call h2 h3 h4 ht ha hp
    exact ⟨hg, .inl ⟨er, rfl, h0, hn, hp⟩⟩
  · obtain ⟨hp, hx⟩ := Pw.call h2 h3 h4 ht ha hp
    exact ⟨hx, .inr ⟨k, q, i, B', U', hk, rfl, hg, hp⟩⟩
def PutW (w0 w : World) (G : Nat → Prop) (P : Pp) (v : Pv) (f c x : Int) (e : Ending) (w' : World) : Prop :=
  (∀ x, G x → w'.heap[x]? = w.heap[x]?) ∧ ((∃ er, e = .returned (.int .i64 er) ∧ er ≠ 0 ∧ NoPut v f c x er ∧ Pw w0 w' G P v) ∨
     ∃ k q i B', Cls c k ∧ e = .returned (.int .i64 0) ∧ PutIt v f x k q i B' ∧ Pw w0 w' G P (putV v f k q i B'))
theorem Pw.put (h : Pw w0 w G P v) (f c x : Int) (hx1 : -9223372036854775808 ≤ x) (hx2 : x < 9223372036854775808) : Calls Tryz.prog 31 #[.pointer (some ⟨P.pb, 0, none⟩), .int .i64 f, .int .i64 c, .int .i64 x] w (PutW w0 w G P v f c x) := by
  obtain ⟨tag, h1, h2, h3, h4⟩ := h
  refine (pput_any h1 f c x hx1 hx2).mono ?_
  rintro e w' ⟨tag', ht, ha, ⟨er, rfl, h0, hn, hp⟩ | ⟨k, q, i, B', hk, rfl, hg, hp⟩⟩
  · obtain ⟨hp, hg⟩ := Pw.call h2 h3 h4 ht ha hp
    exact ⟨hg, .inl ⟨er, rfl, h0, hn, hp⟩⟩
  · obtain ⟨hp, hx⟩ := Pw.call h2 h3 h4 ht ha hp
    exact ⟨hx, .inr ⟨k, q, i, B', hk, rfl, hg, hp⟩⟩
theorem Pw.has (h : Pw w0 w G P v) (c x : Int) (hx1 : -9223372036854775808 ≤ x) (hx2 : x < 9223372036854775808) : Calls Tryz.prog 32 #[.pointer (some ⟨P.pb, 0, none⟩), .int .i64 c, .int .i64 x] w (PHasPost w v c x) := by
  obtain ⟨tag, h1, h2, h3, h4⟩ := h
  exact phas_any h1 c x hx1 hx2
theorem Pw.used (h : Pw w0 w G P v) (hc : v.ct ≤ 1000000) (c : Int) : Calls Tryz.prog 36 #[.pointer (some ⟨P.pb, 0, none⟩), .int .i64 c] w (SlabsPost w (usedK P v c)) := by
  obtain ⟨tag, h1, h2, h3, h4⟩ := h
  exact pused_any h1 hc c
theorem Pw.quota (h : Pw w0 w G P v) : Calls Tryz.prog 34 #[.pointer (some ⟨P.pb, 0, none⟩)] w fun e w' => e = .returned (.pointer (some ⟨P.tb, 0, none⟩)) ∧ w' = w := by
  obtain ⟨tag, h1, h2, h3, h4⟩ := h
  exact pquota_any h1
theorem Pw.blocks (h : Pw w0 w G P v) : Calls Tryz.prog 35 #[.pointer (some ⟨P.pb, 0, none⟩)] w fun e w' => e = .returned (.pointer (some ⟨P.bb, 0, none⟩)) ∧ w' = w := by
  obtain ⟨tag, h1, h2, h3, h4⟩ := h
  exact pblocks_any h1
theorem Pw.arena (h : Pw w0 w G P v) : Calls Tryz.prog 33 #[.pointer (some ⟨P.pb, 0, none⟩)] w fun e w' => e = .returned (.pointer (some ⟨P.ab, 0, none⟩)) ∧ w' = w := by
  obtain ⟨tag, h1, h2, h3, h4⟩ := h
  exact parena_any h1
theorem Pw.cost (h : Pw w0 w G P v) (c : Int) : Calls Tryz.prog 41 #[.int .i64 c] w fun e w' => e = .returned (.int .i64 (costI c)) ∧ w' = w := by
  obtain ⟨tag, h1, h2, h3, h4⟩ := h
  exact pcost_any w h1.cst c
theorem Pw.use (h : Pw w0 w G P v) (i : Int) : Calls Tryz.prog 47 #[.pointer (some ⟨P.tb, 0, none⟩), .int .i64 i] w (Qu.UsePost (Qu.useA v.l i) w) := by
  obtain ⟨tag, h1, h2, h3, h4⟩ := h
  exact h1.use_ i
theorem Pw.left (h : Pw w0 w G P v) : Calls Tryz.prog 62 #[.pointer (some ⟨P.bb, 0, none⟩)] w fun e w' => e = .returned (.int .i64 ((pages P.K (isK v.B .free) (P.K + 1) * 1024 : Nat) : Int)) ∧ w' = w := by
  obtain ⟨tag, h1, h2, h3, h4⟩ := h
  exact h1.left_
theorem Pw.free (h : Pw w0 w G P v) : Calls Tryz.prog 25 #[.pointer (some ⟨P.bb, 0, none⟩)] w (Got v.B .free w) := by
  obtain ⟨tag, h1, h2, h3, h4⟩ := h
  exact h1.free_
def ActW (w0 w : World) (G : Nat → Prop) (P : Pp) (v' : Pv) (r : Value) (e : Ending) (w' : World) : Prop := e = .returned r ∧ Pw w0 w' G P v' ∧ ∀ x, G x → w'.heap[x]? = w.heap[x]?
theorem Pw.carve (h : Pw w0 w G P v) (hx : v.nxt ≤ 1073741824) (i n : Int) : Calls Tryz.prog 44 #[.pointer (some ⟨P.tb, 0, none⟩), .int .i64 i, .int .i64 n] w
    (ActW w0 w G P { v with l := (Qu.carveA v.l v.nxt i n).2.2.1, nxt := (Qu.carveA v.l v.nxt i n).2.2.2 } (.tuple #[.int .i64 (Qu.carveA v.l v.nxt i n).1, .int .i64 (Qu.carveA v.l v.nxt i n).2.1])) := by
  obtain ⟨tag, h1, h2, h3, h4⟩ := h
  refine ((h1.re (retag_agr w tag 3)).carve_ (fun x hx => retag_new w tag 3 hx) hx i n).mono ?_
  rintro e w' ⟨rfl, hp, ht⟩
  have hs := h2.size
  have ht' : Turn (Mine tag) w w' := (Turn.refl _ w).agr ht (retag_agr w tag 3)
  obtain ⟨hp, hg⟩ := Pw.call h2 h3 h4 ht' (retag_agr w tag 3) hp
  exact ⟨rfl, hp, hg⟩
theorem Pw.fill (h : Pw w0 w G P v) (a n : Nat) (c : Int) (hx : a + n ≤ v.m.length) (h0 : 0 ≤ c) (h1 : c ≤ 255) : Calls Tryz.prog 40 #[.pointer (some ⟨P.ab, 0, none⟩), .int .i64 (a : Int), .int .i64 (n : Int), .int .u8 c] w (ActW w0 w G P { v with m := Ar.putAt v.m a (List.replicate n c) } (.int .i64 0)) := by
  obtain ⟨tag, hp, h2, h3, h4⟩ := h
  refine (hp.fill_ a n c hx h0 h1).mono ?_
  rintro e w' ⟨rfl, hp, ht⟩
  obtain ⟨hp, hg⟩ := Pw.call h2 h3 h4 ht (Agr.refl _ _) hp
  exact ⟨rfl, hp, hg⟩
theorem Pw.load (h : Pw w0 w G P v) (a : Nat) (ha : a + 8 ≤ v.m.length) (h8 : a % 8 = 0) : Calls Tryz.prog 39 #[.pointer (some ⟨P.ab, 0, none⟩), .int .i64 (a : Int)] w fun e w' => e = .returned (.tuple #[.int .u64 (Ar.wordAt v.m a), .int .i64 0]) ∧ Below w.heap.size w w' := by
  obtain ⟨tag, h1, h2, h3, h4⟩ := h
  exact h1.load_ a ha h8
theorem Pw.store (h : Pw w0 w G P v) (a : Nat) (ws : List Int) (s o cap : Nat) (ha : a + 8 * ws.length ≤ v.m.length) (h8 : a % 8 = 0) (hs : G s) (hsrc : ∀ j, j < ws.length → w.cell? ⟨s, o + j, none⟩ = some (.int .u64 (ws[j]?.getD 0))) (hws : Ar.Word ws) :
    Calls Tryz.prog 90 #[.pointer (some ⟨P.ab, 0, none⟩), .int .i64 (a : Int), .slice (some ⟨s, o, none⟩) ws.length cap] w (ActW w0 w G P { v with m := Ar.putAt v.m a (Ar.wordsBytes ws) } (.int .i64 0)) := by
  obtain ⟨tag, hp, h2, h3, h4⟩ := h
  refine (hp.store_ a ws s o cap ha h8 (h4 s hs).1 (h4 s hs).2 hsrc hws).mono ?_
  rintro e w' ⟨rfl, hp, ht⟩
  obtain ⟨hp, hg⟩ := Pw.call h2 h3 h4 ht (Agr.refl _ _) hp
  exact ⟨rfl, hp, hg⟩
theorem Pw.len (h : Pw w0 w G P v) : v.m.length = 2 ^ P.K * 1024 := by
  obtain ⟨tag, h1, h2, h3, h4⟩ := h
  exact h1.len
theorem Pw.inv (h : Pw w0 w G P v) : Inv P.K v.B ∧ NoHeld v.B := by
  obtain ⟨tag, h1, h2, h3, h4⟩ := h
  exact ⟨h1.good.1, h1.good.2.1⟩
theorem Pw.fit (h : Pw w0 w G P v) {k : Nat} (h1 : 1 ≤ k) (h7 : k ≤ 7) : Fit v.B (v.U k) (many k) (2 ^ P.K) := by
  obtain ⟨tag, hp, h2, h3, h4⟩ := h
  exact hp.fit k h1 h7
theorem Pw.apt (h : Pw w0 w G P v) {j k : Nat} (hj1 : 1 ≤ j) (hj7 : j ≤ 7) (h1 : 1 ≤ k) (h7 : k ≤ 7) (hjk : j ≠ k) : Apart2 (v.U j) (v.U k) (many j) (many k) := by
  obtain ⟨tag, hp, h2, h3, h4⟩ := h
  exact hp.apt j k hj1 hj7 h1 h7 hjk
theorem Pw.qinv (h : Pw w0 w G P v) : Qu.Inv P.N v.l v.nxt := by
  obtain ⟨tag, hp, h2, h3, h4⟩ := h
  exact hp.inv
theorem Pw.tabs (h : Pw w0 w G P v) : Tab w ∧ Cst w := by
  obtain ⟨tag, hp, h2, h3, h4⟩ := h
  exact ⟨hp.tab, hp.cst⟩
theorem Pw.exact_put {f x : Int} {k q i : Nat} {B' : St} (h : Pw w0 w G P v) (hE : ExactP v) (g : PutIt v f x k q i B') : ExactP (putV v f k q i B') :=
  hE.put (fun _ hj1 hj7 hj hs => h.apt g.k1 g.k7 hj1 hj7 (fun e => hj e.symm) q ⟨⟨i, g.lt, g.used⟩, hs⟩) g
theorem Pw.put_lt {f x : Int} {k q i : Nat} {B' : St} (h : Pw w0 w G P v) (g : PutIt v f x k q i B') : q < 2 ^ P.K := ((h.fit g.k1 g.k7).page q ⟨i, g.lt, g.used⟩).2
end
end Go.Proofs.YtdmnemgooagehaaGreatDoor

namespace Go.Proofs.YtdmnemgooagehaaGreatDoor
open Go.RowKit Go.Maps

structure EmpV (v : Pv) : Prop where
  u : ∀ j, v.U j = none_
  ex : ExactP v
  l : v.l = root 100 0
structure OneV (v : Pv) : Prop where
  u1 : v.U 1 = setU none_ 0 0 true
  u : ∀ j, j ≠ 1 → v.U j = none_
  ex : ExactP v
  l : v.l = root 100 64
theorem EmpV.no {v : Pv} (h : EmpV v) (k i : Nat) : v.B k i ≠ .used := fun e => by
  obtain ⟨_, j, _, hs⟩ := (h.ex k i).1 e
  rw [h.u j] at hs
  exact none_slb _ _ hs
theorem EmpV.got {P : Pp} {v : Pv} {k q i : Nat} {B' : St} {U' : Pls} (h : EmpV v) (hi : Inv P.K v.B ∧ NoHeld v.B) (hk : Cls 1 k) (g : GotIt P v 0 k q i B' U') : k = 1 ∧ q = 0 ∧ i = 0 ∧ OneV (gotV v 0 k q i B' U') := by
  have e1 : k = 1 := by have := hk.1; omega
  subst e1
  have hn : ¬ Slb (v.U 1) (many 1) q := by rw [h.u 1]; exact none_slb _ _
  have e2 := first_page hi.1 hi.2 h.no hn g.cm
  subst e2
  have e3 : i = 0 := by
    rcases Nat.eq_zero_or_pos i with e | e
    · exact e
    · have := g.tk.low 0 e; rw [h.u 1] at this; cases this
  subst e3
  refine ⟨rfl, rfl, rfl, ?_, fun j hj => ?_, h.ex.got g, ?_⟩
  · show now v.U 1 U' 1 = _
    rw [now_at, g.tk.now, h.u 1]
  · show now v.U 1 U' j = _
    rw [now_ne _ _ hj, h.u j]
  · show (Qu.chargeA v.l 0 ((cost 1 : Nat) : Int)).2 = _
    rw [h.l, root_charge]; rfl
theorem EmpV.noget {P : Pp} {v : Pv} {er : Int} (h : EmpV v) (hi : Inv P.K v.B ∧ NoHeld v.B) (h0 : er ≠ 0) (hn : NoGet v 0 1 er) : False := by
  rcases hn with ⟨_, h2⟩ | ⟨k, hk, h2⟩
  · exact h2 (by decide)
  · have e1 : k = 1 := by have := hk.1; omega
    subst e1
    have ec : (Qu.chargeA v.l 0 ((cost 1 : Nat) : Int)).1 = 0 := by rw [h.l, root_charge]; rfl
    rcases h2 with h2 | ⟨_, _, _, h3⟩
    · exact h0 (h2.trans ec)
    · exact h3 P.K 0 ((whole_free hi.1 hi.2 h.no P.K 0).2 ⟨rfl, rfl⟩)
theorem OneV.used {v : Pv} {q i : Nat} (h : OneV v) (hu : v.U 1 q i = true) : q = 0 ∧ i = 0 := by
  rw [h.u1] at hu
  by_cases e : q = 0 ∧ i = 0
  · exact e
  · rw [setU_ne _ _ e] at hu; cases hu
theorem OneV.put {w0 w : World} {G : Nat → Prop} {P : Pp} {v : Pv} {k q i : Nat} {B' : St} {x : Int} (h : OneV v) (hp : Pw w0 w G P v) (hk : Cls 1 k) (g : PutIt v 0 x k q i B') : EmpV (putV v 0 k q i B') := by
  have e1 : k = 1 := by have := hk.1; omega
  subst e1
  obtain ⟨rfl, rfl⟩ := h.used g.used
  refine ⟨fun j => ?_, hp.exact_put h.ex g, ?_⟩
  · show now v.U 1 (setU (v.U 1) 0 0 false) j = _
    by_cases e : j = 1
    · subst e; rw [now_at, h.u1]; exact setU_back none_ rfl
    · rw [now_ne _ _ e, h.u j e]
  · show (Qu.refundA v.l 0 ((cost 1 : Nat) : Int)).2 = _
    rw [h.l, root_refund]; rfl
theorem OneV.noput {v : Pv} {er : Int} (h : OneV v) (h0 : er ≠ 0) (hn : NoPut v 0 1 64 er) : False := by
  rcases hn with ⟨_, h2⟩ | ⟨k, hk, h2⟩
  · exact h2 (by decide)
  · have e1 : k = 1 := by have := hk.1; omega
    subst e1
    rcases h2 with ⟨_, h2⟩ | h2
    · exact h2 0 0 (by decide) (by rw [h.u1]; rfl) (by decide)
    · rw [h.l, root_refund] at h2; exact h0 h2
theorem OneV.left {v : Pv} (h : OneV v) (hi : Inv 6 v.B ∧ NoHeld v.B) : pages 6 (isK v.B .free) (6 + 1) = 63 := by
  have e := h.ex.pages hi.1 hi.2
  have e2 : cnt (fun p => decide (v.B 0 p = .used)) (2 ^ 6) = cnt (fun p => decide (p = 0)) (2 ^ 6) := by
    refine cnt_congr (fun p _ => ?_)
    rw [decide_eq_decide, h.ex 0 p]
    constructor
    · rintro ⟨_, j, hj, i, _, hu⟩
      by_cases e : j = 1
      · subst e; exact (h.used hu).1
      · rw [h.u j e] at hu; cases hu
    · rintro rfl
      exact ⟨rfl, 1, by decide, 0, by decide, by rw [h.u1]; rfl⟩
  have e3 : cnt (fun p => decide (p = 0)) (2 ^ 6) = 1 := by decide +kernel
  have e4 : (2 : Nat) ^ 6 = 64 := by decide
  omega
theorem OneV.len {P : Pp} {v : Pv} (h : OneV v) (hK : P.K = 6) : (usedK P v 1).length = 1 := by
  have e : usedK P v 1 = usedOf (v.U 1) (cost 1) (many 1) (2 ^ P.K) := usedK_of ⟨rfl, by decide, by decide⟩
  rw [e, h.u1, hK]
  decide +kernel
theorem one_hundred : (Qu.chargeA (root 100 0) 0 ((cost 2 : Nat) : Int)).1 = 5 := by rw [root_charge]; rfl

end Go.Proofs.YtdmnemgooagehaaGreatDoor
