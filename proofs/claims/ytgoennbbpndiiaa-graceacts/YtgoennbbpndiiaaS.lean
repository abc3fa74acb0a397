/- The acts that GraceActs is handed, in memory; both queues. -/
import Derived.Test.YtgoennbbpndiiaaR3
import Derived.ProofKit
import Derived.OpenShut
import Derived.ShutString
import Derived.ChangeOld
import Derived.Deep.Slices
namespace Go.Proofs.Ytgoennbbpndiiaa
open Go.ChangeShapes Go.WideShapes Go.ChangeAt Go.RowKit

theorem block_lt_of_cell {w : World} {p : Addr} {v : Value} (h : w.cell? p = some v) : p.block < w.heap.size := by
  rcases Nat.lt_or_ge p.block w.heap.size with h1 | h1
  · exact h1
  · unfold World.cell? at h
    rw [Array.getElem?_eq_none h1] at h
    cases h

/-- What is added by an act, as it lies in memory that was there when block number B was the next one; and how many ticks go by. -/
structure Deed where
  xs : List Int
  a : Option Addr
  cap : Nat
  n : Int
structure DeedAt (w : World) (B s p : Nat) (x : Deed) : Prop where
  c0 : w.cell? ⟨s, p, none⟩ = some (.slice x.a x.xs.length x.cap)
  c1 : w.cell? ⟨s, p + 1, none⟩ = some (.int .i64 x.n)
  src : ∀ (k : Nat) y, x.xs[k]? = some y → ∃ g off, x.a = some ⟨g, off, none⟩ ∧ g < B ∧ w.cell? ⟨g, off + k, none⟩ = some (.int .i64 y)
def Acts (w : World) (B : Nat) (a : Option Addr) (len : Nat) : Prop := len = 0 ∨ ∃ s o, a = some ⟨s, o, none⟩ ∧ s < B ∧ ∀ i, i < len → ∃ x, DeedAt w B s (o + i * 2) x
theorem DeedAt.below {w w' : World} {B s p : Nat} {x : Deed} (h : DeedAt w B s p x) (hs : s < B) (hb : Below B w w') : DeedAt w' B s p x :=
  ⟨(hb.cell (p := ⟨s, p, none⟩) hs).trans h.c0, (hb.cell (p := ⟨s, p + 1, none⟩) hs).trans h.c1, fun k y hy => by
    obtain ⟨g, off, e, hg, hc⟩ := h.src k y hy
    exact ⟨g, off, e, hg, (hb.cell (p := ⟨g, off + k, none⟩) hg).trans hc⟩⟩
theorem DeedAt.get {w : World} {B s p : Nat} {x : Deed} (h : DeedAt w B s p x) (hB : B ≤ w.heap.size) {S : Nat → Prop} (hS : ∀ k, S k → B ≤ k) : Src w S (.slice x.a x.xs.length x.cap) x.xs :=
  ⟨_, _, rfl, fun k y hy => by
    obtain ⟨g, off, e, hg, hc⟩ := h.src k y hy
    exact ⟨g, off, e, fun h => by have := hS g h; omega, by omega, hc⟩⟩
theorem Acts.at {w w' : World} {B i : Nat} {a : Option Addr} {len : Nat} (h : Acts w B a len) (hb : Below B w w') (hi : i < len) : ∃ s o x, a = some ⟨s, o, none⟩ ∧ DeedAt w' B s (o + i * 2) x ∧ s < B := by
  rcases h with h | ⟨s, o, rfl, hs, h⟩
  · omega
  · obtain ⟨x, hx⟩ := h i hi
    exact ⟨s, o, x, rfl, hx.below hs hb, hs⟩

theorem cells3 : Try.prog.cellsOf 3 = 1 := by kernel_rfl
theorem cells29 : Try.prog.cellsOf 29 = 1 := by kernel_rfl
theorem cells36 : Try.prog.cellsOf 36 = 2 := by kernel_rfl
section
variable {H : Type} {enc : TypeId × Value → H} {w : World}
theorem act_of {fuel : Nat} {cs : List Value} {x : DataW H × List MemPlace} {s p : Nat} (h : DataW.trod enc Try.prog w 0 (fun _ => true) true fuel 36 cs = some x) (hc : ∀ j, j < 2 → w.cell? ⟨s, p + j, none⟩ = cs[j]?) :
    ∃ y, DeedAt w w.heap.size s p y := by
  obtain ⟨xs, n, _, _, hl, hlen, hf⟩ := DataW.trod_struct Try.underlying36 h
  rw [cells36] at hl
  match cs, hl with
  | [v0, v1], _ =>
    match xs, hlen with
    | [y0, y1], _ =>
      have f0 : DataW.trod enc Try.prog w 0 (fun _ => true) true n 29 (([v0, v1].drop 0).take (Try.prog.cellsOf 29)) = some y0 := hf 0 _ rfl
      rw [cells29] at f0
      have f1 : DataW.trod enc Try.prog w 0 (fun _ => true) true n 3 (([v0, v1].drop 1).take (Try.prog.cellsOf 3)) = some y1 := hf 1 _ rfl
      rw [cells3] at f1
      obtain ⟨k1, e1, _, w1⟩ := DataW.trod_int Try.underlying3 f1
      simp at e1
      subst e1
      have f0' : DataW.trod enc Try.prog w 0 (fun _ => true) true n 29 [v0] = some y0 := f0
      rcases open_ints Try.underlying29 Try.underlying3 (by kernel_rfl) f0' with ⟨hcs, _⟩ | ⟨b, l, c, zs, hcs, _, hl, hm, hz, _, hcell, hwz⟩
      · obtain rfl : v0 = .slice none 0 0 := by simpa using hcs
        exact ⟨⟨[], none, 0, k1⟩, hc 0 (by omega), hc 1 (by omega), fun k y hy => by cases hy⟩
      · obtain rfl : v0 = .slice (some b) l c := by simpa using hcs
        have hlen : (zs.take l).length = l := by simp at hz; simp; omega
        refine ⟨⟨zs.take l, some b, c, k1⟩, ?_, hc 1 (by omega), fun k y hy => ?_⟩
        · have := hc 0 (by omega)
          simp only [hlen]
          exact this
        · have hkl : k < l := by have := (List.getElem?_eq_some_iff.1 hy).1; simp only at this; omega
          obtain ⟨s', o, rfl, hc'⟩ := ints_at hcell (by simp at hz; omega)
          have hkz : k < zs.length := by simp at hz; omega
          refine ⟨s', o, rfl, block_lt_of_cell (hc' 0 (by omega)), ?_⟩
          rw [hc' k hkz]
          simp only at hy
          rw [List.getElem?_take_of_lt hkl] at hy
          rw [List.getD_eq_getElem?_getD, hy]; rfl

theorem acts_of {fuel : Nat} {a : Option Addr} {len cap : Nat} {x : DataW H × List MemPlace} (h : DataW.trod enc Try.prog w 0 (fun _ => true) true fuel 22 [.slice a len cap] = some x) : Acts w w.heap.size a len := by
  rcases Deep.open_slice Try.underlying22 h with ⟨hcs, _⟩ | ⟨b, l, c, m, n, D, Pl, hcs, _, hl, hm, hmm, _, hx⟩
  · obtain ⟨rfl, rfl, rfl⟩ : a = none ∧ len = 0 ∧ cap = 0 := by simpa using hcs
    exact .inl rfl
  · obtain ⟨rfl, rfl, rfl⟩ : a = some b ∧ len = l ∧ cap = c := by simpa using hcs
    simp only [if_true] at hmm
    subst hmm
    by_cases h0 : len = 0
    · exact .inl h0
    rw [cells36] at hx
    obtain ⟨cs0, hc0, ht0⟩ := hx 0 (by omega)
    obtain ⟨_, hl0, hcell0⟩ := World.cells?_some hc0
    obtain ⟨s, o, spot⟩ := b
    have hsp : spot = none := by
      have h1 := hcell0 0 (by omega)
      rw [List.getElem?_eq_getElem (by omega)] at h1
      have := World.cell?_spot h1
      simpa [Addr.add] using this
    subst hsp
    refine .inr ⟨s, o, rfl, ?_, ?_⟩
    · have h1 := hcell0 0 (by omega)
      rw [List.getElem?_eq_getElem (by omega), Nat.zero_mul, addr_add, addr_add] at h1
      exact block_lt_of_cell h1
    · intro i hi
      obtain ⟨cs, hc, ht⟩ := hx i (by omega)
      obtain ⟨_, hl1, hcell⟩ := World.cells?_some hc
      refine act_of ht (fun j hj => ?_)
      have := hcell j hj
      rw [addr_add, addr_add] at this
      exact this
end

/-- Both queues of the same things: the program's at b, the document's at r. -/
structure Bo (v0 w : World) (b : Nat) (v : Value) (r : Nat) (vL vT : Value) (p : Int) (l : List (Int × Int)) : Prop where
  gq : Gq v0 w b v p l
  rq : Rp w r vL vT p (l.map (·.1)) (l.map (·.2))
  good : Good p l
  le : v0.heap.size ≤ r
  sep : ∀ k, Own b v k → ¬ ROwn r vL vT k
section
variable {v0 w w' : World} {b r : Nat} {v v' vL vT vL' vT' : Value} {p : Int} {l l' : List (Int × Int)}
theorem Bo.below (h : Bo v0 w b v r vL vT p l) (hb : Below w.heap.size w w') : Bo v0 w' b v r vL vT p l := ⟨h.gq.below hb, h.rq.below hb (Nat.le_refl _), h.good, h.le, h.sep⟩
theorem Bo.drewN (h : Bo v0 w b v r vL vT p l) (k : Nat) : Bo v0 (w.drewN k) b v r vL vT p l := h.below (Below.drewN (Below.refl _ w) k)
/-- The program's queue turns: the document's is as it was. -/
theorem Bo.left {xs ts : List Int} (hg : Gq v0 w b v p l) (hr : Rp w r vL vT p xs ts) (hs : ∀ k, Own b v k → ¬ ROwn r vL vT k) (hL : Left w b v p l' v' w') : Gq v0 w' b v' p l' ∧ Rp w' r vL vT p xs ts ∧ ∀ k, Own b v' k → ¬ ROwn r vL vT k := by
  refine ⟨hg.left hL, hr.same hL.turn.size (fun k hk => hL.turn.block k (hr.lt hk).2 (fun ho => hs k ho hk)), fun k hk ho => ?_⟩
  rcases hk with rfl | hk
  · exact hs k (.inl rfl) ho
  · rcases hL.own k hk with e | e
    · exact hs k (.inr e) ho
    · have := (hr.lt ho).2; omega
theorem fst_add (l : List (Int × Int)) (xs : List Int) (p : Int) : (l ++ xs.map fun x => (x, p)).map (·.1) = l.map (·.1) ++ xs := by
  rw [List.map_append, List.map_map]
  congr 1
  induction xs with
  | nil => rfl
  | cons x xs ih => rw [List.map_cons, ih]; rfl
theorem snd_add (l : List (Int × Int)) (xs : List Int) (p : Int) : (l ++ xs.map fun x => (x, p)).map (·.2) = l.map (·.2) ++ List.replicate xs.length p := by
  rw [List.map_append, List.map_map]
  congr 1
  induction xs with
  | nil => rfl
  | cons x xs ih => rw [List.map_cons, ih, List.length_cons, List.replicate_succ]; rfl
/-- The document's queue turns: the program's is as it was. -/
theorem Bo.right {xs ts xs' ts' : List Int} (hg : Gq v0 w b v p l) (hr : Rp w r vL vT p xs ts) (hle : v0.heap.size ≤ r) (hs : ∀ k, Own b v k → ¬ ROwn r vL vT k) (hL : RLeft w r vL vT p xs' ts' vL' vT' w') :
    Gq v0 w' b v p l ∧ Rp w' r vL' vT' p xs' ts' ∧ ∀ k, Own b v k → ¬ ROwn r vL' vT' k := by
  refine ⟨⟨hg.qu.same hL.turn.size (fun k hk => hL.turn.block k (hg.qu.lt hk).2 (hs k hk)), Below.of_turn hg.bel hg.bel.size hL.turn (fun k hk => Nat.le_trans hle (hr.lt hk).1), hg.le⟩, hL.rq, fun k hk ho => ?_⟩
  rcases hL.own k ho with e | e
  · exact hs k hk e
  · have := (hg.qu.lt hk).2; omega
end
end Go.Proofs.Ytgoennbbpndiiaa
