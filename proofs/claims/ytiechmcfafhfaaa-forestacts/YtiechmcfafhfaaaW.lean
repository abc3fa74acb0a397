/- The acts that the laws are handed, in memory; what each does, at whatever number. -/
import Derived.Test.YtiechmcfafhfaaaV
import Derived.ProofKit
import Derived.OpenShut
import Derived.ShutString
import Derived.ChangeOld
import Derived.Deep.Slices
namespace Go.Proofs.Ytiechmcfafhfaaa
open Go.ChangeShapes Go.WideShapes Go.ChangeAt Go.RowKit Go.Maps Go.Shelf

theorem block_lt_of_cell {w : World} {p : Addr} {v : Value} (h : w.cell? p = some v) : p.block < w.heap.size := by
  rcases Nat.lt_or_ge p.block w.heap.size with h1 | h1
  · exact h1
  · unfold World.cell? at h
    rw [Array.getElem?_eq_none h1] at h
    cases h
/-- An act. -/
structure Deed where
  kind : Int
  id : Int
  sp : Int
  sl : Int
structure DeedAt (w : World) (s p : Nat) (x : Deed) : Prop where
  c0 : w.cell? ⟨s, p, none⟩ = some (.int .i64 x.kind)
  c1 : w.cell? ⟨s, p + 1, none⟩ = some (.int .i64 x.id)
  c2 : w.cell? ⟨s, p + 2, none⟩ = some (.int .i64 x.sp)
  c3 : w.cell? ⟨s, p + 3, none⟩ = some (.int .i64 x.sl)
  i1 : I64 x.id
  i2 : I64 x.sp
  i3 : I64 x.sl
/-- The slice has so many acts, in memory that was there when block number B was the next one. -/
def Acts (w : World) (B : Nat) (a : Option Addr) (len : Nat) : Prop := len = 0 ∨ ∃ s o, a = some ⟨s, o, none⟩ ∧ s < B ∧ ∀ i, i < len → ∃ x, DeedAt w s (o + i * 4) x
theorem Acts.at {w w' : World} {B i : Nat} {a : Option Addr} {len : Nat} (h : Acts w B a len) (hb : Below B w w') (hi : i < len) : ∃ s o x, a = some ⟨s, o, none⟩ ∧ DeedAt w' s (o + i * 4) x ∧ s < B := by
  rcases h with h | ⟨s, o, rfl, hs, h⟩
  · omega
  · obtain ⟨x, hx⟩ := h i hi
    exact ⟨s, o, x, rfl, ⟨(hb.cell (p := ⟨s, o + i * 4, none⟩) hs).trans hx.c0, (hb.cell (p := ⟨s, o + i * 4 + 1, none⟩) hs).trans hx.c1, (hb.cell (p := ⟨s, o + i * 4 + 2, none⟩) hs).trans hx.c2, (hb.cell (p := ⟨s, o + i * 4 + 3, none⟩) hs).trans hx.c3, hx.i1, hx.i2, hx.i3⟩, hs⟩
theorem i64_of {x : Int} (h : (Lit.int .i64 x).wf = true) : I64 x := by
  simp [Lit.wf, IntKind.min, IntKind.max, IntKind.signed, IntKind.bits] at h
  unfold I64
  omega
theorem cells3 : Try.prog.cellsOf 3 = 1 := by kernel_rfl
theorem cells44 : Try.prog.cellsOf 44 = 2 := by kernel_rfl
theorem cells46 : Try.prog.cellsOf 46 = 4 := by kernel_rfl
section
variable {H : Type} {enc : TypeId × Value → H} {w : World}
theorem act_of {fuel : Nat} {cs : List Value} {x : DataW H × List MemPlace} {s p : Nat} (h : DataW.trod enc Try.prog w 0 (fun _ => true) true fuel 46 cs = some x) (hc : ∀ j, j < 4 → w.cell? ⟨s, p + j, none⟩ = cs[j]?) :
    ∃ y, DeedAt w s p y := by
  obtain ⟨xs, n, _, _, hl, hlen, hf⟩ := DataW.trod_struct Try.underlying46 h
  rw [cells46] at hl
  match cs, hl with
  | [v0, v1, v2, v3], _ =>
    match xs, hlen with
    | [y0, y1, y2], _ =>
      have f0 : DataW.trod enc Try.prog w 0 (fun _ => true) true n 3 (([v0, v1, v2, v3].drop 0).take (Try.prog.cellsOf 3)) = some y0 := hf 0 _ rfl
      rw [cells3] at f0
      have f1 : DataW.trod enc Try.prog w 0 (fun _ => true) true n 3 (([v0, v1, v2, v3].drop 1).take (Try.prog.cellsOf 3)) = some y1 := hf 1 _ rfl
      rw [cells3] at f1
      have f2 : DataW.trod enc Try.prog w 0 (fun _ => true) true n 44 (([v0, v1, v2, v3].drop 2).take (Try.prog.cellsOf 44)) = some y2 := hf 2 _ rfl
      rw [cells44] at f2
      have f2' : DataW.trod enc Try.prog w 0 (fun _ => true) true n 44 [v2, v3] = some y2 := f2
      obtain ⟨xs2, n2, _, _, _, hlen2, hf2⟩ := DataW.trod_struct Try.underlying44 f2'
      match xs2, hlen2 with
      | [z0, z1], _ =>
        have g0 : DataW.trod enc Try.prog w 0 (fun _ => true) true n2 3 (([v2, v3].drop 0).take (Try.prog.cellsOf 3)) = some z0 := hf2 0 _ rfl
        rw [cells3] at g0
        have g1 : DataW.trod enc Try.prog w 0 (fun _ => true) true n2 3 (([v2, v3].drop 1).take (Try.prog.cellsOf 3)) = some z1 := hf2 1 _ rfl
        rw [cells3] at g1
        obtain ⟨k0, e0, _, _⟩ := DataW.trod_int Try.underlying3 f0
        obtain ⟨k1, e1, _, w1⟩ := DataW.trod_int Try.underlying3 f1
        obtain ⟨k2, e2, _, w2⟩ := DataW.trod_int Try.underlying3 g0
        obtain ⟨k3, e3, _, w3⟩ := DataW.trod_int Try.underlying3 g1
        simp at e0 e1 e2 e3
        subst e0 e1 e2 e3
        exact ⟨⟨k0, k1, k2, k3⟩, hc 0 (by omega), hc 1 (by omega), hc 2 (by omega), hc 3 (by omega), i64_of w1, i64_of w2, i64_of w3⟩
theorem acts_of {fuel : Nat} {a : Option Addr} {len cap : Nat} {x : DataW H × List MemPlace} (h : DataW.trod enc Try.prog w 0 (fun _ => true) true fuel 22 [.slice a len cap] = some x) : Acts w w.heap.size a len := by
  rcases Deep.open_slice Try.underlying22 h with ⟨hcs, _⟩ | ⟨b, l, c, m, n, D, Pl, hcs, _, hl, hm, hmm, _, hx⟩
  · obtain ⟨rfl, rfl, rfl⟩ : a = none ∧ len = 0 ∧ cap = 0 := by simpa using hcs
    exact .inl rfl
  · obtain ⟨rfl, rfl, rfl⟩ : a = some b ∧ len = l ∧ cap = c := by simpa using hcs
    simp only [if_true] at hmm
    subst hmm
    by_cases h0 : len = 0
    · exact .inl h0
    rw [cells46] at hx
    obtain ⟨cs0, hc0, ht0⟩ := hx 0 (by omega)
    obtain ⟨_, hl0, hcell0⟩ := World.cells?_some hc0
    obtain ⟨s, o, spot⟩ := b
    have hsp : spot = none := by
      have h1 := hcell0 0 (by omega)
      rw [List.getElem?_eq_getElem (by omega)] at h1
      have := World.cell?_spot h1
      simpa [Addr.add] using this
    subst hsp
    refine .inr ⟨s, o, rfl, ?_, ?_⟩
    · have h1 := hcell0 0 (by omega)
      rw [List.getElem?_eq_getElem (by omega), Nat.zero_mul, addr_add, addr_add] at h1
      exact block_lt_of_cell h1
    · intro i hi
      obtain ⟨cs, hc, ht⟩ := hx i (by omega)
      obtain ⟨_, hl1, hcell⟩ := World.cells?_some hc
      refine act_of ht (fun j hj => ?_)
      have := hcell j hj
      rw [addr_add, addr_add] at this
      exact this
end
section
variable {v w w' : World} {p m1 m2 : Nat} {nb nb' : Nat → Nat} {L R : List Nd} {last last' : Nat} {e : Nd}
theorem below_toNat (h : Wf L last) (hl : last < 400) {x : Int} (hn : ¬ There L x) : below L x.toNat = [] := by
  by_cases h0 : x < 0
  · rw [show x.toNat = 0 by omega]; rfl
  · exact below_none h hl (by
      rintro ⟨f, hf, e1⟩
      exact hn ⟨f, hf, by omega⟩)
theorem kids_toNat (h : Wf L last) {x : Int} (hn : ¬ There L x) : kids L x.toNat = [] := by
  by_cases h0 : x < 0
  · rw [show x.toNat = 0 by omega]; rfl
  · exact kids_none h (by
      rintro ⟨f, hf, e1⟩
      exact hn ⟨f, hf, by omega⟩)
/-- Below, Cut, Remove and Lift at any number. -/
theorem zz_below (h : Fz v w p m1 m2 nb last L) {x : Int} (hx : I64 x) : Calls Try.prog 16 #[ptr p, .int .i64 x] w (NumPost w (zs (below L x.toNat))) := by
  by_cases hn : There L x
  · obtain ⟨f, hf, rfl⟩ := hn
    exact fbelow_hit h.fo hf
  · rw [below_toNat h.fo.wf h.fo.few hn]
    exact fbelow_miss h.fo hx hn
theorem zz_cut (h : Fz v w p m1 m2 nb last L) {x : Int} (hx : I64 x) : Calls Try.prog 17 #[ptr p, .int .i64 x] w fun en w' => ∃ a cap, en = .returned (.slice a (below L x.toNat).length cap) ∧ OR w' w.heap.size 2 (.slice a (below L x.toNat).length cap) (below L x.toNat).length (flat ((below L x.toNat).map (ownOf L))) ∧ Fz v w' p m1 m2 nb last (less L (below L x.toNat)) ∧ Tr (FOwn p m1 m2 nb L) (FOwn p m1 m2 nb (less L (below L x.toNat))) w w' := by
  by_cases hn : There L x
  · obtain ⟨f, hf, rfl⟩ := hn
    refine (cut_hit h.fo hf).mono ?_
    intro en w' hk
    have hz := z_went h hk
    obtain ⟨a, cap, rfl, ho, _⟩ := hk
    exact ⟨a, cap, rfl, ho, hz⟩
  · rw [below_toNat h.fo.wf h.fo.few hn, less_nil]
    refine (cut_miss h.fo hx hn).mono ?_
    rintro en w' ⟨rfl, rfl⟩
    exact ⟨none, 0, rfl, OR.nil _ _ _, h, tr_refl _ (Below.refl _ _)⟩
/-- What goes when a number is removed. -/
def goneZ (L : List Nd) (x : Int) : List Nat := below L x.toNat ++ (match L.find? (fun e => (e.id : Int) == x) with | some e => [e.id] | none => [])
/-- What is left when a number is lifted. -/
def liftZ (L : List Nd) (x : Int) : List Nd := match L.find? (fun e => (e.id : Int) == x) with | some e => lifted L e.id e.par | none => L
theorem find_some (h : Wf L last) (he : e ∈ L) : L.find? (fun f => (f.id : Int) == (e.id : Int)) = some e := by
  cases hf2 : L.find? (fun x => (x.id : Int) == (e.id : Int)) with
  | none => exact absurd (List.find?_eq_none.1 hf2 e he) (by simp)
  | some g =>
    have h1 : (g.id : Int) = (e.id : Int) := by simpa using List.find?_some hf2
    rw [h.inj (List.mem_of_find?_eq_some hf2) he (by omega)]
theorem find_none {x : Int} (hn : ¬ There L x) : L.find? (fun f => (f.id : Int) == x) = none := by
  rw [List.find?_eq_none]
  intro f hf
  simp
  exact fun e1 => hn ⟨f, hf, e1⟩
theorem zz_remove (h : Fz v w p m1 m2 nb last L) {x : Int} (hx : I64 x) : Calls Try.prog 18 #[ptr p, .int .i64 x] w fun en w' => ∃ a cap, en = .returned (.slice a (goneZ L x).length cap) ∧ OR w' w.heap.size 2 (.slice a (goneZ L x).length cap) (goneZ L x).length (flat ((goneZ L x).map (ownOf L))) ∧ Fz v w' p m1 m2 nb last (less L (goneZ L x)) ∧ Tr (FOwn p m1 m2 nb L) (FOwn p m1 m2 nb (less L (goneZ L x))) w w' := by
  by_cases hn : There L x
  · obtain ⟨f, hf, rfl⟩ := hn
    have e1 : goneZ L (f.id : Int) = gone L f.id := by unfold goneZ; rw [find_some h.fo.wf hf]; rfl
    rw [e1]
    refine (remove_hit h.fo hf).mono ?_
    intro en w' hk
    have hz := z_went h hk
    obtain ⟨a, cap, rfl, ho, _⟩ := hk
    exact ⟨a, cap, rfl, ho, hz⟩
  · have e1 : goneZ L x = [] := by unfold goneZ; rw [find_none hn, below_toNat h.fo.wf h.fo.few hn]; rfl
    rw [e1, less_nil]
    refine (remove_miss h.fo hx hn).mono ?_
    rintro en w' ⟨rfl, rfl⟩
    exact ⟨none, 0, rfl, OR.nil _ _ _, h, tr_refl _ (Below.refl _ _)⟩
/-- What Lift answers. -/
def liftE (L : List Nd) (x : Int) : Int := match L.find? (fun e => (e.id : Int) == x) with | some _ => 0 | none => 6
theorem zz_lift (h : Fz v w p m1 m2 nb last L) {x : Int} (hx : I64 x) : Calls Try.prog 11 #[ptr p, .int .i64 x] w fun en w' => en = .returned (.int .i64 (liftE L x)) ∧ Fz v w' p m1 m2 nb last (liftZ L x) ∧ Tr (FOwn p m1 m2 nb L) (FOwn p m1 m2 nb (liftZ L x)) w w' := by
  by_cases hn : There L x
  · obtain ⟨f, hf, rfl⟩ := hn
    unfold liftE liftZ
    rw [find_some h.fo.wf hf]
    refine (lift_hit h.fo hf).mono ?_
    intro en w' hk
    have hz := z_lift h hk
    obtain ⟨rfl, _⟩ := hk
    exact ⟨rfl, hz⟩
  · unfold liftE liftZ
    rw [find_none hn]
    refine (lift_miss h.fo hx hn).mono ?_
    rintro en w' ⟨rfl, rfl⟩
    exact ⟨rfl, h, tr_refl _ (Below.refl _ _)⟩
/-- What Add answers, and makes of the forest and its last number. -/
def addE (L : List Nd) (x a b : Int) : Int := if x ≠ 0 ∧ (L.find? (fun e => (e.id : Int) == x)).isNone then 6 else if (L.find? (fun e => e.sp == a && e.sl == b)).isSome then 7 else 0
def addL (L : List Nd) (last : Nat) (x a b : Int) : List Nd := if addE L x a b = 0 then L ++ [⟨last + 1, x.toNat, a, b⟩] else L
def addN (L : List Nd) (last : Nat) (x a b : Int) : Nat := if addE L x a b = 0 then last + 1 else last
def addI (L : List Nd) (last : Nat) (x a b : Int) : Int := if addE L x a b = 0 then (last : Int) + 1 else 0
theorem zz_add (h : Fz v w p m1 m2 nb last L) (hl : last + 1 < 400) {x a b : Int} (hx : I64 x) (ha : I64 a) (hb : I64 b) : Calls Try.prog 9 #[ptr p, .int .i64 x, .int .i64 a, .int .i64 b] w fun en w' => en = .returned (.tuple #[.int .i64 (addI L last x a b), .int .i64 (addE L x a b)]) ∧
    ∃ nb', Fz v w' p m1 m2 nb' (addN L last x a b) (addL L last x a b) ∧ Tr (FOwn p m1 m2 nb L) (FOwn p m1 m2 nb' (addL L last x a b)) w w' := by
  by_cases h1 : x ≠ 0 ∧ ¬ There L x
  · have e1 : addE L x a b = 6 := by unfold addE; rw [if_pos ⟨h1.1, by rw [find_none h1.2]; rfl⟩]
    unfold addI addN addL
    rw [e1]
    simp only [show ((6 : Int) = 0) = False by simp, if_false]
    refine (add_none h.fo hx h1.1 h1.2 a b).mono ?_
    rintro en w' ⟨rfl, rfl⟩
    exact ⟨rfl, nb, h, tr_refl _ (Below.refl _ _)⟩
  · have hp : Par L x x.toNat := by
      by_cases h0 : x = 0
      · subst h0; exact ⟨rfl, .inl rfl⟩
      · have : There L x := by
          by_cases hT : There L x
          · exact hT
          · exact absurd ⟨h0, hT⟩ h1
        obtain ⟨f, hf, rfl⟩ := this
        exact ⟨by omega, .inr ⟨f, hf, by omega⟩⟩
    have g1 : ¬ (x ≠ 0 ∧ (L.find? (fun e => (e.id : Int) == x)).isNone) := by
      rintro ⟨h0, hn⟩
      refine h1 ⟨h0, fun ⟨f, hf, e1⟩ => ?_⟩
      rw [← e1, find_some h.fo.wf hf] at hn
      cases hn
    by_cases h2 : ∃ f ∈ L, f.sp = a ∧ f.sl = b
    · obtain ⟨f, hf, rfl, rfl⟩ := h2
      have e1 : addE L x f.sp f.sl = 7 := by
        unfold addE
        rw [if_neg g1, if_pos]
        rw [List.find?_isSome]
        exact ⟨f, hf, by simp⟩
      unfold addI addN addL
      rw [e1]
      simp only [show ((7 : Int) = 0) = False by simp, if_false]
      refine (z_twice h hp hf).mono ?_
      rintro en w' ⟨rfl, hz, hbb⟩
      exact ⟨rfl, nb, hz, tr_refl _ hbb⟩
    · have e1 : addE L x a b = 0 := by
        unfold addE
        rw [if_neg g1, if_neg]
        rw [List.find?_isSome]
        rintro ⟨f, hf, e2⟩
        simp at e2
        exact h2 ⟨f, hf, e2⟩
      unfold addI addN addL
      rw [e1]
      simp only [if_true]
      refine (z_add h hl hp ha hb (fun f hf hh => h2 ⟨f, hf, hh⟩) (n := (last : Int) + 1) (by omega) rfl rfl).mono ?_
      rintro en w' ⟨rfl, hz⟩
      exact ⟨rfl, hz⟩
theorem addN_le (L : List Nd) (last : Nat) (x a b : Int) : addN L last x a b ≤ last + 1 := by unfold addN; split <;> omega
end
end Go.Proofs.Ytiechmcfafhfaaa
