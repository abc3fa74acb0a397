/- Two caches over one allocator, between two calls. -/
import Derived.Test.YtohaoeilodebmaaDoorSFills
namespace Go.Proofs.YtohaoeilodebmaaDoor
open Go.ChangeShapes Go.WideShapes Go.ChangeAt Go.RowKit Go.Maps

def Sys2 (w0 : World) (Bd : Nat) (G : Nat → Prop) (w : World) (p K ct : Nat) (B : St) (c1 z1 m1 : Nat) (U1 : Pls) (c2 z2 m2 : Nat) (U2 : Pls) : Prop :=
  ∃ (Z1 Z2 : Nat → Prop) (mm : Nat) (bf gf : Nat → Nat), Below Bd w0 w ∧ Bd ≤ w.heap.size ∧ Tab w ∧ 1 < Bd ∧ Sl w Z1 c1 p z1 m1 ct U1 ∧ Sl w Z2 c2 p z2 m2 ct U2 ∧ Good w p mm K bf gf B ct ∧
    (∀ x, Z1 x → ¬ AB p mm K bf gf x ∧ ¬ Z2 x ∧ Bd ≤ x ∧ x < w.heap.size) ∧ (∀ x, Z2 x → ¬ AB p mm K bf gf x ∧ ¬ Z1 x ∧ Bd ≤ x ∧ x < w.heap.size) ∧ (∀ x, Own mm K gf x → Bd ≤ x) ∧ Fit B U1 m1 (2 ^ K) ∧ Fit B U2 m2 (2 ^ K) ∧ Apart2 U1 U2 m1 m2 ∧
    ∀ x, G x → Bd ≤ x ∧ x < w.heap.size ∧ ¬ Z1 x ∧ ¬ Z2 x ∧ ¬ AB p mm K bf gf x

theorem Came.fit2 {B B' : St} {U V : Pls} {m m2 q N : Nat} (h : Came B B' U m q) (hF : Fit B V m2 N) : Fit B' V m2 N := by
  rcases h with ⟨_, rfl⟩ | ⟨_, _, _, hp, _⟩
  · exact hF
  · exact hF.more (fun r hr => (hp 0 r).2 (.inl hr))
section
variable {w0 w w' : World} {Bd p K ct c1 z1 m1 c2 z2 m2 : Nat} {G : Nat → Prop} {B : St} {U1 U2 : Pls}
theorem Sys2.swap (h : Sys2 w0 Bd G w p K ct B c1 z1 m1 U1 c2 z2 m2 U2) : Sys2 w0 Bd G w p K ct B c2 z2 m2 U2 c1 z1 m1 U1 := by
  obtain ⟨Z1, Z2, mm, bf, gf, h1, h2, h3, h4, h5, h6, h7, h8, h9, h10, h11, h12, h13, h14⟩ := h
  exact ⟨Z2, Z1, mm, bf, gf, h1, h2, h3, h4, h6, h5, h7, h9, h8, h10, h12, h11, h13.symm, fun x hx => ⟨(h14 x hx).1, (h14 x hx).2.1, (h14 x hx).2.2.2.1, (h14 x hx).2.2.1, (h14 x hx).2.2.2.2⟩⟩
theorem Sys2.one (h : Sys2 w0 Bd G w p K ct B c1 z1 m1 U1 c2 z2 m2 U2) : Sys w0 Bd G w p c1 K z1 m1 ct B U1 := by
  obtain ⟨Z1, Z2, mm, bf, gf, h1, h2, h3, h4, h5, h6, h7, h8, h9, h10, h11, h12, h13, h14⟩ := h
  exact ⟨Z1, mm, bf, gf, h1, h2, h3, h4, h5, h7, fun x hx => (h8 x hx).1, fun x hx => (h8 x hx).2.2.1, h10, h11, fun x hx => ⟨(h14 x hx).1, (h14 x hx).2.1, (h14 x hx).2.2.1, (h14 x hx).2.2.2.2⟩⟩
theorem Sys2.apart (h : Sys2 w0 Bd G w p K ct B c1 z1 m1 U1 c2 z2 m2 U2) : Apart2 U1 U2 m1 m2 := by
  obtain ⟨Z1, Z2, mm, bf, gf, h1, h2, h3, h4, h5, h6, h7, h8, h9, h10, h11, h12, h13, h14⟩ := h
  exact h13
/-- Others' blocks may turn, and new ones are others'. -/
theorem Sys2.grown (h : Sys2 w0 Bd G w p K ct B c1 z1 m1 U1 c2 z2 m2 U2) (ht : Turn G w w') : Sys2 w0 Bd (fun x => G x ∨ w.heap.size ≤ x ∧ x < w'.heap.size) w' p K ct B c1 z1 m1 U1 c2 z2 m2 U2 := by
  obtain ⟨Z1, Z2, mm, bf, gf, h1, h2, h3, h4, h5, h6, h7, h8, h9, h10, h11, h12, h13, h14⟩ := h
  refine ⟨Z1, Z2, mm, bf, gf, Below.of_turn h1 h2 ht (fun x hx => (h14 x hx).1), Nat.le_trans h2 ht.size, h3.turn ht (fun hx => by have := (h14 1 hx).1; omega), h4, h5.turn ht (fun x hx hg => (h14 x hg).2.2.1 hx), h6.turn ht (fun x hx hg => (h14 x hg).2.2.2.1 hx), h7.turn ht (fun x hx hg => (h14 x hg).2.2.2.2 hx), fun x hx => ⟨(h8 x hx).1, (h8 x hx).2.1, (h8 x hx).2.2.1, Nat.lt_of_lt_of_le (h8 x hx).2.2.2 ht.size⟩, fun x hx => ⟨(h9 x hx).1, (h9 x hx).2.1, (h9 x hx).2.2.1, Nat.lt_of_lt_of_le (h9 x hx).2.2.2 ht.size⟩, h10, h11, h12, h13, fun x hx => ?_⟩
  rcases hx with hx | ⟨e1, e2⟩
  · exact ⟨(h14 x hx).1, Nat.lt_of_lt_of_le (h14 x hx).2.1 ht.size, (h14 x hx).2.2⟩
  · exact ⟨by omega, e2, fun h => by have := (h8 x h).2.2.2; omega, fun h => by have := (h9 x h).2.2.2; omega, fun h => by have := h7.lab h; omega⟩
theorem Sys2.fewer {G' : Nat → Prop} (h : Sys2 w0 Bd G w p K ct B c1 z1 m1 U1 c2 z2 m2 U2) (hg : ∀ x, G' x → G x) : Sys2 w0 Bd G' w p K ct B c1 z1 m1 U1 c2 z2 m2 U2 := by
  obtain ⟨Z1, Z2, mm, bf, gf, h1, h2, h3, h4, h5, h6, h7, h8, h9, h10, h11, h12, h13, h14⟩ := h
  exact ⟨Z1, Z2, mm, bf, gf, h1, h2, h3, h4, h5, h6, h7, h8, h9, h10, h11, h12, h13, fun x hx => h14 x (hg x hx)⟩
theorem Sys2.more {ct' : Nat} (h : Sys2 w0 Bd G w p K ct B c1 z1 m1 U1 c2 z2 m2 U2) (hc : ct ≤ ct') : Sys2 w0 Bd G w p K ct' B c1 z1 m1 U1 c2 z2 m2 U2 := by
  obtain ⟨Z1, Z2, mm, bf, gf, h1, h2, h3, h4, h5, h6, h7, h8, h9, h10, h11, h12, h13, h14⟩ := h
  exact ⟨Z1, Z2, mm, bf, gf, h1, h2, h3, h4, h5.wide (fun _ h => h) hc, h6.wide (fun _ h => h) hc, h7.more hc, h8, h9, h10, h11, h12, h13, h14⟩
theorem Sys2.below (h : Sys2 w0 Bd G w p K ct B c1 z1 m1 U1 c2 z2 m2 U2) (hb : Below w.heap.size w w') : Sys2 w0 Bd G w' p K ct B c1 z1 m1 U1 c2 z2 m2 U2 := (h.grown (Turn.of_below hb)).fewer (fun _ hx => .inl hx)
theorem Sys2.b0 (h : Sys2 w0 Bd G w p K ct B c1 z1 m1 U1 c2 z2 m2 U2) : Below Bd w0 w := h.one.b0

def Take2 (w0 : World) (Bd : Nat) (G : Nat → Prop) (w : World) (p K ct : Nat) (c1 z1 m1 c2 z2 m2 : Nat) (U2 : Pls) (e : Ending) (w' : World) : Prop :=
  ∃ (a b : Int) (B' : St) (U1' : Pls), e = .returned (.tuple #[.int .i64 a, .int .i64 b]) ∧ Sys2 w0 Bd G w' p K (ct + 1) B' c1 z1 m1 U1' c2 z2 m2 U2 ∧ ∀ x, G x → w'.heap[x]? = w.heap[x]?
theorem Sys2.take (h : Sys2 w0 Bd G w p K ct B c1 z1 m1 U1 c2 z2 m2 U2) (hz : Sz z1 m1 K) (hc : ct ≤ 1000000) : Calls Tryd.prog 26 #[.pointer (some ⟨c1, 0, none⟩)] w (Take2 w0 Bd G w p K ct c1 z1 m1 c2 z2 m2 U2) := by
  obtain ⟨Z1, Z2, mm, bf, gf, h1, h2, h3, h4, h5, h6, h7, h8, h9, h10, h11, h12, h13, h14⟩ := h
  have hn1 : ¬ Tn Z1 mm K gf 1 := fun h => by rcases h with h | h; have := (h8 1 h).2.2.1; omega; have := h10 1 h; omega
  refine (stake_any h5 h7 (fun x hx => (h8 x hx).1) h3 hn1 hc hz.k20 rfl h11 hz.lo hz.hi hz.m).mono ?_
  rintro e w' ⟨Z', B', ht, hZ', hG', hh⟩
  have hb : Below Bd w0 w' := Below.of_turn h1 h2 ht (fun x hx => hx.elim (fun h => (h8 x h).2.2.1) (h10 x))
  have hs := Nat.le_trans h2 ht.size
  have hg : ∀ x, G x → w'.heap[x]? = w.heap[x]? := fun x hx => ht.block x (h14 x hx).2.1 (fun h => h.elim (h14 x hx).2.2.1 (fun ho => (h14 x hx).2.2.2.2 ho.ab))
  have h6' : Sl w' Z2 c2 p z2 m2 (ct + 1) U2 := (h6.turn ht (fun x hx h => h.elim (h9 x hx).2.1 (fun ho => (h9 x hx).1 ho.ab))).wide (fun _ h => h) (by omega)
  have k8 : ∀ x, Z' x ∧ x < w'.heap.size → ¬ AB p mm K bf gf x ∧ ¬ Z2 x ∧ Bd ≤ x ∧ x < w'.heap.size := fun x hx => by
    rcases hZ' x hx.1 with e | e
    · exact ⟨(h8 x e).1, (h8 x e).2.1, (h8 x e).2.2.1, hx.2⟩
    · exact ⟨fun h => by have := h7.lab h; omega, fun h => by have := (h9 x h).2.2.2; omega, by omega, hx.2⟩
  have k9 : ∀ x, Z2 x → ¬ AB p mm K bf gf x ∧ ¬ (Z' x ∧ x < w'.heap.size) ∧ Bd ≤ x ∧ x < w'.heap.size := fun x hx => ⟨(h9 x hx).1, fun h => (k8 x h).2.1 hx, (h9 x hx).2.2.1, Nat.lt_of_lt_of_le (h9 x hx).2.2.2 ht.size⟩
  have k14 : ∀ x, G x → Bd ≤ x ∧ x < w'.heap.size ∧ ¬ (Z' x ∧ x < w'.heap.size) ∧ ¬ Z2 x ∧ ¬ AB p mm K bf gf x := fun x hx => ⟨(h14 x hx).1, Nat.lt_of_lt_of_le (h14 x hx).2.1 ht.size, fun h => (hZ' x h.1).elim (h14 x hx).2.2.1 (fun e => by have := (h14 x hx).2.1; omega), (h14 x hx).2.2.2⟩
  rcases hh with ⟨rfl, e1, e2, rfl, e4⟩ | ⟨q, i, U', rfl, e1, e2, e3, e4⟩
  · exact ⟨_, _, _, _, rfl, ⟨_, Z2, mm, bf, gf, hb, hs, h3.turn ht hn1, h4, e4.own, h6', hG', k8, k9, h10, h11, h12, h13, k14⟩, hg⟩
  · refine ⟨_, _, _, _, rfl, ⟨_, Z2, mm, bf, gf, hb, hs, h3.turn ht hn1, h4, e2.own, h6', hG', k8, k9, h10, e3, e4.fit2 h12, ?_, k14⟩, hg⟩
    rw [e1.now]
    refine h13.take ?_
    rcases e4 with ⟨h, _⟩ | ⟨_, _, hu, _⟩
    · exact .inl h
    · exact .inr (h12.new hu)
def Give2 (w0 : World) (Bd : Nat) (G : Nat → Prop) (w : World) (p K ct : Nat) (c1 z1 m1 c2 z2 m2 : Nat) (U2 : Pls) (e : Ending) (w' : World) : Prop :=
  ∃ (a : Int) (B' : St) (U1' : Pls), e = .returned (.int .i64 a) ∧ Sys2 w0 Bd G w' p K ct B' c1 z1 m1 U1' c2 z2 m2 U2 ∧ ∀ x, G x → w'.heap[x]? = w.heap[x]?
theorem Sys2.give (h : Sys2 w0 Bd G w p K ct B c1 z1 m1 U1 c2 z2 m2 U2) (hz : Sz z1 m1 K) (x : Int) (hx1 : -9223372036854775808 ≤ x) (hx2 : x < 9223372036854775808) : Calls Tryd.prog 27 #[.pointer (some ⟨c1, 0, none⟩), .int .i64 x] w (Give2 w0 Bd G w p K ct c1 z1 m1 c2 z2 m2 U2) := by
  obtain ⟨Z1, Z2, mm, bf, gf, h1, h2, h3, h4, h5, h6, h7, h8, h9, h10, h11, h12, h13, h14⟩ := h
  have hn1 : ¬ Tn Z1 mm K gf 1 := fun h => by rcases h with h | h; have := (h8 1 h).2.2.1; omega; have := h10 1 h; omega
  refine (sgive_any x h5 h7 (fun x hx => (h8 x hx).1) h3 hn1 hz.pages h11 hz.lo hz.hi hz.m hx1 hx2).mono ?_
  rintro e w' ⟨Z', B', ht, hZ', hG', hh⟩
  have hb : Below Bd w0 w' := Below.of_turn h1 h2 ht (fun x hx => hx.elim (fun h => (h8 x h).2.2.1) (h10 x))
  have hs := Nat.le_trans h2 ht.size
  have hg : ∀ x, G x → w'.heap[x]? = w.heap[x]? := fun x hx => ht.block x (h14 x hx).2.1 (fun h => h.elim (h14 x hx).2.2.1 (fun ho => (h14 x hx).2.2.2.2 ho.ab))
  have h6' : Sl w' Z2 c2 p z2 m2 ct U2 := h6.turn ht (fun x hx h => h.elim (h9 x hx).2.1 (fun ho => (h9 x hx).1 ho.ab))
  have k8 : ∀ x, Z' x ∧ x < w'.heap.size → ¬ AB p mm K bf gf x ∧ ¬ Z2 x ∧ Bd ≤ x ∧ x < w'.heap.size := fun x hx => by
    rcases hZ' x hx.1 with e | e
    · exact ⟨(h8 x e).1, (h8 x e).2.1, (h8 x e).2.2.1, hx.2⟩
    · exact ⟨fun h => by have := h7.lab h; omega, fun h => by have := (h9 x h).2.2.2; omega, by omega, hx.2⟩
  have k9 : ∀ x, Z2 x → ¬ AB p mm K bf gf x ∧ ¬ (Z' x ∧ x < w'.heap.size) ∧ Bd ≤ x ∧ x < w'.heap.size := fun x hx => ⟨(h9 x hx).1, fun h => (k8 x h).2.1 hx, (h9 x hx).2.2.1, Nat.lt_of_lt_of_le (h9 x hx).2.2.2 ht.size⟩
  have k14 : ∀ x, G x → Bd ≤ x ∧ x < w'.heap.size ∧ ¬ (Z' x ∧ x < w'.heap.size) ∧ ¬ Z2 x ∧ ¬ AB p mm K bf gf x := fun x hx => ⟨(h14 x hx).1, Nat.lt_of_lt_of_le (h14 x hx).2.1 ht.size, fun h => (hZ' x h.1).elim (h14 x hx).2.2.1 (fun e => by have := (h14 x hx).2.1; omega), (h14 x hx).2.2.2⟩
  rcases hh with ⟨rfl, e1, rfl, e4⟩ | ⟨q, i, rfl, e1, e2, e3, e4, e5, e6⟩
  · exact ⟨_, _, _, rfl, ⟨_, Z2, mm, bf, gf, hb, hs, h3.turn ht hn1, h4, e4.own, h6', hG', k8, k9, h10, h11, h12, h13, k14⟩, hg⟩
  · refine ⟨_, _, _, rfl, ⟨_, Z2, mm, bf, gf, hb, hs, h3.turn ht hn1, h4, e4.own, h6', hG', k8, k9, h10, e5, ?_, h13.give, k14⟩, hg⟩
    rcases e6 with ⟨_, rfl⟩ | ⟨_, hl⟩
    · exact h12
    · exact ⟨fun r hr => ⟨(hl 0 r).2 ⟨(h12.page r hr).1, fun e => h13 r ⟨⟨i, e1, e.2 ▸ e2⟩, hr⟩⟩, (h12.page r hr).2⟩, h12.inn⟩
end
theorem cells54 : Tryd.prog.cellsOf 54 = 2 := by kernel_rfl

set_option maxRecDepth 1000000 in
theorem act4_of {H : Type} {enc : TypeId × Value → H} {w : World} {fuel : Nat} {cs : List Value} {x : DataW H × List MemPlace} {s p : Nat} (h : DataW.trod enc Tryd.prog w 0 (fun _ => true) true fuel 54 cs = some x) (hc : ∀ j, j < 2 → w.cell? ⟨s, p + j, none⟩ = cs[j]?) :
    ∃ kd n : Int, w.cell? ⟨s, p, none⟩ = some (.int .i64 kd) ∧ w.cell? ⟨s, p + 1, none⟩ = some (.int .i64 n) ∧ (Lit.int .i64 kd).wf = true ∧ (Lit.int .i64 n).wf = true := by
  obtain ⟨xs, n, _, _, hl, hlen, hf⟩ := DataW.trod_struct Tryd.underlying54 h
  rw [cells54] at hl
  match cs, hl with
  | [v0, v1], _ =>
    match xs, hlen with
    | [y0, y1], _ =>
      have f0 : DataW.trod enc Tryd.prog w 0 (fun _ => true) true n 3 (([v0, v1].drop 0).take (Tryd.prog.cellsOf 3)) = some y0 := hf 0 _ rfl
      have f1 : DataW.trod enc Tryd.prog w 0 (fun _ => true) true n 3 (([v0, v1].drop 1).take (Tryd.prog.cellsOf 3)) = some y1 := hf 1 _ rfl
      rw [cells3] at f0 f1
      obtain ⟨a0, e0, _, w0⟩ := DataW.trod_int Tryd.underlying3 f0
      obtain ⟨a1, e1, _, w1⟩ := DataW.trod_int Tryd.underlying3 f1
      simp at e0 e1
      subst e0 e1
      exact ⟨a0, a1, hc 0 (by omega), hc 1 (by omega), w0, w1⟩

theorem acts4_of {H : Type} {enc : TypeId × Value → H} {w : World} {fuel : Nat} {a : Option Addr} {len cap : Nat} {x : DataW H × List MemPlace} (h : DataW.trod enc Tryd.prog w 0 (fun _ => true) true fuel 48 [.slice a len cap] = some x) : Acts w a len := by
  rcases Deep.open_slice Tryd.underlying48 h with ⟨hcs, _⟩ | ⟨b, l, c, m, n, D, Pl, hcs, _, hl, hm, hmm, _, hx⟩
  · obtain ⟨rfl, rfl, rfl⟩ : a = none ∧ len = 0 ∧ cap = 0 := by simpa using hcs
    exact .inl rfl
  · obtain ⟨rfl, rfl, rfl⟩ : a = some b ∧ len = l ∧ cap = c := by simpa using hcs
    simp only [if_true] at hmm
    subst hmm
    by_cases h0 : len = 0
    · exact .inl h0
    rw [cells54] at hx
    obtain ⟨cs0, hc0, ht0⟩ := hx 0 (by omega)
    obtain ⟨_, hl0, hcell0⟩ := World.cells?_some hc0
    obtain ⟨s, o, spot⟩ := b
    have hsp : spot = none := by
      have h1 := hcell0 0 (by omega)
      rw [List.getElem?_eq_getElem (by omega)] at h1
      have := World.cell?_spot h1
      simpa [Addr.add] using this
    subst hsp
    refine .inr ⟨s, o, rfl, ?_, ?_⟩
    · have h1 := hcell0 0 (by omega)
      rw [List.getElem?_eq_getElem (by omega), Nat.zero_mul, addr_add, addr_add] at h1
      exact block_lt_of_cell h1
    · intro i hi
      obtain ⟨cs, hc, ht⟩ := hx i (by omega)
      obtain ⟨_, hl1, hcell⟩ := World.cells?_some hc
      refine act4_of ht (fun j hj => ?_)
      have := hcell j hj
      rw [addr_add, addr_add] at this
      exact this

/-- Both are made. -/
theorem sys2_new {w0 w : World} {Bd p c1 K z1 m1 z2 m2 : Nat} {G : Nat → Prop} {B : St} {w' : World} {e : Ending} (h : Sys w0 Bd G w p c1 K z1 m1 0 B none_) (hs : SNewPost w p z2 e w') :
    ∃ c2, e = .returned (.pointer (some ⟨c2, 0, none⟩)) ∧ Below w.heap.size w w' ∧ Sys2 w0 Bd G w' p K 0 B c1 z1 m1 none_ c2 z2 m2 none_ := by
  obtain ⟨Z, mm, bf, gf, h1, h2, h3, h4, h5, h6, h7, h8, h9, h10, h11⟩ := h
  obtain ⟨c2, rfl, hb2, hS⟩ := new_sl (m := m2) hs
  refine ⟨c2, rfl, hb2, fun x => Z x ∧ x < w.heap.size, _, mm, bf, gf, Below.of_below h1 h2 hb2, Nat.le_trans h2 hb2.size, h3.below hb2 h3.pos, h4, h5.own.below hb2, hS, h6.below hb2, fun x hx => ⟨h7 x hx.1, fun h => by omega, h8 x hx.1, Nat.lt_of_lt_of_le hx.2 hb2.size⟩, fun x hx => ⟨fun h => by have := h6.lab h; omega, fun h => by omega, by omega, hx.2⟩, h9, h10, ⟨fun q hq => absurd hq (none_slb _ _), fun _ _ h => by cases h⟩, fun q hq => none_slb _ _ hq.1, fun x hx => ⟨(h11 x hx).1, Nat.lt_of_lt_of_le (h11 x hx).2.1 hb2.size, fun h => (h11 x hx).2.2.1 h.1, fun h => by have := (h11 x hx).2.1; omega, (h11 x hx).2.2.2⟩⟩
end Go.Proofs.YtohaoeilodebmaaDoor
