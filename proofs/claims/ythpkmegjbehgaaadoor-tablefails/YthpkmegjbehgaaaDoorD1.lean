/- What TableBack and TableFails want besides: rows of 256 words, acts as they came in, a law's own block turned beside a table. -/
import Derived.Test.YthpkmegjbehgaaaDoorL1
namespace Go.Proofs.YthpkmegjbehgaaaDoor
open Go.ChangeShapes Go.WideShapes Go.ChangeAt Go.RowKit Go.Maps

/-- A row of 256 words. -/
def Wds (W : World) (bb : Nat) (f : Nat → Nat) : Prop := ∃ cur : Array Value, W.heap[bb]? = some (.cells cur 32) ∧ ∀ x, x < 256 → cur[x]? = some (.int .u64 ((f x : Nat) : Int))
theorem Wds.lt {W : World} {bb : Nat} {f : Nat → Nat} (h : Wds W bb f) : bb < W.heap.size := by
  obtain ⟨cur, hb, _⟩ := h
  exact (Array.getElem?_eq_some_iff.1 hb).1
theorem Wds.at {W : World} {bb x : Nat} {f : Nat → Nat} (h : Wds W bb f) (hx : x < 256) : W.cell? ⟨bb, x, none⟩ = some (.int .u64 ((f x : Nat) : Int)) ∧ W.frozen? ⟨bb, x, none⟩ = false := by
  obtain ⟨cur, hb, hc⟩ := h
  exact ⟨by rw [cell_of_row W bb x _ _ _ hb, hc x hx], by simp [World.frozen?, hb]⟩
theorem Wds.set {W : World} {bb x : Nat} {f : Nat → Nat} (h : Wds W bb f) (hx : x < 256) (y : Nat) : Wds (W.setCell ⟨bb, x, none⟩ (.int .u64 (y : Int))) bb (now f x y) := by
  obtain ⟨cur, hb, hc⟩ := h
  refine ⟨cur.setIfInBounds x (.int .u64 (y : Int)), setCell_head hb _, fun z hz => ?_⟩
  by_cases e : z = x
  · subst e
    have hs : z < cur.size := (Array.getElem?_eq_some_iff.1 (hc z hz)).1
    rw [Array.getElem?_setIfInBounds_self_of_lt hs, now_at]
  · rw [Array.getElem?_setIfInBounds_ne (fun e2 => e e2.symm), hc z hz, now_ne _ _ e]
theorem Wds.bel {W W' : World} {bb : Nat} {f : Nat → Nat} (h : Wds W bb f) (hb : Below W.heap.size W W') : Wds W' bb f := by
  have := h.lt
  obtain ⟨cur, h1, hc⟩ := h
  exact ⟨cur, (hb.block bb this).trans h1, hc⟩
theorem Wds.same {W W' : World} {bb : Nat} {f : Nat → Nat} (h : Wds W bb f) (hb : W'.heap[bb]? = W.heap[bb]?) : Wds W' bb f := by
  obtain ⟨cur, h1, hc⟩ := h
  exact ⟨cur, hb.trans h1, hc⟩
def is0 (v : Value) : Bool := match v with | .int .u64 0 => true | _ => false
def run0 : List Value → Nat → Nat
  | [], n => n
  | v :: l, n => if is0 v then run0 l (n + 1) else 0
theorem is0_is {v : Value} (h : is0 v = true) : v = .int .u64 0 := by
  unfold is0 at h
  split at h
  · rfl
  · cases h
theorem run0_all : ∀ (l : List Value) (n r : Nat), run0 l n = r → 0 < r → r = n + l.length ∧ ∀ x, x < l.length → l[x]? = some (.int .u64 0)
  | [], n, r, h, _ => ⟨by rw [← h]; rfl, fun x hx => absurd hx (Nat.not_lt_zero _)⟩
  | v :: l, n, r, h, h0 => by
    unfold run0 at h
    split at h
    · rename_i hv
      obtain ⟨e1, e2⟩ := run0_all l (n + 1) r h h0
      refine ⟨by rw [e1, List.length_cons]; omega, fun x hx => ?_⟩
      cases x with
      | zero => rw [is0_is hv]; rfl
      | succ x => exact e2 x (by rw [List.length_cons] at hx; omega)
    · omega
theorem zero256 {cs : Array Value} (h : run0 cs.toList 0 = 256) (x : Nat) (hx : x < 256) : cs[x]? = some (.int .u64 0) := by
  obtain ⟨e1, e2⟩ := run0_all _ _ _ h (by omega)
  rw [← Array.getElem?_toList]
  exact e2 x (by omega)
theorem Wds.new {cs : Array Value} (W : World) (h : run0 cs.toList 0 = 256) : Wds (W.alloc (.cells cs 32)) W.heap.size (fun _ => 0) := ⟨_, heap_alloc_new W _, fun x hx => zero256 h x hx⟩

section
variable {w0 w w' : World} {G : Nat → Prop} {P : Pp} {hb x N ct : Nat} {A B : Nat → Nat}
/-- A block of the law's own turns. -/
theorem Tz.own (h : Tz w0 w G P hb x N ct A B) {ba : Nat} (hg : G ba) (hne : hb ≠ ba) (hG : ∀ y, G y → w0.heap.size ≤ y) (off : Nat) (u : Value) : Tz w0 (w.setCell ⟨ba, off, none⟩ u) G P hb x N ct A B := by
  obtain ⟨v, LF, B', h1, h2, h3⟩ := h.ex
  have ht : Turn G w (w.setCell ⟨ba, off, none⟩ u) := (Turn.refl _ w).but (But.setCell (But.refl ba w) (.inl rfl) _) (.inl hg)
  exact ⟨v, LF, B', ⟨⟨(h1.tb.pw.grown ht hG).fewer (fun y hy => .inl hy), h1.tb.g, (Below.heap_setCell _ _ _ _ hne).trans h1.tb.hd, h1.tb.tm⟩, h1.sm, h1.l2, h1.l7, h1.lo, h1.ct, h1.hK⟩, h2, h3⟩
theorem Tz.tabs (h : Tz w0 w G P hb x N ct A B) : Tab w ∧ Cst w := by
  obtain ⟨v, LF, B', h1, h2, h3⟩ := h.ex
  exact h1.tb.pw.tabs
end
set_option maxRecDepth 100000 in
theorem need_one {A : Nat → Nat} {s : Nat} (hs : s < 256) : cnt (needA A [((s : Nat) : Int)]) 16 = if hasE A (s / 16) = true then 0 else 1 := by
  have e : ∀ n, needA A [((s : Nat) : Int)] n = (!hasE A n && decide (s / 16 = n)) := fun n => by
    unfold needA
    congr 1
    simp only [List.any_cons, List.any_nil, Bool.or_false]
    rw [Bool.eq_iff_iff, onLeaf_of hs]
    simp
  split
  · rename_i h
    have : cnt (needA A [((s : Nat) : Int)]) 16 = cnt (fun _ => false) 16 := cnt_congr (fun n _ => by
      rw [e n]
      by_cases e2 : s / 16 = n
      · subst e2; rw [h]; rfl
      · simp [e2])
    rw [this]
    decide
  · rename_i h
    have h' : hasE A (s / 16) = false := by simpa using h
    have := cnt_turn (f := fun _ => false) (g := needA A [((s : Nat) : Int)]) (i := s / 16) (fun j hj => by rw [e j]; simp; intro _ e2; exact absurd e2.symm hj) (n := 16) (by omega)
    rw [e, h'] at this
    have z : cnt (fun _ => false) 16 = 0 := by decide
    rw [z] at this
    simpa using this

/-- The slice has so many acts, in memory that was there. -/
def Acts9 (w : World) (a : Option Addr) (len : Nat) : Prop :=
  len = 0 ∨ ∃ s o, a = some ⟨s, o, none⟩ ∧ s < w.heap.size ∧ ∀ i : Nat, i < len → ∃ (f : Int) (c n : Nat), w.cell? ⟨s, o + i * 4 + 1, none⟩ = some (.int .i64 f) ∧ w.cell? ⟨s, o + i * 4 + 2, none⟩ = some (.int .u64 (c : Int)) ∧ w.cell? ⟨s, o + i * 4 + 3, none⟩ = some (.int .u64 (n : Int)) ∧ (Lit.int .i64 f).wf = true ∧ c < 18446744073709551616 ∧ n < 18446744073709551616
theorem Acts9.at {w w' : World} {Bd : Nat} {a : Option Addr} {len : Nat} (h : Acts9 w a len) (hb : Below Bd w w') (hB : w.heap.size ≤ Bd) {i : Nat} (hi : i < len) :
    ∃ s o, ∃ (f : Int) (c n : Nat), a = some ⟨s, o, none⟩ ∧ s < w.heap.size ∧ w'.cell? ⟨s, o + i * 4 + 1, none⟩ = some (.int .i64 f) ∧ w'.cell? ⟨s, o + i * 4 + 2, none⟩ = some (.int .u64 (c : Int)) ∧ w'.cell? ⟨s, o + i * 4 + 3, none⟩ = some (.int .u64 (n : Int)) ∧ (Lit.int .i64 f).wf = true ∧ c < 18446744073709551616 ∧ n < 18446744073709551616 := by
  rcases h with h | ⟨s, o, rfl, hs, hc⟩
  · omega
  · obtain ⟨f, c, n, h1, h2, h3, h4⟩ := hc i hi
    exact ⟨s, o, f, c, n, rfl, hs, (hb.cell (p := ⟨s, o + i * 4 + 1, none⟩) (show s < Bd by omega)).trans h1, (hb.cell (p := ⟨s, o + i * 4 + 2, none⟩) (show s < Bd by omega)).trans h2, (hb.cell (p := ⟨s, o + i * 4 + 3, none⟩) (show s < Bd by omega)).trans h3, h4⟩
theorem cells34 : Tryd.prog.cellsOf 34 = 4 := by kernel_rfl
theorem cells31 : Tryd.prog.cellsOf 31 = 1 := by kernel_rfl
theorem nat_u64 {a : Int} (h : (Lit.int .u64 a).wf = true) : ∃ n : Nat, a = (n : Int) ∧ n < 18446744073709551616 := by
  have hb := bounds_u64 h
  obtain ⟨n, rfl⟩ := Int.eq_ofNat_of_zero_le hb.1
  exact ⟨n, rfl, by omega⟩
set_option maxRecDepth 1000000 in
theorem act9_of {H : Type} {enc : TypeId × Value → H} {w : World} {fuel : Nat} {cs : List Value} {x : DataW H × List MemPlace} {s p : Nat} (h : DataW.trod enc Tryd.prog w 0 (fun _ => true) true fuel 34 cs = some x) (hc : ∀ j, j < 4 → w.cell? ⟨s, p + j, none⟩ = cs[j]?) :
    ∃ (f : Int) (c n : Nat), w.cell? ⟨s, p + 1, none⟩ = some (.int .i64 f) ∧ w.cell? ⟨s, p + 2, none⟩ = some (.int .u64 (c : Int)) ∧ w.cell? ⟨s, p + 3, none⟩ = some (.int .u64 (n : Int)) ∧ (Lit.int .i64 f).wf = true ∧ c < 18446744073709551616 ∧ n < 18446744073709551616 := by
  obtain ⟨xs, n, _, _, hl, hlen, hf⟩ := DataW.trod_struct Tryd.underlying34 h
  rw [cells34] at hl
  match cs, hl with
  | [v0, v1, v2, v3], _ =>
    match xs, hlen with
    | [y0, y1, y2, y3], _ =>
      have f1 : DataW.trod enc Tryd.prog w 0 (fun _ => true) true n 3 (([v0, v1, v2, v3].drop 1).take (Tryd.prog.cellsOf 3)) = some y1 := hf 1 _ rfl
      have f2 : DataW.trod enc Tryd.prog w 0 (fun _ => true) true n 31 (([v0, v1, v2, v3].drop 2).take (Tryd.prog.cellsOf 31)) = some y2 := hf 2 _ rfl
      have f3 : DataW.trod enc Tryd.prog w 0 (fun _ => true) true n 31 (([v0, v1, v2, v3].drop 3).take (Tryd.prog.cellsOf 31)) = some y3 := hf 3 _ rfl
      rw [cells3] at f1
      rw [cells31] at f2 f3
      obtain ⟨a1, e1, _, w1⟩ := DataW.trod_int Tryd.underlying3 f1
      obtain ⟨a2, e2, _, w2⟩ := DataW.trod_int Tryd.underlying31 f2
      obtain ⟨a3, e3, _, w3⟩ := DataW.trod_int Tryd.underlying31 f3
      simp at e1 e2 e3
      subst e1 e2 e3
      obtain ⟨c, rfl, hc1⟩ := nat_u64 w2
      obtain ⟨m, rfl, hc2⟩ := nat_u64 w3
      exact ⟨a1, c, m, hc 1 (by omega), hc 2 (by omega), hc 3 (by omega), w1, hc1, hc2⟩
theorem acts9_of {H : Type} {enc : TypeId × Value → H} {w : World} {fuel : Nat} {a : Option Addr} {len cap : Nat} {x : DataW H × List MemPlace} (h : DataW.trod enc Tryd.prog w 0 (fun _ => true) true fuel 22 [.slice a len cap] = some x) : Acts9 w a len := by
  rcases Deep.open_slice Tryd.underlying22 h with ⟨hcs, _⟩ | ⟨b, l, c, m, n, D, Pl, hcs, _, hl, hm, hmm, _, hx⟩
  · obtain ⟨rfl, rfl, rfl⟩ : a = none ∧ len = 0 ∧ cap = 0 := by simpa using hcs
    exact .inl rfl
  · obtain ⟨rfl, rfl, rfl⟩ : a = some b ∧ len = l ∧ cap = c := by simpa using hcs
    simp only [if_true] at hmm
    subst hmm
    by_cases h0 : len = 0
    · exact .inl h0
    rw [cells34] at hx
    obtain ⟨cs0, hc0, ht0⟩ := hx 0 (by omega)
    obtain ⟨_, hl0, hcell0⟩ := World.cells?_some hc0
    obtain ⟨s, o, spot⟩ := b
    have hsp : spot = none := by
      have h1 := hcell0 0 (by omega)
      rw [List.getElem?_eq_getElem (by omega)] at h1
      have := World.cell?_spot h1
      simpa [Addr.add] using this
    subst hsp
    refine .inr ⟨s, o, rfl, ?_, ?_⟩
    · have h1 := hcell0 0 (by omega)
      rw [List.getElem?_eq_getElem (by omega), Nat.zero_mul, addr_add, addr_add] at h1
      exact block_lt_of_cell h1
    · intro i hi
      obtain ⟨cs, hc, ht⟩ := hx i (by omega)
      obtain ⟨_, hl1, hcell⟩ := World.cells?_some hc
      refine act9_of ht (fun j hj => ?_)
      have := hcell j hj
      rw [addr_add, addr_add] at this
      exact this
end Go.Proofs.YthpkmegjbehgaaaDoor
