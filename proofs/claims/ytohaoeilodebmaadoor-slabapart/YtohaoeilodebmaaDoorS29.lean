/- Which bytes came: a row of 65,536 marks; heads and places of two caches. -/
import Derived.Test.YtohaoeilodebmaaDoorS28
namespace Go.Proofs.YtohaoeilodebmaaDoor
open Go.RowKit Go.Maps

/-- The marks at block bb: only bytes that are so came. -/
def Cm (W : World) (bb : Nat) (P : Nat → Prop) : Prop := ∃ cur : Array Value, W.heap[bb]? = some (.cells cur 56) ∧ ∀ x, x < 65536 → ∃ b : Bool, cur[x]? = some (.bool b) ∧ (b = true → P x)
theorem Cm.at {W : World} {bb x : Nat} {P : Nat → Prop} (h : Cm W bb P) (hx : x < 65536) (hn : ¬ P x) : W.cell? ⟨bb, x, none⟩ = some (.bool false) ∧ W.frozen? ⟨bb, x, none⟩ = false := by
  obtain ⟨cur, hb, hc⟩ := h
  obtain ⟨b, e, hp⟩ := hc x hx
  have : b = false := by
    cases b
    · rfl
    · exact absurd (hp rfl) hn
  subst this
  refine ⟨by rw [cell_of_row W bb x _ _ _ hb, e], by simp [World.frozen?, hb]⟩
theorem Cm.set {W : World} {bb x : Nat} {P : Nat → Prop} (h : Cm W bb P) : Cm (W.setCell ⟨bb, x, none⟩ (.bool true)) bb (fun y => P y ∨ y = x) := by
  obtain ⟨cur, hb, hc⟩ := h
  refine ⟨cur.setIfInBounds x (.bool true), setCell_head hb _, fun y hy => ?_⟩
  obtain ⟨b, e, hp⟩ := hc y hy
  by_cases exy : y = x
  · subst exy
    refine ⟨true, ?_, fun _ => .inr rfl⟩
    have hs : y < cur.size := (Array.getElem?_eq_some_iff.1 e).1
    rw [Array.getElem?_setIfInBounds_self_of_lt hs]
  · exact ⟨b, by rw [Array.getElem?_setIfInBounds_ne (fun e => exy e.symm)]; exact e, fun hb => .inl (hp hb)⟩
theorem Cm.weak {W : World} {bb : Nat} {P Q : Nat → Prop} (h : Cm W bb P) (hq : ∀ x, P x → Q x) : Cm W bb Q := by
  obtain ⟨cur, hb, hc⟩ := h
  exact ⟨cur, hb, fun x hx => by obtain ⟨b, e, hp⟩ := hc x hx; exact ⟨b, e, fun h => hq x (hp h)⟩⟩
def isF (v : Value) : Bool := match v with | .bool false => true | _ => false
def runF : List Value → Nat → Nat
  | [], n => n
  | v :: l, n => if isF v then runF l (n + 1) else 0
theorem isF_is {v : Value} (h : isF v = true) : v = .bool false := by
  unfold isF at h
  split at h
  · rfl
  · cases h
theorem runF_all : ∀ (l : List Value) (n r : Nat), runF l n = r → 0 < r → r = n + l.length ∧ ∀ x, x < l.length → l[x]? = some (.bool false)
  | [], n, r, h, _ => ⟨by rw [← h]; rfl, fun x hx => absurd hx (Nat.not_lt_zero _)⟩
  | v :: l, n, r, h, h0 => by
    unfold runF at h
    split at h
    · rename_i hv
      obtain ⟨e1, e2⟩ := runF_all l (n + 1) r h h0
      refine ⟨by rw [e1, List.length_cons]; omega, fun x hx => ?_⟩
      cases x with
      | zero => rw [isF_is hv]; rfl
      | succ x => exact e2 x (by rw [List.length_cons] at hx; omega)
    · omega
theorem all56 : runF Tryd.zeroCells56.toList 0 = 65536 := by kernel_rfl
theorem zero56 (x : Nat) (hx : x < 65536) : Tryd.zeroCells56[x]? = some (.bool false) := by
  obtain ⟨e1, e2⟩ := runF_all _ _ _ all56 (by omega)
  rw [← Array.getElem?_toList]
  exact e2 x (by omega)
theorem Cm.new (W : World) : Cm (W.alloc (.cells Tryd.zeroCells56 56)) W.heap.size (fun _ => False) := ⟨_, heap_alloc_new W _, fun x hx => ⟨false, zero56 x hx, fun h => by cases h⟩⟩

/-- A byte of a cache: of a head, or of a used place. -/
def InC (U : Pls) (m z x : Nat) : Prop := (∃ q, Slb U m q ∧ InHead q x) ∨ ∃ q i, i < m ∧ U q i = true ∧ InPlace z q i x
theorem head_place2 {z m q r i x : Nat} (hz : 64 + m * z ≤ 1024) (hi : i < m) (h1 : InHead q x) (h2 : InPlace z r i x) : False := head_place hz hi h1 h2
theorem inC_page {U : Pls} {m z x : Nat} (hz : 64 + m * z ≤ 1024) (h : InC U m z x) : ∃ q, Slb U m q ∧ q * 1024 ≤ x ∧ x < q * 1024 + 1024 := by
  rcases h with ⟨q, hs, h⟩ | ⟨q, i, hi, hu, h⟩
  · obtain ⟨h1, h2⟩ := h
    exact ⟨q, hs, h1, Nat.lt_of_lt_of_le h2 (Nat.add_le_add_left (by decide) _)⟩
  · obtain ⟨h1, h2⟩ := place_page hz hi h
    exact ⟨q, ⟨i, hi, hu⟩, Nat.le_trans (Nat.le_add_right _ _) h1, h2⟩
theorem inC_apart {U V : Pls} {m m' z z' x : Nat} (hz : 64 + m * z ≤ 1024) (hz' : 64 + m' * z' ≤ 1024) (ha : Apart2 U V m m') (h : InC U m z x) (h' : InC V m' z' x) : False := by
  obtain ⟨q, hs, h1, h2⟩ := inC_page hz h
  obtain ⟨r, hr, h3, h4⟩ := inC_page hz' h'
  have : q = r := by omega
  subst this
  exact ha q ⟨hs, hr⟩

section
variable {w0 w w' : World} {Bd p c K sz m ct : Nat} {G : Nat → Prop} {B : St} {U : Pls}
/-- A slab's block is a used one of order 0. -/
theorem Sys.order (h : Sys w0 Bd G w p c K sz m ct B U) {q : Nat} (hq : Slb U m q) (y : Int) (hy : y = pag q) (hqb : q < 1048576) : Calls Tryd.prog 12 #[.pointer (some ⟨p, 0, none⟩), .int .i64 y] w fun e w' => e = .returned (.int .i64 0) ∧ w' = w := by
  obtain ⟨Z, mm, bf, gf, h1, h2, h3, h4, h5, h6, h7, h8, h9, h10, h11⟩ := h
  have hu := (h10.page q hq).1
  refine (order_any w p mm K bf gf B ct y h6.2.2 (wf_i64 (by rw [hy]; unfold pag; omega) (by rw [hy]; unfold pag; omega))).mono ?_
  rintro e w' ⟨r, rfl, hr, rfl⟩
  rcases hr with ⟨_, hno⟩ | ⟨k, i, rfl, hb, ha⟩
  · exact (hno 0 q hu (by rw [hy, zero_addr])).elim
  · obtain ⟨rfl, rfl⟩ := addr_inj h6.1 (by rw [hu]; simp) (by rw [hb]; simp) (show addr 0 q = addr k i by rw [zero_addr, ← hy, ha])
    exact ⟨rfl, rfl⟩
end

/-- The two caches, their row, and the marks. -/
def Ph (w0 : World) (Bd gx bb p : Nat) (B : St) (c1 z1 m1 : Nat) (U1 : Pls) (c2 z2 m2 : Nat) (U2 : Pls) (ct : Nat) (P : Nat → Prop) (W : World) : Prop :=
  Sys2 w0 Bd (fun x => x = gx ∨ x = bb) W p 6 ct B c1 z1 m1 U1 c2 z2 m2 U2 ∧ W.heap[gx]? = some (.cells #[.pointer (some ⟨c1, 0, none⟩), .pointer (some ⟨c2, 0, none⟩)] 49) ∧ Cm W bb P ∧ gx ≠ bb
section
variable {w0 W W' : World} {Bd gx bb p c1 z1 m1 c2 z2 m2 ct : Nat} {B : St} {U1 U2 : Pls} {P Q : Nat → Prop}
theorem Ph.weak (h : Ph w0 Bd gx bb p B c1 z1 m1 U1 c2 z2 m2 U2 ct P W) (hq : ∀ x, P x → Q x) : Ph w0 Bd gx bb p B c1 z1 m1 U1 c2 z2 m2 U2 ct Q W := ⟨h.1, h.2.1, h.2.2.1.weak hq, h.2.2.2⟩
theorem Ph.below (h : Ph w0 Bd gx bb p B c1 z1 m1 U1 c2 z2 m2 U2 ct P W) (hb : Below W.heap.size W W') : Ph w0 Bd gx bb p B c1 z1 m1 U1 c2 z2 m2 U2 ct P W' := by
  obtain ⟨h1, h2, ⟨cur, h3, h4⟩, h5⟩ := h
  exact ⟨h1.below hb, (hb.block gx (lt_of h2)).trans h2, ⟨cur, (hb.block bb (lt_of h3)).trans h3, h4⟩, h5⟩
theorem setCell_but (W : World) (bb x : Nat) (v : Value) : But bb W (W.setCell ⟨bb, x, none⟩ v) := (But.refl bb W).setCell (p := ⟨bb, x, none⟩) (.inl rfl) v
theorem Ph.set {x : Nat} (h : Ph w0 Bd gx bb p B c1 z1 m1 U1 c2 z2 m2 U2 ct P W) : Ph w0 Bd gx bb p B c1 z1 m1 U1 c2 z2 m2 U2 ct (fun y => P y ∨ y = x) (W.setCell ⟨bb, x, none⟩ (.bool true)) := by
  have hb := setCell_but W bb x (.bool true)
  refine ⟨(h.1.grown (Turn.of_but hb (.inl (.inr rfl)))).fewer (fun _ hx => .inl hx), (hb.block gx (lt_of h.2.1) h.2.2.2).trans h.2.1, h.2.2.1.set, h.2.2.2⟩
theorem Ph.at {x : Nat} (h : Ph w0 Bd gx bb p B c1 z1 m1 U1 c2 z2 m2 U2 ct P W) (hx : x < 65536) (hn : ¬ P x) : W.cell? ⟨bb, x, none⟩ = some (.bool false) ∧ W.frozen? ⟨bb, x, none⟩ = false := h.2.2.1.at hx hn
end
end Go.Proofs.YtohaoeilodebmaaDoor
