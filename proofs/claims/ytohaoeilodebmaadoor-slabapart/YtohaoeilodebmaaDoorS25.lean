/- A cache over an allocator, between two calls. -/
import Derived.Test.YtohaoeilodebmaaDoorS24
namespace Go.Proofs.YtohaoeilodebmaaDoor
open Go.RowKit Go.Maps

def none_ : Pls := fun _ _ => false
theorem none_slb (m q : Nat) : ¬ Slb none_ m q := fun ⟨_, _, h⟩ => by cases h
theorem none_open (m q : Nat) : ¬ Opened none_ m q := fun h => none_slb m q h.1
theorem map_made {w : World} {b : Nat} (h : w.heap[b]? = some (.map #[] 0)) : Pmap w b 0 (.map []) := by
  obtain ⟨es, cl, hb, F, hs, hD⟩ := World.ownsMap_made w Tryd.prog 3 ptrElem
  have e := (heap_alloc_new w (.map #[] 0)).symm.trans hb
  obtain ⟨rfl, rfl⟩ : #[] = es ∧ 0 = cl := by simpa using e
  exact ⟨#[], 0, h, F, hs, hD⟩
/-- A new cache. -/
theorem new_sl {w w' : World} {b z m : Nat} {e : Ending} (h : SNewPost w b z e w') : ∃ c, e = .returned (.pointer (some ⟨c, 0, none⟩)) ∧ Below w.heap.size w w' ∧ Sl w' (fun x => w.heap.size ≤ x ∧ x < w'.heap.size) c b z m 0 none_ := by
  obtain ⟨c, mb, rfl, hc, hmb, hb, h1, h2, _⟩ := h
  refine ⟨c, rfl, hb, mb, 0, .map [], none, 0, 0, fun _ => 0, fun _ => 0, fun _ => 0, fun _ => 0, fun _ => [], ⟨hc, map_made hmb, Says.start.congr (fun p => ⟨fun h => none_slb _ _ h, fun h => h.elim⟩) (fun _ h => h.elim), fun q hq => absurd hq (none_slb _ _), fun q hq => absurd hq (none_slb _ _), fun q hq => absurd hq (none_slb _ _), .inl ⟨rfl, rfl, rfl⟩, fun k _ hk => absurd hk (Nat.not_lt_zero _), fun q => ⟨fun ⟨k, hk, _⟩ => absurd hk (Nat.not_lt_zero _), fun h => absurd h (none_open _ _)⟩, fun q hq => absurd hq (none_open _ _), fun q _ hq => absurd hq (none_slb _ _), fun q _ hq => absurd hq (none_slb _ _)⟩, ?_, Nat.le_refl _⟩
  rintro x (rfl | rfl | ⟨ad, e, _⟩ | ⟨q, hq, _⟩)
  · exact ⟨h1, lt_of hc⟩
  · exact ⟨h2, lt_of hmb⟩
  · cases e
  · exact absurd hq (none_slb _ _)

/-- Sizes that may be. -/
structure Sz (sz m K : Nat) : Prop where
  lo : 16 ≤ sz
  hi : sz ≤ 512
  m : m = 960 / sz
  k6 : 6 ≤ K
  k20 : K ≤ 20
theorem Sz.page {sz m K : Nat} (h : Sz sz m K) : 64 + m * sz ≤ 1024 := by have := Nat.div_mul_le_self 960 sz; rw [h.m]; omega
theorem Sz.few {sz m K : Nat} (h : Sz sz m K) : m ≤ 60 := by rw [h.m]; exact Nat.le_trans (Nat.div_le_div_left h.lo (by omega)) (by omega)
theorem Sz.one {sz m K : Nat} (h : Sz sz m K) : 0 < m := by rw [h.m]; have := h.hi; have := h.lo; exact Nat.div_pos (by omega) (by omega)
theorem Sz.pages {sz m K : Nat} (h : Sz sz m K) : 2 ^ K ≤ 1048576 := pow_le20 h.k20
theorem Sz.pos {sz m K : Nat} (h : Sz sz m K) : 0 < sz := by have := h.lo; omega

/-- A cache over an allocator, both made behind the world w0; blocks that are others' (G). -/
def Sys (w0 : World) (Bd : Nat) (G : Nat → Prop) (w : World) (p c K sz m ct : Nat) (B : St) (U : Pls) : Prop :=
  ∃ (Z : Nat → Prop) (mm : Nat) (bf gf : Nat → Nat), Below Bd w0 w ∧ Bd ≤ w.heap.size ∧ Tab w ∧ 1 < Bd ∧ Sl w Z c p sz m ct U ∧ Good w p mm K bf gf B ct ∧ (∀ x, Z x → ¬ AB p mm K bf gf x) ∧ (∀ x, Z x → Bd ≤ x) ∧ (∀ x, Own mm K gf x → Bd ≤ x) ∧ Fit B U m (2 ^ K) ∧ ∀ x, G x → Bd ≤ x ∧ x < w.heap.size ∧ ¬ Z x ∧ ¬ AB p mm K bf gf x

section
variable {w0 w w' : World} {Bd p c K sz m ct : Nat} {G : Nat → Prop} {B : St} {U : Pls}
theorem Sys.below (h : Sys w0 Bd G w p c K sz m ct B U) (hb : Below w.heap.size w w') : Sys w0 Bd G w' p c K sz m ct B U := by
  obtain ⟨Z, mm, bf, gf, h1, h2, h3, h4, h5, h6, h7, h8, h9, h10, h11⟩ := h
  exact ⟨Z, mm, bf, gf, Below.of_below h1 h2 hb, Nat.le_trans h2 hb.size, h3.below hb h3.pos, h4, h5.below hb, h6.below hb, h7, h8, h9, h10, fun x hx => ⟨(h11 x hx).1, Nat.lt_of_lt_of_le (h11 x hx).2.1 hb.size, (h11 x hx).2.2⟩⟩
/-- What a call has made that turns nothing is others'. -/
theorem Sys.add (h : Sys w0 Bd G w p c K sz m ct B U) (hb : Below w.heap.size w w') : Sys w0 Bd (fun x => G x ∨ w.heap.size ≤ x ∧ x < w'.heap.size) w' p c K sz m ct B U := by
  obtain ⟨Z, mm, bf, gf, h1, h2, h3, h4, h5, h6, h7, h8, h9, h10, h11⟩ := h
  refine ⟨fun x => Z x ∧ x < w.heap.size, mm, bf, gf, Below.of_below h1 h2 hb, Nat.le_trans h2 hb.size, h3.below hb h3.pos, h4, h5.own.below hb, h6.below hb, fun x hx => h7 x hx.1, fun x hx => h8 x hx.1, h9, h10, fun x hx => ?_⟩
  rcases hx with hx | ⟨e1, e2⟩
  · exact ⟨(h11 x hx).1, Nat.lt_of_lt_of_le (h11 x hx).2.1 hb.size, fun h => (h11 x hx).2.2.1 h.1, (h11 x hx).2.2.2⟩
  · exact ⟨by omega, e2, fun h => by omega, fun h => by have := h6.lab h; omega⟩
/-- .. also where others' blocks turn. -/
theorem Sys.grown (h : Sys w0 Bd G w p c K sz m ct B U) (ht : Turn G w w') : Sys w0 Bd (fun x => G x ∨ w.heap.size ≤ x ∧ x < w'.heap.size) w' p c K sz m ct B U := by
  obtain ⟨Z, mm, bf, gf, h1, h2, h3, h4, h5, h6, h7, h8, h9, h10, h11⟩ := h
  refine ⟨fun x => Z x ∧ x < w.heap.size, mm, bf, gf, Below.of_turn h1 h2 ht (fun x hx => (h11 x hx).1), Nat.le_trans h2 ht.size, h3.turn ht (fun hx => by have := (h11 1 hx).1; omega), h4, h5.own.turn ht (fun x hx hg => (h11 x hg).2.2.1 hx.1), h6.turn ht (fun x hx hg => (h11 x hg).2.2.2 hx), fun x hx => h7 x hx.1, fun x hx => h8 x hx.1, h9, h10, fun x hx => ?_⟩
  rcases hx with hx | ⟨e1, e2⟩
  · exact ⟨(h11 x hx).1, Nat.lt_of_lt_of_le (h11 x hx).2.1 ht.size, fun h => (h11 x hx).2.2.1 h.1, (h11 x hx).2.2.2⟩
  · exact ⟨by omega, e2, fun h => by omega, fun h => by have := h6.lab h; omega⟩
theorem Sys.fewer {G' : Nat → Prop} (h : Sys w0 Bd G w p c K sz m ct B U) (hg : ∀ x, G' x → G x) : Sys w0 Bd G' w p c K sz m ct B U := by
  obtain ⟨Z, mm, bf, gf, h1, h2, h3, h4, h5, h6, h7, h8, h9, h10, h11⟩ := h
  exact ⟨Z, mm, bf, gf, h1, h2, h3, h4, h5, h6, h7, h8, h9, h10, fun x hx => h11 x (hg x hx)⟩
/-- Others' blocks may turn. -/
theorem Sys.others (h : Sys w0 Bd G w p c K sz m ct B U) (ht : Turn G w w') : Sys w0 Bd G w' p c K sz m ct B U := by
  obtain ⟨Z, mm, bf, gf, h1, h2, h3, h4, h5, h6, h7, h8, h9, h10, h11⟩ := h
  exact ⟨Z, mm, bf, gf, Below.of_turn h1 h2 ht (fun x hx => (h11 x hx).1), Nat.le_trans h2 ht.size, h3.turn ht (fun hx => by have := (h11 1 hx).1; omega), h4, h5.turn ht (fun x hx hg => (h11 x hg).2.2.1 hx), h6.turn ht (fun x hx hg => (h11 x hg).2.2.2 hx), h7, h8, h9, h10, fun x hx => ⟨(h11 x hx).1, Nat.lt_of_lt_of_le (h11 x hx).2.1 ht.size, (h11 x hx).2.2⟩⟩
theorem Sys.same (h : Sys w0 Bd G w p c K sz m ct B U) (k : Nat) : Sys w0 Bd G (w.drewN k) p c K sz m ct B U := h.below (below_drewN (Below.refl _ w) k)
theorem Sys.b0 (h : Sys w0 Bd G w p c K sz m ct B U) : Below Bd w0 w := h.choose_spec.choose_spec.choose_spec.choose_spec.1
theorem Sys.more {ct' : Nat} (h : Sys w0 Bd G w p c K sz m ct B U) (hc : ct ≤ ct') : Sys w0 Bd G w p c K sz m ct' B U := by
  obtain ⟨Z, mm, bf, gf, h1, h2, h3, h4, h5, h6, h7, h8, h9, h10, h11⟩ := h
  exact ⟨Z, mm, bf, gf, h1, h2, h3, h4, h5.wide (fun _ h => h) hc, h6.more hc, h7, h8, h9, h10, h11⟩
theorem Sys.fit (h : Sys w0 Bd G w p c K sz m ct B U) : Fit B U m (2 ^ K) := by
  obtain ⟨Z, mm, bf, gf, h1, h2, h3, h4, h5, h6, h7, h8, h9, h10, h11⟩ := h
  exact h10
theorem Sys.inv (h : Sys w0 Bd G w p c K sz m ct B U) : Inv K B ∧ NoHeld B := by
  obtain ⟨Z, mm, bf, gf, h1, h2, h3, h4, h5, h6, h7, h8, h9, h10, h11⟩ := h
  exact ⟨h6.1, h6.2.1⟩

def TakeS (w0 : World) (Bd : Nat) (G : Nat → Prop) (w : World) (p c K sz m ct : Nat) (B : St) (U : Pls) (e : Ending) (w' : World) : Prop :=
  ∃ B' U', Sys w0 Bd G w' p c K sz m (ct + 1) B' U' ∧ (∀ x, G x → w'.heap[x]? = w.heap[x]?) ∧
    ((e = .returned (.tuple #[.int .i64 0, .int .i64 4]) ∧ (∀ q, ¬ Opened U m q) ∧ (∀ k j, B k j ≠ .free) ∧ B' = B ∧ U' = U) ∨
     ∃ q i, e = .returned (.tuple #[.int .i64 ((place sz q i : Nat) : Int), .int .i64 0]) ∧ Taken U U' m q i ∧ Came B B' U m q)
theorem Sys.take (h : Sys w0 Bd G w p c K sz m ct B U) (hz : Sz sz m K) (hc : ct ≤ 1000000) : Calls Tryd.prog 26 #[.pointer (some ⟨c, 0, none⟩)] w (TakeS w0 Bd G w p c K sz m ct B U) := by
  obtain ⟨Z, mm, bf, gf, h1, h2, h3, h4, h5, h6, h7, h8, h9, h10, h11⟩ := h
  refine (stake_any h5 h6 h7 h3 (fun h => by rcases h with h | h; have := h8 1 h; omega; have := h9 1 h; omega) hc hz.k20 rfl h10 hz.lo hz.hi hz.m).mono ?_
  rintro e w' ⟨Z', B', ht, hZ', hG', hh⟩
  have hb : Below Bd w0 w' := Below.of_turn h1 h2 ht (fun x hx => hx.elim (h8 x) (h9 x))
  have hT' : Tab w' := h3.turn ht (fun h => by rcases h with h | h; have := h8 1 h; omega; have := h9 1 h; omega)
  have hs := Nat.le_trans h2 ht.size
  have hd' : ∀ x, Z' x → ¬ AB p mm K bf gf x := fun x hx ha => by
    rcases hZ' x hx with e | e
    · exact h7 x e ha
    · have := h6.lab ha; omega
  have hB' : ∀ x, Z' x → Bd ≤ x := fun x hx => (hZ' x hx).elim (h8 x) (fun e => by omega)
  have hg : ∀ x, G x → w'.heap[x]? = w.heap[x]? := fun x hx => ht.block x (h11 x hx).2.1 (fun h => h.elim (h11 x hx).2.2.1 (fun ho => (h11 x hx).2.2.2 ho.ab))
  have h11' : ∀ x, G x → Bd ≤ x ∧ x < w'.heap.size ∧ ¬ Z' x ∧ ¬ AB p mm K bf gf x := fun x hx => ⟨(h11 x hx).1, Nat.lt_of_lt_of_le (h11 x hx).2.1 ht.size, fun h => (hZ' x h).elim (h11 x hx).2.2.1 (fun e => by have := (h11 x hx).2.1; omega), (h11 x hx).2.2.2⟩
  rcases hh with ⟨rfl, e1, e2, rfl, e4⟩ | ⟨q, i, U', rfl, e1, e2, e3, e4⟩
  · exact ⟨_, _, ⟨Z', mm, bf, gf, hb, hs, hT', h4, e4, hG', hd', hB', h9, h10, h11'⟩, hg, .inl ⟨rfl, e1, e2, rfl, rfl⟩⟩
  · exact ⟨_, _, ⟨Z', mm, bf, gf, hb, hs, hT', h4, e2, hG', hd', hB', h9, e3, h11'⟩, hg, .inr ⟨q, i, rfl, e1, e4⟩⟩

def GiveS (w0 : World) (Bd : Nat) (G : Nat → Prop) (w : World) (p c K sz m ct : Nat) (B : St) (U : Pls) (x : Int) (e : Ending) (w' : World) : Prop :=
  ∃ B' U', Sys w0 Bd G w' p c K sz m ct B' U' ∧ (∀ x, G x → w'.heap[x]? = w.heap[x]?) ∧
    ((e = .returned (.int .i64 6) ∧ (∀ q i, i < m → U q i = true → x ≠ ((place sz q i : Nat) : Int)) ∧ B' = B ∧ U' = U) ∨
     ∃ q i, e = .returned (.int .i64 0) ∧ Given U U' m q i ∧ x = ((place sz q i : Nat) : Int) ∧ ((Slb U' m q ∧ B' = B) ∨ (¬ Slb U' m q ∧ Less B B' 0 q)))
theorem Sys.give (h : Sys w0 Bd G w p c K sz m ct B U) (hz : Sz sz m K) (x : Int) (hx1 : -9223372036854775808 ≤ x) (hx2 : x < 9223372036854775808) : Calls Tryd.prog 27 #[.pointer (some ⟨c, 0, none⟩), .int .i64 x] w (GiveS w0 Bd G w p c K sz m ct B U x) := by
  obtain ⟨Z, mm, bf, gf, h1, h2, h3, h4, h5, h6, h7, h8, h9, h10, h11⟩ := h
  refine (sgive_any x h5 h6 h7 h3 (fun h => by rcases h with h | h; have := h8 1 h; omega; have := h9 1 h; omega) hz.pages h10 hz.lo hz.hi hz.m hx1 hx2).mono ?_
  rintro e w' ⟨Z', B', ht, hZ', hG', hh⟩
  have hb : Below Bd w0 w' := Below.of_turn h1 h2 ht (fun x hx => hx.elim (h8 x) (h9 x))
  have hT' : Tab w' := h3.turn ht (fun h => by rcases h with h | h; have := h8 1 h; omega; have := h9 1 h; omega)
  have hs := Nat.le_trans h2 ht.size
  have hd' : ∀ x, Z' x → ¬ AB p mm K bf gf x := fun x hx ha => by
    rcases hZ' x hx with e | e
    · exact h7 x e ha
    · have := h6.lab ha; omega
  have hB' : ∀ x, Z' x → Bd ≤ x := fun x hx => (hZ' x hx).elim (h8 x) (fun e => by omega)
  have hg : ∀ x, G x → w'.heap[x]? = w.heap[x]? := fun x hx => ht.block x (h11 x hx).2.1 (fun h => h.elim (h11 x hx).2.2.1 (fun ho => (h11 x hx).2.2.2 ho.ab))
  have h11' : ∀ x, G x → Bd ≤ x ∧ x < w'.heap.size ∧ ¬ Z' x ∧ ¬ AB p mm K bf gf x := fun x hx => ⟨(h11 x hx).1, Nat.lt_of_lt_of_le (h11 x hx).2.1 ht.size, fun h => (hZ' x h).elim (h11 x hx).2.2.1 (fun e => by have := (h11 x hx).2.1; omega), (h11 x hx).2.2.2⟩
  rcases hh with ⟨rfl, e1, rfl, e4⟩ | ⟨q, i, rfl, e1, e2, e3, e4, e5, e6⟩
  · exact ⟨_, _, ⟨Z', mm, bf, gf, hb, hs, hT', h4, e4, hG', hd', hB', h9, h10, h11'⟩, hg, .inl ⟨rfl, e1, rfl, rfl⟩⟩
  · exact ⟨_, _, ⟨Z', mm, bf, gf, hb, hs, hT', h4, e4, hG', hd', hB', h9, e5, h11'⟩, hg, .inr ⟨q, i, rfl, ⟨e1, e2, rfl⟩, e3, e6⟩⟩
theorem Sys.has (h : Sys w0 Bd G w p c K sz m ct B U) (hz : Sz sz m K) (x : Int) (hx1 : -9223372036854775808 ≤ x) (hx2 : x < 9223372036854775808) : Calls Tryd.prog 31 #[.pointer (some ⟨c, 0, none⟩), .int .i64 x] w (SHasPost w sz m U x) := by
  obtain ⟨Z, mm, bf, gf, h1, h2, h3, h4, h5, h6, h7, h8, h9, h10, h11⟩ := h
  exact shas_any x h5 hz.lo hz.hi hz.m hx1 hx2
theorem Sys.slabs (h : Sys w0 Bd G w p c K sz m ct B U) (hc : ct ≤ 1000000) : Calls Tryd.prog 28 #[.pointer (some ⟨c, 0, none⟩)] w (SlabsPost w (slabsOf U m (2 ^ K))) := by
  obtain ⟨Z, mm, bf, gf, h1, h2, h3, h4, h5, h6, h7, h8, h9, h10, h11⟩ := h
  exact slabs_any h5 h10 hc
theorem Sys.used (h : Sys w0 Bd G w p c K sz m ct B U) (hz : Sz sz m K) (hc : ct ≤ 1000000) : Calls Tryd.prog 25 #[.pointer (some ⟨c, 0, none⟩)] w (SlabsPost w (usedOf U sz m (2 ^ K))) := by
  obtain ⟨Z, mm, bf, gf, h1, h2, h3, h4, h5, h6, h7, h8, h9, h10, h11⟩ := h
  exact sused_any h5 h10 h3 hc hz.pages hz.lo hz.hi hz.m
theorem Sys.left (h : Sys w0 Bd G w p c K sz m ct B U) : Calls Tryd.prog 15 #[.pointer (some ⟨p, 0, none⟩)] w fun e w' => e = .returned (.int .i64 ((pages K (isK B .free) (K + 1) * 1024 : Nat) : Int)) ∧ w' = w := by
  obtain ⟨Z, mm, bf, gf, h1, h2, h3, h4, h5, h6, h7, h8, h9, h10, h11⟩ := h
  exact left_any w p mm K bf gf B ct h6.2.2 h6.1
theorem Sys.free (h : Sys w0 Bd G w p c K sz m ct B U) : Calls Tryd.prog 13 #[.pointer (some ⟨p, 0, none⟩)] w (Got B .free w) := by
  obtain ⟨Z, mm, bf, gf, h1, h2, h3, h4, h5, h6, h7, h8, h9, h10, h11⟩ := h
  exact got_free w p mm K bf gf B ct h6 h3
theorem Sys.c1 (h : Sys w0 Bd G w p c K sz m ct B U) : w.cell? ⟨c, 1, none⟩ = some (.int .i64 (sz : Int)) := by
  obtain ⟨Z, mm, bf, gf, h1, h2, h3, h4, ⟨mb, nm, D, a, cap, nn, L, sb, bm, gm, ws, hC, _⟩, _⟩ := h
  exact hC.c1
end
/-- Both are made. -/
theorem sys_new {w0 w : World} {Bd p mm K sz m : Nat} {bf gf : Nat → Nat} {w' : World} {e : Ending} (hb : Below Bd w0 w) (hB : Bd ≤ w.heap.size) (hT : Tab w) (h1 : 1 < Bd) (hG : Good w p mm K bf gf (begin_ K) 0) (ho : ∀ x, Own mm K gf x → Bd ≤ x) (h : SNewPost w p sz e w') :
    ∃ c, e = .returned (.pointer (some ⟨c, 0, none⟩)) ∧ Below w.heap.size w w' ∧ Sys w0 Bd (fun _ => False) w' p c K sz m 0 (begin_ K) none_ := by
  obtain ⟨c, rfl, hb2, hS⟩ := new_sl (m := m) h
  refine ⟨c, rfl, hb2, _, mm, bf, gf, Below.of_below hb hB hb2, Nat.le_trans hB hb2.size, hT.below hb2 hT.pos, h1, hS, hG.below hb2, fun x hx ha => by have := hG.lab ha; omega, fun x hx => by omega, ho, ⟨fun q hq => absurd hq (none_slb _ _), fun _ _ h => by cases h⟩, fun _ h => h.elim⟩
end Go.Proofs.YtohaoeilodebmaaDoor
