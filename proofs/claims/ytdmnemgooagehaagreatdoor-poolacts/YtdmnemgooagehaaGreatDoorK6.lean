/- Both caches, the program's and the document's, of the same places: whatever is done to both leaves them so, and they answer the same. -/
import Derived.Test.YtdmnemgooagehaaGreatDoorK5
import Derived.Test.YtdmnemgooagehaaGreatDoorS27
namespace Go.Proofs.YtdmnemgooagehaaGreatDoor
open Go.RowKit Go.Maps

section
variable {w w' : World} {r K : Nat} {Z Z' : Nat → Prop} {B : St} {vF vU : Value} {F U : List (Nat × Nat)}
theorem RefM.move (h : RefM w r Z K B vF vU F U) (hs : w.heap.size ≤ w'.heap.size) (ho : ∀ x, x < w.heap.size → Z x → w'.heap[x]? = w.heap[x]?) (hZ : ∀ x, x < w.heap.size → Z x → Z' x) (hn : ∀ x, w'.heap.size ≤ x → Z' x) : RefM w' r Z' K B vF vU F U := by
  have h1 := h.other hs ho
  refine ⟨h1.head, h1.sF, h1.sU, h1.lF, h1.lU, h1.aF, h1.aU, ?_, ?_, hZ r h.lr h.br, hn, h1.small⟩
  · rcases h.sF.lt with e | e
    · exact .inl e
    · exact h.oF.imp id fun f x hx => hZ x (e x hx).2 (f x hx)
  · rcases h.sU.lt with e | e
    · exact .inl e
    · exact h.oU.imp id fun f x hx => hZ x (e x hx).2 (f x hx)
end
section
variable {w w' : World} {c r sz m N : Nat} {Z Z' : Nat → Prop} {U : Pls} {vS vU : Value}
theorem RefC.move (h : RefC w c r Z sz m N U vS vU) (hs : w.heap.size ≤ w'.heap.size) (ho : ∀ x, x < w.heap.size → Z x → w'.heap[x]? = w.heap[x]?) (hZ : ∀ x, x < w.heap.size → Z x → Z' x) (hn : ∀ x, w'.heap.size ≤ x → Z' x) : RefC w' c r Z' sz m N U vS vU := by
  have h1 := h.other hs ho
  exact ⟨h1.head, h1.rS, h1.rU, fun x hx => hZ x (h.rS.lt x hx).2 (h.oS x hx), fun x hx => hZ x (h.rU.lt x hx).2 (h.oU x hx), h1.nS, h1.nU, hZ c h.lc h.br, hn⟩
end

/-- What a Take of a cache tells, by either. -/
def TakeOf (sz m : Nat) (B : St) (U : Pls) (B' : St) (U' : Pls) (at_ er : Int) : Prop :=
  (at_ = 0 ∧ er = 4 ∧ (∀ q, ¬ Opened U m q) ∧ (∀ k j, B k j ≠ .free) ∧ B' = B ∧ U' = U) ∨ ∃ q i, at_ = ((place sz q i : Nat) : Int) ∧ er = 0 ∧ Taken U U' m q i ∧ Came B B' U m q
theorem came_agree {B B1 B2 : St} {U : Pls} {m q1 q2 : Nat} (h1 : Came B B1 U m q1) (h2 : Came B B2 U m q2) (hs1 : ¬ Slb U m q1) (hs2 : ¬ Slb U m q2) : q1 = q2 := by
  rcases h1 with ⟨h, _⟩ | ⟨_, _, _, _, k, j, hl, hp⟩
  · exact absurd h hs1
  · rcases h2 with ⟨h, _⟩ | ⟨_, _, _, _, k', j', hl', hp'⟩
    · exact absurd h hs2
    · obtain ⟨rfl, rfl⟩ := least_one hl hl'
      exact pag_one (hp.trans hp'.symm)
theorem takeOf_agree {sz m : Nat} {B B1 B2 : St} {U U1 U2 : Pls} {a1 e1 a2 e2 : Int} (h1 : TakeOf sz m B U B1 U1 a1 e1) (h2 : TakeOf sz m B U B2 U2 a2 e2) : a1 = a2 ∧ e1 = e2 ∧ U1 = U2 ∧ SameUsed B1 B2 := by
  rcases h1 with ⟨rfl, rfl, hn, hf, rfl, rfl⟩ | ⟨q, i, rfl, rfl, ht, hc⟩
  · rcases h2 with ⟨rfl, rfl, _, _, rfl, rfl⟩ | ⟨q', i', rfl, rfl, ht', hc'⟩
    · exact ⟨rfl, rfl, rfl, SameUsed.refl _⟩
    · exfalso
      rcases hc' with ⟨hs, _⟩ | ⟨_, _, _, _, k, j, hl, _⟩
      · exact hn q' ⟨hs, i', ht'.lt, ht'.free⟩
      · exact hf k j hl.2.1
  · rcases h2 with ⟨rfl, rfl, hn, hf, rfl, rfl⟩ | ⟨q', i', rfl, rfl, ht', hc'⟩
    · exfalso
      rcases hc with ⟨hs, _⟩ | ⟨_, _, _, _, k, j, hl, _⟩
      · exact hn q ⟨hs, i, ht.lt, ht.free⟩
      · exact hf k j hl.2.1
    · obtain ⟨rfl, rfl, rfl⟩ := ht.det ht' (fun hn => by
        have s1 : ¬ Slb U m q := fun hs => hn q ⟨hs, i, ht.lt, ht.free⟩
        have s2 : ¬ Slb U m q' := fun hs => hn q' ⟨hs, i', ht'.lt, ht'.free⟩
        exact came_agree hc hc' s1 s2)
      refine ⟨rfl, rfl, rfl, fun k j => ?_⟩
      rcases hc with ⟨hs, rfl⟩ | ⟨hs, _, _, hp, _⟩
      · rcases hc' with ⟨_, rfl⟩ | ⟨hs', _⟩
        · exact Iff.rfl
        · exact absurd hs hs'
      · rcases hc' with ⟨hs', _⟩ | ⟨_, _, _, hp', _⟩
        · exact absurd hs' hs
        · exact (hp k j).trans (hp' k j).symm
/-- What a Give of a cache tells, by either. -/
def GiveOf (sz m : Nat) (B : St) (U : Pls) (B' : St) (U' : Pls) (x er : Int) : Prop :=
  (er = 6 ∧ (∀ q i, i < m → U q i = true → x ≠ ((place sz q i : Nat) : Int)) ∧ B' = B ∧ U' = U) ∨ ∃ q i, er = 0 ∧ Given U U' m q i ∧ x = ((place sz q i : Nat) : Int) ∧ ((Slb U' m q ∧ B' = B) ∨ (¬ Slb U' m q ∧ Less B B' 0 q))
theorem giveOf_agree {sz m K : Nat} (hz : Sz sz m K) {B B1 B2 : St} {U U1 U2 : Pls} {x e1 e2 : Int} (h1 : GiveOf sz m B U B1 U1 x e1) (h2 : GiveOf sz m B U B2 U2 x e2) : e1 = e2 ∧ U1 = U2 ∧ SameUsed B1 B2 := by
  rcases h1 with ⟨rfl, hn, rfl, rfl⟩ | ⟨q, i, rfl, hg, hx, hb⟩
  · rcases h2 with ⟨rfl, _, rfl, rfl⟩ | ⟨q', i', rfl, hg', hx', _⟩
    · exact ⟨rfl, rfl, SameUsed.refl _⟩
    · exact (hn q' i' hg'.lt hg'.used hx').elim
  · rcases h2 with ⟨rfl, hn, rfl, rfl⟩ | ⟨q', i', rfl, hg', hx', hb'⟩
    · exact (hn q i hg.lt hg.used hx).elim
    · obtain ⟨rfl, rfl⟩ := place_one hz.pos hz.page hg.lt hg'.lt (by omega : place sz q i = place sz q' i')
      have hU : U1 = U2 := by rw [hg.now, hg'.now]
      subst hU
      refine ⟨rfl, rfl, fun k j => ?_⟩
      rcases hb with ⟨hs, rfl⟩ | ⟨hs, hl⟩
      · rcases hb' with ⟨_, rfl⟩ | ⟨hs', _⟩
        · exact Iff.rfl
        · exact absurd hs hs'
      · rcases hb' with ⟨hs', _⟩ | ⟨_, hl'⟩
        · exact absurd hs' hs
        · exact (hl k j).trans (hl' k j).symm

/-- The document's cache and its allocator, beside others' blocks. -/
structure RcD (w : World) (G : Nat → Prop) (cc r sz m : Nat) (B : St) (U : Pls) (vF vB vS vU : Value) (F Ub : List (Nat × Nat)) : Prop where
  rm : RefM w r (fun x => (G x ∨ w.heap.size ≤ x) ∧ x ≠ cc) 6 B vF vB F Ub
  rc : RefC w cc r (fun x => (G x ∨ w.heap.size ≤ x) ∧ x ≠ r) sz m (2 ^ 6) U vS vU
  gr : G r
  gc : G cc
  ne : r ≠ cc
/-- Between two acts. -/
def Sa (w0 : World) (Bd : Nat) (w : World) (p c cc r sz m ct : Nat) (B : St) (U : Pls) : Prop :=
  ∃ (G : Nat → Prop) (vF vB vS vU : Value) (F Ub : List (Nat × Nat)), Sys w0 Bd G w p c 6 sz m ct B U ∧ RcD w G cc r sz m B U vF vB vS vU F Ub
/-- When the program has done it, and the document not yet. -/
def SaM (w0 : World) (Bd : Nat) (w : World) (p c cc r sz m ct : Nat) (B : St) (U : Pls) (B1 : St) (U1 : Pls) : Prop :=
  ∃ (G : Nat → Prop) (vF vB vS vU : Value) (F Ub : List (Nat × Nat)), Sys w0 Bd G w p c 6 sz m ct B1 U1 ∧ RcD w G cc r sz m B U vF vB vS vU F Ub ∧ Inv 6 B ∧ NoHeld B ∧ Fit B U m (2 ^ 6)
section
variable {w0 w w' : World} {Bd p c cc r sz m ct : Nat} {B B1 : St} {U U1 : Pls} {G : Nat → Prop} {vF vB vS vU : Value} {F Ub : List (Nat × Nat)}
theorem RcD.keep (h : RcD w G cc r sz m B U vF vB vS vU F Ub) (hs : w.heap.size ≤ w'.heap.size) (hk : ∀ x, G x → w'.heap[x]? = w.heap[x]?) : RcD w' G cc r sz m B U vF vB vS vU F Ub :=
  ⟨h.rm.move hs (fun x hx hz => hk x (hz.1.resolve_right (by omega))) (fun x hx hz => ⟨.inl (hz.1.resolve_right (by omega)), hz.2⟩) (fun x hx => ⟨.inr hx, fun e => by have := h.rc.lc; omega⟩),
   h.rc.move hs (fun x hx hz => hk x (hz.1.resolve_right (by omega))) (fun x hx hz => ⟨.inl (hz.1.resolve_right (by omega)), hz.2⟩) (fun x hx => ⟨.inr hx, fun e => by have := h.rm.lr; omega⟩), h.gr, h.gc, h.ne⟩
theorem RcD.below (h : RcD w G cc r sz m B U vF vB vS vU F Ub) (hG : ∀ x, G x → x < w.heap.size) (hb : Below w.heap.size w w') : RcD w' G cc r sz m B U vF vB vS vU F Ub := h.keep hb.size (fun x hx => hb.block x (hG x hx))
theorem Sys.glt (h : Sys w0 Bd G w p c 6 sz m ct B U) {x : Nat} (hx : G x) : x < w.heap.size := by
  obtain ⟨Z, mm, bf, gf, h1, h2, h3, h4, h5, h6, h7, h8, h9, h10, h11⟩ := h
  exact (h11 x hx).2.1
theorem Sa.below (h : Sa w0 Bd w p c cc r sz m ct B U) (hb : Below w.heap.size w w') : Sa w0 Bd w' p c cc r sz m ct B U := by
  obtain ⟨G, vF, vB, vS, vU, F, Ub, h1, h2⟩ := h
  exact ⟨G, vF, vB, vS, vU, F, Ub, h1.below hb, h2.below (fun x hx => h1.glt hx) hb⟩
theorem Sa.b0 (h : Sa w0 Bd w p c cc r sz m ct B U) : Below Bd w0 w := by
  obtain ⟨G, vF, vB, vS, vU, F, Ub, h1, h2⟩ := h
  exact h1.b0
theorem Sa.le (h : Sa w0 Bd w p c cc r sz m ct B U) {ct' : Nat} (hc : ct ≤ ct') : Sa w0 Bd w p c cc r sz m ct' B U := by
  obtain ⟨G, vF, vB, vS, vU, F, Ub, h1, h2⟩ := h
  exact ⟨G, vF, vB, vS, vU, F, Ub, h1.more hc, h2⟩
/-- Behind a call of the document's: what it turned is among the law's own blocks, and what it holds is, too. -/
theorem SaM.fin {B2 : St} {U2 : Pls} {vF' vB' vS' vU' : Value} {F' Ub' : List (Nat × Nat)} (hs : Sys w0 Bd G w p c 6 sz m ct B1 U1) (hd : RcD w G cc r sz m B U vF vB vS vU F Ub) (ht : Turn (fun x => x = cc ∨ x = r) w w') (hi : Inv 6 B2) (hn : NoHeld B2)
    (hm : RefM w' r (fun x => (G x ∨ w.heap.size ≤ x) ∧ x ≠ cc) 6 B2 vF' vB' F' Ub') (hc : RefC w' cc r (fun x => (G x ∨ w.heap.size ≤ x) ∧ x ≠ r) sz m (2 ^ 6) U2 vS' vU') (hU : U1 = U2) (hu : SameUsed B1 B2) : Sa w0 Bd w' p c cc r sz m ct B1 U1 := by
  subst hU
  have htG : Turn G w w' := ht.wide (fun x hx => by rcases hx with rfl | rfl; exact hd.gc; exact hd.gr)
  have hs' := hs.grown htG
  have hss := ht.size
  have hinv := hs.inv
  refine ⟨_, vF', vB', vS', vU', F', Ub', hs', ⟨?_, ?_, .inl hd.gr, .inl hd.gc, hd.ne⟩⟩
  · refine (hm.congr (fun k i => free_iff hi hn hinv.1 hinv.2 hu.symm k i) hu.symm).re (fun x hx hz => ⟨.inl ?_, hz.2⟩) (fun x hx => ⟨.inr hx, fun e => by have := hc.lc; omega⟩)
    rcases hz.1 with h | h
    · exact .inl h
    · exact .inr ⟨h, hx⟩
  · refine hc.re (fun x hx hz => ⟨.inl ?_, hz.2⟩) (fun x hx => ⟨.inr hx, fun e => by have := hm.lr; omega⟩)
    rcases hz.1 with h | h
    · exact .inl h
    · exact .inr ⟨h, hx⟩
theorem Sys.take' (h : Sys w0 Bd G w p c 6 sz m ct B U) (hz : Sz sz m 6) (hc : ct ≤ 1000000) : Calls Tryz.prog 10 #[.pointer (some ⟨c, 0, none⟩)] w fun e w' => w.heap.size ≤ w'.heap.size ∧ TakeS w0 Bd G w p c 6 sz m ct B U e w' := by
  obtain ⟨Z, mm, bf, gf, h1, h2, h3, h4, h5, h6, h7, h8, h9, h10, h11⟩ := h
  refine (stake_any h5 h6 h7 h3 (fun h => by rcases h with h | h; have := h8 2 h; omega; have := h9 2 h; omega) hc hz.k20 rfl h10 hz.lo hz.hi hz.m).mono ?_
  rintro e w' ⟨Z', B', ht, hZ', hG', hh⟩
  have hb : Below Bd w0 w' := Below.of_turn h1 h2 ht (fun x hx => hx.elim (h8 x) (h9 x))
  have hT' : Tab w' := h3.turn ht (fun h => by rcases h with h | h; have := h8 2 h; omega; have := h9 2 h; omega)
  have hs := Nat.le_trans h2 ht.size
  have hd' : ∀ x, Z' x → ¬ AB p mm 6 bf gf x := fun x hx ha => by
    rcases hZ' x hx with e | e
    · exact h7 x e ha
    · have := h6.lab ha; omega
  have hB' : ∀ x, Z' x → Bd ≤ x := fun x hx => (hZ' x hx).elim (h8 x) (fun e => by omega)
  have hg : ∀ x, G x → w'.heap[x]? = w.heap[x]? := fun x hx => ht.block x (h11 x hx).2.1 (fun h => h.elim (h11 x hx).2.2.1 (fun ho => (h11 x hx).2.2.2 ho.ab))
  have h11' : ∀ x, G x → Bd ≤ x ∧ x < w'.heap.size ∧ ¬ Z' x ∧ ¬ AB p mm 6 bf gf x := fun x hx => ⟨(h11 x hx).1, Nat.lt_of_lt_of_le (h11 x hx).2.1 ht.size, fun h => (hZ' x h).elim (h11 x hx).2.2.1 (fun e => by have := (h11 x hx).2.1; omega), (h11 x hx).2.2.2⟩
  rcases hh with ⟨rfl, e1, e2, rfl, e4⟩ | ⟨q, i, U', rfl, e1, e2, e3, e4⟩
  · exact ⟨ht.size, _, _, ⟨Z', mm, bf, gf, hb, hs, hT', h4, e4, hG', hd', hB', h9, h10, h11'⟩, hg, .inl ⟨rfl, e1, e2, rfl, rfl⟩⟩
  · exact ⟨ht.size, _, _, ⟨Z', mm, bf, gf, hb, hs, hT', h4, e2, hG', hd', hB', h9, e3, h11'⟩, hg, .inr ⟨q, i, rfl, e1, e4⟩⟩
theorem Sys.give' (h : Sys w0 Bd G w p c 6 sz m ct B U) (hz : Sz sz m 6) (x : Int) (hx1 : -9223372036854775808 ≤ x) (hx2 : x < 9223372036854775808) : Calls Tryz.prog 13 #[.pointer (some ⟨c, 0, none⟩), .int .i64 x] w fun e w' => w.heap.size ≤ w'.heap.size ∧ GiveS w0 Bd G w p c 6 sz m ct B U x e w' := by
  obtain ⟨Z, mm, bf, gf, h1, h2, h3, h4, h5, h6, h7, h8, h9, h10, h11⟩ := h
  refine (sgive_any x h5 h6 h7 h3 (fun h => by rcases h with h | h; have := h8 2 h; omega; have := h9 2 h; omega) hz.pages h10 hz.lo hz.hi hz.m hx1 hx2).mono ?_
  rintro e w' ⟨Z', B', ht, hZ', hG', hh⟩
  have hb : Below Bd w0 w' := Below.of_turn h1 h2 ht (fun x hx => hx.elim (h8 x) (h9 x))
  have hT' : Tab w' := h3.turn ht (fun h => by rcases h with h | h; have := h8 2 h; omega; have := h9 2 h; omega)
  have hs := Nat.le_trans h2 ht.size
  have hd' : ∀ x, Z' x → ¬ AB p mm 6 bf gf x := fun x hx ha => by
    rcases hZ' x hx with e | e
    · exact h7 x e ha
    · have := h6.lab ha; omega
  have hB' : ∀ x, Z' x → Bd ≤ x := fun x hx => (hZ' x hx).elim (h8 x) (fun e => by omega)
  have hg : ∀ x, G x → w'.heap[x]? = w.heap[x]? := fun x hx => ht.block x (h11 x hx).2.1 (fun h => h.elim (h11 x hx).2.2.1 (fun ho => (h11 x hx).2.2.2 ho.ab))
  have h11' : ∀ x, G x → Bd ≤ x ∧ x < w'.heap.size ∧ ¬ Z' x ∧ ¬ AB p mm 6 bf gf x := fun x hx => ⟨(h11 x hx).1, Nat.lt_of_lt_of_le (h11 x hx).2.1 ht.size, fun h => (hZ' x h).elim (h11 x hx).2.2.1 (fun e => by have := (h11 x hx).2.1; omega), (h11 x hx).2.2.2⟩
  rcases hh with ⟨rfl, e1, rfl, e4⟩ | ⟨q, i, rfl, e1, e2, e3, e4, e5, e6⟩
  · exact ⟨ht.size, _, _, ⟨Z', mm, bf, gf, hb, hs, hT', h4, e4, hG', hd', hB', h9, h10, h11'⟩, hg, .inl ⟨rfl, e1, rfl, rfl⟩⟩
  · exact ⟨ht.size, _, _, ⟨Z', mm, bf, gf, hb, hs, hT', h4, e4, hG', hd', hB', h9, e5, h11'⟩, hg, .inr ⟨q, i, rfl, ⟨e1, e2, rfl⟩, e3, e6⟩⟩
/-- The program's allocator, beside the cache. -/
theorem Sys.buddy (h : Sys w0 Bd G w p c 6 sz m ct B U) (N : Int) (hc : ct ≤ 1000000) : Calls Tryz.prog 20 #[.pointer (some ⟨p, 0, none⟩), .int .i64 N] w fun e w' => w.heap.size ≤ w'.heap.size ∧ (∀ x, G x → w'.heap[x]? = w.heap[x]?) ∧ ∃ (a er : Int) (B' : St), e = .returned (.tuple #[.int .i64 a, .int .i64 er]) ∧ Sys w0 Bd G w' p c 6 sz m (ct + 1) B' U ∧ TookOf 6 B B' N a er := by
  obtain ⟨Z, mm, bf, gf, h1, h2, h3, h4, h5, h6, h7, h8, h9, h10, h11⟩ := h
  refine (took_any w p mm 6 bf gf B ct N h6 h3 hc).mono ?_
  rintro e w' ⟨a, er, B', rfl, ht, hG', hh⟩
  have hb : Below Bd w0 w' := Below.of_turn h1 h2 ht h9
  have hT' : Tab w' := h3.turn ht (fun h => by have := h9 2 h; omega)
  have hs := Nat.le_trans h2 ht.size
  have hg : ∀ x, G x → w'.heap[x]? = w.heap[x]? := fun x hx => ht.block x (h11 x hx).2.1 (fun ho => (h11 x hx).2.2.2 ho.ab)
  refine ⟨ht.size, hg, a, er, B', rfl, ⟨fun x => Z x ∧ x < w.heap.size, mm, bf, gf, hb, hs, hT', h4, (h5.own.turn ht (fun x hx ho => h7 x hx.1 ho.ab)).wide (fun _ h => h) (by omega), hG', fun x hx => h7 x hx.1, fun x hx => h8 x hx.1, h9, h10.more ?_, fun x hx => ⟨(h11 x hx).1, Nat.lt_of_lt_of_le (h11 x hx).2.1 ht.size, fun h => (h11 x hx).2.2.1 h.1, (h11 x hx).2.2.2⟩⟩, hh⟩
  intro q hq
  rcases hh with ⟨_, rfl, _⟩ | ⟨_, o, k, i, n, _, _, _, _, _, _, hp⟩
  · exact hq
  · exact (hp 0 q).2 (.inl hq)

theorem Sa.take1 (h : Sa w0 Bd w p c cc r sz m ct B U) (hz : Sz sz m 6) (hct : ct ≤ 1000000) : Calls Tryz.prog 10 #[.pointer (some ⟨c, 0, none⟩)] w fun e w' => ∃ (at_ er : Int), e = .returned (.tuple #[.int .i64 at_, .int .i64 er]) ∧ Hid (∃ B1 U1, SaM w0 Bd w' p c cc r sz m (ct + 1) B U B1 U1 ∧ TakeOf sz m B U B1 U1 at_ er) := by
  obtain ⟨G, vF, vB, vS, vU, F, Ub, h1, h2⟩ := h
  have hinv := h1.inv
  have hfit := h1.fit
  refine (h1.take' hz hct).mono ?_
  rintro e w1 ⟨hs, B1, U1, hS, hk, ⟨rfl, hno, hnf, rfl, rfl⟩ | ⟨q, i, rfl, ht, hc⟩⟩
  · exact ⟨0, 4, rfl, ⟨_, _, ⟨G, vF, vB, vS, vU, F, Ub, hS, h2.keep hs hk, hinv.1, hinv.2, hfit⟩, .inl ⟨rfl, rfl, hno, hnf, rfl, rfl⟩⟩⟩
  · exact ⟨_, 0, rfl, ⟨_, _, ⟨G, vF, vB, vS, vU, F, Ub, hS, h2.keep hs hk, hinv.1, hinv.2, hfit⟩, .inr ⟨q, i, rfl, rfl, ht, hc⟩⟩⟩
theorem Sa.take2 {at_ er : Int} (h : SaM w0 Bd w p c cc r sz m ct B U B1 U1) (hh : TakeOf sz m B U B1 U1 at_ er) (hz : Sz sz m 6) : Calls Tryz.prog 18 #[.pointer (some ⟨cc, 0, none⟩)] w fun e w' => e = .returned (.tuple #[.int .i64 at_, .int .i64 er]) ∧ Sa w0 Bd w' p c cc r sz m ct B1 U1 := by
  obtain ⟨G, vF, vB, vS, vU, F, Ub, h1, h2, hi, hn, hfit⟩ := h
  refine (rctake_any w cc r _ _ 6 sz m B U vF vB F Ub vS vU h2.rm hi hn h2.rc hfit hz (by omega) (fun h => h.2 rfl) (fun h => h.2 rfl)).mono ?_
  rintro e w' ⟨B2, U2, vF', vB', F', Ub', vS', vU', ht, hi', hn', hm, hc, ⟨rfl, e1, e2, rfl, rfl⟩ | ⟨q, i, rfl, e1, e2, _⟩⟩
  · obtain ⟨rfl, rfl, hU, hu⟩ := takeOf_agree hh (.inl ⟨rfl, rfl, e1, e2, rfl, rfl⟩)
    exact ⟨rfl, SaM.fin h1 h2 ht hi' hn' hm hc hU hu⟩
  · obtain ⟨rfl, rfl, hU, hu⟩ := takeOf_agree hh (.inr ⟨q, i, rfl, rfl, e1, e2⟩)
    exact ⟨rfl, SaM.fin h1 h2 ht hi' hn' hm hc hU hu⟩
theorem Sa.give1 (h : Sa w0 Bd w p c cc r sz m ct B U) (hz : Sz sz m 6) (x : Int) (hx1 : -9223372036854775808 ≤ x) (hx2 : x < 9223372036854775808) : Calls Tryz.prog 13 #[.pointer (some ⟨c, 0, none⟩), .int .i64 x] w fun e w' => ∃ er : Int, e = .returned (.int .i64 er) ∧ Hid (∃ B1 U1, SaM w0 Bd w' p c cc r sz m ct B U B1 U1 ∧ GiveOf sz m B U B1 U1 x er) := by
  obtain ⟨G, vF, vB, vS, vU, F, Ub, h1, h2⟩ := h
  have hinv := h1.inv
  have hfit := h1.fit
  refine (h1.give' hz x hx1 hx2).mono ?_
  rintro e w1 ⟨hs, B1, U1, hS, hk, ⟨rfl, hno, rfl, rfl⟩ | ⟨q, i, rfl, hg, hx, hb⟩⟩
  · exact ⟨6, rfl, ⟨_, _, ⟨G, vF, vB, vS, vU, F, Ub, hS, h2.keep hs hk, hinv.1, hinv.2, hfit⟩, .inl ⟨rfl, hno, rfl, rfl⟩⟩⟩
  · exact ⟨0, rfl, ⟨_, _, ⟨G, vF, vB, vS, vU, F, Ub, hS, h2.keep hs hk, hinv.1, hinv.2, hfit⟩, .inr ⟨q, i, rfl, hg, hx, hb⟩⟩⟩
theorem Sa.give2 {x er : Int} (h : SaM w0 Bd w p c cc r sz m ct B U B1 U1) (hh : GiveOf sz m B U B1 U1 x er) (hz : Sz sz m 6) : Calls Tryz.prog 19 #[.pointer (some ⟨cc, 0, none⟩), .int .i64 x] w fun e w' => e = .returned (.int .i64 er) ∧ Sa w0 Bd w' p c cc r sz m ct B1 U1 := by
  obtain ⟨G, vF, vB, vS, vU, F, Ub, h1, h2, hi, hn, hfit⟩ := h
  refine (rcgive_any w cc r _ _ 6 sz m B U vF vB F Ub vS vU x h2.rm hi hn h2.rc hfit hz (by omega) (fun h => h.2 rfl) (fun h => h.2 rfl)).mono ?_
  rintro e w' ⟨B2, U2, vF', vB', F', Ub', vS', vU', ht, hi', hn', hm, hc, ⟨rfl, e1, rfl, rfl⟩ | ⟨q, i, rfl, e1, e2, e3⟩⟩
  · obtain ⟨rfl, hU, hu⟩ := giveOf_agree hz hh (.inl ⟨rfl, e1, rfl, rfl⟩)
    exact ⟨rfl, SaM.fin h1 h2 ht hi' hn' hm hc hU hu⟩
  · obtain ⟨rfl, hU, hu⟩ := giveOf_agree hz hh (.inr ⟨q, i, rfl, e1, e2, e3⟩)
    exact ⟨rfl, SaM.fin h1 h2 ht hi' hn' hm hc hU hu⟩
theorem Sa.buddy1 (h : Sa w0 Bd w p c cc r sz m ct B U) (N : Int) (hct : ct ≤ 1000000) : Calls Tryz.prog 20 #[.pointer (some ⟨p, 0, none⟩), .int .i64 N] w fun e w' => ∃ (at_ er : Int), e = .returned (.tuple #[.int .i64 at_, .int .i64 er]) ∧ Hid (∃ B1, SaM w0 Bd w' p c cc r sz m (ct + 1) B U B1 U ∧ TookOf 6 B B1 N at_ er) := by
  obtain ⟨G, vF, vB, vS, vU, F, Ub, h1, h2⟩ := h
  have hinv := h1.inv
  have hfit := h1.fit
  refine (h1.buddy N hct).mono ?_
  rintro e w1 ⟨hs, hk, a, er, B1, rfl, hS, hh⟩
  exact ⟨a, er, rfl, ⟨B1, ⟨G, vF, vB, vS, vU, F, Ub, hS, h2.keep hs hk, hinv.1, hinv.2, hfit⟩, hh⟩⟩
theorem Sa.buddy2 {N at_ er : Int} (h : SaM w0 Bd w p c cc r sz m ct B U B1 U) (hh : TookOf 6 B B1 N at_ er) : Calls Tryz.prog 21 #[.pointer (some ⟨r, 0, none⟩), .int .i64 N] w fun e w' => e = .returned (.tuple #[.int .i64 at_, .int .i64 er]) ∧ Sa w0 Bd w' p c cc r sz m ct B1 U := by
  obtain ⟨G, vF, vB, vS, vU, F, Ub, h1, h2, hi, hn, hfit⟩ := h
  refine (rtook_any w r _ 6 B vF vB F Ub N h2.rm hi hn).mono ?_
  rintro e w' ⟨a2, er2, B2, vF', vB', F', Ub', rfl, ht, hi', hn', hm, hh'⟩
  obtain ⟨rfl, rfl, hu⟩ := took_agree hh hh'
  exact ⟨rfl, SaM.fin h1 h2 ⟨ht.os, ht.tape, ht.output, ht.size, fun k hk hs => ht.block k hk (fun e => hs (.inr e))⟩ hi' hn' hm (h2.rc.turn ht (fun x hx h => h.2 hx)) rfl hu⟩
end
end Go.Proofs.YtdmnemgooagehaaGreatDoor
