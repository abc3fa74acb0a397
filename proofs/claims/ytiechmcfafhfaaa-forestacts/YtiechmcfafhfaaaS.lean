/- A forest that was made behind a world; the comparison Same; alive. -/
import Derived.Test.YtiechmcfafhfaaaQ
namespace Go.Proofs.Ytiechmcfafhfaaa
open Go.RowKit Go.Maps Go.Shelf

/-- A forest that was made behind v. -/
structure Fz (v w : World) (p m1 m2 : Nat) (nb : Nat → Nat) (last : Nat) (L : List Nd) : Prop where
  fo : Fo w p m1 m2 nb last L
  bel : Below v.heap.size v w
  own : ∀ k, FOwn p m1 m2 nb L k → v.heap.size ≤ k
/-- From one forest to the next one: its own blocks turn alone, and what comes to be its own is new. -/
structure Tr (S S' : Nat → Prop) (w w' : World) : Prop where
  turn : Turn S w w'
  own : ∀ k, S' k → S k ∨ w.heap.size ≤ k
section
variable {v w w' : World} {p m1 m2 : Nat} {nb nb' : Nat → Nat} {L R : List Nd} {last last' : Nat} {e : Nd}
theorem Fz.below (h : Fz v w p m1 m2 nb last L) (hb : Below w.heap.size w w') : Fz v w' p m1 m2 nb last L := ⟨h.fo.below hb (Nat.le_refl _), h.bel.trans (hb.mono h.bel.size), h.own⟩
theorem Fz.drewN (h : Fz v w p m1 m2 nb last L) (k : Nat) : Fz v (w.drewN k) p m1 m2 nb last L := ⟨h.fo.drewN k, ⟨h.bel.os, h.bel.tape, h.bel.output, h.bel.size, h.bel.block⟩, h.own⟩
theorem Fz.next (h : Fz v w p m1 m2 nb last L) (hf : Fo w' p m1 m2 nb' last' R) (ht : Tr (FOwn p m1 m2 nb L) (FOwn p m1 m2 nb' R) w w') : Fz v w' p m1 m2 nb' last' R :=
  ⟨hf, Below.of_turn h.bel h.bel.size ht.turn h.own, fun k hk => (ht.own k hk).elim (h.own k) (fun h2 => Nat.le_trans h.bel.size h2)⟩
/-- What isn't the forest's stays, and doesn't come to be. -/
theorem Tr.keep {S S' : Nat → Prop} (h : Tr S S' w w') {g : Nat} (hg : g < w.heap.size) (hn : ¬ S g) : w'.heap[g]? = w.heap[g]? ∧ ¬ S' g ∧ g < w'.heap.size :=
  ⟨h.turn.block g hg hn, fun h2 => (h.own g h2).elim hn (by omega), Nat.lt_of_lt_of_le hg h.turn.size⟩
theorem tr_less (D : List Nat) (ht : Turn (FOwn p m1 m2 nb L) w w') : Tr (FOwn p m1 m2 nb L) (FOwn p m1 m2 nb (less L D)) w w' :=
  ⟨ht, fun _ hk => .inl (hk.imp id (Or.imp id (Or.imp id NOwn.less)))⟩
theorem mv_in {M : List Nd} {k q : Nat} {f : Nd} (hf : f ∈ mv M k q) : ∃ g ∈ M, g.id = f.id := by
  unfold mv at hf
  split at hf
  · rename_i e he
    rcases mem_move.1 hf with ⟨h1, _⟩ | rfl
    · exact ⟨f, h1, rfl⟩
    · exact ⟨e, List.mem_of_find?_eq_some he, rfl⟩
  · exact ⟨f, hf, rfl⟩
theorem lifted_in {i q : Nat} : ∀ f ∈ lifted L i q, ∃ g ∈ L, g.id = f.id := by
  have key : ∀ (l : List Nat) (M : List Nd), ∀ f ∈ l.foldl (fun M k => mv M k q) M, ∃ g ∈ M, g.id = f.id := by
    intro l
    induction l with
    | nil => intro M f hf; exact ⟨f, hf, rfl⟩
    | cons x r ih =>
      intro M f hf
      obtain ⟨g, hg, e1⟩ := ih (mv M x q) f hf
      obtain ⟨g2, hg2, e2⟩ := mv_in hg
      exact ⟨g2, hg2, e2.trans e1⟩
  intro f hf
  obtain ⟨g, hg, e1⟩ := key _ _ f hf
  exact ⟨g, (mem_less.1 hg).1, e1⟩
theorem tr_lift {i q : Nat} (ht : Turn (FOwn p m1 m2 nb L) w w') : Tr (FOwn p m1 m2 nb L) (FOwn p m1 m2 nb (lifted L i q)) w w' :=
  ⟨ht, fun _ hk => .inl (hk.imp id (Or.imp id (Or.imp id (fun ⟨f, hf, e1⟩ => by
    obtain ⟨g, hg, e2⟩ := lifted_in f hf
    exact ⟨g, hg, by rw [e1, e2]⟩))))⟩
theorem tr_add (h : Fo w p m1 m2 nb last L) {x : Nd} (hx : x.id = last + 1) (hn : ∀ i, i ≠ last + 1 → nb' i = nb i) (hs : w.heap.size ≤ nb' (last + 1)) (ht : Turn (FOwn p m1 m2 nb L) w w') : Tr (FOwn p m1 m2 nb L) (FOwn p m1 m2 nb' (L ++ [x])) w w' := by
  refine ⟨ht, fun k hk => ?_⟩
  rcases hk with h1 | h1 | h1 | ⟨f, hf, rfl⟩
  · exact .inl (.inl h1)
  · exact .inl (.inr (.inl h1))
  · exact .inl (.inr (.inr (.inl h1)))
  · rcases List.mem_append.1 hf with hf | hf
    · exact .inl (.inr (.inr (.inr ⟨f, hf, hn _ (by have := (h.wf.lo f hf).2; omega)⟩)))
    · rw [List.mem_singleton.1 hf, hx]; exact .inr hs
theorem tr_refl (S : Nat → Prop) (hb : Below w.heap.size w w') : Tr S S w w' := ⟨Turn.of_below hb, fun _ h => .inl h⟩
/-- Same of like rows. -/
theorem same_any {b1 b2 : Nat} {v1 v2 : Value} {xs : List Int} (h1 : OR w b1 1 v1 xs.length (nums xs)) (h2 : OR w b2 1 v2 xs.length (nums xs)) (hl : xs.length ≤ 100000) : Calls Try.prog 26 #[v1, v2] w fun en w' => en = .returned (.bool true) ∧ ∃ q, w' = w.drewN q := by
  obtain ⟨a1, k1, rfl, _⟩ := h1.slice
  obtain ⟨a2, k2, rfl, _⟩ := h2.slice
  have HR := hid (And.intro h1 h2)
  have hn0 : ((xs.length : Int) != (xs.length : Int)) = false := by simp
  clear h1 h2
  go_enter Try.func26, Try.ntmps26
  go_wp2
  go_loopw [5] (fun c wr => ∃ j : Nat, j ≤ xs.length ∧ c = .int .i64 (j : Int) ∧ ∃ q, wr = w.drewN q) (fun c _ => xs.length - (intOf c).toNat)
  case atStart => exact ⟨0, Nat.zero_le _, rfl, 0, rfl⟩
  case round =>
    obtain ⟨j, hj, rfl, q, rfl⟩ := hrel
    by_cases hlt : j < xs.length
    · obtain ⟨g1, o1, rfl, _, c1⟩ := HR.out.1.at (nums_at (List.getElem?_eq_getElem hlt))
      obtain ⟨g2, o2, rfl, _, c2⟩ := HR.out.2.at (nums_at (List.getElem?_eq_getElem hlt))
      have hj0 : (0 : Int) ≤ (j : Int) := by omega
      have hj1 : (j : Int) < (xs.length : Int) := by omega
      have hne : (xs[j] != xs[j]) = false := by simp
      generalize xs[j] = x at *
      generalize xs.length = n at *
      go_wp2_with fail
      go_quiet (fail)
      go_wp2_with fail
      exact ⟨⟨j + 1, by omega, by go_num, _, rfl⟩, by simp [intOf]; omega⟩
    · go_wp2
      go_ret
      exact ⟨rfl, q, rfl⟩
theorem pair_row (w : World) (x y : Int) : OR (w.alloc (.cells #[.int .i64 x, .int .i64 y] 3)) w.heap.size 1 (.slice (some ⟨w.heap.size, 0, none⟩) 2 2) 2 (nums [x, y]) := by
  have hA := heap_alloc_new w (.cells #[.int .i64 x, .int .i64 y] 3)
  refine ⟨rfl, .inr ⟨w.heap.size, 0, 2, rfl, Nat.le_refl _, by simp, Nat.le_refl _, by unfold maxLen; omega, fun j hj => ?_, fun j u hu => ?_⟩⟩
  · refine ⟨?_, frozen_of_row _ _ _ _ _ hA⟩
    rw [Nat.zero_add, cell_of_row _ _ _ _ _ _ hA]
    rcases (show j = 0 ∨ j = 1 by omega) with rfl | rfl <;> rfl
  · have hj : j < 2 := by have := (List.getElem?_eq_some_iff.1 hu).1; simpa [nums] using this
    rw [Nat.zero_add, cell_of_row _ _ _ _ _ _ hA, ← hu]
    rcases (show j = 0 ∨ j = 1 by omega) with rfl | rfl <;> rfl
theorem OR.tr {S S' : Nat → Prop} {base size n : Nat} {u : Value} {xs : List Value} (h : OR w base size u n xs) (ht : Tr S S' w w') (hn : ∀ g, u.ownBlock = some g → ¬ S g) : OR w' base size u n xs ∧ ∀ g, u.ownBlock = some g → ¬ S' g :=
  ⟨h.other ht.turn.size (fun g e => ht.turn.block g (h.own g e).2 (hn g e)), fun g e => (ht.keep (h.own g e).2 (hn g e)).2.1⟩
/-- What a call made that left the forest as it was isn't the forest's. -/
theorem Fo.new_row {base size n : Nat} {u : Value} {xs : List Value} (h : Fo w p m1 m2 nb last L) (ho : OR w' base size u n xs) (hb : w.heap.size ≤ base) : ∀ g, u.ownBlock = some g → ¬ FOwn p m1 m2 nb L g := fun g e hk => by
  have := (ho.own g e).1
  have := h.lt hk
  omega
/-- The calls, as the laws have them. -/
theorem z_new (w : World) : Calls Try.prog 19 #[] w fun en w' => ∃ p m1 m2 nb, en = .returned (ptr p) ∧ Fz w w' p m1 m2 nb 0 [] := by
  refine (new_any w).mono ?_
  rintro en w' ⟨rfl, hf, hb⟩
  refine ⟨_, _, _, _, rfl, hf, hb, fun k hk => ?_⟩
  rcases hk with h1 | h1 | h1 | ⟨f, hf, _⟩
  · omega
  · omega
  · omega
  · simp at hf
theorem z_add (h : Fz v w p m1 m2 nb last L) (hl : last + 1 < 400) {x : Int} {q : Nat} (hp : Par L x q) {a b : Int} (ha : I64 a) (hb : I64 b) (hn : ∀ e ∈ L, ¬ (e.sp = a ∧ e.sl = b)) {n : Int} (hN : ((last + 1 : Nat) : Int) = n) {R : List Nd} (hR : L ++ [⟨last + 1, q, a, b⟩] = R) {l2 : Nat} (hl2 : last + 1 = l2) :
    Calls Try.prog 9 #[ptr p, .int .i64 x, .int .i64 a, .int .i64 b] w fun en w' => en = .returned (.tuple #[.int .i64 n, .int .i64 0]) ∧ ∃ nb', Fz v w' p m1 m2 nb' l2 R ∧ Tr (FOwn p m1 m2 nb L) (FOwn p m1 m2 nb' R) w w' := by
  refine (add_ok h.fo hl hp ha hb hn).mono ?_
  rintro en w' ⟨rfl, nb', h1, h2, h3, h4⟩
  subst hN hl2 hR
  have ht := tr_add h.fo (x := ⟨last + 1, q, a, b⟩) rfl h1 h2 h4
  exact ⟨rfl, nb', h.next h3 ht, ht⟩
theorem z_twice (h : Fz v w p m1 m2 nb last L) {x : Int} {q : Nat} (hp : Par L x q) (he : e ∈ L) : Calls Try.prog 9 #[ptr p, .int .i64 x, .int .i64 e.sp, .int .i64 e.sl] w fun en w' => en = .returned (.tuple #[.int .i64 0, .int .i64 7]) ∧ Fz v w' p m1 m2 nb last L ∧ Below w.heap.size w w' := by
  refine (add_twice h.fo hp he).mono ?_
  rintro en w' ⟨rfl, hb⟩
  exact ⟨rfl, h.below hb, hb⟩
theorem z_went (h : Fz v w p m1 m2 nb last L) {D : List Nat} {en : Ending} (k : WentPost w p m1 m2 nb last L D en w') : Fz v w' p m1 m2 nb last (less L D) ∧ Tr (FOwn p m1 m2 nb L) (FOwn p m1 m2 nb (less L D)) w w' := by
  obtain ⟨_, _, _, _, hf, ht⟩ := k
  have := tr_less D ht
  exact ⟨h.next hf this, this⟩
theorem z_lift (h : Fz v w p m1 m2 nb last L) {i q : Nat} {en : Ending} (k : LiftPost w p m1 m2 nb last L i q en w') : Fz v w' p m1 m2 nb last (lifted L i q) ∧ Tr (FOwn p m1 m2 nb L) (FOwn p m1 m2 nb (lifted L i q)) w w' := by
  obtain ⟨_, hf, ht⟩ := k
  have := tr_lift (i := i) (q := q) ht
  exact ⟨h.next hf this, this⟩
end
def A1 : List Nd := [⟨1, 0, 1, 1⟩]
def A2 : List Nd := [⟨1, 0, 1, 1⟩, ⟨2, 1, 1, 2⟩]
def A3 : List Nd := [⟨1, 0, 1, 1⟩, ⟨2, 1, 1, 2⟩, ⟨3, 2, 1, 3⟩]
def A4 : List Nd := [⟨1, 0, 1, 1⟩, ⟨3, 1, 1, 3⟩]
def A5 : List Nd := [⟨1, 0, 1, 1⟩, ⟨3, 1, 1, 3⟩, ⟨4, 3, 2, 2⟩]
theorem lift4 : lifted A3 2 1 = A4 := by kernel_rfl
theorem bel3 : below A3 1 = [3, 2] := by kernel_rfl
theorem bel5 : below A5 1 = [4, 3] := by kernel_rfl
theorem less5 : less A5 [4, 3] = A1 := by kernel_rfl
theorem i64s (x : Int) (h : 0 ≤ x ∧ x < 1000) : I64 x := by unfold I64; omega
def n1 : Nd := ⟨1, 0, 1, 1⟩
def n2 : Nd := ⟨2, 1, 1, 2⟩
def n3 : Nd := ⟨3, 1, 1, 3⟩
set_option maxRecDepth 100000 in
set_option maxHeartbeats 4000000 in
theorem alive_true (w : World) : Calls Try.prog 8 #[] w fun en w' => en = .returned (.bool true) ∧ Below w.heap.size w w' := by
  go_enter Try.func8, Try.ntmps8
  go_wp2_with fail
  refine (z_new w).mono ?_
  rintro en w1 ⟨p, m1, m2, nb, rfl, hz⟩
  have H1 := hid hz
  clear hz
  go_wp2_with fail
  refine (z_add H1.out (by omega) (q := 0) ⟨rfl, .inl rfl⟩ (i64s 1 (by omega)) (i64s 1 (by omega)) (fun e he => by simp at he) (n := 1) rfl (R := A1) rfl (l2 := 1) rfl).mono ?_
  rintro en w2 ⟨rfl, nb2, hz, _⟩
  have H2 := hid hz
  clear hz
  go_wp2_with fail
  refine (z_add H2.out (by omega) (q := 1) ⟨rfl, .inr ⟨n1, by simp [A1, n1], rfl⟩⟩ (i64s 1 (by omega)) (i64s 2 (by omega)) (fun e he => by simp [A1] at he; subst he; simp) (n := 2) rfl (R := A2) rfl (l2 := 2) rfl).mono ?_
  rintro en w3 ⟨rfl, nb3, hz, _⟩
  have H3 := hid hz
  clear hz
  go_wp2_with fail
  refine (z_add H3.out (by omega) (q := 2) ⟨rfl, .inr ⟨n2, by simp [A2, n2], rfl⟩⟩ (i64s 1 (by omega)) (i64s 3 (by omega)) (fun e he => by simp [A2] at he; rcases he with rfl | rfl <;> simp) (n := 3) rfl (R := A3) rfl (l2 := 3) rfl).mono ?_
  rintro en w4 ⟨rfl, nb4, hz, _⟩
  have H4 := hid hz
  clear hz
  go_wp2_with fail
  refine (z_twice H4.out (q := 3) (e := n1) ⟨rfl, .inr ⟨⟨3, 2, 1, 3⟩, by simp [A3], rfl⟩⟩ (by simp [A3, n1])).mono ?_
  rintro en w5 ⟨rfl, hz, _⟩
  have H5 := hid hz
  clear hz
  go_wp2_with fail
  refine (fbelow_hit H5.out.fo (e := n1) (by simp [A3, n1])).mono ?_
  rw [show below A3 n1.id = [3, 2] from bel3]
  rintro en w6 ⟨a6, c6, rfl, ho6, hb6⟩
  have H6 := hid (H5.out.below hb6)
  have HO6 := hid (And.intro ho6 (H5.out.fo.new_row ho6 (Nat.le_refl _)))
  clear ho6 hb6
  go_wp2_with fail
  refine (lift_hit H6.out.fo (e := n2) (by simp [A3, n2])).mono ?_
  intro en w7 h7
  have H7 := hid (z_lift H6.out h7)
  rw [show lifted A3 n2.id n2.par = A4 from lift4] at H7
  have HO7 := hid (HO6.out.1.tr H7.out.2 HO6.out.2)
  obtain ⟨rfl, _⟩ := h7
  go_wp2_with fail
  refine (parent_hit H7.out.1.fo (e := n3) (by simp [A4, n3])).mono ?_
  rw [show ((n3.par : Nat) : Int) = 1 from rfl]
  rintro en w8 ⟨rfl, e8⟩
  rw [e8]
  clear e8 w8
  go_wp2_with fail
  refine (z_add H7.out.1 (by omega) (q := 3) ⟨rfl, .inr ⟨n3, by simp [A4, n3], rfl⟩⟩ (i64s 2 (by omega)) (i64s 2 (by omega)) (fun e he => by simp [A4] at he; rcases he with rfl | rfl <;> simp) (n := 4) rfl (R := A5) rfl (l2 := 4) rfl).mono ?_
  rintro en w9 ⟨rfl, nb9, hz, ht9⟩
  have H9 := hid hz
  have HO9 := hid (HO7.out.1.tr ht9 HO7.out.2)
  clear hz ht9
  go_wp2_with fail
  refine (cut_hit H9.out.fo (e := n1) (by simp [A5, n1])).mono ?_
  rw [show below A5 n1.id = [4, 3] from bel5]
  intro en w10 h10
  have H10 := hid (z_went H9.out h10)
  rw [less5] at H10
  have HO10 := hid (HO9.out.1.tr H10.out.2 HO9.out.2)
  obtain ⟨a10, c10, rfl, ho10, _⟩ := h10
  have ho10 : OR w10 w9.heap.size 2 (.slice a10 2 c10) 2 (flat [(2, 2), (1, 3)]) := ho10
  obtain ⟨g, off, rfl, hg0, k0⟩ := ho10.at (j := 0) (u := .int .i64 2) rfl
  obtain ⟨g', off', eg, _, k3⟩ := ho10.at (j := 3) (u := .int .i64 3) rfl
  obtain ⟨rfl, rfl⟩ : g = g' ∧ off = off' := by simpa using eg
  have hgl : g < w10.heap.size := (ho10.own g rfl).2
  clear ho10 hg0 eg
  go_wp2_with fail
  refine (owner_hit H10.out.1.fo (e := n1) (by simp [A1, n1])).mono ?_
  rw [show n1.sp = (1 : Int) from rfl, show n1.sl = (1 : Int) from rfl]
  rintro en w11 ⟨rfl, k, ek⟩
  have H11 : Hid (Fz w w11 p m1 m2 nb9 4 A1) := hid (by rw [ek]; exact H10.out.1.drewN k)
  have HO11 : Hid (OR w11 w5.heap.size 1 (.slice a6 2 c6) 2 (nums (zs [3, 2]))) := hid (by rw [ek]; exact HO10.out.1.drewN k)
  have j0 : w11.cell? ⟨g, off, none⟩ = some (.int .i64 2) := by rw [ek]; exact k0
  have j3 : w11.cell? ⟨g, off + 3, none⟩ = some (.int .i64 3) := by rw [ek]; exact k3
  have hgl1 : g < w11.heap.size := by rw [ek]; exact hgl
  clear ek k0 k3 hgl
  go_wp2_with fail
  refine (same_any (xs := [3, 2]) (HO11.out.alloc (.cells #[.int .i64 3, .int .i64 2] 3)) (pair_row w11 3 2) (by simp)).mono ?_
  rintro en w12 ⟨rfl, q, eq⟩
  have H12 : Hid (Fz w w12 p m1 m2 nb9 4 A1) := hid (by rw [eq]; exact (H11.out.below ((Below.refl _ _).alloc (Nat.le_refl _) _)).drewN q)
  have l0 : w12.cell? ⟨g, off, none⟩ = some (.int .i64 2) := by
    rw [eq, World.cell?_of_block (w := w11) (a := ⟨g, off, none⟩)]
    · exact j0
    · exact Below.heap_alloc _ _ _ hgl1
  have l3 : w12.cell? ⟨g, off + 3, none⟩ = some (.int .i64 3) := by
    rw [eq, World.cell?_of_block (w := w11) (a := ⟨g, off + 3, none⟩)]
    · exact j3
    · exact Below.heap_alloc _ _ _ hgl1
  clear eq j0 j3 hgl1
  go_wp2_with fail
  refine (len_any H12.out.fo).mono ?_
  rintro en w13 ⟨rfl, e13⟩
  rw [e13]
  clear e13 w13
  go_wp2_with fail
  refine (find_hit H12.out.fo (e := n1) (by simp [A1, n1])).mono ?_
  rw [show ((n1.id : Nat) : Int) = 1 from rfl]
  rintro en w14 ⟨rfl, e14⟩
  rw [e14]
  clear e14 w14
  go_wp2_with fail
  refine (fkids_hit H12.out.fo (e := n1) (by simp [A1, n1])).mono ?_
  rw [show kids A1 n1.id = [] from rfl]
  rintro en w15 ⟨a15, c15, rfl, _, hb15⟩
  have H15 := hid (H12.out.below hb15)
  clear hb15
  go_wp2_with fail
  refine (remove_hit H15.out.fo (e := n1) (by simp [A1, n1])).mono ?_
  intro en w16 h16
  have H16 := hid (z_went H15.out h16).1
  obtain ⟨a16, c16, rfl, _⟩ := h16
  rw [show (gone A1 n1.id).length = 1 from by kernel_rfl]
  go_wp2_with fail
  go_ret
  exact ⟨rfl, H16.out.bel⟩
end Go.Proofs.Ytiechmcfafhfaaa
