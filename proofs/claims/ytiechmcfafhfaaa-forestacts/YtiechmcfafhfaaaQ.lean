/- The contract of Add. -/
import Derived.Test.YtiechmcfafhfaaaP
namespace Go.Proofs.Ytiechmcfafhfaaa
open Go.RowKit Go.Maps Go.Shelf

theorem step_run {P : Program} (w w' : World) (v' : Value) {ops : Array Oper} {o : Oper} {a : Act} {K : Act → World → Prop} {Q : Exit → Act → World → Prop} {E : Prop} (hgd : o.guard = none) (hr : (execOp a.eval o).run P w = .ok (.value v') w') (h : K (a.put o.dst v') w') :
    if Region.wanted o (yielded ops a.tmps) = true then Oper.wp P o a w K Q else E := by
  have hw : Region.wanted o (yielded ops a.tmps) = true := by simp [Region.wanted, hgd]
  rw [if_pos hw]
  unfold Oper.wp
  simp [hr]
  exact h
section
variable {w w' : World} {p m1 m2 : Nat} {nb : Nat → Nat} {L P : List Nd} {last : Nat} {e : Nd}
theorem add_nil (x a b : Int) (w : World) : Calls Try.prog 9 #[.pointer none, .int .i64 x, .int .i64 a, .int .i64 b] w fun en w' => en = .returned (.tuple #[.int .i64 0, .int .i64 1]) ∧ w' = w := by
  go_enter Try.func9, Try.ntmps9
  go_wp2_with fail
  go_ret2
  exact ⟨rfl, rfl⟩
theorem add_none (h : Fo w p m1 m2 nb last L) {x : Int} (hx : I64 x) (h0 : x ≠ 0) (hn : ¬ There L x) (a b : Int) : Calls Try.prog 9 #[ptr p, .int .i64 x, .int .i64 a, .int .i64 b] w fun en w' => en = .returned (.tuple #[.int .i64 0, .int .i64 6]) ∧ w' = w := by
  have hn := hid (node_miss h hx hn)
  have hd : (x != 0) = true := by simpa using h0
  clear h h0
  go_enter Try.func9, Try.ntmps9
  go_wp2_with (go_at_call 29; refine hn.out.mono ?_; rintro en w1 ⟨rfl, rfl⟩)
  go_ret2
  exact ⟨rfl, rfl⟩
theorem Fo.not0 (h : Fo w p m1 m2 nb last L) : ¬ There L 0 := by
  rintro ⟨f, hf, e1⟩
  have := (h.wf.lo f hf).1
  omega
/-- Where Add's parent stands. -/
def Par (L : List Nd) (x : Int) (q : Nat) : Prop := x = (q : Int) ∧ (q = 0 ∨ ∃ f ∈ L, f.id = q)
theorem par_node (h : Fo w p m1 m2 nb last L) {x : Int} {q : Nat} (hp : Par L x q) : Calls Try.prog 29 #[ptr p, .int .i64 x] w fun en w' => en = .returned (pptr nb q) ∧ w' = w := by
  obtain ⟨rfl, h1⟩ := hp
  by_cases h0 : q = 0
  · subst h0
    refine (node_miss h (by unfold I64; omega) h.not0).mono ?_
    rintro en w1 ⟨rfl, rfl⟩
    exact ⟨rfl, rfl⟩
  · obtain ⟨f, hf, rfl⟩ := h1.resolve_left h0
    refine (node_hit h hf).mono ?_
    rintro en w1 ⟨rfl, rfl⟩
    exact ⟨by unfold pptr; rw [if_neg h0]; rfl, rfl⟩
/-- What an Add that can't be leaves. -/
theorem add_twice (h : Fo w p m1 m2 nb last L) {x : Int} {q : Nat} (hp : Par L x q) (he : e ∈ L) : Calls Try.prog 9 #[ptr p, .int .i64 x, .int .i64 e.sp, .int .i64 e.sl] w fun en w' => en = .returned (.tuple #[.int .i64 0, .int .i64 7]) ∧ Below w.heap.size w w' := by
  have hn := hid (par_node h hp)
  obtain ⟨l, hl⟩ := key44 (h.sane e he).1 (h.sane e he).2
  have hA := h.below ((Below.refl w.heap.size w).alloc (Nat.le_refl _) (.cells #[.int .i64 e.sp, .int .i64 e.sl] 44)) (Nat.le_refl _)
  have hr := (hA.drewN 1).owners.look_hit law44 Try.underlying62 hl (b := nb e.id) ⟨e, he, rfl, rfl⟩
  have hr : (Instr.lookup 62 (.map (some m2)) (spot e.sp e.sl) false).run Try.prog (w.alloc (.cells #[.int .i64 e.sp, .int .i64 e.sl] 44)).drew = .ok (ptr (nb e.id)) (w.alloc (.cells #[.int .i64 e.sp, .int .i64 e.sl] 44)).drew := hr
  have c1 : (w.alloc (.cells #[.int .i64 e.sp, .int .i64 e.sl] 44)).cell? ⟨p, 1, none⟩ = some (.map (some m2)) := hA.c1
  have hx := hp.1
  have hfin : Hid (Below w.heap.size w (w.alloc (.cells #[.int .i64 e.sp, .int .i64 e.sl] 44)).drew) := hid (((Below.refl _ w).alloc (Nat.le_refl _) _).drew)
  by_cases h0 : q = 0
  · have hv : pptr nb q = .pointer none := by unfold pptr; rw [if_pos h0]; rfl
    rw [hv] at hn
    obtain rfl : x = 0 := by omega
    clear h hA hl hp hv h0 hx
    generalize nb e.id = n at *
    generalize e.sp = a at *
    generalize e.sl = b at *
    go_enter Try.func9, Try.ntmps9
    go_wp2_with (go_at_call 29; refine hn.out.mono ?_; rintro en w1 ⟨rfl, ew⟩; rw [ew]; clear ew)
    go_region
    go_wp2_with fail
    go_ret2
    exact ⟨rfl, hfin.out⟩
  · have hv : pptr nb q = ptr (nb q) := by unfold pptr; rw [if_neg h0]; rfl
    rw [hv] at hn
    clear h hA hl hp hv h0 hx
    generalize nb q = nq at *
    generalize nb e.id = n at *
    generalize e.sp = a at *
    generalize e.sl = b at *
    go_enter Try.func9, Try.ntmps9
    go_wp2_with (go_at_call 29; refine hn.out.mono ?_; rintro en w1 ⟨rfl, ew⟩; rw [ew]; clear ew)
    go_region
    go_wp2_with fail
    go_ret2
    exact ⟨rfl, hfin.out⟩
/-- What Add leaves. -/
def AddPost (w : World) (p m1 m2 : Nat) (nb : Nat → Nat) (last : Nat) (L : List Nd) (q : Nat) (a b : Int) (en : Ending) (w' : World) : Prop :=
  en = .returned (.tuple #[.int .i64 ((last + 1 : Nat) : Int), .int .i64 0]) ∧ ∃ nb', (∀ i, i ≠ last + 1 → nb' i = nb i) ∧ w.heap.size ≤ nb' (last + 1) ∧ Fo w' p m1 m2 nb' (last + 1) (L ++ [⟨last + 1, q, a, b⟩]) ∧ Turn (FOwn p m1 m2 nb L) w w'
/-- The world at which the new node comes to its parent. -/
def addW (w : World) (p last : Nat) (a b : Int) : World :=
  (((w.alloc (.cells #[.int .i64 a, .int .i64 b] 44)).setCell ⟨p, 2, none⟩ (.int .i64 ((last : Int) + 1))).alloc (.cells #[.int .i64 ((last : Int) + 1), .int .i64 a, .int .i64 b, .pointer none, .pointer none, .pointer none, .pointer none, .pointer none] 66)).drew.drew
/-- Where the new node's block is. -/
def nbA (w : World) (nb : Nat → Nat) (last : Nat) (i : Nat) : Nat := if i = last + 1 then w.heap.size + 1 else nb i
theorem nbA_new (w : World) (nb : Nat → Nat) (last : Nat) : nbA w nb last (last + 1) = w.heap.size + 1 := if_pos rfl
theorem nbA_old (w : World) (nb : Nat → Nat) {last i : Nat} (h : i ≠ last + 1) : nbA w nb last i = nb i := if_neg h
theorem addW_old (w : World) (p last : Nat) (a b : Int) {k : Nat} (hk : k < w.heap.size) (hp : k ≠ p) : (addW w p last a b).heap[k]? = w.heap[k]? := by
  unfold addW
  show (World.alloc _ _).heap[k]? = _
  rw [Below.heap_alloc _ _ _ (by simp; omega), Below.heap_setCell _ _ _ _ hp, Below.heap_alloc _ _ _ hk]
theorem addW_new (w : World) (p last : Nat) (a b : Int) : (addW w p last a b).heap[w.heap.size + 1]? = some (.cells #[.int .i64 ((last : Int) + 1), .int .i64 a, .int .i64 b, .pointer none, .pointer none, .pointer none, .pointer none, .pointer none] 66) := by
  have := heap_alloc_new ((w.alloc (.cells #[.int .i64 a, .int .i64 b] 44)).setCell ⟨p, 2, none⟩ (.int .i64 ((last : Int) + 1))) (.cells #[.int .i64 ((last : Int) + 1), .int .i64 a, .int .i64 b, .pointer none, .pointer none, .pointer none, .pointer none, .pointer none] 66)
  rw [show ((w.alloc (.cells #[.int .i64 a, .int .i64 b] 44)).setCell ⟨p, 2, none⟩ (.int .i64 ((last : Int) + 1))).heap.size = w.heap.size + 1 by simp] at this
  exact this
theorem addW_own (w : World) {p : Nat} (last : Nat) (a b : Int) (hp : p < w.heap.size) : (addW w p last a b).heap[w.heap.size]? = some (.cells #[.int .i64 a, .int .i64 b] 44) := by
  unfold addW
  show (World.alloc _ _).heap[w.heap.size]? = _
  rw [Below.heap_alloc _ _ _ (by simp), Below.heap_setCell _ _ _ _ (show w.heap.size ≠ p by omega), heap_alloc_new]
theorem addW_head (h : Fo w p m1 m2 nb last L) (a b : Int) : (addW w p last a b).heap[p]? = some (.cells #[.map (some m1), .map (some m2), .int .i64 ((last + 1 : Nat) : Int)] 64) := by
  unfold addW
  show (World.alloc _ _).heap[p]? = _
  have := lt_of h.head
  rw [Below.heap_alloc _ _ _ (by simp; omega)]
  have hb : (w.alloc (.cells #[.int .i64 a, .int .i64 b] 44)).heap[p]? = some (.cells #[.map (some m1), .map (some m2), .int .i64 (last : Int)] 64) := by rw [Below.heap_alloc _ _ _ this]; exact h.head
  rw [setCell_head hb]
  rfl
theorem addW_size (w : World) (p last : Nat) (a b : Int) : (addW w p last a b).heap.size = w.heap.size + 2 := by unfold addW; show (World.alloc _ _).heap.size = _; simp
theorem addW_links (h : Fo w p m1 m2 nb last L) (a b : Int) : Links (addW w p last a b) (nbA w nb last) (L ++ [⟨last + 1, 0, a, b⟩]) := by
  have hk : ∀ i, kids (L ++ [⟨last + 1, 0, a, b⟩]) i = kids L i := by
    intro i
    rw [kids_add, if_neg (by rintro ⟨h1, h2⟩; exact h1 h2.symm), List.append_nil]
  have old : ∀ i, (∃ f ∈ L, f.id = i) → nbA w nb last i = nb i := by
    rintro i ⟨f, hf, rfl⟩
    exact nbA_old w nb (by have := (h.wf.lo f hf).2; omega)
  intro f hf
  rw [hk, hk]
  rcases List.mem_append.1 hf with hf | hf
  · refine ((h.links f hf).nb_eq (old _ ⟨f, hf, rfl⟩) (fun hp => old _ ((h.wf.par f hf).2.resolve_left hp)) (fun k hk => old _ (kids_in k hk)) (fun k hk => old _ (kids_in k hk))).other ?_
    rw [old _ ⟨f, hf, rfl⟩]
    exact addW_old w p last a b (h.links.lt hf) (h.np hf)
  · obtain rfl := List.mem_singleton.1 hf
    have hn := addW_new w p last a b
    have hkn : kids L (last + 1) = [] := by
      rw [List.eq_nil_iff_forall_not_mem]
      intro k hk
      have := h.wf.kid hk
      omega
    show NdAt _ _ _ (kids L (last + 1)) (kids L 0)
    rw [hkn, kids_zero]
    have c : ∀ j, (addW w p last a b).cell? ⟨nbA w nb last (last + 1), j, none⟩ = (#[.int .i64 ((last : Int) + 1), .int .i64 a, .int .i64 b, .pointer none, .pointer none, .pointer none, .pointer none, .pointer none] : Array Value)[j]? := fun j => by rw [nbA_new, cell_of_row _ _ j _ _ _ hn]
    refine ⟨⟨_, by show (addW w p last a b).heap[nbA w nb last (last + 1)]? = _; rw [nbA_new]; exact hn⟩, c 0, c 1, c 2, c 3, c 4, c 5, ⟨_, c 6, fun s t hst => by simp at hst⟩, ⟨_, c 7, fun _ => rfl, fun s t hst => by simp at hst⟩⟩
theorem addW_own1 (h : Fo w p m1 m2 nb last L) (a b : Int) (q : Nat) : Own1 (nbA w nb last) (L ++ [⟨last + 1, q, a, b⟩]) := by
  have old : ∀ f ∈ L, nbA w nb last f.id = nb f.id ∧ nb f.id < w.heap.size := fun f hf => ⟨nbA_old w nb (by have := (h.wf.lo f hf).2; omega), h.links.lt hf⟩
  intro f hf g hg e1
  rcases List.mem_append.1 hf with hf | hf <;> rcases List.mem_append.1 hg with hg | hg
  · rw [(old f hf).1, (old g hg).1] at e1
    exact h.own1 f hf g hg e1
  · obtain rfl := List.mem_singleton.1 hg
    rw [(old f hf).1, nbA_new] at e1
    have := (old f hf).2; omega
  · obtain rfl := List.mem_singleton.1 hf
    rw [(old g hg).1, nbA_new] at e1
    have := (old g hg).2; omega
  · rw [List.mem_singleton.1 hf, List.mem_singleton.1 hg]
theorem move_last (h : Wf L last) (q : Nat) (a b : Int) : move (L ++ [⟨last + 1, 0, a, b⟩]) ⟨last + 1, 0, a, b⟩ q = L ++ [⟨last + 1, q, a, b⟩] := by
  unfold move
  rw [List.filter_append, List.filter_cons_of_neg (by simp), List.filter_nil, List.append_nil, List.filter_eq_self.2 (fun f hf => by have := (h.lo f hf).2; simp; omega)]
theorem Fo.pair (h : Fo w p m1 m2 nb last L) {a b : Int} (hn : ∀ e ∈ L, ¬ (e.sp = a ∧ e.sl = b)) : Wf (L ++ [⟨last + 1, 0, a, b⟩]) (last + 1) := h.wf.add (.inl rfl) hn
/-- The call that links the new node. -/
theorem add_join (h : Fo w p m1 m2 nb last L) {a b : Int} (hn : ∀ e ∈ L, ¬ (e.sp = a ∧ e.sl = b)) {q : Nat} (hq : q = 0 ∨ ∃ f ∈ L, f.id = q) :
    Calls Try.prog 30 #[ptr (w.heap.size + 1), pptr nb q] (addW w p last a b) (LinkPost (addW w p last a b) (nbA w nb last) (L ++ [⟨last + 1, 0, a, b⟩]) (L ++ [⟨last + 1, q, a, b⟩])) := by
  have hlt : q < last + 1 := by
    rcases hq with rfl | ⟨f, hf, rfl⟩
    · omega
    · have := (h.wf.lo f hf).2; omega
  have hj := join_any (addW_links h a b) (h.pair hn) (addW_own1 h a b 0) (e := ⟨last + 1, 0, a, b⟩) (List.mem_append_right _ (List.mem_singleton.2 rfl)) rfl (q := q) (hq.imp id (fun ⟨f, hf, e1⟩ => ⟨f, List.mem_append_left _ hf, e1⟩)) hlt
  rw [move_last h.wf] at hj
  have e1 : pptr (nbA w nb last) q = pptr nb q := by
    unfold pptr
    split
    · rfl
    · show ptr (nbA w nb last q) = ptr (nb q)
      rw [nbA_old w nb (by omega)]
  rw [e1] at hj
  have e2 : nbA w nb last (last + 1) = w.heap.size + 1 := nbA_new w nb last
  simp only [e2] at hj
  exact hj
/-- The entries of both maps. -/
theorem add_enter (h : Fo w p m1 m2 nb last L) (hl : last + 1 < 400) {a b : Int} (ha : I64 a) (hb : I64 b) (hn : ∀ e ∈ L, ¬ (e.sp = a ∧ e.sl = b)) {q : Nat} (hq : q = 0 ∨ ∃ f ∈ L, f.id = q) {en : Ending} {W : World} (hj : LinkPost (addW w p last a b) (nbA w nb last) (L ++ [⟨last + 1, 0, a, b⟩]) (L ++ [⟨last + 1, q, a, b⟩]) en W) :
    ∃ (Wa Wb Wc Wd : World) (c d : Nat), (Instr.mapEntry 61 (.map (some m1)) (.int .i64 ((last : Int) + 1))).run Try.prog W.drew = .ok (.tuple #[.pointer none, .int .i64 (c : Int)]) Wa ∧ (Instr.entryStore 61 (.map (some m1)) (.int .i64 (c : Int)) (ptr (w.heap.size + 1))).run Try.prog Wa = .ok () Wb ∧
      (Instr.mapEntry 62 (.map (some m2)) (spot a b)).run Try.prog Wb = .ok (.tuple #[.pointer none, .int .i64 (d : Int)]) Wc ∧ (Instr.entryStore 62 (.map (some m2)) (.int .i64 (d : Int)) (ptr (w.heap.size + 1))).run Try.prog Wc = .ok () Wd ∧
      (∀ k, Wa.cell? ⟨w.heap.size, k, none⟩ = W.cell? ⟨w.heap.size, k, none⟩ ∧ Wb.cell? ⟨w.heap.size, k, none⟩ = W.cell? ⟨w.heap.size, k, none⟩) ∧ Fo Wd p m1 m2 (nbA w nb last) (last + 1) (L ++ [⟨last + 1, q, a, b⟩]) ∧ Turn (FOwn p m1 m2 nb L) w Wd := by
  obtain ⟨_, hLk, hT, hs⟩ := hj
  have hsz := addW_size w p last a b
  have own : ∀ {q} k, NOwn (nbA w nb last) (L ++ [⟨last + 1, q, a, b⟩]) k → NOwn nb L k ∨ k = w.heap.size + 1 := by
    rintro q k ⟨f, hf, rfl⟩
    rcases List.mem_append.1 hf with hf | hf
    · exact .inl ⟨f, hf, nbA_old w nb (by have := (h.wf.lo f hf).2; omega)⟩
    · rw [List.mem_singleton.1 hf]; exact .inr (nbA_new w nb last)
  have hnp : ¬ NOwn nb L p := by rintro ⟨f, hf, e2⟩; exact h.np hf e2.symm
  have hn1 : ¬ NOwn nb L m1 := by rintro ⟨f, hf, e2⟩; exact h.n1 hf e2.symm
  have hn2 : ¬ NOwn nb L m2 := by rintro ⟨f, hf, e2⟩; exact h.n2 hf e2.symm
  have l1 := h.nodes.lt
  have l2 := h.owners.lt
  have lp := lt_of h.head
  have wp : W.heap[p]? = (addW w p last a b).heap[p]? := hT.block p (by omega) (fun hk => (own _ hk).elim hnp (by omega))
  have w1 : W.heap[m1]? = w.heap[m1]? := (hT.block m1 (by omega) (fun hk => (own _ hk).elim hn1 (by omega))).trans (addW_old w p last a b l1 h.p1.symm)
  have w2 : W.heap[m2]? = w.heap[m2]? := (hT.block m2 (by omega) (fun hk => (own _ hk).elim hn2 (by omega))).trans (addW_old w p last a b l2 h.p2.symm)
  have k3 : I64 ((last : Int) + 1) := by unfold I64; omega
  obtain ⟨l, hl44⟩ := key44 ha hb
  obtain ⟨o1, o2, c, r1, r2, r3⟩ := ((h.nodes.other w1).drewN 1).enter law3 Try.underlying61 zero59 (key3 k3) (fun b2 hb2 => by
    obtain ⟨f, hf, e1, _⟩ := hb2
    have := (h.wf.lo f hf).2
    have e2 : (last : Int) + 1 = (f.id : Int) := by simpa using e1
    omega) (w.heap.size + 1)
  have s1 : W.heap.size = w.heap.size + 2 := hs.trans hsz
  have q1 := r2 (putB W.drew m1 o1) (putB_same o1 (by show m1 < W.heap.size; omega))
  have hm2b : Mp Try.prog 44 (putB (putB W.drew m1 o1) m1 o2) m2 (OwnF nb L) L.length := (h.owners.other w2).other ((putB_other _ _ h.mm.symm).trans (putB_other _ _ h.mm.symm))
  obtain ⟨o3, o4, d, t1, t2, t3⟩ := hm2b.enter law44 Try.underlying62 zero59 hl44 (fun b2 hb2 => by
    obtain ⟨f, hf, e1, _⟩ := hb2
    have e2 : a = f.sp ∧ b = f.sl := by simpa using e1
    exact hn f hf ⟨e2.1.symm, e2.2.symm⟩) (w.heap.size + 1)
  have szb : (putB (putB W.drew m1 o1) m1 o2).heap.size = w.heap.size + 2 := by rw [putB_size, putB_size]; exact s1
  have q2 := t2 (putB (putB (putB W.drew m1 o1) m1 o2) m2 o3) (putB_same o3 (by omega))
  have old : ∀ k, k ≠ m1 → k ≠ m2 → (putB (putB (putB (putB W.drew m1 o1) m1 o2) m2 o3) m2 o4).heap[k]? = W.heap[k]? := fun k h1 h2 => by
    rw [putB_other _ _ h2, putB_other _ _ h2, putB_other _ _ h1, putB_other _ _ h1]; rfl
  have o1' : (putB W.drew m1 o1).heap[w.heap.size]? = W.heap[w.heap.size]? := putB_other W.drew o1 (by omega)
  have o2' : (putB (putB W.drew m1 o1) m1 o2).heap[w.heap.size]? = W.heap[w.heap.size]? := (putB_other _ _ (by omega)).trans o1'
  refine ⟨_, _, _, _, c, d, r1, q1, t1, q2, fun k => ⟨World.cell?_of_block (a := ⟨w.heap.size, k, none⟩) o1', World.cell?_of_block (a := ⟨w.heap.size, k, none⟩) o2'⟩, ⟨?_, ?_, ?_, ?_, addW_own1 h a b q, h.wf.add hq hn, h.mm, fun f hf => ?_, hl⟩, ?_⟩
  · rw [old p h.p1 h.p2, wp]
    exact addW_head h a b
  · rw [List.length_append]
    refine (r3 _ ?_).congr (fun v x => ⟨?_, ?_⟩)
    · rw [putB_other _ _ h.mm, putB_other _ _ h.mm]
      exact putB_same o2 (by rw [putB_size]; show m1 < W.heap.size; omega)
    · rintro (⟨f, hf, rfl, rfl⟩ | ⟨rfl, rfl⟩)
      · exact ⟨f, List.mem_append_left _ hf, rfl, (nbA_old w nb (by have := (h.wf.lo f hf).2; omega)).symm⟩
      · exact ⟨⟨last + 1, q, a, b⟩, List.mem_append_right _ (List.mem_singleton.2 rfl), by simp, (nbA_new w nb last).symm⟩
    · rintro ⟨f, hf, rfl, rfl⟩
      rcases List.mem_append.1 hf with hf | hf
      · exact .inl ⟨f, hf, rfl, nbA_old w nb (by have := (h.wf.lo f hf).2; omega)⟩
      · rw [List.mem_singleton.1 hf]
        exact .inr ⟨by simp, nbA_new w nb last⟩
  · rw [List.length_append]
    refine (t3 _ (putB_same o4 (by rw [putB_size]; omega))).congr (fun v x => ⟨?_, ?_⟩)
    · rintro (⟨f, hf, rfl, rfl⟩ | ⟨rfl, rfl⟩)
      · exact ⟨f, List.mem_append_left _ hf, rfl, (nbA_old w nb (by have := (h.wf.lo f hf).2; omega)).symm⟩
      · exact ⟨⟨last + 1, q, a, b⟩, List.mem_append_right _ (List.mem_singleton.2 rfl), rfl, (nbA_new w nb last).symm⟩
    · rintro ⟨f, hf, rfl, rfl⟩
      rcases List.mem_append.1 hf with hf | hf
      · exact .inl ⟨f, hf, rfl, nbA_old w nb (by have := (h.wf.lo f hf).2; omega)⟩
      · rw [List.mem_singleton.1 hf]
        exact .inr ⟨rfl, nbA_new w nb last⟩
  · refine hLk.other (fun f hf => old _ ?_ ?_)
    · intro e1
      rcases own _ ⟨f, hf, rfl⟩ with h1 | h1
      · rw [e1] at h1; exact hn1 h1
      · omega
    · intro e1
      rcases own _ ⟨f, hf, rfl⟩ with h1 | h1
      · rw [e1] at h1; exact hn2 h1
      · omega
  · rcases List.mem_append.1 hf with hf | hf
    · exact h.sane f hf
    · rw [List.mem_singleton.1 hf]; exact ⟨ha, hb⟩
  · refine ⟨hT.os, hT.tape, hT.output, by rw [putB_size, putB_size, szb]; omega, fun k hk hn' => ?_⟩
    have k1 : k ≠ m1 := fun e1 => hn' (.inr (.inl e1))
    have k2 : k ≠ m2 := fun e1 => hn' (.inr (.inr (.inl e1)))
    have kp : k ≠ p := fun e1 => hn' (.inl e1)
    rw [old k k1 k2, hT.block k (by omega) (fun hk2 => (own _ hk2).elim (fun h1 => hn' (.inr (.inr (.inr h1)))) (by omega)), addW_old w p last a b hk kp]
/-- What is read of the new node behind its links. -/
theorem add_cells (h : Fo w p m1 m2 nb last L) {a b : Int} {q : Nat} {en : Ending} {W : World} (hj : LinkPost (addW w p last a b) (nbA w nb last) (L ++ [⟨last + 1, 0, a, b⟩]) (L ++ [⟨last + 1, q, a, b⟩]) en W) :
    W.cell? ⟨p, 0, none⟩ = some (.map (some m1)) ∧ W.cell? ⟨p, 1, none⟩ = some (.map (some m2)) ∧ W.cell? ⟨w.heap.size + 1, 0, none⟩ = some (.int .i64 ((last : Int) + 1)) ∧ W.cell? ⟨w.heap.size, 0, none⟩ = some (.int .i64 a) ∧ W.cell? ⟨w.heap.size, 1, none⟩ = some (.int .i64 b) := by
  obtain ⟨_, hLk, hT, hs⟩ := hj
  have hsz := addW_size w p last a b
  have own : ∀ k, NOwn (nbA w nb last) (L ++ [⟨last + 1, 0, a, b⟩]) k → NOwn nb L k ∨ k = w.heap.size + 1 := by
    rintro k ⟨f, hf, rfl⟩
    rcases List.mem_append.1 hf with hf | hf
    · exact .inl ⟨f, hf, nbA_old w nb (by have := (h.wf.lo f hf).2; omega)⟩
    · rw [List.mem_singleton.1 hf]; exact .inr (nbA_new w nb last)
  have lp := lt_of h.head
  have wp : W.heap[p]? = (addW w p last a b).heap[p]? := hT.block p (by omega) (fun hk => (own _ hk).elim (by rintro ⟨f, hf, e2⟩; exact h.np hf e2.symm) (by omega))
  have wo : W.heap[w.heap.size]? = (addW w p last a b).heap[w.heap.size]? := hT.block _ (by omega) (fun hk => (own _ hk).elim (by rintro ⟨f, hf, e2⟩; have := h.links.lt hf; omega) (by omega))
  have hh := wp.trans (addW_head h a b)
  have ho := wo.trans (addW_own w last a b lp)
  have hn := (hLk ⟨last + 1, q, a, b⟩ (List.mem_append_right _ (List.mem_singleton.2 rfl))).c0
  refine ⟨by rw [cell_of_row _ _ _ _ _ _ hh]; rfl, by rw [cell_of_row _ _ _ _ _ _ hh]; rfl, ?_, by rw [cell_of_row _ _ _ _ _ _ ho]; rfl, by rw [cell_of_row _ _ _ _ _ _ ho]; rfl⟩
  have e2 : nbA w nb last (last + 1) = w.heap.size + 1 := nbA_new w nb last
  simp only [e2] at hn
  exact hn
set_option maxRecDepth 100000 in
set_option maxHeartbeats 1000000 in
theorem add_ok (h : Fo w p m1 m2 nb last L) (hl : last + 1 < 400) {x : Int} {q : Nat} (hp : Par L x q) {a b : Int} (ha : I64 a) (hb : I64 b) (hn : ∀ e ∈ L, ¬ (e.sp = a ∧ e.sl = b)) : Calls Try.prog 9 #[ptr p, .int .i64 x, .int .i64 a, .int .i64 b] w (AddPost w p m1 m2 nb last L q a b) := by
  have hn9 := hid (par_node h hp)
  obtain ⟨l, hl44⟩ := key44 ha hb
  have hA := h.below ((Below.refl w.heap.size w).alloc (Nat.le_refl _) (.cells #[.int .i64 a, .int .i64 b] 44)) (Nat.le_refl _)
  have hr := (hA.drewN 1).owners.look_miss law44 Try.underlying62 zero59 hl44 (fun b2 hb2 => by
    obtain ⟨e, he, e1, _⟩ := hb2
    simp at e1
    exact hn e he ⟨e1.1.symm, e1.2.symm⟩)
  have hr : (Instr.lookup 62 (.map (some m2)) (spot a b) false).run Try.prog (w.alloc (.cells #[.int .i64 a, .int .i64 b] 44)).drew = .ok (.pointer none) (w.alloc (.cells #[.int .i64 a, .int .i64 b] 44)).drew := hr
  have c1 : (w.alloc (.cells #[.int .i64 a, .int .i64 b] 44)).cell? ⟨p, 1, none⟩ = some (.map (some m2)) := hA.c1
  have c2 : (w.alloc (.cells #[.int .i64 a, .int .i64 b] 44)).cell? ⟨p, 2, none⟩ = some (.int .i64 (last : Int)) := hA.c2
  have f2 : (w.alloc (.cells #[.int .i64 a, .int .i64 b] 44)).frozen? ⟨p, 2, none⟩ = false := frozen_of_row _ p 2 _ _ hA.head
  have hpl : p ≠ w.heap.size := by have := lt_of h.head; omega
  have hl0 : (0 : Int) ≤ (last : Int) := by omega
  have hl1 : (last : Int) < 400 := by omega
  have hx := hp.1
  have HJ := hid (add_join h hn hp.2)
  have HE := hid (fun en W hW => add_enter h hl ha hb hn hp.2 (en := en) (W := W) hW)
  have HC := hid (fun en W hW => add_cells h (en := en) (W := W) (a := a) (b := b) (q := q) hW)
  have HX : Hid (∀ Wd, Fo Wd p m1 m2 (nbA w nb last) (last + 1) (L ++ [⟨last + 1, q, a, b⟩]) → Wd.cell? ⟨w.heap.size + 1, 0, none⟩ = some (.int .i64 ((last : Int) + 1))) := hid (fun Wd hF => by
    have hn := (hF.links ⟨last + 1, q, a, b⟩ (List.mem_append_right _ (List.mem_singleton.2 rfl))).c0
    have e2 : nbA w nb last (last + 1) = w.heap.size + 1 := nbA_new w nb last
    simp only [e2] at hn
    exact hn)
  by_cases h0 : q = 0
  · have hv : pptr nb q = .pointer none := by unfold pptr; rw [if_pos h0]; rfl
    rw [hv] at hn9 HJ
    obtain rfl : x = 0 := by omega
    clear hA hl44 hv h0 hx h hn hp ha hb
    go_enter Try.func9, Try.ntmps9
    go_wp2_with (go_at_call 29; refine hn9.out.mono ?_; rintro en w1 ⟨rfl, ew⟩; rw [ew]; clear ew)
    go_region
    go_wp2_with fail
    go_region
    go_wp2_with (go_at_call 30; refine HJ.out.mono ?_; intro en W hW; obtain ⟨Wa, Wb, Wc, Wd, c, d, r1, r2, r3, r4, hzz, hFo, hT⟩ := HE.out en W hW; obtain ⟨z1, z2, z3, z4, z5⟩ := HC.out en W hW; have za0 := (hzz 0).1.trans z4; have za1 := (hzz 1).1.trans z5; have zb0 := (hzz 0).2.trans z4; have zb1 := (hzz 1).2.trans z5; clear hzz; have z6 := HX.out Wd hFo; have HF := hid (And.intro hFo hT); obtain ⟨rfl, _⟩ := hW; clear hFo hT hr c1 c2 f2)
    go_region
    go_wp2_with fail
    go_ret2
    exact ⟨rfl, _, fun i hi => nbA_old w nb hi, by rw [nbA_new]; omega, HF.out⟩
  · have hv : pptr nb q = ptr (nb q) := by unfold pptr; rw [if_neg h0]; rfl
    rw [hv] at hn9 HJ
    generalize nb q = nq at *
    clear hA hl44 hv h0 hx h hn hp ha hb
    go_enter Try.func9, Try.ntmps9
    go_wp2_with (go_at_call 29; refine hn9.out.mono ?_; rintro en w1 ⟨rfl, ew⟩; rw [ew]; clear ew)
    go_region
    go_wp2_with fail
    go_region
    go_wp2_with (go_at_call 30; refine HJ.out.mono ?_; intro en W hW; obtain ⟨Wa, Wb, Wc, Wd, c, d, r1, r2, r3, r4, hzz, hFo, hT⟩ := HE.out en W hW; obtain ⟨z1, z2, z3, z4, z5⟩ := HC.out en W hW; have za0 := (hzz 0).1.trans z4; have za1 := (hzz 1).1.trans z5; have zb0 := (hzz 0).2.trans z4; have zb1 := (hzz 1).2.trans z5; clear hzz; have z6 := HX.out Wd hFo; have HF := hid (And.intro hFo hT); obtain ⟨rfl, _⟩ := hW; clear hFo hT hr c1 c2 f2)
    go_region
    go_wp2_with fail
    go_ret2
    exact ⟨rfl, _, fun i hi => nbA_old w nb hi, by rw [nbA_new]; omega, HF.out⟩
end
end Go.Proofs.Ytiechmcfafhfaaa
