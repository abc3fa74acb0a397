/- Contracts of numbers, Owner, Parent, Kids and Below. -/
import Derived.Test.YtiechmcfafhfaaaH
namespace Go.Proofs.Ytiechmcfafhfaaa
open Go.RowKit Go.Maps Go.Shelf

theorem info3 : (Try.prog.info? 3).map (fun i => (i.zero, i.size, i.bytes)) = some (some (.int .i64 0), 1, 8) := by kernel_rfl
def nums (l : List Int) : List Value := l.map fun x => .int .i64 x
theorem nums_at {l : List Int} {k : Nat} {x : Int} (h : l[k]? = some x) : (nums l)[k]? = some (.int .i64 x) := by unfold nums; rw [List.getElem?_map, h]; rfl
theorem nums_append (l m : List Int) : nums (l ++ m) = nums l ++ nums m := by unfold nums; rw [List.map_append]
theorem nums_len (l : List Int) : (nums l).length = l.length := by unfold nums; rw [List.length_map]
/-- Numbers of nodes, as Go has them. -/
abbrev zs (l : List Nat) : List Int := l.map fun i : Nat => (i : Int)
/-- One number more. -/
theorem num_append {w : World} {base : Nat} {v : Value} {xs : List Int} (h : OR w base 1 v xs.length (nums xs)) (hn : xs.length ≤ 1000000) (hb : base ≤ w.heap.size) (x : Int) (H : Nat) (hH : w.heap.size = H) :
    ∃ a cap w', (Builtin.append_ #[34, 34] 34 #[v, .slice (some ⟨H, 0, none⟩) 1 1]).run Try.prog (w.alloc (.cells #[.int .i64 x] 3)) = .ok (.slice a (xs.length + 1) cap) w' ∧
      OR w' base 1 (.slice a (xs.length + 1) cap) (xs ++ [x]).length (nums (xs ++ [x])) ∧ Below base w w' ∧ (∀ k, k < w.heap.size → v.ownBlock ≠ some k → w'.heap[k]? = w.heap[k]?) ∧
      ∀ k, (Value.slice a (xs.length + 1) cap).ownBlock = some k → v.ownBlock = some k ∨ w.heap.size ≤ k := by
  subst hH
  obtain ⟨i0, hi, hz0, hz1, hz2⟩ := info_parts info3
  have hA : (w.alloc (.cells #[.int .i64 x] 3)).heap[w.heap.size]? = some (.cells #[.int .i64 x] 3) := heap_alloc_new _ _
  obtain ⟨v', w', hr, ho, hg, hob⟩ := OR.append (P := Try.prog) 34 34 3 i0 _ 1 8 Try.underlying34 hi hz0 hz1 hz2 rfl (by decide) (h.alloc (.cells #[.int .i64 x] 3)) ⟨w.heap.size, 0, none⟩ 1 1
    [.int .i64 x] rfl (fun j u hj => by
      rw [addr_add, Nat.zero_add, cell_of_row _ _ _ _ _ _ hA, ← hj]
      match j, hj with
      | 0, _ => rfl) (fun u hu => by simp at hu; subst hu; rfl) (by unfold maxLen; omega) (by omega) (by simp; omega)
  obtain ⟨a, cap, rfl, _⟩ := ho.slice
  refine ⟨a, cap, w', hr, ?_, ((Below.refl base w).alloc hb _).grown hg (by simp; omega) (fun k e => (h.own k e).1), fun k hk hne => ?_, fun k e => ?_⟩
  · rw [nums_append, List.length_append]
    exact ho
  · exact (hg.block k (by simp; omega) (fun e => hne e.symm)).trans (Below.heap_alloc _ _ _ hk)
  · rcases hob with e1 | ⟨g, e1, e2⟩
    · exact .inl (e1.symm.trans e)
    · rw [e1] at e
      obtain rfl : g = k := by simpa using e
      exact .inr (by simp at e2; omega)
/-- A row of numbers is answered. -/
def NumPost (w : World) (l : List Int) (en : Ending) (w' : World) : Prop := ∃ a cap, en = .returned (.slice a l.length cap) ∧ OR w' w.heap.size 1 (.slice a l.length cap) l.length (nums l) ∧ Below w.heap.size w w'
section
variable {w w' : World} {p m1 m2 : Nat} {nb : Nat → Nat} {L : List Nd} {last : Nat} {e : Nd}
theorem NumPost.from {w0 w1 : World} {l : List Int} {en : Ending} (h : NumPost w1 l en w') (hb : Below w0.heap.size w0 w1) : NumPost w0 l en w' := by
  obtain ⟨a, cap, rfl, ho, hb2⟩ := h
  refine ⟨a, cap, rfl, ?_, hb.trans (hb2.mono hb.size)⟩
  refine ⟨ho.len, ?_⟩
  rcases ho.form with h1 | ⟨g, off, c, e1, e2, r⟩
  · exact .inl h1
  · exact .inr ⟨g, off, c, e1, Nat.le_trans hb.size e2, r⟩
set_option maxRecDepth 100000 in
set_option maxHeartbeats 1000000 in
theorem numbers_any {base : Nat} {l : List Nat} {a : Option Addr} {cap : Nat} (hO : OR w base 1 (.slice a l.length cap) l.length (prow nb l)) (hl : l.length ≤ 400) (hn : ∀ x ∈ l, w.cell? ⟨nb x, 0, none⟩ = some (.int .i64 (x : Int)) ∧ nb x < w.heap.size) :
    Calls Try.prog 35 #[.slice a l.length cap] w (NumPost w (zs l)) := by
  have HO := hid hO
  have HN := hid hn
  clear hO hn
  go_enter Try.func35, Try.ntmps35
  go_wp2_with fail
  go_loopw [3, 8] (fun u c wr => ∃ k : Nat, k ≤ l.length ∧ c = .int .i64 (k : Int) ∧ ∃ a2 cap2, u = .slice a2 (zs (l.take k)).length cap2 ∧ Hid (Below w.heap.size w wr ∧ OR wr w.heap.size 1 (.slice a2 (zs (l.take k)).length cap2) (zs (l.take k)).length (nums (zs (l.take k))))) (fun _ c _ => l.length - (intOf c).toNat)
  case atStart => exact ⟨0, Nat.zero_le _, rfl, none, 0, rfl, Below.refl _ _, OR.nil _ _ _⟩
  case round =>
    obtain ⟨k, hk, rfl, a2, cap2, rfl, hS⟩ := hrel
    by_cases hlt : k < l.length
    · have hk2 := List.getElem?_eq_getElem hlt
      obtain ⟨g, off, rfl, _, cx⟩ := (HO.out.below hS.out.1 (Nat.le_refl _)).at (prow_at (nb := nb) hk2)
      obtain ⟨h0, hlt2⟩ := HN.out l[k] (List.getElem_mem hlt)
      have h0r : wr.cell? ⟨nb l[k], 0, none⟩ = some (.int .i64 ((l[k] : Nat) : Int)) := by
        rw [World.cell?_of_block (a := ⟨nb l[k], 0, none⟩) (hS.out.1.block _ hlt2)]
        exact h0
      have e2 : zs (l.take (k + 1)) = zs (l.take k) ++ [((l[k] : Nat) : Int)] := by unfold zs; rw [List.take_add_one, hk2, List.map_append]; rfl
      obtain ⟨a3, cap3, w3, hr, ho3, hb3, _⟩ := num_append hS.out.2 (by rw [List.length_map, List.length_take]; omega) hS.out.1.size ((l[k] : Nat) : Int) wr.heap.size rfl
      rw [← e2] at ho3
      have e3 : (zs (l.take (k + 1))).length = (zs (l.take k)).length + 1 := by rw [e2]; simp
      have H3 := hid (And.intro (hS.out.1.trans hb3) ho3)
      rw [e3] at H3
      have HE := hid e3
      clear hk2 h0 hlt2 e2 e3 hS ho3 hb3
      generalize l[k] = x at *
      generalize (zs (l.take k)).length = nk at *
      have hk0 : (0 : Int) ≤ (k : Int) := by omega
      have hk1 : (k : Int) < (l.length : Int) := by omega
      go_wp2_with (at_builtin; refine wpList_append_run rfl _ _ 34 34 rfl _ _ _ rfl rfl hr ?_)
      refine ⟨⟨k + 1, by omega, by go_num, a3, cap3, by rw [HE.out], by rw [HE.out]; exact H3⟩, by simp [intOf]; omega⟩
    · obtain rfl : k = l.length := by omega
      rw [List.take_length] at hS ⊢
      go_wp2_with fail
      go_ret
      exact ⟨_, _, rfl, hS.out.2, hS.out.1⟩
theorem prow_ids (h : Fo w p m1 m2 nb last L) {l : List Nat} (hl : ∀ x ∈ l, ∃ f ∈ L, f.id = x) : ∀ x ∈ l, w.cell? ⟨nb x, 0, none⟩ = some (.int .i64 (x : Int)) ∧ nb x < w.heap.size := by
  intro x hx
  obtain ⟨f, hf, rfl⟩ := hl x hx
  exact ⟨(h.links f hf).c0, h.links.lt hf⟩
theorem kids_in {q : Nat} : ∀ x ∈ kids L q, ∃ f ∈ L, f.id = x := fun x hx => by
  obtain ⟨_, f, hf, e1, _⟩ := mem_kids.1 hx
  exact ⟨f, hf, e1⟩
/-- Kids. -/
theorem fkids_hit (h : Fo w p m1 m2 nb last L) (he : e ∈ L) : Calls Try.prog 15 #[ptr p, .int .i64 (e.id : Int)] w (NumPost w (zs (kids L e.id))) := by
  have HF := hid h
  have hk := hid (kids_any h.links h.wf h.few he)
  have hn := hid (node_hit h he)
  have hkl : (kids L e.id).length ≤ 400 := by have := h.wf.kids_len e.id; have := h.len; omega
  have HI := hid (kids_in (L := L) (q := e.id))
  clear h he
  generalize kids L e.id = l at *
  generalize nb e.id = n at *
  generalize ((e.id : Nat) : Int) = x at *
  go_enter Try.func15, Try.ntmps15
  go_wp2_with (first
    | (go_at_call 29; refine hn.out.mono ?_; rintro en w1 ⟨rfl, rfl⟩)
    | (go_at_call 32; refine hk.out.mono ?_; rintro en w2 ⟨a, cap, rfl, ho, hb⟩; have HB := hid hb; have HO := hid ho; clear ho hb)
    | (go_at_call 35; refine (numbers_any HO.out hkl (prow_ids (HF.out.below HB.out (Nat.le_refl _)) HI.out)).mono ?_; intro en w3 h3; have H3 := hid (h3.from HB.out); obtain ⟨a3, cap3, rfl, _⟩ := h3))
  go_ret
  have e : (zs l).length = l.length := by simp
  rw [e] at H3
  exact H3.out
theorem fkids_miss (h : Fo w p m1 m2 nb last L) {x : Int} (hx : I64 x) (hn : ¬ There L x) : Calls Try.prog 15 #[ptr p, .int .i64 x] w (NumPost w []) := by
  have hn := hid (node_miss h hx hn)
  clear h
  go_enter Try.func15, Try.ntmps15
  go_wp2_with (go_at_call 29; refine hn.out.mono ?_; rintro en w1 ⟨rfl, rfl⟩)
  go_ret
  exact ⟨none, 0, rfl, OR.nil _ _ _, Below.refl _ _⟩
theorem fkids_nil (x : Int) (w : World) : Calls Try.prog 15 #[.pointer none, .int .i64 x] w (NumPost w []) := by
  go_enter Try.func15, Try.ntmps15
  go_wp2_with (go_at_call 29; refine (node_nil _ _).mono ?_; rintro en w1 ⟨rfl, rfl⟩)
  go_ret
  exact ⟨none, 0, rfl, OR.nil _ _ _, Below.refl _ _⟩
/-- Below. -/
theorem fbelow_hit (h : Fo w p m1 m2 nb last L) (he : e ∈ L) : Calls Try.prog 16 #[ptr p, .int .i64 (e.id : Int)] w (NumPost w (zs (below L e.id))) := by
  have HF := hid h
  have hk := hid (below_any h.links h.wf h.few he)
  have hn := hid (node_hit h he)
  have hkl : (below L e.id).length ≤ 400 := by have := h.wf.below_len e.id; have := h.len; omega
  have HI := hid (show ∀ x ∈ below L e.id, ∃ f ∈ L, f.id = x from fun x hx => (h.wf.below_in hx).2.2)
  clear h he
  generalize below L e.id = l at *
  generalize nb e.id = n at *
  generalize ((e.id : Nat) : Int) = x at *
  go_enter Try.func16, Try.ntmps16
  go_wp2_with (first
    | (go_at_call 29; refine hn.out.mono ?_; rintro en w1 ⟨rfl, rfl⟩)
    | (go_at_call 36; refine hk.out.mono ?_; rintro en w2 ⟨a, cap, rfl, ho, hb⟩; have HB := hid hb; have HO := hid ho; clear ho hb)
    | (go_at_call 35; refine (numbers_any HO.out hkl (prow_ids (HF.out.below HB.out (Nat.le_refl _)) HI.out)).mono ?_; intro en w3 h3; have H3 := hid (h3.from HB.out); obtain ⟨a3, cap3, rfl, _⟩ := h3))
  go_ret
  have e : (zs l).length = l.length := by simp
  rw [e] at H3
  exact H3.out
theorem fbelow_miss (h : Fo w p m1 m2 nb last L) {x : Int} (hx : I64 x) (hn : ¬ There L x) : Calls Try.prog 16 #[ptr p, .int .i64 x] w (NumPost w []) := by
  have hn := hid (node_miss h hx hn)
  clear h
  go_enter Try.func16, Try.ntmps16
  go_wp2_with (go_at_call 29; refine hn.out.mono ?_; rintro en w1 ⟨rfl, rfl⟩)
  go_ret
  exact ⟨none, 0, rfl, OR.nil _ _ _, Below.refl _ _⟩
theorem fbelow_nil (x : Int) (w : World) : Calls Try.prog 16 #[.pointer none, .int .i64 x] w (NumPost w []) := by
  go_enter Try.func16, Try.ntmps16
  go_wp2_with (go_at_call 29; refine (node_nil _ _).mono ?_; rintro en w1 ⟨rfl, rfl⟩)
  go_ret
  exact ⟨none, 0, rfl, OR.nil _ _ _, Below.refl _ _⟩
/-- Parent. -/
theorem parent_hit (h : Fo w p m1 m2 nb last L) (he : e ∈ L) : Calls Try.prog 13 #[ptr p, .int .i64 (e.id : Int)] w fun en w' => en = .returned (.int .i64 (e.par : Int)) ∧ w' = w := by
  have hn := hid (node_hit h he)
  have h3 := (h.links e he).c3
  have h34 : Hid (Calls Try.prog 34 #[optr nb (if e.par = 0 then none else some e.par)] w fun en w' => en = .returned (.int .i64 (e.par : Int)) ∧ w' = w) := by
    by_cases h0 : e.par = 0
    · rw [if_pos h0, h0]
      exact hid (number_nil w)
    · rw [if_neg h0]
      obtain ⟨f, hf, e1⟩ := (h.wf.par e he).2.resolve_left h0
      have := (h.links f hf).c0
      rw [e1] at this
      exact hid (number_at w _ _ this)
  clear h he
  generalize optr nb (if e.par = 0 then none else some e.par) = v at *
  generalize ((e.par : Nat) : Int) = q at *
  generalize nb e.id = n at *
  generalize ((e.id : Nat) : Int) = x at *
  go_enter Try.func13, Try.ntmps13
  go_wp2_with (first
    | (go_at_call 29; refine hn.out.mono ?_; rintro en w1 ⟨rfl, rfl⟩)
    | (go_at_call 34; refine h34.out.mono ?_; rintro en w2 ⟨rfl, rfl⟩))
  go_ret
  exact ⟨rfl, rfl⟩
theorem parent_miss (h : Fo w p m1 m2 nb last L) {x : Int} (hx : I64 x) (hn : ¬ There L x) : Calls Try.prog 13 #[ptr p, .int .i64 x] w fun en w' => en = .returned (.int .i64 0) ∧ w' = w := by
  have hn := hid (node_miss h hx hn)
  clear h
  go_enter Try.func13, Try.ntmps13
  go_wp2_with (go_at_call 29; refine hn.out.mono ?_; rintro en w1 ⟨rfl, rfl⟩)
  go_ret
  exact ⟨rfl, rfl⟩
theorem parent_nil (x : Int) (w : World) : Calls Try.prog 13 #[.pointer none, .int .i64 x] w fun en w' => en = .returned (.int .i64 0) ∧ w' = w := by
  go_enter Try.func13, Try.ntmps13
  go_wp2_with (go_at_call 29; refine (node_nil _ _).mono ?_; rintro en w1 ⟨rfl, rfl⟩)
  go_ret
  exact ⟨rfl, rfl⟩
/-- Owner. -/
theorem owner_hit (h : Fo w p m1 m2 nb last L) (he : e ∈ L) : Calls Try.prog 10 #[ptr p, .int .i64 (e.id : Int)] w fun en w' => en = .returned (.tuple #[.int .i64 e.sp, .int .i64 e.sl, .bool true]) ∧ ∃ k, w' = w.drewN k := by
  have hn := hid (node_hit h he)
  have h1 := (h.links e he).c1
  have h2 := (h.links e he).c2
  clear h he
  generalize nb e.id = n at *
  generalize ((e.id : Nat) : Int) = x at *
  go_enter Try.func10, Try.ntmps10
  go_wp2_with (go_at_call 29; refine hn.out.mono ?_; rintro en w1 ⟨rfl, rfl⟩)
  go_quiet (fail)
  go_wp2_with fail
  go_ret3
  exact ⟨rfl, _, rfl⟩
theorem owner_miss (h : Fo w p m1 m2 nb last L) {x : Int} (hx : I64 x) (hn : ¬ There L x) : Calls Try.prog 10 #[ptr p, .int .i64 x] w fun en w' => en = .returned (.tuple #[.int .i64 0, .int .i64 0, .bool false]) ∧ w' = w := by
  have hn := hid (node_miss h hx hn)
  clear h
  go_enter Try.func10, Try.ntmps10
  go_wp2_with (go_at_call 29; refine hn.out.mono ?_; rintro en w1 ⟨rfl, rfl⟩)
  go_ret3
  exact ⟨rfl, rfl⟩
theorem owner_nil (x : Int) (w : World) : Calls Try.prog 10 #[.pointer none, .int .i64 x] w fun en w' => en = .returned (.tuple #[.int .i64 0, .int .i64 0, .bool false]) ∧ w' = w := by
  go_enter Try.func10, Try.ntmps10
  go_wp2_with (go_at_call 29; refine (node_nil _ _).mono ?_; rintro en w1 ⟨rfl, rfl⟩)
  go_ret3
  exact ⟨rfl, rfl⟩
end
end Go.Proofs.Ytiechmcfafhfaaa
