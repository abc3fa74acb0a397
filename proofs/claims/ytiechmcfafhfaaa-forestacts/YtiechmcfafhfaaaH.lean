/- A forest in memory; how its nodes are found; the contract of numbers. -/
import Derived.Test.YtiechmcfafhfaaaG
import Derived.DeepKeys4
import Derived.WideKeyArgs
import Derived.Maps.OwnOps
namespace Go.Proofs.Ytiechmcfafhfaaa
open Go.RowKit Go.Maps Go.Shelf

theorem laidOut : laidOutB Try.prog = true := by kernel_rfl
theorem row44 : (44 : TypeId) < Try.prog.types.size := of_decide_eq_true (by kernel_rfl)
theorem wide44 : (match Try.prog.underlying 44 with | some (.array _ _) | some (.struct _) => true | _ => false) = true := by kernel_rfl
theorem law44 : Keyed Try.prog 44 := Keyed.of_law (deep_law_laid laidOut (m := 2) (by omega) row44 (by kernel_rfl) wide44)
theorem law3 : Keyed Try.prog 3 := int_keyed Try.underlying3
theorem zero59 (w : World) : (zeroValue 59).run Try.prog w = .ok (.pointer none) w := by kernel_rfl
/-- Numbers that Go's int has. -/
def I64 (x : Int) : Prop := -9223372036854775808 ≤ x ∧ x < 9223372036854775808
theorem wf_of {x : Int} (h : I64 x) : (Lit.int .i64 x).wf = true := by
  unfold I64 at h
  exact WalkArith.wf_i64 ⟨h.1, by omega⟩
theorem key3 {x : Int} (h : I64 x) : keyOf Try.prog 3 (.int .i64 x) = some (.int .i64 x) := keyOf_int_mk Try.underlying3 (wf_of h)
/-- An owner's value. -/
abbrev spot (a b : Int) : Value := .agg #[.int .i64 a, .int .i64 b]
theorem key44 {a b : Int} (ha : I64 a) (hb : I64 b) : ∃ l, keyOf Try.prog 44 (spot a b) = some l := by
  have h1 := wf_of ha
  have h2 := wf_of hb
  obtain ⟨d, hd⟩ : ∃ d, Try.prog.types.size = d + 1 := ⟨Try.prog.types.size - 1, by have h44 : (44 : Nat) < Try.prog.types.size := row44; omega⟩
  have hk : Try.prog.keyType 44 = true := by kernel_rfl
  have hc : Try.prog.cellsOf 44 = 2 := by kernel_rfl
  have hc3 : Try.prog.cellsOf 3 = 1 := by kernel_rfl
  have hf : (spot a b).formed Try.prog 44 = true := by simp [Value.formed, Try.underlying44, hc]
  have e3 : ∀ x : Int, (Lit.int .i64 x).wf = true → Try.prog.keyLits (d + 1) 3 [.int .i64 x] = some [.int .i64 x] := fun x hx => by simp only [Program.keyLits, Try.underlying3]; simp [hx]
  refine ⟨.string (keyBytes [.int .i64 a, .int .i64 b]), ?_⟩
  simp only [keyOf, Try.underlying44, hk, hf, hd, Bool.and_self, if_true, Value.cells]
  unfold Program.keyLits
  simp only [Try.underlying44, hc]
  simp only [List.mapM_cons, List.mapM_nil, hc3]
  have e4 : ([Value.int .i64 a, .int .i64 b] : List Value).length = 2 ∧ (#[({ name := "Space", type := 3, offset := 0, embedded := false, tag := "", pkgPath := "", byteOffset := 0 } : Field), { name := "Slot", type := 3, offset := 1, embedded := false, tag := "", pkgPath := "", byteOffset := 8 }].all fun x => x.name != "_") = true := ⟨rfl, by kernel_rfl⟩
  rw [if_pos e4]
  simp [e3 a h1, e3 b h2]

/-- The block of a number; of an owner. -/
def NodeF (nb : Nat → Nat) (L : List Nd) (v : Value) (b : Nat) : Prop := ∃ e ∈ L, v = .int .i64 (e.id : Int) ∧ b = nb e.id
def OwnF (nb : Nat → Nat) (L : List Nd) (v : Value) (b : Nat) : Prop := ∃ e ∈ L, v = spot e.sp e.sl ∧ b = nb e.id
/-- A forest in memory. -/
structure Fo (w : World) (p m1 m2 : Nat) (nb : Nat → Nat) (last : Nat) (L : List Nd) : Prop where
  head : w.heap[p]? = some (.cells #[.map (some m1), .map (some m2), .int .i64 (last : Int)] 64)
  nodes : Mp Try.prog 3 w m1 (NodeF nb L) L.length
  owners : Mp Try.prog 44 w m2 (OwnF nb L) L.length
  links : Links w nb L
  own1 : Own1 nb L
  wf : Wf L last
  mm : m1 ≠ m2
  sane : ∀ e ∈ L, I64 e.sp ∧ I64 e.sl
  few : last < 400
/-- Its blocks. -/
def FOwn (p m1 m2 : Nat) (nb : Nat → Nat) (L : List Nd) (k : Nat) : Prop := k = p ∨ k = m1 ∨ k = m2 ∨ NOwn nb L k
section
variable {w w' : World} {p m1 m2 : Nat} {nb : Nat → Nat} {L : List Nd} {last : Nat} {e : Nd}
theorem Fo.lt (h : Fo w p m1 m2 nb last L) {k : Nat} (hk : FOwn p m1 m2 nb L k) : k < w.heap.size := by
  rcases hk with rfl | rfl | rfl | ⟨f, hf, rfl⟩
  · exact lt_of h.head
  · exact h.nodes.lt
  · exact h.owners.lt
  · exact h.links.lt hf
theorem Fo.same (h : Fo w p m1 m2 nb last L) (ho : ∀ k, FOwn p m1 m2 nb L k → w'.heap[k]? = w.heap[k]?) : Fo w' p m1 m2 nb last L :=
  ⟨(ho p (.inl rfl)).trans h.head, h.nodes.other (ho m1 (.inr (.inl rfl))), h.owners.other (ho m2 (.inr (.inr (.inl rfl)))), h.links.other (fun f hf => ho _ (.inr (.inr (.inr ⟨f, hf, rfl⟩)))), h.own1, h.wf, h.mm, h.sane, h.few⟩
theorem Fo.below {B : Nat} (h : Fo w p m1 m2 nb last L) (hb : Below B w w') (hB : w.heap.size ≤ B) : Fo w' p m1 m2 nb last L := h.same (fun k hk => hb.block k (by have := h.lt hk; omega))
theorem Fo.drewN (h : Fo w p m1 m2 nb last L) (k : Nat) : Fo (w.drewN k) p m1 m2 nb last L := h.same (fun _ _ => rfl)
theorem Fo.c0 (h : Fo w p m1 m2 nb last L) : w.cell? ⟨p, 0, none⟩ = some (.map (some m1)) := by rw [cell_of_row _ _ _ _ _ _ h.head]; rfl
theorem Fo.c1 (h : Fo w p m1 m2 nb last L) : w.cell? ⟨p, 1, none⟩ = some (.map (some m2)) := by rw [cell_of_row _ _ _ _ _ _ h.head]; rfl
theorem Fo.c2 (h : Fo w p m1 m2 nb last L) : w.cell? ⟨p, 2, none⟩ = some (.int .i64 (last : Int)) := by rw [cell_of_row _ _ _ _ _ _ h.head]; rfl
theorem Fo.id64 (h : Fo w p m1 m2 nb last L) (he : e ∈ L) : I64 (e.id : Int) := by
  have := (h.wf.lo e he).2
  have := h.few
  unfold I64
  omega
theorem Fo.len (h : Fo w p m1 m2 nb last L) : L.length < 400 := by have := h.wf.len; have := h.few; omega
theorem Fo.p1 (h : Fo w p m1 m2 nb last L) : p ≠ m1 := ne_obj h.nodes h.head
theorem Fo.p2 (h : Fo w p m1 m2 nb last L) : p ≠ m2 := ne_obj h.owners h.head
theorem Fo.n1 (h : Fo w p m1 m2 nb last L) (he : e ∈ L) : nb e.id ≠ m1 := by
  obtain ⟨cs, hb⟩ := (h.links e he).blk
  exact ne_obj h.nodes hb
theorem Fo.n2 (h : Fo w p m1 m2 nb last L) (he : e ∈ L) : nb e.id ≠ m2 := by
  obtain ⟨cs, hb⟩ := (h.links e he).blk
  exact ne_obj h.owners hb
theorem Fo.np (h : Fo w p m1 m2 nb last L) (he : e ∈ L) : nb e.id ≠ p := by
  obtain ⟨cs, hb⟩ := (h.links e he).blk
  intro e2
  rw [e2, h.head] at hb
  exact absurd (Obj.cells.inj (Option.some.inj hb)).2.1 (by decide)
/-- Whether there is a node of that number. -/
def There (L : List Nd) (x : Int) : Prop := ∃ e ∈ L, (e.id : Int) = x
theorem node_hit (h : Fo w p m1 m2 nb last L) (he : e ∈ L) : Calls Try.prog 29 #[ptr p, .int .i64 (e.id : Int)] w fun en w' => en = .returned (ptr (nb e.id)) ∧ w' = w := by
  have hr := h.nodes.look_hit law3 Try.underlying61 (key3 (h.id64 he)) (b := nb e.id) ⟨e, he, rfl, rfl⟩
  have c0 := h.c0
  clear h he
  go_enter Try.func29, Try.ntmps29
  go_wp2_with fail
  go_ret
  exact ⟨rfl, rfl⟩
theorem node_miss (h : Fo w p m1 m2 nb last L) {x : Int} (hx : I64 x) (hn : ¬ There L x) : Calls Try.prog 29 #[ptr p, .int .i64 x] w fun en w' => en = .returned (.pointer none) ∧ w' = w := by
  have hr := h.nodes.look_miss law3 Try.underlying61 zero59 (key3 hx) (fun b hb => by
    obtain ⟨e, he, e1, _⟩ := hb
    exact hn ⟨e, he, by simpa using e1.symm⟩)
  have c0 := h.c0
  clear h
  go_enter Try.func29, Try.ntmps29
  go_wp2_with fail
  go_ret
  exact ⟨rfl, rfl⟩
theorem node_nil (x : Int) (w : World) : Calls Try.prog 29 #[.pointer none, .int .i64 x] w fun en w' => en = .returned (.pointer none) ∧ w' = w := by
  go_enter Try.func29, Try.ntmps29
  go_wp2_with fail
  go_ret
  exact ⟨rfl, rfl⟩
/-- Len. -/
theorem len_any (h : Fo w p m1 m2 nb last L) : Calls Try.prog 14 #[ptr p] w fun en w' => en = .returned (.int .i64 (L.length : Int)) ∧ w' = w := by
  have hr := h.nodes.count Try.underlying61
  have c0 := h.c0
  clear h
  go_enter Try.func14, Try.ntmps14
  go_wp2_with fail
  go_ret
  exact ⟨rfl, rfl⟩
theorem len_nil (w : World) : Calls Try.prog 14 #[.pointer none] w fun en w' => en = .returned (.int .i64 0) ∧ w' = w := by
  go_enter Try.func14, Try.ntmps14
  go_wp2_with fail
  go_ret
  exact ⟨rfl, rfl⟩
/-- Find. -/
theorem find_hit (h : Fo w p m1 m2 nb last L) (he : e ∈ L) : Calls Try.prog 12 #[ptr p, .int .i64 e.sp, .int .i64 e.sl] w fun en w' => en = .returned (.int .i64 (e.id : Int)) ∧ w' = w := by
  obtain ⟨l, hl⟩ := key44 (h.sane e he).1 (h.sane e he).2
  have hr := h.owners.look_hit law44 Try.underlying62 hl (b := nb e.id) ⟨e, he, rfl, rfl⟩
  have c1 := h.c1
  have hn := hid (number_at w _ _ (h.links e he).c0)
  clear h he hl
  generalize nb e.id = n at *
  go_enter Try.func12, Try.ntmps12
  go_wp2_with (go_at_call 34; refine hn.out.mono ?_; rintro en w' ⟨rfl, rfl⟩)
  go_ret
  exact ⟨rfl, rfl⟩
theorem find_miss (h : Fo w p m1 m2 nb last L) {a b : Int} (ha : I64 a) (hb : I64 b) (hn : ∀ e ∈ L, ¬ (e.sp = a ∧ e.sl = b)) : Calls Try.prog 12 #[ptr p, .int .i64 a, .int .i64 b] w fun en w' => en = .returned (.int .i64 0) ∧ w' = w := by
  obtain ⟨l, hl⟩ := key44 ha hb
  have hr := h.owners.look_miss law44 Try.underlying62 zero59 hl (fun b hb => by
    obtain ⟨e, he, e1, _⟩ := hb
    simp at e1
    exact hn e he ⟨e1.1.symm, e1.2.symm⟩)
  have c1 := h.c1
  clear h hl
  go_enter Try.func12, Try.ntmps12
  go_wp2_with (go_at_call 34; refine (number_nil _).mono ?_; rintro en w' ⟨rfl, rfl⟩)
  go_ret
  exact ⟨rfl, rfl⟩
theorem find_nil (a b : Int) (w : World) : Calls Try.prog 12 #[.pointer none, .int .i64 a, .int .i64 b] w fun en w' => en = .returned (.int .i64 0) ∧ w' = w := by
  go_enter Try.func12, Try.ntmps12
  go_wp2_with fail
  go_ret
  exact ⟨rfl, rfl⟩
end
end Go.Proofs.Ytiechmcfafhfaaa
