/- Rows of pointers to nodes; the contract of node's kids. -/
import Derived.Test.YtiechmcfafhfaaaD2
namespace Go.Proofs.Ytiechmcfafhfaaa
open Go.RowKit Go.Maps Go.Shelf

theorem info59 : (Try.prog.info? 59).map (fun i => (i.zero, i.size, i.bytes)) = some (some (.pointer none), 1, 8) := by kernel_rfl
def intOf : Value → Int | .int _ q => q | _ => 0
def lenOf : Value → Nat | .slice _ n _ => n | _ => 0
/-- Pointers to nodes. -/
def prow (nb : Nat → Nat) (l : List Nat) : List Value := l.map fun i => ptr (nb i)
theorem prow_len (nb : Nat → Nat) (l : List Nat) : (prow nb l).length = l.length := by unfold prow; rw [List.length_map]
theorem prow_append (nb : Nat → Nat) (l m : List Nat) : prow nb (l ++ m) = prow nb l ++ prow nb m := by unfold prow; rw [List.map_append]
theorem prow_at {nb : Nat → Nat} {l : List Nat} {k x : Nat} (h : l[k]? = some x) : (prow nb l)[k]? = some (ptr (nb x)) := by unfold prow; rw [List.getElem?_map, h]; rfl
theorem prow_reverse (nb : Nat → Nat) (l : List Nat) : (prow nb l).reverse = prow nb l.reverse := by unfold prow; rw [List.map_reverse]

theorem run_append_nil (ty : TypeId) (a : Option Addr) (n cap : Nat) (h : n ≤ cap) (w : World) : (Builtin.append_ #[68, 68] ty #[.slice a n cap, .slice none 0 0]).run Try.prog w = .ok (.slice a n cap) w := by
  have hs : (sizeOf 59).run Try.prog w = .ok 1 w := by kernel_rfl
  cases a <;> simp [Builtin.append_, run_underlying Try.underlying68, hs, go_sem, Builtin.lenOf, Builtin.firstCells, h, storeCells]
/-- A row of pointers is appended to one. -/
theorem ptrs_append {w : World} {base : Nat} {v : Value} {nb : Nat → Nat} {l m : List Nat} (h : OR w base 1 v l.length (prow nb l)) {base2 : Nat} {a2 : Option Addr} {cap2 : Nat} (h2 : OR w base2 1 (.slice a2 m.length cap2) m.length (prow nb m)) (hn : l.length + m.length ≤ 1000000) (hb : base ≤ w.heap.size) :
    ∃ a cap w', (Builtin.append_ #[68, 68] 68 #[v, .slice a2 m.length cap2]).run Try.prog w = .ok (.slice a (l.length + m.length) cap) w' ∧
      OR w' base 1 (.slice a (l.length + m.length) cap) (l ++ m).length (prow nb (l ++ m)) ∧ (∀ k, k < w.heap.size → v.ownBlock ≠ some k → w'.heap[k]? = w.heap[k]?) ∧ w.grownBy w' v.ownBlock ∧ ∀ k, (Value.slice a (l.length + m.length) cap).ownBlock = some k → v.ownBlock = some k ∨ w.heap.size ≤ k := by
  obtain ⟨i0, hi, hz0, hz1, hz2⟩ := info_parts info59
  rw [prow_append, List.length_append]
  rcases h2.form with ⟨e, hn0⟩ | ⟨g, off, cap', e, _, _, _, _, _, hx⟩
  · obtain rfl : m = [] := List.eq_nil_of_length_eq_zero hn0
    obtain ⟨rfl, rfl⟩ : a2 = none ∧ cap2 = 0 := by simpa using e
    obtain ⟨a, cap, rfl, hc⟩ := h.slice
    refine ⟨a, cap, w, run_append_nil _ _ _ _ hc _, ?_, fun _ _ _ => rfl, ⟨rfl, rfl, rfl, Nat.le_refl _, fun _ _ _ => rfl⟩, fun k e => ?_⟩
    rotate_left
    · exact .inl e
    simpa [prow] using h
  · obtain ⟨rfl, _⟩ : a2 = some ⟨g, off, none⟩ ∧ cap2 = cap' := by simpa using e
    obtain ⟨v', w', hr, ho, hg, hob⟩ := OR.append (P := Try.prog) 68 68 59 i0 _ 1 8 Try.underlying68 hi hz0 hz1 hz2 rfl (by decide) h ⟨g, off, none⟩ m.length cap2
      (prow nb m) (by rw [prow_len]; omega) (fun j u hj => by rw [addr_add]; exact hx j u hj) (fun u hu => by
        obtain ⟨z, _, rfl⟩ := List.mem_map.1 hu
        rfl) (by unfold maxLen; omega) (by omega) hb
    obtain ⟨a, cap, rfl, _⟩ := ho.slice
    refine ⟨a, cap, w', hr, ho, fun k hk hne => hg.block k hk (fun e => hne e.symm), hg, fun k e => ?_⟩
    rcases hob with e1 | ⟨g, e1, e2⟩
    · exact .inl (e1.symm.trans e)
    · rw [e1] at e
      obtain rfl : g = k := by simpa using e
      exact .inr e2
/-- One pointer more. -/
theorem ptr_append {w : World} {base : Nat} {v : Value} {nb : Nat → Nat} {l : List Nat} (h : OR w base 1 v l.length (prow nb l)) (hn : l.length ≤ 1000000) (hb : base ≤ w.heap.size) (x : Nat) (H : Nat) (hH : w.heap.size = H) :
    ∃ a cap w', (Builtin.append_ #[68, 68] 68 #[v, .slice (some ⟨H, 0, none⟩) 1 1]).run Try.prog (w.alloc (.cells #[ptr (nb x)] 59)) = .ok (.slice a (l.length + 1) cap) w' ∧
      OR w' base 1 (.slice a (l.length + 1) cap) (l ++ [x]).length (prow nb (l ++ [x])) ∧ Below base w w' ∧ (∀ k, k < w.heap.size → v.ownBlock ≠ some k → w'.heap[k]? = w.heap[k]?) ∧
      ∀ k, (Value.slice a (l.length + 1) cap).ownBlock = some k → v.ownBlock = some k ∨ w.heap.size ≤ k := by
  subst hH
  obtain ⟨i0, hi, hz0, hz1, hz2⟩ := info_parts info59
  have hA : (w.alloc (.cells #[ptr (nb x)] 59)).heap[w.heap.size]? = some (.cells #[ptr (nb x)] 59) := heap_alloc_new _ _
  obtain ⟨v', w', hr, ho, hg, hob⟩ := OR.append (P := Try.prog) 68 68 59 i0 _ 1 8 Try.underlying68 hi hz0 hz1 hz2 rfl (by decide) (h.alloc (.cells #[ptr (nb x)] 59)) ⟨w.heap.size, 0, none⟩ 1 1
    [ptr (nb x)] rfl (fun j u hj => by
      rw [addr_add, Nat.zero_add, cell_of_row _ _ _ _ _ _ hA, ← hj]
      match j, hj with
      | 0, _ => rfl) (fun u hu => by simp at hu; subst hu; rfl) (by unfold maxLen; omega) (by omega) (by simp; omega)
  obtain ⟨a, cap, rfl, _⟩ := ho.slice
  refine ⟨a, cap, w', hr, ?_, ((Below.refl base w).alloc hb _).grown hg (by simp; omega) (fun k e => (h.own k e).1), fun k hk hne => ?_, fun k e => ?_⟩
  · rw [prow_append, List.length_append]
    exact ho
  · exact (hg.block k (by simp; omega) (fun e => hne e.symm)).trans (Below.heap_alloc _ _ _ hk)
  · rcases hob with e1 | ⟨g, e1, e2⟩
    · exact .inl (e1.symm.trans e)
    · rw [e1] at e
      obtain rfl : g = k := by simpa using e
      exact .inr (by simp at e2; omega)

/-- A row of pointers is answered. -/
def RowPost (w : World) (nb : Nat → Nat) (l : List Nat) (en : Ending) (w' : World) : Prop := ∃ a cap, en = .returned (.slice a l.length cap) ∧ OR w' w.heap.size 1 (.slice a l.length cap) l.length (prow nb l) ∧ Below w.heap.size w w'
section
variable {w w' : World} {nb : Nat → Nat} {e : Nd} {L : List Nd} {last : Nat}
theorem Links.below {B : Nat} (hL : Links w nb L) (hb : Below B w w') (hB : w.heap.size ≤ B) : Links w' nb L := hL.other (fun f hf => hb.block _ (by have := hL.lt hf; omega))
set_option maxRecDepth 100000 in
set_option maxHeartbeats 1000000 in
theorem kids_any (hL : Links w nb L) (h : Wf L last) (hl : last < 400) (he : e ∈ L) : Calls Try.prog 32 #[ptr (nb e.id)] w (RowPost w nb (kids L e.id)) := by
  have c4 := (hL e he).c4
  have hlen := h.kids_len e.id
  have hlen2 := h.len
  have HL := hid hL
  have HW := hid (And.intro h he)
  have hkl : (kids L e.id).length ≤ 400 := by omega
  clear h hL hlen hlen2
  obtain ⟨n, hn⟩ : ∃ n, n = nb e.id := ⟨_, rfl⟩
  rw [← hn] at c4 ⊢
  obtain ⟨v4, hv4⟩ : ∃ v, v = optr nb (kids L e.id).head? := ⟨_, rfl⟩
  rw [← hv4] at c4
  have HV := hid hv4
  clear hv4
  have HN := hid hn
  clear hn he
  go_enter Try.func32, Try.ntmps32
  go_wp2_with fail
  go_loopw [3, 4] (fun u c wr => ∃ d r, Hid (kids L e.id = d ++ r) ∧ c = optr nb r.head? ∧ ∃ a cap, u = .slice a d.length cap ∧ Hid (Below w.heap.size w wr ∧ OR wr w.heap.size 1 (.slice a d.length cap) d.length (prow nb d))) (fun u _ _ => 400 - lenOf u)
  case atStart => exact ⟨[], kids L e.id, rfl, HV.out, none, 0, rfl, Below.refl _ _, OR.nil _ _ _⟩
  case round =>
    obtain ⟨d, r, hdr, rfl, a, cap, rfl, hS⟩ := hrel
    cases r with
    | nil =>
      have hd := hdr.out
      rw [List.append_nil] at hd
      subst hd
      simp only [optr, List.head?_nil]
      go_wp2
      go_ret
      exact ⟨_, _, rfl, hS.out.2, hS.out.1⟩
    | cons x r =>
      have hx : x ∈ kids L e.id := by rw [hdr.out]; simp
      obtain ⟨_, f, hf, hfx, hfp⟩ := mem_kids.1 hx
      obtain ⟨v7, c7, _, h7⟩ := (HL.out.below hS.out.1 (Nat.le_refl _) f hf).c7
      rw [h7 d r (by rw [hfp, hfx]; exact hdr.out), hfx] at c7
      have hdl : d.length < 400 := by
        have := congrArg List.length hdr.out
        simp at this
        omega
      obtain ⟨a3, cap3, w3, hr, ho3, hb3, hk3, _⟩ := ptr_append hS.out.2 (by omega) hS.out.1.size x wr.heap.size rfl
      have c73 : w3.cell? ⟨nb x, 7, none⟩ = some (optr nb r.head?) := by
        rw [World.cell?_of_block (a := ⟨nb x, 7, none⟩) (hk3 (nb x) (by have := HL.out.lt hf; have := hS.out.1.size; rw [hfx] at *; omega) (fun e2 => by have := hS.out.2.own _ e2; have := HL.out.lt hf; rw [hfx] at *; omega))]
        exact c7
      have H3 := hid (And.intro (hS.out.1.trans hb3) ho3)
      have HD := hid (show kids L e.id = (d ++ [x]) ++ r by rw [hdr.out]; simp)
      clear hx hf hfx hfp h7 c7 hdr hS hk3 hb3 ho3 HL HW HV
      obtain ⟨z, hz⟩ : ∃ z, z = optr nb r.head? := ⟨_, rfl⟩
      rw [← hz] at c73
      have HZ := hid hz
      clear hz
      rw [show optr nb (x :: r).head? = ptr (nb x) from rfl]
      go_wp2_with (at_builtin; refine wpList_append_run rfl _ _ 68 68 rfl _ _ _ rfl rfl hr ?_)
      exact ⟨⟨d ++ [x], r, HD, HZ.out, a3, cap3, by simp, by simpa using H3⟩, by simp [lenOf]; omega⟩
end
end Go.Proofs.Ytiechmcfafhfaaa
