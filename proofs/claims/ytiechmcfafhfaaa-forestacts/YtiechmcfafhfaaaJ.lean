/- The contracts of New and of forget: nodes are taken out of what they are found by. -/
import Derived.Test.YtiechmcfafhfaaaI
namespace Go.Proofs.Ytiechmcfafhfaaa
open Go.RowKit Go.Maps Go.Shelf

theorem info44 : (Try.prog.info? 44).map (fun i => (i.zero, i.size, i.bytes)) = some (some (.agg #[.int .i64 0, .int .i64 0]), 2, 16) := by kernel_rfl
/-- Owners, in a row. -/
def flat (l : List (Int × Int)) : List Value := l.flatMap fun t => [.int .i64 t.1, .int .i64 t.2]
theorem flat_len (l : List (Int × Int)) : (flat l).length = l.length * 2 := by
  induction l with
  | nil => rfl
  | cons x xs ih => unfold flat at *; rw [List.flatMap_cons, List.length_append, ih]; simp; omega
theorem flat_append (l m : List (Int × Int)) : flat (l ++ m) = flat l ++ flat m := by unfold flat; rw [List.flatMap_append]
theorem flat_at {l : List (Int × Int)} {k : Nat} {t : Int × Int} (h : l[k]? = some t) : (flat l)[k * 2]? = some (.int .i64 t.1) ∧ (flat l)[k * 2 + 1]? = some (.int .i64 t.2) := by
  induction l generalizing k with
  | nil => cases h
  | cons x xs ih =>
    have e : flat (x :: xs) = .int .i64 x.1 :: .int .i64 x.2 :: flat xs := by unfold flat; rw [List.flatMap_cons]; rfl
    rw [e]
    cases k with
    | zero => obtain rfl : x = t := by simpa using h
              exact ⟨rfl, rfl⟩
    | succ k =>
      have := ih (k := k) (by simpa using h)
      rw [show (k + 1) * 2 = k * 2 + 1 + 1 by omega]
      exact this
/-- A node's owner. -/
def ownOf (L : List Nd) (x : Nat) : Int × Int := match L.find? (fun e => e.id == x) with
  | some e => (e.sp, e.sl)
  | none => (0, 0)
theorem Wf.ownOf {L : List Nd} {last : Nat} (h : Wf L last) {e : Nd} (he : e ∈ L) : ownOf L e.id = (e.sp, e.sl) := by
  unfold Go.Proofs.Ytiechmcfafhfaaa.ownOf
  cases hf : L.find? (fun x => x.id == e.id) with
  | none => exact absurd (List.find?_eq_none.1 hf e he) (by simp)
  | some f =>
    have h1 : f.id = e.id := by simpa using List.find?_some hf
    rw [h.inj (List.mem_of_find?_eq_some hf) he h1]
/-- One owner more. -/
theorem spot_append {w : World} {base : Nat} {v : Value} {xs : List (Int × Int)} (h : OR w base 2 v xs.length (flat xs)) (hn : xs.length ≤ 1000000) (hb : base ≤ w.heap.size) (a b : Int) (H : Nat) (hH : w.heap.size = H) :
    ∃ ad cap w', (Builtin.append_ #[36, 36] 36 #[v, .slice (some ⟨H, 0, none⟩) 1 1]).run Try.prog (w.alloc (.cells #[.int .i64 a, .int .i64 b] 44)) = .ok (.slice ad (xs.length + 1) cap) w' ∧
      OR w' base 2 (.slice ad (xs.length + 1) cap) (xs ++ [(a, b)]).length (flat (xs ++ [(a, b)])) ∧ Below base w w' ∧ (∀ k, k < w.heap.size → v.ownBlock ≠ some k → w'.heap[k]? = w.heap[k]?) ∧
      ∀ k, (Value.slice ad (xs.length + 1) cap).ownBlock = some k → v.ownBlock = some k ∨ w.heap.size ≤ k := by
  subst hH
  obtain ⟨i0, hi, hz0, hz1, hz2⟩ := info_parts info44
  have hA : (w.alloc (.cells #[.int .i64 a, .int .i64 b] 44)).heap[w.heap.size]? = some (.cells #[.int .i64 a, .int .i64 b] 44) := heap_alloc_new _ _
  obtain ⟨v', w', hr, ho, hg, hob⟩ := OR.append (P := Try.prog) 36 36 44 i0 _ 2 16 Try.underlying36 hi hz0 hz1 hz2 rfl (by decide) (h.alloc (.cells #[.int .i64 a, .int .i64 b] 44)) ⟨w.heap.size, 0, none⟩ 1 1
    [.int .i64 a, .int .i64 b] rfl (fun j u hj => by
      rw [addr_add, Nat.zero_add, cell_of_row _ _ _ _ _ _ hA, ← hj]
      match j, hj with
      | 0, _ => rfl
      | 1, _ => rfl) (fun u hu => by simp at hu; rcases hu with rfl | rfl <;> rfl) (by unfold maxLen; omega) (by omega) (by simp; omega)
  obtain ⟨ad, cap, rfl, _⟩ := ho.slice
  refine ⟨ad, cap, w', hr, ?_, ((Below.refl base w).alloc hb _).grown hg (by simp; omega) (fun k e => (h.own k e).1), fun k hk hne => ?_, fun k e => ?_⟩
  · rw [flat_append, List.length_append]
    exact ho
  · exact (hg.block k (by simp; omega) (fun e => hne e.symm)).trans (Below.heap_alloc _ _ _ hk)
  · rcases hob with e1 | ⟨g, e1, e2⟩
    · exact .inl (e1.symm.trans e)
    · rw [e1] at e
      obtain rfl : g = k := by simpa using e
      exact .inr (by simp at e2; omega)
/-- An entry of a map goes. -/
theorem Mp.goes {P : Program} {kt t el : TypeId} {w : World} {m n : Nat} {F : Value → Nat → Prop} {key : Value} {l : Lit} (h : Mp P kt w m F n) (K : Keyed P kt) (ht : P.underlying t = some (.map kt el)) (hk : keyOf P kt key = some l) {b : Nat} (hb : F key b) (ty : TypeId) :
    ∃ w', (Builtin.delete_ #[t, kt] ty #[.map (some m), key]).run P w = .ok (.tuple #[]) w' ∧ But m w w' ∧ Mp P kt w' m (fun v x => F v x ∧ v ≠ key) (n - 1) := by
  obtain ⟨o, h1, h2⟩ := h.leave K ht hk hb ty
  exact ⟨_, h1, putB_but _ _ _, h2 _ (putB_same o h.lt)⟩
theorem step_delete_run {P : Program} (w w' : World) (v' : Value) {ops : Array Oper} {o : Oper} {a : Act} {K : Act → World → Prop} {Q : Exit → Act → World → Prop} {E : Prop} (hgd : o.guard = none) (s x : Operand) (t t2 : TypeId)
    (ho : o.op = .call { callee := .builtin .delete, args := #[s, x], argTypes := #[t, t2] }) (v y : Value) (hs : a.eval s = v) (hx : a.eval x = y) (hr : (Builtin.delete_ #[t, t2] o.type #[v, y]).run P w = .ok v' w') (h : K (a.put o.dst v') w') :
    if Region.wanted o (yielded ops a.tmps) = true then Oper.wp P o a w K Q else E := by
  have hw : Region.wanted o (yielded ops a.tmps) = true := by simp [Region.wanted, hgd]
  rw [if_pos hw]
  unfold Oper.wp
  simp [execOp, ho, resolve, invoke, builtin, hs, hx, hr, Result.andThen]
  exact h
theorem less_snoc (L : List Nd) (D : List Nat) (x : Nat) : less L (D ++ [x]) = (less L D).filter (fun e => e.id != x) := by
  unfold less
  rw [List.filter_filter]
  apply List.filter_congr
  intro e _
  by_cases h : e.id = x <;> simp [h]
theorem less_nil (L : List Nd) : less L [] = L := by unfold less; simp
theorem filter_one {L : List Nd} (h : L.Pairwise (fun a b => a.id ≠ b.id)) {e : Nd} (he : e ∈ L) : (L.filter (fun x => x.id != e.id)).length = L.length - 1 := by
  induction L with
  | nil => cases he
  | cons y r ih =>
    obtain ⟨h1, h2⟩ := List.pairwise_cons.1 h
    rcases List.mem_cons.1 he with rfl | he
    · rw [List.filter_cons_of_neg (by simp), List.filter_eq_self.2 (fun a ha => by simpa using Ne.symm (h1 a ha))]
      simp
    · rw [List.filter_cons_of_pos (by simpa using h1 e he), List.length_cons, ih h2 he]
      have := List.length_pos_of_mem he
      simp
      omega
/-- What a forest is found by. -/
structure FM (w : World) (p m1 m2 : Nat) (nb : Nat → Nat) (last : Nat) (L : List Nd) : Prop where
  head : w.heap[p]? = some (.cells #[.map (some m1), .map (some m2), .int .i64 (last : Int)] 64)
  nodes : Mp Try.prog 3 w m1 (NodeF nb L) L.length
  owners : Mp Try.prog 44 w m2 (OwnF nb L) L.length
/-- Owners are answered, of those that went. -/
def GonePost (w : World) (p m1 m2 : Nat) (nb : Nat → Nat) (last : Nat) (L : List Nd) (l : List Nat) (en : Ending) (w' : World) : Prop :=
  ∃ a cap, en = .returned (.slice a l.length cap) ∧ OR w' w.heap.size 2 (.slice a l.length cap) l.length (flat (l.map (ownOf L))) ∧ FM w' p m1 m2 nb last (less L l) ∧ Turn (fun k => k = m1 ∨ k = m2) w w'
section
variable {w w' : World} {p m1 m2 : Nat} {nb : Nat → Nat} {L : List Nd} {last : Nat} {e : Nd}
theorem FM.goes (h : FM w p m1 m2 nb last L) (hid : L.Pairwise (fun a b => a.id ≠ b.id)) (how : L.Pairwise (fun a b => ¬ (a.sp = b.sp ∧ a.sl = b.sl))) (he : e ∈ L) (h1 : w'.heap[p]? = w.heap[p]?) {n1 n2 : Nat} (k1 : Mp Try.prog 3 w' m1 (fun v x => NodeF nb L v x ∧ v ≠ .int .i64 (e.id : Int)) n1) (k2 : Mp Try.prog 44 w' m2 (fun v x => OwnF nb L v x ∧ v ≠ spot e.sp e.sl) n2)
    (e1 : n1 = L.length - 1) (e2 : n2 = L.length - 1) : FM w' p m1 m2 nb last (L.filter (fun x => x.id != e.id)) := by
  subst e1 e2
  have hlen := filter_one hid he
  have inj : ∀ {a b : Nd}, a ∈ L → b ∈ L → a.id = b.id → a = b := fun ha hb e => pair_inj (fun _ _ h => Ne.symm h) hid ha hb (fun hn => hn e)
  have owner : ∀ {a b : Nd}, a ∈ L → b ∈ L → a.sp = b.sp → a.sl = b.sl → a = b := fun ha hb e1 e2 => pair_inj (fun _ _ h h' => h ⟨h'.1.symm, h'.2.symm⟩) how ha hb (fun hn => hn ⟨e1, e2⟩)
  refine ⟨h1.trans h.head, ?_, ?_⟩
  · rw [hlen]
    refine k1.congr fun v b => ⟨?_, ?_⟩
    · rintro ⟨⟨f, hf, rfl, rfl⟩, hv⟩
      exact ⟨f, List.mem_filter.2 ⟨hf, by simp; intro e2; exact hv (by rw [e2])⟩, rfl, rfl⟩
    · rintro ⟨f, hf, rfl, rfl⟩
      obtain ⟨hf1, hf2⟩ := List.mem_filter.1 hf
      refine ⟨⟨f, hf1, rfl, rfl⟩, fun e2 => ?_⟩
      have : f.id = e.id := by have := e2; simp at this; omega
      simp [this] at hf2
  · rw [hlen]
    refine k2.congr fun v b => ⟨?_, ?_⟩
    · rintro ⟨⟨f, hf, rfl, rfl⟩, hv⟩
      exact ⟨f, List.mem_filter.2 ⟨hf, by simp; intro e2; exact hv (by rw [inj hf he e2])⟩, rfl, rfl⟩
    · rintro ⟨f, hf, rfl, rfl⟩
      obtain ⟨hf1, hf2⟩ := List.mem_filter.1 hf
      refine ⟨⟨f, hf1, rfl, rfl⟩, fun e2 => ?_⟩
      have e3 : f.sp = e.sp ∧ f.sl = e.sl := by simpa using e2
      rw [owner hf1 he e3.1 e3.2] at hf2
      simp at hf2
/-- Where the round stands. -/
structure Gn (w0 w : World) (p m1 m2 : Nat) (nb : Nat → Nat) (last : Nat) (L : List Nd) (D : List Nat) (n : Nat) (u : Value) : Prop where
  fm : FM w p m1 m2 nb last (less L D)
  row : OR w w0.heap.size 2 u n (flat (D.map (ownOf L)))
  turn : Turn (fun k => k = m1 ∨ k = m2) w0 w
set_option maxRecDepth 100000 in
set_option maxHeartbeats 2000000 in
theorem forget_any (hF : FM w p m1 m2 nb last L) (hW : Wf L last) (hmm : m1 ≠ m2) (hsa : ∀ e ∈ L, I64 e.sp ∧ I64 e.sl ∧ I64 (e.id : Int)) {base : Nat} {l : List Nat} {a : Option Addr} {cap : Nat} (hO : OR w base 1 (.slice a l.length cap) l.length (prow nb l)) (hsep : ∀ g, (Value.slice a l.length cap).ownBlock = some g → g ≠ m1 ∧ g ≠ m2)
    (hl : l.length ≤ 400) (hnd : l.Nodup) (hin : ∀ x ∈ l, ∃ f ∈ L, f.id = x ∧ w.cell? ⟨nb x, 0, none⟩ = some (.int .i64 (x : Int)) ∧ w.cell? ⟨nb x, 1, none⟩ = some (.int .i64 f.sp) ∧ w.cell? ⟨nb x, 2, none⟩ = some (.int .i64 f.sl) ∧ nb x < w.heap.size ∧ nb x ≠ m1 ∧ nb x ≠ m2) :
    Calls Try.prog 33 #[ptr p, .slice a l.length cap] w (GonePost w p m1 m2 nb last L l) := by
  have HO := hid hO
  have HI := hid hin
  have HW := hid hW
  have HF := hid hF
  have HS := hid hsep
  have HA := hid (And.intro hsa (And.intro hmm hnd))
  clear hO hin hW hF hsep hsa hmm hnd
  go_enter Try.func33, Try.ntmps33
  go_wp2_with fail
  go_loopw [5, 10] (fun u c wr => ∃ k : Nat, k ≤ l.length ∧ c = .int .i64 (k : Int) ∧ ∃ a2 cap2 n2, u = .slice a2 n2 cap2 ∧ Hid (n2 = k) ∧ Hid (Gn w wr p m1 m2 nb last L (l.take k) n2 (.slice a2 n2 cap2))) (fun _ c _ => l.length - (intOf c).toNat)
  case atStart => exact ⟨0, Nat.zero_le _, rfl, none, 0, 0, rfl, rfl, ⟨by rw [List.take_zero, less_nil]; exact HF.out, OR.nil _ _ _, Turn.refl _ _⟩⟩
  case round =>
    obtain ⟨k, hk, rfl, a2, cap2, n2, rfl, hn2', hS⟩ := hrel
    by_cases hlt : k < l.length
    · have hk2 := List.getElem?_eq_getElem hlt
      obtain ⟨x, hx⟩ : ∃ x, x = l[k] := ⟨_, rfl⟩
      rw [← hx] at hk2
      obtain ⟨f, hf, rfl, q0, q1, q2, qs, qn1, qn2⟩ := HI.out x (by rw [hx]; exact List.getElem_mem hlt)
      have hT := hS.out.turn
      have hOr := HO.out.other hT.size (fun g e => hT.block g (HO.out.own g e).2 (fun e2 => by rcases e2 with e2 | e2; exact (HS.out g e).1 e2; exact (HS.out g e).2 e2))
      obtain ⟨g, off, rfl, _, cx⟩ := hOr.at (prow_at (nb := nb) hk2)
      have hnb : wr.heap[nb f.id]? = w.heap[nb f.id]? := hT.block _ qs (fun e2 => by rcases e2 with e2 | e2; exact qn1 e2; exact qn2 e2)
      have r0 : wr.cell? ⟨nb f.id, 0, none⟩ = some (.int .i64 (f.id : Int)) := by rw [World.cell?_of_block (a := ⟨nb f.id, 0, none⟩) hnb]; exact q0
      have r1 : wr.cell? ⟨nb f.id, 1, none⟩ = some (.int .i64 f.sp) := by rw [World.cell?_of_block (a := ⟨nb f.id, 1, none⟩) hnb]; exact q1
      have r2 : wr.cell? ⟨nb f.id, 2, none⟩ = some (.int .i64 f.sl) := by rw [World.cell?_of_block (a := ⟨nb f.id, 2, none⟩) hnb]; exact q2
      have hfl : f ∈ less L (l.take k) := mem_less.2 ⟨hf, fun hd => by
        obtain ⟨j, hj, e1⟩ := List.getElem_of_mem hd
        rw [List.length_take] at hj
        rw [List.getElem_take] at e1
        have := (List.getElem_inj HA.out.2.2).1 (e1.trans hx)
        omega⟩
      have hfm := hS.out.fm
      have hid2 : (less L (l.take k)).Pairwise (fun a b => a.id ≠ b.id) := HW.out.ids.sublist List.filter_sublist
      have how2 : (less L (l.take k)).Pairwise (fun a b => ¬ (a.sp = b.sp ∧ a.sl = b.sl)) := HW.out.own.sublist List.filter_sublist
      obtain ⟨i1, i2, i3⟩ := HA.out.1 f hf
      obtain ⟨l44, hl44⟩ := key44 i1 i2
      have hpm1 : p ≠ m1 := ne_obj hfm.nodes hfm.head
      have hpm2 : p ≠ m2 := ne_obj hfm.owners hfm.head
      obtain ⟨w2, hr2, hb2, hm2⟩ := (hfm.nodes.drewN 1).goes law3 Try.underlying61 (key3 i3) (b := nb f.id) ⟨f, hfl, rfl, rfl⟩ 0
      have hr2 : (Builtin.delete_ #[61, 3] 0 #[.map (some m1), .int .i64 (f.id : Int)]).run Try.prog wr.drew = .ok (.tuple #[]) w2 := hr2
      have hb2 : But m1 wr.drew w2 := hb2
      have hp2 : w2.heap[p]? = wr.heap[p]? := hb2.block p (lt_of hfm.head) hpm1
      have ho2 : Mp Try.prog 44 w2 m2 (OwnF nb (less L (l.take k))) (less L (l.take k)).length := hfm.owners.other (hb2.block m2 hfm.owners.lt HA.out.2.1.symm)
      obtain ⟨w3, hr3, hb3, hm3⟩ := (ho2.drewN 1).goes law44 Try.underlying62 hl44 (b := nb f.id) ⟨f, hfl, rfl, rfl⟩ 0
      have hr3 : (Builtin.delete_ #[62, 44] 0 #[.map (some m2), spot f.sp f.sl]).run Try.prog w2.drew = .ok (.tuple #[]) w3 := hr3
      have hb3 : But m2 w2.drew w3 := hb3
      have hn2 : w2.heap[nb f.id]? = wr.heap[nb f.id]? := hb2.block _ (by have := hT.size; show nb f.id < wr.heap.size; omega) (by exact qn1)
      have hn3 : w3.heap[nb f.id]? = wr.heap[nb f.id]? := (hb3.block _ (by have h1 := hT.size; have h2 : wr.heap.size ≤ w2.heap.size := hb2.size; show nb f.id < w2.heap.size; omega) (by exact qn2)).trans hn2
      have p0 : wr.drew.cell? ⟨p, 0, none⟩ = some (.map (some m1)) := by rw [cell_of_row wr.drew p 0 _ _ _ hfm.head]; rfl
      have p02 : w2.cell? ⟨p, 0, none⟩ = some (.map (some m1)) := by rw [World.cell?_of_block (w := wr.drew) (a := ⟨p, 0, none⟩) hp2]; exact p0
      have p12 : w2.drew.cell? ⟨p, 1, none⟩ = some (.map (some m2)) := by
        show w2.cell? _ = _
        rw [cell_of_row w2 p 1 _ _ _ (hp2.trans hfm.head)]; rfl
      have hp3 : w3.heap[p]? = w2.heap[p]? := hb3.block p (by have h2 : wr.heap.size ≤ w2.heap.size := hb2.size; have := lt_of hfm.head; show p < w2.heap.size; omega) hpm2
      have p13 : w3.cell? ⟨p, 1, none⟩ = some (.map (some m2)) := by rw [World.cell?_of_block (w := w2.drew) (a := ⟨p, 1, none⟩) hp3]; exact p12
      have a0 : wr.drew.cell? ⟨nb f.id, 0, none⟩ = some (.int .i64 (f.id : Int)) := r0
      have a02 : w2.cell? ⟨nb f.id, 0, none⟩ = some (.int .i64 (f.id : Int)) := by rw [World.cell?_of_block (w := wr) (a := ⟨nb f.id, 0, none⟩) hn2]; exact r0
      have a12 : w2.drew.cell? ⟨nb f.id, 1, none⟩ = some (.int .i64 f.sp) := by show w2.cell? _ = _; rw [World.cell?_of_block (w := wr) (a := ⟨nb f.id, 1, none⟩) hn2]; exact r1
      have a22 : w2.drew.cell? ⟨nb f.id, 2, none⟩ = some (.int .i64 f.sl) := by show w2.cell? _ = _; rw [World.cell?_of_block (w := wr) (a := ⟨nb f.id, 2, none⟩) hn2]; exact r2
      have a13 : w3.cell? ⟨nb f.id, 1, none⟩ = some (.int .i64 f.sp) := by rw [World.cell?_of_block (w := wr) (a := ⟨nb f.id, 1, none⟩) hn3]; exact r1
      have a23 : w3.cell? ⟨nb f.id, 2, none⟩ = some (.int .i64 f.sl) := by rw [World.cell?_of_block (w := wr) (a := ⟨nb f.id, 2, none⟩) hn3]; exact r2
      have hT3 : Turn (fun k => k = m1 ∨ k = m2) w w3 := (((hT.drew).but hb2 (.inl (.inl rfl))).drew).but hb3 (.inl (.inr rfl))
      have hfm3 : FM w3 p m1 m2 nb last (less L (l.take (k + 1))) := by
        have e2 : l.take (k + 1) = l.take k ++ [f.id] := by rw [List.take_add_one, hk2]; rfl
        rw [e2, less_snoc]
        exact hfm.goes hid2 how2 hfl (hp3.trans hp2) (hm2.other (hb3.block m1 (by have := hm2.lt; exact this) HA.out.2.1)) hm3 rfl rfl
      have hrow3 : OR w3 w.heap.size 2 (.slice a2 n2 cap2) n2 (flat ((l.take k).map (ownOf L))) := hS.out.row.other (by have h1 : wr.heap.size ≤ w2.heap.size := hb2.size; have h2 : w2.heap.size ≤ w3.heap.size := hb3.size; omega) (fun g e => by
        obtain ⟨g1, g2⟩ := hS.out.row.own g e
        have g3 : g ≠ m1 := fun e2 => by have := HF.out.nodes.lt; omega
        have g4 : g ≠ m2 := fun e2 => by have := HF.out.owners.lt; omega
        have h1 : wr.heap.size ≤ w2.heap.size := hb2.size
        exact (hb3.block g (by show g < w2.heap.size; omega) g4).trans (hb2.block g g2 g3))
      have hkl : ((l.take k).map (ownOf L)).length = n2 := by rw [List.length_map, List.length_take, hn2'.out]; omega
      have hrow3b : OR w3 w.heap.size 2 (.slice a2 n2 cap2) ((l.take k).map (ownOf L)).length (flat ((l.take k).map (ownOf L))) := by rw [hkl]; exact hrow3
      obtain ⟨a4, cap4, w4, hr4, ho4, hb4, hk4, _⟩ := spot_append hrow3b (by rw [hkl, hn2'.out]; omega) hT3.size f.sp f.sl w3.heap.size rfl
      have e3 : (l.take k).map (ownOf L) ++ [(f.sp, f.sl)] = (l.take (k + 1)).map (ownOf L) := by rw [List.take_add_one, hk2, List.map_append, ← HW.out.ownOf hf]; rfl
      rw [e3] at ho4
      have e4 : ((l.take (k + 1)).map (ownOf L)).length = n2 + 1 := by rw [List.length_map, List.length_take, hn2'.out]; omega
      rw [hkl] at hr4 ho4
      rw [e4] at ho4
      have H4 : Hid (Gn w w4 p m1 m2 nb last L (l.take (k + 1)) (n2 + 1) (.slice a4 (n2 + 1) cap4)) := by
        refine ⟨⟨?_, hfm3.nodes.other ?_, hfm3.owners.other ?_⟩, ho4, ?_⟩
        · exact (hb4.block p (lt_of HF.out.head)).trans hfm3.head
        · exact hb4.block m1 HF.out.nodes.lt
        · exact hb4.block m2 HF.out.owners.lt
        · exact ⟨hb4.os.trans hT3.os, hb4.tape.trans hT3.tape, hb4.output.trans hT3.output, Nat.le_trans hT3.size hb4.size, fun k hk hn => (hb4.block k hk).trans (hT3.block k hk hn)⟩
      have HN := hid (show n2 + 1 = k + 1 by rw [hn2'.out])
      have hk0 : (0 : Int) ≤ (k : Int) := by omega
      have hk1 : (k : Int) < (l.length : Int) := by omega
      have HZ := hid hlt
      clear hfm hid2 how2 hpm1 hpm2 hb2 hm2 hp2 ho2 hb3 hm3 hn2 hn3 hp3 hT3 hfm3 hrow3 hkl hrow3b ho4 hb4 hk4 e3 e4 hS hT hOr hnb r0 r1 r2 hfl q0 q1 q2 qs qn1 qn2 hl44 i1 i2 i3 hx HI HS hn2' hk2 hlt
      go_wp2_with fail
      refine wp_region_held_drew (S := (fun wx => wx.cell? ⟨p, 0, none⟩ = some (.map (some m1)) ∧ wx.cell? ⟨nb f.id, 0, none⟩ = some (.int .i64 (f.id : Int)))) (by kernel_rfl) ⟨p0, a0⟩ (fun hHeld => ?_)
      refine takeH (i := 0) (some 14) (.pointer (some ⟨p, 0, none⟩)) rfl rfl (by kernel_rfl) (by kernel_rfl) (by kernel_rfl) (fun _ _ _ h => h) (Or.inl ⟨by rfl, ?_⟩) (by assumption) ?_
      · (intro w hSw; (try dsimp only at hSw); go_simp)
      simp only [Act.put, List.setIfInBounds_toArray, List.set_cons_zero, List.set_cons_succ]
      refine takeH (i := 1) (some 15) (.pointer (some ⟨p, 0, none⟩)) rfl rfl (by kernel_rfl) (by kernel_rfl) (by kernel_rfl) (fun _ _ _ h => h) (Or.inl ⟨by rfl, ?_⟩) (by assumption) ?_
      · (intro w hSw; (try dsimp only at hSw); go_simp)
      simp only [Act.put, List.setIfInBounds_toArray, List.set_cons_zero, List.set_cons_succ]
      refine takeH (i := 2) (some 16) (.pointer (some ⟨p, 0, none⟩)) rfl rfl (by kernel_rfl) (by kernel_rfl) (by kernel_rfl) (fun _ _ _ h => h) (Or.inl ⟨by rfl, ?_⟩) (by assumption) ?_
      · (intro w hSw; (try dsimp only at hSw); go_simp)
      simp only [Act.put, List.setIfInBounds_toArray, List.set_cons_zero, List.set_cons_succ]
      refine takeH (i := 3) (some 17) (.map (some m1)) rfl rfl (by kernel_rfl) (by kernel_rfl) (by kernel_rfl) (fun _ _ _ h => h) (Or.inl ⟨by rfl, ?_⟩) (by assumption) ?_
      · (intro w hSw; (try dsimp only at hSw); go_simp)
      simp only [Act.put, List.setIfInBounds_toArray, List.set_cons_zero, List.set_cons_succ]
      refine takeH (i := 4) (some 18) (.pointer (some ⟨nb f.id, 0, none⟩)) rfl rfl (by kernel_rfl) (by kernel_rfl) (by kernel_rfl) (fun _ _ _ h => h) (Or.inl ⟨by rfl, ?_⟩) (by assumption) ?_
      · (intro w hSw; (try dsimp only at hSw); go_simp)
      simp only [Act.put, List.setIfInBounds_toArray, List.set_cons_zero, List.set_cons_succ]
      refine takeH (i := 5) (some 19) (.pointer (some ⟨nb f.id, 0, none⟩)) rfl rfl (by kernel_rfl) (by kernel_rfl) (by kernel_rfl) (fun _ _ _ h => h) (Or.inl ⟨by rfl, ?_⟩) (by assumption) ?_
      · (intro w hSw; (try dsimp only at hSw); go_simp)
      simp only [Act.put, List.setIfInBounds_toArray, List.set_cons_zero, List.set_cons_succ]
      refine takeH (i := 6) (some 20) (.pointer (some ⟨nb f.id, 0, none⟩)) rfl rfl (by kernel_rfl) (by kernel_rfl) (by kernel_rfl) (fun _ _ _ h => h) (Or.inl ⟨by rfl, ?_⟩) (by assumption) ?_
      · (intro w hSw; (try dsimp only at hSw); go_simp)
      simp only [Act.put, List.setIfInBounds_toArray, List.set_cons_zero, List.set_cons_succ]
      refine takeH (i := 7) (some 21) (.int .i64 (f.id : Int)) rfl rfl (by kernel_rfl) (by kernel_rfl) (by kernel_rfl) (fun _ _ _ h => h) (Or.inl ⟨by rfl, ?_⟩) (by assumption) ?_
      · (intro w hSw; (try dsimp only at hSw); go_simp)
      simp only [Act.put, List.setIfInBounds_toArray, List.set_cons_zero, List.set_cons_succ]
      refine wpAnyH_ready (rs := [8]) (by kernel_rfl) (by simp) ?_
      refine AllReadyH.cons (by simp only [List.getElem?_toArray, List.getElem?_cons_succ, List.getElem?_cons_zero]; rfl) (fun KK hK => ?_) AllReadyH.nil
      refine step_delete_run _ _ _ rfl _ _ _ _ rfl _ _ (by rfl) (by rfl) hr2 ?_
      refine hK.out _ _ ⟨p02, a02⟩ (fun hHeld => ?_)
      clear hK KK
      refine wpAnyH_done (by kernel_rfl) ?_ _
      clear hr2
      go_wp2_with fail
      refine wp_region_held_drew (S := (fun wx => wx.cell? ⟨p, 1, none⟩ = some (.map (some m2)) ∧ wx.cell? ⟨nb f.id, 1, none⟩ = some (.int .i64 f.sp) ∧ wx.cell? ⟨nb f.id, 2, none⟩ = some (.int .i64 f.sl))) (by kernel_rfl) ⟨p12, a12, a22⟩ (fun hHeld => ?_)
      refine takeH (i := 0) (some 22) (.pointer (some ⟨p, 0, none⟩)) rfl rfl (by kernel_rfl) (by kernel_rfl) (by kernel_rfl) (fun _ _ _ h => h) (Or.inl ⟨by rfl, ?_⟩) (by assumption) ?_
      · (intro w hSw; (try dsimp only at hSw); go_simp)
      simp only [Act.put, List.setIfInBounds_toArray, List.set_cons_zero, List.set_cons_succ]
      refine takeH (i := 1) (some 23) (.pointer (some ⟨p, 0, none⟩)) rfl rfl (by kernel_rfl) (by kernel_rfl) (by kernel_rfl) (fun _ _ _ h => h) (Or.inl ⟨by rfl, ?_⟩) (by assumption) ?_
      · (intro w hSw; (try dsimp only at hSw); go_simp)
      simp only [Act.put, List.setIfInBounds_toArray, List.set_cons_zero, List.set_cons_succ]
      refine takeH (i := 2) (some 24) (.pointer (some ⟨p, 1, none⟩)) rfl rfl (by kernel_rfl) (by kernel_rfl) (by kernel_rfl) (fun _ _ _ h => h) (Or.inl ⟨by rfl, ?_⟩) (by assumption) ?_
      · (intro w hSw; (try dsimp only at hSw); go_simp)
      simp only [Act.put, List.setIfInBounds_toArray, List.set_cons_zero, List.set_cons_succ]
      refine takeH (i := 3) (some 25) (.map (some m2)) rfl rfl (by kernel_rfl) (by kernel_rfl) (by kernel_rfl) (fun _ _ _ h => h) (Or.inl ⟨by rfl, ?_⟩) (by assumption) ?_
      · (intro w hSw; (try dsimp only at hSw); go_simp)
      simp only [Act.put, List.setIfInBounds_toArray, List.set_cons_zero, List.set_cons_succ]
      refine takeH (i := 4) (some 26) (.pointer (some ⟨nb f.id, 0, none⟩)) rfl rfl (by kernel_rfl) (by kernel_rfl) (by kernel_rfl) (fun _ _ _ h => h) (Or.inl ⟨by rfl, ?_⟩) (by assumption) ?_
      · (intro w hSw; (try dsimp only at hSw); go_simp)
      simp only [Act.put, List.setIfInBounds_toArray, List.set_cons_zero, List.set_cons_succ]
      refine takeH (i := 5) (some 27) (.pointer (some ⟨nb f.id, 0, none⟩)) rfl rfl (by kernel_rfl) (by kernel_rfl) (by kernel_rfl) (fun _ _ _ h => h) (Or.inl ⟨by rfl, ?_⟩) (by assumption) ?_
      · (intro w hSw; (try dsimp only at hSw); go_simp)
      simp only [Act.put, List.setIfInBounds_toArray, List.set_cons_zero, List.set_cons_succ]
      refine takeH (i := 6) (some 28) (.pointer (some ⟨nb f.id, 1, none⟩)) rfl rfl (by kernel_rfl) (by kernel_rfl) (by kernel_rfl) (fun _ _ _ h => h) (Or.inl ⟨by rfl, ?_⟩) (by assumption) ?_
      · (intro w hSw; (try dsimp only at hSw); go_simp)
      simp only [Act.put, List.setIfInBounds_toArray, List.set_cons_zero, List.set_cons_succ]
      refine takeH (i := 7) (some 29) (spot f.sp f.sl) rfl rfl (by kernel_rfl) (by kernel_rfl) (by kernel_rfl) (fun _ _ _ h => h) (Or.inl ⟨by rfl, ?_⟩) (by assumption) ?_
      · (intro w hSw; (try dsimp only at hSw); go_simp)
      simp only [Act.put, List.setIfInBounds_toArray, List.set_cons_zero, List.set_cons_succ]
      refine wpAnyH_ready (rs := [8]) (by kernel_rfl) (by simp) ?_
      refine AllReadyH.cons (by simp only [List.getElem?_toArray, List.getElem?_cons_succ, List.getElem?_cons_zero]; rfl) (fun KK hK => ?_) AllReadyH.nil
      refine step_delete_run _ _ _ rfl _ _ _ _ rfl _ _ (by rfl) (by rfl) hr3 ?_
      refine hK.out _ _ ⟨p13, a13, a23⟩ (fun hHeld => ?_)
      clear hK KK
      refine wpAnyH_done (by kernel_rfl) ?_ _
      clear hr3
      go_wp2_with (at_builtin; refine wpList_append_run rfl _ _ 36 36 rfl _ _ _ rfl rfl hr4 ?_)
      refine ⟨⟨k + 1, by have := HZ.out; omega, by go_num, a4, cap4, n2 + 1, rfl, HN, H4⟩, by have := HZ.out; simp [intOf]; omega⟩
    · obtain rfl : k = l.length := by omega
      rw [List.take_length] at hS
      have hd : n2 = l.length := hn2'.out
      subst hd
      go_wp2_with fail
      go_ret
      exact ⟨_, _, rfl, hS.out.row, hS.out.fm, hS.out.turn⟩
/-- New. -/
theorem new_any (w : World) : Calls Try.prog 19 #[] w fun en w' => en = .returned (ptr (w.heap.size + 2)) ∧ Fo w' (w.heap.size + 2) w.heap.size (w.heap.size + 1) (fun _ => 0) 0 [] ∧ Below w.heap.size w w' := by
  have hmm := @run_makeMap Try.prog
  go_enter Try.func19, Try.ntmps19
  go_wp2
  go_ret
  have e0 : (w.alloc (Obj.map #[] 0)).heap.size = w.heap.size + 1 := by simp
  have e1 : ((w.alloc (Obj.map #[] 0)).alloc (Obj.map #[] 0)).heap.size = w.heap.size + 2 := by simp
  have n1 := mp_made Try.prog 3 w
  have n2 := mp_made Try.prog 44 (w.alloc (Obj.map #[] 0))
  rw [e0] at n2
  have key := heap_alloc_new ((w.alloc (Obj.map #[] 0)).alloc (Obj.map #[] 0)) (Obj.cells #[.map (some w.heap.size), .map (some (w.heap.size + 1)), .int .i64 0] 64)
  rw [e1] at key
  refine ⟨rfl, ⟨key, ?_, ?_, fun e he => by simp at he, fun a ha => by simp at ha, Wf.nil 0, by omega, fun e he => by simp at he, by omega⟩, (((Below.refl _ w).alloc (Nat.le_refl _) _).alloc (by simp) _).alloc (by simp; omega) _⟩
  · refine (n1.other ?_).congr (fun v b => ⟨fun h => h.elim, fun ⟨e, he, _⟩ => by simp at he⟩)
    rw [Below.heap_alloc _ _ _ (by simp; omega), Below.heap_alloc _ _ _ (by simp)]
  · refine (n2.other ?_).congr (fun v b => ⟨fun h => h.elim, fun ⟨e, he, _⟩ => by simp at he⟩)
    rw [Below.heap_alloc _ _ _ (by simp)]
end
end Go.Proofs.Ytiechmcfafhfaaa
