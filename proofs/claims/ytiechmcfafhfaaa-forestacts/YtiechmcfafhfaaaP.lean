/- The contract of Lift: a node goes, and its children come to its parent. -/
import Derived.Test.YtiechmcfafhfaaaN
namespace Go.Proofs.Ytiechmcfafhfaaa
open Go.RowKit Go.Maps Go.Shelf

/-- The node of that number comes to a parent. -/
def mv (L : List Nd) (k q : Nat) : List Nd := match L.find? (fun e => e.id == k) with
  | some e => move L e q
  | none => L
/-- What Lift leaves. -/
def lifted (L : List Nd) (i q : Nat) : List Nd := (kids L i).foldl (fun M k => mv M k q) (less L [i])
section
variable {w w' : World} {p m1 m2 : Nat} {nb : Nat → Nat} {L P : List Nd} {last : Nat} {e : Nd}
theorem find_of {L : List Nd} (h : L.Pairwise (fun a b => a.id ≠ b.id)) {f : Nd} (hf : f ∈ L) : L.find? (fun e => e.id == f.id) = some f := by
  cases hf2 : L.find? (fun x => x.id == f.id) with
  | none => exact absurd (List.find?_eq_none.1 hf2 f hf) (by simp)
  | some g =>
    have h1 : g.id = f.id := by simpa using List.find?_some hf2
    rw [pair_inj (fun _ _ h => Ne.symm h) h (List.mem_of_find?_eq_some hf2) hf (fun hn => hn h1)]
theorem mv_of {L : List Nd} (h : L.Pairwise (fun a b => a.id ≠ b.id)) {f : Nd} (hf : f ∈ L) (q : Nat) : mv L f.id q = move L f q := by unfold mv; rw [find_of h hf]
/-- A child leaves, and comes: with and without the node that goes. -/
theorem less_mv (h : P.Pairwise (fun a b => a.id ≠ b.id)) {f : Nd} (hf : f ∈ P) {i : Nat} (hi : f.id ≠ i) (q : Nat) : less (move (move P f 0) { f with par := 0 } q) [i] = mv (less P [i]) f.id q := by
  rw [mv_of (L := less P [i]) (h.sublist List.filter_sublist) (mem_less.2 ⟨hf, by simpa using hi⟩)]
  unfold less move
  simp only [List.filter_append, List.filter_filter, List.filter_cons, List.filter_nil]
  simp [hi]
  apply List.filter_congr
  intro x _
  by_cases h1 : x.id = f.id <;> by_cases h2 : x.id = i <;> simp [h1, h2]
/-- Where Lift's loop stands. -/
structure Lf (w0 w : World) (nb : Nat → Nat) (last : Nat) (L P R : List Nd) (i : Nat) (r : List Nat) : Prop where
  alike : Alike L P
  wf : Wf P last
  links : Links w nb P
  turn : Turn (NOwn nb L) w0 w
  rest : less P [i] = R
  left : kids P i = r
  root : ∀ f ∈ P, f.id = i → f.par = 0
theorem Lf.same {R : List Nd} {i : Nat} {r : List Nat} {w0 : World} (h : Lf w0 w nb last L P R i r) (hb : Below w.heap.size w w') : Lf w0 w' nb last L P R i r :=
  ⟨h.alike, h.wf, h.links.below hb (Nat.le_refl _), h.turn.bel hb, h.rest, h.left, h.root⟩
/-- A child leaves the node that goes, and comes to its parent. -/
theorem Lf.step {R : List Nd} {i q x : Nat} {r : List Nat} {w0 : World} (h : Lf w0 w nb last L P R i (x :: r)) (ho : Own1 nb L) (hqi : q < i) (hq : q = 0 ∨ ∃ f ∈ L, f.id = q) :
    ∃ f ∈ P, f.id = x ∧ Calls Try.prog 31 #[ptr (nb x)] w (LinkPost w nb P (move P f 0)) ∧
      ∀ en1 w1, LinkPost w nb P (move P f 0) en1 w1 → Calls Try.prog 30 #[ptr (nb x), pptr nb q] w1 (LinkPost w1 nb (move P f 0) (move (move P f 0) { f with par := 0 } q)) ∧
        ∀ en2 w2, LinkPost w1 nb (move P f 0) (move (move P f 0) { f with par := 0 } q) en2 w2 → Lf w0 w2 nb last L (move (move P f 0) { f with par := 0 } q) (mv R x q) i r ∧ Turn (NOwn nb L) w w2 := by
  have hx : x ∈ kids P i := by rw [h.left]; simp
  obtain ⟨_, f, hf, rfl, hfp⟩ := mem_kids.1 hx
  have hlt := h.wf.kid hx
  have hfi : f.id ≠ i := by omega
  have hoP := ho.alike h.alike
  have a1 := h.wf.alike hf 0
  have w1f : Wf (move P f 0) last := h.wf.move hf (by omega) (.inl rfl)
  have hf0 : ({ f with par := 0 } : Nd) ∈ move P f 0 := mem_move.2 (.inr rfl)
  have inP1 : ∀ y, (∃ g ∈ L, g.id = y) → ∃ g ∈ move P f 0, g.id = y := by
    rintro y ⟨g, hg, rfl⟩
    obtain ⟨g1, hg1, e1, _⟩ := h.alike.symm.mem hg
    obtain ⟨g2, hg2, e2, _⟩ := a1.symm.mem hg1
    exact ⟨g2, hg2, e2.trans e1⟩
  have hq1 : q = 0 ∨ ∃ g ∈ move P f 0, g.id = q := hq.imp id (inP1 q)
  have w2f : Wf (move (move P f 0) { f with par := 0 } q) last := w1f.move hf0 (by show q < f.id; omega) hq1
  refine ⟨f, hf, rfl, leave_any h.links h.wf hoP hf, ?_⟩
  rintro en1 w1 ⟨_, hL1, hT1, _⟩
  refine ⟨join_any hL1 w1f (hoP.alike a1) hf0 rfl hq1 (by show q < f.id; omega), ?_⟩
  rintro en2 w2 ⟨_, hL2, hT2, _⟩
  have tP : ∀ k, NOwn nb P k → NOwn nb L k := fun k hk => hk.alike h.alike
  have tP1 : ∀ k, NOwn nb (move P f 0) k → NOwn nb L k := fun k hk => tP k (hk.alike a1)
  have T1 : Turn (NOwn nb L) w w2 := (hT1.wide tP).trans (hT2.wide tP1)
  have a2 := w1f.alike hf0 q
  refine ⟨⟨?_, w2f, hL2, h.turn.trans T1, ?_, ?_, ?_⟩, T1⟩
  · exact h.alike.trans (a1.trans a2)
  · rw [less_mv h.wf.ids hf hfi q, h.rest]
  · rw [kids_move, kids_move, if_neg (by omega), if_neg (by omega), List.append_nil, List.append_nil, h.left]
    have hnd := h.wf.kids_nodup i
    rw [h.left] at hnd
    obtain ⟨n1, _⟩ := List.nodup_cons.1 hnd
    rw [List.filter_cons_of_neg (by simp), filter_none n1, filter_none n1]
  · intro g hg hgi
    rcases mem_move.1 hg with ⟨h1, h2⟩ | rfl
    · rcases mem_move.1 h1 with ⟨h3, _⟩ | rfl
      · exact h.root g h3 hgi
      · rfl
    · exact absurd hgi hfi
/-- What the lift leaves. -/
def LiftPost (w : World) (p m1 m2 : Nat) (nb : Nat → Nat) (last : Nat) (L : List Nd) (i q : Nat) (en : Ending) (w' : World) : Prop :=
  en = .returned (.int .i64 0) ∧ Fo w' p m1 m2 nb last (lifted L i q) ∧ Turn (FOwn p m1 m2 nb L) w w'
set_option maxRecDepth 100000 in
set_option maxHeartbeats 1000000 in
theorem lift_hit (h : Fo w p m1 m2 nb last L) (he : e ∈ L) : Calls Try.prog 11 #[ptr p, .int .i64 (e.id : Int)] w (LiftPost w p m1 m2 nb last L e.id e.par) := by
  have h0 : e.id ≠ 0 := by have := (h.wf.lo e he).1; omega
  have hpe := (h.wf.par e he)
  have hal := h.wf.alike he 0
  have hWm : Wf (move L e 0) last := h.wf.move he (by omega) (.inl rfl)
  have hem : ({ e with par := 0 } : Nd) ∈ move L e 0 := mem_move.2 (.inr rfl)
  have hkm : kids (move L e 0) e.id = kids L e.id := by
    rw [kids_move, if_neg (by omega), List.append_nil, filter_none]
    intro hm
    have := (h.wf.kid hm).1
    omega
  have hst0 : ∀ w1 en, LinkPost w nb L (move L e 0) en w1 → Lf w w1 nb last L (move L e 0) (less L [e.id]) e.id (kids L e.id) := by
    rintro w1 en ⟨_, h2, h3, _⟩
    refine ⟨hal, hWm, h2, h3, less_move e 0 (by simp), hkm, fun g hg hgi => ?_⟩
    rcases mem_move.1 hg with ⟨_, h4⟩ | rfl
    · exact absurd hgi h4
    · rfl
  have hkids : ∀ w1 en, LinkPost w nb L (move L e 0) en w1 → Calls Try.prog 32 #[ptr (nb e.id)] w1 (RowPost w1 nb (kids L e.id)) := by
    rintro w1 en ⟨_, h2, _⟩
    have := kids_any h2 hWm h.few hem
    rw [← hkm]
    exact this
  have hfin : ∀ W P, Lf w W nb last L P (lifted L e.id e.par) e.id [] → Calls Try.prog 33 #[ptr p, .slice (some ⟨W.heap.size, 0, none⟩) 1 1] (W.alloc (.cells #[ptr (nb e.id)] 59)) fun en w' => ∃ a cap, en = .returned (.slice a 1 cap) ∧ Fo w' p m1 m2 nb last (lifted L e.id e.par) ∧ Turn (FOwn p m1 m2 nb L) w w' := by
    intro W P hS
    have hnew := heap_alloc_new W (.cells #[ptr (nb e.id)] 59)
    have hL5 : Links (W.alloc (.cells #[ptr (nb e.id)] 59)) nb (lifted L e.id e.par) := by
      rw [← hS.rest]
      refine (links_less hS.links ?_ ?_).other (fun f hf => Below.heap_alloc _ _ _ (hS.links.lt (mem_less.1 hf).1))
      · intro f hf hp
        have : f.id ∈ kids P e.id := mem_kids.2 ⟨h0, f, hf, rfl, by simpa using hp⟩
        rw [hS.left] at this
        cases this
      · intro f hf hd hp
        exact absurd (hS.root f hf (by simpa using hd)) hp
    have hR : Alike (less L [e.id]) (lifted L e.id e.par) := by rw [← hS.rest]; exact hS.alike.less _
    have hRw : Wf (lifted L e.id e.par) last := by
      rw [← hS.rest]
      refine hS.wf.less (fun f hf hp => ?_)
      have : f.id ∈ kids P e.id := mem_kids.2 ⟨h0, f, hf, rfl, by simpa using hp⟩
      rw [hS.left] at this
      cases this
    refine (gone_any (D := [e.id]) h hL5 hR hRw ((hS.turn).alloc _) (hS.turn.size) ?_ (by simp) (by simp) (fun x hx => ?_)).mono ?_
    · refine ⟨by simp [prow], .inr ⟨W.heap.size, 0, 1, rfl, Nat.le_refl _, by simp, Nat.le_refl _, by unfold maxLen; omega, fun j hj => ?_, fun j u hu => ?_⟩⟩
      · obtain rfl : j = 0 := by omega
        refine ⟨by rw [cell_of_row _ _ _ _ _ _ hnew]; rfl, frozen_of_row _ _ _ _ _ hnew⟩
      · obtain rfl : j = 0 := by have := (List.getElem?_eq_some_iff.1 hu).1; simp [prow] at this; omega
        rw [cell_of_row _ _ _ _ _ _ hnew, ← hu]
        rfl
    · obtain rfl := List.mem_singleton.1 hx
      obtain ⟨g, hg, e1, e2, e3⟩ := hS.alike.symm.mem he
      have H := (hS.links g hg).other (w' := W.alloc (.cells #[ptr (nb e.id)] 59)) (Below.heap_alloc _ _ _ (hS.links.lt hg))
      have c0 := H.c0
      have c1 := H.c1
      have c2 := H.c2
      rw [e1] at c0 c1 c2
      rw [e2] at c1
      rw [e3] at c2
      exact ⟨e, he, rfl, c0, c1, c2⟩
    · rintro en w' ⟨a, cap, rfl, _, hf2, ht2⟩
      exact ⟨a, cap, rfl, hf2, ht2⟩
  have hn := hid (node_hit h he)
  have c3 : w.cell? ⟨nb e.id, 3, none⟩ = some (pptr nb e.par) := (h.links e he).c3
  have hv := hid (leave_any h.links h.wf h.own1 he)
  have HST := hid hst0
  have HK := hid hkids
  have HFN := hid hfin
  have HLN := hid (show ∀ k, NOwn nb L k → k < w.heap.size from fun k ⟨f, hf, e1⟩ => by rw [e1]; exact h.links.lt hf)
  have HSP := hid (fun (w0 w1 : World) (P R : List Nd) (x : Nat) (r : List Nat) (hS : Lf w0 w1 nb last L P R e.id (x :: r)) => hS.step h.own1 hpe.1 hpe.2)
  have hkl : (kids L e.id).length ≤ 400 := by have := h.wf.kids_len e.id; have := h.len; omega
  have HLI : Hid (lifted L e.id e.par = (kids L e.id).foldl (fun M k => mv M k e.par) (less L [e.id])) := hid rfl
  clear h he h0 hpe hal hWm hem hkm hst0 hkids hfin
  generalize hRL : lifted L e.id e.par = RL at *
  have HRL := hid hRL
  clear hRL
  generalize kids L e.id = l at *
  generalize less L [e.id] = R0 at *
  obtain ⟨n, hnn⟩ : ∃ n, n = nb e.id := ⟨_, rfl⟩
  rw [← hnn] at hn c3 HK hv HFN
  clear hnn
  obtain ⟨pv, hpv⟩ : ∃ pv, pv = pptr nb e.par := ⟨_, rfl⟩
  rw [← hpv] at c3 HSP
  clear hpv
  obtain ⟨x, hx⟩ : ∃ x, x = ((e.id : Nat) : Int) := ⟨_, rfl⟩
  rw [← hx] at hn ⊢
  clear hx
  go_enter Try.func11, Try.ntmps11
  go_wp2_with (first
    | (go_at_call 29; refine hn.out.mono ?_; rintro en w1 ⟨rfl, ew⟩; rw [ew]; clear ew)
    | (go_at_call 31; refine hv.out.mono ?_; intro en w2 h2; have H2 := hid h2; obtain ⟨rfl, _⟩ := h2)
    | (go_at_call 32; refine (HK.out _ _ H2.out).mono ?_; rintro en w3 ⟨a, cap, rfl, ho, hb⟩; have HO := hid ho; have HS3 := hid ((HST.out _ _ H2.out).same hb); have HB := hid hb; clear ho hb))
  have HZ := hid (show w.heap.size ≤ w2.heap.size by rw [H2.out.2.2.2]; exact Nat.le_refl _)
  go_loopw [25] (fun c wr => ∃ k : Nat, k ≤ l.length ∧ c = .int .i64 (k : Int) ∧ Hid (∃ P, Lf w wr nb last L P ((l.take k).foldl (fun M k => mv M k e.par) R0) e.id (l.drop k)) ∧ Hid (OR wr w2.heap.size 1 (.slice a l.length cap) l.length (prow nb l))) (fun c _ => l.length - (intOf c).toNat)
  case atStart => exact ⟨0, Nat.zero_le _, rfl, ⟨_, HS3.out⟩, HO.out⟩
  case round =>
    obtain ⟨k, hk, rfl, hS, hO⟩ := hrel
    by_cases hlt : k < l.length
    · have hk2 := List.getElem?_eq_getElem hlt
      obtain ⟨x, hx⟩ : ∃ x, x = l[k] := ⟨_, rfl⟩
      rw [← hx] at hk2
      obtain ⟨g, off, rfl, _, cx⟩ := hO.out.at (prow_at (nb := nb) hk2)
      obtain ⟨P, hP⟩ := hS.out
      have ed : l.drop k = x :: l.drop (k + 1) := by rw [List.drop_eq_getElem_cons hlt, ← hx]
      have et : (l.take (k + 1)).foldl (fun M k => mv M k e.par) R0 = mv ((l.take k).foldl (fun M k => mv M k e.par) R0) x e.par := by
        rw [List.take_add_one, hk2, List.foldl_append]; rfl
      rw [ed] at hP
      obtain ⟨f, hf, hfx, hc1, hrest⟩ := HSP.out _ _ _ _ _ _ hP
      rw [← et] at hrest
      have HC1 := hid hc1
      have HRS := hid hrest
      have HO2 := hid (fun (wb : World) (hT : Turn (NOwn nb L) wr wb) => hO.out.other hT.size (fun g e2 => hT.block g (hO.out.own g e2).2 (fun h3 => by have := HLN.out g h3; have := (hO.out.own g e2).1; have := HZ.out; omega)))
      have hk0 : (0 : Int) ≤ (k : Int) := by omega
      have hk1 : (k : Int) < (l.length : Int) := by omega
      have HLT := hid hlt
      clear hk2 hx hS hO hP ed et hf hfx hc1 hrest hlt HK HFN HST HSP HS3 HO HB hn hv H2 HLI
      go_wp2_with (first
        | (go_at_call 31; refine HC1.out.mono ?_; intro en wa ha; have HA := hid ha; obtain ⟨rfl, _⟩ := ha; obtain ⟨hj, hj2⟩ := HRS.out _ _ HA.out; have HJ := hid hj; have HJ2 := hid hj2; clear hj hj2)
        | (go_at_call 30; refine HJ.out.mono ?_; intro en wb hb; have HB := hid hb; obtain ⟨rfl, _⟩ := hb; obtain ⟨hz1, hz2⟩ := HJ2.out _ _ HB.out; have HZ1 := hid hz1; have HZ2 := hid (HO2.out _ hz2); clear hz1 hz2))
      refine ⟨⟨k + 1, by have := HLT.out; omega, by go_num, ⟨_, HZ1.out⟩, HZ2⟩, by have := HLT.out; simp [intOf]; omega⟩
    · obtain rfl : k = l.length := by omega
      rw [List.take_length, List.drop_length] at hS
      obtain ⟨P, hP⟩ := hS.out
      rw [← HLI.out] at hP
      have hq := hid (HFN.out wr P hP)
      clear hP hS hO HK HFN HST HSP HS3 HO HB hn hv H2 HLI hlt
      go_wp2_with (go_at_call 33; refine hq.out.mono ?_; rintro en w9 ⟨a9, cap9, rfl, hf9, ht9⟩; have HF9 := hid (And.intro hf9 ht9); clear hf9 ht9)
      go_ret
      rw [← HRL.out] at HF9
      exact ⟨rfl, HF9.out⟩
theorem lift_miss (h : Fo w p m1 m2 nb last L) {x : Int} (hx : I64 x) (hn : ¬ There L x) : Calls Try.prog 11 #[ptr p, .int .i64 x] w fun en w' => en = .returned (.int .i64 6) ∧ w' = w := by
  have hn := hid (node_miss h hx hn)
  clear h
  go_enter Try.func11, Try.ntmps11
  go_wp2_with (go_at_call 29; refine hn.out.mono ?_; rintro en w1 ⟨rfl, rfl⟩)
  go_ret
  exact ⟨rfl, rfl⟩
theorem lift_nil (x : Int) (w : World) : Calls Try.prog 11 #[.pointer none, .int .i64 x] w fun en w' => en = .returned (.int .i64 1) ∧ w' = w := by
  go_enter Try.func11, Try.ntmps11
  go_wp2_with fail
  go_ret
  exact ⟨rfl, rfl⟩
end
end Go.Proofs.Ytiechmcfafhfaaa
