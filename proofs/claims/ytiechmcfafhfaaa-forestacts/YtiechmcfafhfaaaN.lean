/- The contracts of Cut and Remove. -/
import Derived.Test.YtiechmcfafhfaaaK
namespace Go.Proofs.Ytiechmcfafhfaaa
open Go.RowKit Go.Maps Go.Shelf

/-- Owners are answered, of those that went; the others are left. -/
def WentPost (w : World) (p m1 m2 : Nat) (nb : Nat → Nat) (last : Nat) (L : List Nd) (l : List Nat) (en : Ending) (w' : World) : Prop :=
  ∃ a cap, en = .returned (.slice a l.length cap) ∧ OR w' w.heap.size 2 (.slice a l.length cap) l.length (flat (l.map (ownOf L))) ∧ Fo w' p m1 m2 nb last (less L l) ∧ Turn (FOwn p m1 m2 nb L) w w'
section
variable {w w' : World} {p m1 m2 : Nat} {nb : Nat → Nat} {L P : List Nd} {last : Nat} {e : Nd}
theorem OR.base {base b2 size n : Nat} {v : Value} {xs : List Value} (h : OR w base size v n xs) (hb : b2 ≤ base) : OR w b2 size v n xs := by
  refine ⟨h.len, ?_⟩
  rcases h.form with h1 | ⟨g, off, c, e1, e2, r⟩
  · exact .inl h1
  · exact .inr ⟨g, off, c, e1, Nat.le_trans hb e2, r⟩
/-- What forget does to a forest whose links are told already. -/
theorem gone_any {W : World} {D : List Nat} {R : List Nd} (h : Fo w p m1 m2 nb last L) (hLk : Links W nb R) (hR : Alike (less L D) R) (hRw : Wf R last) (hT : Turn (NOwn nb L) w W) {base : Nat} {a : Option Addr} {cap : Nat} (hbase : w.heap.size ≤ base)
    (hO : OR W base 1 (.slice a D.length cap) D.length (prow nb D)) (hl : D.length ≤ 400) (hnd : D.Nodup)
    (hin : ∀ x ∈ D, ∃ f ∈ L, f.id = x ∧ W.cell? ⟨nb x, 0, none⟩ = some (.int .i64 (x : Int)) ∧ W.cell? ⟨nb x, 1, none⟩ = some (.int .i64 f.sp) ∧ W.cell? ⟨nb x, 2, none⟩ = some (.int .i64 f.sl)) :
    Calls Try.prog 33 #[ptr p, .slice a D.length cap] W fun en w' => ∃ a cap, en = .returned (.slice a D.length cap) ∧ OR w' w.heap.size 2 (.slice a D.length cap) D.length (flat (D.map (ownOf L))) ∧ Fo w' p m1 m2 nb last R ∧ Turn (FOwn p m1 m2 nb L) w w' := by
  have hnp : ¬ NOwn nb L p := by rintro ⟨f, hf, e2⟩; exact h.np hf e2.symm
  have hn1 : ¬ NOwn nb L m1 := by rintro ⟨f, hf, e2⟩; exact h.n1 hf e2.symm
  have hn2 : ¬ NOwn nb L m2 := by rintro ⟨f, hf, e2⟩; exact h.n2 hf e2.symm
  have hfm : FM W p m1 m2 nb last L := h.fm.other (hT.block _ (lt_of h.head) hnp) (hT.block _ h.nodes.lt hn1) (hT.block _ h.owners.lt hn2)
  refine (forget_any hfm h.wf h.mm (fun f hf => ⟨(h.sane f hf).1, (h.sane f hf).2, h.id64 hf⟩) hO (fun g e => ?_) hl hnd (fun x hx => ?_)).mono ?_
  · have := (hO.own g e).1
    have := h.nodes.lt
    have := h.owners.lt
    omega
  · obtain ⟨f, hf, e1, e2⟩ := hin x hx
    subst e1
    exact ⟨f, hf, rfl, e2.1, e2.2.1, e2.2.2, by have := h.links.lt hf; have := hT.size; omega, h.n1 hf, h.n2 hf⟩
  · rintro en w' ⟨a2, cap2, rfl, ho2, hf2, ht2⟩
    have back : ∀ f ∈ R, ∃ g ∈ L, g.id = f.id ∧ g.sp = f.sp ∧ g.sl = f.sl := fun f hf => by
      obtain ⟨g, hg, e1⟩ := hR.mem hf
      exact ⟨g, (mem_less.1 hg).1, e1⟩
    have hLk2 : Links w' nb R := by
      refine hLk.other (fun f hf => ht2.block _ (hLk.lt hf) ?_)
      obtain ⟨g, hg, e1, _⟩ := back f hf
      rw [← e1]
      rintro (e2 | e2)
      · exact h.n1 hg e2
      · exact h.n2 hg e2
    have hf3 := hf2.alike hR
    refine ⟨a2, cap2, rfl, ho2.base hT.size, ⟨hf3.head, hf3.nodes, hf3.owners, hLk2, (h.own1.less D).alike hR, hRw, h.mm, fun f hf => ?_, h.few⟩, ?_⟩
    · obtain ⟨g, hg, _, e2, e3⟩ := back f hf
      rw [← e2, ← e3]
      exact h.sane g hg
    refine ⟨ht2.os.trans hT.os, ht2.tape.trans hT.tape, ht2.output.trans hT.output, Nat.le_trans hT.size ht2.size, fun k hk hn => ?_⟩
    refine (ht2.block k (by have := hT.size; omega) (fun e2 => hn ?_)).trans (hT.block k hk (fun e2 => hn (.inr (.inr (.inr e2)))))
    rcases e2 with e2 | e2
    · exact .inr (.inl e2)
    · exact .inr (.inr (.inl e2))
theorem gone_went {W : World} {D : List Nat} (h : Fo w p m1 m2 nb last L) (hLk : Links W nb (less P D)) (hP : less P D = less L D) (hT : Turn (NOwn nb L) w W) (hcl : ∀ f ∈ L, f.par ∈ D → f.id ∈ D) {base : Nat} {a : Option Addr} {cap : Nat} (hbase : w.heap.size ≤ base)
    (hO : OR W base 1 (.slice a D.length cap) D.length (prow nb D)) (hl : D.length ≤ 400) (hnd : D.Nodup)
    (hin : ∀ x ∈ D, ∃ f ∈ L, f.id = x ∧ W.cell? ⟨nb x, 0, none⟩ = some (.int .i64 (x : Int)) ∧ W.cell? ⟨nb x, 1, none⟩ = some (.int .i64 f.sp) ∧ W.cell? ⟨nb x, 2, none⟩ = some (.int .i64 f.sl)) :
    Calls Try.prog 33 #[ptr p, .slice a D.length cap] W (WentPost w p m1 m2 nb last L D) := by
  rw [hP] at hLk
  exact gone_any h hLk (Alike.refl _) (h.wf.less hcl) hT hbase hO hl hnd hin
theorem cut_forget (h : Fo w p m1 m2 nb last L) (he : e ∈ L) {w2 : World} {a : Option Addr} {cap : Nat} (hO : OR w2 w.heap.size 1 (.slice a (below L e.id).length cap) (below L e.id).length (prow nb (below L e.id))) (hb : Below w.heap.size w w2) :
    Calls Try.prog 33 #[ptr p, .slice a (below L e.id).length cap] ((w2.setCell ⟨nb e.id, 4, none⟩ (.pointer none)).setCell ⟨nb e.id, 5, none⟩ (.pointer none)) (WentPost w p m1 m2 nb last L (below L e.id)) := by
  have hL2 := h.links.below hb (Nat.le_refl _)
  have hlt := h.links.lt he
  have hT : Turn (NOwn nb L) w ((w2.setCell ⟨nb e.id, 4, none⟩ (.pointer none)).setCell ⟨nb e.id, 5, none⟩ (.pointer none)) := turn_set (turn_set (Turn.of_below hb) ⟨e, he, rfl⟩) ⟨e, he, rfl⟩
  refine gone_went h (links_cut hL2 h.wf h.few h.own1 he) rfl hT (fun f hf hp => (h.wf.down h.few f hf).1 hp) (Nat.le_refl _) ?_ (by have := h.wf.below_len e.id; have := h.len; omega) (h.wf.below_nodup _) (fun x hx => ?_)
  · refine hO.other (by simp) (fun g e2 => ?_)
    have := (hO.own g e2).1
    rw [Below.heap_setCell _ _ _ _ (show g ≠ nb e.id by omega), Below.heap_setCell _ _ _ _ (show g ≠ nb e.id by omega)]
  · obtain ⟨f, hf, e1⟩ := (h.wf.below_in hx).2.2
    subst e1
    have H := hL2 f hf
    have keep : ∀ k, k < 4 → ((w2.setCell ⟨nb e.id, 4, none⟩ (.pointer none)).setCell ⟨nb e.id, 5, none⟩ (.pointer none)).cell? ⟨nb f.id, k, none⟩ = w2.cell? ⟨nb f.id, k, none⟩ := by
      intro k hk
      rw [World.cell?_setCell_other _ _ _ _ (by intro e3; injection e3 with _ e4 _; omega), World.cell?_setCell_other _ _ _ _ (by intro e3; injection e3 with _ e4 _; omega)]
    exact ⟨f, hf, rfl, (keep 0 (by omega)).trans H.c0, (keep 1 (by omega)).trans H.c1, (keep 2 (by omega)).trans H.c2⟩
set_option maxRecDepth 100000 in
theorem cut_hit (h : Fo w p m1 m2 nb last L) (he : e ∈ L) : Calls Try.prog 17 #[ptr p, .int .i64 (e.id : Int)] w (WentPost w p m1 m2 nb last L (below L e.id)) := by
  have hn := hid (node_hit h he)
  have hk := hid (below_any h.links h.wf h.few he)
  have hc := hid (fun w2 (hb : Below w.heap.size w w2) => h.links.below hb (Nat.le_refl _) e he)
  have hg := hid (fun w2 a cap hO hb => cut_forget h he (w2 := w2) (a := a) (cap := cap) hO hb)
  clear h he
  generalize below L e.id = l at *
  obtain ⟨n, hnn⟩ : ∃ n, n = nb e.id := ⟨_, rfl⟩
  have HN := hid hnn
  rw [← hnn] at hn hk hg
  clear hnn
  generalize ((e.id : Nat) : Int) = x at *
  go_enter Try.func17, Try.ntmps17
  go_wp2_with (first
    | (go_at_call 29; refine hn.out.mono ?_; rintro en w1 ⟨rfl, rfl⟩)
    | (go_at_call 36; refine hk.out.mono ?_; rintro en w2 ⟨a, cap, rfl, ho, hb⟩; have H := hc.out w2 hb; have q4 := H.c4; have q5 := H.c5; have f4 := H.frozen 4; have f5 := H.frozen 5; rw [← HN.out] at q4 q5 f4 f5; have HB := hid hb; have HO := hid ho; clear ho hb H)
    | (go_at_call 33; refine (hg.out _ _ _ HO.out HB.out).mono ?_; intro en w3 h3; have H3 := hid h3; obtain ⟨a3, cap3, rfl, _⟩ := h3))
  go_ret
  exact H3.out
theorem cut_miss (h : Fo w p m1 m2 nb last L) {x : Int} (hx : I64 x) (hn : ¬ There L x) : Calls Try.prog 17 #[ptr p, .int .i64 x] w fun en w' => en = .returned (.slice none 0 0) ∧ w' = w := by
  have hn := hid (node_miss h hx hn)
  clear h
  go_enter Try.func17, Try.ntmps17
  go_wp2_with (go_at_call 29; refine hn.out.mono ?_; rintro en w1 ⟨rfl, rfl⟩)
  go_ret
  exact ⟨rfl, rfl⟩
theorem cut_nil (x : Int) (w : World) : Calls Try.prog 17 #[.pointer none, .int .i64 x] w fun en w' => en = .returned (.slice none 0 0) ∧ w' = w := by
  go_enter Try.func17, Try.ntmps17
  go_wp2_with (go_at_call 29; refine (node_nil _ _).mono ?_; rintro en w1 ⟨rfl, rfl⟩)
  go_ret
  exact ⟨rfl, rfl⟩
/-- All below a node, and itself. -/
abbrev gone (L : List Nd) (i : Nat) : List Nat := below L i ++ [i]
theorem rem_forget (h : Fo w p m1 m2 nb last L) (he : e ∈ L) {w3 w4 : World} {a : Option Addr} {cap : Nat} (hO : OR w3 w.heap.size 1 (.slice a (gone L e.id).length cap) (gone L e.id).length (prow nb (gone L e.id))) (hb : Below w.heap.size w w3) {en : Ending} (h4 : LinkPost w3 nb L (move L e 0) en w4) :
    Calls Try.prog 33 #[ptr p, .slice a (gone L e.id).length cap] w4 (WentPost w p m1 m2 nb last L (gone L e.id)) := by
  obtain ⟨_, hL4, hT4, hs4⟩ := h4
  have hal := h.wf.alike he 0
  have h0 : e.id ≠ 0 := by have := (h.wf.lo e he).1; omega
  have hT : Turn (NOwn nb L) w w4 := (Turn.of_below hb).trans hT4
  have hcl : ∀ f ∈ L, f.par ∈ gone L e.id → f.id ∈ gone L e.id := by
    intro f hf hp
    rcases List.mem_append.1 hp with h1 | h1
    · exact List.mem_append_left _ ((h.wf.down h.few f hf).1 h1)
    · exact List.mem_append_left _ ((h.wf.down h.few f hf).2 (List.mem_singleton.1 h1) h0)
  have hmem : e.id ∈ gone L e.id := List.mem_append_right _ (List.mem_singleton.2 rfl)
  have hz : (0 : Nat) ∉ gone L e.id := by
    intro hm
    rcases List.mem_append.1 hm with h1 | h1
    · have := (h.wf.below_in h1).1; omega
    · exact h0 (List.mem_singleton.1 h1).symm
  refine gone_went h (links_less hL4 ?_ ?_) (less_move e 0 hmem) hT hcl (Nat.le_refl _) ?_ (by have := h.wf.below_len e.id; have := h.len; simp; omega) ?_ (fun x hx => ?_)
  · intro f hf hp
    rcases mem_move.1 hf with ⟨h1, _⟩ | rfl
    · exact hcl f h1 hp
    · exact absurd hp hz
  · intro f hf hd hp
    rcases mem_move.1 hf with ⟨h1, h2⟩ | rfl
    · rcases List.mem_append.1 hd with h3 | h3
      · rcases h.wf.up f h1 h3 with h5 | h5
        · rw [h5]; exact hmem
        · exact List.mem_append_left _ h5
      · exact absurd (List.mem_singleton.1 h3) h2
    · exact absurd rfl hp
  · refine hO.other (by omega) (fun g e2 => hT4.block g (hO.own g e2).2 ?_)
    rintro ⟨f, hf, rfl⟩
    have := (hO.own _ e2).1
    have := h.links.lt hf
    omega
  · rw [List.nodup_append]
    exact ⟨h.wf.below_nodup _, by simp, fun a ha b hb => by
      obtain rfl := List.mem_singleton.1 hb
      have := (h.wf.below_in ha).1
      omega⟩
  · have hf : ∃ f ∈ L, f.id = x := by
      rcases List.mem_append.1 hx with h1 | h1
      · exact (h.wf.below_in h1).2.2
      · exact ⟨e, he, (List.mem_singleton.1 h1).symm⟩
    obtain ⟨f, hf, rfl⟩ := hf
    obtain ⟨g, hg, e1, e2, e3⟩ := hal.symm.mem hf
    have H := hL4 g hg
    exact ⟨f, hf, rfl, by rw [← e1]; exact H.c0, by rw [← e1, ← e2]; exact H.c1, by rw [← e1, ← e3]; exact H.c2⟩
set_option maxRecDepth 100000 in
theorem remove_hit (h : Fo w p m1 m2 nb last L) (he : e ∈ L) : Calls Try.prog 18 #[ptr p, .int .i64 (e.id : Int)] w (WentPost w p m1 m2 nb last L (gone L e.id)) := by
  have hn := hid (node_hit h he)
  have hk := hid (below_any h.links h.wf h.few he)
  have hA := hid (fun w2 a cap (ho : OR w2 w.heap.size 1 (.slice a (below L e.id).length cap) (below L e.id).length (prow nb (below L e.id))) (hb : Below w.heap.size w w2) => ptr_append ho (by have := h.wf.below_len e.id; have := h.len; omega) hb.size e.id w2.heap.size rfl)
  have hv := hid (fun w3 (hb : Below w.heap.size w w3) => leave_any (h.links.below hb (Nat.le_refl _)) h.wf h.own1 he)
  have hg := hid (fun w3 w4 a cap hO hb en h4 => rem_forget h he (w3 := w3) (w4 := w4) (a := a) (cap := cap) hO hb (en := en) h4)
  have hlen : Hid ((gone L e.id).length = (below L e.id).length + 1) := hid (by simp)
  clear h he
  unfold gone at *
  generalize below L e.id = l at *
  obtain ⟨n, hnn⟩ : ∃ n, n = nb e.id := ⟨_, rfl⟩
  rw [← hnn] at hn hk hA hv
  clear hnn
  obtain ⟨x, hx⟩ : ∃ x, x = ((e.id : Nat) : Int) := ⟨_, rfl⟩
  rw [← hx] at hn ⊢
  clear hx
  go_enter Try.func18, Try.ntmps18
  go_wp2_with (first
    | (go_at_call 29; refine hn.out.mono ?_; rintro en w1 ⟨rfl, rfl⟩)
    | (go_at_call 36; refine hk.out.mono ?_; rintro en w2 ⟨a, cap, rfl, ho, hb⟩; obtain ⟨a3, cap3, w3, hr3, ho3, hb3, _⟩ := hA.out w2 a cap ho hb; have HB := hid (hb.trans hb3); have HO := hid ho3; clear ho hb hb3 ho3)
    | (at_builtin; refine wpList_append_run rfl _ _ 68 68 rfl _ _ _ rfl rfl hr3 ?_)
    | (go_at_call 31; refine (hv.out _ HB.out).mono ?_; intro en w4 h4; have H4 := hid h4; obtain ⟨rfl, _⟩ := h4)
    | (go_at_call 33; rw [← hlen.out] at HO ⊢; refine (hg.out _ _ _ _ HO.out HB.out _ H4.out).mono ?_; intro en w5 h5; have H5 := hid h5; obtain ⟨a5, cap5, rfl, _⟩ := h5))
  go_ret
  rw [hlen.out] at H5
  exact H5.out
theorem remove_miss (h : Fo w p m1 m2 nb last L) {x : Int} (hx : I64 x) (hn : ¬ There L x) : Calls Try.prog 18 #[ptr p, .int .i64 x] w fun en w' => en = .returned (.slice none 0 0) ∧ w' = w := by
  have hn := hid (node_miss h hx hn)
  clear h
  go_enter Try.func18, Try.ntmps18
  go_wp2_with (go_at_call 29; refine hn.out.mono ?_; rintro en w1 ⟨rfl, rfl⟩)
  go_ret
  exact ⟨rfl, rfl⟩
theorem remove_nil (x : Int) (w : World) : Calls Try.prog 18 #[.pointer none, .int .i64 x] w fun en w' => en = .returned (.slice none 0 0) ∧ w' = w := by
  go_enter Try.func18, Try.ntmps18
  go_wp2_with (go_at_call 29; refine (node_nil _ _).mono ?_; rintro en w1 ⟨rfl, rfl⟩)
  go_ret
  exact ⟨rfl, rfl⟩
end
end Go.Proofs.Ytiechmcfafhfaaa
