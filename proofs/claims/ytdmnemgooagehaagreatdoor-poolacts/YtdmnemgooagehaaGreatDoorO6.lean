/- Both pools, the program's and the document's, of the same places. -/
import Derived.Test.YtdmnemgooagehaaGreatDoorO5
namespace Go.Proofs.YtdmnemgooagehaaGreatDoor
open Go.RowKit Go.Maps

theorem cls_one {c : Int} {k k' : Nat} (h : Cls c k) (h' : Cls c k') : k = k' := by have := h.1; have := h'.1; omega
theorem getOf_agree {B B1 B2 : St} {U U1 U2 : Nat → Pls} {l l1 l2 : List Qu.Fac} {f c a1 e1 a2 e2 : Int} (h1 : GetOf B U l f c B1 U1 l1 a1 e1) (h2 : GetOf B U l f c B2 U2 l2 a2 e2) : a1 = a2 ∧ e1 = e2 ∧ U1 = U2 ∧ l1 = l2 ∧ SameUsed B1 B2 := by
  rcases h1 with ⟨rfl, hne, rfl, rfl, rfl, h1⟩ | ⟨k, q, i, V, hk, rfl, rfl, hch, ht, hc, rfl, rfl⟩
  · rcases h2 with ⟨rfl, hne', rfl, rfl, rfl, h2⟩ | ⟨k', q', i', V', hk', rfl, rfl, hch', ht', hc', rfl, rfl⟩
    · refine ⟨rfl, ?_, rfl, rfl, SameUsed.refl _⟩
      rcases h1 with ⟨rfl, hn⟩ | ⟨k, hk, h1⟩
      · rcases h2 with ⟨rfl, _⟩ | ⟨k', hk', _⟩
        · rfl
        · exact (hn (by have := hk'.1; have := hk'.2; omega)).elim
      · rcases h2 with ⟨rfl, hn⟩ | ⟨k', hk', h2⟩
        · exact (hn (by have := hk.1; have := hk.2; omega)).elim
        · obtain rfl := cls_one hk hk'
          rcases h1 with h1 | ⟨rfl, h1, _⟩ <;> rcases h2 with h2 | ⟨rfl, h2, _⟩
          · exact h1.trans h2.symm
          · exact (hne (h1.trans h2)).elim
          · exact (hne' (h2.trans h1)).elim
          · rfl
    · exfalso
      rcases h1 with ⟨rfl, hn⟩ | ⟨k, hk, h1⟩
      · exact hn (by have := hk'.1; have := hk'.2; omega)
      · obtain rfl := cls_one hk hk'
        rcases h1 with h1 | ⟨rfl, h1, hno, hnf⟩
        · exact hne (h1.trans hch')
        · exact absurd (takeOf_agree (sz := cost k) (m := many k) (B := B1) (U := U1 k) (.inl ⟨rfl, rfl, hno, hnf, rfl, rfl⟩) (.inr ⟨q', i', rfl, rfl, ht', hc'⟩)).2.1 (by decide)
  · rcases h2 with ⟨rfl, hne', rfl, rfl, rfl, h2⟩ | ⟨k', q', i', V', hk', rfl, rfl, hch', ht', hc', rfl, rfl⟩
    · exfalso
      rcases h2 with ⟨rfl, hn⟩ | ⟨k', hk', h2⟩
      · exact hn (by have := hk.1; have := hk.2; omega)
      · obtain rfl := cls_one hk hk'
        rcases h2 with h2 | ⟨rfl, h2, hno, hnf⟩
        · exact hne' (h2.trans hch)
        · exact absurd (takeOf_agree (sz := cost k) (m := many k) (.inr ⟨q, i, rfl, rfl, ht, hc⟩) (.inl ⟨rfl, rfl, hno, hnf, rfl, rfl⟩)).2.1 (by decide)
    · obtain rfl := cls_one hk hk'
      obtain ⟨ha, _, hU, hu⟩ := takeOf_agree (sz := cost k) (m := many k) (.inr ⟨q, i, rfl, rfl, ht, hc⟩) (.inr ⟨q', i', rfl, rfl, ht', hc'⟩)
      subst hU
      exact ⟨ha, rfl, rfl, rfl, hu⟩
theorem putOf_agree {B B1 B2 : St} {U U1 U2 : Nat → Pls} {l l1 l2 : List Qu.Fac} {f c x e1 e2 : Int} (h1 : PutOf B U l f c x B1 U1 l1 e1) (h2 : PutOf B U l f c x B2 U2 l2 e2) : e1 = e2 ∧ U1 = U2 ∧ l1 = l2 ∧ SameUsed B1 B2 := by
  rcases h1 with ⟨hne, rfl, rfl, rfl, h1⟩ | ⟨k, q, i, V, hk, rfl, hch, hg, hx, hl, rfl, rfl⟩
  · rcases h2 with ⟨hne', rfl, rfl, rfl, h2⟩ | ⟨k', q', i', V', hk', rfl, hch', hg', hx', hl', rfl, rfl⟩
    · refine ⟨?_, rfl, rfl, SameUsed.refl _⟩
      rcases h1 with ⟨rfl, hn⟩ | ⟨k, hk, h1⟩
      · rcases h2 with ⟨rfl, _⟩ | ⟨k', hk', _⟩
        · rfl
        · exact (hn (by have := hk'.1; have := hk'.2; omega)).elim
      · rcases h2 with ⟨rfl, hn⟩ | ⟨k', hk', h2⟩
        · exact (hn (by have := hk.1; have := hk.2; omega)).elim
        · obtain rfl := cls_one hk hk'
          rcases h1 with ⟨rfl, h1⟩ | ⟨h1, q, i, a, b, d⟩ <;> rcases h2 with ⟨rfl, h2⟩ | ⟨h2, q', i', a', b', d'⟩
          · rfl
          · exact (h1 q' i' a' b' d').elim
          · exact (h2 q i a b d).elim
          · exact h1.trans h2.symm
    · exfalso
      rcases h1 with ⟨rfl, hn⟩ | ⟨k, hk, h1⟩
      · exact hn (by have := hk'.1; have := hk'.2; omega)
      · obtain rfl := cls_one hk hk'
        rcases h1 with ⟨rfl, h1⟩ | ⟨h1, _⟩
        · exact h1 q' i' hg'.lt hg'.used hx'
        · exact hne (h1.trans hch')
  · rcases h2 with ⟨hne', rfl, rfl, rfl, h2⟩ | ⟨k', q', i', V', hk', rfl, hch', hg', hx', hl', rfl, rfl⟩
    · exfalso
      rcases h2 with ⟨rfl, hn⟩ | ⟨k', hk', h2⟩
      · exact hn (by have := hk.1; have := hk.2; omega)
      · obtain rfl := cls_one hk hk'
        rcases h2 with ⟨rfl, h2⟩ | ⟨h2, _⟩
        · exact h2 q i hg.lt hg.used hx
        · exact hne' (h2.trans hch)
    · obtain rfl := cls_one hk hk'
      obtain ⟨_, hU, hu⟩ := giveOf_agree (sz_of (K := 6) hk.2.1 hk.2.2 (by omega) (by omega)) (.inr ⟨q, i, rfl, hg, hx, hl⟩) (.inr ⟨q', i', rfl, hg', hx', hl'⟩)
      subst hU
      exact ⟨rfl, rfl, rfl, hu⟩

/-- Between two acts; H: what is the law's own. -/
structure PaC (w0 : World) (G : Nat → Prop) (H : Nat → Prop) (P : Pp) (R : Rw) : Prop where
  gw : ∀ x, G x → w0.heap.size ≤ x
  hw : ∀ x, H x → w0.heap.size ≤ x
  gh : ∀ x, H x → ¬ G x
  kk : R.K = P.K
  k6 : 6 ≤ P.K
  k7 : P.K ≤ 14
def Pa (w0 w : World) (H : Nat → Prop) (P : Pp) (R : Rw) (v : Pv) : Prop :=
  ∃ G tg rg cap vF vB F Ub vS vU, PaC w0 G H P R ∧ Pw w0 w (fun x => G x ∨ H x) P v ∧ RefP w G tg R v.B v.U v.l v.nxt rg cap vF vB F Ub vS vU
/-- When the program has done it, and the document not yet. -/
def PaM (w0 w : World) (H : Nat → Prop) (P : Pp) (R : Rw) (v v1 : Pv) : Prop :=
  ∃ G tg rg cap vF vB F Ub vS vU, PaC w0 G H P R ∧ Pw w0 w (fun x => G x ∨ H x) P v1 ∧ RefP w G tg R v.B v.U v.l v.nxt rg cap vF vB F Ub vS vU ∧ Inv R.K v.B ∧ NoHeld v.B ∧ (∀ k, 1 ≤ k → k ≤ 7 → Fit v.B (v.U k) (many k) (2 ^ R.K)) ∧ Qu.Inv P.N v.l v.nxt
section
variable {w0 w w' : World} {H : Nat → Prop} {P : Pp} {R : Rw} {v v1 : Pv}
theorem Pa.b0 (h : Pa w0 w H P R v) : Below w0.heap.size w0 w := by
  obtain ⟨G, tg, rg, cap, vF, vB, F, Ub, vS, vU, hC, h1, h2⟩ := h
  exact h1.b0
theorem Pa.below (h : Pa w0 w H P R v) (hb : Below w.heap.size w w') : Pa w0 w' H P R v := by
  obtain ⟨G, tg, rg, cap, vF, vB, F, Ub, vS, vU, hC, h1, h2⟩ := h
  refine ⟨G, tg, rg, cap, vF, vB, F, Ub, vS, vU, hC, h1.below hb, h2.below (fun x hx => ?_) hb⟩
  obtain ⟨tag, _, _, _, h4⟩ := h1
  exact (h4 x (.inl hx)).1
theorem Pa.hlt (h : Pa w0 w H P R v) {x : Nat} (hx : H x) : x < w.heap.size := by
  obtain ⟨G, tg, rg, cap, vF, vB, F, Ub, vS, vU, hC, ⟨tag, _, _, _, h4⟩, h2⟩ := h
  exact (h4 x (.inr hx)).1
/-- What has just come is the law's. -/
theorem Pa.own (h : Pa w0 w (fun _ => False) P R v) (hb : Below w.heap.size w w') : Pa w0 w' (fun x => w.heap.size ≤ x ∧ x < w'.heap.size) P R v := by
  obtain ⟨G, tg, rg, cap, vF, vB, F, Ub, vS, vU, hC, h1, h2⟩ := h
  have hlt : ∀ x, G x → x < w.heap.size := fun x hx => by
    obtain ⟨tag, _, _, _, h4⟩ := h1
    exact (h4 x (.inl hx)).1
  have hs := h1.b0.size
  refine ⟨G, tg, rg, cap, vF, vB, F, Ub, vS, vU, ⟨hC.gw, fun x hx => by omega, fun x hx hg => by have := hlt x hg; omega, hC.kk, hC.k6, hC.k7⟩, (h1.plus hb).fewer (fun x hx => ?_), h2.below hlt hb⟩
  rcases hx with hx | hx
  · exact .inl (.inl hx)
  · exact .inr hx
theorem Pa.drop (h : Pa w0 w H P R v) : Pa w0 w (fun _ => False) P R v := by
  obtain ⟨G, tg, rg, cap, vF, vB, F, Ub, vS, vU, hC, h1, h2⟩ := h
  exact ⟨G, tg, rg, cap, vF, vB, F, Ub, vS, vU, ⟨hC.gw, fun _ h => h.elim, fun _ h => h.elim, hC.kk, hC.k6, hC.k7⟩, h1.fewer (fun x hx => hx.imp id (fun e => e.elim)), h2⟩
/-- The program's call is done. -/
theorem Pa.mid (h : Pa w0 w H P R v) (hw : ∀ G, Pw w0 w G P v → Kept w G w' ∧ Pw w0 w' G P v1) : PaM w0 w' H P R v v1 ∧ ∀ x, H x → w'.heap[x]? = w.heap[x]? := by
  obtain ⟨G, tg, rg, cap, vF, vB, F, Ub, vS, vU, hC, h1, h2⟩ := h
  obtain ⟨⟨hs, hk⟩, hp⟩ := hw _ h1
  have hi := h1.inv
  refine ⟨⟨G, tg, rg, cap, vF, vB, F, Ub, vS, vU, hC, hp, h2.keep hs (fun x hx => hk x (.inl hx)), by rw [hC.kk]; exact hi.1, hi.2, fun k k1 k7 => by rw [hC.kk]; exact h1.fit k1 k7, h1.qinv⟩, fun x hx => hk x (.inr hx)⟩
/-- .. and the document's. -/
theorem Pa.fin {G : Nat → Prop} {B2 : St} {U2 : Nat → Pls} {l2 : List Qu.Fac} {nxt2 : Nat} (hC : PaC w0 G H P R) (hp : Pw w0 w (fun x => G x ∨ H x) P v1) (hl : RLeft w G R B2 U2 l2 nxt2 w') (eU : v1.U = U2) (el : v1.l = l2) (en : v1.nxt = nxt2) (hu : SameUsed v1.B B2) :
    Pa w0 w' H P R v1 ∧ ∀ x, H x → w'.heap[x]? = w.heap[x]? := by
  obtain ⟨ht, hi, hn, tg', rg', cap', vF', vB', F', Ub', vS', vU', hr⟩ := hl
  subst eU el en
  have hinv := hp.inv
  have hlt : ∀ x, G x ∨ H x → x < w.heap.size := fun x hx => by
    obtain ⟨tag, _, _, _, h4⟩ := hp
    exact (h4 x hx).1
  have hw0 := hp.b0.size
  refine ⟨⟨Gr G w w', tg', rg', cap', vF', vB', F', Ub', vS', vU', ⟨fun x hx => ?_, hC.hw, fun x hx hg => ?_, hC.kk, hC.k6, hC.k7⟩, (hp.grown (ht.wide fun x hx => .inl hx) (fun x hx => hx.elim (hC.gw x) (hC.hw x))).fewer (fun x hx => ?_), ?_⟩, fun x hx => ht.block x (hlt x (.inr hx)) (hC.gh x hx)⟩
  · rcases hx with hx | hx
    · exact hC.gw x hx
    · omega
  · rcases hg with hg | hg
    · exact hC.gh x hx hg
    · have := hlt x (.inr hx); omega
  · rcases hx with (hx | hx) | hx
    · exact .inl (.inl hx)
    · exact .inr hx
    · exact .inl (.inr hx)
  · rw [hC.kk] at hi
    exact ⟨hr.hd, hr.rm.congr (fun k i => free_iff hi hn hinv.1 hinv.2 hu.symm k i) hu.symm, hr.rt, hr.rc, hr.tp, hr.tr, hr.tq, hr.tgg, hr.tb, hr.gp, hr.gq, hr.gg, hr.new⟩
theorem place_8 {k : Nat} (h1 : 1 ≤ k) (h7 : k ≤ 7) (q i : Nat) : place (cost k) q i % 8 = 0 := by
  have hc := (cost_in h1 h7).2.2
  obtain ⟨d, hd⟩ : ∃ d, cost k = 16 * d := ⟨cost k / 16, by omega⟩
  unfold place
  rw [hd, show i * (16 * d) = 16 * (i * d) by rw [Nat.mul_left_comm]]
  omega
/-- What a Get that was OK leaves to be read. -/
def Zero8 (v1 : Pv) (c at_ : Int) : Prop := ∃ a k : Nat, Cls c k ∧ at_ = (a : Int) ∧ a + cost k ≤ v1.m.length ∧ a % 8 = 0 ∧ Ar.wordAt v1.m a = 0
theorem Pa.get1 (h : Pa w0 w H P R v) (hct : v.ct ≤ 1000000) (f c : Int) : Calls Tryz.prog 30 #[.pointer (some ⟨P.pb, 0, none⟩), .int .i64 f, .int .i64 c] w fun e w' => ∃ at_ er : Int, e = .returned (.tuple #[.int .i64 at_, .int .i64 er]) ∧
    Hid (∃ v1, PaM w0 w' H P R v v1 ∧ (∀ x, H x → w'.heap[x]? = w.heap[x]?) ∧ GetOf v.B v.U v.l f c v1.B v1.U v1.l at_ er ∧ v1.nxt = v.nxt ∧ v1.ct = v.ct + 1 ∧ (er = 0 → Zero8 v1 c at_)) := by
  obtain ⟨G, tg, rg, cap, vF, vB, F, Ub, vS, vU, hC, h1, h2⟩ := h
  have hlen := h1.len
  have hi := h1.inv
  have hfit := fun k k1 k7 => h1.fit (k := k) k1 k7
  have hqi := h1.qinv
  have hmid : ∀ w' v1, Kept w (fun x => G x ∨ H x) w' → Pw w0 w' (fun x => G x ∨ H x) P v1 → PaM w0 w' H P R v v1 ∧ ∀ x, H x → w'.heap[x]? = w.heap[x]? := fun w' v1 hk hp =>
    ⟨⟨G, tg, rg, cap, vF, vB, F, Ub, vS, vU, hC, hp, h2.keep hk.1 (fun x hx => hk.2 x (.inl hx)), by rw [hC.kk]; exact hi.1, hi.2, fun k k1 k7 => by rw [hC.kk]; exact hfit k k1 k7, hqi⟩, fun x hx => hk.2 x (.inr hx)⟩
  refine (h1.get2 hct f c).mono ?_
  rintro e w1 ⟨hk, ⟨er, rfl, h0, hn, hp⟩ | ⟨k, q, i, B', U', hcl, rfl, hg, hp⟩⟩
  · obtain ⟨hm, hx⟩ := hmid w1 _ hk hp
    exact ⟨0, er, rfl, _, hm, hx, .inl ⟨rfl, h0, rfl, rfl, rfl, hn⟩, rfl, rfl, fun e => absurd e h0⟩
  · obtain ⟨hm, hx⟩ := hmid w1 _ hk hp
    refine ⟨_, 0, rfl, _, hm, hx, .inr ⟨k, q, i, U', hcl, rfl, rfl, hg.chg, hg.tk, hg.cm, rfl, rfl⟩, rfl, rfl, fun _ => ?_⟩
    have hpl := (place_in (p := q) (many_in hg.k1 hg.k7).2.2 hg.tk.lt).2
    have hq := hg.qN
    have hco := cost_in hg.k1 hg.k7
    have hmul := Nat.mul_le_mul_right 1024 (show q + 1 ≤ 2 ^ P.K by omega)
    have hle : place (cost k) q i + cost k ≤ v.m.length := by
      rw [hlen]
      refine Nat.le_trans hpl (Nat.le_trans ?_ hmul)
      rw [Nat.add_mul, Nat.one_mul]; exact Nat.le_refl _
    refine ⟨place (cost k) q i, k, hcl, rfl, ?_, place_8 hg.k1 hg.k7 q i, wordAt_zeros hle (Nat.le_refl _) (by omega)⟩
    have := hp.len
    rw [this, ← hlen]
    exact hle
theorem Pa.get2 {f c at_ er : Int} (h : PaM w0 w H P R v v1) (hg : GetOf v.B v.U v.l f c v1.B v1.U v1.l at_ er) (hnx : v1.nxt = v.nxt) : Calls Tryz.prog 38 #[.pointer (some ⟨R.rp, 0, none⟩), .int .i64 f, .int .i64 c] w fun e w' => e = .returned (.tuple #[.int .i64 at_, .int .i64 er]) ∧ Pa w0 w' H P R v1 ∧ ∀ x, H x → w'.heap[x]? = w.heap[x]? := by
  obtain ⟨G, tg, rg, cap, vF, vB, F, Ub, vS, vU, hC, h1, h2, hi, hn, hF, hI⟩ := h
  have hk6 := hC.k6
  have hk7 := hC.k7
  refine (rpget_any h2 hi hn hF hI (by rw [hC.kk]; exact hk6) (by rw [hC.kk]; exact hk7) f c).mono ?_
  rintro e w' ⟨a2, e2, B2, U2, l2, rfl, hg2, hl⟩
  obtain ⟨rfl, rfl, eU, el, hu⟩ := getOf_agree hg hg2
  exact ⟨rfl, Pa.fin hC h1 hl eU el hnx hu⟩
theorem Pa.put1 (h : Pa w0 w H P R v) (f c x : Int) (hx1 : -9223372036854775808 ≤ x) (hx2 : x < 9223372036854775808) : Calls Tryz.prog 31 #[.pointer (some ⟨P.pb, 0, none⟩), .int .i64 f, .int .i64 c, .int .i64 x] w fun e w' => ∃ er : Int, e = .returned (.int .i64 er) ∧
    Hid (∃ v1, PaM w0 w' H P R v v1 ∧ (∀ x, H x → w'.heap[x]? = w.heap[x]?) ∧ PutOf v.B v.U v.l f c x v1.B v1.U v1.l er ∧ v1.nxt = v.nxt ∧ v1.ct = v.ct) := by
  obtain ⟨G, tg, rg, cap, vF, vB, F, Ub, vS, vU, hC, h1, h2⟩ := h
  have hi := h1.inv
  have hfit := fun k k1 k7 => h1.fit (k := k) k1 k7
  have hqi := h1.qinv
  have hmid : ∀ w' v1, Kept w (fun x => G x ∨ H x) w' → Pw w0 w' (fun x => G x ∨ H x) P v1 → PaM w0 w' H P R v v1 ∧ ∀ x, H x → w'.heap[x]? = w.heap[x]? := fun w' v1 hk hp =>
    ⟨⟨G, tg, rg, cap, vF, vB, F, Ub, vS, vU, hC, hp, h2.keep hk.1 (fun x hx => hk.2 x (.inl hx)), by rw [hC.kk]; exact hi.1, hi.2, fun k k1 k7 => by rw [hC.kk]; exact hfit k k1 k7, hqi⟩, fun x hx => hk.2 x (.inr hx)⟩
  refine (h1.put2 f c x hx1 hx2).mono ?_
  rintro e w1 ⟨hk, ⟨er, rfl, h0, hn, hp⟩ | ⟨k, q, i, B', hcl, rfl, hg, hp⟩⟩
  · obtain ⟨hm, hx⟩ := hmid w1 _ hk hp
    exact ⟨er, rfl, _, hm, hx, .inl ⟨h0, rfl, rfl, rfl, hn⟩, rfl, rfl⟩
  · obtain ⟨hm, hx⟩ := hmid w1 _ hk hp
    exact ⟨0, rfl, _, hm, hx, .inr ⟨k, q, i, _, hcl, rfl, hg.ref, ⟨hg.lt, hg.used, rfl⟩, hg.at_, hg.less, rfl, rfl⟩, rfl, rfl⟩
theorem Pa.put2 {f c x er : Int} (h : PaM w0 w H P R v v1) (hg : PutOf v.B v.U v.l f c x v1.B v1.U v1.l er) (hnx : v1.nxt = v.nxt) : Calls Tryz.prog 42 #[.pointer (some ⟨R.rp, 0, none⟩), .int .i64 f, .int .i64 c, .int .i64 x] w fun e w' => e = .returned (.int .i64 er) ∧ Pa w0 w' H P R v1 ∧ ∀ x, H x → w'.heap[x]? = w.heap[x]? := by
  obtain ⟨G, tg, rg, cap, vF, vB, F, Ub, vS, vU, hC, h1, h2, hi, hn, hF, hI⟩ := h
  have hk6 := hC.k6
  have hk7 := hC.k7
  refine (rpput_any h2 hi hn hF hI (by rw [hC.kk]; exact hk6) (by rw [hC.kk]; exact hk7) f c x).mono ?_
  rintro e w' ⟨e2, B2, U2, l2, rfl, hg2, hl⟩
  obtain ⟨rfl, eU, el, hu⟩ := putOf_agree hg hg2
  exact ⟨rfl, Pa.fin hC h1 hl eU el hnx hu⟩
end
end Go.Proofs.YtdmnemgooagehaaGreatDoor
