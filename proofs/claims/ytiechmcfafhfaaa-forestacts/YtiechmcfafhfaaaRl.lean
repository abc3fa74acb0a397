/- The document's forest: the contract of Lift. -/
import Derived.Test.YtiechmcfafhfaaaRa0
import Derived.Deep.RegionWith
import Derived.Deep.CutRange
namespace Go.Proofs.Ytiechmcfafhfaaa
open Go.RowKit Go.Maps Go.Shelf

theorem turn_grown {w w' : World} {row : Option Nat} (hg : w.grownBy w' row) : Turn (fun k => row = some k) w w' := ⟨hg.os, hg.tape, hg.output, hg.size, fun k hk hn => hg.block k hk (fun e => hn e.symm)⟩
theorem grown_drew {w w' : World} {row : Option Nat} (h : w.drew.grownBy w' row) : w.grownBy w' row := ⟨h.os, h.tape, h.output, h.size, h.block⟩
section
variable {w w' : World} {r : Nat} {v : Value} {last last2 : Nat} {L : List Nd} {e : Nd}
theorem mv_eq {M : List Nd} {f : Nd} (h : M.Pairwise (fun a b => a.id ≠ b.id)) (hf : f ∈ M) (q : Nat) : mv M f.id q = less M [f.id] ++ [{ f with par := q }] := by
  unfold mv
  rw [find_of h hf, less_one]
  rfl
/-- What is read while a child is lifted. -/
structure Rn (wx : World) (r g off n cap j : Nat) (f : Nd) (gK oK k : Nat) : Prop where
  h0 : wx.cell? ⟨r, 0, none⟩ = some (.slice (some ⟨g, off, none⟩) n cap)
  c0 : wx.cell? ⟨g, off + j * 4, none⟩ = some (.int .i64 (f.id : Int))
  c1 : wx.cell? ⟨g, off + j * 4 + 1, none⟩ = some (.int .i64 (f.par : Int))
  c2 : wx.cell? ⟨g, off + j * 4 + 2, none⟩ = some (.int .i64 f.sp)
  c3 : wx.cell? ⟨g, off + j * 4 + 3, none⟩ = some (.int .i64 f.sl)
  cx : wx.cell? ⟨gK, oK + k, none⟩ = some (.int .i64 (f.id : Int))
/-- A child is lifted: what there is behind the drop, and the node's new parent. -/
def Mid (w : World) (r : Nat) (v : Value) (last2 : Nat) (q : Nat) (f : Nd) (b : Nat) (v2 : Value) (M : List Nd) (bK nK : Nat) (vK : Value) (xsK : List Value) (W : World) : Prop :=
  Rf W r v2 last2 M ∧ Tr (ROwn r v) (ROwn r v2) w W ∧ OR W bK 1 vK nK xsK ∧ (∀ g, vK.ownBlock = some g → ¬ ROwn r v2 g) ∧ W.heap[b]? = some (.cells #[.int .i64 (f.id : Int), .int .i64 (q : Int), .int .i64 f.sp, .int .i64 f.sl] 53)
theorem rl_mid {wr W1 w2 : World} {v' v2 : Value} {M M2 : List Nd} {b q : Nat} {f : Nd} (h2 : Rf w2 r v2 last2 M2) (ht : Tr (ROwn r v) (ROwn r v') w wr) (hb : Below wr.heap.size wr W1) (ht2 : Tr (ROwn r v') (ROwn r v2) W1 w2) (hN : W1.heap[b]? = some (.cells #[.int .i64 (f.id : Int), .int .i64 (f.par : Int), .int .i64 f.sp, .int .i64 f.sl] 53)) (hbw : wr.heap.size ≤ b) (hr : Rf wr r v' last2 M)
    {bK nK : Nat} {vK : Value} {xsK : List Value} (hoK : OR wr bK 1 vK nK xsK) (hnK : ∀ g, vK.ownBlock = some g → ¬ ROwn r v' g) :
    w2.cell? ⟨b, 1, none⟩ = some (.int .i64 (f.par : Int)) ∧ w2.frozen? ⟨b, 1, none⟩ = false ∧ ∀ W, W = w2.setCell ⟨b, 1, none⟩ (.int .i64 (q : Int)) → Mid w r v last2 q f b v2 M2 bK nK vK xsK W := by
  have hbn : ¬ ROwn r v' b := fun h => by have := (hr.lt h).2; omega
  obtain ⟨k1, k2, k3⟩ := ht2.keep (lt_of hN) hbn
  have hN2 := k1.trans hN
  refine ⟨by rw [cell_of_row _ _ _ _ _ _ hN2]; rfl, frozen_of_row w2 b 1 _ _ hN2, fun W hW => ?_⟩
  subst hW
  have hne : ∀ k, k ≠ b → (w2.setCell ⟨b, 1, none⟩ (.int .i64 (q : Int))).heap[k]? = w2.heap[k]? := fun k hk => Below.heap_setCell _ _ _ _ hk
  have t := (ht.trans (tr_refl _ hb)).trans ht2
  have o1 := (hoK.below hb (Nat.le_refl _)).tr ht2 hnK
  refine ⟨h2.same (by simp) (fun k hk => hne k (fun e => k2 (e ▸ hk))), ⟨t.turn.but (But.setCell (But.refl b _) (.inl rfl) _) (.inr (Nat.le_trans ht.turn.size hbw)), t.own⟩, o1.1.other (by simp) (fun g e => hne g (fun e2 => by have := (hoK.own g e).2; omega)), o1.2, ?_⟩
  rw [setCell_head hN2]
  rfl
theorem rl_row {W : World} {a2 : Option Addr} {cap2 b q : Nat} {M : List Nd} {f : Nd} {bK nK : Nat} {vK : Value} {xsK : List Value} (h : Mid w r v last2 q f b (.slice a2 M.length cap2) M bK nK vK xsK W) (hl : M.length ≤ 400) :
    W.cell? ⟨r, 0, none⟩ = some (.slice a2 M.length cap2) ∧ W.cell? ⟨b, 0, none⟩ = some (.int .i64 (f.id : Int)) ∧ W.cell? ⟨b, 1, none⟩ = some (.int .i64 (q : Int)) ∧ W.cell? ⟨b, 2, none⟩ = some (.int .i64 f.sp) ∧ W.cell? ⟨b, 3, none⟩ = some (.int .i64 f.sl) ∧ (W.alloc (.cells #[.int .i64 (f.id : Int), .int .i64 (q : Int), .int .i64 f.sp, .int .i64 f.sl] 53)).cell? ⟨r, 0, none⟩ = some (.slice a2 M.length cap2) ∧ M.length + 1 ≤ 1000000 ∧
    Hid (OR (W.alloc (.cells #[.int .i64 (f.id : Int), .int .i64 (q : Int), .int .i64 f.sp, .int .i64 f.sl] 53)) (r + 1) 4 (.slice a2 M.length cap2) M.length (rflat M)) ∧ Hid (OR (W.alloc (.cells #[.int .i64 (f.id : Int), .int .i64 (q : Int), .int .i64 f.sp, .int .i64 f.sl] 53)) W.heap.size 4 (.slice (some ⟨W.heap.size, 0, none⟩) 1 1) 1 (rflat [{ f with par := q }])) ∧
    Hid (Below W.heap.size W (W.alloc (.cells #[.int .i64 (f.id : Int), .int .i64 (q : Int), .int .i64 f.sp, .int .i64 f.sl] 53))) ∧ r + 1 ≤ (W.alloc (.cells #[.int .i64 (f.id : Int), .int .i64 (q : Int), .int .i64 f.sp, .int .i64 f.sl] 53)).heap.size := by
  obtain ⟨h1, _, _, _, h5⟩ := h
  refine ⟨h1.c0, by rw [cell_of_row _ _ _ _ _ _ h5]; rfl, by rw [cell_of_row _ _ _ _ _ _ h5]; rfl, by rw [cell_of_row _ _ _ _ _ _ h5]; rfl, by rw [cell_of_row _ _ _ _ _ _ h5]; rfl, (h1.below ((Below.refl _ W).alloc (Nat.le_refl _) _) (Nat.le_refl _)).c0, by omega, hid (h1.row.alloc _), hid (or_node W { f with par := q }), hid ((Below.refl _ W).alloc (Nat.le_refl _) _), ?_⟩
  have := lt_of h1.hd
  simp
  omega
theorem rl_end2 {W w4 : World} {v4 : Value} {a2 : Option Addr} {cap2 b q : Nat} {M R : List Nd} {f : Nd} {bK nK : Nat} {vK : Value} {xsK : List Value} (h : Mid w r v last2 q f b (.slice a2 M.length cap2) M bK nK vK xsK W) (hR : R = M ++ [{ f with par := q }]) (ho : OR w4 (r + 1) 4 v4 (M.length + 1) (rflat (M ++ [{ f with par := q }])))
    (hg : (W.alloc (.cells #[.int .i64 (f.id : Int), .int .i64 (q : Int), .int .i64 f.sp, .int .i64 f.sl] 53)).grownBy w4 (Value.slice a2 M.length cap2).ownBlock) (hob : ∀ k, v4.ownBlock = some k → (Value.slice a2 M.length cap2).ownBlock = some k ∨ (W.alloc (.cells #[.int .i64 (f.id : Int), .int .i64 (q : Int), .int .i64 f.sp, .int .i64 f.sl] 53)).heap.size ≤ k) :
    w4.cell? ⟨r, 0, none⟩ = some (.slice a2 M.length cap2) ∧ w4.frozen? ⟨r, 0, none⟩ = false ∧ Hid (Rf (w4.setCell ⟨r, 0, none⟩ v4) r v4 last2 R ∧ Tr (ROwn r v) (ROwn r v4) w (w4.setCell ⟨r, 0, none⟩ v4) ∧ OR (w4.setCell ⟨r, 0, none⟩ v4) bK 1 vK nK xsK ∧ ∀ g, vK.ownBlock = some g → ¬ ROwn r v4 g) := by
  obtain ⟨h2, ht, hoK, hnK, _⟩ := h
  subst hR
  have hT : Turn (fun k => (Value.slice a2 M.length cap2).ownBlock = some k) W w4 := (Turn.of_below ((Below.refl _ W).alloc (Nat.le_refl _) _)).trans (turn_grown hg)
  obtain ⟨k1, k2⟩ := Rf.put (R := M ++ [{ f with par := q }]) h2 hT (by rw [List.length_append, List.length_singleton]; exact ho) (fun k e => (hob k e).imp id (fun h => by simp at h; omega))
  have hrr : w4.heap[r]? = W.heap[r]? := hT.block r (lt_of h2.hd) (fun e => by have := (h2.row.own r e).1; omega)
  have k3 := hoK.tr k2 hnK
  exact ⟨by rw [cell_of_row _ _ _ _ _ _ (hrr.trans h2.hd)]; rfl, frozen_of_row w4 r 0 _ _ (hrr.trans h2.hd), hid ⟨k1, ht.trans k2, k3.1, k3.2⟩⟩
set_option maxRecDepth 100000 in
set_option maxHeartbeats 4000000 in
theorem rlift_hit (h : Rf w r v last2 L) (hw : Wf L last) (hlast : last < 400) (he : e ∈ L) : Calls Try.prog 24 #[ptr r, .int .i64 (e.id : Int)] w fun en w' => en = .returned (.int .i64 0) ∧ ∃ v', Rf w' r v' last2 (lifted L e.id e.par) ∧ Tr (ROwn r v) (ROwn r v') w w' := by
  have hll : L.length ≤ 400 := by have := hw.len; omega
  obtain ⟨k0, hk0, hkl0, hno0⟩ := at_there hw.ids he
  have HA0 := hid (at_any h hll (e.id : Int))
  rw [atI_hit hk0 rfl hno0] at HA0
  obtain ⟨g0, o0, cap0, rfl, _, p1, _, _⟩ := h.at hk0
  have ph := h.c0
  have HK := hid (rkids_any h hll (e.id : Int))
  rw [kz_kids, show ((e.id : Int)).toNat = e.id from rfl] at HK
  have HD0 := hid (fun (wx : World) (hx : Below w.heap.size w wx) => drop_any (h.below hx (Nat.le_refl _)) hw.ids hll he)
  have HLL := hid hll
  have HI : Hid (∀ x ∈ kids L e.id, (∃ f ∈ L, f.id = x) ∧ x ≠ e.id) := hid (fun x hx => by
    have := hw.kid hx
    obtain ⟨_, f, hf, h1, _⟩ := mem_kids.1 hx
    exact ⟨⟨f, hf, h1⟩, by omega⟩)
  have hkl : (kids L e.id).length ≤ 400 := by have := hw.kids_len e.id; omega
  have hres := liftT_all L e.id e.par
  have HR := hid h
  have HW := hid hw
  have hz0 : (0 : Int) ≤ (k0 : Int) := by omega
  have hz1 : (k0 : Int) < (L.length : Int) := by omega
  generalize hks : kids L e.id = ks at *
  generalize e.par = q at *
  generalize e.id = i at *
  have HRES := hid hres
  clear hres hks h hw hk0 hno0 hll
  go_enter Try.func24, Try.ntmps24
  go_wp2_with (first
    | (go_at_call 37; refine HA0.out.mono ?_; rintro en w0 ⟨rfl, ew⟩; rw [ew]; clear ew w0)
    | (go_at_call 28; refine HK.out.mono ?_; rintro en w1 ⟨aK, cK, rfl, hoK, hbK⟩; rw [List.length_map] at hoK ⊢; have HOK := hid hoK; have HBK := hid hbK; clear hoK hbK)
    | (go_at_call 38; refine (HD0.out _ HBK.out).mono ?_; rintro en w2 ⟨rfl, v2, hrf2, htr2⟩; have H2 := hid (And.intro hrf2 htr2); clear hrf2 htr2))
  have H3 := hid (show Rf w2 r v2 last2 (liftT L i q (ks.take 0)) ∧ Tr (ROwn r (.slice (some ⟨g0, o0, none⟩) L.length cap0)) (ROwn r v2) w w2 ∧ OR w2 w.heap.size 1 (.slice aK ks.length cK) ks.length (nums (zs ks)) ∧ ∀ g, (Value.slice aK ks.length cK).ownBlock = some g → ¬ ROwn r v2 g from by
    have hn : ∀ g, (Value.slice aK ks.length cK).ownBlock = some g → ¬ ROwn r (.slice (some ⟨g0, o0, none⟩) L.length cap0) g := fun g e hk => by
      have := (HOK.out.own g e).1
      have := (HR.out.lt hk).2
      omega
    have k3 := HOK.out.tr H2.out.2 hn
    exact ⟨by rw [List.take_zero]; exact H2.out.1, (tr_refl _ HBK.out).trans H2.out.2, k3.1, k3.2⟩)
  go_loopw [8] (fun c wr => ∃ k : Nat, k ≤ ks.length ∧ c = .int .i64 (k : Int) ∧ Hid (∃ v', Rf wr r v' last2 (liftT L i q (ks.take k)) ∧ Tr (ROwn r (.slice (some ⟨g0, o0, none⟩) L.length cap0)) (ROwn r v') w wr ∧ OR wr w.heap.size 1 (.slice aK ks.length cK) ks.length (nums (zs ks)) ∧ ∀ g, (Value.slice aK ks.length cK).ownBlock = some g → ¬ ROwn r v' g)) (fun c _ => ks.length - (intOf c).toNat)
  case atStart => exact ⟨0, Nat.zero_le _, rfl, v2, H3.out⟩
  case round =>
    obtain ⟨k, hk, rfl, hS⟩ := hrel
    obtain ⟨v', hrf, htr, hoK, hnK⟩ := hS.out
    clear H3 HA0 HK HD0 H2
    by_cases hlt : k < ks.length
    · have hk2 := List.getElem?_eq_getElem hlt
      obtain ⟨x, hx⟩ : ∃ x, x = ks[k] := ⟨_, rfl⟩
      rw [← hx] at hk2
      obtain ⟨hy1, hy2⟩ := HI.out x (List.mem_of_getElem? hk2)
      obtain ⟨f, hf, rfl⟩ := liftT_has i q (ks.take k) hy1 hy2
      have hids := liftT_ids HW.out.ids i q (ks.take k)
      have hlen : (liftT L i q (ks.take k)).length ≤ 400 := by have := liftT_len HW.out.ids i q (ks.take k); have := HLL.out; omega
      have hst := liftT_step L i q hk2
      generalize liftT L i q (ks.take k) = M at *
      rw [mv_eq hids hf] at hst
      obtain ⟨j, hj, hjl, hno⟩ := at_there hids hf
      have hat := atI_hit hj rfl hno
      obtain ⟨g, off, cap, rfl, _⟩ := hrf.at hj
      have hxk : (zs ks)[k]? = some (f.id : Int) := by unfold zs; rw [List.getElem?_map, hk2]; rfl
      obtain ⟨gK, oK, rfl, _, _⟩ := hoK.at (nums_at hxk)
      have HX := hid (fun (wx : World) (hb : Below wr.heap.size wr wx) => show Rn wx r g off M.length cap j f gK oK k from by
        have h2 := hrf.below hb (Nat.le_refl _)
        obtain ⟨_, _, _, e2, c0, c1, c2, c3⟩ := h2.at hj
        obtain ⟨⟨rfl, rfl⟩, rfl⟩ := by simpa using e2
        obtain ⟨_, _, e3, _, cx⟩ := (hoK.below hb (Nat.le_refl _)).at (nums_at hxk)
        obtain ⟨rfl, rfl⟩ := by simpa using e3
        exact ⟨h2.c0, c0, c1, c2, c3, cx⟩)
      have HA := hid (fun (wx : World) (hb : Below wr.heap.size wr wx) => at_any (hrf.below hb (Nat.le_refl _)) hlen (f.id : Int))
      rw [hat] at HA
      have HD := hid (fun (wx : World) (hb : Below wr.heap.size wr wx) => drop_any (hrf.below hb (Nat.le_refl _)) hids hlen hf)
      have HB0 := hid (Below.refl wr.heap.size wr)
      have HB1 := hid (HB0.out.alloc (Nat.le_refl _) (.cells #[.int .i64 0, .int .i64 0, .int .i64 0, .int .i64 0] 53))
      have HB2 := hid (HB0.out.alloc (Nat.le_refl _) (.cells #[.int .i64 (f.id : Int), .int .i64 (f.par : Int), .int .i64 f.sp, .int .i64 f.sl] 53))
      have HS := hid (And.intro hrf (And.intro htr (And.intro hoK hnK)))
      have HST := hid hst
      have HLT := hid hlt
      have hi0 : (0 : Int) ≤ (k : Int) := by omega
      have hi1 : (k : Int) < (ks.length : Int) := by omega
      have hj0 : (0 : Int) ≤ (j : Int) := by omega
      have hj1 : (j : Int) < (M.length : Int) := by omega
      obtain ⟨a0, a1, a2, a3, a4, a5⟩ := HX.out _ HB0.out
      obtain ⟨b0, b1, b2, b3, b4, b5⟩ := HX.out _ HB1.out
      have hMl : M.length ≤ 400 := hlen
      clear hk2 hx hy1 hy2 hf hids hlen hst hj hjl hno hat hxk hrf htr hoK hnK hS hlt
      go_wp2_with fail
      go_upto_region 10 with fail
      go_cut [9] from 29 to 64 (fun b wx => b = .pointer (some ⟨wr.heap.size, 0, none⟩) ∧ wx = (wr.alloc (.cells #[.int .i64 (f.id : Int), .int .i64 (f.par : Int), .int .i64 f.sp, .int .i64 f.sl] 53)).drew)
      case first =>
        go_region_with (go_at_call 37; refine (HA.out _ (by first | exact HB0.out | exact HB0.out.drew | exact HB1.out | exact HB1.out.drew)).mono ?_; rintro en wx ⟨rfl, rfl⟩)
        all_goals (go_wp2_with fail; go_meet; exact ⟨rfl, rfl⟩)
      case rest =>
        obtain ⟨rfl, rfl⟩ := hcut
        obtain ⟨d0, d1, d2, d3, d4, d5⟩ := HX.out _ HB2.out
        have hNB := heap_alloc_new wr (.cells #[.int .i64 (f.id : Int), .int .i64 (f.par : Int), .int .i64 f.sp, .int .i64 f.sl] 53)
        have HNB := hid hNB
        clear hNB
        go_wp2_with (go_at_call 38; refine (HD.out _ HB2.out.drew).mono ?_; rintro en w2 ⟨rfl, v2, hrf2, htr2⟩; obtain ⟨a2, cap2, rfl, _⟩ := hrf2.row.slice; obtain ⟨fc, f0, hmid⟩ := rl_mid (q := q) hrf2 HS.out.2.1 HB2.out.drew htr2 HNB.out (Nat.le_refl _) HS.out.1 HS.out.2.2.1 HS.out.2.2.2; have HMID := hid hmid; clear hrf2 htr2 hmid)
        obtain ⟨W, hW⟩ : ∃ W, W = w2.setCell ⟨wr.heap.size, 1, none⟩ (.int .i64 (q : Int)) := ⟨_, rfl⟩
        rw [← hW]
        have HZ := hid (HMID.out W hW)
        clear hW HMID
        obtain ⟨x0, x1, x2, x3, x4, x5, hl2, HR1, HN1, HT1, hbs⟩ := rl_row HZ.out (by have := HLL.out; have := less_len M [f.id]; omega)
        go_region_law (refine step_nodes (v := .slice a2 (less M [f.id]).length cap2) _ rfl _ _ rfl rfl rfl (less M [f.id]) [{ f with par := q }] rfl (rfl : (less M [f.id]).length = (less M [f.id]).length) (rfl : [({ f with par := q } : Nd)].length = 1) (by exact HR1.out.drew) (by exact HN1.out.drew) hl2 (by exact hbs) ?_; intro a9 cap9 w3 ho3 hg3 hob3; obtain ⟨zc, z0, HEND⟩ := rl_end2 HZ.out HST.out ho3 (grown_drew hg3) hob3)
      
        all_goals
          clear HZ HR1 HN1 HT1 ho3 hg3 hob3
          go_wp2_with fail
          exact ⟨⟨k + 1, HLT.out, by go_num, hid ⟨_, HEND.out⟩⟩, by have := HLT.out; simp [intOf]; omega⟩
    · obtain rfl : k = ks.length := by omega
      rw [List.take_length, HRES.out] at hrf
      have HE := hid (And.intro hrf htr)
      clear hS hrf htr hoK hnK hlt
      go_wp2_with fail
      go_ret
      exact ⟨rfl, v', HE.out.1, HE.out.2⟩
/-- Lift, at whatever number. -/
theorem rlift_any (h : Rf w r v last2 L) (hw : Wf L last) (hlast : last < 400) (x : Int) : Calls Try.prog 24 #[ptr r, .int .i64 x] w fun en w' => en = .returned (.int .i64 (liftE L x)) ∧ ∃ v', Rf w' r v' last2 (liftZ L x) ∧ Tr (ROwn r v) (ROwn r v') w w' := by
  by_cases hn : There L x
  · obtain ⟨f, hf, rfl⟩ := hn
    unfold liftE liftZ
    rw [find_some hw hf]
    exact rlift_hit h hw hlast hf
  · unfold liftE liftZ
    rw [find_none hn]
    have HA := hid (at_any h (by have := hw.len; omega) x)
    rw [atI_not hn] at HA
    have HR := hid h
    clear h hw hn
    go_enter Try.func24, Try.ntmps24
    go_wp2_with (go_at_call 37; refine HA.out.mono ?_; rintro en w0 ⟨rfl, ew⟩; rw [ew]; clear ew w0)
    go_ret
    exact ⟨rfl, v, HR.out, tr_refl _ (Below.refl _ _)⟩
end
end Go.Proofs.Ytiechmcfafhfaaa
