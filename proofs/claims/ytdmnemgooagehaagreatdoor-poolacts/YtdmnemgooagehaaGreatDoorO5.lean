/- Put of the program's pool, told to the end; the pool's calls with what has come. -/
import Derived.Test.YtdmnemgooagehaaGreatDoorO4
namespace Go.Proofs.YtdmnemgooagehaaGreatDoor
open Go.RowKit Go.Maps

def NoPut2 (v : Pv) (f c x er : Int) : Prop :=
  (er = 1 ∧ ¬ (1 ≤ c ∧ c ≤ 7)) ∨ ∃ k, Cls c k ∧ ((er = 6 ∧ ∀ q i, i < many k → v.U k q i = true → x ≠ ((place (cost k) q i : Nat) : Int)) ∨ (er = (Qu.refundA v.l f ((cost k : Nat) : Int)).1 ∧ ∃ q i, i < many k ∧ v.U k q i = true ∧ x = ((place (cost k) q i : Nat) : Int)))
def PPutPost2 (w : World) (tag : Nat → Nat) (P : Pp) (v : Pv) (f c x : Int) (e : Ending) (w' : World) : Prop :=
  ∃ tag', Turn (Mine tag) w w' ∧ Agr w tag tag' ∧
    ((∃ er, e = .returned (.int .i64 er) ∧ er ≠ 0 ∧ NoPut2 v f c x er ∧ Po w' tag' P v) ∨
     ∃ k q i B', Cls c k ∧ e = .returned (.int .i64 0) ∧ PutIt v f x k q i B' ∧ Po w' tag' P (putV v f k q i B'))

section
variable {w w' : World} {tag tag' : Nat → Nat} {P : Pp} {v : Pv}
set_option maxHeartbeats 4000000 in
set_option maxRecDepth 100000 in
theorem pput2_any (h : Po w tag P v) (f c x : Int) (hx1 : -9223372036854775808 ≤ x) (hx2 : x < 9223372036854775808) : Calls Tryz.prog 31 #[.pointer (some ⟨P.pb, 0, none⟩), .int .i64 f, .int .i64 c, .int .i64 x] w (PPutPost2 w tag P v f c x) := by
  rcases cls_or c with ⟨k, hk⟩ | hk
  · have HC := hid (pcache_in h hk)
    have hz := h.sz hk.2.1 hk.2.2
    have HA := hid (shas_any x (h.cach k hk.2.1 hk.2.2) hz.lo hz.hi hz.m hx1 hx2)
    obtain ⟨z, hzc⟩ : ∃ z, z = ((cost k : Nat) : Int) := ⟨_, rfl⟩
    obtain ⟨er, her⟩ : ∃ er, er = (Qu.refundA v.l f ((cost k : Nat) : Int)).1 := ⟨_, rfl⟩
    have HS := hid (fun n => show Calls Tryz.prog 11 #[.pointer (some ⟨P.cb k, 0, none⟩)] (w.drewN n).drew fun e w' => e = .returned (.int .i64 z) ∧ w' = (w.drewN n).drew from by rw [hzc]; exact size_any _ _ _ ((h.drewN n).drew.size hk.2.1 hk.2.2))
    have HG := hid (fun n => show Calls Tryz.prog 96 #[.pointer (some ⟨P.tb, 0, none⟩), .int .i64 f, .int .i64 z] (w.drewN n).drew fun e w' => e = .returned (.int .i64 er) ∧ Po w' tag P { v with l := (Qu.refundA v.l f ((cost k : Nat) : Int)).2 } ∧ Turn (Mine tag) w w' from by
      rw [hzc]
      refine ((h.drewN n).drew.refund_ f ((cost k : Nat) : Int)).mono ?_
      rintro e w' ⟨rfl, hp, ht⟩
      exact ⟨by rw [her], hp, ((Turn.refl _ _).drewN n).drew.trans ht⟩)
    have hpb := h.c0
    have HH := hid (And.intro h (And.intro hk (And.intro hz (And.intro hzc her))))
    clear h hk hz hzc her
    go_enter Tryz.func31, Tryz.ntmps31
    go_wp2_with (go_at_call 94; refine HC.out.mono ?_; rintro e wx ⟨rfl, ex⟩; rw [ex]; clear ex wx)
    refine HA.out.mono ?_
    rintro e wx ⟨hf, rfl, hff, n, rfl⟩
    have hpbn : (w.drewN n).cell? ⟨P.pb, 0, none⟩ = some (.pointer (some ⟨P.tb, 0, none⟩)) := hpb
    have HF := hid hff
    clear hff
    cases hf with
    | false =>
      go_wp2_with fail
      go_ret
      obtain ⟨h, hk, hz, hzc, her⟩ := HH.out
      refine ⟨tag, (Turn.refl _ _).drewN n, Agr.refl _ _, .inl ⟨6, rfl, by decide, .inr ⟨k, hk, .inl ⟨rfl, fun q i hi hu hx => ?_⟩⟩, h.drewN n⟩⟩
      have := HF.out.out.2 ⟨q, i, hi, hu, hx⟩
      cases this
    | true =>
      by_cases h0 : er = 0
      · subst h0
        go_wp2_with fail
        go_region_held3 (fun W => W.cell? ⟨P.pb, 0, none⟩ = some (.pointer (some ⟨P.tb, 0, none⟩))) (first | assumption | exact hpbn) (first
          | (go_at_call 11; refine (HS.out n).mono ?_; rintro e w1 ⟨rfl, rfl⟩)
          | (go_at_call 96; refine (HG.out n).mono ?_; rintro e w1 ⟨rfl, hp1, ht1⟩; have hpb1 := hp1.c0))
        obtain ⟨h, hk, hz, hzc, her⟩ := HH.out
        obtain ⟨q, i, hi, hu, hx⟩ := HF.out.out.1 trivial
        have hs1 := ht1.size
        have ha1 : Agr w tag (retag w1 tag (10 + k)) := fun x hx => retag_agr w1 tag _ x (by omega)
        have HT := hid ((hp1.re (retag_agr w1 tag (10 + k))).give_ hk.2.1 hk.2.2 (fun x hx => retag_new w1 tag _ hx) hi hu x hx hx2)
        have H1 := hid (And.intro ht1 (And.intro ha1 (And.intro hi (And.intro hu hx))))
        clear h hk hz hzc her hs1 ha1 hp1 ht1 hi hu hx
        go_wp2_with fail
        refine HT.out.mono ?_
        rintro e w2 ⟨B', rfl, hp2, ht2, hl⟩
        have H2 := hid (And.intro hp2 (And.intro ht2 hl))
        clear hp2 ht2 hl
        go_wp2_with fail
        go_ret
        obtain ⟨h, hk, hz, hzc, her⟩ := HH.out
        exact ⟨_, H1.out.1.agr H2.out.2.1 H1.out.2.1, H1.out.2.1, .inr ⟨k, q, i, B', hk, rfl, ⟨hk.2.1, hk.2.2, her.symm, H1.out.2.2.1, H1.out.2.2.2.1, H1.out.2.2.2.2, H2.out.2.2⟩, H2.out.1⟩⟩
      · have h0' : (er != 0) = true := by simpa using h0
        have H0 := hid h0
        clear h0
        go_wp2_with fail
        go_region_held3 (fun W => W.cell? ⟨P.pb, 0, none⟩ = some (.pointer (some ⟨P.tb, 0, none⟩))) (first | assumption | exact hpbn) (first
          | (go_at_call 11; refine (HS.out n).mono ?_; rintro e w1 ⟨rfl, rfl⟩)
          | (go_at_call 96; refine (HG.out n).mono ?_; rintro e w1 ⟨rfl, hp1, ht1⟩; have hpb1 := hp1.c0))
        have H1 := hid (And.intro hp1 ht1)
        clear hp1 ht1
        go_wp2_with fail
        go_ret
        obtain ⟨h, hk, hz, hzc, her⟩ := HH.out
        refine ⟨tag, H1.out.2, Agr.refl _ _, .inl ⟨er, rfl, H0.out, .inr ⟨k, hk, .inr ⟨her, HF.out.out.1 trivial⟩⟩, ?_⟩⟩
        have e2 : (Qu.refundA v.l f ((cost k : Nat) : Int)).2 = v.l := refundA_err (by rw [← her]; exact H0.out)
        have hp := H1.out.1
        simp only [e2] at hp
        exact hp
  · have HC := hid (pcache_no h hk)
    have HH := hid (And.intro h hk)
    clear h hk
    go_enter Tryz.func31, Tryz.ntmps31
    go_wp2_with (go_at_call 94; refine HC.out.mono ?_; rintro e wx ⟨rfl, ex⟩; rw [ex]; clear ex wx)
    go_ret
    exact ⟨tag, Turn.refl _ _, Agr.refl _ _, .inl ⟨1, rfl, by decide, .inl ⟨rfl, HH.out.2⟩, HH.out.1⟩⟩
end
section
variable {w0 w w' : World} {G : Nat → Prop} {P : Pp} {v : Pv}
/-- What a call leaves, with the law's own blocks. -/
def Kept (w : World) (G : Nat → Prop) (w' : World) : Prop := w.heap.size ≤ w'.heap.size ∧ ∀ x, G x → w'.heap[x]? = w.heap[x]?
def GetW2 (w0 w : World) (G : Nat → Prop) (P : Pp) (v : Pv) (f c : Int) (e : Ending) (w' : World) : Prop := Kept w G w' ∧ ((∃ er, e = .returned (.tuple #[.int .i64 0, .int .i64 er]) ∧ er ≠ 0 ∧ NoGet v f c er ∧ Pw w0 w' G P { v with ct := v.ct + 1 }) ∨
     ∃ k q i B' U', Cls c k ∧ e = .returned (.tuple #[.int .i64 ((place (cost k) q i : Nat) : Int), .int .i64 0]) ∧ GotIt P v f k q i B' U' ∧ Pw w0 w' G P (gotV v f k q i B' U'))
def PutW2 (w0 w : World) (G : Nat → Prop) (P : Pp) (v : Pv) (f c x : Int) (e : Ending) (w' : World) : Prop := Kept w G w' ∧ ((∃ er, e = .returned (.int .i64 er) ∧ er ≠ 0 ∧ NoPut2 v f c x er ∧ Pw w0 w' G P v) ∨
     ∃ k q i B', Cls c k ∧ e = .returned (.int .i64 0) ∧ PutIt v f x k q i B' ∧ Pw w0 w' G P (putV v f k q i B'))
theorem Pw.get2 (h : Pw w0 w G P v) (hc : v.ct ≤ 1000000) (f c : Int) : Calls Tryz.prog 30 #[.pointer (some ⟨P.pb, 0, none⟩), .int .i64 f, .int .i64 c] w (GetW2 w0 w G P v f c) := by
  obtain ⟨tag, h1, h2, h3, h4⟩ := h
  refine (pget_any h1 hc f c).mono ?_
  rintro e w' ⟨tag', ht, ha, ⟨er, rfl, h0, hn, hp⟩ | ⟨k, q, i, B', U', hk, rfl, hg, hp⟩⟩
  · obtain ⟨hp, hg⟩ := Pw.call h2 h3 h4 ht ha hp
    exact ⟨⟨ht.size, hg⟩, .inl ⟨er, rfl, h0, hn, hp⟩⟩
  · obtain ⟨hp, hx⟩ := Pw.call h2 h3 h4 ht ha hp
    exact ⟨⟨ht.size, hx⟩, .inr ⟨k, q, i, B', U', hk, rfl, hg, hp⟩⟩
theorem Pw.put2 (h : Pw w0 w G P v) (f c x : Int) (hx1 : -9223372036854775808 ≤ x) (hx2 : x < 9223372036854775808) : Calls Tryz.prog 31 #[.pointer (some ⟨P.pb, 0, none⟩), .int .i64 f, .int .i64 c, .int .i64 x] w (PutW2 w0 w G P v f c x) := by
  obtain ⟨tag, h1, h2, h3, h4⟩ := h
  refine (pput2_any h1 f c x hx1 hx2).mono ?_
  rintro e w' ⟨tag', ht, ha, ⟨er, rfl, h0, hn, hp⟩ | ⟨k, q, i, B', hk, rfl, hg, hp⟩⟩
  · obtain ⟨hp, hg⟩ := Pw.call h2 h3 h4 ht ha hp
    exact ⟨⟨ht.size, hg⟩, .inl ⟨er, rfl, h0, hn, hp⟩⟩
  · obtain ⟨hp, hx⟩ := Pw.call h2 h3 h4 ht ha hp
    exact ⟨⟨ht.size, hx⟩, .inr ⟨k, q, i, B', hk, rfl, hg, hp⟩⟩
theorem Pw.carve2 (h : Pw w0 w G P v) (hx : v.nxt ≤ 1073741824) (i n : Int) : Calls Tryz.prog 44 #[.pointer (some ⟨P.tb, 0, none⟩), .int .i64 i, .int .i64 n] w fun e w' => Kept w G w' ∧
    e = .returned (.tuple #[.int .i64 (Qu.carveA v.l v.nxt i n).1, .int .i64 (Qu.carveA v.l v.nxt i n).2.1]) ∧ Pw w0 w' G P { v with l := (Qu.carveA v.l v.nxt i n).2.2.1, nxt := (Qu.carveA v.l v.nxt i n).2.2.2 } := by
  obtain ⟨tag, h1, h2, h3, h4⟩ := h
  refine ((h1.re (retag_agr w tag 3)).carve_ (fun x hx => retag_new w tag 3 hx) hx i n).mono ?_
  rintro e w' ⟨rfl, hp, ht⟩
  have ht' : Turn (Mine tag) w w' := (Turn.refl _ w).agr ht (retag_agr w tag 3)
  obtain ⟨hp, hg⟩ := Pw.call h2 h3 h4 ht' (retag_agr w tag 3) hp
  exact ⟨⟨ht'.size, hg⟩, rfl, hp⟩
theorem Pw.fill2 (h : Pw w0 w G P v) (a n : Nat) (c : Int) (hx : a + n ≤ v.m.length) (h0 : 0 ≤ c) (h1 : c ≤ 255) : Calls Tryz.prog 40 #[.pointer (some ⟨P.ab, 0, none⟩), .int .i64 (a : Int), .int .i64 (n : Int), .int .u8 c] w fun e w' => Kept w G w' ∧ e = .returned (.int .i64 0) ∧ Pw w0 w' G P { v with m := Ar.putAt v.m a (List.replicate n c) } := by
  obtain ⟨tag, hp, h2, h3, h4⟩ := h
  refine (hp.fill_ a n c hx h0 h1).mono ?_
  rintro e w' ⟨rfl, hp, ht⟩
  obtain ⟨hp, hg⟩ := Pw.call h2 h3 h4 ht (Agr.refl _ _) hp
  exact ⟨⟨ht.size, hg⟩, rfl, hp⟩
end
end Go.Proofs.YtdmnemgooagehaaGreatDoor
