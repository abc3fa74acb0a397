/- A cache: Give and Has. -/
import Derived.Test.YtohaoeilodebmaaDoorS19
namespace Go.Proofs.YtohaoeilodebmaaDoor
open Go.RowKit Go.Maps

def SGave (w : World) (Z : Nat → Prop) (c p sz m mm K : Nat) (bf gf : Nat → Nat) (B : St) (ct : Nat) (U : Pls) (N : Nat) (x : Int) (e : Ending) (w' : World) : Prop :=
  ∃ (Z' : Nat → Prop) (B' : St), Turn (Tn Z mm K gf) w w' ∧ (∀ x, Z' x → Z x ∨ w.heap.size ≤ x) ∧ Good w' p mm K bf gf B' ct ∧
    ((e = .returned (.int .i64 6) ∧ (∀ q i, i < m → U q i = true → x ≠ ((place sz q i : Nat) : Int)) ∧ B' = B ∧ Sl w' Z' c p sz m ct U) ∨
     ∃ q i, e = .returned (.int .i64 0) ∧ i < m ∧ U q i = true ∧ x = ((place sz q i : Nat) : Int) ∧ Sl w' Z' c p sz m ct (setU U q i false) ∧ Fit B' (setU U q i false) m N ∧
       ((Slb (setU U q i false) m q ∧ B' = B) ∨ (¬ Slb (setU U q i false) m q ∧ Less B B' 0 q)))

/-- What is known behind the test for a full slab: the place's slab stands in the heap. -/
structure Gid (w w1 : World) (Z : Nat → Prop) (c p sz m mm K : Nat) (bf gf : Nat → Nat) (B : St) (ct : Nat) (U : Pls) (N mb nm : Nat) (D : DataW Unit) (a1 : Option Addr) (cap1 nn1 : Nat) (L1 sb bm gm : Nat → Nat) (ws : Nat → List Nat) (O1 : Nat → Prop) (q i : Nat) : Prop where
  ca : Ca w1 c p sz m mb nm D a1 cap1 nn1 L1 sb bm gm ws (Slb U m) O1 U
  own : ∀ x, Ow c mb a1 sb bm gm (Slb U m) x → Z x ∨ w.heap.size ≤ x
  turn : Turn (Tn Z mm K gf) w w1
  good : Good w1 p mm K bf gf B ct
  o1 : ∀ r, O1 r ↔ Opened U m r ∨ r = q
  fit : Fit B U m N
  few : nm ≤ ct
  low : q < 1048576
  lt : i < m
  used : U q i = true
  apart : ∀ x, Z x → ¬ AB p mm K bf gf x
  lab : ∀ x, AB p mm K bf gf x → x < w.heap.size

section
variable {w w1 : World} {Z : Nat → Prop} {c p sz m mm K : Nat} {bf gf : Nat → Nat} {B : St} {ct : Nat} {U : Pls} {N mb nm : Nat} {D : DataW Unit} {a1 : Option Addr} {cap1 nn1 : Nat} {L1 sb bm gm : Nat → Nat} {ws : Nat → List Nat} {O1 : Nat → Prop} {q i : Nat}
theorem Gid.sq (h : Gid w w1 Z c p sz m mm K bf gf B ct U N mb nm D a1 cap1 nn1 L1 sb bm gm ws O1 q i) : Slb U m q := ⟨i, h.lt, h.used⟩
theorem Gid.off (h : Gid w w1 Z c p sz m mm K bf gf B ct U N mb nm D a1 cap1 nn1 L1 sb bm gm ws O1 q i) {x : Nat} (hx : Ow c mb a1 sb bm gm (Slb U m) x) : ¬ AB p mm K bf gf x := fun ha => by
  rcases h.own x hx with e | e
  · exact h.apart x e ha
  · have := h.lab x ha
    omega
theorem Gid.opened (h : Gid w w1 Z c p sz m mm K bf gf B ct U N mb nm D a1 cap1 nn1 L1 sb bm gm ws O1 q i) {r : Nat} (hr : r ≠ q) : Opened (setU U q i false) m r ↔ O1 r := by
  rw [h.o1]
  unfold Opened
  rw [slb_other false hr, setU_page U false hr]
  exact ⟨.inl, fun e => e.resolve_right hr⟩
theorem Gid.kept {w2 : World} {ws2 : Nat → List Nat} {e : Ending} {x : Int} (h : Gid w w1 Z c p sz m mm K bf gf B ct U N mb nm D a1 cap1 nn1 L1 sb bm gm ws O1 q i) (hx : x = ((place sz q i : Nat) : Int)) (ht : Turn (fun x => Ow c mb a1 sb bm gm (Slb U m) x) w1 w2)
    (hC : Ca w2 c p sz m mb nm D a1 cap1 nn1 L1 sb bm gm ws2 (Slb U m) O1 (setU U q i false)) (hs : Slb (setU U q i false) m q) (he : e = .returned (.int .i64 0)) : SGave w Z c p sz m mm K bf gf B ct U N x e w2 := by
  have hSS : ∀ r, Slb (setU U q i false) m r ↔ Slb U m r := fun r => by
    by_cases e : r = q
    · subst e; exact ⟨fun _ => h.sq, fun _ => hs⟩
    · exact slb_other false e
  have hOO : ∀ r, Opened (setU U q i false) m r ↔ O1 r := fun r => by
    by_cases e : r = q
    · subst e
      rw [h.o1]
      exact ⟨fun _ => .inr rfl, fun _ => ⟨hs, i, h.lt, setU_same _ _ _ _⟩⟩
    · exact h.opened e
  refine ⟨fun x => Ow c mb a1 sb bm gm (Slb U m) x, B, h.turn.next ht (fun x hx => (h.own x hx).imp .inl id), h.own, h.good.turn ht (fun x hx ho => h.off ho hx), .inr ⟨q, i, he, h.lt, h.used, hx, ?_, h.fit.give (fun _ _ h => h), .inl ⟨hs, rfl⟩⟩⟩
  refine ⟨mb, nm, D, a1, cap1, nn1, L1, sb, bm, gm, ws2, hC.congr (fun _ _ => ⟨rfl, rfl, rfl, rfl⟩) hSS hOO (fun _ _ _ _ => rfl), fun x hx => ?_, h.few⟩
  rcases hx with e | e | e | ⟨r, hr, e⟩
  · exact .inl e
  · exact .inr (.inl e)
  · exact .inr (.inr (.inl e))
  · exact .inr (.inr (.inr ⟨r, (hSS r).1 hr, e⟩))
theorem Gid.gone {w2 w3 : World} {ws2 : Nat → List Nat} {e : Ending} {x : Int} (h : Gid w w1 Z c p sz m mm K bf gf B ct U N mb nm D a1 cap1 nn1 L1 sb bm gm ws O1 q i) (hx : x = ((place sz q i : Nat) : Int)) (ht : Turn (fun x => Ow c mb a1 sb bm gm (Slb U m) x) w1 w2)
    (hs : ¬ Slb (setU U q i false) m q) (hp : DropPost w2 (fun x => Ow c mb a1 sb bm gm (Slb U m) x) c p sz m mm K bf gf B ct mb nm a1 cap1 q sb bm gm ws2 (Slb U m) O1 (setU U q i false) e w3) : SGave w Z c p sz m mm K bf gf B ct U N x e w3 := by
  obtain ⟨he, ht3, B', D', nn', L', hL, hG3, hC3⟩ := hp
  have hSS : ∀ r, Slb (setU U q i false) m r ↔ Slb U m r ∧ r ≠ q := fun r => by
    by_cases e : r = q
    · subst e; exact ⟨fun h => absurd h hs, fun h => absurd rfl h.2⟩
    · rw [slb_other false e]
      exact ⟨fun h => ⟨h, e⟩, fun h => h.1⟩
  have hOO : ∀ r, Opened (setU U q i false) m r ↔ O1 r ∧ r ≠ q := fun r => by
    by_cases e : r = q
    · subst e
      exact ⟨fun h => absurd h.1 hs, fun h => absurd rfl h.2⟩
    · rw [h.opened e]
      exact ⟨fun h => ⟨h, e⟩, fun h => h.1⟩
  refine ⟨fun x => Ow c mb a1 sb bm gm (Slb U m) x, B', (h.turn.next ht (fun x hx => (h.own x hx).imp .inl id)).next ht3 ?_, h.own, hG3, .inr ⟨q, i, he, h.lt, h.used, hx, ?_, h.fit.give (fun r hr hB => (hL 0 r).2 ⟨hB, fun e => hs (e.2 ▸ hr)⟩), .inr ⟨hs, hL⟩⟩⟩
  · rintro x (hx | hx)
    · exact (h.own x hx).imp .inl id
    · exact .inl (.inr hx)
  refine ⟨mb, nm, D', a1, cap1, nn', L', sb, bm, gm, ws2, hC3.congr (fun _ _ => ⟨rfl, rfl, rfl, rfl⟩) hSS hOO (fun _ _ _ _ => rfl), fun x hx => ?_, h.few⟩
  rcases hx with e | e | e | ⟨r, hr, e⟩
  · exact .inl e
  · exact .inr (.inl e)
  · exact .inr (.inr (.inl e))
  · exact .inr (.inr (.inr ⟨r, ((hSS r).1 hr).1, e⟩))
end

set_option maxRecDepth 100000 in
set_option maxHeartbeats 4000000 in
theorem sgive_any {w : World} {Z : Nat → Prop} {c p sz m mm K : Nat} {bf gf : Nat → Nat} {B : St} {ct : Nat} {U : Pls} {N : Nat} (x : Int)
    (h : Sl w Z c p sz m ct U) (hG : Good w p mm K bf gf B ct) (hd : ∀ x, Z x → ¬ AB p mm K bf gf x) (hT : Tab w) (h1 : ¬ Tn Z mm K gf 1) (hN : N ≤ 1048576) (hF : Fit B U m N) (hz1 : 16 ≤ sz) (hz2 : sz ≤ 512) (hm : m = 960 / sz) (hx1 : -9223372036854775808 ≤ x) (hx2 : x < 9223372036854775808) :
    Calls Tryd.prog 27 #[.pointer (some ⟨c, 0, none⟩), .int .i64 x] w (SGave w Z c p sz m mm K bf gf B ct U N x) := by
  obtain ⟨mb, nm, D, a, cap, nn, L, sb, bm, gm, ws, hC, hZ, hnm⟩ := h
  have hsz : 64 + m * sz ≤ 1024 := by have := Nat.div_mul_le_self 960 sz; rw [hm]; omega
  have hm60 : m ≤ 60 := by rw [hm]; exact Nat.le_trans (Nat.div_le_div_left hz1 (by omega)) (by omega)
  have hfind := sfind_any hC (by omega) hz2 hsz x hx1 hx2
  have HH := hid (And.intro hC (And.intro hZ (And.intro hG (And.intro hd (And.intro hT (And.intro h1 (And.intro hF hm)))))))
  have HF := hid hfind
  clear hC hZ hG hd hT h1 hF hm hfind hsz
  go_enter Tryd.func27, Tryd.ntmps27
  go_wp2_with fail
  refine HF.out.mono ?_
  rintro e w0 ⟨⟨rfl, hno⟩ | ⟨q, i, hSq, hi, hu, hxe, rfl⟩, k, rfl⟩
  · have HN := hid hno
    clear hno
    go_wp2_with fail
    go_ret
    obtain ⟨hC, hZ, hG, hd, hT, h1, hF, hm⟩ := HH.out
    exact ⟨Z, B, Turn.drewN (Turn.refl _ w) k, fun x hx => .inl hx, hG.other (fun _ _ _ => rfl), .inl ⟨rfl, fun q i hi hu => HN.out q i ⟨i, hi, hu⟩ hi hu, rfl, mb, nm, D, a, cap, nn, L, sb, bm, gm, ws, hC.drewN k, hZ, hnm⟩⟩
  · have HI := hid (And.intro hSq (And.intro hu hxe))
    have hqN : q < 1048576 := by have := (HH.out.2.2.2.2.2.2.1.page q hSq).2; omega
    clear hSq hu hxe
    go_wp2_with fail
    refine ((HH.out.1.drewN k).fullCall HI.out.1 (HH.out.2.2.2.2.1.drewN k)).mono ?_
    rintro e wx ⟨f, rfl, hf, ex⟩
    rw [ex]
    clear ex wx
    cases f
    · obtain ⟨hC, hZ, hG, hd, hT, h1, hF, hm⟩ := HH.out
      have hGi : Gid w (w.drewN k) Z c p sz m mm K bf gf B ct U N mb nm D a cap nn L sb bm gm ws (Opened U m) q i :=
        ⟨hC.drewN k, fun x hx => .inl (hZ x hx), Turn.drewN (Turn.refl _ w) k, hG.other (fun _ _ _ => rfl), fun r => ⟨.inl, fun e => e.elim id (fun e => e ▸ ⟨HI.out.1, by
          refine Classical.byContradiction fun hx => ?_
          have := hf.out.2 (fun j hj => by
            cases e : U q j
            · exact absurd ⟨j, hj, e⟩ hx
            · rfl)
          cases this⟩)⟩, hF, hnm, hqN, hi, HI.out.2.1, hd, fun x hx => hG.lab hx⟩
      have HM := hid hGi
      obtain ⟨w1, hw1⟩ : ∃ w1, w1 = w.drewN k := ⟨_, rfl⟩
      have HT1 := hid (hT.drewN k)
      rw [← hw1] at HM HT1 ⊢
      have HW := hid hw1
      clear hC hZ hG hd hT h1 hF hm hGi hf hw1
      have hs0 := HM.out.ca.s0 HM.out.sq
      go_wp2_with fail
      refine ((HM.out.ca.below ((Below.refl _ _).alloc (Nat.le_refl _) _)).setCall (on := false) HM.out.sq hi (heap_alloc_new w1 _)).mono ?_
      rintro e w2 ⟨t, rfl, hb2, ws2, hC2⟩
      have ht2 : Turn (fun x => Ow c mb a sb bm gm (Slb U m) x) w1 w2 := (Turn.alloc (Turn.refl _ w1) _).next (Turn.of_but (S := fun x => x = gm q) hb2 (.inl rfl)) (by rintro x rfl; exact .inl (.inr (.inr (.inr ⟨q, HM.out.sq, .inr (.inr rfl)⟩))))
      have hs02 := hC2.s0 HM.out.sq
      have hcnt : count (now ws q ws2 q) = cnt (setU U q i false q) m := (count_cnt (hC2.bits q HM.out.sq).ok).trans (cnt_congr (fun j hj => hC2.bit_ q HM.out.sq j hj))
      have hcb : cnt (setU U q i false q) m ≤ 60 := Nat.le_trans (cnt_le _ _) hm60
      have hcc := count_any (bm q) (gm q) m _ w2 (hC2.bits q HM.out.sq)
      rw [hcnt] at hcc
      obtain ⟨n, hn⟩ : ∃ n, n = cnt (setU U q i false q) m := ⟨_, rfl⟩
      rw [← hn] at hcc hcb
      have HN := hid hn
      have HC := hid hcc
      have H2 := hid (And.intro hC2 ht2)
      clear hC2 ht2 hb2 hs0 hcnt hn hcc
      rcases Nat.eq_zero_or_pos n with hn0 | hn0
      · subst hn0
        have hnS : ¬ Slb (setU U q i false) m q := fun hs => by
          have := (slb_cnt _ _ _).1 hs
          rw [← HN.out] at this
          omega
        have hdrop := sdrop_any (Z := fun x => Ow c mb a sb bm gm (Slb U m) x) H2.out.1 (fun _ hx => hx) (HM.out.good.turn H2.out.2 (fun x hx ho => HM.out.off ho hx)) (fun x hx => HM.out.off hx) ((HM.out.o1 q).2 (.inr rfl)) (HM.out.fit.page q HM.out.sq).1 HM.out.low
        have HD := hid (And.intro hdrop hnS)
        clear hdrop hnS
        go_wp2_with (go_at_call 42; refine HC.out.mono ?_; rintro e wx ⟨rfl, ex⟩; rw [ex]; clear ex wx)
        refine HD.out.1.mono ?_
        rintro e w3 ⟨rfl, hp3⟩
        have H3 := hid hp3
        clear hp3
        go_wp2_with fail
        go_ret
        exact HM.out.gone HI.out.2.2 H2.out.2 HD.out.2 ⟨rfl, H3.out⟩
      · have hlt : decide ((0 : Int) < (n : Int)) = true := by simp; omega
        go_wp2_with (go_at_call 42; refine HC.out.mono ?_; rintro e wx ⟨rfl, ex⟩; rw [ex]; clear ex wx)
        go_ret
        exact HM.out.kept HI.out.2.2 H2.out.2 H2.out.1 ((slb_cnt _ _ _).2 (by rw [← HN.out]; exact hn0)) rfl
    · obtain ⟨hC, hZ, hG, hd, hT, h1, hF, hm⟩ := HH.out
      have hno : ¬ Opened U m q := fun ho => by
        obtain ⟨j, hj, e⟩ := ho.2
        rw [hf.out.1 rfl j hj] at e
        cases e
      have hpu := (hC.drewN k).toPush HI.out.1 hno (N := 1048576) (fun r hr => by have := (hF.page r hr).2; omega) (Nat.le_refl _)
      have HP := hid hpu
      clear hC hZ hG hd hT h1 hF hm hpu hf hno
      go_wp2_with fail
      refine HP.out.mono ?_
      rintro e w1 ⟨rfl, hp1⟩
      obtain ⟨hC, hZ, hG, hd, hT, h1, hF, hm⟩ := HH.out
      obtain ⟨g1, cap1, L1, hC1, ha1, ht1⟩ := (hC.drewN k).pushed HI.out.1 ⟨rfl, hp1⟩
      have hTn : Turn (Tn Z mm K gf) w w1 := (Turn.drewN (Turn.refl _ w) k).next ht1 (by
        rintro x (rfl | ⟨ad, e, rfl⟩ | ⟨r, hr, rfl⟩)
        · exact .inl (.inl (hZ _ (.inl rfl)))
        · exact .inl (.inl (hZ _ (.inr (.inr (.inl ⟨_, e, rfl⟩)))))
        · exact .inl (.inl (hZ _ (.inr (.inr (.inr ⟨r, hr, .inl rfl⟩))))))
      have hGi : Gid w w1 Z c p sz m mm K bf gf B ct U N mb nm D (some ⟨g1, 0, none⟩) cap1 (nn + 1) L1 sb bm gm ws _ q i :=
        ⟨hC1, fun x hx => by
          rcases hx with e | e | ⟨ad, e, e2⟩ | e
          · exact .inl (hZ _ (.inl e))
          · exact .inl (hZ _ (.inr (.inl e)))
          · cases e
            rcases ha1 with e | e
            · exact .inl (hZ _ (.inr (.inr (.inl ⟨_, e, e2⟩))))
            · right
              rw [e2]
              exact e
          · exact .inl (hZ _ (.inr (.inr (.inr e)))), hTn, (hG.other (w' := w.drewN k) (fun _ _ _ => rfl)).turn ht1 (by
            rintro x hx (rfl | ⟨ad, e, rfl⟩ | ⟨r, hr, rfl⟩)
            · exact hd _ (hZ _ (.inl rfl)) hx
            · exact hd _ (hZ _ (.inr (.inr (.inl ⟨_, e, rfl⟩)))) hx
            · exact hd _ (hZ _ (.inr (.inr (.inr ⟨r, hr, .inl rfl⟩)))) hx), fun r => Iff.rfl, hF, hnm, hqN, hi, HI.out.2.1, hd, fun x hx => hG.lab hx⟩
      have HM := hid hGi
      have HT1 := hid (hT.turn hTn h1)
      clear hC hZ hG hd hT h1 hF hm hGi hC1 ha1 ht1 hTn hp1 HP
      have hs0 := HM.out.ca.s0 HM.out.sq
      go_wp2_with fail
      refine ((HM.out.ca.below ((Below.refl _ _).alloc (Nat.le_refl _) _)).setCall (on := false) HM.out.sq hi (heap_alloc_new w1 _)).mono ?_
      rintro e w2 ⟨t, rfl, hb2, ws2, hC2⟩
      have ht2 : Turn (fun x => Ow c mb (some ⟨g1, 0, none⟩) sb bm gm (Slb U m) x) w1 w2 := (Turn.alloc (Turn.refl _ w1) _).next (Turn.of_but (S := fun x => x = gm q) hb2 (.inl rfl)) (by rintro x rfl; exact .inl (.inr (.inr (.inr ⟨q, HM.out.sq, .inr (.inr rfl)⟩))))
      have hs02 := hC2.s0 HM.out.sq
      have hcnt : count (now ws q ws2 q) = cnt (setU U q i false q) m := (count_cnt (hC2.bits q HM.out.sq).ok).trans (cnt_congr (fun j hj => hC2.bit_ q HM.out.sq j hj))
      have hcb : cnt (setU U q i false q) m ≤ 60 := Nat.le_trans (cnt_le _ _) hm60
      have hcc := count_any (bm q) (gm q) m _ w2 (hC2.bits q HM.out.sq)
      rw [hcnt] at hcc
      obtain ⟨n, hn⟩ : ∃ n, n = cnt (setU U q i false q) m := ⟨_, rfl⟩
      rw [← hn] at hcc hcb
      have HN := hid hn
      have HC := hid hcc
      have H2 := hid (And.intro hC2 ht2)
      clear hC2 ht2 hb2 hs0 hcnt hn hcc
      rcases Nat.eq_zero_or_pos n with hn0 | hn0
      · subst hn0
        have hnS : ¬ Slb (setU U q i false) m q := fun hs => by
          have := (slb_cnt _ _ _).1 hs
          rw [← HN.out] at this
          omega
        have hdrop := sdrop_any (Z := fun x => Ow c mb (some ⟨g1, 0, none⟩) sb bm gm (Slb U m) x) H2.out.1 (fun _ hx => hx) (HM.out.good.turn H2.out.2 (fun x hx ho => HM.out.off ho hx)) (fun x hx => HM.out.off hx) ((HM.out.o1 q).2 (.inr rfl)) (HM.out.fit.page q HM.out.sq).1 HM.out.low
        have HD := hid (And.intro hdrop hnS)
        clear hdrop hnS
        go_wp2_with (go_at_call 42; refine HC.out.mono ?_; rintro e wx ⟨rfl, ex⟩; rw [ex]; clear ex wx)
        refine HD.out.1.mono ?_
        rintro e w3 ⟨rfl, hp3⟩
        have H3 := hid hp3
        clear hp3
        go_wp2_with fail
        go_ret
        exact HM.out.gone HI.out.2.2 H2.out.2 HD.out.2 ⟨rfl, H3.out⟩
      · have hlt : decide ((0 : Int) < (n : Int)) = true := by simp; omega
        go_wp2_with (go_at_call 42; refine HC.out.mono ?_; rintro e wx ⟨rfl, ex⟩; rw [ex]; clear ex wx)
        go_ret
        exact HM.out.kept HI.out.2.2 H2.out.2 H2.out.1 ((slb_cnt _ _ _).2 (by rw [← HN.out]; exact hn0)) rfl

def SHasPost (w : World) (sz m : Nat) (U : Pls) (x : Int) (e : Ending) (w' : World) : Prop := ∃ f : Bool, e = .returned (.bool f) ∧ Hid (f = true ↔ ∃ q i, i < m ∧ U q i = true ∧ x = ((place sz q i : Nat) : Int)) ∧ ∃ k, w' = w.drewN k
theorem shas_nil (w : World) (x : Int) : Calls Tryd.prog 31 #[.pointer none, .int .i64 x] w fun e w' => e = .returned (.bool false) ∧ w' = w := by
  go_enter Tryd.func31, Tryd.ntmps31
  go_wp2_with (go_at_call 53; refine (sfind_nil _ _).mono ?_; rintro e w' ⟨rfl, rfl⟩)
  go_ret
  exact ⟨rfl, rfl⟩
theorem shas_any {w : World} {Z : Nat → Prop} {c p sz m ct : Nat} {U : Pls} (x : Int) (h : Sl w Z c p sz m ct U) (hz1 : 16 ≤ sz) (hz2 : sz ≤ 512) (hm : m = 960 / sz) (hx1 : -9223372036854775808 ≤ x) (hx2 : x < 9223372036854775808) :
    Calls Tryd.prog 31 #[.pointer (some ⟨c, 0, none⟩), .int .i64 x] w (SHasPost w sz m U x) := by
  obtain ⟨mb, nm, D, a, cap, nn, L, sb, bm, gm, ws, hC, hZ, hnm⟩ := h
  have hsz : 64 + m * sz ≤ 1024 := by have := Nat.div_mul_le_self 960 sz; rw [hm]; omega
  have hfind := sfind_any hC (by omega) hz2 hsz x hx1 hx2
  have HF := hid hfind
  clear hC hZ hm hfind hsz
  go_enter Tryd.func31, Tryd.ntmps31
  go_wp2_with fail
  refine HF.out.mono ?_
  rintro e w0 ⟨⟨rfl, hno⟩ | ⟨q, i, hSq, hi, hu, hxe, rfl⟩, k, rfl⟩
  · have HN := hid hno
    clear hno
    go_wp2_with fail
    go_ret
    exact ⟨false, rfl, Iff.intro (fun e => absurd e (by decide)) (fun ⟨q, i, hi, hu, e⟩ => absurd e (HN.out q i ⟨i, hi, hu⟩ hi hu)), k, rfl⟩
  · have HN := hid (And.intro hSq (And.intro hi (And.intro hu hxe)))
    clear hSq hi hu hxe
    go_wp2_with fail
    go_ret
    exact ⟨true, rfl, Iff.intro (fun _ => ⟨q, i, HN.out.2.1, HN.out.2.2.1, HN.out.2.2.2⟩) (fun _ => rfl), k, rfl⟩
end Go.Proofs.YtohaoeilodebmaaDoor
