/- A cache: Take. -/
import Derived.Test.YtohaoeilodebmaaDoorS18
namespace Go.Proofs.YtohaoeilodebmaaDoor
open Go.RowKit Go.Maps

/-- A cache between two calls; the blocks that are its own are among Z. -/
def Sl (w : World) (Z : Nat → Prop) (c p sz m ct : Nat) (U : Pls) : Prop :=
  ∃ mb nm D a cap nn L sb bm gm ws, Ca w c p sz m mb nm D a cap nn L sb bm gm ws (Slb U m) (Opened U m) U ∧ (∀ x, Ow c mb a sb bm gm (Slb U m) x → Z x) ∧ nm ≤ ct
theorem Sl.wide {w : World} {Z Z' : Nat → Prop} {c p sz m ct ct' : Nat} {U : Pls} (h : Sl w Z c p sz m ct U) (hz : ∀ x, Z x → Z' x) (hc : ct ≤ ct') : Sl w Z' c p sz m ct' U := by
  obtain ⟨mb, nm, D, a, cap, nn, L, sb, bm, gm, ws, hC, hZ, hn⟩ := h
  exact ⟨mb, nm, D, a, cap, nn, L, sb, bm, gm, ws, hC, fun x hx => hz x (hZ x hx), by omega⟩
theorem Sl.turn {w w' : World} {T Z : Nat → Prop} {c p sz m ct : Nat} {U : Pls} (h : Sl w Z c p sz m ct U) (ht : Turn T w w') (hT : ∀ x, Z x → ¬ T x) : Sl w' Z c p sz m ct U := by
  obtain ⟨mb, nm, D, a, cap, nn, L, sb, bm, gm, ws, hC, hZ, hn⟩ := h
  exact ⟨mb, nm, D, a, cap, nn, L, sb, bm, gm, ws, hC.turn ht (fun x hx => hT x (hZ x hx)), hZ, hn⟩
theorem Sl.below {w w' : World} {Z : Nat → Prop} {c p sz m ct : Nat} {U : Pls} (h : Sl w Z c p sz m ct U) (hb : Below w.heap.size w w') : Sl w' Z c p sz m ct U := by
  obtain ⟨mb, nm, D, a, cap, nn, L, sb, bm, gm, ws, hC, hZ, hn⟩ := h
  exact ⟨mb, nm, D, a, cap, nn, L, sb, bm, gm, ws, hC.below hb, hZ, hn⟩
theorem Sl.own {w : World} {Z : Nat → Prop} {c p sz m ct : Nat} {U : Pls} (h : Sl w Z c p sz m ct U) : Sl w (fun x => Z x ∧ x < w.heap.size) c p sz m ct U := by
  obtain ⟨mb, nm, D, a, cap, nn, L, sb, bm, gm, ws, hC, hZ, hn⟩ := h
  exact ⟨mb, nm, D, a, cap, nn, L, sb, bm, gm, ws, hC, fun x hx => ⟨hZ x hx, hC.lt hx⟩, hn⟩

/-- The page of a place that was taken: a slab that was there, or the first free block. -/
def Came (B B' : St) (U : Pls) (m q : Nat) : Prop :=
  (Slb U m q ∧ B' = B) ∨ (¬ Slb U m q ∧ (∀ r, ¬ Opened U m r) ∧ B 0 q ≠ .used ∧ Plus B B' 0 q ∧ ∃ k j, Least B 0 k j ∧ pag q = addr k j)
def STook (w : World) (Z : Nat → Prop) (c p sz m mm K : Nat) (bf gf : Nat → Nat) (B : St) (ct : Nat) (U : Pls) (N : Nat) (e : Ending) (w' : World) : Prop :=
  ∃ (Z' : Nat → Prop) (B' : St), Turn (Tn Z mm K gf) w w' ∧ (∀ x, Z' x → Z x ∨ w.heap.size ≤ x) ∧ Good w' p mm K bf gf B' (ct + 1) ∧
    ((e = .returned (.tuple #[.int .i64 0, .int .i64 4]) ∧ (∀ q, ¬ Opened U m q) ∧ (∀ k j, B k j ≠ .free) ∧ B' = B ∧ Sl w' Z' c p sz m (ct + 1) U) ∨
     ∃ q i U', e = .returned (.tuple #[.int .i64 ((place sz q i : Nat) : Int), .int .i64 0]) ∧ Taken U U' m q i ∧ Sl w' Z' c p sz m (ct + 1) U' ∧ Fit B' U' m N ∧ Came B B' U m q)

/-- What is known behind the test for an open slab: one stands first. -/
structure Mid (w w1 : World) (Z : Nat → Prop) (c p sz m mm K : Nat) (bf gf : Nat → Nat) (B B1 : St) (ct : Nat) (U : Pls) (N mb n1 : Nat) (D1 : DataW Unit) (g cap1 k : Nat) (L1 sb1 bm1 gm1 : Nat → Nat) (ws1 : Nat → List Nat) (S1 O1 : Nat → Prop) (q : Nat) : Prop where
  ca : Ca w1 c p sz m mb n1 D1 (some ⟨g, 0, none⟩) cap1 (k + 1) L1 sb1 bm1 gm1 ws1 S1 O1 U
  own : ∀ x, Ow c mb (some ⟨g, 0, none⟩) sb1 bm1 gm1 S1 x → Z x ∨ w.heap.size ≤ x
  turn : Turn (Tn Z mm K gf) w w1
  good : Good w1 p mm K bf gf B1 (ct + 1)
  tab : Tab w1
  pg : L1 0 = q
  s1 : ∀ r, S1 r ↔ Slb U m r ∨ r = q
  o1 : ∀ r, r ≠ q → (O1 r ↔ Opened U m r)
  free : ∃ i, i < m ∧ U q i = false
  page : (Slb U m q ∧ ∀ r, Opened U m r → q ≤ r) ∨ ((∀ r, ¬ Opened U m r) ∧ ¬ Slb U m q)
  came : Came B B1 U m q
  fit : B1 0 q = .used ∧ q < N ∧ Fit B1 U m N
  few : n1 ≤ ct + 1
  low : q < 1048576
  lab : ∀ x, AB p mm K bf gf x → x < w.heap.size

theorem Mid.sq {w w1 : World} {Z : Nat → Prop} {c p sz m mm K : Nat} {bf gf : Nat → Nat} {B B1 : St} {ct : Nat} {U : Pls} {N mb n1 : Nat} {D1 : DataW Unit} {g cap1 k : Nat} {L1 sb1 bm1 gm1 : Nat → Nat} {ws1 : Nat → List Nat} {S1 O1 : Nat → Prop} {q : Nat}
    (h : Mid w w1 Z c p sz m mm K bf gf B B1 ct U N mb n1 D1 g cap1 k L1 sb1 bm1 gm1 ws1 S1 O1 q) : S1 q := (h.s1 q).2 (.inr rfl)
theorem Mid.g0 {w w1 : World} {Z : Nat → Prop} {c p sz m mm K : Nat} {bf gf : Nat → Nat} {B B1 : St} {ct : Nat} {U : Pls} {N mb n1 : Nat} {D1 : DataW Unit} {g cap1 k : Nat} {L1 sb1 bm1 gm1 : Nat → Nat} {ws1 : Nat → List Nat} {S1 O1 : Nat → Prop} {q : Nat}
    (h : Mid w w1 Z c p sz m mm K bf gf B B1 ct U N mb n1 D1 g cap1 k L1 sb1 bm1 gm1 ws1 S1 O1 q) : w1.cell? ⟨g, 0, none⟩ = some (.pointer (some ⟨sb1 q, 0, none⟩)) := by
  obtain ⟨g', e, hH⟩ := h.ca.heapAt rfl
  cases e
  rw [hH.mem.cell (show 0 < k + 1 by omega), h.pg]

theorem Came.fit {B B' : St} {U : Pls} {m q N : Nat} (h : Came B B' U m q) (hF : Fit B U m N) : Fit B' U m N := by
  rcases h with ⟨_, rfl⟩ | ⟨_, _, _, hp, _⟩
  · exact hF
  · exact hF.more (fun r hr => (hp 0 r).2 (.inl hr))

/-- What stands behind a place's bit, the heap as it was: the rest. -/
theorem Mid.done {w w1 w4 : World} {Z : Nat → Prop} {c p sz m mm K : Nat} {bf gf : Nat → Nat} {B B1 : St} {ct : Nat} {U : Pls} {N mb n1 : Nat} {D1 : DataW Unit} {g cap1 k k' : Nat} {L1 L4 sb1 bm1 gm1 : Nat → Nat} {ws1 ws4 : Nat → List Nat} {S1 O1 O4 : Nat → Prop} {q i : Nat}
    (h : Mid w w1 Z c p sz m mm K bf gf B B1 ct U N mb n1 D1 g cap1 k L1 sb1 bm1 gm1 ws1 S1 O1 q) (hd : ∀ x, Z x → ¬ AB p mm K bf gf x) (hi : i < m) (hu : U q i = false) (hlow : ∀ j, j < i → U q j = true)
    (ht : Turn (fun x => Ow c mb (some ⟨g, 0, none⟩) sb1 bm1 gm1 S1 x) w1 w4) (hC : Ca w4 c p sz m mb n1 D1 (some ⟨g, 0, none⟩) cap1 k' L4 sb1 bm1 gm1 ws4 S1 O4 (setU U q i true))
    (hO : ∀ r, r ≠ q → (O4 r ↔ O1 r)) (hOq : O4 q ↔ ∃ j, j < m ∧ setU U q i true q j = false) {e : Ending} (he : e = .returned (.tuple #[.int .i64 ((place sz q i : Nat) : Int), .int .i64 0])) :
    STook w Z c p sz m mm K bf gf B ct U N e w4 := by
  have hown := h.own
  have hG4 : Good w4 p mm K bf gf B1 (ct + 1) := h.good.turn ht (fun x hx ho => by
    rcases hown x ho with e | e
    · exact hd x e hx
    · have := h.lab x hx
      omega)
  have hSS : ∀ r, Slb (setU U q i true) m r ↔ S1 r := fun r => by
    rw [h.s1]
    by_cases e : r = q
    · subst e; exact ⟨fun _ => .inr rfl, fun _ => slb_on hi⟩
    · rw [slb_other true e]
      exact ⟨.inl, fun h => h.resolve_right e⟩
  have hOO : ∀ r, Opened (setU U q i true) m r ↔ O4 r := fun r => by
    by_cases e : r = q
    · subst e
      rw [hOq]
      exact ⟨fun h => h.2, fun h => ⟨slb_on hi, h⟩⟩
    · rw [hO r e, h.o1 r e]
      unfold Opened
      rw [slb_other true e, setU_page U true e]
  refine ⟨fun x => Ow c mb (some ⟨g, 0, none⟩) sb1 bm1 gm1 S1 x, B1, h.turn.next ht (fun x hx => (hown x hx).imp .inl id), hown, hG4, .inr ⟨q, i, _, he, ⟨hi, hu, hlow, rfl, h.page⟩, ?_, h.fit.2.2.take hi ⟨h.fit.1, h.fit.2.1⟩, h.came⟩⟩
  refine ⟨mb, n1, D1, _, cap1, k', L4, sb1, bm1, gm1, ws4, hC.congr (fun _ _ => ⟨rfl, rfl, rfl, rfl⟩) hSS hOO (fun _ _ _ _ => rfl), fun x hx => ?_, h.few⟩
  rcases hx with e | e | e | ⟨r, hr, e⟩
  · exact .inl e
  · exact .inr (.inl e)
  · exact .inr (.inr (.inl e))
  · exact .inr (.inr (.inr ⟨r, (hSS r).1 hr, e⟩))

set_option maxRecDepth 100000 in
set_option maxHeartbeats 4000000 in
theorem stake_any {w : World} {Z : Nat → Prop} {c p sz m mm K : Nat} {bf gf : Nat → Nat} {B : St} {ct : Nat} {U : Pls} {N : Nat}
    (h : Sl w Z c p sz m ct U) (hG : Good w p mm K bf gf B ct) (hd : ∀ x, Z x → ¬ AB p mm K bf gf x) (hT : Tab w) (h1 : ¬ Tn Z mm K gf 1) (hc : ct ≤ 1000000) (hK : K ≤ 20) (hN : N = 2 ^ K) (hF : Fit B U m N) (hz1 : 16 ≤ sz) (hz2 : sz ≤ 512) (hm : m = 960 / sz) :
    Calls Tryd.prog 26 #[.pointer (some ⟨c, 0, none⟩)] w (STook w Z c p sz m mm K bf gf B ct U N) := by
  obtain ⟨mb, nm, D, a, cap, nn, L, sb, bm, gm, ws, hC, hZ, hnm⟩ := h
  have hm0 : 0 < m := by rw [hm]; exact Nat.div_pos (by omega) (by omega)
  have hm60 : m ≤ 60 := by rw [hm]; exact Nat.le_trans (Nat.div_le_div_left hz1 (by omega)) (by omega)
  have hN20 : N ≤ 1048576 := by rw [hN]; exact pow_le20 hK
  have c3 := hC.c3
  have HH := hid (And.intro hC (And.intro hZ (And.intro hG (And.intro hd (And.intro hT (And.intro h1 (And.intro hF (And.intro hm hN))))))))
  clear hC hZ hG hd hT h1 hF hm hN
  rcases Nat.eq_zero_or_pos nn with h0 | h0
  · subst h0
    obtain ⟨hC, hZ, hG, hd, hT, h1, hF, hm, hN⟩ := HH.out
    have hnoO : ∀ r, ¬ Opened U m r := fun r hr => by
      obtain ⟨k, hk, _⟩ := (hC.inn r).2 hr
      omega
    have hadd := sadd_any hC hZ hG hd hT hc (by omega) hK (fun q hq => (hF.page q hq).1) (fun q i hq hi => by
      cases e : U q i
      · rfl
      · exact absurd ⟨i, hi, e⟩ hq) hz1 hz2 hm
    have HA := hid (And.intro hadd hnoO)
    clear hC hZ hG hd hT h1 hF hm hN hadd hnoO
    go_enter Tryd.func26, Tryd.ntmps26
    go_wp2_with (go_at_call 49; refine (olen_any _ _ _ _).mono ?_; rintro e wx ⟨rfl, ex⟩; rw [ex]; clear ex wx)
    refine HA.out.1.mono ?_
    rintro e w1 ⟨ht1, ⟨rfl, hno, hC1, hG1⟩ | ⟨rfl, q, k, j, B1, D1, g, cap1, L1, sb1, bm1, gm1, ws1, hl, hpg, hu, hp, hG1, hC1, hown⟩⟩
    · have HX := hid (And.intro ht1 (And.intro hno (And.intro hC1 hG1)))
      clear ht1 hno hC1 hG1
      go_wp2_with fail
      go_ret2
      obtain ⟨ht1, hno, hC1, hG1⟩ := HX.out
      obtain ⟨hC, hZ, hG, hd, hT, h1, hF, hm, hN⟩ := HH.out
      exact ⟨Z, B, ht1, fun x hx => .inl hx, hG1, .inl ⟨rfl, HA.out.2, hno, rfl, mb, nm, D, a, cap, 0, L, sb, bm, gm, ws, hC1, hZ, by omega⟩⟩
    · obtain ⟨hC, hZ, hG, hd, hT, h1, hF, hm, hN⟩ := HH.out
      have hnoO := HA.out.2
      have hnS := hF.new hu
      have hqN : q < N := by
        have := (hG1.1.inn 0 q (by rw [(hp 0 q).2 (.inr ⟨rfl, rfl⟩)]; simp)).2
        rw [hN]; simpa using this
      have hq0 : L1 0 = q := by
        rcases (hC1.inn (L1 0)).1 ⟨0, by omega, rfl⟩ with e | e
        · exact absurd e (hnoO _)
        · exact e
      have hM : Mid w w1 Z c p sz m mm K bf gf B B1 ct U N mb (nm + 1) D1 g cap1 0 L1 sb1 bm1 gm1 ws1 _ _ q :=
        ⟨hC1, hown, ht1, hG1, hT.turn ht1 h1, hq0, fun r => Iff.rfl, fun r hr => ⟨fun e => e.resolve_right hr, .inl⟩, ⟨0, hm0, by
          cases e : U q 0
          · rfl
          · exact absurd ⟨0, hm0, e⟩ hnS⟩, .inr ⟨hnoO, hnS⟩, .inr ⟨hnS, hnoO, hu, hp, k, j, hl, hpg⟩, ⟨(hp 0 q).2 (.inr ⟨rfl, rfl⟩), hqN, hF.more (fun r hr => (hp 0 r).2 (.inl hr))⟩, by omega, by omega, fun x hx => hG.lab hx⟩
      have HM := hid hM
      clear hC hZ hG hd hT h1 hF hm hN hnoO hnS hl hpg hu hp hC1 hG1 hown ht1 hM HA
      have hg0 := HM.out.g0
      have hs0 := HM.out.ca.s0 HM.out.sq
      have hc3 := HM.out.ca.c3
      obtain ⟨y, hy⟩ : ∃ y, y = ((q * 1024 : Nat) : Int) := ⟨_, rfl⟩
      have hyb : 0 ≤ y ∧ y < 1073741824 := by have := HM.out.low; omega
      have HY := hid hy
      clear hy
      go_wp2_with (go_at_call 49; refine (olen_any _ _ _ _).mono ?_; rintro e wx ⟨rfl, ex⟩; rw [ex]; clear ex wx)
      refine (HM.out.ca.first HM.out.sq HM.out.tab HM.out.free).mono ?_
      rintro e wx ⟨i, rfl, hi, hu, hlow, ex⟩
      rw [ex]
      clear ex wx
      have HI := hid (And.intro hu hlow)
      clear hu hlow
      go_wp2_with fail
      refine ((HM.out.ca.below ((Below.refl _ _).alloc (Nat.le_refl _) _)).setCall HM.out.sq hi (heap_alloc_new w1 _)).mono ?_
      rintro e w2 ⟨t, rfl, hb2, ws2, hC2⟩
      have ht2 : Turn (fun x => Ow c mb (some ⟨g, 0, none⟩) sb1 bm1 gm1 (fun r => Slb U m r ∨ r = q) x) w1 w2 := (Turn.alloc (Turn.refl _ w1) _).next (Turn.of_but (S := fun x => x = gm1 q) hb2 (.inl rfl)) (by rintro x rfl; exact .inl (.inr (.inr (.inr ⟨q, HM.out.sq, .inr (.inr rfl)⟩))))
      have hT2 : Tab w2 := HM.out.tab.turn ht2 (fun ho => by
        rcases HM.out.own 1 ho with e | e
        · exact HH.out.2.2.2.2.2.1 (.inl e)
        · have := HH.out.2.2.2.2.1.pos
          omega)
      have hsb2 := hC2.s1 HM.out.sq
      rw [← HY.out] at hsb2
      have hbeg : ∀ wx : World, wx.cell? ⟨c, 1, none⟩ = some (.int .i64 (sz : Int)) → Calls Tryd.prog 48 #[.pointer (some ⟨c, 0, none⟩), .int .i64 y, .int .i64 (i : Int)] wx fun e w' => e = .returned (.int .i64 ((place sz q i : Nat) : Int)) ∧ w' = wx := fun wx hx => by
        rw [HY.out]
        exact begin_any wx c sz q i hx hz2 (by have := HM.out.low; omega) (by omega)
      have HB := hid hbeg
      have H2 := hid (And.intro hC2 (And.intro ht2 hT2))
      clear hC2 ht2 hT2 hb2 hbeg hg0 hs0
      go_wp2_with fail
      refine (H2.out.1.fullCall HM.out.sq H2.out.2.2).mono ?_
      rintro e wx ⟨f, rfl, hf, ex⟩
      rw [ex]
      clear ex wx
      obtain ⟨pl, hpl⟩ : ∃ pl, pl = place sz q i := ⟨_, rfl⟩
      rw [← hpl] at HB
      have HPL := hid hpl
      clear hpl
      cases f
      · go_wp2_with fail
        refine (HB.out w2 H2.out.1.c1).mono ?_
        rintro e wx ⟨rfl, ex⟩
        rw [ex]
        clear ex wx
        go_wp2_with fail
        go_ret2
        obtain ⟨hC2, ht2, hT2⟩ := H2.out
        refine HM.out.done HH.out.2.2.2.1 hi HI.out.1 HI.out.2 ht2 hC2 (fun r _ => Iff.rfl) ⟨fun _ => ?_, fun _ => ?_⟩ (by rw [← HPL.out]; rfl)
        · refine Classical.byContradiction fun hx => ?_
          have := hf.out.2 (fun j hj => by
            cases e : setU U q i true q j
            · exact absurd ⟨j, hj, e⟩ hx
            · rfl)
          cases this
        · have := (HM.out.ca.inn (L1 0)).1 ⟨0, by omega, rfl⟩
          rw [HM.out.pg] at this
          exact this
      · have hpop := hpop_any w2 c g cap1 0 _ L1 sb1 bm1 H2.out.1.head (by
          obtain ⟨g', e, hH⟩ := H2.out.1.heapAt rfl
          cases e
          exact hH) H2.out.1.heap
        have HPO := hid hpop
        clear hpop
        go_wp2_with fail
        refine HPO.out.mono ?_
        rintro e w3 ⟨rfl, hp3⟩
        obtain ⟨hC2, ht2, hT2⟩ := H2.out
        obtain ⟨L3, hC3, ht3⟩ := hC2.popped (i := 0) (by omega) ⟨rfl, hp3⟩
        rw [HM.out.pg] at hC3
        have hsb3 := hC3.s1 HM.out.sq
        rw [← HY.out] at hsb3
        have H3 := hid (And.intro hC3 ht3)
        clear hC2 ht2 hT2 hp3 hC3 ht3 hsb2
        go_wp2_with fail
        refine (HB.out w3 H3.out.1.c1).mono ?_
        rintro e wx ⟨rfl, ex⟩
        rw [ex]
        clear ex wx
        go_wp2_with fail
        go_ret2
        obtain ⟨hC2, ht2, hT2⟩ := H2.out
        obtain ⟨hC3, ht3⟩ := H3.out
        refine HM.out.done HH.out.2.2.2.1 hi HI.out.1 HI.out.2 (ht2.next ht3 (by
          rintro x (e | e | ⟨r, hr, e⟩)
          · exact .inl (.inl e)
          · exact .inl (.inr (.inr (.inl e)))
          · exact .inl (.inr (.inr (.inr ⟨r, hr, .inl e⟩))))) hC3 (fun r hr => ⟨fun e => e.1, fun e => ⟨e, hr⟩⟩) ⟨fun e => absurd rfl e.2, fun ⟨j, hj, e⟩ => ?_⟩ (by rw [← HPL.out]; rfl)
        rw [hf.out.1 trivial j hj] at e
        cases e
  · obtain ⟨k, rfl⟩ : ∃ k, nn = k + 1 := ⟨nn - 1, by omega⟩
    obtain ⟨hC, hZ, hG, hd, hT, h1, hF, hm, hN⟩ := HH.out
    obtain ⟨g, rfl, _⟩ := hC.heapAt rfl
    have hO0 := (hC.inn (L 0)).1 ⟨0, by omega, rfl⟩
    have hM : Mid w w Z c p sz m mm K bf gf B B ct U N mb nm D g cap k L sb bm gm ws _ _ (L 0) :=
      ⟨hC, fun x hx => .inl (hZ x hx), Turn.refl _ _, hG.more (by omega), hT, rfl, fun r => ⟨.inl, fun e => e.elim id (fun e => e ▸ hO0.1)⟩, fun r _ => Iff.rfl, hO0.2, .inl ⟨hO0.1, fun r hr => by
        obtain ⟨j, hj, rfl⟩ := (hC.inn r).2 hr
        exact hC.heap.least j hj⟩, .inl ⟨hO0.1, rfl⟩, ⟨(hF.page _ hO0.1).1, (hF.page _ hO0.1).2, hF⟩, by omega, by have := (hF.page _ hO0.1).2; omega, fun x hx => hG.lab hx⟩
    obtain ⟨q, hq⟩ : ∃ q, q = L 0 := ⟨_, rfl⟩
    rw [← hq] at hM
    have HM := hid hM
    have hk1 : ((k : Int) + 1 == 0) = false := by rw [beq_eq_false_iff_ne]; omega
    clear hC hZ hG hd hT h1 hF hm hN hO0 hM hq
    go_enter Tryd.func26, Tryd.ntmps26
    have hg0 := HM.out.g0
    have hs0 := HM.out.ca.s0 HM.out.sq
    have hc3 := HM.out.ca.c3
    obtain ⟨y, hy⟩ : ∃ y, y = ((q * 1024 : Nat) : Int) := ⟨_, rfl⟩
    have hyb : 0 ≤ y ∧ y < 1073741824 := by have := HM.out.low; omega
    have HY := hid hy
    clear hy
    go_wp2_with (go_at_call 49; refine (olen_any _ _ _ _).mono ?_; rintro e wx ⟨rfl, ex⟩; rw [ex]; clear ex wx)
    refine (HM.out.ca.first HM.out.sq HM.out.tab HM.out.free).mono ?_
    rintro e wx ⟨i, rfl, hi, hu, hlow, ex⟩
    rw [ex]
    clear ex wx
    have HI := hid (And.intro hu hlow)
    clear hu hlow
    go_wp2_with fail
    refine ((HM.out.ca.below ((Below.refl _ _).alloc (Nat.le_refl _) _)).setCall HM.out.sq hi (heap_alloc_new w _)).mono ?_
    rintro e w2 ⟨t, rfl, hb2, ws2, hC2⟩
    have ht2 : Turn (fun x => Ow c mb (some ⟨g, 0, none⟩) sb bm gm (Slb U m) x) w w2 := (Turn.alloc (Turn.refl _ w) _).next (Turn.of_but (S := fun x => x = gm q) hb2 (.inl rfl)) (by rintro x rfl; exact .inl (.inr (.inr (.inr ⟨q, HM.out.sq, .inr (.inr rfl)⟩))))
    have hT2 : Tab w2 := HM.out.tab.turn ht2 (fun ho => by
      rcases HM.out.own 1 ho with e | e
      · exact HH.out.2.2.2.2.2.1 (.inl e)
      · have := HH.out.2.2.2.2.1.pos
        omega)
    have hsb2 := hC2.s1 HM.out.sq
    rw [← HY.out] at hsb2
    have hbeg : ∀ wx : World, wx.cell? ⟨c, 1, none⟩ = some (.int .i64 (sz : Int)) → Calls Tryd.prog 48 #[.pointer (some ⟨c, 0, none⟩), .int .i64 y, .int .i64 (i : Int)] wx fun e w' => e = .returned (.int .i64 ((place sz q i : Nat) : Int)) ∧ w' = wx := fun wx hx => by
      rw [HY.out]
      exact begin_any wx c sz q i hx hz2 (by have := HM.out.low; omega) (by omega)
    have HB := hid hbeg
    have H2 := hid (And.intro hC2 (And.intro ht2 hT2))
    clear hC2 ht2 hT2 hb2 hbeg hg0 hs0
    go_wp2_with fail
    refine (H2.out.1.fullCall HM.out.sq H2.out.2.2).mono ?_
    rintro e wx ⟨f, rfl, hf, ex⟩
    rw [ex]
    clear ex wx
    obtain ⟨pl, hpl⟩ : ∃ pl, pl = place sz q i := ⟨_, rfl⟩
    rw [← hpl] at HB
    have HPL := hid hpl
    clear hpl
    cases f
    · go_wp2_with fail
      refine (HB.out w2 H2.out.1.c1).mono ?_
      rintro e wx ⟨rfl, ex⟩
      rw [ex]
      clear ex wx
      go_wp2_with fail
      go_ret2
      obtain ⟨hC2, ht2, hT2⟩ := H2.out
      refine HM.out.done HH.out.2.2.2.1 hi HI.out.1 HI.out.2 ht2 hC2 (fun r _ => Iff.rfl) ⟨fun _ => ?_, fun _ => ?_⟩ (by rw [← HPL.out]; rfl)
      · refine Classical.byContradiction fun hx => ?_
        have := hf.out.2 (fun j hj => by
          cases e : setU U q i true q j
          · exact absurd ⟨j, hj, e⟩ hx
          · rfl)
        cases this
      · have := (HM.out.ca.inn (L 0)).1 ⟨0, by omega, rfl⟩
        rw [HM.out.pg] at this
        exact this
    · have hpop := hpop_any w2 c g cap k _ L sb bm H2.out.1.head (by
        obtain ⟨g', e, hH⟩ := H2.out.1.heapAt rfl
        cases e
        exact hH) H2.out.1.heap
      have HPO := hid hpop
      clear hpop
      go_wp2_with fail
      refine HPO.out.mono ?_
      rintro e w3 ⟨rfl, hp3⟩
      obtain ⟨hC2, ht2, hT2⟩ := H2.out
      obtain ⟨L3, hC3, ht3⟩ := hC2.popped (i := 0) (by omega) ⟨rfl, hp3⟩
      rw [HM.out.pg] at hC3
      have hsb3 := hC3.s1 HM.out.sq
      rw [← HY.out] at hsb3
      have H3 := hid (And.intro hC3 ht3)
      clear hC2 ht2 hT2 hp3 hC3 ht3 hsb2
      go_wp2_with fail
      refine (HB.out w3 H3.out.1.c1).mono ?_
      rintro e wx ⟨rfl, ex⟩
      rw [ex]
      clear ex wx
      go_wp2_with fail
      go_ret2
      obtain ⟨hC2, ht2, hT2⟩ := H2.out
      obtain ⟨hC3, ht3⟩ := H3.out
      refine HM.out.done HH.out.2.2.2.1 hi HI.out.1 HI.out.2 (ht2.next ht3 (by
        rintro x (e | e | ⟨r, hr, e⟩)
        · exact .inl (.inl e)
        · exact .inl (.inr (.inr (.inl e)))
        · exact .inl (.inr (.inr (.inr ⟨r, hr, .inl e⟩))))) hC3 (fun r hr => ⟨fun e => e.1, fun e => ⟨e, hr⟩⟩) ⟨fun e => absurd rfl e.2, fun ⟨j, hj, e⟩ => ?_⟩ (by rw [← HPL.out]; rfl)
      rw [hf.out.1 trivial j hj] at e
      cases e
end Go.Proofs.YtohaoeilodebmaaDoor
