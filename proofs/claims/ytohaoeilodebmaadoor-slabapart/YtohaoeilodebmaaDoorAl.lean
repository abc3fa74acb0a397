/- The function alive, by which every law begins. -/
import Derived.Test.YtohaoeilodebmaaDoorNew
namespace Go.Proofs.YtohaoeilodebmaaDoor
open Go.RowKit Go.Maps

theorem free_mk {K : Nat} {B : St} (h : Inv K B) (hn : NoHeld B) {k i : Nat} (hk : k ≤ K) (hi : i < 2 ^ (K - k)) (hno : ∀ k' p, p / 2 ^ k = i → B k' (p / 2 ^ k') ≠ .used)
    (hex : k = K ∨ ∃ k' p, p / 2 ^ (k + 1) = i / 2 ∧ B k' (p / 2 ^ k') = .used) : B k i = .free := by
  obtain ⟨k1, h1, f1⟩ := covered h hn k i hk hi hno
  by_cases e : k1 = k
  · subst e; rwa [Nat.mul_div_cancel _ (Nat.two_pow_pos _)] at f1
  · have hk1 := (h.inn _ _ (by rw [f1]; simp : B k1 (i * 2 ^ k / 2 ^ k1) ≠ .no)).1
    rcases hex with rfl | ⟨k', p, hp, hb⟩
    · omega
    · obtain ⟨d, rfl⟩ : ∃ d, k1 = k + 1 + d := ⟨k1 - (k + 1), by omega⟩
      have e1 : p / 2 ^ (k + 1 + d) = i * 2 ^ k / 2 ^ (k + 1 + d) := by
        rw [Nat.pow_add, ← Nat.div_div_eq_div_mul, ← Nat.div_div_eq_div_mul, hp, half_div, Nat.mul_div_cancel _ (Nat.two_pow_pos _)]
      have e2 := h.at_ (by rw [f1]; simp) e1 (by rw [hb]; simp : B k' (p / 2 ^ k') ≠ .no)
      subst e2
      rw [e1, f1] at hb
      cases hb

/-- Just these are used. -/
def Us (B : St) (U : List (Nat × Nat)) : Prop := ∀ k i, B k i = .used ↔ (k, i) ∈ U
theorem Us.plus {B B' : St} {U : List (Nat × Nat)} {o n : Nat} (h : Us B U) (hp : Plus B B' o n) : Us B' ((o, n) :: U) := fun k i => by
  rw [hp k i, h k i, List.mem_cons, Prod.mk.injEq, or_comm]
theorem begin_us (K : Nat) : Us (begin_ K) [] := fun k i => by unfold begin_; split <;> simp
theorem begin_noheld (K : Nat) : NoHeld (begin_ K) := fun k i => by unfold begin_; split <;> simp
theorem begin_least {K o k i : Nat} (h : Least (begin_ K) o k i) : k = K ∧ i = 0 := by
  have := h.2.1
  unfold begin_ at this
  split at this
  · assumption
  · cases this
theorem begin_some {K o : Nat} (ho : o ≤ K) (h : ∀ k j, o ≤ k → begin_ K k j ≠ .free) : False := h K 0 ho (by unfold begin_; simp)

theorem addr_of {o n p : Nat} {a : Int} (h : addr o n = a) (ha : a = ((p * 1024 : Nat) : Int)) : n * 2 ^ o = p := by unfold addr at h; omega

theorem al1 {B : St} (hi : Inv 6 B) (hn : NoHeld B) (hu : Us B [(0, 0)]) : B 0 1 = .free := by
  refine free_mk hi hn (by omega) (by omega) (fun k' p hp hb => ?_) (.inr ⟨0, 0, by simp, (hu 0 (0 / 2 ^ 0)).2 (by simp)⟩)
  have := (hu _ _).1 hb
  simp at this hp
  obtain ⟨rfl, h⟩ := this
  simp at h; omega
theorem al2 {B : St} (hi : Inv 6 B) (hn : NoHeld B) (hu : Us B [(0, 1), (0, 0)]) : B 1 1 = .free := by
  refine free_mk hi hn (by omega) (by omega) (fun k' p hp hb => ?_) (.inr ⟨0, 0, by simp, (hu 0 (0 / 2 ^ 0)).2 (by simp)⟩)
  have := (hu _ _).1 hb
  simp at this hp
  rcases this with ⟨rfl, h⟩ | ⟨rfl, h⟩ <;> simp at h <;> omega
theorem al4 {B : St} (hi : Inv 6 B) (hn : NoHeld B) (hu : Us B [(1, 1), (0, 0)]) : B 5 1 = .free := by
  refine free_mk hi hn (by omega) (by omega) (fun k' p hp hb => ?_) (.inr ⟨0, 0, by simp, (hu 0 (0 / 2 ^ 0)).2 (by simp)⟩)
  have := (hu _ _).1 hb
  simp at this hp
  rcases this with ⟨rfl, h⟩ | ⟨rfl, h⟩ <;> simp at h <;> omega
theorem al_great {B : St} {r : Int} (hi : Inv 6 B) (hn : NoHeld B) (hu : Us B [(1, 1), (0, 0)]) (h : GreatB B r) : r = 5 := by
  have h5 := al4 hi hn hu
  rcases h with ⟨_, h⟩ | ⟨k, i, rfl, hb, h⟩
  · exact absurd h5 (h 5 1)
  · have h6 := h 5 1 h5
    obtain ⟨hk, hi6⟩ := hi.inn k i (by rw [hb]; simp)
    by_cases e : k = 6
    · subst e
      simp at hi6
      subst hi6
      have h0 : B 0 0 = .used := (hu 0 0).2 (by simp)
      have := hi.one 0 6 0 (by simp [hb]) (by simp [h0])
      omega
    · omega
theorem al_list {B : St} {L : List (Nat × Nat)} (hu : Us B [(1, 1), (0, 0)]) (h : Lst B .used L) : L.length = 2 := by
  have e : L = [(0, 0), (2, 1)] := by
    refine rise_ext h.rise (by simp) fun ⟨p, k⟩ => ?_
    rw [h.mem]
    constructor
    · rintro ⟨i, rfl, hb⟩
      have := (hu k i).1 hb
      simp at this
      rcases this with ⟨rfl, rfl⟩ | ⟨rfl, rfl⟩ <;> simp
    · intro hm
      simp at hm
      rcases hm with ⟨rfl, rfl⟩ | ⟨rfl, rfl⟩
      · exact ⟨0, by simp, (hu 0 0).2 (by simp)⟩
      · exact ⟨1, by simp, (hu 1 1).2 (by simp)⟩
  rw [e]; rfl
theorem al_pages {B : St} (hi : Inv 6 B) (hn : NoHeld B) (hu : Us B [(1, 1), (0, 1), (0, 0)]) : pages 6 (isK B .free) (6 + 1) = 60 := by
  have ha := pages_all hi hn
  have e0 : pages 6 (fun _ _ => false) 7 = 0 := by decide +kernel
  have e1 := pages_more (K := 6) (f := fun _ _ => false) (g := fun k i => decide (k = 0 ∧ i = 0)) (o := 0) (n := 0) rfl (fun k i => by simp) (by omega) (N := 7) (by omega)
  have e2 := pages_more (K := 6) (f := fun k i => decide (k = 0 ∧ i = 0)) (g := fun k i => decide (k = 0 ∧ i = 0) || decide (k = 0 ∧ i = 1)) (o := 0) (n := 1) (by simp) (fun k i => rfl) (by omega) (N := 7) (by omega)
  have e3 := pages_more (K := 6) (f := fun k i => decide (k = 0 ∧ i = 0) || decide (k = 0 ∧ i = 1)) (g := fun k i => (decide (k = 0 ∧ i = 0) || decide (k = 0 ∧ i = 1)) || decide (k = 1 ∧ i = 1)) (o := 1) (n := 1) (by simp) (fun k i => rfl) (by omega) (N := 7) (by omega)
  have e4 : isK B .used = fun k i => (decide (k = 0 ∧ i = 0) || decide (k = 0 ∧ i = 1)) || decide (k = 1 ∧ i = 1) := by
    funext k i
    unfold isK
    rw [Bool.eq_iff_iff]
    simp [hu k i]
    omega
  rw [e4, e3, e2, e1, e0] at ha
  omega
theorem least_at {B : St} {o i0 k i : Nat} (h : Least B o k i) (hf : B o i0 = .free) (hb : ∀ j, j < i0 → B o j ≠ .free) : k = o ∧ i = i0 := by
  have e : k = o := by
    apply Decidable.byContradiction
    intro hne
    exact h.2.2.2 o i0 (Nat.le_refl _) (by have := h.1; omega) hf
  subst e
  refine ⟨rfl, ?_⟩
  apply Decidable.byContradiction
  intro hne
  by_cases hl : i < i0
  · exact hb i hl h.2.1
  · exact h.2.2.1 i0 (by omega) hf

set_option maxHeartbeats 4000000 in
set_option maxRecDepth 100000 in
theorem alive_true (w : World) (hT : Tab w) : Calls Tryd.prog 7 #[] w fun e w' => e = .returned (.bool true) ∧ Below w.heap.size w w' := by
  have HT := hid hT
  have hpos := hT.pos
  clear hT
  go_enter Tryd.func7, Tryd.ntmps7
  go_wp2_with fail
  refine (newB_any 6 _ HT.out (by omega) (by omega)).mono ?_
  rintro e w1 ⟨p, m, bf, gf, rfl, hm1, hnew, hX1⟩
  have hI1 := hid (And.intro (begin_inv 6) (begin_noheld 6))
  have HM1 := hid hm1
  have HN := hid hnew
  have hSt : Hid (∀ x, Own m 6 gf x → w.heap.size ≤ x) := by
    rintro x (rfl | ⟨k, hk, rfl⟩)
    · exact hnew.2.1
    · exact (hnew.2.2 k hk).2
  clear hm1 hnew
  go_wp2_with fail
  refine (take_any w1 p m 6 bf gf (begin_ 6) 0 0 HM1.out hI1.out.1 hI1.out.2 (HT.out.below hX1 hpos) (by omega) (by omega)).mono ?_
  rintro e w2 ⟨a2, r2, rfl, ht2, h2⟩
  have hX2 := Below.of_turn hX1 hX1.size ht2 hSt.out
  rcases h2 with ⟨_, _, h2, _⟩ | ⟨k, i, n, B2, rfl, hl, rfl, han, _, hpl, hi2, hn2, hm2⟩
  · exact (begin_some (by omega) h2).elim
  obtain ⟨rfl, rfl⟩ := begin_least hl
  have ha2 : addr 6 0 = 0 := rfl
  rw [ha2] at han ⊢
  obtain rfl : n = 0 := by have := addr_of (p := 0) han rfl; omega
  have HB2 := hid (And.intro hi2 (And.intro hn2 (And.intro ((begin_us 6).plus hpl) hm2)))
  clear hl hpl hi2 hn2 hm2 ht2 HM1 hI1 han ha2 hX1
  go_wp2_with fail
  refine (take_any w2 p m 6 bf gf B2 (0 + 1) 0 HB2.out.2.2.2 HB2.out.1 HB2.out.2.1 (HT.out.below hX2 hpos) (by omega) (by omega)).mono ?_
  rintro e w3 ⟨a3, r3, rfl, ht3, h3⟩
  have hX3 := Below.of_turn hX2 hX2.size ht3 hSt.out
  have hf2 := al1 HB2.out.1 HB2.out.2.1 HB2.out.2.2.1
  rcases h3 with ⟨_, _, h3, _⟩ | ⟨k, i, n, B3, rfl, hl, rfl, han, _, hpl, hi3, hn3, hm3⟩
  · exact (h3 0 1 (by omega) hf2).elim
  obtain ⟨rfl, rfl⟩ := least_at hl hf2 (fun j hj hb => by
    obtain rfl : j = 0 := by omega
    rw [(HB2.out.2.2.1 0 0).2 (by simp)] at hb
    cases hb)
  have ha3 : addr 0 1 = 1024 := rfl
  rw [ha3] at han ⊢
  obtain rfl : n = 1 := by have := addr_of (p := 1) han rfl; omega
  have HB3 := hid (And.intro hi3 (And.intro hn3 (And.intro (HB2.out.2.2.1.plus hpl) hm3)))
  clear hl hpl hi3 hn3 hm3 ht3 HB2 han ha3 hX2 hf2
  go_wp2_with fail
  refine (take_any w3 p m 6 bf gf B3 (0 + 1 + 1) 1 HB3.out.2.2.2 HB3.out.1 HB3.out.2.1 (HT.out.below hX3 hpos) (by omega) (by omega)).mono ?_
  rintro e w4 ⟨a4, r4, rfl, ht4, h4⟩
  have hX4 := Below.of_turn hX3 hX3.size ht4 hSt.out
  have hf3 := al2 HB3.out.1 HB3.out.2.1 HB3.out.2.2.1
  rcases h4 with ⟨_, _, h4, _⟩ | ⟨k, i, n, B4, rfl, hl, rfl, han, _, hpl, hi4, hn4, hm4⟩
  · exact (h4 1 1 (by omega) hf3).elim
  obtain ⟨rfl, rfl⟩ := least_at hl hf3 (fun j hj hb => by
    obtain rfl : j = 0 := by omega
    have := HB3.out.1.one 0 1 0 (by simp [hb]) (by simp [(HB3.out.2.2.1 0 0).2 (by simp)])
    omega)
  have ha4 : addr 1 1 = 2048 := rfl
  rw [ha4] at han ⊢
  obtain rfl : n = 1 := by have := addr_of (p := 2) han rfl; omega
  have HB4 := hid (And.intro hi4 (And.intro hn4 (And.intro (HB3.out.2.2.1.plus hpl) hm4)))
  clear hl hpl hi4 hn4 hm4 ht4 HB3 han ha4 hX3 hf3
  go_wp2_with fail
  refine (left_any w4 p m 6 bf gf B4 _ HB4.out.2.2.2 HB4.out.1).mono ?_
  rintro e w5 ⟨rfl, rfl⟩
  rw [al_pages HB4.out.1 HB4.out.2.1 HB4.out.2.2.1]
  go_wp2_with fail
  refine (give_any w5 p m 6 bf gf B4 _ 1024 HB4.out.2.2.2 HB4.out.1 HB4.out.2.1 (by decide)).mono ?_
  rintro e w6 ⟨r6, rfl, ht6, h6⟩
  have hX6 := Below.of_turn hX4 hX4.size ht6 hSt.out
  rcases h6 with ⟨_, h6, _⟩ | ⟨k, i, B6, rfl, hb, ha, hls, hi6, hn6, hm6⟩
  · exact (h6 0 1 ((HB4.out.2.2.1 0 1).2 (by simp)) rfl).elim
  obtain ⟨rfl, rfl⟩ : k = 0 ∧ i = 1 := addr_inj HB4.out.1 (by rw [hb]; simp) (by rw [(HB4.out.2.2.1 0 1).2 (by simp)]; simp) (ha.symm.trans rfl)
  have hu6 : Us B6 [(1, 1), (0, 0)] := fun k i => by
    rw [hls k i, HB4.out.2.2.1 k i]
    simp
    omega
  have HB6 := hid (And.intro hi6 (And.intro hn6 (And.intro hu6 hm6)))
  clear hb ha hls hi6 hn6 hu6 hm6 ht6 HB4 hX4
  go_wp2_with fail
  refine (give_any w6 p m 6 bf gf B6 _ 1024 HB6.out.2.2.2 HB6.out.1 HB6.out.2.1 (by decide)).mono ?_
  rintro e w7 ⟨r7, rfl, ht7, h7⟩
  have hX7 := Below.of_turn hX6 hX6.size ht7 hSt.out
  have hno : ∀ k i, B6 k i = .used → (1024 : Int) ≠ addr k i := by
    intro k i hb ha
    have := (HB6.out.2.2.1 k i).1 hb
    simp at this
    rcases this with ⟨rfl, rfl⟩ | ⟨rfl, rfl⟩ <;> exact absurd ha (by decide)
  rcases h7 with ⟨rfl, _, hm7⟩ | ⟨k, i, B7, rfl, hb, ha, _⟩
  case inr => exact (hno k i hb ha).elim
  have HB7 := hid (And.intro HB6.out.1 (And.intro HB6.out.2.1 (And.intro HB6.out.2.2.1 hm7)))
  have HNO := hid hno
  clear ht7 HB6 hX6 hno hm7
  go_wp2_with fail
  refine (take_bad w7 p 6 7 HB7.out.2.2.2.cK (by omega)).mono ?_
  rintro e w8 ⟨rfl, rfl⟩
  go_wp2_with fail
  refine (order_any w8 p m 6 bf gf B6 _ 2048 HB7.out.2.2.2 (by decide)).mono ?_
  rintro e w9 ⟨r9, rfl, h9, rfl⟩
  obtain rfl : r9 = 1 := by
    have h11 : B6 1 1 = .used := (HB7.out.2.2.1 1 1).2 (by simp)
    rcases h9 with ⟨_, h⟩ | ⟨k, i, rfl, hb, ha⟩
    · exact (h 1 1 h11 rfl).elim
    · obtain ⟨rfl, rfl⟩ := addr_inj HB7.out.1 (by rw [hb]; simp) (by rw [h11]; simp : B6 1 1 ≠ .no) (ha.symm.trans rfl)
      rfl
  clear h9
  go_wp2_with fail
  refine (order_any w9 p m 6 bf gf B6 _ 1024 HB7.out.2.2.2 (by decide)).mono ?_
  rintro e w10 ⟨r10, rfl, h10, rfl⟩
  obtain rfl : r10 = -1 := by
    rcases h10 with ⟨h, _⟩ | ⟨k, i, _, hb, ha⟩
    · exact h
    · exact (HNO.out k i hb ha).elim
  clear h10
  go_wp2_with fail
  refine (used_any w10 p m 6 bf gf B6 _ HB7.out.2.2.2 HB7.out.1 (by omega)).mono ?_
  rintro e w11 ⟨v, L, rfl, hL, _, hown, hX11⟩
  have hlen := al_list HB7.out.2.2.1 hL
  rw [hlen] at hown
  obtain ⟨ad, cap, rfl⟩ : ∃ ad cap, v = .slice ad 2 cap := by
    rcases hown.2 with ⟨_, h⟩ | ⟨g, cap, cur, rfl, _⟩
    · omega
    · exact ⟨_, _, rfl⟩
  have HM11 := hid (HB7.out.2.2.2.below hX11)
  have hX12 := Below.of_below hX7 hX7.size hX11
  clear hL hown hlen hX11 hX7
  go_wp2_with fail
  refine (greatest_any w11 p m 6 bf gf B6 _ HM11.out HB7.out.1 (HT.out.below hX12 hpos)).mono ?_
  rintro e w13 ⟨r13, rfl, h13, rfl⟩
  obtain rfl := al_great HB7.out.1 HB7.out.2.1 HB7.out.2.2.1 h13
  clear h13
  go_wp2_with fail
  refine (newB_small 5 _ (by omega)).mono ?_
  rintro e w14 ⟨rfl, rfl⟩
  go_wp2_with fail
  go_ret
  exact ⟨rfl, hX12⟩
end Go.Proofs.YtohaoeilodebmaaDoor
