/- A table's mathematics: its leaves and entries as words of an arena, and how they stay and turn. No program is named here. -/
import Derived.Test.YthpkmegjbehgaaaDoorZ1
namespace Go.Proofs.YthpkmegjbehgaaaDoor
open Go.RowKit Go.Maps

/-- Where a leaf begins; 0 without. -/
def lfA : Option (Nat × Nat) → Nat
  | none => 0
  | some (q, i) => place (cost 7) q i
theorem cost7 : cost 7 = 256 := by decide
theorem cost2 : cost 2 = 128 := by decide
theorem place_al (k q i : Nat) (h1 : 1 ≤ k) (h7 : k ≤ 7) : place (cost k) q i % 16 = 0 := by
  have h := (cost_in h1 h7).2.2
  have e : i * cost k % 16 = 0 := by rw [Nat.mul_mod, h, Nat.mul_zero]
  unfold place
  omega
theorem place_hi {q i K : Nat} {k : Nat} (h1 : 1 ≤ k) (h7 : k ≤ 7) (hi : i < many k) (hq : q < 2 ^ K) : place (cost k) q i + cost k ≤ 2 ^ K * 1024 ∧ 64 ≤ place (cost k) q i := by
  have h2 := (place_in (many_in h1 h7).2.2 hi (p := q)).2
  generalize 2 ^ K = z at *
  generalize cost k = c at *
  have h3 : q * 1024 + 1024 ≤ z * 1024 := by omega
  exact ⟨Nat.le_trans h2 h3, by unfold place; omega⟩
theorem wordsBytes2 (a b : Int) : Ar.wordsBytes [a, b] = Ar.bytesOf a ++ Ar.bytesOf b := by simp [Ar.wordsBytes]
theorem wordsBytes1 (a : Int) : Ar.wordsBytes [a] = Ar.bytesOf a := by simp [Ar.wordsBytes]
theorem bytesOf_len (a : Int) : (Ar.bytesOf a).length = 8 := rfl
theorem put_two (m : List Int) (o : Nat) (a b : Int) (h : o + 16 ≤ m.length) : Ar.putAt m o (Ar.wordsBytes [a, b]) = Ar.putAt (Ar.putAt m o (Ar.bytesOf a)) (o + 8) (Ar.bytesOf b) := by
  rw [wordsBytes2]
  apply List.ext_getElem?
  intro i
  have l1 : (Ar.bytesOf a).length = 8 := rfl
  have l2 : (Ar.bytesOf b).length = 8 := rfl
  rw [Ar.putAt_get m o _ (by rw [List.length_append, l1, l2]; omega), Ar.putAt_get _ (o + 8) _ (by rw [Ar.putAt_length _ _ _ (by rw [l1]; omega), l2]; omega), Ar.putAt_get m o _ (by rw [l1]; omega), List.length_append, l1, l2, List.getElem?_append, l1]
  by_cases h1 : i < o
  · simp [h1, show i < o + 8 by omega]
  · by_cases h2 : i < o + 8
    · simp [h1, h2, show i < o + (8 + 8) by omega, show i - o < 8 by omega]
    · by_cases h3 : i < o + 8 + 8
      · simp [h1, h2, h3, show ¬ i - o < 8 by omega, show i - o - 8 = i - (o + 8) by omega]
      · simp [h1, h2, h3]
theorem put_len {m cs : List Int} {o : Nat} (h : o + cs.length ≤ m.length) : (Ar.putAt m o cs).length = m.length := Ar.putAt_length m o cs h
theorem two_at (m : List Int) (o : Nat) (a b : Int) (h : o + 16 ≤ m.length) (ha : 0 ≤ a ∧ a < 18446744073709551616) (hb : 0 ≤ b ∧ b < 18446744073709551616) :
    Ar.wordAt (Ar.putAt m o (Ar.wordsBytes [a, b])) o = a ∧ Ar.wordAt (Ar.putAt m o (Ar.wordsBytes [a, b])) (o + 8) = b ∧ ∀ y, y + 8 ≤ o ∨ o + 16 ≤ y → Ar.wordAt (Ar.putAt m o (Ar.wordsBytes [a, b])) y = Ar.wordAt m y := by
  have l1 : (Ar.bytesOf a).length = 8 := rfl
  have l2 : (Ar.bytesOf b).length = 8 := rfl
  have e1 : (Ar.putAt m o (Ar.bytesOf a)).length = m.length := put_len (by rw [l1]; omega)
  rw [put_two m o a b h]
  refine ⟨?_, Ar.wordAt_put _ _ _ (by rw [e1]; omega) hb.1 hb.2, fun y hy => ?_⟩
  · rw [wordAt_out (by rw [e1, l2]; omega) (by omega)]
    exact Ar.wordAt_put _ _ _ (by omega) ha.1 ha.2
  · rw [wordAt_out (by rw [e1, l2]; omega) (by rw [l2]; omega), wordAt_out (by rw [l1]; omega) (by rw [l1]; omega)]
theorem one_at (m : List Int) (o : Nat) (a : Int) (h : o + 8 ≤ m.length) (ha : 0 ≤ a ∧ a < 18446744073709551616) :
    Ar.wordAt (Ar.putAt m o (Ar.wordsBytes [a])) o = a ∧ ∀ y, y + 8 ≤ o ∨ o + 8 ≤ y → Ar.wordAt (Ar.putAt m o (Ar.wordsBytes [a])) y = Ar.wordAt m y := by
  have l1 : (Ar.bytesOf a).length = 8 := rfl
  rw [wordsBytes1]
  exact ⟨Ar.wordAt_put _ _ _ (by omega) ha.1 ha.2, fun y hy => wordAt_out (by rw [l1]; omega) (by rw [l1]; omega)⟩

/-- A table in an arena: its place, its leaves, its entries. -/
structure Tm (P : Pp) (v : Pv) (x : Nat) (LF : Nat → Option (Nat × Nat)) (A B : Nat → Nat) : Prop where
  tk : ∃ q i, q < 2 ^ P.K ∧ i < many 2 ∧ v.U 2 q i = true ∧ x = place (cost 2) q i
  us : ∀ n q i, n < 16 → LF n = some (q, i) → q < 2 ^ P.K ∧ i < many 7 ∧ v.U 7 q i = true
  un : ∀ n n' p, n < 16 → n' < 16 → LF n = some p → LF n' = some p → n = n'
  lf : ∀ n, n < 16 → Ar.wordAt v.m (x + 8 * n) = ((lfA (LF n) : Nat) : Int)
  en : ∀ n q i, n < 16 → LF n = some (q, i) → ∀ j, j < 16 → Ar.wordAt v.m (place (cost 7) q i + 16 * j) = ((A (16 * n + j) : Nat) : Int) ∧ Ar.wordAt v.m (place (cost 7) q i + 16 * j + 8) = ((B (16 * n + j) : Nat) : Int)
  no : ∀ n, n < 16 → LF n = none → ∀ j, j < 16 → A (16 * n + j) = 0
  sm : ∀ s, A s < 18446744073709551616 ∧ B s < 18446744073709551616

theorem Pw.hK {w0 w : World} {G : Nat → Prop} {P : Pp} {v : Pv} (h : Pw w0 w G P v) : 6 ≤ P.K ∧ P.K ≤ 20 := by
  obtain ⟨tag, hp, h2, h3, h4⟩ := h
  exact hp.hK
section
variable {w0 w : World} {G : Nat → Prop} {P : Pp} {v : Pv} {x : Nat} {LF : Nat → Option (Nat × Nat)} {A B : Nat → Nat}
theorem Tm.x_in (h : Tm P v x LF A B) : x + 128 ≤ 2 ^ P.K * 1024 ∧ 64 ≤ x ∧ x % 16 = 0 := by
  obtain ⟨q, i, hq, hi, hu, rfl⟩ := h.tk
  have h1 := place_hi (by decide) (by decide) hi hq
  rw [cost2] at h1 ⊢
  exact ⟨h1.1, h1.2, by have := place_al 2 q i (by decide) (by decide); rwa [cost2] at this⟩
theorem Tm.l_in (h : Tm P v x LF A B) {n q i : Nat} (hn : n < 16) (hl : LF n = some (q, i)) : place (cost 7) q i + 256 ≤ 2 ^ P.K * 1024 ∧ 64 ≤ place (cost 7) q i ∧ place (cost 7) q i % 16 = 0 := by
  obtain ⟨hq, hi, hu⟩ := h.us n q i hn hl
  have h1 := place_hi (by decide) (by decide) hi hq
  rw [cost7] at h1 ⊢
  exact ⟨h1.1, h1.2, by have := place_al 7 q i (by decide) (by decide); rwa [cost7] at this⟩
theorem Tm.lfA_ne (h : Tm P v x LF A B) {n : Nat} (hn : n < 16) : lfA (LF n) = 0 ↔ LF n = none := by
  cases e : LF n with
  | none => simp [lfA]
  | some p =>
    obtain ⟨q, i⟩ := p
    have := (h.l_in hn e).2.1
    simp only [lfA, reduceCtorEq, iff_false]
    omega
theorem two_apart (hp : Pw w0 w G P v) {k q i k' q' i' : Nat} (h1 : 1 ≤ k) (h7 : k ≤ 7) (hi : i < many k) (hu : v.U k q i = true) (h1' : 1 ≤ k') (h7' : k' ≤ 7) (hi' : i' < many k') (hu' : v.U k' q' i' = true) (hne : ¬ (k = k' ∧ q = q' ∧ i = i')) :
    place (cost k) q i + cost k ≤ place (cost k') q' i' ∨ place (cost k') q' i' + cost k' ≤ place (cost k) q i := by
  by_cases e1 : place (cost k) q i < place (cost k') q' i' + cost k'
  · by_cases e2 : place (cost k') q' i' < place (cost k) q i + cost k
    · exact (trips_apart hp (s := (k, q, i)) (t := (k', q', i')) ⟨h1, h7, hi, hu⟩ ⟨h1', h7', hi', hu'⟩ (fun e => hne (by simpa using e)) e1 e2).elim
    · exact .inl (by omega)
  · exact .inr (by omega)
theorem Tm.x_l (h : Tm P v x LF A B) (hp : Pw w0 w G P v) {n q i : Nat} (hn : n < 16) (hl : LF n = some (q, i)) : x + 128 ≤ place (cost 7) q i ∨ place (cost 7) q i + 256 ≤ x := by
  obtain ⟨_, hi, hu⟩ := h.us n q i hn hl
  obtain ⟨q2, i2, _, hi2, hu2, rfl⟩ := h.tk
  have := two_apart hp (by decide) (by decide) hi2 hu2 (by decide) (by decide) hi hu (k := 2) (k' := 7) (by omega)
  rw [cost2, cost7] at *
  exact this
theorem Tm.l_l (h : Tm P v x LF A B) (hp : Pw w0 w G P v) {n q i n' q' i' : Nat} (hn : n < 16) (hl : LF n = some (q, i)) (hn' : n' < 16) (hl' : LF n' = some (q', i')) (hne : n ≠ n') : place (cost 7) q i + 256 ≤ place (cost 7) q' i' ∨ place (cost 7) q' i' + 256 ≤ place (cost 7) q i := by
  obtain ⟨_, hi, hu⟩ := h.us n q i hn hl
  obtain ⟨_, hi', hu'⟩ := h.us n' q' i' hn' hl'
  have := two_apart hp (by decide) (by decide) hi hu (by decide) (by decide) hi' hu' (k := 7) (k' := 7) (fun e => by
    obtain ⟨_, e1, e2⟩ := e
    subst e1 e2
    exact hne (h.un n n' _ hn hn' hl hl'))
  rw [cost7] at *
  exact this
/-- An entry is stored on its leaf. -/
theorem Tm.set_ (h : Tm P v x LF A B) (hp : Pw w0 w G P v) {n q i j a b : Nat} (hn : n < 16) (hl : LF n = some (q, i)) (hj : j < 16) (ha : a < 18446744073709551616) (hb : b < 18446744073709551616) :
    Tm P { v with m := Ar.putAt v.m (place (cost 7) q i + 16 * j) (Ar.wordsBytes [(a : Int), (b : Int)]) } x LF (now A (16 * n + j) a) (now B (16 * n + j) b) := by
  have hin := h.l_in hn hl
  have hlen := hp.len
  obtain ⟨e1, e2, e3⟩ := two_at v.m (place (cost 7) q i + 16 * j) (a : Int) (b : Int) (by rw [hlen]; omega) (by omega) (by omega)
  refine ⟨h.tk, h.us, h.un, fun n' hn' => ?_, fun n' q' i' hn' hl' j' hj' => ?_, fun n' hn' hl' j' hj' => ?_, fun s => ?_⟩
  · show Ar.wordAt (Ar.putAt _ _ _) _ = _
    have := h.x_l hp hn hl
    rw [e3 _ (by omega)]
    exact h.lf n' hn'
  · show Ar.wordAt (Ar.putAt _ _ _) _ = _ ∧ Ar.wordAt (Ar.putAt _ _ _) _ = _
    by_cases en : n' = n
    · subst en
      rw [hl] at hl'
      obtain ⟨rfl, rfl⟩ : q = q' ∧ i = i' := by simpa using hl'
      by_cases ej : j' = j
      · subst ej
        rw [e1, e2, now_at, now_at]
        exact ⟨rfl, rfl⟩
      · rw [e3 _ (by omega), e3 _ (by omega), now_ne _ _ (by omega), now_ne _ _ (by omega)]
        exact h.en n' q i hn' hl j' hj'
    · have := h.l_l hp hn hl hn' hl' (fun e => en e.symm)
      rw [e3 _ (by omega), e3 _ (by omega), now_ne _ _ (by omega), now_ne _ _ (by omega)]
      exact h.en n' q' i' hn' hl' j' hj'
  · have hne : n' ≠ n := fun e => by rw [e, hl] at hl'; cases hl'
    rw [now_ne _ _ (by omega)]
    exact h.no n' hn' hl' j' hj'
  · have hs := h.sm s
    unfold now
    constructor <;> split <;> omega
/-- A leaf is got, and its word stored. -/
theorem Tm.reach_ {f : Int} {B' : St} {U' : Pls} {n q i : Nat} (h : Tm P v x LF A B) (hlen : v.m.length = 2 ^ P.K * 1024) (g : GotIt P v f 7 q i B' U') (hp : Pw w0 w G P (gotV v f 7 q i B' U')) (hn : n < 16) (hl : LF n = none) :
    Tm P { gotV v f 7 q i B' U' with m := Ar.putAt (gotV v f 7 q i B' U').m (x + 8 * n) (Ar.wordsBytes [((place (cost 7) q i : Nat) : Int)]) } x (now LF n (some (q, i))) A (fun s => if s / 16 = n then 0 else B s) := by
  have hx := h.x_in
  have hpi := place_hi (by decide) (by decide) g.tk.lt g.qN
  have c7 := cost7
  have hU : ∀ k q' i', v.U k q' i' = true → (gotV v f 7 q i B' U').U k q' i' = true := fun k q' i' hu => by
    show now v.U 7 U' k q' i' = true
    by_cases e : k = 7
    · subst e; rw [now_at, g.tk.now]
      by_cases e2 : q' = q ∧ i' = i
      · rw [e2.1, e2.2]; exact setU_same _ _ _ _
      · rw [setU_ne _ _ e2]; exact hu
    · rw [now_ne _ _ e]; exact hu
  have hU7 : (gotV v f 7 q i B' U').U 7 q i = true := by show now v.U 7 U' 7 q i = true; rw [now_at, g.tk.now]; exact setU_same _ _ _ _
  have hnew : ∀ n' q' i', n' < 16 → LF n' = some (q', i') → ¬ (q' = q ∧ i' = i) := fun n' q' i' hn' hl' e => by
    have := (h.us n' q' i' hn' hl').2.2
    rw [e.1, e.2, g.tk.free] at this; cases this
  -- the zeros
  have hm : (gotV v f 7 q i B' U').m = Ar.putAt v.m (place (cost 7) q i) (List.replicate 256 0) := by rw [← cost7]; rfl
  have l0 : (List.replicate 256 (0 : Int)).length = 256 := List.length_replicate
  have hml : (gotV v f 7 q i B' U').m.length = 2 ^ P.K * 1024 := by rw [hm, put_len (by rw [l0, hlen]; omega), hlen]
  have z1 : ∀ y, y + 8 ≤ place (cost 7) q i ∨ place (cost 7) q i + 256 ≤ y → Ar.wordAt (gotV v f 7 q i B' U').m y = Ar.wordAt v.m y := fun y hy => by
    rw [hm]; exact wordAt_out (by rw [l0, hlen]; omega) (by rw [l0]; omega)
  have z2 : ∀ y, place (cost 7) q i ≤ y → y + 8 ≤ place (cost 7) q i + 256 → Ar.wordAt (gotV v f 7 q i B' U').m y = 0 := fun y h1 h2 => by
    rw [hm]; exact wordAt_zeros (by rw [hlen]; omega) h1 h2
  have hk20 : (2 : Nat) ^ P.K ≤ 2 ^ 20 := Nat.pow_le_pow_right (by decide) hp.hK.2
  rw [show (2 : Nat) ^ 20 = 1048576 by decide] at hk20
  obtain ⟨e1, e2⟩ := one_at (gotV v f 7 q i B' U').m (x + 8 * n) ((place (cost 7) q i : Nat) : Int) (by rw [hml]; omega) (by omega)
  -- the new leaf beside the table and the other leaves
  have a1 : x + 128 ≤ place (cost 7) q i ∨ place (cost 7) q i + 256 ≤ x := by
    obtain ⟨q2, i2, _, hi2, hu2, rfl⟩ := h.tk
    have := two_apart hp (by decide) (by decide) hi2 (hU _ _ _ hu2) (by decide) (by decide) g.tk.lt hU7 (k := 2) (k' := 7) (by omega)
    rw [cost2, cost7] at *
    exact this
  have a2 : ∀ n' q' i', n' < 16 → LF n' = some (q', i') → place (cost 7) q' i' + 256 ≤ place (cost 7) q i ∨ place (cost 7) q i + 256 ≤ place (cost 7) q' i' := fun n' q' i' hn' hl' => by
    obtain ⟨_, hi', hu'⟩ := h.us n' q' i' hn' hl'
    have := two_apart hp (by decide) (by decide) hi' (hU _ _ _ hu') (by decide) (by decide) g.tk.lt hU7 (k := 7) (k' := 7) (fun e => hnew n' q' i' hn' hl' e.2)
    rw [cost7] at *
    exact this
  refine ⟨?_, fun n' q' i' hn' hl' => ?_, fun n1 n2 p h1 h2 l1 l2 => ?_, fun n' hn' => ?_, fun n' q' i' hn' hl' j hj => ?_, fun n' hn' hl' j hj => ?_, fun s => ?_⟩
  · obtain ⟨q2, i2, hq2, hi2, hu2, e⟩ := h.tk
    exact ⟨q2, i2, hq2, hi2, hU _ _ _ hu2, e⟩
  · by_cases e : n' = n
    · subst e
      rw [now_at] at hl'
      obtain ⟨rfl, rfl⟩ : q = q' ∧ i = i' := by simpa using hl'
      exact ⟨g.qN, g.tk.lt, hU7⟩
    · rw [now_ne _ _ e] at hl'
      obtain ⟨b1, b2, b3⟩ := h.us n' q' i' hn' hl'
      exact ⟨b1, b2, hU _ _ _ b3⟩
  · by_cases e1 : n1 = n
    · subst e1
      rw [now_at] at l1
      by_cases e2 : n2 = n1
      · exact e2.symm
      · rw [now_ne _ _ e2] at l2
        cases l1
        exact (hnew n2 q i h2 l2 ⟨rfl, rfl⟩).elim
    · rw [now_ne _ _ e1] at l1
      by_cases e2 : n2 = n
      · subst e2
        rw [now_at] at l2
        cases l2
        exact (hnew n1 q i h1 l1 ⟨rfl, rfl⟩).elim
      · rw [now_ne _ _ e2] at l2
        exact h.un n1 n2 p h1 h2 l1 l2
  · show Ar.wordAt (Ar.putAt _ _ _) _ = _
    by_cases e : n' = n
    · subst e
      rw [e1, now_at]; rfl
    · rw [e2 _ (by omega), z1 _ (by omega), now_ne _ _ e]
      exact h.lf n' hn'
  · show Ar.wordAt (Ar.putAt _ _ _) _ = _ ∧ Ar.wordAt (Ar.putAt _ _ _) _ = _
    by_cases e : n' = n
    · subst e
      rw [now_at] at hl'
      obtain ⟨rfl, rfl⟩ : q = q' ∧ i = i' := by simpa using hl'
      rw [e2 _ (by omega), e2 _ (by omega), z2 _ (by omega) (by omega), z2 _ (by omega) (by omega), h.no n' hn' hl j hj, if_pos (by omega)]
      exact ⟨rfl, rfl⟩
    · rw [now_ne _ _ e] at hl'
      have b2 := a2 n' q' i' hn' hl'
      have b3 : x + 128 ≤ place (cost 7) q' i' ∨ place (cost 7) q' i' + 256 ≤ x := by
        obtain ⟨_, hi', hu'⟩ := h.us n' q' i' hn' hl'
        obtain ⟨q2, i2, _, hi2, hu2, rfl⟩ := h.tk
        have := two_apart hp (by decide) (by decide) hi2 (hU _ _ _ hu2) (by decide) (by decide) hi' (hU _ _ _ hu') (k := 2) (k' := 7) (by omega)
        rw [cost2, cost7] at *
        exact this
      rw [e2 _ (by omega), e2 _ (by omega), z1 _ (by omega), z1 _ (by omega), if_neg (by omega)]
      exact h.en n' q' i' hn' hl' j hj
  · have e : n' ≠ n := fun e => by rw [e, now_at] at hl'; cases hl'
    rw [now_ne _ _ e] at hl'
    exact h.no n' hn' hl' j hj
  · have hs := h.sm s
    refine ⟨hs.1, ?_⟩
    show (if _ then _ else _) < _
    split <;> omega
/-- A leaf without entries is put back, and its word is 0. -/
theorem Tm.trim_ {f : Int} {y : Int} {B' : St} {n q i : Nat} (h : Tm P v x LF A B) (hp : Pw w0 w G P v) (g : PutIt v f y 7 q i B') (hn : n < 16) (hl : LF n = some (q, i)) (hz : ∀ j, j < 16 → A (16 * n + j) = 0) :
    Tm P { putV v f 7 q i B' with m := Ar.putAt v.m (x + 8 * n) (Ar.wordsBytes [(0 : Int)]) } x (now LF n none) A B := by
  have hx := h.x_in
  have hlen := hp.len
  obtain ⟨e1, e2⟩ := one_at v.m (x + 8 * n) (0 : Int) (by rw [hlen]; omega) (by omega)
  have hU : ∀ k q' i', v.U k q' i' = true → ¬ (k = 7 ∧ q' = q ∧ i' = i) → (putV v f 7 q i B').U k q' i' = true := fun k q' i' hu he => by
    show now v.U 7 (setU (v.U 7) q i false) k q' i' = true
    by_cases e : k = 7
    · subst e; rw [now_at, setU_ne _ _ (fun e2 => he ⟨rfl, e2⟩)]; exact hu
    · rw [now_ne _ _ e]; exact hu
  refine ⟨?_, fun n' q' i' hn' hl' => ?_, fun n1 n2 p h1 h2 l1 l2 => ?_, fun n' hn' => ?_, fun n' q' i' hn' hl' j hj => ?_, fun n' hn' hl' j hj => ?_, h.sm⟩
  · obtain ⟨q2, i2, hq2, hi2, hu2, e⟩ := h.tk
    exact ⟨q2, i2, hq2, hi2, hU _ _ _ hu2 (by omega), e⟩
  · have e : n' ≠ n := fun e => by rw [e, now_at] at hl'; cases hl'
    rw [now_ne _ _ e] at hl'
    obtain ⟨b1, b2, b3⟩ := h.us n' q' i' hn' hl'
    refine ⟨b1, b2, hU _ _ _ b3 (fun e2 => ?_)⟩
    obtain ⟨_, rfl, rfl⟩ := e2
    exact e (h.un n' n _ hn' hn hl' hl)
  · have e1 : n1 ≠ n := fun e => by rw [e, now_at] at l1; cases l1
    have e2 : n2 ≠ n := fun e => by rw [e, now_at] at l2; cases l2
    rw [now_ne _ _ e1] at l1
    rw [now_ne _ _ e2] at l2
    exact h.un n1 n2 p h1 h2 l1 l2
  · show Ar.wordAt (Ar.putAt _ _ _) _ = _
    by_cases e : n' = n
    · subst e
      rw [e1, now_at]; rfl
    · rw [e2 _ (by omega), now_ne _ _ e]
      exact h.lf n' hn'
  · show Ar.wordAt (Ar.putAt _ _ _) _ = _ ∧ Ar.wordAt (Ar.putAt _ _ _) _ = _
    have e : n' ≠ n := fun e => by rw [e, now_at] at hl'; cases hl'
    rw [now_ne _ _ e] at hl'
    have b := h.x_l hp hn' hl'
    rw [e2 _ (by omega), e2 _ (by omega)]
    exact h.en n' q' i' hn' hl' j hj
  · by_cases e : n' = n
    · subst e; exact hz j hj
    · rw [now_ne _ _ e] at hl'
      exact h.no n' hn' hl' j hj
end

/-- A leaf has an entry. -/
def hasE (A : Nat → Nat) (n : Nat) : Bool := (List.range 16).any fun j => A (16 * n + j) != 0
theorem hasE_iff {A : Nat → Nat} {n : Nat} : hasE A n = true ↔ ∃ j, j < 16 ∧ A (16 * n + j) ≠ 0 := by
  unfold hasE
  rw [List.any_eq_true]
  constructor
  · rintro ⟨j, hj, h⟩
    exact ⟨j, List.mem_range.1 hj, by simpa using h⟩
  · rintro ⟨j, hj, h⟩
    exact ⟨j, List.mem_range.2 hj, by simpa using h⟩
/-- How many leaves have an entry. -/
def nlA (A : Nat → Nat) : Nat := cnt (hasE A) 16
theorem nlA_le (A : Nat → Nat) : nlA A ≤ 16 := cnt_le _ _
theorem hasE_set {A : Nat → Nat} {s a : Nat} (ha : a ≠ 0) : hasE (now A s a) (s / 16) = true := hasE_iff.2 ⟨s % 16, by omega, by rw [show 16 * (s / 16) + s % 16 = s by omega, now_at]; exact ha⟩
theorem hasE_other {A : Nat → Nat} {s a n : Nat} (hn : n ≠ s / 16) : hasE (now A s a) n = hasE A n := by
  rw [Bool.eq_iff_iff, hasE_iff, hasE_iff]
  constructor
  · rintro ⟨j, hj, h⟩
    rw [now_ne _ _ (by omega)] at h
    exact ⟨j, hj, h⟩
  · rintro ⟨j, hj, h⟩
    exact ⟨j, hj, by rw [now_ne _ _ (by omega)]; exact h⟩
theorem nlA_set {A : Nat → Nat} {s a : Nat} (hs : s < 256) (ha : a ≠ 0) : nlA (now A s a) = if hasE A (s / 16) = true then nlA A else nlA A + 1 := by
  have h := cnt_turn (f := hasE A) (g := hasE (now A s a)) (i := s / 16) (fun j hj => hasE_other hj) (n := 16) (by omega)
  rw [hasE_set ha] at h
  unfold nlA
  split
  · rename_i e; rw [e] at h; simp at h; omega
  · rename_i e
    have e2 : hasE A (s / 16) = false := by simpa using e
    rw [e2] at h; simp at h; omega
end Go.Proofs.YthpkmegjbehgaaaDoor
