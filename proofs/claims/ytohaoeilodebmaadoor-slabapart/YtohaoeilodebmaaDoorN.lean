/- Plain facts on bits of numbers, and on lists of words as rows of bits. No program is named here. -/
import Derived.Lib.TrailingZeros
namespace Go.Proofs.YtohaoeilodebmaaDoor

/-- How many of the first n are so. -/
def cnt (f : Nat → Bool) : Nat → Nat
  | 0 => 0
  | n + 1 => cnt f n + (f n).toNat

theorem cnt_congr {f g : Nat → Bool} : ∀ {n : Nat}, (∀ i, i < n → f i = g i) → cnt f n = cnt g n
  | 0, _ => rfl
  | n + 1, h => by
    unfold cnt
    rw [cnt_congr (n := n) (fun i hi => h i (by omega)), h n (by omega)]

theorem cnt_add (f : Nat → Bool) (a : Nat) : ∀ b, cnt f (a + b) = cnt f a + cnt (fun j => f (a + j)) b
  | 0 => rfl
  | b + 1 => by
    show cnt f (a + b) + (f (a + b)).toNat = cnt f a + (cnt (fun j => f (a + j)) b + (f (a + b)).toNat)
    rw [cnt_add f a b]; omega

theorem cnt_le (f : Nat → Bool) : ∀ n, cnt f n ≤ n
  | 0 => Nat.le_refl _
  | n + 1 => by
    have := cnt_le f n
    have h2 : (f n).toNat ≤ 1 := by cases f n <;> simp
    unfold cnt; omega

theorem cnt_turn {f g : Nat → Bool} {i : Nat} (hg : ∀ j, j ≠ i → g j = f j) : ∀ {n : Nat}, i < n → cnt g n + (f i).toNat = cnt f n + (g i).toNat
  | 0, h => by omega
  | n + 1, h => by
    unfold cnt
    by_cases he : i = n
    · subst he
      have := cnt_congr (n := i) (f := g) (g := f) (fun j hj => hg j (by omega))
      omega
    · have := cnt_turn hg (n := n) (by omega)
      rw [hg n (by omega)]
      omega

/-- How many bits of a word are 1. -/
def pop (x : Nat) : Nat := cnt x.testBit 64
theorem pop_le (x : Nat) : pop x ≤ 64 := cnt_le _ _

/-- A list of words, as a row of bits. -/
def bit (ws : List Nat) (i : Nat) : Bool := (ws[i / 64]?.getD 0).testBit (i % 64)
def flip (ws : List Nat) (i : Nat) : List Nat := ws.set (i / 64) ((ws[i / 64]?.getD 0) ^^^ 2 ^ (i % 64))

/-- The words of a map of n bits: as many as hold them, and no bit on behind the n-th. -/
structure Okm (n : Nat) (ws : List Nat) : Prop where
  len : ws.length = (n + 63) / 64
  word : ∀ k : Nat, ws[k]?.getD 0 < 18446744073709551616
  off : ∀ i, n ≤ i → bit ws i = false

theorem bit_at (ws : List Nat) (k j : Nat) (hj : j < 64) : bit ws (64 * k + j) = (ws[k]?.getD 0).testBit j := by
  unfold bit
  rw [show (64 * k + j) / 64 = k from by omega, show (64 * k + j) % 64 = j from by omega]

theorem flip_length (ws : List Nat) (i : Nat) : (flip ws i).length = ws.length := by simp [flip]

theorem flip_get (ws : List Nat) (i k : Nat) (h : i / 64 < ws.length) : (flip ws i)[k]?.getD 0 = if k = i / 64 then (ws[i / 64]?.getD 0) ^^^ 2 ^ (i % 64) else ws[k]?.getD 0 := by
  unfold flip
  rw [List.getElem?_set]
  by_cases hk : i / 64 = k
  · subst hk; simp [h]
  · rw [if_neg hk, if_neg (fun h => hk h.symm)]

theorem bit_flip (ws : List Nat) (i j : Nat) (h : i / 64 < ws.length) : bit (flip ws i) j = if j = i then !bit ws i else bit ws j := by
  unfold bit
  rw [flip_get ws i _ h]
  by_cases hji : j = i
  · subst hji
    rw [if_pos rfl, if_pos rfl, Nat.testBit_xor, Nat.testBit_two_pow_self, Bool.xor_true]
  · rw [if_neg hji]
    by_cases hk : j / 64 = i / 64
    · rw [if_pos hk, hk, Nat.testBit_xor, Nat.testBit_two_pow_of_ne (by omega), Bool.xor_false]
    · rw [if_neg hk]

theorem word_xor (x k : Nat) (hx : x < 18446744073709551616) (hk : k < 64) : x ^^^ 2 ^ k < 18446744073709551616 := by
  have h1 : x < 2 ^ 64 := hx
  have h2 : 2 ^ k < 2 ^ 64 := Nat.pow_lt_pow_right (by omega) hk
  exact Nat.xor_lt_two_pow h1 h2

theorem Okm.flip {n : Nat} {ws : List Nat} (h : Okm n ws) (i : Nat) (hi : i < n) : Okm n (flip ws i) := by
  have hl : i / 64 < ws.length := by rw [h.len]; omega
  refine ⟨by rw [flip_length]; exact h.len, fun k => ?_, fun j hj => ?_⟩
  · rw [flip_get ws i k hl]
    split
    · exact word_xor _ _ (h.word _) (by omega)
    · exact h.word k
  · rw [bit_flip ws i j hl, if_neg (by omega)]; exact h.off j hj

theorem testBit_big (x j : Nat) (hx : x < 18446744073709551616) (hj : 64 ≤ j) : x.testBit j = false := by
  apply Nat.testBit_lt_two_pow
  exact Nat.lt_of_lt_of_le hx (Nat.pow_le_pow_right (n := 2) (by omega) hj)

theorem Okm.ext {n : Nat} {a b : List Nat} (ha : Okm n a) (hb : Okm n b) (h : ∀ i, i < n → bit a i = bit b i) : a = b := by
  apply List.ext_getElem?
  intro k
  by_cases hk : k < a.length
  · have hk2 : k < b.length := by rw [hb.len, ← ha.len]; exact hk
    have e : a[k]?.getD 0 = b[k]?.getD 0 := by
      apply Nat.eq_of_testBit_eq
      intro j
      by_cases hj : j < 64
      · rw [← bit_at a k j hj, ← bit_at b k j hj]
        by_cases hn : 64 * k + j < n
        · exact h _ hn
        · rw [ha.off _ (by omega), hb.off _ (by omega)]
      · rw [testBit_big _ _ (ha.word k) (by omega), testBit_big _ _ (hb.word k) (by omega)]
    rw [List.getElem?_eq_getElem hk, List.getElem?_eq_getElem hk2] at e ⊢
    exact congrArg some e
  · rw [List.getElem?_eq_none (by omega), List.getElem?_eq_none (by rw [hb.len, ← ha.len]; omega)]

/-- How many bits of the first k words are on. -/
def total (ws : List Nat) : Nat → Nat
  | 0 => 0
  | k + 1 => total ws k + pop (ws[k]?.getD 0)
theorem total_eq (ws : List Nat) : ∀ k, total ws k = cnt (bit ws) (64 * k)
  | 0 => rfl
  | k + 1 => by
    unfold total
    rw [total_eq ws k, show 64 * (k + 1) = 64 * k + 64 from by omega, cnt_add]
    congr 1
    exact cnt_congr fun j hj => (bit_at ws k j hj).symm
theorem total_le (ws : List Nat) (k : Nat) : total ws k ≤ 64 * k := by rw [total_eq]; exact cnt_le _ _
def count (ws : List Nat) : Nat := total ws ws.length

theorem count_flip {ws : List Nat} {i : Nat} (h : i / 64 < ws.length) : count (flip ws i) + (bit ws i).toNat = count ws + (!bit ws i).toNat := by
  unfold count
  rw [total_eq, total_eq, flip_length]
  have := cnt_turn (f := bit ws) (g := bit (flip ws i)) (i := i) (fun j hj => by rw [bit_flip ws i j h, if_neg hj]) (n := 64 * ws.length) (by omega)
  rw [bit_flip ws i i h, if_pos rfl] at this
  exact this

/-- Set of one bit: the words behind it, and how many turned so far. -/
def step (n : Nat) (on : Bool) (p : List Nat × Nat) (i : Int) : List Nat × Nat :=
  if 0 ≤ i ∧ i < (n : Int) ∧ bit p.1 i.toNat ≠ on then (flip p.1 i.toNat, p.2 + 1) else p
def setAll (n : Nat) (on : Bool) (ws : List Nat) (l : List Int) : List Nat × Nat := l.foldl (step n on) (ws, 0)

theorem setAll_snoc (n : Nat) (on : Bool) (ws : List Nat) (l : List Int) (i : Int) : setAll n on ws (l ++ [i]) = step n on (setAll n on ws l) i := by
  simp [setAll, List.foldl_append]

theorem step_le (n : Nat) (on : Bool) (p : List Nat × Nat) (i : Int) : (step n on p i).2 ≤ p.2 + 1 := by
  unfold step; split
  · exact Nat.le_refl _
  · omega

/-- What holds at the first, and is kept by each step, holds behind all. -/
theorem setAll_ind {n : Nat} {on : Bool} {P : List Int → List Nat × Nat → Prop} (hs : ∀ l p i, P l p → P (l ++ [i]) (step n on p i)) (ws : List Nat) (h0 : P [] (ws, 0)) (l : List Int) : P l (setAll n on ws l) := by
  have key : ∀ (r l : List Int), P l (setAll n on ws l) → P (l ++ r) (setAll n on ws (l ++ r)) := by
    intro r
    induction r with
    | nil => intro l h; simpa using h
    | cons x r ih =>
      intro l h
      have := ih (l ++ [x]) (by rw [setAll_snoc]; exact hs _ _ _ h)
      simpa using this
  simpa using key l [] h0

theorem setAll_le (n : Nat) (on : Bool) (ws : List Nat) (l : List Int) : (setAll n on ws l).2 ≤ l.length := by
  refine setAll_ind (n := n) (on := on) (P := fun l p => p.2 ≤ l.length) (fun l p i h => ?_) ws (Nat.zero_le _) l
  have := step_le n on p i
  simp; omega

theorem setAll_ok {n : Nat} (on : Bool) {ws : List Nat} (h : Okm n ws) (l : List Int) : Okm n (setAll n on ws l).1 := by
  refine setAll_ind (n := n) (on := on) (P := fun _ p => Okm n p.1) (fun l p i h => ?_) ws h l
  unfold step
  split
  · rename_i hc
    exact h.flip _ (by omega)
  · exact h

theorem setAll_bit {n : Nat} (on : Bool) {ws : List Nat} (h : Okm n ws) (l : List Int) : ∀ j, bit (setAll n on ws l).1 j = if j < n ∧ (j : Int) ∈ l then on else bit ws j := by
  refine (setAll_ind (n := n) (on := on) (P := fun l p => Okm n p.1 ∧ ∀ j, bit p.1 j = if j < n ∧ (j : Int) ∈ l then on else bit ws j) (fun l p i h => ?_) ws ⟨h, fun j => by simp⟩ l).2
  obtain ⟨hk, hb⟩ := h
  unfold step
  split
  · rename_i hc
    obtain ⟨h0, h1, h2⟩ := hc
    refine ⟨hk.flip _ (by omega), fun j => ?_⟩
    show bit (flip p.1 i.toNat) j = _
    rw [bit_flip _ _ _ (by rw [hk.len]; omega)]
    by_cases hj : j = i.toNat
    · rw [if_pos hj, if_pos ⟨by omega, by simp; omega⟩]
      revert h2
      cases bit p.1 i.toNat <;> cases on <;> simp
    · rw [if_neg hj, hb j]
      have : (j : Int) ≠ i := by omega
      simp [this]
  · rename_i hc
    refine ⟨hk, fun j => ?_⟩
    rw [hb j]
    by_cases hj : (j : Int) = i
    · by_cases hn : j < n
      · have : bit p.1 i.toNat = on := by
          apply Decidable.byContradiction
          intro h2
          exact hc ⟨by omega, by omega, h2⟩
        rw [show i.toNat = j from by omega] at this
        rw [hb j] at this
        rw [this, if_pos ⟨hn, by simp [hj]⟩]
      · rw [if_neg (by omega), if_neg (by omega)]
    · simp [hj]

theorem setAll_count {n : Nat} {ws : List Nat} (h : Okm n ws) (l : List Int) :
    count (setAll n true ws l).1 = count ws + (setAll n true ws l).2 ∧ count (setAll n false ws l).1 + (setAll n false ws l).2 = count ws := by
  constructor
  · refine (setAll_ind (n := n) (on := true) (P := fun _ p => Okm n p.1 ∧ count p.1 = count ws + p.2) (fun l p i h => ?_) ws ⟨h, rfl⟩ l).2
    obtain ⟨hk, hc⟩ := h
    unfold step
    split
    · rename_i hd
      refine ⟨hk.flip _ (by omega), ?_⟩
      have hf := count_flip (ws := p.1) (i := i.toNat) (by rw [hk.len]; omega)
      have hb : bit p.1 i.toNat = false := by simpa using hd.2.2
      rw [hb] at hf
      simp at hf
      show count (flip p.1 i.toNat) = count ws + (p.2 + 1)
      omega
    · exact ⟨hk, hc⟩
  · refine (setAll_ind (n := n) (on := false) (P := fun _ p => Okm n p.1 ∧ count p.1 + p.2 = count ws) (fun l p i h => ?_) ws ⟨h, rfl⟩ l).2
    obtain ⟨hk, hc⟩ := h
    unfold step
    split
    · rename_i hd
      refine ⟨hk.flip _ (by omega), ?_⟩
      have hf := count_flip (ws := p.1) (i := i.toNat) (by rw [hk.len]; omega)
      have hb : bit p.1 i.toNat = true := by simpa using hd.2.2
      rw [hb] at hf
      simp at hf
      show count (flip p.1 i.toNat) + (p.2 + 1) = count ws
      omega
    · exact ⟨hk, hc⟩

/-- Set once more: nothing turns. -/
theorem setAll_again {n : Nat} (on : Bool) {ws : List Nat} (l : List Int) (h : ∀ i : Int, i ∈ l → 0 ≤ i → i < n → bit ws i.toNat = on) : setAll n on ws l = (ws, 0) := by
  unfold setAll
  induction l with
  | nil => rfl
  | cons x r ih =>
    rw [List.foldl_cons]
    have e : step n on (ws, 0) x = (ws, 0) := by
      unfold step
      rw [if_neg]
      rintro ⟨h0, h1, h2⟩
      exact h2 (h x (by simp) h0 h1)
    rw [e]
    exact ih fun i hi => h i (by simp [hi])
theorem setAll_twice {n : Nat} (on : Bool) {ws : List Nat} (h : Okm n ws) (l : List Int) : setAll n on (setAll n on ws l).1 l = ((setAll n on ws l).1, 0) := by
  apply setAll_again
  intro i hi h0 h1
  rw [setAll_bit on h l, if_pos ⟨by omega, by rw [Int.toNat_of_nonneg h0]; exact hi⟩]

/-- What is set and taken off again turned as many there as back, and leaves the words as they were. -/
theorem setAll_back {n : Nat} {ws : List Nat} (h : Okm n ws) (l fresh : List Int) (hf : ∀ i : Int, 0 ≤ i → i < n → (i ∈ fresh ↔ i ∈ l ∧ bit ws i.toNat = false)) :
    (setAll n false (setAll n true ws l).1 fresh).1 = ws ∧ (setAll n true ws l).2 = (setAll n false (setAll n true ws l).1 fresh).2 := by
  have h1 := setAll_ok true h l
  have h2 := setAll_ok false h1 fresh
  have e : (setAll n false (setAll n true ws l).1 fresh).1 = ws := by
    refine h2.ext h fun i hi => ?_
    rw [setAll_bit false h1 fresh, setAll_bit true h l]
    have hfi := hf i (by omega) (by omega)
    rw [Int.toNat_natCast] at hfi
    by_cases hm : (i : Int) ∈ fresh
    · rw [if_pos ⟨hi, hm⟩, (hfi.1 hm).2]
    · rw [if_neg (fun h => hm h.2)]
      by_cases hl : (i : Int) ∈ l
      · rw [if_pos ⟨hi, hl⟩]
        cases hb : bit ws i
        · exact absurd (hfi.2 ⟨hl, hb⟩) hm
        · rfl
      · rw [if_neg (fun h => hl h.2)]
  refine ⟨e, ?_⟩
  have c1 := (setAll_count h l).1
  have c2 := (setAll_count h1 fresh).2
  rw [e] at c2
  omega

end Go.Proofs.YtohaoeilodebmaaDoor
