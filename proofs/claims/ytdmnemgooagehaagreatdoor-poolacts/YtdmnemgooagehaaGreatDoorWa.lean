/- Plain facts on bits of numbers, and on lists of words as rows of bits. No program is named here. · Plain facts on words: how many bits are 1, the first one that is, masks and complements. No program is named here. · Plain facts on worlds of which all but one block is as it was. No program is named here. · Contracts of package bitmap's small functions, and of the two of math/bits that it calls: what each call answers and what it does to memory. · Contracts of Set and Count. · Contracts of Count, firstAhead, First and Run. · The contract of First. · Blocks of powers of two, as kinds of (order, place): how they cover all pages, are split, joined and turned. No program is named here. · Lists of blocks by rising pages, what they cover, and how many pages blocks have together. No program is named here. -/
import Derived.Lib.TrailingZeros
import Derived.WalkKit
import Derived.WalkSpells
import Derived.WalkLawsBesides
import Derived.Laws.CopyOwn
import Derived.Test.YtdmnemgooagehaaGreatDoorRows
import Derived.Laws.BitsAllLaws
import Derived.Laws.Bits128
import Derived.Shelf.Spec.TrailingZeros
import Derived.Deep.OwnRows
import Derived.Deep.QuietTactic
import Derived.BigQuiet
import Derived.RegionTactic
import Derived.Deep.RegionHeld
import Derived.ChangeAlike
namespace Go.Proofs.YtdmnemgooagehaaGreatDoor

/-- How many of the first n are so. -/
def cnt (f : Nat → Bool) : Nat → Nat
  | 0 => 0
  | n + 1 => cnt f n + (f n).toNat

theorem cnt_congr {f g : Nat → Bool} : ∀ {n : Nat}, (∀ i, i < n → f i = g i) → cnt f n = cnt g n
  | 0, _ => rfl
  | n + 1, h => by
    unfold cnt
    rw [cnt_congr (n := n) (fun i hi => h i (by omega)), h n (by omega)]

theorem cnt_add (f : Nat → Bool) (a : Nat) : ∀ b, cnt f (a + b) = cnt f a + cnt (fun j => f (a + j)) b
  | 0 => rfl
  | b + 1 => by
    show cnt f (a + b) + (f (a + b)).toNat = cnt f a + (cnt (fun j => f (a + j)) b + (f (a + b)).toNat)
    rw [cnt_add f a b]; omega

theorem cnt_le (f : Nat → Bool) : ∀ n, cnt f n ≤ n
  | 0 => Nat.le_refl _
  | n + 1 => by
    have := cnt_le f n
    have h2 : (f n).toNat ≤ 1 := by cases f n <;> simp
    unfold cnt; omega

theorem cnt_turn {f g : Nat → Bool} {i : Nat} (hg : ∀ j, j ≠ i → g j = f j) : ∀ {n : Nat}, i < n → cnt g n + (f i).toNat = cnt f n + (g i).toNat
  | 0, h => by omega
  | n + 1, h => by
    unfold cnt
    by_cases he : i = n
    · subst he
      have := cnt_congr (n := i) (f := g) (g := f) (fun j hj => hg j (by omega))
      omega
    · have := cnt_turn hg (n := n) (by omega)
      rw [hg n (by omega)]
      omega

/-- How many bits of a word are 1. -/
def pop (x : Nat) : Nat := cnt x.testBit 64
theorem pop_le (x : Nat) : pop x ≤ 64 := cnt_le _ _

/-- A list of words, as a row of bits. -/
def bit (ws : List Nat) (i : Nat) : Bool := (ws[i / 64]?.getD 0).testBit (i % 64)
def flip (ws : List Nat) (i : Nat) : List Nat := ws.set (i / 64) ((ws[i / 64]?.getD 0) ^^^ 2 ^ (i % 64))

/-- The words of a map of n bits: as many as hold them, and no bit on behind the n-th. -/
structure Okm (n : Nat) (ws : List Nat) : Prop where
  len : ws.length = (n + 63) / 64
  word : ∀ k : Nat, ws[k]?.getD 0 < 18446744073709551616
  off : ∀ i, n ≤ i → bit ws i = false

theorem bit_at (ws : List Nat) (k j : Nat) (hj : j < 64) : bit ws (64 * k + j) = (ws[k]?.getD 0).testBit j := by
  unfold bit
  rw [show (64 * k + j) / 64 = k from by omega, show (64 * k + j) % 64 = j from by omega]

theorem flip_length (ws : List Nat) (i : Nat) : (flip ws i).length = ws.length := by simp [flip]

theorem flip_get (ws : List Nat) (i k : Nat) (h : i / 64 < ws.length) : (flip ws i)[k]?.getD 0 = if k = i / 64 then (ws[i / 64]?.getD 0) ^^^ 2 ^ (i % 64) else ws[k]?.getD 0 := by
  unfold flip
  rw [List.getElem?_set]
  by_cases hk : i / 64 = k
  · subst hk; simp [h]
  · rw [if_neg hk, if_neg (fun h => hk h.symm)]

theorem bit_flip (ws : List Nat) (i j : Nat) (h : i / 64 < ws.length) : bit (flip ws i) j = if j = i then !bit ws i else bit ws j := by
  unfold bit
  rw [flip_get ws i _ h]
  by_cases hji : j = i
  · subst hji
    rw [if_pos rfl, if_pos rfl, Nat.testBit_xor, Nat.testBit_two_pow_self, Bool.xor_true]
  · rw [if_neg hji]
    by_cases hk : j / 64 = i / 64
    · rw [if_pos hk, hk, Nat.testBit_xor, Nat.testBit_two_pow_of_ne (by omega), Bool.xor_false]
    · rw [if_neg hk]

theorem word_xor (x k : Nat) (hx : x < 18446744073709551616) (hk : k < 64) : x ^^^ 2 ^ k < 18446744073709551616 := by
  have h1 : x < 2 ^ 64 := hx
  have h2 : 2 ^ k < 2 ^ 64 := Nat.pow_lt_pow_right (by omega) hk
  exact Nat.xor_lt_two_pow h1 h2

theorem Okm.flip {n : Nat} {ws : List Nat} (h : Okm n ws) (i : Nat) (hi : i < n) : Okm n (flip ws i) := by
  have hl : i / 64 < ws.length := by rw [h.len]; omega
  refine ⟨by rw [flip_length]; exact h.len, fun k => ?_, fun j hj => ?_⟩
  · rw [flip_get ws i k hl]
    split
    · exact word_xor _ _ (h.word _) (by omega)
    · exact h.word k
  · rw [bit_flip ws i j hl, if_neg (by omega)]; exact h.off j hj

theorem testBit_big (x j : Nat) (hx : x < 18446744073709551616) (hj : 64 ≤ j) : x.testBit j = false := by
  apply Nat.testBit_lt_two_pow
  exact Nat.lt_of_lt_of_le hx (Nat.pow_le_pow_right (n := 2) (by omega) hj)

theorem Okm.ext {n : Nat} {a b : List Nat} (ha : Okm n a) (hb : Okm n b) (h : ∀ i, i < n → bit a i = bit b i) : a = b := by
  apply List.ext_getElem?
  intro k
  by_cases hk : k < a.length
  · have hk2 : k < b.length := by rw [hb.len, ← ha.len]; exact hk
    have e : a[k]?.getD 0 = b[k]?.getD 0 := by
      apply Nat.eq_of_testBit_eq
      intro j
      by_cases hj : j < 64
      · rw [← bit_at a k j hj, ← bit_at b k j hj]
        by_cases hn : 64 * k + j < n
        · exact h _ hn
        · rw [ha.off _ (by omega), hb.off _ (by omega)]
      · rw [testBit_big _ _ (ha.word k) (by omega), testBit_big _ _ (hb.word k) (by omega)]
    rw [List.getElem?_eq_getElem hk, List.getElem?_eq_getElem hk2] at e ⊢
    exact congrArg some e
  · rw [List.getElem?_eq_none (by omega), List.getElem?_eq_none (by rw [hb.len, ← ha.len]; omega)]

/-- How many bits of the first k words are on. -/
def total (ws : List Nat) : Nat → Nat
  | 0 => 0
  | k + 1 => total ws k + pop (ws[k]?.getD 0)
theorem total_eq (ws : List Nat) : ∀ k, total ws k = cnt (bit ws) (64 * k)
  | 0 => rfl
  | k + 1 => by
    unfold total
    rw [total_eq ws k, show 64 * (k + 1) = 64 * k + 64 from by omega, cnt_add]
    congr 1
    exact cnt_congr fun j hj => (bit_at ws k j hj).symm
theorem total_le (ws : List Nat) (k : Nat) : total ws k ≤ 64 * k := by rw [total_eq]; exact cnt_le _ _
def count (ws : List Nat) : Nat := total ws ws.length

theorem count_flip {ws : List Nat} {i : Nat} (h : i / 64 < ws.length) : count (flip ws i) + (bit ws i).toNat = count ws + (!bit ws i).toNat := by
  unfold count
  rw [total_eq, total_eq, flip_length]
  have := cnt_turn (f := bit ws) (g := bit (flip ws i)) (i := i) (fun j hj => by rw [bit_flip ws i j h, if_neg hj]) (n := 64 * ws.length) (by omega)
  rw [bit_flip ws i i h, if_pos rfl] at this
  exact this

/-- Set of one bit: the words behind it, and how many turned so far. -/
def step (n : Nat) (on : Bool) (p : List Nat × Nat) (i : Int) : List Nat × Nat :=
  if 0 ≤ i ∧ i < (n : Int) ∧ bit p.1 i.toNat ≠ on then (flip p.1 i.toNat, p.2 + 1) else p
def setAll (n : Nat) (on : Bool) (ws : List Nat) (l : List Int) : List Nat × Nat := l.foldl (step n on) (ws, 0)

theorem setAll_snoc (n : Nat) (on : Bool) (ws : List Nat) (l : List Int) (i : Int) : setAll n on ws (l ++ [i]) = step n on (setAll n on ws l) i := by
  simp [setAll, List.foldl_append]

theorem step_le (n : Nat) (on : Bool) (p : List Nat × Nat) (i : Int) : (step n on p i).2 ≤ p.2 + 1 := by
  unfold step; split
  · exact Nat.le_refl _
  · omega

/-- What holds at the first, and is kept by each step, holds behind all. -/
theorem setAll_ind {n : Nat} {on : Bool} {P : List Int → List Nat × Nat → Prop} (hs : ∀ l p i, P l p → P (l ++ [i]) (step n on p i)) (ws : List Nat) (h0 : P [] (ws, 0)) (l : List Int) : P l (setAll n on ws l) := by
  have key : ∀ (r l : List Int), P l (setAll n on ws l) → P (l ++ r) (setAll n on ws (l ++ r)) := by
    intro r
    induction r with
    | nil => intro l h; simpa using h
    | cons x r ih =>
      intro l h
      have := ih (l ++ [x]) (by rw [setAll_snoc]; exact hs _ _ _ h)
      simpa using this
  simpa using key l [] h0

theorem setAll_le (n : Nat) (on : Bool) (ws : List Nat) (l : List Int) : (setAll n on ws l).2 ≤ l.length := by
  refine setAll_ind (n := n) (on := on) (P := fun l p => p.2 ≤ l.length) (fun l p i h => ?_) ws (Nat.zero_le _) l
  have := step_le n on p i
  simp; omega

theorem setAll_ok {n : Nat} (on : Bool) {ws : List Nat} (h : Okm n ws) (l : List Int) : Okm n (setAll n on ws l).1 := by
  refine setAll_ind (n := n) (on := on) (P := fun _ p => Okm n p.1) (fun l p i h => ?_) ws h l
  unfold step
  split
  · rename_i hc
    exact h.flip _ (by omega)
  · exact h

theorem setAll_bit {n : Nat} (on : Bool) {ws : List Nat} (h : Okm n ws) (l : List Int) : ∀ j, bit (setAll n on ws l).1 j = if j < n ∧ (j : Int) ∈ l then on else bit ws j := by
  refine (setAll_ind (n := n) (on := on) (P := fun l p => Okm n p.1 ∧ ∀ j, bit p.1 j = if j < n ∧ (j : Int) ∈ l then on else bit ws j) (fun l p i h => ?_) ws ⟨h, fun j => by simp⟩ l).2
  obtain ⟨hk, hb⟩ := h
  unfold step
  split
  · rename_i hc
    obtain ⟨h0, h1, h2⟩ := hc
    refine ⟨hk.flip _ (by omega), fun j => ?_⟩
    show bit (flip p.1 i.toNat) j = _
    rw [bit_flip _ _ _ (by rw [hk.len]; omega)]
    by_cases hj : j = i.toNat
    · rw [if_pos hj, if_pos ⟨by omega, by simp; omega⟩]
      revert h2
      cases bit p.1 i.toNat <;> cases on <;> simp
    · rw [if_neg hj, hb j]
      have : (j : Int) ≠ i := by omega
      simp [this]
  · rename_i hc
    refine ⟨hk, fun j => ?_⟩
    rw [hb j]
    by_cases hj : (j : Int) = i
    · by_cases hn : j < n
      · have : bit p.1 i.toNat = on := by
          apply Decidable.byContradiction
          intro h2
          exact hc ⟨by omega, by omega, h2⟩
        rw [show i.toNat = j from by omega] at this
        rw [hb j] at this
        rw [this, if_pos ⟨hn, by simp [hj]⟩]
      · rw [if_neg (by omega), if_neg (by omega)]
    · simp [hj]

theorem setAll_count {n : Nat} {ws : List Nat} (h : Okm n ws) (l : List Int) :
    count (setAll n true ws l).1 = count ws + (setAll n true ws l).2 ∧ count (setAll n false ws l).1 + (setAll n false ws l).2 = count ws := by
  constructor
  · refine (setAll_ind (n := n) (on := true) (P := fun _ p => Okm n p.1 ∧ count p.1 = count ws + p.2) (fun l p i h => ?_) ws ⟨h, rfl⟩ l).2
    obtain ⟨hk, hc⟩ := h
    unfold step
    split
    · rename_i hd
      refine ⟨hk.flip _ (by omega), ?_⟩
      have hf := count_flip (ws := p.1) (i := i.toNat) (by rw [hk.len]; omega)
      have hb : bit p.1 i.toNat = false := by simpa using hd.2.2
      rw [hb] at hf
      simp at hf
      show count (flip p.1 i.toNat) = count ws + (p.2 + 1)
      omega
    · exact ⟨hk, hc⟩
  · refine (setAll_ind (n := n) (on := false) (P := fun _ p => Okm n p.1 ∧ count p.1 + p.2 = count ws) (fun l p i h => ?_) ws ⟨h, rfl⟩ l).2
    obtain ⟨hk, hc⟩ := h
    unfold step
    split
    · rename_i hd
      refine ⟨hk.flip _ (by omega), ?_⟩
      have hf := count_flip (ws := p.1) (i := i.toNat) (by rw [hk.len]; omega)
      have hb : bit p.1 i.toNat = true := by simpa using hd.2.2
      rw [hb] at hf
      simp at hf
      show count (flip p.1 i.toNat) + (p.2 + 1) = count ws
      omega
    · exact ⟨hk, hc⟩

/-- Set once more: nothing turns. -/
theorem setAll_again {n : Nat} (on : Bool) {ws : List Nat} (l : List Int) (h : ∀ i : Int, i ∈ l → 0 ≤ i → i < n → bit ws i.toNat = on) : setAll n on ws l = (ws, 0) := by
  unfold setAll
  induction l with
  | nil => rfl
  | cons x r ih =>
    rw [List.foldl_cons]
    have e : step n on (ws, 0) x = (ws, 0) := by
      unfold step
      rw [if_neg]
      rintro ⟨h0, h1, h2⟩
      exact h2 (h x (by simp) h0 h1)
    rw [e]
    exact ih fun i hi => h i (by simp [hi])
theorem setAll_twice {n : Nat} (on : Bool) {ws : List Nat} (h : Okm n ws) (l : List Int) : setAll n on (setAll n on ws l).1 l = ((setAll n on ws l).1, 0) := by
  apply setAll_again
  intro i hi h0 h1
  rw [setAll_bit on h l, if_pos ⟨by omega, by rw [Int.toNat_of_nonneg h0]; exact hi⟩]

/-- What is set and taken off again turned as many there as back, and leaves the words as they were. -/
theorem setAll_back {n : Nat} {ws : List Nat} (h : Okm n ws) (l fresh : List Int) (hf : ∀ i : Int, 0 ≤ i → i < n → (i ∈ fresh ↔ i ∈ l ∧ bit ws i.toNat = false)) :
    (setAll n false (setAll n true ws l).1 fresh).1 = ws ∧ (setAll n true ws l).2 = (setAll n false (setAll n true ws l).1 fresh).2 := by
  have h1 := setAll_ok true h l
  have h2 := setAll_ok false h1 fresh
  have e : (setAll n false (setAll n true ws l).1 fresh).1 = ws := by
    refine h2.ext h fun i hi => ?_
    rw [setAll_bit false h1 fresh, setAll_bit true h l]
    have hfi := hf i (by omega) (by omega)
    rw [Int.toNat_natCast] at hfi
    by_cases hm : (i : Int) ∈ fresh
    · rw [if_pos ⟨hi, hm⟩, (hfi.1 hm).2]
    · rw [if_neg (fun h => hm h.2)]
      by_cases hl : (i : Int) ∈ l
      · rw [if_pos ⟨hi, hl⟩]
        cases hb : bit ws i
        · exact absurd (hfi.2 ⟨hl, hb⟩) hm
        · rfl
      · rw [if_neg (fun h => hl h.2)]
  refine ⟨e, ?_⟩
  have c1 := (setAll_count h l).1
  have c2 := (setAll_count h1 fresh).2
  rw [e] at c2
  omega

end Go.Proofs.YtdmnemgooagehaaGreatDoor

namespace Go.Proofs.YtdmnemgooagehaaGreatDoor

theorem and_split (x m : Nat) : x &&& m = ((x % 256) &&& (m % 256)) + 256 * ((x / 256) &&& (m / 256)) := by
  have h1 : (x &&& m) % 256 = (x % 256) &&& (m % 256) := Nat.and_mod_two_pow (n := 8) (a := x) (b := m)
  have h2 : (x &&& m) / 256 = (x / 256) &&& (m / 256) := Nat.and_div_two_pow (n := 8) (a := x) (b := m)
  rw [← h1, ← h2]; omega

/-- A mask of eight bytes alike, of a number of eight bytes. -/
theorem and_bytes (b0 b1 b2 b3 b4 b5 b6 b7 m : Nat) (h0 : b0 < 256) (h1 : b1 < 256) (h2 : b2 < 256) (h3 : b3 < 256) (h4 : b4 < 256) (h5 : b5 < 256) (h6 : b6 < 256) (hm : m < 256) :
    (b0 + 256 * (b1 + 256 * (b2 + 256 * (b3 + 256 * (b4 + 256 * (b5 + 256 * (b6 + 256 * b7))))))) &&& (m + 256 * (m + 256 * (m + 256 * (m + 256 * (m + 256 * (m + 256 * (m + 256 * m))))))) =
    (b0 &&& m) + 256 * ((b1 &&& m) + 256 * ((b2 &&& m) + 256 * ((b3 &&& m) + 256 * ((b4 &&& m) + 256 * ((b5 &&& m) + 256 * ((b6 &&& m) + 256 * (b7 &&& m))))))) := by
  have s : ∀ a q c r, a < 256 → c < 256 → (a + 256 * q) &&& (c + 256 * r) = (a &&& c) + 256 * (q &&& r) := by
    intro a q c r ha hc
    rw [and_split (a + 256 * q) (c + 256 * r), show (a + 256 * q) % 256 = a from by omega, show (c + 256 * r) % 256 = c from by omega, show (a + 256 * q) / 256 = q from by omega, show (c + 256 * r) / 256 = r from by omega]
  rw [s _ _ _ _ h0 hm, s _ _ _ _ h1 hm, s _ _ _ _ h2 hm, s _ _ _ _ h3 hm, s _ _ _ _ h4 hm, s _ _ _ _ h5 hm, s _ _ _ _ h6 hm]

def c1 (b : Nat) : Nat := ((b / 2) &&& 85) + (b &&& 85)
def c2 (b : Nat) : Nat := ((b / 4) &&& 51) + (b &&& 51)
def c3 (b : Nat) : Nat := b % 16 + b / 16
theorem half1 : ∀ b : Fin 256, ∀ d : Fin 2, (b.val / 2 + 128 * d.val) &&& 85 = (b.val / 2) &&& 85 := by decide +kernel
theorem half2 : ∀ b : Fin 256, ∀ d : Fin 4, (b.val / 4 + 64 * d.val) &&& 51 = (b.val / 4) &&& 51 := by decide +kernel
theorem c1_lt : ∀ b : Fin 256, c1 b.val < 171 := by decide +kernel
theorem c2_lt : ∀ b : Fin 256, c2 (c1 b.val) < 69 ∧ c2 (c1 b.val) % 16 < 5 := by decide +kernel
theorem c_pop : ∀ b : Fin 256, c3 (c2 (c1 b.val)) = cnt b.val.testBit 8 := by decide +kernel

def num8 (b0 b1 b2 b3 b4 b5 b6 b7 : Nat) : Nat := b0 + 256 * (b1 + 256 * (b2 + 256 * (b3 + 256 * (b4 + 256 * (b5 + 256 * (b6 + 256 * b7))))))

theorem step1 (b0 b1 b2 b3 b4 b5 b6 b7 : Nat) (h0 : b0 < 256) (h1 : b1 < 256) (h2 : b2 < 256) (h3 : b3 < 256) (h4 : b4 < 256) (h5 : b5 < 256) (h6 : b6 < 256) (_h7 : b7 < 256) :
    ((num8 b0 b1 b2 b3 b4 b5 b6 b7) / 2 &&& 6148914691236517205) + (num8 b0 b1 b2 b3 b4 b5 b6 b7 &&& 6148914691236517205) = num8 (c1 b0) (c1 b1) (c1 b2) (c1 b3) (c1 b4) (c1 b5) (c1 b6) (c1 b7) := by
  have e : (num8 b0 b1 b2 b3 b4 b5 b6 b7) / 2 = num8 (b0 / 2 + 128 * (b1 % 2)) (b1 / 2 + 128 * (b2 % 2)) (b2 / 2 + 128 * (b3 % 2)) (b3 / 2 + 128 * (b4 % 2)) (b4 / 2 + 128 * (b5 % 2)) (b5 / 2 + 128 * (b6 % 2)) (b6 / 2 + 128 * (b7 % 2)) (b7 / 2) := by
    unfold num8; omega
  have hm : (6148914691236517205 : Nat) = 85 + 256 * (85 + 256 * (85 + 256 * (85 + 256 * (85 + 256 * (85 + 256 * (85 + 256 * 85)))))) := by decide
  have hh : ∀ b d, b < 256 → (b / 2 + 128 * (d % 2)) &&& 85 = (b / 2) &&& 85 := fun b d hb => half1 ⟨b, hb⟩ ⟨d % 2, by omega⟩
  rw [e, hm]
  unfold num8
  rw [and_bytes _ _ _ _ _ _ _ _ 85 (by omega) (by omega) (by omega) (by omega) (by omega) (by omega) (by omega) (by omega), and_bytes _ _ _ _ _ _ _ _ 85 h0 h1 h2 h3 h4 h5 h6 (by omega),
    hh _ _ h0, hh _ _ h1, hh _ _ h2, hh _ _ h3, hh _ _ h4, hh _ _ h5, hh _ _ h6]
  unfold c1
  omega

theorem step2 (b0 b1 b2 b3 b4 b5 b6 b7 : Nat) (h0 : b0 < 256) (h1 : b1 < 256) (h2 : b2 < 256) (h3 : b3 < 256) (h4 : b4 < 256) (h5 : b5 < 256) (h6 : b6 < 256) (_h7 : b7 < 256) :
    ((num8 b0 b1 b2 b3 b4 b5 b6 b7) / 4 &&& 3689348814741910323) + (num8 b0 b1 b2 b3 b4 b5 b6 b7 &&& 3689348814741910323) = num8 (c2 b0) (c2 b1) (c2 b2) (c2 b3) (c2 b4) (c2 b5) (c2 b6) (c2 b7) := by
  have e : (num8 b0 b1 b2 b3 b4 b5 b6 b7) / 4 = num8 (b0 / 4 + 64 * (b1 % 4)) (b1 / 4 + 64 * (b2 % 4)) (b2 / 4 + 64 * (b3 % 4)) (b3 / 4 + 64 * (b4 % 4)) (b4 / 4 + 64 * (b5 % 4)) (b5 / 4 + 64 * (b6 % 4)) (b6 / 4 + 64 * (b7 % 4)) (b7 / 4) := by
    unfold num8; omega
  have hm : (3689348814741910323 : Nat) = 51 + 256 * (51 + 256 * (51 + 256 * (51 + 256 * (51 + 256 * (51 + 256 * (51 + 256 * 51)))))) := by decide
  have hh : ∀ b d, b < 256 → (b / 4 + 64 * (d % 4)) &&& 51 = (b / 4) &&& 51 := fun b d hb => half2 ⟨b, hb⟩ ⟨d % 4, by omega⟩
  rw [e, hm]
  unfold num8
  rw [and_bytes _ _ _ _ _ _ _ _ 51 (by omega) (by omega) (by omega) (by omega) (by omega) (by omega) (by omega) (by omega), and_bytes _ _ _ _ _ _ _ _ 51 h0 h1 h2 h3 h4 h5 h6 (by omega),
    hh _ _ h0, hh _ _ h1, hh _ _ h2, hh _ _ h3, hh _ _ h4, hh _ _ h5, hh _ _ h6]
  unfold c2
  omega

/-- A byte of two nibbles, the sum of which is a nibble. -/
def Nib (b : Nat) : Prop := b < 69 ∧ b % 16 < 5
theorem step3 (b0 b1 b2 b3 b4 b5 b6 b7 : Nat) (h0 : Nib b0) (h1 : Nib b1) (h2 : Nib b2) (h3 : Nib b3) (h4 : Nib b4) (h5 : Nib b5) (h6 : Nib b6) (h7 : Nib b7) :
    ((num8 b0 b1 b2 b3 b4 b5 b6 b7) / 16 + num8 b0 b1 b2 b3 b4 b5 b6 b7) &&& 1085102592571150095 = num8 (c3 b0) (c3 b1) (c3 b2) (c3 b3) (c3 b4) (c3 b5) (c3 b6) (c3 b7) := by
  unfold Nib at *
  have e : (num8 b0 b1 b2 b3 b4 b5 b6 b7) / 16 + num8 b0 b1 b2 b3 b4 b5 b6 b7 = num8 (c3 b0 + 16 * (b0 / 16 + b1 % 16)) (c3 b1 + 16 * (b1 / 16 + b2 % 16)) (c3 b2 + 16 * (b2 / 16 + b3 % 16)) (c3 b3 + 16 * (b3 / 16 + b4 % 16)) (c3 b4 + 16 * (b4 / 16 + b5 % 16)) (c3 b5 + 16 * (b5 / 16 + b6 % 16)) (c3 b6 + 16 * (b6 / 16 + b7 % 16)) (c3 b7 + 16 * (b7 / 16)) := by
    unfold num8 c3; omega
  have hm : (1085102592571150095 : Nat) = 15 + 256 * (15 + 256 * (15 + 256 * (15 + 256 * (15 + 256 * (15 + 256 * (15 + 256 * 15)))))) := by decide
  have hh : ∀ c d, c < 16 → (c + 16 * d) &&& 15 = c := fun c d hc => by rw [show (15 : Nat) = 2 ^ 4 - 1 from rfl, Nat.and_two_pow_sub_one_eq_mod]; omega
  have hc : ∀ b, b < 69 → b % 16 < 5 → c3 b < 16 ∧ c3 b < 10 := fun b h h' => by unfold c3; omega
  have k0 := hc b0 h0.1 h0.2
  have k1 := hc b1 h1.1 h1.2
  have k2 := hc b2 h2.1 h2.2
  have k3 := hc b3 h3.1 h3.2
  have k4 := hc b4 h4.1 h4.2
  have k5 := hc b5 h5.1 h5.2
  have k6 := hc b6 h6.1 h6.2
  have k7 := hc b7 h7.1 h7.2
  rw [e, hm]
  unfold num8
  rw [and_bytes _ _ _ _ _ _ _ _ 15 (by omega) (by omega) (by omega) (by omega) (by omega) (by omega) (by omega) (by omega),
    hh _ _ k0.1, hh _ _ k1.1, hh _ _ k2.1, hh _ _ k3.1, hh _ _ k4.1, hh _ _ k5.1, hh _ _ k6.1, hh _ _ k7.1]

/-- The sum of eight small bytes. -/
theorem step4 (p0 p1 p2 p3 p4 p5 p6 p7 x x4 x5 x6 : Nat) (h0 : p0 < 9) (h1 : p1 < 9) (h2 : p2 < 9) (h3 : p3 < 9) (h4 : p4 < 9) (h5 : p5 < 9) (h6 : p6 < 9) (h7 : p7 < 9)
    (hx : x = num8 p0 p1 p2 p3 p4 p5 p6 p7) (e4 : x4 = x + x / 256) (e5 : x5 = x4 + x4 / 65536) (e6 : x6 = x5 + x5 / 4294967296) :
    x6 % 128 = p0 + p1 + p2 + p3 + p4 + p5 + p6 + p7 ∧ x4 < 18446744073709551616 ∧ x5 < 18446744073709551616 ∧ x6 < 9223372036854775808 := by
  have f4 : x4 = num8 (p0 + p1) (p1 + p2) (p2 + p3) (p3 + p4) (p4 + p5) (p5 + p6) (p6 + p7) p7 := by
    rw [e4, hx]; unfold num8; omega
  have f5 : x5 = num8 (p0 + p1 + p2 + p3) (p1 + p2 + p3 + p4) (p2 + p3 + p4 + p5) (p3 + p4 + p5 + p6) (p4 + p5 + p6 + p7) (p5 + p6 + p7) (p6 + p7) p7 := by
    rw [e5, f4]; unfold num8; omega
  have f6 : x6 = num8 (p0 + p1 + p2 + p3 + p4 + p5 + p6 + p7) (p1 + p2 + p3 + p4 + p5 + p6 + p7) (p2 + p3 + p4 + p5 + p6 + p7) (p3 + p4 + p5 + p6 + p7) (p4 + p5 + p6 + p7) (p5 + p6 + p7) (p6 + p7) p7 := by
    rw [e6, f5]; unfold num8; omega
  rw [f4, f5, f6]
  unfold num8
  omega

theorem pop_bytes (x : Nat) : pop x = cnt (x % 256).testBit 8 + cnt (x / 256 % 256).testBit 8 + cnt (x / 65536 % 256).testBit 8 + cnt (x / 16777216 % 256).testBit 8 + cnt (x / 4294967296 % 256).testBit 8 + cnt (x / 1099511627776 % 256).testBit 8 + cnt (x / 281474976710656 % 256).testBit 8 + cnt (x / 72057594037927936 % 256).testBit 8 := by
  have e : ∀ k, cnt (fun j => x.testBit (k + j)) 8 = cnt (x / 2 ^ k % 256).testBit 8 := fun k => cnt_congr fun j hj => by
    rw [show (256 : Nat) = 2 ^ 8 from rfl, Nat.testBit_mod_two_pow, Nat.testBit_div_two_pow, decide_eq_true hj, Bool.true_and, Nat.add_comm]
  have e0 := e 0
  unfold pop
  rw [show (64 : Nat) = 56 + 8 from rfl, cnt_add, show (56 : Nat) = 48 + 8 from rfl, cnt_add, show (48 : Nat) = 40 + 8 from rfl, cnt_add, show (40 : Nat) = 32 + 8 from rfl, cnt_add, show (32 : Nat) = 24 + 8 from rfl, cnt_add, show (24 : Nat) = 16 + 8 from rfl, cnt_add, show (16 : Nat) = 8 + 8 from rfl, cnt_add]
  rw [show cnt x.testBit 8 = cnt (fun j => x.testBit (0 + j)) 8 from cnt_congr fun j _ => by rw [Nat.zero_add], e, e, e, e, e, e, e, e]
  simp only [Nat.pow_zero, Nat.div_one]

theorem num8_lt (b0 b1 b2 b3 b4 b5 b6 b7 c : Nat) (_hc : c ≤ 255) (h0 : b0 ≤ c) (h1 : b1 ≤ c) (h2 : b2 ≤ c) (h3 : b3 ≤ c) (h4 : b4 ≤ c) (h5 : b5 ≤ c) (h6 : b6 ≤ c) (h7 : b7 ≤ c) : num8 b0 b1 b2 b3 b4 b5 b6 b7 ≤ 72340172838076673 * c := by
  unfold num8; omega

/-- The count by adding up ever wider fields. -/
theorem pop_swar (x x1 x2 x3 x4 x5 x6 : Nat) (hx : x < 18446744073709551616)
    (e1 : x1 = (x / 2 &&& 6148914691236517205) + (x &&& 6148914691236517205)) (e2 : x2 = (x1 / 4 &&& 3689348814741910323) + (x1 &&& 3689348814741910323))
    (e3 : x3 = (x2 / 16 + x2) &&& 1085102592571150095) (e4 : x4 = x3 + x3 / 256) (e5 : x5 = x4 + x4 / 65536) (e6 : x6 = x5 + x5 / 4294967296) :
    x6 % 128 = pop x ∧ x1 < 18446744073709551616 ∧ x2 < 18446744073709551616 ∧ x2 / 16 + x2 < 18446744073709551616 ∧ x3 < 18446744073709551616 ∧ x4 < 18446744073709551616 ∧ x5 < 18446744073709551616 ∧ x6 < 9223372036854775808 := by
  have hb : x = num8 (x % 256) (x / 256 % 256) (x / 65536 % 256) (x / 16777216 % 256) (x / 4294967296 % 256) (x / 1099511627776 % 256) (x / 281474976710656 % 256) (x / 72057594037927936 % 256) := by unfold num8; omega
  rw [pop_bytes x]
  have l0 : x % 256 < 256 := by omega
  have l1 : x / 256 % 256 < 256 := by omega
  have l2 : x / 65536 % 256 < 256 := by omega
  have l3 : x / 16777216 % 256 < 256 := by omega
  have l4 : x / 4294967296 % 256 < 256 := by omega
  have l5 : x / 1099511627776 % 256 < 256 := by omega
  have l6 : x / 281474976710656 % 256 < 256 := by omega
  have l7 : x / 72057594037927936 % 256 < 256 := by omega
  generalize x % 256 = b0 at *
  generalize x / 256 % 256 = b1 at *
  generalize x / 65536 % 256 = b2 at *
  generalize x / 16777216 % 256 = b3 at *
  generalize x / 4294967296 % 256 = b4 at *
  generalize x / 1099511627776 % 256 = b5 at *
  generalize x / 281474976710656 % 256 = b6 at *
  generalize x / 72057594037927936 % 256 = b7 at *
  subst hb
  rw [step1 _ _ _ _ _ _ _ _ l0 l1 l2 l3 l4 l5 l6 l7] at e1
  have k : ∀ b, b < 256 → c1 b < 171 ∧ Nib (c2 (c1 b)) ∧ c3 (c2 (c1 b)) = cnt b.testBit 8 ∧ cnt b.testBit 8 < 9 := fun b h => ⟨c1_lt ⟨b, h⟩, c2_lt ⟨b, h⟩, c_pop ⟨b, h⟩, Nat.lt_succ_of_le (cnt_le _ _)⟩
  obtain ⟨a0, n0, q0, r0⟩ := k _ l0
  obtain ⟨a1, n1, q1, r1⟩ := k _ l1
  obtain ⟨a2, n2, q2, r2⟩ := k _ l2
  obtain ⟨a3, n3, q3, r3⟩ := k _ l3
  obtain ⟨a4, n4, q4, r4⟩ := k _ l4
  obtain ⟨a5, n5, q5, r5⟩ := k _ l5
  obtain ⟨a6, n6, q6, r6⟩ := k _ l6
  obtain ⟨a7, n7, q7, r7⟩ := k _ l7
  rw [e1, step2 _ _ _ _ _ _ _ _ (by omega) (by omega) (by omega) (by omega) (by omega) (by omega) (by omega) (by omega)] at e2
  have g1 : x1 < 18446744073709551616 := by
    have := num8_lt _ _ _ _ _ _ _ _ 170 (by omega) (Nat.le_of_lt_succ a0) (Nat.le_of_lt_succ a1) (Nat.le_of_lt_succ a2) (Nat.le_of_lt_succ a3) (Nat.le_of_lt_succ a4) (Nat.le_of_lt_succ a5) (Nat.le_of_lt_succ a6) (Nat.le_of_lt_succ a7)
    rw [← e1] at this; omega
  have g2 : x2 < 18446744073709551616 / 2 := by
    have := num8_lt _ _ _ _ _ _ _ _ 68 (by omega) (Nat.le_of_lt_succ n0.1) (Nat.le_of_lt_succ n1.1) (Nat.le_of_lt_succ n2.1) (Nat.le_of_lt_succ n3.1) (Nat.le_of_lt_succ n4.1) (Nat.le_of_lt_succ n5.1) (Nat.le_of_lt_succ n6.1) (Nat.le_of_lt_succ n7.1)
    rw [← e2] at this; omega
  rw [e2, step3 _ _ _ _ _ _ _ _ n0 n1 n2 n3 n4 n5 n6 n7, q0, q1, q2, q3, q4, q5, q6, q7] at e3
  have g3 : x3 < 18446744073709551616 := by
    have := num8_lt _ _ _ _ _ _ _ _ 8 (by omega) (Nat.le_of_lt_succ r0) (Nat.le_of_lt_succ r1) (Nat.le_of_lt_succ r2) (Nat.le_of_lt_succ r3) (Nat.le_of_lt_succ r4) (Nat.le_of_lt_succ r5) (Nat.le_of_lt_succ r6) (Nat.le_of_lt_succ r7)
    rw [← e3] at this; omega
  obtain ⟨f, f4, f5, f6⟩ := step4 _ _ _ _ _ _ _ _ x3 x4 x5 x6 r0 r1 r2 r3 r4 r5 r6 r7 e3 e4 e5 e6
  exact ⟨f, g1, by omega, by omega, g3, f4, f5, f6⟩

/-- The first bit of a word that is 1. -/
theorem ctz_spec (x : Nat) (h0 : x ≠ 0) (hx : x < 18446744073709551616) : Lib.ctz 64 x < 64 ∧ x.testBit (Lib.ctz 64 x) = true ∧ ∀ j, j < Lib.ctz 64 x → x.testBit j = false := by
  obtain ⟨m, hm, hk⟩ := Lib.ctzFrom_spec 64 x (by omega) hx
  have e : Lib.ctz 64 x = Lib.ctzFrom 64 x := by simp [Lib.ctz, h0]
  rw [← e] at hm hk
  refine ⟨hk, ?_, fun j hj => ?_⟩
  · have : x.testBit (Lib.ctz 64 x) = (2 ^ Lib.ctz 64 x * (2 * m + 1)).testBit (Lib.ctz 64 x) := by rw [← hm]
    rw [this, Nat.mul_comm, Nat.testBit_mul_two_pow]
    simp
  · have : x.testBit j = (2 ^ Lib.ctz 64 x * (2 * m + 1)).testBit j := by rw [← hm]
    rw [this, Nat.mul_comm, Nat.testBit_mul_two_pow]
    simp; omega

/-- A word in which those bits are 1 that are so. -/
def so (on : Bool) (x : Nat) : Nat := if on then x else 18446744073709551615 - x
theorem so_lt (on : Bool) (x : Nat) (hx : x < 18446744073709551616) : so on x < 18446744073709551616 := by unfold so; split <;> omega
theorem so_bit (on : Bool) (x j : Nat) (hx : x < 18446744073709551616) (hj : j < 64) : (so on x).testBit j = (x.testBit j == on) := by
  cases on
  · have := Nat.testBit_two_pow_sub_succ (x := x) (n := 64) hx j
    rw [show so false x = 2 ^ 64 - (x + 1) from by simp only [so, Bool.false_eq_true, if_false]; omega, this, decide_eq_true hj]
    cases x.testBit j <;> rfl
  · simp only [so, if_true]
    cases x.testBit j <;> rfl
theorem xor_ones (x : Nat) (hx : x < 18446744073709551616) : 18446744073709551615 ^^^ x = 18446744073709551615 - x := by
  apply Nat.eq_of_testBit_eq
  intro j
  rw [Nat.testBit_xor, show (18446744073709551615 : Nat) = 2 ^ 64 - 1 from rfl, Nat.testBit_two_pow_sub_one]
  by_cases hj : j < 64
  · have := Nat.testBit_two_pow_sub_succ (x := x) (n := 64) hx j
    rw [show 2 ^ 64 - 1 - x = 2 ^ 64 - (x + 1) from by omega, this, decide_eq_true hj]
    cases x.testBit j <;> rfl
  · rw [testBit_big _ _ hx (by omega), testBit_big _ _ (by omega) (by omega), decide_eq_false hj]; rfl

/-- The bits from the k-th on. -/
theorem mask_bit (x k j : Nat) (hx : x < 18446744073709551616) (hk : k < 64) : (x &&& (18446744073709551616 - 2 ^ k)).testBit j = (x.testBit j && decide (k ≤ j)) := by
  rw [Nat.testBit_and]
  by_cases hj : j < 64
  · have hlt : 2 ^ k - 1 < 2 ^ 64 := by
      have := Nat.pow_lt_pow_right (a := 2) (by omega) hk
      omega
    have hp : 0 < 2 ^ k := Nat.two_pow_pos k
    have := Nat.testBit_two_pow_sub_succ (x := 2 ^ k - 1) (n := 64) hlt j
    rw [show 2 ^ k - 1 + 1 = 2 ^ k from by omega] at this
    rw [show (18446744073709551616 : Nat) = 2 ^ 64 from rfl, this, Nat.testBit_two_pow_sub_one, decide_eq_true hj, Bool.true_and]
    congr 1
    by_cases h : j < k
    · rw [decide_eq_true h, decide_eq_false (by omega)]; rfl
    · rw [decide_eq_false h, decide_eq_true (by omega)]; rfl
  · rw [testBit_big _ _ hx (by omega)]; rfl

theorem and_bit (x k : Nat) : (x &&& 2 ^ k = 0) ↔ x.testBit k = false := by
  constructor
  · intro h
    have := congrArg (fun y => y.testBit k) h
    simpa [Nat.testBit_and, Nat.testBit_two_pow_self] using this
  · intro h
    apply Nat.eq_of_testBit_eq
    intro j
    rw [Nat.testBit_and, Nat.zero_testBit]
    by_cases hj : k = j
    · subst hj; rw [h]; rfl
    · rw [Nat.testBit_two_pow_of_ne hj, Bool.and_false]

end Go.Proofs.YtdmnemgooagehaaGreatDoor

namespace Go.Proofs.YtdmnemgooagehaaGreatDoor
open Go.RowKit

/-- All blocks that were there, but for one, are as they were. -/
structure But (g : Nat) (w w' : World) : Prop where
  os : w'.os = w.os
  tape : w'.tape = w.tape
  output : w'.output = w.output
  size : w.heap.size ≤ w'.heap.size
  block : ∀ k, k < w.heap.size → k ≠ g → w'.heap[k]? = w.heap[k]?

theorem But.refl (g : Nat) (w : World) : But g w w := ⟨rfl, rfl, rfl, Nat.le_refl _, fun _ _ _ => rfl⟩
theorem But.trans {g : Nat} {a b c : World} (h : But g a b) (k : But g b c) : But g a c :=
  ⟨k.os.trans h.os, k.tape.trans h.tape, k.output.trans h.output, Nat.le_trans h.size k.size,
   fun i hi hg => (k.block i (Nat.lt_of_lt_of_le hi h.size) hg).trans (h.block i hi hg)⟩
theorem But.of_below {g : Nat} {w w' : World} (h : Below w.heap.size w w') : But g w w' :=
  ⟨h.os, h.tape, h.output, h.size, fun k hk _ => h.block k hk⟩
theorem But.drew {g : Nat} {a w : World} (h : But g a w) : But g a w.drew := ⟨h.os, h.tape, h.output, h.size, h.block⟩
theorem But.alloc {g : Nat} {a w : World} (h : But g a w) (o : Obj) : But g a (w.alloc o) :=
  h.trans ⟨rfl, rfl, rfl, by simp, fun k hk _ => Below.heap_alloc _ _ _ hk⟩
theorem But.setCell {g : Nat} {a w : World} (h : But g a w) {p : Addr} (hp : p.block = g ∨ a.heap.size ≤ p.block) (u : Value) : But g a (w.setCell p u) :=
  ⟨h.os, h.tape, h.output, by simpa using h.size, fun k hk hg => by
    rw [Below.heap_setCell _ _ _ _ (by rcases hp with hp | hp <;> omega)]; exact h.block k hk hg⟩
theorem But.setRow {g : Nat} {a w : World} (h : But g a w) {k : Nat} (hp : k = g ∨ a.heap.size ≤ k) (cs : Array Value) : But g a (w.setRow k cs) :=
  ⟨h.os, h.tape, h.output, by simpa using h.size, fun j hj hg => by
    rw [setRow_other w k j cs (by rcases hp with hp | hp <;> omega)]; exact h.block j hj hg⟩
theorem Below.of_but {B g : Nat} {w0 w w' : World} (hb : Below B w0 w) (hB : B ≤ w.heap.size) (h : But g w w') (hg : B ≤ g) : Below B w0 w' :=
  ⟨h.os.trans hb.os, h.tape.trans hb.tape, h.output.trans hb.output, Nat.le_trans hb.size h.size,
   fun k hk => (h.block k (by omega) (by omega)).trans (hb.block k hk)⟩
theorem Below.of_below {B : Nat} {w0 w w' : World} (hb : Below B w0 w) (hB : B ≤ w.heap.size) (h : Below w.heap.size w w') : Below B w0 w' :=
  hb.trans (h.mono hB)

theorem addr_add (g o j : Nat) : (⟨g, o, none⟩ : Addr).add j = ⟨g, o + j, none⟩ := by unfold Addr.add; split <;> simp_all
theorem setRow_alloc (w : World) (c cs : Array Value) (t : TypeId) : (w.alloc (.cells c t)).setRow w.heap.size cs = w.alloc (.cells cs t) := by
  unfold World.setRow World.alloc
  congr 1
  apply Array.ext
  · simp
  · intro i h1 h2
    simp only [Array.getElem_modify, Array.getElem_push]
    split
    · rename_i h; subst h; simp
    · rename_i h
      have h3 : i < w.heap.size := by simp at h2; omega
      simp [h3]

theorem hid {p : Prop} (h : p) : Hid p := h
/-- An append whose run is known. -/
theorem wpList_append_run {P : Program} {w w' : World} {ops : Array Oper} {rest : List Oper} {o : Oper} {a : Act} {Q : Exit → Act → World → Prop} (hgd : o.guard = none) (d s : Operand) (dT sT : TypeId)
    (ho : o.op = .call { callee := .builtin .append, args := #[d, s], argTypes := #[dT, sT] }) (vd vs v : Value) (hd : a.eval d = vd) (hs : a.eval s = vs)
    (hrun : (Builtin.append_ #[dT, sT] o.type #[vd, vs]).run P w = .ok v w')
    (h : wpList P ops Q rest (a.put o.dst v) w') : wpList P ops Q (o :: rest) a w := by
  refine wpList_plain hgd fun K hK => ?_
  unfold Oper.wp
  simp [execOp, ho, resolve, invoke, builtin, hd, hs, hrun, Result.andThen]
  exact hK _ _ h

theorem ret_bool {a b : Bool} (h : a = b) : Ending.returned (.bool a) = .returned (.bool b) := by rw [h]
theorem ret_int {k : IntKind} {a b : Int} (h : a = b) : Ending.returned (.int k a) = .returned (.int k b) := by rw [h]

end Go.Proofs.YtdmnemgooagehaaGreatDoor

namespace Go.Proofs.YtdmnemgooagehaaGreatDoor
open Go.RowKit

def wv (ws : List Nat) : Array Value := (ws.map (fun x : Nat => Value.int .u64 (x : Int))).toArray
theorem wv_size (ws : List Nat) : (wv ws).size = ws.length := by simp [wv]
theorem wv_get (ws : List Nat) (i : Nat) (h : i < ws.length) : (wv ws)[i]? = some (.int .u64 ((ws[i]?.getD 0 : Nat) : Int)) := by
  simp [wv, h]

/-- The map at block b has n bits, in the words ws of block g. -/
structure Bits (w : World) (b g n : Nat) (ws : List Nat) : Prop where
  head : w.heap[b]? = some (.cells #[.int .i64 (n : Int), .slice (some ⟨g, 0, none⟩) ws.length ws.length] 178)
  body : w.heap[g]? = some (.cells (wv ws) 72)
  unlike : b ≠ g
  small : n ≤ 1048576
  ok : Okm n ws

theorem Bits.c0 {w : World} {b g n : Nat} {ws : List Nat} (h : Bits w b g n ws) : w.cell? ⟨b, 0, none⟩ = some (.int .i64 (n : Int)) := by
  rw [cell_of_row w b 0 _ _ _ h.head]; rfl
theorem Bits.c1 {w : World} {b g n : Nat} {ws : List Nat} (h : Bits w b g n ws) : w.cell? ⟨b, 1, none⟩ = some (.slice (some ⟨g, 0, none⟩) ws.length ws.length) := by
  rw [cell_of_row w b 1 _ _ _ h.head]; rfl
theorem Bits.at {w : World} {b g n : Nat} {ws : List Nat} (h : Bits w b g n ws) (i : Nat) (hi : i < ws.length) : w.cell? ⟨g, i, none⟩ = some (.int .u64 ((ws[i]?.getD 0 : Nat) : Int)) := by
  rw [cell_of_row w g i _ _ _ h.body, wv_get ws i hi]
theorem Bits.lt {w : World} {b g n : Nat} {ws : List Nat} (h : Bits w b g n ws) : b < w.heap.size ∧ g < w.heap.size :=
  ⟨(Array.getElem?_eq_some_iff.1 h.head).1, (Array.getElem?_eq_some_iff.1 h.body).1⟩

theorem len_nil (w : World) : Calls Tryz.prog 127 #[.pointer none] w fun e w' => e = .returned (.int .i64 0) ∧ w' = w := by
  go_enter Tryz.func127, Tryz.ntmps127
  go_wp2
  go_ret
  exact ⟨rfl, rfl⟩
theorem len_cell (b n : Nat) (w : World) (hc : w.cell? ⟨b, 0, none⟩ = some (.int .i64 (n : Int))) :
    Calls Tryz.prog 127 #[.pointer (some ⟨b, 0, none⟩)] w fun e w' => e = .returned (.int .i64 (n : Int)) ∧ w' = w := by
  go_enter Tryz.func127, Tryz.ntmps127
  go_wp2
  go_ret
  exact ⟨rfl, rfl⟩

theorem wordsOf_any (n : Int) (w : World) (h0 : 0 ≤ n) (h1 : n ≤ 1048576) :
    Calls Tryz.prog 121 #[.int .i64 n] w fun e w' => e = .returned (.int .i64 ((n + 63) / 64)) ∧ w' = w := by
  go_enter Tryz.func121, Tryz.ntmps121
  go_wp2
  go_ret
  exact ⟨ret_int (by omega), rfl⟩

def hasB (n : Nat) (i : Int) : Bool := decide (0 ≤ i ∧ i < (n : Int))
theorem has_cell (b n : Nat) (i : Int) (w : World) (hc : w.cell? ⟨b, 0, none⟩ = some (.int .i64 (n : Int))) :
    Calls Tryz.prog 122 #[.pointer (some ⟨b, 0, none⟩), .int .i64 i] w fun e w' => e = .returned (.bool (hasB n i)) ∧ w' = w := by
  by_cases h0 : 0 ≤ i
  · go_enter Tryz.func122, Tryz.ntmps122
    go_wp2_with (go_at_call 127; refine (len_cell b n _ hc).mono ?_; rintro e w' ⟨rfl, rfl⟩)
    go_ret
    exact ⟨ret_bool (by simp [hasB, h0]), rfl⟩
  · go_enter Tryz.func122, Tryz.ntmps122
    go_wp2
    go_ret
    exact ⟨ret_bool (by unfold hasB; rw [decide_eq_false (by omega)]), rfl⟩

theorem pow_wrap (k : Nat) (hk : k < 64) : IntKind.u64.wrap (2 ^ k) = ((2 ^ k : Nat) : Int) := by
  have h : 2 ^ k < 2 ^ 64 := Nat.pow_lt_pow_right (by omega) hk
  have e : (2 : Int) ^ k = ((2 ^ k : Nat) : Int) := by simp
  rw [e, IntKind.wrap_u64]
  generalize 2 ^ k = y at *
  omega

theorem bitOf_any (i : Nat) (w : World) (h : i < 1048576) :
    Calls Tryz.prog 124 #[.int .i64 (i : Int)] w fun e w' => e = .returned (.int .u64 ((2 ^ (i % 64) : Nat) : Int)) ∧ w' = w := by
  go_enter Tryz.func124, Tryz.ntmps124
  go_wp2
  go_ret
  exact ⟨ret_int (pow_wrap _ (by omega)), rfl⟩

theorem ones_walk (x x1 x2 y3 x3 x4 x5 x6 : Nat) (w : World) (h6 : x6 < 9223372036854775808)
    (e1 : IntKind.u64.wrap (bits .and .u64 ((x : Int) / 2) 6148914691236517205 + bits .and .u64 (x : Int) 6148914691236517205) = (x1 : Int))
    (e2 : IntKind.u64.wrap (bits .and .u64 ((x1 : Int) / 4) 3689348814741910323 + bits .and .u64 (x1 : Int) 3689348814741910323) = (x2 : Int))
    (e3 : IntKind.u64.wrap ((x2 : Int) / 16 + (x2 : Int)) = (y3 : Int)) (e3' : bits .and .u64 (y3 : Int) 1085102592571150095 = (x3 : Int))
    (e4 : IntKind.u64.wrap ((x3 : Int) + (x3 : Int) / 256) = (x4 : Int)) (e5 : IntKind.u64.wrap ((x4 : Int) + (x4 : Int) / 65536) = (x5 : Int)) (e6 : IntKind.u64.wrap ((x5 : Int) + (x5 : Int) / 4294967296) = (x6 : Int))
    (e7 : bits .and .i64 (x6 : Int) 127 = (x6 : Int) % 128) :
    Calls Tryz.prog 118 #[.int .u64 (x : Int)] w fun e w' => e = .returned (.int .i64 ((x6 : Int) % 128)) ∧ w' = w := by
  go_enter Tryz.func118, Tryz.ntmps118
  go_wp2
  go_ret
  exact ⟨rfl, rfl⟩

theorem and_int (a m : Nat) (ha : a < 18446744073709551616) (hm : m < 18446744073709551616) : bits .and .u64 (a : Int) (m : Int) = ((a &&& m : Nat) : Int) := u64_and_nat a m ha hm
theorem wrap_int (n : Nat) (h : n < 18446744073709551616) : IntKind.u64.wrap (n : Int) = (n : Int) := by rw [IntKind.wrap_u64]; omega

theorem ones_any (x : Nat) (w : World) (hx : x < 18446744073709551616) :
    Calls Tryz.prog 118 #[.int .u64 (x : Int)] w fun e w' => e = .returned (.int .i64 (pop x : Int)) ∧ w' = w := by
  obtain ⟨x1, e1⟩ : ∃ x1, x1 = (x / 2 &&& 6148914691236517205) + (x &&& 6148914691236517205) := ⟨_, rfl⟩
  obtain ⟨x2, e2⟩ : ∃ x2, x2 = (x1 / 4 &&& 3689348814741910323) + (x1 &&& 3689348814741910323) := ⟨_, rfl⟩
  obtain ⟨x3, e3⟩ : ∃ x3, x3 = (x2 / 16 + x2) &&& 1085102592571150095 := ⟨_, rfl⟩
  obtain ⟨x4, e4⟩ : ∃ x4, x4 = x3 + x3 / 256 := ⟨_, rfl⟩
  obtain ⟨x5, e5⟩ : ∃ x5, x5 = x4 + x4 / 65536 := ⟨_, rfl⟩
  obtain ⟨x6, e6⟩ : ∃ x6, x6 = x5 + x5 / 4294967296 := ⟨_, rfl⟩
  obtain ⟨hp, g1, g2, g3, g4, g5, g6, g7⟩ := pop_swar x x1 x2 x3 x4 x5 x6 hx e1 e2 e3 e4 e5 e6
  rw [← hp, Int.natCast_emod]
  refine ones_walk x x1 x2 (x2 / 16 + x2) x3 x4 x5 x6 w g7 ?_ ?_ ?_ ?_ ?_ ?_ ?_ (i64_and127 _)
  · rw [show (x : Int) / 2 = ((x / 2 : Nat) : Int) from by omega, show (6148914691236517205 : Int) = ((6148914691236517205 : Nat) : Int) from rfl, and_int _ _ (by omega) (by omega), and_int _ _ hx (by omega), ← Int.natCast_add, ← e1]
    exact wrap_int _ g1
  · rw [show (x1 : Int) / 4 = ((x1 / 4 : Nat) : Int) from by omega, show (3689348814741910323 : Int) = ((3689348814741910323 : Nat) : Int) from rfl, and_int _ _ (by omega) (by omega), and_int _ _ g1 (by omega), ← Int.natCast_add, ← e2]
    exact wrap_int _ g2
  · rw [show (x2 : Int) / 16 + (x2 : Int) = ((x2 / 16 + x2 : Nat) : Int) from by omega]
    exact wrap_int _ g3
  · rw [show (1085102592571150095 : Int) = ((1085102592571150095 : Nat) : Int) from rfl, and_int _ _ g3 (by omega), ← e3]
  · rw [show (x3 : Int) + (x3 : Int) / 256 = (x4 : Int) from by omega]
    exact wrap_int _ g5
  · rw [show (x4 : Int) + (x4 : Int) / 65536 = (x5 : Int) from by omega]
    exact wrap_int _ g6
  · rw [show (x5 : Int) + (x5 : Int) / 4294967296 = (x6 : Int) from by omega]
    exact wrap_int _ (by omega)

/-- The table of math/bits in its variable. -/
def Tab (w : World) : Prop := ∀ j, j < 64 → w.cell? ⟨2, j, none⟩ = some (.int .u8 ((Lib.deBruijn64tab.getD j 0 : Nat) : Int))

theorem tz_core (x k idx : Nat) (w : World) (hx0 : ((x : Int) == 0) = false)
    (key : IntKind.u64.wrap (bits BinOp.and IntKind.u64 (x : Int) (IntKind.u64.wrap (-(x : Int))) * 285870213051353865) / 288230376151711744 = (idx : Int))
    (hi : idx < 64) (hk : k < 64) (hcell : w.cell? ⟨2, idx, none⟩ = some (.int .u8 (k : Int))) :
    Calls Tryz.prog 120 #[.int .u64 (x : Int)] w fun e w' => e = .returned (.int .i64 (k : Int)) ∧ w' = w := by
  go_enter Tryz.func120, Tryz.ntmps120
  go_wp2_with (simp only [key])
  go_ret
  exact ⟨rfl, rfl⟩

theorem tz_any (x : Nat) (w : World) (hx0 : x ≠ 0) (hx : x < 18446744073709551616) (hT : Tab w) :
    Calls Tryz.prog 120 #[.int .u64 (x : Int)] w fun e w' => e = .returned (.int .i64 (Lib.ctz 64 x : Int)) ∧ w' = w := by
  obtain ⟨hlow, hk⟩ := Lib.lowest_bit 64 x hx0 hx
  obtain ⟨hi, htab⟩ := Lib.deBruijn64_at _ hk
  have hcell := hT _ hi
  rw [htab] at hcell
  exact tz_core x _ _ w (by simp; omega) (tz64_key x _ hx hx0 hlow) hi hk hcell

theorem wordSo_any (b g n : Nat) (ws : List Nat) (on : Bool) (i : Nat) (w : World) (hB : Bits w b g n ws) (hi : i < ws.length) :
    Calls Tryz.prog 146 #[.pointer (some ⟨b, 0, none⟩), .bool on, .int .i64 (i : Int)] w fun e w' => e = .returned (.int .u64 (so on (ws[i]?.getD 0) : Int)) ∧ w' = w := by
  have h1 := hB.c1
  have h2 := hB.at i hi
  have h3 := hB.ok.word i
  have h4 : ws.length ≤ 16384 := by rw [hB.ok.len]; have := hB.small; omega
  clear hB
  generalize ws[i]?.getD 0 = x at *
  cases on
  · go_enter Tryz.func146, Tryz.ntmps146
    go_wp2
    go_ret
    refine ⟨ret_int ?_, rfl⟩
    rw [show IntKind.u64.max = ((18446744073709551615 : Nat) : Int) from by decide, u64_xor_nat _ _ (by omega) h3, xor_ones x h3]
    rfl
  · go_enter Tryz.func146, Tryz.ntmps146
    go_wp2
    go_ret
    exact ⟨rfl, rfl⟩

theorem info99 : (Tryz.prog.info? 72).map (fun i => (i.zero, i.size, i.bytes)) = some (some (.int .u64 0), 1, 8) := by kernel_rfl

theorem madeWords (k : Nat) : madeCells #[.int .u64 0] k = wv (List.replicate k 0) := by
  apply Array.ext'
  simp [madeCells, wv, Nat.mod_one, List.map_const']

set_option maxRecDepth 100000 in
theorem new_raw (n k : Nat) (w : World) (h1 : n ≤ 1048576) (hk : ((n : Int) + 63) / 64 = (k : Int)) :
    Calls Tryz.prog 65 #[.int .i64 (n : Int)] w fun e w' => e = .returned (.pointer (some ⟨w.heap.size + 1, 0, none⟩)) ∧
      w' = (w.alloc (.cells (madeCells #[.int .u64 0] k) 72)).alloc (.cells #[.int .i64 (n : Int), .slice (some ⟨w.heap.size, 0, none⟩) k k] 178) := by
  have hmk := run_make_row' (P := Tryz.prog) 176 72 (.int .u64 0) 8 Tryz.underlying176 info99 rfl .i64 .i64 k (by omega) (by omega)
  go_enter Tryz.func65, Tryz.ntmps65
  go_wp2_with (go_at_call 121; refine (wordsOf_any n _ (by omega) (by omega)).mono ?_; rintro e w' ⟨rfl, rfl⟩; rw [hk])
  go_ret
  exact ⟨rfl, rfl⟩

theorem new_no (w : World) : Calls Tryz.prog 65 #[.int .i64 (-1)] w fun e w' => e = .returned (.pointer none) ∧ w' = w := by
  go_enter Tryz.func65, Tryz.ntmps65
  go_wp2
  go_ret
  exact ⟨rfl, rfl⟩

theorem zero_ok (n : Nat) : Okm n (List.replicate ((n + 63) / 64) 0) := by
  have e : ∀ k m : Nat, (List.replicate m 0)[k]?.getD 0 = 0 := fun k m => by
    rw [List.getElem?_replicate]
    split <;> rfl
  refine ⟨by simp, fun k => by rw [e]; omega, fun i _ => ?_⟩
  unfold bit
  rw [e, Nat.zero_testBit]

/-- New: a map whose bits are all off. -/
theorem new_ok (n : Nat) (w : World) (h1 : n ≤ 1048576) :
    Calls Tryz.prog 65 #[.int .i64 (n : Int)] w fun e w' => ∃ b g, e = .returned (.pointer (some ⟨b, 0, none⟩)) ∧ Bits w' b g n (List.replicate ((n + 63) / 64) 0) ∧ Below w.heap.size w w' ∧ w.heap.size ≤ b ∧ w.heap.size ≤ g := by
  refine (new_raw n ((n + 63) / 64) w h1 (by omega)).mono ?_
  rintro e w' ⟨rfl, rfl⟩
  refine ⟨w.heap.size + 1, w.heap.size, rfl, ⟨?_, ?_, by omega, h1, zero_ok n⟩, ?_, by omega, by omega⟩
  · rw [heap_alloc2_new, List.length_replicate]
  · rw [heap_alloc2_old, madeWords]
  · exact ((Below.refl _ _).alloc (Nat.le_refl _) _).alloc (by simp) _

def getB (n : Nat) (ws : List Nat) (i : Int) : Bool := hasB n i && bit ws i.toNat

theorem has_no (b n : Nat) (i : Int) (w : World) (hc : w.cell? ⟨b, 0, none⟩ = some (.int .i64 (n : Int))) (hh : hasB n i = false) :
    Calls Tryz.prog 122 #[.pointer (some ⟨b, 0, none⟩), .int .i64 i] w fun e w' => e = .returned (.bool false) ∧ w' = w := by
  rw [← hh]; exact has_cell b n i w hc
theorem has_yes (b n : Nat) (i : Int) (w : World) (hc : w.cell? ⟨b, 0, none⟩ = some (.int .i64 (n : Int))) (hh : hasB n i = true) :
    Calls Tryz.prog 122 #[.pointer (some ⟨b, 0, none⟩), .int .i64 i] w fun e w' => e = .returned (.bool true) ∧ w' = w := by
  rw [← hh]; exact has_cell b n i w hc

theorem get_no (b n : Nat) (i : Int) (w : World) (hc : w.cell? ⟨b, 0, none⟩ = some (.int .i64 (n : Int))) (hh : hasB n i = false) :
    Calls Tryz.prog 123 #[.pointer (some ⟨b, 0, none⟩), .int .i64 i] w fun e w' => e = .returned (.bool false) ∧ ∃ k, w' = w.drewN k := by
  have HH := hid hh
  clear hh
  go_enter Tryz.func123, Tryz.ntmps123
  go_wp2
  go_quiet ((go_at_call 122; exact Calls.quiet_of_same (has_no b n i _ hc HH.out)))
  go_wp2
  go_ret
  exact ⟨rfl, nq, rfl⟩

theorem bit_ne (ws : List Nat) (i : Nat) (x : Nat) (hx : ws[i / 64]?.getD 0 = x) (h3 : x < 18446744073709551616) : (bits .and .u64 (x : Int) ((2 ^ (i % 64) : Nat) : Int) != 0) = bit ws i := by
  have h : 2 ^ (i % 64) < 2 ^ 64 := Nat.pow_lt_pow_right (by omega) (Nat.mod_lt _ (by omega))
  rw [u64_and_nat _ _ h3 h]
  have := and_bit x (i % 64)
  unfold bit
  rw [hx]
  cases hb : x.testBit (i % 64)
  · have h0 := this.2 hb
    rw [h0]; rfl
  · have h0 : ¬ (x &&& 2 ^ (i % 64) = 0) := fun h => by rw [this.1 h] at hb; cases hb
    rw [bne_iff_ne]
    omega

theorem bitOf_p (i p : Nat) (w : World) (h : i < 1048576) (hp : p = 2 ^ (i % 64)) :
    Calls Tryz.prog 124 #[.int .i64 (i : Int)] w fun e w' => e = .returned (.int .u64 (p : Int)) ∧ w' = w := by
  subst hp; exact bitOf_any i w h

theorem wrap_i (n : Int) (h0 : 0 ≤ n) (h1 : n < 9223372036854775808) : IntKind.i64.wrap n = n := by
  simp [IntKind.wrap, IntKind.bits, IntKind.signed]; omega

theorem get_in (b g n : Nat) (ws : List Nat) (i : Nat) (w : World) (hB : Bits w b g n ws) (hi : i < n) :
    Calls Tryz.prog 123 #[.pointer (some ⟨b, 0, none⟩), .int .i64 (i : Int)] w fun e w' => e = .returned (.bool (bit ws i)) ∧ ∃ k, w' = w.drewN k := by
  have h0 := hB.c0
  have h1 := hB.c1
  have h2 := hB.at (i / 64) (by rw [hB.ok.len]; omega)
  have h3 := hB.ok.word (i / 64)
  have h4 : ws.length ≤ 16384 := by rw [hB.ok.len]; have := hB.small; omega
  have h5 : i / 64 < ws.length := by rw [hB.ok.len]; omega
  have h6 := hB.small
  have hh : hasB n i = true := by unfold hasB; rw [decide_eq_true (by omega)]
  obtain ⟨x, hx⟩ : ∃ x, ws[i / 64]?.getD 0 = x := ⟨_, rfl⟩
  rw [hx] at h2 h3
  have hn := hid (bit_ne ws i x hx h3)
  obtain ⟨q, hq⟩ : ∃ q, q = i / 64 := ⟨_, rfl⟩
  obtain ⟨p, hp⟩ : ∃ p : Nat, p = 2 ^ (i % 64) := ⟨_, rfl⟩
  rw [← hq] at h2 h5
  have hq' : (i : Int) / 64 = (q : Int) := by omega
  have hlt : (q : Int) < (ws.length : Int) := by omega
  have hqw := wrap_i (q : Int) (by omega) (by omega)
  have HH := hid hh
  have HP := hid hp
  rw [← hp] at hn
  clear hB hh hp hx hq
  go_enter Tryz.func123, Tryz.ntmps123
  go_wp2
  go_quiet ((first | (go_at_call 122; exact Calls.quiet_of_same (has_yes b n i _ h0 HH.out)) | (go_at_call 124; exact Calls.quiet_of_same (bitOf_p i p _ (by omega) HP.out))))
  go_wp2
  go_ret
  exact ⟨ret_bool hn.out, nq, rfl⟩

theorem get_any (b g n : Nat) (ws : List Nat) (i : Int) (w : World) (hB : Bits w b g n ws) :
    Calls Tryz.prog 123 #[.pointer (some ⟨b, 0, none⟩), .int .i64 i] w fun e w' => e = .returned (.bool (getB n ws i)) ∧ ∃ k, w' = w.drewN k := by
  by_cases h : 0 ≤ i ∧ i < (n : Int)
  · obtain ⟨k, rfl⟩ := Int.eq_ofNat_of_zero_le h.1
    have e : getB n ws (k : Int) = bit ws k := by unfold getB hasB; rw [decide_eq_true h, Int.toNat_natCast, Bool.true_and]
    rw [e]
    exact get_in b g n ws k w hB (by omega)
  · have e : hasB n i = false := by unfold hasB; rw [decide_eq_false h]
    rw [show getB n ws i = false from by unfold getB; rw [e]; rfl]
    exact get_no b n i w hB.c0 e
end Go.Proofs.YtdmnemgooagehaaGreatDoor

namespace Go.Proofs.YtdmnemgooagehaaGreatDoor
open Go.RowKit

/-- The slice has these numbers, in memory other than the block g. -/
def Src (w : World) (g : Nat) (a : Option Addr) (l : List Int) : Prop :=
  l.length = 0 ∨ ∃ s o, a = some ⟨s, o, none⟩ ∧ s ≠ g ∧ s < w.heap.size ∧ ∀ j, j < l.length → w.cell? ⟨s, o + j, none⟩ = some (.int .i64 (l[j]?.getD 0))

theorem Bits.same {w w' : World} {b g n : Nat} {ws : List Nat} (h : Bits w b g n ws) (e : w'.heap = w.heap) : Bits w' b g n ws :=
  ⟨by rw [e]; exact h.head, by rw [e]; exact h.body, h.unlike, h.small, h.ok⟩
theorem Bits.below {w w' : World} {b g n : Nat} {ws : List Nat} (h : Bits w b g n ws) (hb : Below w.heap.size w w') : Bits w' b g n ws :=
  ⟨by rw [hb.block b h.lt.1]; exact h.head, by rw [hb.block g h.lt.2]; exact h.body, h.unlike, h.small, h.ok⟩
theorem Bits.but {w w' : World} {b g n r : Nat} {ws : List Nat} (h : Bits w b g n ws) (hb : But r w w') (h1 : b ≠ r) (h2 : g ≠ r) : Bits w' b g n ws :=
  ⟨by rw [hb.block b h.lt.1 h1]; exact h.head, by rw [hb.block g h.lt.2 h2]; exact h.body, h.unlike, h.small, h.ok⟩
theorem But.drewN {g : Nat} {a w : World} (h : But g a w) (k : Nat) : But g a (w.drewN k) := ⟨h.os, h.tape, h.output, h.size, h.block⟩
theorem Below.drewN {B : Nat} {a w : World} (h : Below B a w) (k : Nat) : Below B a (w.drewN k) := ⟨h.os, h.tape, h.output, h.size, h.block⟩

theorem wv_set (ws : List Nat) (i x : Nat) : (wv ws).setIfInBounds i (.int .u64 (x : Int)) = wv (ws.set i x) := by
  apply Array.ext'
  simp [wv, List.map_set]

/-- A bit turned in memory. -/
theorem Bits.flip {w : World} {b g n : Nat} {ws : List Nat} (h : Bits w b g n ws) (i : Nat) (hi : i < n) :
    Bits (w.setCell ⟨g, i / 64, none⟩ (.int .u64 (((ws[i / 64]?.getD 0) ^^^ 2 ^ (i % 64) : Nat) : Int))) b g n (flip ws i) := by
  refine ⟨?_, ?_, h.unlike, h.small, h.ok.flip i hi⟩
  · rw [Below.heap_setCell _ _ _ _ h.unlike, flip_length]; exact h.head
  · rw [heap_setCell_same _ g (i / 64) _ _ _ h.body, wv_set]; rfl

theorem step_no {n : Nat} {on : Bool} {v : List Nat} {t : Nat} {x : Int} (h : hasB n x = false) : step n on (v, t) x = (v, t) := by
  unfold step
  rw [if_neg]
  rintro ⟨h0, h1, _⟩
  unfold hasB at h
  rw [decide_eq_true ⟨h0, h1⟩] at h
  cases h
theorem step_same {n : Nat} {on : Bool} {v : List Nat} {t i : Nat} (h : bit v i = on) : step n on (v, t) (i : Int) = (v, t) := by
  unfold step
  rw [if_neg]
  rintro ⟨_, _, h2⟩
  exact h2 (by simpa using h)
theorem step_turn {n : Nat} {on : Bool} {v : List Nat} {t i : Nat} (hi : i < n) (h : bit v i ≠ on) : step n on (v, t) (i : Int) = (flip v i, t + 1) := by
  unfold step
  rw [if_pos ⟨by omega, by omega, by simpa using h⟩]
  rfl

set_option maxHeartbeats 1000000 in
theorem set_any (b g n : Nat) (ws : List Nat) (on : Bool) (l : List Int) (a : Option Addr) (cap : Nat) (w : World) (hB : Bits w b g n ws) (hI : Src w g a l) (hl : l.length ≤ 1000000) :
    Calls Tryz.prog 67 #[.pointer (some ⟨b, 0, none⟩), .bool on, .slice a l.length cap] w fun e w' => e = .returned (.int .i64 ((setAll n on ws l).2 : Int)) ∧ Bits w' b g n (setAll n on ws l).1 ∧ But g w w' := by
  have HI := hid hI
  have HB := hid hB
  clear hI hB
  go_enter Tryz.func67, Tryz.ntmps67
  go_wp2
  go_loopw [7, 12] (fun t i wr => ∃ j : Nat, j ≤ l.length ∧ i = .int .i64 j ∧ t = .int .i64 ((setAll n on ws (l.take j)).2 : Int) ∧ Hid (Bits wr b g n (setAll n on ws (l.take j)).1) ∧ But g w wr) (fun _ i _ => l.length - (intOf i).toNat)
  case atStart => exact ⟨0, Nat.zero_le _, rfl, rfl, HB, But.refl _ _⟩
  case round =>
    obtain ⟨j, hj, rfl, rfl, hBr, hbut⟩ := hrel
    by_cases hlj : j < l.length
    · rcases HI.out with h | ⟨s, o, rfl, hsg, hs, hc⟩
      · omega
      have hcs : wr.cell? ⟨s, o + j, none⟩ = some (.int .i64 (l[j]?.getD 0)) := by
        rw [World.cell?_of_block (w := w) (hbut.block s hs hsg)]; exact hc j hlj
      have hsn : setAll n on ws (l.take (j + 1)) = step n on (setAll n on ws (l.take j)) (l[j]?.getD 0) := by
        rw [← setAll_snoc, List.take_succ_eq_append_getElem hlj, List.getElem?_eq_getElem hlj]; rfl
      have hle : (setAll n on ws (l.take j)).2 ≤ 1000000 := by
        have := setAll_le n on ws (l.take j)
        have := List.length_take_le j l
        omega
      generalize l[j]?.getD 0 = x at *
      generalize setAll n on ws (l.take j) = p at *
      obtain ⟨v, t⟩ := p
      simp only at hle hBr
      have HSN := hid hsn
      clear hsn hc HI HB
      have h0 := hBr.out.c0
      go_wp2_with fail
      refine (has_cell b n x _ h0).mono ?_
      rintro e w1 ⟨rfl, rfl⟩
      cases hh : hasB n x
      · have HH := hid hh
        clear hh
        go_wp2_with fail
        exact ⟨⟨j + 1, by omega, by go_num, by rw [HSN.out, step_no HH.out], by rw [HSN.out, step_no HH.out]; exact hBr, hbut⟩, by simp [intOf]; omega⟩
      · obtain ⟨i, rfl, hi⟩ : ∃ i : Nat, x = (i : Int) ∧ i < n := by
          have h := of_decide_eq_true hh
          exact ⟨x.toNat, by omega, by omega⟩
        clear hh
        go_wp2_with fail
        refine (get_in b g n v i _ hBr.out hi).mono ?_
        rintro e w2 ⟨rfl, k, rfl⟩
        by_cases hb : bit v i = on
        · have HH := hid hb
          have hne : (bit v i == on) = true := by rw [hb]; simp
          clear hb
          go_wp2_with fail
          exact ⟨⟨j + 1, by omega, by go_num, by rw [HSN.out, step_same HH.out], by rw [HSN.out, step_same HH.out]; exact hBr.out.same rfl, hbut.drewN k⟩, by simp [intOf]; omega⟩
        · have HH := hid hb
          have hne : (bit v i == on) = false := by simpa using hb
          clear hb
          have h1 := hBr.out.c1
          have h5 : i / 64 < v.length := by rw [hBr.out.ok.len]; omega
          have h2 := hBr.out.at (i / 64) h5
          have h3 := hBr.out.ok.word (i / 64)
          have h4 : v.length ≤ 16384 := by rw [hBr.out.ok.len]; have := hBr.out.small; omega
          have h6 := hBr.out.small
          have hfro := frozen_of_row _ g (i / 64) _ _ hBr.out.body
          have hnew := hid (hBr.out.flip i hi)
          have hst := hid (step_turn (t := t) hi HH.out)
          obtain ⟨x, hx⟩ : ∃ x, v[i / 64]?.getD 0 = x := ⟨_, rfl⟩
          rw [hx] at h2 h3 hnew
          obtain ⟨q, hq⟩ : ∃ q, q = i / 64 := ⟨_, rfl⟩
          obtain ⟨p, hp⟩ : ∃ p : Nat, p = 2 ^ (i % 64) := ⟨_, rfl⟩
          rw [← hq] at h2 h5 hfro hnew
          rw [← hp] at hnew
          have hxor : bits .xor .u64 (x : Int) (p : Int) = ((x ^^^ p : Nat) : Int) := by
            refine u64_xor_nat x p h3 ?_
            have hlt : 2 ^ (i % 64) < 2 ^ 64 := Nat.pow_lt_pow_right (by omega) (Nat.mod_lt _ (by omega))
            rw [hp]
            exact hlt
          obtain ⟨y, hy⟩ : ∃ y : Nat, y = x ^^^ p := ⟨_, rfl⟩
          rw [← hy] at hxor hnew
          have hq' : (i : Int) / 64 = (q : Int) := by omega
          have hlt : (q : Int) < (v.length : Int) := by omega
          have hqw := wrap_i (q : Int) (by omega) (by omega)
          have HP := hid hp
          clear hp hx hq hy hcs
          go_wp2_with fail
          go_region_with (go_at_call 124; refine (bitOf_p i p _ (by omega) HP.out).mono ?_; rintro e w4 ⟨rfl, rfl⟩)
          all_goals
            go_wp2
            exact ⟨⟨j + 1, by omega, by go_num, by rw [HSN.out, hst.out]; go_num, by rw [HSN.out, hst.out]; exact hnew.out.same rfl, (hbut.drewN _).drew.setCell (.inl rfl) _⟩, by simp [intOf]; omega⟩
    · obtain rfl : j = l.length := by omega
      rw [List.take_length] at hBr
      have e : (setAll n on ws (l.take l.length)).2 = (setAll n on ws l).2 := by rw [List.take_length]
      go_wp2
      go_ret
      exact ⟨ret_int (by rw [e]), hBr.out, hbut⟩
end Go.Proofs.YtdmnemgooagehaaGreatDoor

namespace Go.Proofs.YtdmnemgooagehaaGreatDoor
open Go.RowKit

theorem count_le {n : Nat} {ws : List Nat} (h : Okm n ws) (hn : n ≤ 1048576) : count ws ≤ 1048576 := by
  have := total_le ws ws.length
  unfold count
  rw [h.len] at this ⊢
  omega

theorem count_any (b g n : Nat) (ws : List Nat) (w : World) (hB : Bits w b g n ws) :
    Calls Tryz.prog 76 #[.pointer (some ⟨b, 0, none⟩)] w fun e w' => e = .returned (.int .i64 (count ws : Int)) ∧ w' = w := by
  have h1 := hB.c1
  have h4 : ws.length ≤ 16384 := by rw [hB.ok.len]; have := hB.small; omega
  have HB := hid hB
  clear hB
  go_enter Tryz.func76, Tryz.ntmps76
  go_wp2
  go_loop [3, 12] (fun t i => ∃ k : Nat, k ≤ ws.length ∧ i = .int .i64 k ∧ t = .int .i64 (total ws k : Int)) (fun _ i => ws.length - (intOf i).toNat)
  case atStart => exact ⟨0, Nat.zero_le _, rfl, rfl⟩
  case round =>
    obtain ⟨k, hk, rfl, rfl⟩ := hrel
    by_cases hlt : k < ws.length
    · have h2 := HB.out.at k hlt
      have h3 := HB.out.ok.word k
      have hs : total ws (k + 1) = total ws k + pop (ws[k]?.getD 0) := rfl
      have hp := pop_le (ws[k]?.getD 0)
      have ht := total_le ws k
      generalize ws[k]?.getD 0 = x at *
      generalize total ws k = tk at *
      have HS := hid hs
      clear hs
      go_wp2_with (go_at_call 118; refine (ones_any x _ h3).mono ?_; rintro e w' ⟨rfl, rfl⟩)
      go_round
      case rel => exact ⟨k + 1, by omega, by go_num, by rw [HS.out]; go_num⟩
      case measure => simp [intOf]; omega
    · obtain rfl : k = ws.length := by omega
      go_wp2
      go_ret
      exact ⟨rfl, rfl⟩

/-- r is the first bit from there on, and ahead of the end, that is so; -1 without. -/
def FirstSo (on : Bool) (ws : List Nat) (from_ end_ : Nat) (r : Int) : Prop :=
  (r = -1 ∧ ∀ j, from_ ≤ j → j < end_ → bit ws j ≠ on) ∨ ∃ k : Nat, r = (k : Int) ∧ from_ ≤ k ∧ k < end_ ∧ bit ws k = on ∧ ∀ j, from_ ≤ j → j < k → bit ws j ≠ on

/-- The word's bits that are so, from there on. -/
def Seen (on : Bool) (ws : List Nat) (from_ s v : Nat) : Prop := v < 18446744073709551616 ∧ ∀ j, j < 64 → v.testBit j = ((bit ws (64 * s + j) == on) && decide (from_ ≤ 64 * s + j))

theorem seen_first {n : Nat} (on : Bool) {ws : List Nat} (h : Okm n ws) (from_ : Nat) : Seen on ws from_ (from_ / 64) (so on (ws[from_ / 64]?.getD 0) &&& (18446744073709551616 - 2 ^ (from_ % 64))) := by
  have hw := h.word (from_ / 64)
  have hs := so_lt on _ hw
  refine ⟨Nat.lt_of_le_of_lt Nat.and_le_left hs, fun j hj => ?_⟩
  rw [mask_bit _ _ _ hs (by omega), so_bit on _ _ hw hj, bit_at ws _ j hj]
  congr 1
  rw [decide_eq_decide]
  omega
theorem seen_next {n : Nat} (on : Bool) {ws : List Nat} (h : Okm n ws) (from_ s : Nat) (hs : from_ ≤ 64 * s) : Seen on ws from_ s (so on (ws[s]?.getD 0)) := by
  have hw := h.word s
  refine ⟨so_lt on _ hw, fun j hj => ?_⟩
  rw [so_bit on _ _ hw hj, bit_at ws _ j hj, decide_eq_true (by omega), Bool.and_true]

def NoneSo (on : Bool) (ws : List Nat) (from_ end_ : Nat) : Prop := ∀ j, from_ ≤ j → j < end_ → bit ws j ≠ on

theorem seen_zero {on : Bool} {ws : List Nat} {from_ s : Nat} (hS : Seen on ws from_ s 0) (h : NoneSo on ws from_ (64 * s)) : NoneSo on ws from_ (64 * (s + 1)) := by
  intro j h1 h2
  by_cases hj : j < 64 * s
  · exact h j h1 hj
  · have := hS.2 (j - 64 * s) (by omega)
    rw [show 64 * s + (j - 64 * s) = j from by omega, decide_eq_true h1, Bool.and_true, Nat.zero_testBit] at this
    intro he
    rw [he] at this
    simp at this

theorem seen_some {on : Bool} {ws : List Nat} {from_ s v : Nat} (hS : Seen on ws from_ s v) (h : NoneSo on ws from_ (64 * s)) (h0 : v ≠ 0) :
    from_ ≤ 64 * s + Lib.ctz 64 v ∧ bit ws (64 * s + Lib.ctz 64 v) = on ∧ NoneSo on ws from_ (64 * s + Lib.ctz 64 v) := by
  obtain ⟨hc, ht, hn⟩ := ctz_spec v h0 hS.1
  generalize Lib.ctz 64 v = c at *
  have h1 := hS.2 c hc
  rw [ht] at h1
  have h2 := Bool.and_eq_true_iff.1 h1.symm
  refine ⟨of_decide_eq_true h2.2, by simpa using h2.1, fun j hj1 hj2 he => ?_⟩
  by_cases hj : j < 64 * s
  · exact h j hj1 hj he
  · have h3 := hS.2 (j - 64 * s) (by omega)
    rw [show 64 * s + (j - 64 * s) = j from by omega, hn _ (by omega), decide_eq_true hj1, Bool.and_true, he] at h3
    simp at h3

theorem ahead_none (b : Option Addr) (on : Bool) (from_ end_ : Int) (w : World) (h : end_ ≤ from_) :
    Calls Tryz.prog 126 #[.pointer b, .bool on, .int .i64 from_, .int .i64 end_] w fun e w' => e = .returned (.int .i64 (-1)) ∧ w' = w := by
  go_enter Tryz.func126, Tryz.ntmps126
  go_wp2
  go_ret
  exact ⟨rfl, rfl⟩

theorem wordSo_x (b g n : Nat) (ws : List Nat) (on : Bool) (i x : Nat) (z : Int) (w : World) (hB : Bits w b g n ws) (hi : i < ws.length) (hz : z = (i : Int)) (hx : x = so on (ws[i]?.getD 0)) :
    Calls Tryz.prog 146 #[.pointer (some ⟨b, 0, none⟩), .bool on, .int .i64 z] w fun e w' => e = .returned (.int .u64 (x : Int)) ∧ w' = w := by
  subst hz hx; exact wordSo_any b g n ws on i w hB hi

def AheadPost (on : Bool) (ws : List Nat) (from_ end_ : Nat) (w : World) (e : Ending) (w' : World) : Prop := ∃ r, e = .returned (.int .i64 r) ∧ FirstSo on ws from_ end_ r ∧ w' = w

set_option maxHeartbeats 4000000 in
theorem ahead_some (b g n : Nat) (ws : List Nat) (on : Bool) (from_ end_ : Nat) (w : World) (hB : Bits w b g n ws) (hT : Tab w) (h : from_ < end_) (he : end_ ≤ n) :
    Calls Tryz.prog 126 #[.pointer (some ⟨b, 0, none⟩), .bool on, .int .i64 (from_ : Int), .int .i64 (end_ : Int)] w (AheadPost on ws from_ end_ w) := by
  have hn := hB.small
  have hlen := hB.ok.len
  have HB := hid hB
  have HT := hid hT
  have HL := hid hlen
  obtain ⟨s, hs⟩ : ∃ s, s = from_ / 64 := ⟨_, rfl⟩
  obtain ⟨t, ht⟩ : ∃ t, t = (end_ + 63) / 64 := ⟨_, rfl⟩
  have hs' : (from_ : Int) / 64 = (s : Int) := by omega
  have ht' : ((end_ : Int) + 63) / 64 = (t : Int) := by omega
  have hst : s < t := by omega
  have htl : t ≤ ws.length := by omega
  have htm : t ≤ 16384 := by omega
  have HS := hid hs
  have HT' := hid ht
  clear hB hT hlen hs ht
  go_enter Tryz.func126, Tryz.ntmps126
  go_wp2_with (go_at_call 121; refine (wordsOf_any end_ _ (by omega) (by omega)).mono ?_; rintro e w' ⟨rfl, rfl⟩; rw [ht'])
  go_loop [22] (fun i => ∃ k : Nat, s + k ≤ t ∧ i = .int .i64 k ∧ (k = 0 ∨ Hid (NoneSo on ws from_ (64 * (s + k))))) (fun i => t - s - (intOf i).toNat)
  case atStart => exact ⟨0, by omega, rfl, .inl rfl⟩
  case round =>
    obtain ⟨k, hk, rfl, hnone⟩ := hrel
    by_cases hlt : s + k < t
    · obtain ⟨x, hx⟩ : ∃ x, x = so on (ws[s + k]?.getD 0) := ⟨_, rfl⟩
      have hx1 : x < 18446744073709551616 := by rw [hx]; exact so_lt on _ (HB.out.ok.word _)
      have HX := hid hx
      have hsi : s + k < ws.length := by omega
      have hN : Hid (NoneSo on ws from_ (64 * (s + k))) := by
        rcases hnone with rfl | h
        · intro j h1 h2
          have := HS.out
          omega
        · exact h
      clear hx hnone
      by_cases hk0 : k = 0
      · obtain ⟨p, hp⟩ : ∃ p : Nat, p = 2 ^ (from_ % 64) := ⟨_, rfl⟩
        have hp1 : 1 ≤ p := by rw [hp]; exact Nat.two_pow_pos _
        have hp2 : p < 18446744073709551616 := by
          have hlt : 2 ^ (from_ % 64) < 2 ^ 64 := Nat.pow_lt_pow_right (by omega) (Nat.mod_lt _ (by omega))
          rw [hp]; exact hlt
        obtain ⟨p1, hp3⟩ : ∃ p1, p1 = p - 1 := ⟨_, rfl⟩
        obtain ⟨m, hm⟩ : ∃ m, m = 18446744073709551616 - p := ⟨_, rfl⟩
        obtain ⟨v, hv⟩ : ∃ v, v = x &&& m := ⟨_, rfl⟩
        have hS : Hid (Seen on ws from_ (s + k) v) := by
          have h1 := seen_first on HB.out.ok from_
          rw [← HS.out] at h1
          have h2 := HX.out
          rw [hk0, Nat.add_zero] at h2 ⊢
          rw [hv, hm, hp, h2]
          exact h1
        have hsg : IntKind.u64.signed = false := rfl
        have hm1 : IntKind.u64.wrap ((p : Int) - 1) = (p1 : Int) := by rw [IntKind.wrap_u64]; omega
        have hm2 : bits .xor .u64 IntKind.u64.max (p1 : Int) = (m : Int) := by
          rw [show IntKind.u64.max = ((18446744073709551615 : Nat) : Int) from by decide, u64_xor_nat _ _ (by omega) (by omega), xor_ones p1 (by omega)]
          omega
        have hm3 : bits .and .u64 (x : Int) (m : Int) = (v : Int) := by
          rw [u64_and_nat _ _ hx1 (by omega), hv]
        have hk1 : ((k : Int) == 0) = true := by rw [hk0]; rfl
        have HP := hid hp
        have hv1 := hS.out.1
        clear hp hp3 hm hv hk0
        by_cases hv0 : v = 0
        · have hv2 : ((v : Int) == 0) = true := by rw [hv0]; rfl
          have HZ : Hid (NoneSo on ws from_ (64 * (s + (k + 1)))) := by rw [hv0] at hS; exact seen_zero hS.out hN.out
          clear hv0
          go_wp2_with (first | (go_at_call 146; refine (wordSo_x b g n ws on (s + k) x _ _ HB.out hsi (by omega) HX.out).mono ?_; rintro e w' ⟨rfl, rfl⟩) | (go_at_call 124; refine (bitOf_p from_ p _ (by omega) HP.out).mono ?_; rintro e w' ⟨rfl, rfl⟩))
          go_round
          case rel => exact ⟨k + 1, by omega, by go_num, .inr HZ⟩
          case measure => simp [intOf]; omega
        · have hv2 : ((v : Int) == 0) = false := by simpa using hv0
          have hz := hid (seen_some hS.out hN.out hv0)
          have hc := (ctz_spec v hv0 hv1).1
          have HV := hid hv0
          clear hv0
          by_cases hat : 64 * (s + k) + Lib.ctz 64 v < end_
          all_goals
            go_wp2_with (first | (go_at_call 146; refine (wordSo_x b g n ws on (s + k) x _ _ HB.out hsi (by omega) HX.out).mono ?_; rintro e w' ⟨rfl, rfl⟩) | (go_at_call 124; refine (bitOf_p from_ p _ (by omega) HP.out).mono ?_; rintro e w' ⟨rfl, rfl⟩) | (go_at_call 120; refine (tz_any v _ HV.out hv1 HT.out).mono ?_; rintro e w' ⟨rfl, rfl⟩; generalize Lib.ctz 64 v = c at *))
            go_ret
          · exact ⟨_, rfl, .inr ⟨64 * (s + k) + c, by omega, hz.out.1, by omega, hz.out.2.1, hz.out.2.2⟩, rfl⟩
          · exact ⟨_, rfl, .inl ⟨rfl, fun j h1 h2 => hz.out.2.2 j h1 (by omega)⟩, rfl⟩
      · have hS : Hid (Seen on ws from_ (s + k) x) := by
          have h1 := seen_next on HB.out.ok from_ (s + k) (by have := HS.out; omega)
          rw [HX.out]; exact h1
        have hk1 : ((k : Int) == 0) = false := by simpa using hk0
        clear hk0
        by_cases hv0 : x = 0
        · have hv2 : ((x : Int) == 0) = true := by rw [hv0]; rfl
          have HZ : Hid (NoneSo on ws from_ (64 * (s + (k + 1)))) := by rw [hv0] at hS; exact seen_zero hS.out hN.out
          clear hv0
          go_wp2_with (go_at_call 146; refine (wordSo_x b g n ws on (s + k) x _ _ HB.out hsi (by omega) HX.out).mono ?_; rintro e w' ⟨rfl, rfl⟩)
          go_round
          case rel => exact ⟨k + 1, by omega, by go_num, .inr HZ⟩
          case measure => simp [intOf]; omega
        · have hv2 : ((x : Int) == 0) = false := by simpa using hv0
          have hz := hid (seen_some hS.out hN.out hv0)
          have hc := (ctz_spec x hv0 hx1).1
          have HV := hid hv0
          clear hv0
          by_cases hat : 64 * (s + k) + Lib.ctz 64 x < end_
          all_goals
            go_wp2_with (first | (go_at_call 146; refine (wordSo_x b g n ws on (s + k) x _ _ HB.out hsi (by omega) HX.out).mono ?_; rintro e w' ⟨rfl, rfl⟩) | (go_at_call 120; refine (tz_any x _ HV.out hx1 HT.out).mono ?_; rintro e w' ⟨rfl, rfl⟩; generalize Lib.ctz 64 x = c at *))
            go_ret
          · exact ⟨_, rfl, .inr ⟨64 * (s + k) + c, by omega, hz.out.1, by omega, hz.out.2.1, hz.out.2.2⟩, rfl⟩
          · exact ⟨_, rfl, .inl ⟨rfl, fun j h1 h2 => hz.out.2.2 j h1 (by omega)⟩, rfl⟩
    · rcases hnone with rfl | hnone
      · omega
      go_wp2
      go_ret
      refine ⟨-1, rfl, .inl ⟨rfl, fun j h1 h2 => hnone.out j h1 ?_⟩, rfl⟩
      have := HT'.out
      omega
end Go.Proofs.YtdmnemgooagehaaGreatDoor

namespace Go.Proofs.YtdmnemgooagehaaGreatDoor
open Go.RowKit

theorem ahead_any (b g n : Nat) (ws : List Nat) (on : Bool) (from_ end_ : Nat) (w : World) (hB : Bits w b g n ws) (hT : Tab w) (he : end_ ≤ n) :
    Calls Tryz.prog 126 #[.pointer (some ⟨b, 0, none⟩), .bool on, .int .i64 (from_ : Int), .int .i64 (end_ : Int)] w (AheadPost on ws from_ end_ w) := by
  by_cases h : from_ < end_
  · exact ahead_some b g n ws on from_ end_ w hB hT h he
  · refine (ahead_none _ on from_ end_ w (by omega)).mono ?_
    rintro e w' ⟨rfl, rfl⟩
    exact ⟨-1, rfl, .inl ⟨rfl, fun j h1 h2 => by omega⟩, rfl⟩

theorem first_any (b g n : Nat) (ws : List Nat) (on : Bool) (from_ : Nat) (w : World) (hB : Bits w b g n ws) (hT : Tab w) (hf : from_ < 4611686018427387904) :
    Calls Tryz.prog 70 #[.pointer (some ⟨b, 0, none⟩), .bool on, .int .i64 (from_ : Int)] w (AheadPost on ws from_ n w) := by
  have h0 := hB.c0
  have HB := hid hB
  have HT := hid hT
  clear hB hT
  go_enter Tryz.func70, Tryz.ntmps70
  go_wp2_with fail
  refine (len_cell b n _ h0).mono ?_
  rintro e w1 ⟨rfl, rfl⟩
  go_wp2_with fail
  refine (ahead_any b g n ws on from_ n _ HB.out HT.out (Nat.le_refl _)).mono ?_
  rintro e w2 ⟨r, rfl, hr, rfl⟩
  have HR := hid hr
  clear hr
  go_wp2_with fail
  go_ret
  exact ⟨r, rfl, HR.out, rfl⟩

end Go.Proofs.YtdmnemgooagehaaGreatDoor

namespace Go.Proofs.YtdmnemgooagehaaGreatDoor

abbrev Kind := Option (Option Bool)
abbrev Kind.no : Kind := none
abbrev Kind.free : Kind := some none
abbrev Kind.used : Kind := some (some true)
abbrev Kind.held : Kind := some (some false)
theorem Kind.each (x : Kind) : x = .no ∨ x = .free ∨ x = .used ∨ x = .held := by
  rcases x with _ | _ | _ | _
  · exact .inl rfl
  · exact .inr (.inl rfl)
  · exact .inr (.inr (.inr rfl))
  · exact .inr (.inr (.inl rfl))
abbrev St := Nat → Nat → Kind
def upd (B : St) (k i : Nat) (x : Kind) : St := fun k' i' => if k' = k ∧ i' = i then x else B k' i'
theorem upd_same (B : St) (k i : Nat) (x : Kind) : upd B k i x k i = x := by simp [upd]
theorem upd_ne (B : St) {k i k' i' : Nat} (x : Kind) (h : ¬ (k' = k ∧ i' = i)) : upd B k i x k' i' = B k' i' := by simp [upd, h]

/-- The other one of a pair. -/
def bud (i : Nat) : Nat := if i % 2 = 0 then i + 1 else i - 1
theorem bud_half (i : Nat) : bud i / 2 = i / 2 := by unfold bud; split <;> omega
theorem bud_ne (i : Nat) : bud i ≠ i := by unfold bud; split <;> omega
theorem bud_or {i j : Nat} (h : i / 2 = j / 2) : i = j ∨ i = bud j := by unfold bud; split <;> omega
theorem bud_bud (i : Nat) : bud (bud i) = i := by unfold bud; split <;> split <;> omega

theorem half_div (p k : Nat) : p / 2 ^ (k + 1) = p / 2 ^ k / 2 := by rw [Nat.pow_succ, Nat.div_div_eq_div_mul]

/-- The blocks of a whole of the order K: each page lies in just one, and no two buddies are both free. -/
structure Inv (K : Nat) (B : St) : Prop where
  inn : ∀ k i, B k i ≠ .no → k ≤ K ∧ i < 2 ^ (K - k)
  all : ∀ p, p < 2 ^ K → ∃ k, B k (p / 2 ^ k) ≠ .no
  one : ∀ p k k', B k (p / 2 ^ k) ≠ .no → B k' (p / 2 ^ k') ≠ .no → k = k'
  nb : ∀ k i, B k i = .free → B k (bud i) = .free → False

def begin_ (K : Nat) : St := fun k i => if k = K ∧ i = 0 then .free else .no
theorem begin_inv (K : Nat) : Inv K (begin_ K) where
  inn k i h := by
    unfold begin_ at h
    split at h
    · rename_i h1; obtain ⟨rfl, rfl⟩ := h1; simp
    · exact absurd rfl h
  all p hp := ⟨K, by unfold begin_; rw [if_pos ⟨rfl, Nat.div_eq_of_lt hp⟩]; simp⟩
  one p k k' h h' := by
    unfold begin_ at h h'
    split at h
    · split at h'
      · omega
      · exact absurd rfl h'
    · exact absurd rfl h
  nb k i h h' := by
    unfold begin_ at h h'
    split at h
    · split at h'
      · have := bud_ne i; omega
      · cases h'
    · cases h

/-- A block's pages are its own. -/
theorem Inv.at_ {K : Nat} {B : St} (h : Inv K B) {k i k' p : Nat} (hb : B k i ≠ .no) (hp : p / 2 ^ k = i) (hb' : B k' (p / 2 ^ k') ≠ .no) : k' = k := by
  subst hp; exact h.one p k' k hb' hb

/-- A kind turned into another one. -/
theorem Inv.retype {K : Nat} {B : St} (h : Inv K B) {k i : Nat} (hb : B k i ≠ .no) {x : Kind} (hx : x ≠ .no) (hn : x = .free → B k (bud i) ≠ .free) : Inv K (upd B k i x) := by
  have e : ∀ k' i', upd B k i x k' i' ≠ .no ↔ B k' i' ≠ .no := by
    intro k' i'
    by_cases hc : k' = k ∧ i' = i
    · obtain ⟨rfl, rfl⟩ := hc
      rw [upd_same]; exact ⟨fun _ => hb, fun _ => hx⟩
    · rw [upd_ne B x hc]
  refine ⟨fun k' i' h' => h.inn k' i' ((e _ _).1 h'), fun p hp => ?_, fun p k1 k2 h1 h2 => h.one p k1 k2 ((e _ _).1 h1) ((e _ _).1 h2), fun k' i' h1 h2 => ?_⟩
  · obtain ⟨k', hk⟩ := h.all p hp
    exact ⟨k', (e _ _).2 hk⟩
  · by_cases hc : k' = k ∧ i' = i
    · obtain ⟨rfl, rfl⟩ := hc
      rw [upd_same] at h1
      rw [upd_ne B x (by have := bud_ne i'; omega)] at h2
      exact hn h1 h2
    · by_cases hd : k' = k ∧ bud i' = i
      · obtain ⟨rfl, rfl⟩ := hd
        rw [upd_same] at h2
        rw [upd_ne B x hc] at h1
        rw [bud_bud] at hn
        exact hn h2 h1
      · rw [upd_ne B x hc] at h1
        rw [upd_ne B x hd] at h2
        exact h.nb k' i' h1 h2

def HeldAt (B : St) (k i : Nat) : Prop := ∀ k' i', B k' i' = .held ↔ k' = k ∧ i' = i
def NoHeld (B : St) : Prop := ∀ k i, B k i ≠ .held
def SameUsed (B B' : St) : Prop := ∀ k i, B k i = .used ↔ B' k i = .used
theorem SameUsed.refl (B : St) : SameUsed B B := fun _ _ => Iff.rfl
theorem SameUsed.trans {A B C : St} (h : SameUsed A B) (h' : SameUsed B C) : SameUsed A C := fun k i => (h k i).trans (h' k i)
theorem SameUsed.symm {A B : St} (h : SameUsed A B) : SameUsed B A := fun k i => (h k i).symm

/-- A block that is split: the lower half goes on, the upper half is free. -/
theorem split_step {K : Nat} {B : St} (h : Inv K B) {k i : Nat} (hh : HeldAt B (k + 1) i) :
    ∃ B', Inv K B' ∧ HeldAt B' k (2 * i) ∧ SameUsed B B' ∧ ∀ k' j, B' k' j = .free ↔ (B k' j = .free ∨ k' = k ∧ j = 2 * i + 1) := by
  have hb : B (k + 1) i = .held := (hh _ _).2 ⟨rfl, rfl⟩
  have hbn : B (k + 1) i ≠ .no := by rw [hb]; simp
  have hin := h.inn _ _ hbn
  -- what B has of the two halves: nothing
  have hno : ∀ j, j / 2 = i → B k j = .no := by
    intro j hj
    apply Decidable.byContradiction
    intro hne
    have := h.one (j * 2 ^ k) (k + 1) k (by rw [half_div, Nat.mul_div_cancel _ (Nat.two_pow_pos _), hj]; exact hbn) (by rw [Nat.mul_div_cancel _ (Nat.two_pow_pos _)]; exact hne)
    omega
  let B' : St := fun k' j => if k' = k + 1 ∧ j = i then .no else if k' = k ∧ j = 2 * i then .held else if k' = k ∧ j = 2 * i + 1 then .free else B k' j
  have eB : ∀ k' j, B' k' j = if k' = k + 1 ∧ j = i then .no else if k' = k ∧ j = 2 * i then .held else if k' = k ∧ j = 2 * i + 1 then .free else B k' j := fun _ _ => rfl
  clear_value B'
  -- who owns a page
  have own : ∀ p k', B' k' (p / 2 ^ k') ≠ .no ↔ if p / 2 ^ (k + 1) = i then k' = k else B k' (p / 2 ^ k') ≠ .no := by
    intro p k'
    have hd := half_div p k
    rw [eB]
    by_cases hp : p / 2 ^ (k + 1) = i
    · rw [if_pos hp]
      by_cases h1 : k' = k
      · subst h1
        rw [if_neg (by omega)]
        by_cases h2 : p / 2 ^ k' = 2 * i
        · simp [h2]
        · rw [if_neg (by omega), if_pos ⟨rfl, by omega⟩]; simp
      · by_cases h2 : k' = k + 1
        · subst h2; simp [hp]
        · rw [if_neg (by omega), if_neg (by omega), if_neg (by omega)]
          constructor
          · intro hne; exact absurd (h.at_ hbn hp hne) h2
          · intro hk; exact absurd hk h1
    · rw [if_neg hp]
      by_cases h1 : k' = k
      · subst h1
        rw [if_neg (by omega), if_neg (by omega), if_neg (by omega)]
      · by_cases h2 : k' = k + 1
        · subst h2
          rw [if_neg (by omega), if_neg (by omega), if_neg (by omega)]
        · rw [if_neg (by omega), if_neg (by omega), if_neg (by omega)]
  refine ⟨B', ⟨fun k' j hn => ?_, fun p hp => ?_, fun p k1 k2 h1 h2 => ?_, fun k' j h1 h2 => ?_⟩, fun k' j => ?_, fun k' j => ?_, fun k' j => ?_⟩
  · rw [eB] at hn
    have hpw : 2 ^ (K - k) = 2 ^ (K - (k + 1)) * 2 := by rw [← Nat.pow_succ]; congr 1; omega
    split at hn
    · exact absurd rfl hn
    · split at hn
      · rename_i hc; obtain ⟨rfl, rfl⟩ := hc; omega
      · split at hn
        · rename_i hc; obtain ⟨rfl, rfl⟩ := hc; omega
        · exact h.inn k' j hn
  · by_cases hc : p / 2 ^ (k + 1) = i
    · exact ⟨k, (own p k).2 (by rw [if_pos hc])⟩
    · obtain ⟨k', hk⟩ := h.all p hp
      exact ⟨k', (own p k').2 (by rw [if_neg hc]; exact hk)⟩
  · have e1 := (own p k1).1 h1
    have e2 := (own p k2).1 h2
    by_cases hc : p / 2 ^ (k + 1) = i
    · rw [if_pos hc] at e1 e2; omega
    · rw [if_neg hc] at e1 e2; exact h.one p k1 k2 e1 e2
  · have hbd := bud_half j
    rw [eB] at h1 h2
    split at h1
    · cases h1
    · split at h1
      · cases h1
      · split at h1
        · rename_i hc; obtain ⟨rfl, rfl⟩ := hc
          rw [if_neg (by omega), if_pos ⟨rfl, by unfold bud; split <;> omega⟩] at h2
          cases h2
        · split at h2
          · cases h2
          · split at h2
            · cases h2
            · split at h2
              · rename_i hc1 hc2 hc3 hc4 hc5 hc6
                obtain ⟨rfl, e⟩ := hc6
                exact absurd h1 (by rw [hno j (by omega)]; simp)
              · exact h.nb k' j h1 h2
  · rw [eB]
    split
    · constructor
      · intro h; cases h
      · rintro ⟨rfl, rfl⟩; omega
    · split
      · simp_all
      · split
        · simp_all
        · rename_i h1 h2 h3
          constructor
          · intro hl; exact absurd ((hh _ _).1 hl) h1
          · intro hl; exact absurd hl h2
  · rw [eB]
    split
    · rename_i hc; obtain ⟨rfl, rfl⟩ := hc; rw [hb]; simp
    · split
      · rename_i hc; obtain ⟨rfl, rfl⟩ := hc; rw [hno _ (by omega)]; simp
      · split
        · rename_i hc; obtain ⟨rfl, rfl⟩ := hc; rw [hno _ (by omega)]; simp
        · rfl
  · rw [eB]
    split
    · rename_i hc; obtain ⟨rfl, rfl⟩ := hc; rw [hb]; simp
    · split
      · rename_i hc; obtain ⟨rfl, rfl⟩ := hc; rw [hno _ (by omega)]; simp
      · split
        · rename_i hc; simp [hc]
        · rename_i h1 h2 h3; simp [h3]

/-- Two buddies that become one. -/
theorem join_step {K : Nat} {B : St} (h : Inv K B) {k i : Nat} (hh : HeldAt B k i) (hf : B k (bud i) = .free) :
    ∃ B', Inv K B' ∧ HeldAt B' (k + 1) (i / 2) ∧ SameUsed B B' ∧ ∀ k' j, B' k' j = .free ↔ (B k' j = .free ∧ ¬ (k' = k ∧ j = bud i)) := by
  have hb : B k i = .held := (hh _ _).2 ⟨rfl, rfl⟩
  have hbn : B k i ≠ .no := by rw [hb]; simp
  have hfn : B k (bud i) ≠ .no := by rw [hf]; simp
  have hin := h.inn _ _ hbn
  have hin2 := h.inn _ _ hfn
  have hbd := bud_half i
  have hbne := bud_ne i
  have hpw : 2 ^ (K - k) = 2 ^ (K - (k + 1)) * 2 ∧ k + 1 ≤ K := by
    by_cases hk : k = K
    · rw [hk, Nat.sub_self] at hin hin2; simp at hin hin2; omega
    · refine ⟨?_, by omega⟩
      rw [← Nat.pow_succ]; congr 1; omega
  have hno : B (k + 1) (i / 2) = .no := by
    apply Decidable.byContradiction
    intro hne
    have := h.one (i * 2 ^ k) k (k + 1) (by rw [Nat.mul_div_cancel _ (Nat.two_pow_pos _)]; exact hbn) (by rw [half_div, Nat.mul_div_cancel _ (Nat.two_pow_pos _)]; exact hne)
    omega
  let B' : St := fun k' j => if k' = k ∧ j / 2 = i / 2 then .no else if k' = k + 1 ∧ j = i / 2 then .held else B k' j
  have eB : ∀ k' j, B' k' j = if k' = k ∧ j / 2 = i / 2 then .no else if k' = k + 1 ∧ j = i / 2 then .held else B k' j := fun _ _ => rfl
  clear_value B'
  have pair : ∀ j, j / 2 = i / 2 → B k j ≠ .no := by
    intro j hj
    rcases bud_or hj with rfl | rfl
    · exact hbn
    · exact hfn
  have own : ∀ p k', B' k' (p / 2 ^ k') ≠ .no ↔ if p / 2 ^ (k + 1) = i / 2 then k' = k + 1 else B k' (p / 2 ^ k') ≠ .no := by
    intro p k'
    have hd := half_div p k
    rw [eB]
    by_cases hp : p / 2 ^ (k + 1) = i / 2
    · rw [if_pos hp]
      by_cases h1 : k' = k
      · subst h1
        rw [if_pos ⟨rfl, by omega⟩]; simp
      · by_cases h2 : k' = k + 1
        · subst h2; simp [hp]
        · rw [if_neg (by omega), if_neg (by omega)]
          constructor
          · intro hne; exact absurd (h.at_ (pair (p / 2 ^ k) (by omega)) rfl hne) h1
          · intro hk; exact absurd hk h2
    · rw [if_neg hp]
      by_cases h1 : k' = k
      · subst h1
        rw [if_neg (by omega), if_neg (by omega)]
      · by_cases h2 : k' = k + 1
        · subst h2
          rw [if_neg (by omega), if_neg (by omega)]
        · rw [if_neg (by omega), if_neg (by omega)]
  refine ⟨B', ⟨fun k' j hn => ?_, fun p hp => ?_, fun p k1 k2 h1 h2 => ?_, fun k' j h1 h2 => ?_⟩, fun k' j => ?_, fun k' j => ?_, fun k' j => ?_⟩
  · rw [eB] at hn
    split at hn
    · exact absurd rfl hn
    · split at hn
      · rename_i hc; obtain ⟨rfl, rfl⟩ := hc; omega
      · exact h.inn k' j hn
  · by_cases hc : p / 2 ^ (k + 1) = i / 2
    · exact ⟨k + 1, (own p (k + 1)).2 (by rw [if_pos hc])⟩
    · obtain ⟨k', hk⟩ := h.all p hp
      exact ⟨k', (own p k').2 (by rw [if_neg hc]; exact hk)⟩
  · have e1 := (own p k1).1 h1
    have e2 := (own p k2).1 h2
    by_cases hc : p / 2 ^ (k + 1) = i / 2
    · rw [if_pos hc] at e1 e2; omega
    · rw [if_neg hc] at e1 e2; exact h.one p k1 k2 e1 e2
  · rw [eB] at h1 h2
    split at h1
    · cases h1
    · split at h1
      · cases h1
      · split at h2
        · cases h2
        · split at h2
          · cases h2
          · exact h.nb k' j h1 h2
  · rw [eB]
    split
    · rename_i hc
      constructor
      · intro h; cases h
      · rintro ⟨rfl, rfl⟩; omega
    · split
      · simp_all
      · rename_i h1 h2
        constructor
        · intro hl
          obtain ⟨rfl, rfl⟩ := (hh _ _).1 hl
          exact absurd ⟨rfl, rfl⟩ h1
        · intro hl; exact absurd hl h2
  · rw [eB]
    split
    · rename_i hc
      obtain ⟨rfl, hc⟩ := hc
      rcases bud_or hc with rfl | rfl
      · rw [hb]; simp
      · rw [hf]; simp
    · split
      · rename_i hc; obtain ⟨rfl, rfl⟩ := hc; rw [hno]; simp
      · rfl
  · rw [eB]
    split
    · rename_i hc
      obtain ⟨rfl, hc⟩ := hc
      rcases bud_or hc with rfl | rfl
      · rw [hb]; simp
      · simp
    · split
      · rename_i hc; obtain ⟨rfl, rfl⟩ := hc; rw [hno]; simp
      · rename_i h1 h2
        constructor
        · intro hl
          refine ⟨hl, ?_⟩
          rintro ⟨rfl, rfl⟩
          exact h1 ⟨rfl, hbd⟩
        · exact fun hl => hl.1

/-- A free block is taken up. -/
theorem lift_step {K : Nat} {B : St} (h : Inv K B) (hn : NoHeld B) {k i : Nat} (hf : B k i = .free) :
    ∃ B', Inv K B' ∧ HeldAt B' k i ∧ SameUsed B B' ∧ ∀ k' j, B' k' j = .free ↔ (B k' j = .free ∧ ¬ (k' = k ∧ j = i)) := by
  refine ⟨upd B k i .held, h.retype (by rw [hf]; simp) (by simp) (fun e => by cases e), fun k' j => ?_, fun k' j => ?_, fun k' j => ?_⟩
  all_goals
    by_cases hc : k' = k ∧ j = i
    · obtain ⟨rfl, rfl⟩ := hc
      simp [upd_same, hf]
    · simp [upd_ne B _ hc, hc, hn k' j]
/-- A used block is taken up. -/
theorem pick_step {K : Nat} {B : St} (h : Inv K B) (hn : NoHeld B) {k i : Nat} (hf : B k i = .used) :
    ∃ B', Inv K B' ∧ HeldAt B' k i ∧ (∀ k' j, B' k' j = .used ↔ (B k' j = .used ∧ ¬ (k' = k ∧ j = i))) ∧ ∀ k' j, B' k' j = .free ↔ B k' j = .free := by
  refine ⟨upd B k i .held, h.retype (by rw [hf]; simp) (by simp) (fun e => by cases e), fun k' j => ?_, fun k' j => ?_, fun k' j => ?_⟩
  all_goals
    by_cases hc : k' = k ∧ j = i
    · obtain ⟨rfl, rfl⟩ := hc
      simp [upd_same, hf]
    · simp [upd_ne B _ hc, hc, hn k' j]
/-- What was taken up is used. -/
theorem use_step {K : Nat} {B : St} (h : Inv K B) {k i : Nat} (hh : HeldAt B k i) :
    ∃ B', Inv K B' ∧ NoHeld B' ∧ (∀ k' j, B' k' j = .used ↔ (B k' j = .used ∨ k' = k ∧ j = i)) ∧ ∀ k' j, B' k' j = .free ↔ B k' j = .free := by
  have hb : B k i = .held := (hh _ _).2 ⟨rfl, rfl⟩
  refine ⟨upd B k i .used, h.retype (by rw [hb]; simp) (by simp) (fun e => by cases e), fun k' j => ?_, fun k' j => ?_, fun k' j => ?_⟩
  all_goals
    by_cases hc : k' = k ∧ j = i
    · obtain ⟨rfl, rfl⟩ := hc
      simp [upd_same, hb]
    · simp [upd_ne B _ hc, hc, hh k' j]
/-- What was taken up is free, if its buddy isn't. -/
theorem free_step {K : Nat} {B : St} (h : Inv K B) {k i : Nat} (hh : HeldAt B k i) (hf : B k (bud i) ≠ .free) :
    ∃ B', Inv K B' ∧ NoHeld B' ∧ SameUsed B B' ∧ ∀ k' j, B' k' j = .free ↔ (B k' j = .free ∨ k' = k ∧ j = i) := by
  have hb : B k i = .held := (hh _ _).2 ⟨rfl, rfl⟩
  refine ⟨upd B k i .free, h.retype (by rw [hb]; simp) (by simp) (fun _ => hf), fun k' j => ?_, fun k' j => ?_, fun k' j => ?_⟩
  all_goals
    by_cases hc : k' = k ∧ j = i
    · obtain ⟨rfl, rfl⟩ := hc
      simp [upd_same, hb]
    · simp [upd_ne B _ hc, hc, hh k' j]

/-- Where nothing is used, one free block covers it. -/
theorem covered {K : Nat} {B : St} (h : Inv K B) (hn : NoHeld B) : ∀ (k i : Nat), k ≤ K → i < 2 ^ (K - k) → (∀ k' p, p / 2 ^ k = i → B k' (p / 2 ^ k') ≠ .used) → ∃ k', k ≤ k' ∧ B k' (i * 2 ^ k / 2 ^ k') = .free := by
  intro k
  induction k with
  | zero =>
    intro i _ hi hu
    obtain ⟨k', hk⟩ := h.all (i * 2 ^ 0) (by simpa using hi)
    refine ⟨k', Nat.zero_le _, ?_⟩
    have h1 := hu k' (i * 2 ^ 0) (by simp)
    have h2 := hn k' (i * 2 ^ 0 / 2 ^ k')
    revert hk h1 h2
    rcases Kind.each (B k' (i * 2 ^ 0 / 2 ^ k')) with e | e | e | e <;> rw [e] <;> simp
  | succ k ih =>
    intro i hk hi hu
    have hpw : 2 ^ (K - k) = 2 ^ (K - (k + 1)) * 2 := by rw [← Nat.pow_succ]; congr 1; omega
    have hsub : ∀ j, j / 2 = i → ∃ k', k ≤ k' ∧ B k' (j * 2 ^ k / 2 ^ k') = .free := by
      intro j hj
      refine ih j (by omega) (by omega) (fun k' p hp => hu k' p ?_)
      rw [half_div, hp]; exact hj
    have up : ∀ j k', j / 2 = i → k + 1 ≤ k' → j * 2 ^ k / 2 ^ k' = i * 2 ^ (k + 1) / 2 ^ k' := by
      intro j k' hj hk'
      obtain ⟨d, rfl⟩ := Nat.exists_eq_add_of_le hk'
      rw [Nat.pow_add, ← Nat.div_div_eq_div_mul, ← Nat.div_div_eq_div_mul, Nat.mul_div_cancel _ (Nat.two_pow_pos _), half_div, Nat.mul_div_cancel _ (Nat.two_pow_pos _), hj]
    obtain ⟨k1, h1, f1⟩ := hsub (2 * i) (by omega)
    obtain ⟨k2, h2, f2⟩ := hsub (2 * i + 1) (by omega)
    by_cases e1 : k + 1 ≤ k1
    · exact ⟨k1, e1, by rw [← up (2 * i) k1 (by omega) e1]; exact f1⟩
    · by_cases e2 : k + 1 ≤ k2
      · exact ⟨k2, e2, by rw [← up (2 * i + 1) k2 (by omega) e2]; exact f2⟩
      · obtain rfl : k1 = k := by omega
        obtain rfl : k2 = k1 := by omega
        rw [Nat.mul_div_cancel _ (Nat.two_pow_pos _)] at f1 f2
        exact absurd f2 (fun f2 => h.nb k2 (2 * i) f1 (by rw [show bud (2 * i) = 2 * i + 1 from by unfold bud; split <;> omega]; exact f2))

/-- What is free is told by what is used. -/
theorem free_of_used {K : Nat} {A B : St} (hA : Inv K A) (nA : NoHeld A) (hB : Inv K B) (nB : NoHeld B) (hu : SameUsed A B) (k i : Nat) : A k i = .free → B k i = .free := by
  intro hf
  have hfn : A k i ≠ .no := by rw [hf]; simp
  obtain ⟨hk, hi⟩ := hA.inn k i hfn
  have notU : ∀ {X Y : St}, Inv K X → SameUsed X Y → ∀ {k0 i0 : Nat}, X k0 i0 = .free → ∀ k' p, p / 2 ^ k0 = i0 → Y k' (p / 2 ^ k') ≠ .used := by
    intro X Y hX hXY k0 i0 h0 k' p hp hy
    have hx := (hXY _ _).2 hy
    have e := hX.at_ (k := k0) (i := i0) (by rw [h0]; simp) hp (by rw [hx]; simp)
    subst e
    rw [hp, h0] at hx
    cases hx
  obtain ⟨k1, h1, f1⟩ := covered hB nB k i hk hi (notU hA hu hf)
  obtain ⟨hk1, hi1⟩ := hB.inn _ _ (by rw [f1]; simp : B k1 (i * 2 ^ k / 2 ^ k1) ≠ .no)
  obtain ⟨k2, h2, f2⟩ := covered hA nA k1 (i * 2 ^ k / 2 ^ k1) hk1 hi1 (notU hB hu.symm f1)
  have e : i * 2 ^ k / 2 ^ k1 * 2 ^ k1 / 2 ^ k2 = i * 2 ^ k / 2 ^ k2 := by
    obtain ⟨d, rfl⟩ := Nat.exists_eq_add_of_le h2
    rw [Nat.pow_add, ← Nat.div_div_eq_div_mul, ← Nat.div_div_eq_div_mul, Nat.mul_div_cancel _ (Nat.two_pow_pos _)]
  rw [e] at f2
  have e2 := hA.at_ hfn (Nat.mul_div_cancel i (Nat.two_pow_pos k)) (by rw [f2]; simp : A k2 (i * 2 ^ k / 2 ^ k2) ≠ .no)
  obtain rfl : k1 = k := by omega
  rw [Nat.mul_div_cancel _ (Nat.two_pow_pos _)] at f1
  exact f1
theorem free_iff {K : Nat} {A B : St} (hA : Inv K A) (nA : NoHeld A) (hB : Inv K B) (nB : NoHeld B) (hu : SameUsed A B) (k i : Nat) : A k i = .free ↔ B k i = .free :=
  ⟨free_of_used hA nA hB nB hu k i, free_of_used hB nB hA nA hu.symm k i⟩
theorem whole_free {K : Nat} {B : St} (h : Inv K B) (hn : NoHeld B) (hu : ∀ k i, B k i ≠ .used) : ∀ k i, B k i = .free ↔ k = K ∧ i = 0 := by
  obtain ⟨k1, h1, f1⟩ := covered h hn K 0 (Nat.le_refl _) (Nat.two_pow_pos _) (fun k' p _ => hu _ _)
  obtain ⟨h2, _⟩ := h.inn _ _ (by rw [f1]; simp : B k1 (0 * 2 ^ K / 2 ^ k1) ≠ .no)
  obtain rfl : k1 = K := by omega
  rw [Nat.mul_div_cancel _ (Nat.two_pow_pos _)] at f1
  intro k i
  constructor
  · intro hf
    obtain ⟨hk, hi⟩ := h.inn k i (by rw [hf]; simp)
    have hpp : i * 2 ^ k < 2 ^ k1 := by
      have : 2 ^ k1 = 2 ^ (k1 - k) * 2 ^ k := by rw [← Nat.pow_add]; congr 1; omega
      rw [this]; exact Nat.mul_lt_mul_of_pos_right hi (Nat.two_pow_pos _)
    have e := h.at_ (k := k1) (i := 0) (by rw [f1]; simp) (Nat.div_eq_of_lt hpp) (by rw [Nat.mul_div_cancel i (Nat.two_pow_pos k), hf]; simp : B k (i * 2 ^ k / 2 ^ k) ≠ .no)
    subst e
    simp at hi
    exact ⟨rfl, hi⟩
  · rintro ⟨rfl, rfl⟩; exact f1
end Go.Proofs.YtdmnemgooagehaaGreatDoor

namespace Go.Proofs.YtdmnemgooagehaaGreatDoor

abbrev Rise (L : List (Nat × Nat)) : Prop := L.Pairwise (fun a b => a.1 < b.1)
/-- The list has just the blocks of that kind, by rising pages. -/
structure Lst (B : St) (x : Kind) (L : List (Nat × Nat)) : Prop where
  rise : Rise L
  mem : ∀ p k, (p, k) ∈ L ↔ ∃ i, p = i * 2 ^ k ∧ B k i = x

theorem rise_ext : ∀ {L M : List (Nat × Nat)}, Rise L → Rise M → (∀ a, a ∈ L ↔ a ∈ M) → L = M
  | [], [], _, _, _ => rfl
  | [], b :: M, _, _, h => by have := (h b).2 (by simp); cases this
  | a :: L, [], _, _, h => by have := (h a).1 (by simp); cases this
  | a :: L, b :: M, hL, hM, h => by
    have hL' := List.pairwise_cons.1 hL
    have hM' := List.pairwise_cons.1 hM
    have e : a = b := by
      rcases List.mem_cons.1 ((h a).1 (by simp)) with e | e
      · exact e
      · rcases List.mem_cons.1 ((h b).2 (by simp)) with e' | e'
        · exact e'.symm
        · have := hM'.1 a e; have := hL'.1 b e'; omega
    subst e
    refine congrArg (a :: ·) (rise_ext hL'.2 hM'.2 fun c => ⟨fun hc => ?_, fun hc => ?_⟩)
    · rcases List.mem_cons.1 ((h c).1 (by simp [hc])) with e | e
      · subst e; have := hL'.1 c hc; omega
      · exact e
    · rcases List.mem_cons.1 ((h c).2 (by simp [hc])) with e | e
      · subst e; have := hM'.1 c hc; omega
      · exact e

theorem Lst.ext {A B : St} {x : Kind} {L M : List (Nat × Nat)} (hL : Lst A x L) (hM : Lst B x M) (h : ∀ k i, A k i = x ↔ B k i = x) : L = M :=
  rise_ext hL.rise hM.rise fun ⟨p, k⟩ => by
    rw [hL.mem, hM.mem]
    exact exists_congr fun i => and_congr_right fun _ => h k i

/-- How far lists cover: up to the page p, by the first i and j. -/
structure Cov (B : St) (F U : List (Nat × Nat)) (p i j : Nat) : Prop where
  il : i ≤ F.length
  jl : j ≤ U.length
  fl : ∀ x ∈ F.take i, x.1 < p
  fr : ∀ x ∈ F.drop i, p ≤ x.1
  ul : ∀ x ∈ U.take j, x.1 < p
  ur : ∀ x ∈ U.drop j, p ≤ x.1
  edge : ∀ k n, B k n ≠ .no → n * 2 ^ k < p → n * 2 ^ k + 2 ^ k ≤ p

theorem Cov.start (B : St) (F U : List (Nat × Nat)) : Cov B F U 0 0 0 :=
  ⟨Nat.zero_le _, Nat.zero_le _, fun x h => by simp at h, fun x _ => Nat.zero_le _, fun x h => by simp at h, fun x _ => Nat.zero_le _, fun k n _ h => by omega⟩

theorem head_of {L : List (Nat × Nat)} (h : Rise L) {p k i : Nat} (hm : (p, k) ∈ L) (hl : ∀ x ∈ L.take i, x.1 < p) (hr : ∀ x ∈ L.drop i, p ≤ x.1) :
    L[i]? = some (p, k) ∧ ∀ x ∈ L.drop (i + 1), p < x.1 := by
  have hd : (p, k) ∈ L.drop i := by
    rw [← List.take_append_drop i L] at hm
    rcases List.mem_append.1 hm with h1 | h1
    · have := hl _ h1; simp at this
    · exact h1
  have hs : Rise (L.drop i) := List.Pairwise.sublist (List.drop_sublist i L) h
  have e0 : (L.drop i)[0]? = L[i]? := by rw [List.getElem?_drop]; rfl
  have e1 : L.drop (i + 1) = (L.drop i).drop 1 := by rw [List.drop_drop]
  rw [← e0, e1]
  match hL : L.drop i with
  | [] => rw [hL] at hd; cases hd
  | a :: r =>
    rw [hL] at hd hs hr
    have hs' := List.pairwise_cons.1 hs
    have hap := hr a (by simp)
    rcases List.mem_cons.1 hd with e | e
    · subst e
      exact ⟨rfl, fun x hx => hs'.1 x (by simpa using hx)⟩
    · have := hs'.1 _ e
      simp at this
      omega

theorem pow_split {K k : Nat} (h : k ≤ K) : 2 ^ K = 2 ^ (K - k) * 2 ^ k := by rw [← Nat.pow_add]; congr 1; omega

theorem take_next {L : List (Nat × Nat)} {i : Nat} {a : Nat × Nat} (h : L[i]? = some a) : ∀ x ∈ L.take (i + 1), x ∈ L.take i ∨ x = a := by
  intro x hx
  have hlt : i < L.length := (List.getElem?_eq_some_iff.1 h).1
  rw [List.take_succ_eq_append_getElem hlt] at hx
  rcases List.mem_append.1 hx with h1 | h1
  · exact .inl h1
  · refine .inr ?_
    have := (List.getElem?_eq_some_iff.1 h).2
    simpa [this] using h1

theorem block_lt {K : Nat} {B : St} (h : Inv K B) {k i : Nat} (hb : B k i ≠ .no) : i * 2 ^ k + 2 ^ k ≤ 2 ^ K := by
  obtain ⟨hk, hi⟩ := h.inn k i hb
  rw [pow_split hk, ← Nat.succ_mul]
  exact Nat.mul_le_mul_right _ hi
theorem div_of_in {p n k : Nat} (h1 : n * 2 ^ k ≤ p) (h2 : p < n * 2 ^ k + 2 ^ k) : p / 2 ^ k = n := by
  rw [← Nat.succ_mul] at h2
  have hpos := Nat.two_pow_pos k
  apply Nat.le_antisymm
  · have := (Nat.div_lt_iff_lt_mul hpos).2 h2; omega
  · exact (Nat.le_div_iff_mul_le hpos).2 h1

theorem cov_step {K : Nat} {B : St} {F U : List (Nat × Nat)} (h : Inv K B) (hn : NoHeld B) (hF : Lst B .free F) (hU : Lst B .used U) {p i j : Nat} (hc : Cov B F U p i j) (hp : p < 2 ^ K) :
    (∃ k, F[i]? = some (p, k) ∧ k ≤ K ∧ p + 2 ^ k ≤ 2 ^ K ∧ Cov B F U (p + 2 ^ k) (i + 1) j) ∨
    ((∀ q k, F[i]? = some (q, k) → q ≠ p) ∧ ∃ k, U[j]? = some (p, k) ∧ k ≤ K ∧ p + 2 ^ k ≤ 2 ^ K ∧ Cov B F U (p + 2 ^ k) i (j + 1)) := by
  obtain ⟨k, hk⟩ := h.all p hp
  obtain ⟨n, hnn⟩ : ∃ n, p / 2 ^ k = n := ⟨_, rfl⟩
  rw [hnn] at hk
  have hpos := Nat.two_pow_pos k
  have hle : n * 2 ^ k ≤ p := by rw [← hnn]; exact Nat.div_mul_le_self _ _
  have hlt : p < n * 2 ^ k + 2 ^ k := by
    rw [← Nat.succ_mul]
    have := (Nat.div_lt_iff_lt_mul hpos).1 (by omega : p / 2 ^ k < n + 1)
    exact this
  have hst : n * 2 ^ k = p := by
    apply Decidable.byContradiction
    intro hne
    have := hc.edge k n hk (by omega)
    omega
  have hkK := (h.inn k n hk).1
  have hend := block_lt h hk
  rw [hst] at hend
  -- whoever begins within the block is the block
  have same : ∀ k' n', B k' n' ≠ .no → p ≤ n' * 2 ^ k' → n' * 2 ^ k' < p + 2 ^ k → k' = k ∧ n' = n := by
    intro k' n' hb h1 h2
    have e := h.at_ (p := n' * 2 ^ k') hk (div_of_in (by omega) (by omega)) (by rw [Nat.mul_div_cancel _ (Nat.two_pow_pos _)]; exact hb)
    subst e
    refine ⟨rfl, ?_⟩
    have e := div_of_in (p := n' * 2 ^ k') (n := n) (k := k') (by omega) (by omega)
    rwa [Nat.mul_div_cancel _ (Nat.two_pow_pos _)] at e
  have hedge : ∀ k' n', B k' n' ≠ .no → n' * 2 ^ k' < p + 2 ^ k → n' * 2 ^ k' + 2 ^ k' ≤ p + 2 ^ k := by
    intro k' n' hb h1
    by_cases h2 : n' * 2 ^ k' < p
    · have := hc.edge k' n' hb h2; omega
    · obtain ⟨rfl, rfl⟩ := same k' n' hb (by omega) h1
      omega
  -- elements of a list that stand from p on, but aren't the block, stand behind it
  have behind : ∀ (x : Kind) (L : List (Nat × Nat)), x ≠ .no → Lst B x L → ∀ a ∈ L, p ≤ a.1 → (a.1 = p → B k n ≠ x) → p + 2 ^ k ≤ a.1 := by
    intro x L hx hL a ha h1 h2
    obtain ⟨q, k'⟩ := a
    obtain ⟨n', rfl, hb⟩ := (hL.mem q k').1 ha
    apply Decidable.byContradiction
    intro hlt2
    obtain ⟨rfl, rfl⟩ := same k' n' (by rw [hb]; exact hx) h1 (by omega)
    exact h2 hst hb
  have gt : ∀ (x : Kind) (L : List (Nat × Nat)), x ≠ .no → Lst B x L → ∀ a ∈ L, p < a.1 → p + 2 ^ k ≤ a.1 := by
    intro x L hx hL a ha h1
    exact behind x L hx hL a ha (by omega) (by omega)
  have hkind : B k n = .free ∨ B k n = .used := by
    have := hn k n
    revert hk this
    rcases Kind.each (B k n) with e | e | e | e <;> rw [e] <;> simp
  rcases hkind with hb | hb
  · left
    obtain ⟨h1, h2⟩ := head_of hF.rise ((hF.mem p k).2 ⟨n, hst.symm, hb⟩) hc.fl hc.fr
    have hlen := (List.getElem?_eq_some_iff.1 h1).1
    refine ⟨k, h1, hkK, hend, by omega, hc.jl, fun x hx => ?_, fun x hx => ?_, fun x hx => ?_, fun x hx => ?_, hedge⟩
    · rcases take_next h1 x hx with h3 | rfl
      · have := hc.fl x h3; omega
      · simp; omega
    · exact gt .free F (by simp) hF x (List.mem_of_mem_drop hx) (h2 x hx)
    · have := hc.ul x hx; omega
    · exact behind .used U (by simp) hU x (List.mem_of_mem_drop hx) (hc.ur x hx) (fun _ => by rw [hb]; simp)
  · right
    obtain ⟨h1, h2⟩ := head_of hU.rise ((hU.mem p k).2 ⟨n, hst.symm, hb⟩) hc.ul hc.ur
    have hlen := (List.getElem?_eq_some_iff.1 h1).1
    refine ⟨?_, k, h1, hkK, hend, hc.il, by omega, fun x hx => ?_, fun x hx => ?_, fun x hx => ?_, fun x hx => ?_, hedge⟩
    · intro q k' hq
      have hm : (q, k') ∈ F.drop i := by
        have : (F.drop i)[0]? = some (q, k') := by rw [List.getElem?_drop]; exact hq
        exact List.mem_of_getElem? this
      have := behind .free F (by simp) hF _ (List.mem_of_mem_drop hm) (hc.fr _ hm) (fun _ => by rw [hb]; simp)
      simp at this
      omega
    · have := hc.fl x hx; omega
    · exact behind .free F (by simp) hF x (List.mem_of_mem_drop hx) (hc.fr x hx) (fun _ => by rw [hb]; simp)
    · rcases take_next h1 x hx with h3 | rfl
      · have := hc.ul x h3; omega
      · simp; omega
    · exact gt .used U (by simp) hU x (List.mem_of_mem_drop hx) (h2 x hx)

theorem Lst.lt {K : Nat} {B : St} {x : Kind} {L : List (Nat × Nat)} (h : Inv K B) (hL : Lst B x L) (hx : x ≠ .no) {p k : Nat} (hm : (p, k) ∈ L) : k ≤ K ∧ p + 2 ^ k ≤ 2 ^ K := by
  obtain ⟨i, rfl, hb⟩ := (hL.mem p k).1 hm
  have hb' : B k i ≠ .no := by rw [hb]; exact hx
  exact ⟨(h.inn k i hb').1, block_lt h hb'⟩

theorem cov_end {K : Nat} {B : St} {F U : List (Nat × Nat)} (h : Inv K B) (hF : Lst B .free F) (hU : Lst B .used U) {i j : Nat} (hc : Cov B F U (2 ^ K) i j) : i = F.length ∧ j = U.length := by
  have key : ∀ (x : Kind) (L : List (Nat × Nat)) (n : Nat), x ≠ .no → Lst B x L → n ≤ L.length → (∀ a ∈ L.drop n, 2 ^ K ≤ a.1) → n = L.length := by
    intro x L n hx hL hn hd
    apply Decidable.byContradiction
    intro hne
    have hlt : n < L.length := by omega
    have hm : L[n] ∈ L.drop n := by
      have : (L.drop n)[0]? = some L[n] := by rw [List.getElem?_drop, Nat.add_zero, List.getElem?_eq_getElem hlt]
      exact List.mem_of_getElem? this
    have h1 := hd _ hm
    have h2 := (hL.lt h hx (p := L[n].1) (k := L[n].2) (List.mem_of_mem_drop hm)).2
    have := Nat.two_pow_pos L[n].2
    omega
  exact ⟨key .free F i (by simp) hF hc.il hc.fr, key .used U j (by simp) hU hc.jl hc.ur⟩

/-- No two free blocks of the list are buddies. -/
theorem apart {K : Nat} {B : St} {L : List (Nat × Nat)} (h : Inv K B) (hL : Lst B .free L) {p q k : Nat} (hp : (p, k) ∈ L) (hq : (q, k) ∈ L) (hne : p ≠ q) (hd : p / 2 ^ k / 2 = q / 2 ^ k / 2) : False := by
  obtain ⟨i, rfl, hi⟩ := (hL.mem p k).1 hp
  obtain ⟨j, rfl, hj⟩ := (hL.mem q k).1 hq
  rw [Nat.mul_div_cancel _ (Nat.two_pow_pos _), Nat.mul_div_cancel _ (Nat.two_pow_pos _)] at hd
  rcases bud_or hd with rfl | rfl
  · exact hne rfl
  · exact h.nb k j hj hi

/-- Two blocks that are there begin at two pages, or are the same. -/
theorem begins {K : Nat} {B : St} (h : Inv K B) {k i k' i' : Nat} (hb : B k i ≠ .no) (hb' : B k' i' ≠ .no) (he : i * 2 ^ k = i' * 2 ^ k') : k = k' ∧ i = i' := by
  have e := h.one (i * 2 ^ k) k k' (by rw [Nat.mul_div_cancel _ (Nat.two_pow_pos _)]; exact hb) (by rw [he, Nat.mul_div_cancel _ (Nat.two_pow_pos _)]; exact hb')
  subst e
  exact ⟨rfl, Nat.eq_of_mul_eq_mul_right (Nat.two_pow_pos _) he⟩

theorem whole_list {K : Nat} {B : St} {F : List (Nat × Nat)} (h : Inv K B) (hn : NoHeld B) (hF : Lst B .free F) (hu : ∀ k i, B k i ≠ .used) : F = [(0, K)] := by
  have hw := whole_free h hn hu
  refine rise_ext hF.rise (by simp) fun ⟨p, k⟩ => ?_
  rw [hF.mem]
  constructor
  · rintro ⟨i, rfl, hb⟩
    obtain ⟨rfl, rfl⟩ := (hw k i).1 hb
    simp
  · intro hm
    obtain ⟨rfl, rfl⟩ : p = 0 ∧ k = K := by simpa using hm
    exact ⟨0, by simp, (hw k 0).2 ⟨rfl, rfl⟩⟩

/-- How many pages the blocks have that are so, of the orders below n. -/
def pages (K : Nat) (f : Nat → Nat → Bool) : Nat → Nat
  | 0 => 0
  | n + 1 => pages K f n + cnt (f n) (2 ^ (K - n)) * 2 ^ n

theorem cnt_wide (f : Nat → Bool) (m n : Nat) : cnt (fun p => f (p / m)) (n * m) = cnt f n * m := by
  by_cases hm : m = 0
  · subst hm; simp [cnt]
  induction n with
  | zero => simp [cnt]
  | succ n ih =>
    rw [Nat.succ_mul, cnt_add, ih]
    have e : cnt (fun j => f ((n * m + j) / m)) m = (f n).toNat * m := by
      rw [cnt_congr (g := fun _ => f n) (fun i hi => by
        show f ((n * m + i) / m) = f n
        rw [Nat.mul_comm n m, Nat.mul_add_div (by omega), Nat.div_eq_of_lt hi, Nat.add_zero])]
      have : ∀ q, cnt (fun _ => f n) q = (f n).toNat * q := by
        intro q
        induction q with
        | zero => rfl
        | succ q ih => unfold cnt; rw [ih, Nat.mul_succ]
      exact this m
    rw [e, show cnt f (n + 1) = cnt f n + (f n).toNat from rfl, Nat.add_mul]

/-- How many of the first n orders have the page. -/
def among (f : Nat → Nat → Bool) (p : Nat) : Nat → Nat
  | 0 => 0
  | n + 1 => among f p n + (f n (p / 2 ^ n)).toNat
theorem among_zero {f : Nat → Nat → Bool} {p : Nat} : ∀ {n : Nat}, (∀ k, k < n → f k (p / 2 ^ k) = false) → among f p n = 0
  | 0, _ => rfl
  | n + 1, h => by unfold among; rw [among_zero (fun k hk => h k (by omega)), h n (by omega)]; rfl
theorem among_one {f : Nat → Nat → Bool} {p k : Nat} : ∀ {n : Nat}, k < n → f k (p / 2 ^ k) = true → (∀ k', f k' (p / 2 ^ k') = true → k' = k) → among f p n = 1
  | 0, h, _, _ => by omega
  | n + 1, h, hk, h1 => by
    unfold among
    by_cases e : k = n
    · subst e
      rw [among_zero (fun k' hk' => by
        cases hf : f k' (p / 2 ^ k')
        · rfl
        · have := h1 k' hf; omega), hk]
      rfl
    · rw [among_one (by omega) hk h1]
      cases hf : f n (p / 2 ^ n)
      · rfl
      · exact absurd (h1 n hf).symm e

theorem sum_among (f : Nat → Nat → Bool) (N : Nat) : ∀ m, (∀ p, p < m → among f p N = 1) → ((List.range m).map (fun p => among f p N)).sum = m := by
  intro m
  induction m with
  | zero => intro _; rfl
  | succ m ih =>
    intro h
    rw [List.range_succ, List.map_append, List.sum_append, ih (fun p hp => h p (by omega))]
    simp [h m (by omega)]

theorem cnt_among (f : Nat → Nat → Bool) (m : Nat) : ∀ N, ((List.range m).map (fun p => among f p (N + 1))).sum = ((List.range m).map (fun p => among f p N)).sum + cnt (fun p => f N (p / 2 ^ N)) m := by
  intro N
  induction m with
  | zero => simp [cnt]
  | succ m ih =>
    rw [List.range_succ, List.map_append, List.sum_append, ih, List.map_append, List.sum_append]
    simp only [List.map_cons, List.map_nil, List.sum_cons, List.sum_nil, among, cnt]
    omega

theorem pages_sum {K : Nat} (f : Nat → Nat → Bool) : ∀ N, N ≤ K + 1 → ((List.range (2 ^ K)).map (fun p => among f p N)).sum = pages K f N
  | 0, _ => by
    have : ∀ m : Nat, ((List.range m).map (fun p => among f p 0)).sum = 0 := by
      intro m
      induction m with
      | zero => rfl
      | succ m ih => rw [List.range_succ, List.map_append, List.sum_append, ih]; rfl
    exact this _
  | N + 1, h => by
    have e : cnt (fun p => f N (p / 2 ^ N)) (2 ^ K) = cnt (f N) (2 ^ (K - N)) * 2 ^ N := by rw [pow_split (show N ≤ K by omega), cnt_wide]
    rw [cnt_among, pages_sum f N (by omega), e]
    rfl

def isK (B : St) (x : Kind) : Nat → Nat → Bool := fun k i => decide (B k i = x)

theorem pages_all {K : Nat} {B : St} (h : Inv K B) (hn : NoHeld B) : pages K (isK B .free) (K + 1) + pages K (isK B .used) (K + 1) = 2 ^ K := by
  have e : ∀ (f g : Nat → Nat → Bool) N, pages K f N + pages K g N = pages K f N + pages K g N := fun _ _ _ => rfl
  have hsum : ∀ m, m ≤ 2 ^ K → ((List.range m).map (fun p => among (isK B .free) p (K + 1))).sum + ((List.range m).map (fun p => among (isK B .used) p (K + 1))).sum = m := by
    intro m
    induction m with
    | zero => intro _; rfl
    | succ m ih =>
      intro hm
      have hi := ih (by omega)
      simp only [List.range_succ, List.map_append, List.sum_append, List.map_cons, List.map_nil, List.sum_cons, List.sum_nil]
      obtain ⟨k, hk⟩ := h.all m (by omega)
      have hkK := (h.inn k _ hk).1
      have huniq : ∀ (x : Kind), x ≠ .no → ∀ k', isK B x k' (m / 2 ^ k') = true → k' = k := fun x hx k' h' => h.one m k' k (by rw [of_decide_eq_true h']; exact hx) hk
      have hkind : B k (m / 2 ^ k) = .free ∨ B k (m / 2 ^ k) = .used := by
        have := hn k (m / 2 ^ k)
        revert hk this
        rcases Kind.each (B k (m / 2 ^ k)) with e | e | e | e <;> rw [e] <;> simp
      have zero : ∀ (x : Kind), x ≠ .no → B k (m / 2 ^ k) ≠ x → among (isK B x) m (K + 1) = 0 := fun x hx hne => among_zero fun k' _ => by
        cases hf : isK B x k' (m / 2 ^ k')
        · rfl
        · have e := huniq x hx k' hf
          subst e
          exact absurd (of_decide_eq_true hf) hne
      have one : ∀ (x : Kind), x ≠ .no → B k (m / 2 ^ k) = x → among (isK B x) m (K + 1) = 1 := fun x hx he => among_one (by omega) (decide_eq_true he) (huniq x hx)
      rcases hkind with hb | hb
      · rw [one .free (by simp) hb, zero .used (by simp) (by rw [hb]; simp)]; omega
      · rw [one .used (by simp) hb, zero .free (by simp) (by rw [hb]; simp)]; omega
  have := hsum (2 ^ K) (Nat.le_refl _)
  rw [pages_sum _ _ (Nat.le_refl _), pages_sum _ _ (Nat.le_refl _)] at this
  exact this

theorem pages_congr {K : Nat} {f g : Nat → Nat → Bool} : ∀ {N : Nat}, (∀ k i, k < N → f k i = g k i) → pages K f N = pages K g N
  | 0, _ => rfl
  | N + 1, h => by
    unfold pages
    rw [pages_congr (fun k i hk => h k i (by omega)), cnt_congr (fun i _ => h N i (by omega))]

/-- One block more of that kind. -/
theorem pages_more {K : Nat} {f g : Nat → Nat → Bool} {o n : Nat} (hf : f o n = false) (hg : ∀ k i, g k i = (f k i || decide (k = o ∧ i = n))) (hn : n < 2 ^ (K - o)) : ∀ {N : Nat}, o < N → pages K g N = pages K f N + 2 ^ o
  | 0, h => by omega
  | N + 1, h => by
    unfold pages
    by_cases e : o = N
    · subst e
      rw [pages_congr (f := g) (g := f) (fun k i hk => by rw [hg, decide_eq_false (by omega), Bool.or_false])]
      have ht := cnt_turn (f := f o) (g := g o) (i := n) (fun j hj => by rw [hg, decide_eq_false (by omega), Bool.or_false]) hn
      rw [hf, hg o n, decide_eq_true ⟨rfl, rfl⟩, Bool.or_true] at ht
      simp at ht
      rw [ht, Nat.add_mul]
      omega
    · rw [pages_more hf hg hn (by omega), cnt_congr (f := g N) (g := f N) (fun i _ => by rw [hg, decide_eq_false (by omega), Bool.or_false])]
      omega

theorem pages_le {K : Nat} {B : St} (h : Inv K B) (hn : NoHeld B) : pages K (isK B .free) (K + 1) ≤ 2 ^ K := by have := pages_all h hn; omega
end Go.Proofs.YtdmnemgooagehaaGreatDoor
