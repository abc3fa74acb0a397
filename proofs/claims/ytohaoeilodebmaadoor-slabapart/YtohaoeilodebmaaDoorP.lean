/- Plain facts on words: how many bits are 1, the first one that is, masks and complements. No program is named here. -/
import Derived.Test.YtohaoeilodebmaaDoorN
namespace Go.Proofs.YtohaoeilodebmaaDoor

theorem and_split (x m : Nat) : x &&& m = ((x % 256) &&& (m % 256)) + 256 * ((x / 256) &&& (m / 256)) := by
  have h1 : (x &&& m) % 256 = (x % 256) &&& (m % 256) := Nat.and_mod_two_pow (n := 8) (a := x) (b := m)
  have h2 : (x &&& m) / 256 = (x / 256) &&& (m / 256) := Nat.and_div_two_pow (n := 8) (a := x) (b := m)
  rw [← h1, ← h2]; omega

/-- A mask of eight bytes alike, of a number of eight bytes. -/
theorem and_bytes (b0 b1 b2 b3 b4 b5 b6 b7 m : Nat) (h0 : b0 < 256) (h1 : b1 < 256) (h2 : b2 < 256) (h3 : b3 < 256) (h4 : b4 < 256) (h5 : b5 < 256) (h6 : b6 < 256) (hm : m < 256) :
    (b0 + 256 * (b1 + 256 * (b2 + 256 * (b3 + 256 * (b4 + 256 * (b5 + 256 * (b6 + 256 * b7))))))) &&& (m + 256 * (m + 256 * (m + 256 * (m + 256 * (m + 256 * (m + 256 * (m + 256 * m))))))) =
    (b0 &&& m) + 256 * ((b1 &&& m) + 256 * ((b2 &&& m) + 256 * ((b3 &&& m) + 256 * ((b4 &&& m) + 256 * ((b5 &&& m) + 256 * ((b6 &&& m) + 256 * (b7 &&& m))))))) := by
  have s : ∀ a q c r, a < 256 → c < 256 → (a + 256 * q) &&& (c + 256 * r) = (a &&& c) + 256 * (q &&& r) := by
    intro a q c r ha hc
    rw [and_split (a + 256 * q) (c + 256 * r), show (a + 256 * q) % 256 = a from by omega, show (c + 256 * r) % 256 = c from by omega, show (a + 256 * q) / 256 = q from by omega, show (c + 256 * r) / 256 = r from by omega]
  rw [s _ _ _ _ h0 hm, s _ _ _ _ h1 hm, s _ _ _ _ h2 hm, s _ _ _ _ h3 hm, s _ _ _ _ h4 hm, s _ _ _ _ h5 hm, s _ _ _ _ h6 hm]

def c1 (b : Nat) : Nat := ((b / 2) &&& 85) + (b &&& 85)
def c2 (b : Nat) : Nat := ((b / 4) &&& 51) + (b &&& 51)
def c3 (b : Nat) : Nat := b % 16 + b / 16
theorem half1 : ∀ b : Fin 256, ∀ d : Fin 2, (b.val / 2 + 128 * d.val) &&& 85 = (b.val / 2) &&& 85 := by decide +kernel
theorem half2 : ∀ b : Fin 256, ∀ d : Fin 4, (b.val / 4 + 64 * d.val) &&& 51 = (b.val / 4) &&& 51 := by decide +kernel
theorem c1_lt : ∀ b : Fin 256, c1 b.val < 171 := by decide +kernel
theorem c2_lt : ∀ b : Fin 256, c2 (c1 b.val) < 69 ∧ c2 (c1 b.val) % 16 < 5 := by decide +kernel
theorem c_pop : ∀ b : Fin 256, c3 (c2 (c1 b.val)) = cnt b.val.testBit 8 := by decide +kernel

def num8 (b0 b1 b2 b3 b4 b5 b6 b7 : Nat) : Nat := b0 + 256 * (b1 + 256 * (b2 + 256 * (b3 + 256 * (b4 + 256 * (b5 + 256 * (b6 + 256 * b7))))))

theorem step1 (b0 b1 b2 b3 b4 b5 b6 b7 : Nat) (h0 : b0 < 256) (h1 : b1 < 256) (h2 : b2 < 256) (h3 : b3 < 256) (h4 : b4 < 256) (h5 : b5 < 256) (h6 : b6 < 256) (_h7 : b7 < 256) :
    ((num8 b0 b1 b2 b3 b4 b5 b6 b7) / 2 &&& 6148914691236517205) + (num8 b0 b1 b2 b3 b4 b5 b6 b7 &&& 6148914691236517205) = num8 (c1 b0) (c1 b1) (c1 b2) (c1 b3) (c1 b4) (c1 b5) (c1 b6) (c1 b7) := by
  have e : (num8 b0 b1 b2 b3 b4 b5 b6 b7) / 2 = num8 (b0 / 2 + 128 * (b1 % 2)) (b1 / 2 + 128 * (b2 % 2)) (b2 / 2 + 128 * (b3 % 2)) (b3 / 2 + 128 * (b4 % 2)) (b4 / 2 + 128 * (b5 % 2)) (b5 / 2 + 128 * (b6 % 2)) (b6 / 2 + 128 * (b7 % 2)) (b7 / 2) := by
    unfold num8; omega
  have hm : (6148914691236517205 : Nat) = 85 + 256 * (85 + 256 * (85 + 256 * (85 + 256 * (85 + 256 * (85 + 256 * (85 + 256 * 85)))))) := by decide
  have hh : ∀ b d, b < 256 → (b / 2 + 128 * (d % 2)) &&& 85 = (b / 2) &&& 85 := fun b d hb => half1 ⟨b, hb⟩ ⟨d % 2, by omega⟩
  rw [e, hm]
  unfold num8
  rw [and_bytes _ _ _ _ _ _ _ _ 85 (by omega) (by omega) (by omega) (by omega) (by omega) (by omega) (by omega) (by omega), and_bytes _ _ _ _ _ _ _ _ 85 h0 h1 h2 h3 h4 h5 h6 (by omega),
    hh _ _ h0, hh _ _ h1, hh _ _ h2, hh _ _ h3, hh _ _ h4, hh _ _ h5, hh _ _ h6]
  unfold c1
  omega

theorem step2 (b0 b1 b2 b3 b4 b5 b6 b7 : Nat) (h0 : b0 < 256) (h1 : b1 < 256) (h2 : b2 < 256) (h3 : b3 < 256) (h4 : b4 < 256) (h5 : b5 < 256) (h6 : b6 < 256) (_h7 : b7 < 256) :
    ((num8 b0 b1 b2 b3 b4 b5 b6 b7) / 4 &&& 3689348814741910323) + (num8 b0 b1 b2 b3 b4 b5 b6 b7 &&& 3689348814741910323) = num8 (c2 b0) (c2 b1) (c2 b2) (c2 b3) (c2 b4) (c2 b5) (c2 b6) (c2 b7) := by
  have e : (num8 b0 b1 b2 b3 b4 b5 b6 b7) / 4 = num8 (b0 / 4 + 64 * (b1 % 4)) (b1 / 4 + 64 * (b2 % 4)) (b2 / 4 + 64 * (b3 % 4)) (b3 / 4 + 64 * (b4 % 4)) (b4 / 4 + 64 * (b5 % 4)) (b5 / 4 + 64 * (b6 % 4)) (b6 / 4 + 64 * (b7 % 4)) (b7 / 4) := by
    unfold num8; omega
  have hm : (3689348814741910323 : Nat) = 51 + 256 * (51 + 256 * (51 + 256 * (51 + 256 * (51 + 256 * (51 + 256 * (51 + 256 * 51)))))) := by decide
  have hh : ∀ b d, b < 256 → (b / 4 + 64 * (d % 4)) &&& 51 = (b / 4) &&& 51 := fun b d hb => half2 ⟨b, hb⟩ ⟨d % 4, by omega⟩
  rw [e, hm]
  unfold num8
  rw [and_bytes _ _ _ _ _ _ _ _ 51 (by omega) (by omega) (by omega) (by omega) (by omega) (by omega) (by omega) (by omega), and_bytes _ _ _ _ _ _ _ _ 51 h0 h1 h2 h3 h4 h5 h6 (by omega),
    hh _ _ h0, hh _ _ h1, hh _ _ h2, hh _ _ h3, hh _ _ h4, hh _ _ h5, hh _ _ h6]
  unfold c2
  omega

/-- A byte of two nibbles, the sum of which is a nibble. -/
def Nib (b : Nat) : Prop := b < 69 ∧ b % 16 < 5
theorem step3 (b0 b1 b2 b3 b4 b5 b6 b7 : Nat) (h0 : Nib b0) (h1 : Nib b1) (h2 : Nib b2) (h3 : Nib b3) (h4 : Nib b4) (h5 : Nib b5) (h6 : Nib b6) (h7 : Nib b7) :
    ((num8 b0 b1 b2 b3 b4 b5 b6 b7) / 16 + num8 b0 b1 b2 b3 b4 b5 b6 b7) &&& 1085102592571150095 = num8 (c3 b0) (c3 b1) (c3 b2) (c3 b3) (c3 b4) (c3 b5) (c3 b6) (c3 b7) := by
  unfold Nib at *
  have e : (num8 b0 b1 b2 b3 b4 b5 b6 b7) / 16 + num8 b0 b1 b2 b3 b4 b5 b6 b7 = num8 (c3 b0 + 16 * (b0 / 16 + b1 % 16)) (c3 b1 + 16 * (b1 / 16 + b2 % 16)) (c3 b2 + 16 * (b2 / 16 + b3 % 16)) (c3 b3 + 16 * (b3 / 16 + b4 % 16)) (c3 b4 + 16 * (b4 / 16 + b5 % 16)) (c3 b5 + 16 * (b5 / 16 + b6 % 16)) (c3 b6 + 16 * (b6 / 16 + b7 % 16)) (c3 b7 + 16 * (b7 / 16)) := by
    unfold num8 c3; omega
  have hm : (1085102592571150095 : Nat) = 15 + 256 * (15 + 256 * (15 + 256 * (15 + 256 * (15 + 256 * (15 + 256 * (15 + 256 * 15)))))) := by decide
  have hh : ∀ c d, c < 16 → (c + 16 * d) &&& 15 = c := fun c d hc => by rw [show (15 : Nat) = 2 ^ 4 - 1 from rfl, Nat.and_two_pow_sub_one_eq_mod]; omega
  have hc : ∀ b, b < 69 → b % 16 < 5 → c3 b < 16 ∧ c3 b < 10 := fun b h h' => by unfold c3; omega
  have k0 := hc b0 h0.1 h0.2
  have k1 := hc b1 h1.1 h1.2
  have k2 := hc b2 h2.1 h2.2
  have k3 := hc b3 h3.1 h3.2
  have k4 := hc b4 h4.1 h4.2
  have k5 := hc b5 h5.1 h5.2
  have k6 := hc b6 h6.1 h6.2
  have k7 := hc b7 h7.1 h7.2
  rw [e, hm]
  unfold num8
  rw [and_bytes _ _ _ _ _ _ _ _ 15 (by omega) (by omega) (by omega) (by omega) (by omega) (by omega) (by omega) (by omega),
    hh _ _ k0.1, hh _ _ k1.1, hh _ _ k2.1, hh _ _ k3.1, hh _ _ k4.1, hh _ _ k5.1, hh _ _ k6.1, hh _ _ k7.1]

/-- The sum of eight small bytes. -/
theorem step4 (p0 p1 p2 p3 p4 p5 p6 p7 x x4 x5 x6 : Nat) (h0 : p0 < 9) (h1 : p1 < 9) (h2 : p2 < 9) (h3 : p3 < 9) (h4 : p4 < 9) (h5 : p5 < 9) (h6 : p6 < 9) (h7 : p7 < 9)
    (hx : x = num8 p0 p1 p2 p3 p4 p5 p6 p7) (e4 : x4 = x + x / 256) (e5 : x5 = x4 + x4 / 65536) (e6 : x6 = x5 + x5 / 4294967296) :
    x6 % 128 = p0 + p1 + p2 + p3 + p4 + p5 + p6 + p7 ∧ x4 < 18446744073709551616 ∧ x5 < 18446744073709551616 ∧ x6 < 9223372036854775808 := by
  have f4 : x4 = num8 (p0 + p1) (p1 + p2) (p2 + p3) (p3 + p4) (p4 + p5) (p5 + p6) (p6 + p7) p7 := by
    rw [e4, hx]; unfold num8; omega
  have f5 : x5 = num8 (p0 + p1 + p2 + p3) (p1 + p2 + p3 + p4) (p2 + p3 + p4 + p5) (p3 + p4 + p5 + p6) (p4 + p5 + p6 + p7) (p5 + p6 + p7) (p6 + p7) p7 := by
    rw [e5, f4]; unfold num8; omega
  have f6 : x6 = num8 (p0 + p1 + p2 + p3 + p4 + p5 + p6 + p7) (p1 + p2 + p3 + p4 + p5 + p6 + p7) (p2 + p3 + p4 + p5 + p6 + p7) (p3 + p4 + p5 + p6 + p7) (p4 + p5 + p6 + p7) (p5 + p6 + p7) (p6 + p7) p7 := by
    rw [e6, f5]; unfold num8; omega
  rw [f4, f5, f6]
  unfold num8
  omega

theorem pop_bytes (x : Nat) : pop x = cnt (x % 256).testBit 8 + cnt (x / 256 % 256).testBit 8 + cnt (x / 65536 % 256).testBit 8 + cnt (x / 16777216 % 256).testBit 8 + cnt (x / 4294967296 % 256).testBit 8 + cnt (x / 1099511627776 % 256).testBit 8 + cnt (x / 281474976710656 % 256).testBit 8 + cnt (x / 72057594037927936 % 256).testBit 8 := by
  have e : ∀ k, cnt (fun j => x.testBit (k + j)) 8 = cnt (x / 2 ^ k % 256).testBit 8 := fun k => cnt_congr fun j hj => by
    rw [show (256 : Nat) = 2 ^ 8 from rfl, Nat.testBit_mod_two_pow, Nat.testBit_div_two_pow, decide_eq_true hj, Bool.true_and, Nat.add_comm]
  have e0 := e 0
  unfold pop
  rw [show (64 : Nat) = 56 + 8 from rfl, cnt_add, show (56 : Nat) = 48 + 8 from rfl, cnt_add, show (48 : Nat) = 40 + 8 from rfl, cnt_add, show (40 : Nat) = 32 + 8 from rfl, cnt_add, show (32 : Nat) = 24 + 8 from rfl, cnt_add, show (24 : Nat) = 16 + 8 from rfl, cnt_add, show (16 : Nat) = 8 + 8 from rfl, cnt_add]
  rw [show cnt x.testBit 8 = cnt (fun j => x.testBit (0 + j)) 8 from cnt_congr fun j _ => by rw [Nat.zero_add], e, e, e, e, e, e, e, e]
  simp only [Nat.pow_zero, Nat.div_one]

theorem num8_lt (b0 b1 b2 b3 b4 b5 b6 b7 c : Nat) (_hc : c ≤ 255) (h0 : b0 ≤ c) (h1 : b1 ≤ c) (h2 : b2 ≤ c) (h3 : b3 ≤ c) (h4 : b4 ≤ c) (h5 : b5 ≤ c) (h6 : b6 ≤ c) (h7 : b7 ≤ c) : num8 b0 b1 b2 b3 b4 b5 b6 b7 ≤ 72340172838076673 * c := by
  unfold num8; omega

/-- The count by adding up ever wider fields. -/
theorem pop_swar (x x1 x2 x3 x4 x5 x6 : Nat) (hx : x < 18446744073709551616)
    (e1 : x1 = (x / 2 &&& 6148914691236517205) + (x &&& 6148914691236517205)) (e2 : x2 = (x1 / 4 &&& 3689348814741910323) + (x1 &&& 3689348814741910323))
    (e3 : x3 = (x2 / 16 + x2) &&& 1085102592571150095) (e4 : x4 = x3 + x3 / 256) (e5 : x5 = x4 + x4 / 65536) (e6 : x6 = x5 + x5 / 4294967296) :
    x6 % 128 = pop x ∧ x1 < 18446744073709551616 ∧ x2 < 18446744073709551616 ∧ x2 / 16 + x2 < 18446744073709551616 ∧ x3 < 18446744073709551616 ∧ x4 < 18446744073709551616 ∧ x5 < 18446744073709551616 ∧ x6 < 9223372036854775808 := by
  have hb : x = num8 (x % 256) (x / 256 % 256) (x / 65536 % 256) (x / 16777216 % 256) (x / 4294967296 % 256) (x / 1099511627776 % 256) (x / 281474976710656 % 256) (x / 72057594037927936 % 256) := by unfold num8; omega
  rw [pop_bytes x]
  have l0 : x % 256 < 256 := by omega
  have l1 : x / 256 % 256 < 256 := by omega
  have l2 : x / 65536 % 256 < 256 := by omega
  have l3 : x / 16777216 % 256 < 256 := by omega
  have l4 : x / 4294967296 % 256 < 256 := by omega
  have l5 : x / 1099511627776 % 256 < 256 := by omega
  have l6 : x / 281474976710656 % 256 < 256 := by omega
  have l7 : x / 72057594037927936 % 256 < 256 := by omega
  generalize x % 256 = b0 at *
  generalize x / 256 % 256 = b1 at *
  generalize x / 65536 % 256 = b2 at *
  generalize x / 16777216 % 256 = b3 at *
  generalize x / 4294967296 % 256 = b4 at *
  generalize x / 1099511627776 % 256 = b5 at *
  generalize x / 281474976710656 % 256 = b6 at *
  generalize x / 72057594037927936 % 256 = b7 at *
  subst hb
  rw [step1 _ _ _ _ _ _ _ _ l0 l1 l2 l3 l4 l5 l6 l7] at e1
  have k : ∀ b, b < 256 → c1 b < 171 ∧ Nib (c2 (c1 b)) ∧ c3 (c2 (c1 b)) = cnt b.testBit 8 ∧ cnt b.testBit 8 < 9 := fun b h => ⟨c1_lt ⟨b, h⟩, c2_lt ⟨b, h⟩, c_pop ⟨b, h⟩, Nat.lt_succ_of_le (cnt_le _ _)⟩
  obtain ⟨a0, n0, q0, r0⟩ := k _ l0
  obtain ⟨a1, n1, q1, r1⟩ := k _ l1
  obtain ⟨a2, n2, q2, r2⟩ := k _ l2
  obtain ⟨a3, n3, q3, r3⟩ := k _ l3
  obtain ⟨a4, n4, q4, r4⟩ := k _ l4
  obtain ⟨a5, n5, q5, r5⟩ := k _ l5
  obtain ⟨a6, n6, q6, r6⟩ := k _ l6
  obtain ⟨a7, n7, q7, r7⟩ := k _ l7
  rw [e1, step2 _ _ _ _ _ _ _ _ (by omega) (by omega) (by omega) (by omega) (by omega) (by omega) (by omega) (by omega)] at e2
  have g1 : x1 < 18446744073709551616 := by
    have := num8_lt _ _ _ _ _ _ _ _ 170 (by omega) (Nat.le_of_lt_succ a0) (Nat.le_of_lt_succ a1) (Nat.le_of_lt_succ a2) (Nat.le_of_lt_succ a3) (Nat.le_of_lt_succ a4) (Nat.le_of_lt_succ a5) (Nat.le_of_lt_succ a6) (Nat.le_of_lt_succ a7)
    rw [← e1] at this; omega
  have g2 : x2 < 18446744073709551616 / 2 := by
    have := num8_lt _ _ _ _ _ _ _ _ 68 (by omega) (Nat.le_of_lt_succ n0.1) (Nat.le_of_lt_succ n1.1) (Nat.le_of_lt_succ n2.1) (Nat.le_of_lt_succ n3.1) (Nat.le_of_lt_succ n4.1) (Nat.le_of_lt_succ n5.1) (Nat.le_of_lt_succ n6.1) (Nat.le_of_lt_succ n7.1)
    rw [← e2] at this; omega
  rw [e2, step3 _ _ _ _ _ _ _ _ n0 n1 n2 n3 n4 n5 n6 n7, q0, q1, q2, q3, q4, q5, q6, q7] at e3
  have g3 : x3 < 18446744073709551616 := by
    have := num8_lt _ _ _ _ _ _ _ _ 8 (by omega) (Nat.le_of_lt_succ r0) (Nat.le_of_lt_succ r1) (Nat.le_of_lt_succ r2) (Nat.le_of_lt_succ r3) (Nat.le_of_lt_succ r4) (Nat.le_of_lt_succ r5) (Nat.le_of_lt_succ r6) (Nat.le_of_lt_succ r7)
    rw [← e3] at this; omega
  obtain ⟨f, f4, f5, f6⟩ := step4 _ _ _ _ _ _ _ _ x3 x4 x5 x6 r0 r1 r2 r3 r4 r5 r6 r7 e3 e4 e5 e6
  exact ⟨f, g1, by omega, by omega, g3, f4, f5, f6⟩

/-- The first bit of a word that is 1. -/
theorem ctz_spec (x : Nat) (h0 : x ≠ 0) (hx : x < 18446744073709551616) : Lib.ctz 64 x < 64 ∧ x.testBit (Lib.ctz 64 x) = true ∧ ∀ j, j < Lib.ctz 64 x → x.testBit j = false := by
  obtain ⟨m, hm, hk⟩ := Lib.ctzFrom_spec 64 x (by omega) hx
  have e : Lib.ctz 64 x = Lib.ctzFrom 64 x := by simp [Lib.ctz, h0]
  rw [← e] at hm hk
  refine ⟨hk, ?_, fun j hj => ?_⟩
  · have : x.testBit (Lib.ctz 64 x) = (2 ^ Lib.ctz 64 x * (2 * m + 1)).testBit (Lib.ctz 64 x) := by rw [← hm]
    rw [this, Nat.mul_comm, Nat.testBit_mul_two_pow]
    simp
  · have : x.testBit j = (2 ^ Lib.ctz 64 x * (2 * m + 1)).testBit j := by rw [← hm]
    rw [this, Nat.mul_comm, Nat.testBit_mul_two_pow]
    simp; omega

/-- A word in which those bits are 1 that are so. -/
def so (on : Bool) (x : Nat) : Nat := if on then x else 18446744073709551615 - x
theorem so_lt (on : Bool) (x : Nat) (hx : x < 18446744073709551616) : so on x < 18446744073709551616 := by unfold so; split <;> omega
theorem so_bit (on : Bool) (x j : Nat) (hx : x < 18446744073709551616) (hj : j < 64) : (so on x).testBit j = (x.testBit j == on) := by
  cases on
  · have := Nat.testBit_two_pow_sub_succ (x := x) (n := 64) hx j
    rw [show so false x = 2 ^ 64 - (x + 1) from by simp only [so, Bool.false_eq_true, if_false]; omega, this, decide_eq_true hj]
    cases x.testBit j <;> rfl
  · simp only [so, if_true]
    cases x.testBit j <;> rfl
theorem xor_ones (x : Nat) (hx : x < 18446744073709551616) : 18446744073709551615 ^^^ x = 18446744073709551615 - x := by
  apply Nat.eq_of_testBit_eq
  intro j
  rw [Nat.testBit_xor, show (18446744073709551615 : Nat) = 2 ^ 64 - 1 from rfl, Nat.testBit_two_pow_sub_one]
  by_cases hj : j < 64
  · have := Nat.testBit_two_pow_sub_succ (x := x) (n := 64) hx j
    rw [show 2 ^ 64 - 1 - x = 2 ^ 64 - (x + 1) from by omega, this, decide_eq_true hj]
    cases x.testBit j <;> rfl
  · rw [testBit_big _ _ hx (by omega), testBit_big _ _ (by omega) (by omega), decide_eq_false hj]; rfl

/-- The bits from the k-th on. -/
theorem mask_bit (x k j : Nat) (hx : x < 18446744073709551616) (hk : k < 64) : (x &&& (18446744073709551616 - 2 ^ k)).testBit j = (x.testBit j && decide (k ≤ j)) := by
  rw [Nat.testBit_and]
  by_cases hj : j < 64
  · have hlt : 2 ^ k - 1 < 2 ^ 64 := by
      have := Nat.pow_lt_pow_right (a := 2) (by omega) hk
      omega
    have hp : 0 < 2 ^ k := Nat.two_pow_pos k
    have := Nat.testBit_two_pow_sub_succ (x := 2 ^ k - 1) (n := 64) hlt j
    rw [show 2 ^ k - 1 + 1 = 2 ^ k from by omega] at this
    rw [show (18446744073709551616 : Nat) = 2 ^ 64 from rfl, this, Nat.testBit_two_pow_sub_one, decide_eq_true hj, Bool.true_and]
    congr 1
    by_cases h : j < k
    · rw [decide_eq_true h, decide_eq_false (by omega)]; rfl
    · rw [decide_eq_false h, decide_eq_true (by omega)]; rfl
  · rw [testBit_big _ _ hx (by omega)]; rfl

theorem and_bit (x k : Nat) : (x &&& 2 ^ k = 0) ↔ x.testBit k = false := by
  constructor
  · intro h
    have := congrArg (fun y => y.testBit k) h
    simpa [Nat.testBit_and, Nat.testBit_two_pow_self] using this
  · intro h
    apply Nat.eq_of_testBit_eq
    intro j
    rw [Nat.testBit_and, Nat.zero_testBit]
    by_cases hj : k = j
    · subst hj; rw [h]; rfl
    · rw [Nat.testBit_two_pow_of_ne hj, Bool.and_false]

end Go.Proofs.YtohaoeilodebmaaDoor
