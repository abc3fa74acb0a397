/- The acts that ArenaActs is handed, in memory; the function few; which sizes New takes. -/
import Derived.Test.YtaoahbobofdimaaJ
namespace Go.Proofs.Ytaoahbobofdimaa
open Go.RowKit

theorem Arena.drew {w : World} {b g : Nat} {m : List Int} (h : Arena w b g m) : Arena w.drew b g m := ⟨h.head, h.body, h.unlike, h.small, h.byte⟩
theorem Ref.drew {w : World} {b g : Nat} {m : List Int} (h : Ref w b g m) : Ref w.drew b g m := ⟨h.head, h.body, h.unlike, h.small, h.byte⟩

structure Act where
  kind : Int
  at_ : Int
  n : Int
  lp : Option Addr
  lc : Nat
  l : List Int
  bp : Option Addr
  bc : Nat
  b : List Int
  c : Int

/-- An act lies in block s from cell p on. -/
structure ActAt (w : World) (B s p : Nat) (x : Act) : Prop where
  c0 : w.cell? ⟨s, p, none⟩ = some (.int .i64 x.kind)
  c1 : w.cell? ⟨s, p + 1, none⟩ = some (.int .i64 x.at_)
  c2 : w.cell? ⟨s, p + 2, none⟩ = some (.int .i64 x.n)
  c3 : w.cell? ⟨s, p + 3, none⟩ = some (.slice x.lp x.l.length x.lc)
  c4 : w.cell? ⟨s, p + 4, none⟩ = some (.slice x.bp x.b.length x.bc)
  c5 : w.cell? ⟨s, p + 5, none⟩ = some (.int .u8 x.c)
  near : x.at_ < 9223372036854775808
  words : Ints .u64 w B x.lp x.l
  word : Word x.l
  bytes : Ints .u8 w B x.bp x.b
  byte : Byte x.b
  c_0 : 0 ≤ x.c
  c_1 : x.c ≤ 255

theorem ActAt.below {w w' : World} {B s p : Nat} {x : Act} (h : ActAt w B s p x) (hs : s < B) (hb : Below B w w') : ActAt w' B s p x :=
  ⟨(hb.cell (p := ⟨s, p, none⟩) hs).trans h.c0, (hb.cell (p := ⟨s, p + 1, none⟩) hs).trans h.c1, (hb.cell (p := ⟨s, p + 2, none⟩) hs).trans h.c2, (hb.cell (p := ⟨s, p + 3, none⟩) hs).trans h.c3,
   (hb.cell (p := ⟨s, p + 4, none⟩) hs).trans h.c4, (hb.cell (p := ⟨s, p + 5, none⟩) hs).trans h.c5, h.near, h.words.below hb, h.word, h.bytes.below hb, h.byte, h.c_0, h.c_1⟩

/-- The slice has so many acts. -/
def Acts (w : World) (B : Nat) (a : Option Addr) (len : Nat) : Prop := len = 0 ∨ ∃ s o, a = some ⟨s, o, none⟩ ∧ s < B ∧ ∀ i, i < len → ∃ x, ActAt w B s (o + i * 6) x

theorem Acts.below {w w' : World} {B : Nat} {a : Option Addr} {len : Nat} (h : Acts w B a len) (hb : Below B w w') : Acts w' B a len := by
  rcases h with h | ⟨s, o, rfl, hs, h⟩
  · exact .inl h
  · refine .inr ⟨s, o, rfl, hs, fun i hi => ?_⟩
    obtain ⟨x, hx⟩ := h i hi
    exact ⟨x, hx.below hs hb⟩

/-- Lists are short. -/
def Short (w : World) (a : Option Addr) (k : Nat) : Prop := ∀ s o i p q l b lc bc, a = some ⟨s, o, none⟩ → i < k → w.cell? ⟨s, o + i * 6 + 3, none⟩ = some (.slice p l lc) → w.cell? ⟨s, o + i * 6 + 4, none⟩ = some (.slice q b bc) → l ≤ 100 ∧ b ≤ 1000
def FewPost (size : Int) (a : Option Addr) (len : Nat) (w : World) (e : Ending) (w' : World) : Prop :=
  ∃ f : Bool, e = .returned (.bool f) ∧ w' = w ∧ (f = true → len ≤ 60 ∧ (size ≤ 1048576 ∨ 1073741824 < size) ∧ Short w a len)

theorem few_long (size : Int) (a : Option Addr) (len cap : Nat) (w : World) (h : (60 : Int) < len ∨ (1048576 < size ∧ size ≤ 1073741824)) :
    Calls Try.prog 9 #[.int .i64 size, .slice a len cap] w (FewPost size a len w) := by
  by_cases h1 : (60 : Int) < len
  · go_enter Try.func9, Try.ntmps9
    go_wp2
    go_ret
    exact ⟨false, rfl, rfl, fun h => by cases h⟩
  · obtain ⟨h2, h3⟩ : 1048576 < size ∧ size ≤ 1073741824 := by omega
    go_enter Try.func9, Try.ntmps9
    go_wp2
    go_ret
    exact ⟨false, rfl, rfl, fun h => by cases h⟩

set_option maxHeartbeats 1000000 in
theorem few_short (size : Int) (a : Option Addr) (len cap B : Nat) (w : World) (h1 : (len : Int) ≤ 60) (h2 : size ≤ 1048576 ∨ 1073741824 < size) (hA : Acts w B a len) :
    Calls Try.prog 9 #[.int .i64 size, .slice a len cap] w (FewPost size a len w) := by
  have H2 := hid h2
  have hsz : size ≤ 1048576 ∨ (1048576 < size ∧ 1073741824 < size) := by omega
  clear h2
  rcases hsz with h3 | ⟨h3, h4⟩
  all_goals
    go_enter Try.func9, Try.ntmps9
    go_wp2
    go_loop [5] (fun i => ∃ k : Nat, k ≤ len ∧ i = .int .i64 k ∧ Hid (Short w a k)) (fun i => len - (intOf i).toNat)
    case atStart => exact ⟨0, Nat.zero_le _, rfl, fun s o i p q l b lc bc _ hi => by omega⟩
    case round =>
      obtain ⟨k, hk, rfl, hsh⟩ := hrel
      by_cases hlt : k < len
      · rcases hA with h0 | ⟨s, o, rfl, hs, hx⟩
        · omega
        obtain ⟨x, hx⟩ := hx k hlt
        have c3 := hx.c3
        have c4 := hx.c4
        by_cases h5 : (100 : Int) < x.l.length
        · go_wp2
          go_ret
          exact ⟨false, rfl, rfl, fun h => by cases h⟩
        by_cases h6 : (1000 : Int) < x.b.length
        · go_wp2
          go_ret
          exact ⟨false, rfl, rfl, fun h => by cases h⟩
        have hnx : Short w (some ⟨s, o, none⟩) (k + 1) := by
          intro s' o' i p q l b lc bc he hi hc3 hc4
          obtain ⟨rfl, rfl⟩ : s = s' ∧ o = o' := by simpa using he
          by_cases hik : i < k
          · exact hsh.out s o i p q l b lc bc rfl hik hc3 hc4
          · have e : i = k := by omega
            rw [e, c3] at hc3
            rw [e, c4] at hc4
            simp only [Option.some.injEq, Value.slice.injEq] at hc3 hc4
            omega
        have HN := hid hnx
        clear hnx
        go_wp2
        exact ⟨⟨k + 1, by omega, by go_num, HN⟩, by simp [intOf]; omega⟩
      · go_wp2
        go_ret
        exact ⟨true, rfl, rfl, fun _ => ⟨by omega, H2.out, by have e : k = len := by omega
                                                              rw [e] at hsh; exact hsh.out⟩⟩

theorem few_any (size : Int) (a : Option Addr) (len cap B : Nat) (w : World) (hA : Acts w B a len) :
    Calls Try.prog 9 #[.int .i64 size, .slice a len cap] w (FewPost size a len w) := by
  by_cases h : (60 : Int) < len ∨ (1048576 < size ∧ size ≤ 1073741824)
  · exact few_long size a len cap w h
  · exact few_short size a len cap B w (by omega) (by omega) hA

theorem wraps_i64 (n : Int) (h₀ : 0 ≤ n) (h₁ : n < 2 ^ 62) : IntKind.i64.wrap n = n := by rw [IntKind.wrap_i64]; omega
theorem and_pred (a j : Nat) (h1 : 2 ^ j < a) (h2 : a < 2 ^ (j + 1)) : a &&& (a - 1) ≠ 0 := by
  intro h
  have hp : 0 < 2 ^ j := Nat.two_pow_pos j
  have e : 2 ^ (j + 1) = 2 * 2 ^ j := by rw [Nat.pow_succ]; omega
  have t1 : a / 2 ^ j = 1 := Nat.div_eq_of_lt_le (by omega) (by omega)
  have t2 : (a - 1) / 2 ^ j = 1 := Nat.div_eq_of_lt_le (by omega) (by omega)
  have hb : (a &&& (a - 1)).testBit j = true := by
    rw [Nat.testBit_and, Nat.testBit_eq_decide_div_mod_eq, Nat.testBit_eq_decide_div_mod_eq, t1, t2]; rfl
  rw [h] at hb
  simp at hb
theorem bits_pred (a j : Nat) (h1 : 2 ^ j < a) (h2 : a < 2 ^ (j + 1)) (h3 : a < 2 ^ 62) : (bits .and .i64 (a : Int) ((a : Int) - 1) == 0) = false := by
  have hp : 0 < 2 ^ j := Nat.two_pow_pos j
  have e : ((a : Int) - 1) = ((a - 1 : Nat) : Int) := by omega
  rw [e, (bits_nat .i64 62 (by decide) wraps_i64 a (a - 1) h3 (by omega)).1]
  have := and_pred a j h1 h2
  simp only [beq_eq_false_iff_ne, ne_eq]
  omega

/-- New answers nil where May says no. -/
theorem new_nil (size : Int) (w : World) (h1 : size ≤ 1048576 ∨ 1073741824 < size) (h2 : ∀ k : Nat, k ≤ 14 → size ≠ 65536 * 2 ^ k) :
    Calls Try.prog 10 #[.int .i64 size] w fun e w' => e = .returned (.pointer none) ∧ w' = w := by
  by_cases h : size < 65536 ∨ 1073741824 < size
  · exact new_no size w h
  have k0 := h2 0 (by omega)
  have k1 := h2 1 (by omega)
  have k2 := h2 2 (by omega)
  have k3 := h2 3 (by omega)
  have k4 := h2 4 (by omega)
  obtain ⟨a, rfl⟩ := Int.eq_ofNat_of_zero_le (show 0 ≤ size by omega)
  have hj : ∃ j : Nat, 2 ^ j < a ∧ a < 2 ^ (j + 1) := by
    by_cases c1 : a < 131072
    · exact ⟨16, by omega, by omega⟩
    by_cases c2 : a < 262144
    · exact ⟨17, by omega, by omega⟩
    by_cases c3 : a < 524288
    · exact ⟨18, by omega, by omega⟩
    · exact ⟨19, by omega, by omega⟩
  obtain ⟨j, hj1, hj2⟩ := hj
  exact new_no2 a w (by omega) (by omega) (bits_pred a j hj1 hj2 (by omega))

/-- New answers an arena where May says yes. -/
theorem new_may (size : Int) (w : World) (h1 : size ≤ 1048576 ∨ 1073741824 < size) (h2 : ∃ k : Nat, k ≤ 14 ∧ size = 65536 * 2 ^ k) :
    ∃ n : Nat, size = n ∧ (65536 : Int) ≤ n ∧ (n : Int) ≤ 1048576 ∧
    Calls Try.prog 10 #[.int .i64 size] w fun e w' => ∃ b g, e = .returned (.pointer (some ⟨b, 0, none⟩)) ∧ Arena w' b g (zeros n) ∧ Below w.heap.size w w' ∧ w.heap.size ≤ b ∧ w.heap.size ≤ g := by
  obtain ⟨k, hk, rfl⟩ := h2
  have hk4 : k ≤ 4 := by
    by_cases h : k ≤ 4
    · exact h
    · have a1 := pow_le 5 k (by omega)
      have a2 := pow_le k 14 hk
      have e1 : (65536 * 2 ^ 5 : Int) = 2097152 := by decide
      have e2 : (65536 * 2 ^ 14 : Int) = 1073741824 := by decide
      omega
  match k, hk4 with
  | 0, _ => exact ⟨65536, by decide, by omega, by omega, new_ok 65536 w (by omega) (by omega) (by decide +kernel)⟩
  | 1, _ => exact ⟨131072, by decide, by omega, by omega, new_ok 131072 w (by omega) (by omega) (by decide +kernel)⟩
  | 2, _ => exact ⟨262144, by decide, by omega, by omega, new_ok 262144 w (by omega) (by omega) (by decide +kernel)⟩
  | 3, _ => exact ⟨524288, by decide, by omega, by omega, new_ok 524288 w (by omega) (by omega) (by decide +kernel)⟩
  | 4, _ => exact ⟨1048576, by decide, by omega, by omega, new_ok 1048576 w (by omega) (by omega) (by decide +kernel)⟩

end Go.Proofs.Ytaoahbobofdimaa
