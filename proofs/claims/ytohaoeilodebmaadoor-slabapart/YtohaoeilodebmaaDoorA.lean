/- Contracts of package bitmap's small functions, and of the two of math/bits that it calls: what each call answers and what it does to memory. -/
import Derived.Test.YtohaoeilodebmaaDoorRows
import Derived.Test.YtohaoeilodebmaaDoorL
import Derived.Test.YtohaoeilodebmaaDoorP
import Derived.Laws.BitsAllLaws
import Derived.Laws.Bits128
import Derived.Shelf.Spec.TrailingZeros
import Derived.Deep.OwnRows
import Derived.Deep.QuietTactic
import Derived.BigQuiet
namespace Go.Proofs.YtohaoeilodebmaaDoor
open Go.RowKit

def wv (ws : List Nat) : Array Value := (ws.map (fun x : Nat => Value.int .u64 (x : Int))).toArray
theorem wv_size (ws : List Nat) : (wv ws).size = ws.length := by simp [wv]
theorem wv_get (ws : List Nat) (i : Nat) (h : i < ws.length) : (wv ws)[i]? = some (.int .u64 ((ws[i]?.getD 0 : Nat) : Int)) := by
  simp [wv, h]

/-- The map at block b has n bits, in the words ws of block g. -/
structure Bits (w : World) (b g n : Nat) (ws : List Nat) : Prop where
  head : w.heap[b]? = some (.cells #[.int .i64 (n : Int), .slice (some ⟨g, 0, none⟩) ws.length ws.length] 102)
  body : w.heap[g]? = some (.cells (wv ws) 99)
  unlike : b ≠ g
  small : n ≤ 1048576
  ok : Okm n ws

theorem Bits.c0 {w : World} {b g n : Nat} {ws : List Nat} (h : Bits w b g n ws) : w.cell? ⟨b, 0, none⟩ = some (.int .i64 (n : Int)) := by
  rw [cell_of_row w b 0 _ _ _ h.head]; rfl
theorem Bits.c1 {w : World} {b g n : Nat} {ws : List Nat} (h : Bits w b g n ws) : w.cell? ⟨b, 1, none⟩ = some (.slice (some ⟨g, 0, none⟩) ws.length ws.length) := by
  rw [cell_of_row w b 1 _ _ _ h.head]; rfl
theorem Bits.at {w : World} {b g n : Nat} {ws : List Nat} (h : Bits w b g n ws) (i : Nat) (hi : i < ws.length) : w.cell? ⟨g, i, none⟩ = some (.int .u64 ((ws[i]?.getD 0 : Nat) : Int)) := by
  rw [cell_of_row w g i _ _ _ h.body, wv_get ws i hi]
theorem Bits.lt {w : World} {b g n : Nat} {ws : List Nat} (h : Bits w b g n ws) : b < w.heap.size ∧ g < w.heap.size :=
  ⟨(Array.getElem?_eq_some_iff.1 h.head).1, (Array.getElem?_eq_some_iff.1 h.body).1⟩

theorem len_nil (w : World) : Calls Tryd.prog 66 #[.pointer none] w fun e w' => e = .returned (.int .i64 0) ∧ w' = w := by
  go_enter Tryd.func66, Tryd.ntmps66
  go_wp2
  go_ret
  exact ⟨rfl, rfl⟩
theorem len_cell (b n : Nat) (w : World) (hc : w.cell? ⟨b, 0, none⟩ = some (.int .i64 (n : Int))) :
    Calls Tryd.prog 66 #[.pointer (some ⟨b, 0, none⟩)] w fun e w' => e = .returned (.int .i64 (n : Int)) ∧ w' = w := by
  go_enter Tryd.func66, Tryd.ntmps66
  go_wp2
  go_ret
  exact ⟨rfl, rfl⟩

theorem wordsOf_any (n : Int) (w : World) (h0 : 0 ≤ n) (h1 : n ≤ 1048576) :
    Calls Tryd.prog 62 #[.int .i64 n] w fun e w' => e = .returned (.int .i64 ((n + 63) / 64)) ∧ w' = w := by
  go_enter Tryd.func62, Tryd.ntmps62
  go_wp2
  go_ret
  exact ⟨ret_int (by omega), rfl⟩

def hasB (n : Nat) (i : Int) : Bool := decide (0 ≤ i ∧ i < (n : Int))
theorem has_cell (b n : Nat) (i : Int) (w : World) (hc : w.cell? ⟨b, 0, none⟩ = some (.int .i64 (n : Int))) :
    Calls Tryd.prog 63 #[.pointer (some ⟨b, 0, none⟩), .int .i64 i] w fun e w' => e = .returned (.bool (hasB n i)) ∧ w' = w := by
  by_cases h0 : 0 ≤ i
  · go_enter Tryd.func63, Tryd.ntmps63
    go_wp2_with (go_at_call 66; refine (len_cell b n _ hc).mono ?_; rintro e w' ⟨rfl, rfl⟩)
    go_ret
    exact ⟨ret_bool (by simp [hasB, h0]), rfl⟩
  · go_enter Tryd.func63, Tryd.ntmps63
    go_wp2
    go_ret
    exact ⟨ret_bool (by unfold hasB; rw [decide_eq_false (by omega)]), rfl⟩

theorem pow_wrap (k : Nat) (hk : k < 64) : IntKind.u64.wrap (2 ^ k) = ((2 ^ k : Nat) : Int) := by
  have h : 2 ^ k < 2 ^ 64 := Nat.pow_lt_pow_right (by omega) hk
  have e : (2 : Int) ^ k = ((2 ^ k : Nat) : Int) := by simp
  rw [e, IntKind.wrap_u64]
  generalize 2 ^ k = y at *
  omega

theorem bitOf_any (i : Nat) (w : World) (h : i < 1048576) :
    Calls Tryd.prog 64 #[.int .i64 (i : Int)] w fun e w' => e = .returned (.int .u64 ((2 ^ (i % 64) : Nat) : Int)) ∧ w' = w := by
  go_enter Tryd.func64, Tryd.ntmps64
  go_wp2
  go_ret
  exact ⟨ret_int (pow_wrap _ (by omega)), rfl⟩

theorem ones_walk (x x1 x2 y3 x3 x4 x5 x6 : Nat) (w : World) (h6 : x6 < 9223372036854775808)
    (e1 : IntKind.u64.wrap (bits .and .u64 ((x : Int) / 2) 6148914691236517205 + bits .and .u64 (x : Int) 6148914691236517205) = (x1 : Int))
    (e2 : IntKind.u64.wrap (bits .and .u64 ((x1 : Int) / 4) 3689348814741910323 + bits .and .u64 (x1 : Int) 3689348814741910323) = (x2 : Int))
    (e3 : IntKind.u64.wrap ((x2 : Int) / 16 + (x2 : Int)) = (y3 : Int)) (e3' : bits .and .u64 (y3 : Int) 1085102592571150095 = (x3 : Int))
    (e4 : IntKind.u64.wrap ((x3 : Int) + (x3 : Int) / 256) = (x4 : Int)) (e5 : IntKind.u64.wrap ((x4 : Int) + (x4 : Int) / 65536) = (x5 : Int)) (e6 : IntKind.u64.wrap ((x5 : Int) + (x5 : Int) / 4294967296) = (x6 : Int))
    (e7 : bits .and .i64 (x6 : Int) 127 = (x6 : Int) % 128) :
    Calls Tryd.prog 59 #[.int .u64 (x : Int)] w fun e w' => e = .returned (.int .i64 ((x6 : Int) % 128)) ∧ w' = w := by
  go_enter Tryd.func59, Tryd.ntmps59
  go_wp2
  go_ret
  exact ⟨rfl, rfl⟩

theorem and_int (a m : Nat) (ha : a < 18446744073709551616) (hm : m < 18446744073709551616) : bits .and .u64 (a : Int) (m : Int) = ((a &&& m : Nat) : Int) := u64_and_nat a m ha hm
theorem wrap_int (n : Nat) (h : n < 18446744073709551616) : IntKind.u64.wrap (n : Int) = (n : Int) := by rw [IntKind.wrap_u64]; omega

theorem ones_any (x : Nat) (w : World) (hx : x < 18446744073709551616) :
    Calls Tryd.prog 59 #[.int .u64 (x : Int)] w fun e w' => e = .returned (.int .i64 (pop x : Int)) ∧ w' = w := by
  obtain ⟨x1, e1⟩ : ∃ x1, x1 = (x / 2 &&& 6148914691236517205) + (x &&& 6148914691236517205) := ⟨_, rfl⟩
  obtain ⟨x2, e2⟩ : ∃ x2, x2 = (x1 / 4 &&& 3689348814741910323) + (x1 &&& 3689348814741910323) := ⟨_, rfl⟩
  obtain ⟨x3, e3⟩ : ∃ x3, x3 = (x2 / 16 + x2) &&& 1085102592571150095 := ⟨_, rfl⟩
  obtain ⟨x4, e4⟩ : ∃ x4, x4 = x3 + x3 / 256 := ⟨_, rfl⟩
  obtain ⟨x5, e5⟩ : ∃ x5, x5 = x4 + x4 / 65536 := ⟨_, rfl⟩
  obtain ⟨x6, e6⟩ : ∃ x6, x6 = x5 + x5 / 4294967296 := ⟨_, rfl⟩
  obtain ⟨hp, g1, g2, g3, g4, g5, g6, g7⟩ := pop_swar x x1 x2 x3 x4 x5 x6 hx e1 e2 e3 e4 e5 e6
  rw [← hp, Int.natCast_emod]
  refine ones_walk x x1 x2 (x2 / 16 + x2) x3 x4 x5 x6 w g7 ?_ ?_ ?_ ?_ ?_ ?_ ?_ (i64_and127 _)
  · rw [show (x : Int) / 2 = ((x / 2 : Nat) : Int) from by omega, show (6148914691236517205 : Int) = ((6148914691236517205 : Nat) : Int) from rfl, and_int _ _ (by omega) (by omega), and_int _ _ hx (by omega), ← Int.natCast_add, ← e1]
    exact wrap_int _ g1
  · rw [show (x1 : Int) / 4 = ((x1 / 4 : Nat) : Int) from by omega, show (3689348814741910323 : Int) = ((3689348814741910323 : Nat) : Int) from rfl, and_int _ _ (by omega) (by omega), and_int _ _ g1 (by omega), ← Int.natCast_add, ← e2]
    exact wrap_int _ g2
  · rw [show (x2 : Int) / 16 + (x2 : Int) = ((x2 / 16 + x2 : Nat) : Int) from by omega]
    exact wrap_int _ g3
  · rw [show (1085102592571150095 : Int) = ((1085102592571150095 : Nat) : Int) from rfl, and_int _ _ g3 (by omega), ← e3]
  · rw [show (x3 : Int) + (x3 : Int) / 256 = (x4 : Int) from by omega]
    exact wrap_int _ g5
  · rw [show (x4 : Int) + (x4 : Int) / 65536 = (x5 : Int) from by omega]
    exact wrap_int _ g6
  · rw [show (x5 : Int) + (x5 : Int) / 4294967296 = (x6 : Int) from by omega]
    exact wrap_int _ (by omega)

/-- The table of math/bits in its variable. -/
def Tab (w : World) : Prop := ∀ j, j < 64 → w.cell? ⟨1, j, none⟩ = some (.int .u8 ((Lib.deBruijn64tab.getD j 0 : Nat) : Int))

theorem tz_core (x k idx : Nat) (w : World) (hx0 : ((x : Int) == 0) = false)
    (key : IntKind.u64.wrap (bits BinOp.and IntKind.u64 (x : Int) (IntKind.u64.wrap (-(x : Int))) * 285870213051353865) / 288230376151711744 = (idx : Int))
    (hi : idx < 64) (hk : k < 64) (hcell : w.cell? ⟨1, idx, none⟩ = some (.int .u8 (k : Int))) :
    Calls Tryd.prog 61 #[.int .u64 (x : Int)] w fun e w' => e = .returned (.int .i64 (k : Int)) ∧ w' = w := by
  go_enter Tryd.func61, Tryd.ntmps61
  go_wp2_with (simp only [key])
  go_ret
  exact ⟨rfl, rfl⟩

theorem tz_any (x : Nat) (w : World) (hx0 : x ≠ 0) (hx : x < 18446744073709551616) (hT : Tab w) :
    Calls Tryd.prog 61 #[.int .u64 (x : Int)] w fun e w' => e = .returned (.int .i64 (Lib.ctz 64 x : Int)) ∧ w' = w := by
  obtain ⟨hlow, hk⟩ := Lib.lowest_bit 64 x hx0 hx
  obtain ⟨hi, htab⟩ := Lib.deBruijn64_at _ hk
  have hcell := hT _ hi
  rw [htab] at hcell
  exact tz_core x _ _ w (by simp; omega) (tz64_key x _ hx hx0 hlow) hi hk hcell

theorem wordSo_any (b g n : Nat) (ws : List Nat) (on : Bool) (i : Nat) (w : World) (hB : Bits w b g n ws) (hi : i < ws.length) :
    Calls Tryd.prog 78 #[.pointer (some ⟨b, 0, none⟩), .bool on, .int .i64 (i : Int)] w fun e w' => e = .returned (.int .u64 (so on (ws[i]?.getD 0) : Int)) ∧ w' = w := by
  have h1 := hB.c1
  have h2 := hB.at i hi
  have h3 := hB.ok.word i
  have h4 : ws.length ≤ 16384 := by rw [hB.ok.len]; have := hB.small; omega
  clear hB
  generalize ws[i]?.getD 0 = x at *
  cases on
  · go_enter Tryd.func78, Tryd.ntmps78
    go_wp2
    go_ret
    refine ⟨ret_int ?_, rfl⟩
    rw [show IntKind.u64.max = ((18446744073709551615 : Nat) : Int) from by decide, u64_xor_nat _ _ (by omega) h3, xor_ones x h3]
    rfl
  · go_enter Tryd.func78, Tryd.ntmps78
    go_wp2
    go_ret
    exact ⟨rfl, rfl⟩

theorem info99 : (Tryd.prog.info? 99).map (fun i => (i.zero, i.size, i.bytes)) = some (some (.int .u64 0), 1, 8) := by kernel_rfl

theorem madeWords (k : Nat) : madeCells #[.int .u64 0] k = wv (List.replicate k 0) := by
  apply Array.ext'
  simp [madeCells, wv, Nat.mod_one, List.map_const']

set_option maxRecDepth 100000 in
theorem new_raw (n k : Nat) (w : World) (h1 : n ≤ 1048576) (hk : ((n : Int) + 63) / 64 = (k : Int)) :
    Calls Tryd.prog 34 #[.int .i64 (n : Int)] w fun e w' => e = .returned (.pointer (some ⟨w.heap.size + 1, 0, none⟩)) ∧
      w' = (w.alloc (.cells (madeCells #[.int .u64 0] k) 99)).alloc (.cells #[.int .i64 (n : Int), .slice (some ⟨w.heap.size, 0, none⟩) k k] 102) := by
  have hmk := run_make_row' (P := Tryd.prog) 100 99 (.int .u64 0) 8 Tryd.underlying100 info99 rfl .i64 .i64 k (by omega) (by omega)
  go_enter Tryd.func34, Tryd.ntmps34
  go_wp2_with (go_at_call 62; refine (wordsOf_any n _ (by omega) (by omega)).mono ?_; rintro e w' ⟨rfl, rfl⟩; rw [hk])
  go_ret
  exact ⟨rfl, rfl⟩

theorem new_no (w : World) : Calls Tryd.prog 34 #[.int .i64 (-1)] w fun e w' => e = .returned (.pointer none) ∧ w' = w := by
  go_enter Tryd.func34, Tryd.ntmps34
  go_wp2
  go_ret
  exact ⟨rfl, rfl⟩

theorem zero_ok (n : Nat) : Okm n (List.replicate ((n + 63) / 64) 0) := by
  have e : ∀ k m : Nat, (List.replicate m 0)[k]?.getD 0 = 0 := fun k m => by
    rw [List.getElem?_replicate]
    split <;> rfl
  refine ⟨by simp, fun k => by rw [e]; omega, fun i _ => ?_⟩
  unfold bit
  rw [e, Nat.zero_testBit]

/-- New: a map whose bits are all off. -/
theorem new_ok (n : Nat) (w : World) (h1 : n ≤ 1048576) :
    Calls Tryd.prog 34 #[.int .i64 (n : Int)] w fun e w' => ∃ b g, e = .returned (.pointer (some ⟨b, 0, none⟩)) ∧ Bits w' b g n (List.replicate ((n + 63) / 64) 0) ∧ Below w.heap.size w w' ∧ w.heap.size ≤ b ∧ w.heap.size ≤ g := by
  refine (new_raw n ((n + 63) / 64) w h1 (by omega)).mono ?_
  rintro e w' ⟨rfl, rfl⟩
  refine ⟨w.heap.size + 1, w.heap.size, rfl, ⟨?_, ?_, by omega, h1, zero_ok n⟩, ?_, by omega, by omega⟩
  · rw [heap_alloc2_new, List.length_replicate]
  · rw [heap_alloc2_old, madeWords]
  · exact ((Below.refl _ _).alloc (Nat.le_refl _) _).alloc (by simp) _

def getB (n : Nat) (ws : List Nat) (i : Int) : Bool := hasB n i && bit ws i.toNat

theorem has_no (b n : Nat) (i : Int) (w : World) (hc : w.cell? ⟨b, 0, none⟩ = some (.int .i64 (n : Int))) (hh : hasB n i = false) :
    Calls Tryd.prog 63 #[.pointer (some ⟨b, 0, none⟩), .int .i64 i] w fun e w' => e = .returned (.bool false) ∧ w' = w := by
  rw [← hh]; exact has_cell b n i w hc
theorem has_yes (b n : Nat) (i : Int) (w : World) (hc : w.cell? ⟨b, 0, none⟩ = some (.int .i64 (n : Int))) (hh : hasB n i = true) :
    Calls Tryd.prog 63 #[.pointer (some ⟨b, 0, none⟩), .int .i64 i] w fun e w' => e = .returned (.bool true) ∧ w' = w := by
  rw [← hh]; exact has_cell b n i w hc

theorem get_no (b n : Nat) (i : Int) (w : World) (hc : w.cell? ⟨b, 0, none⟩ = some (.int .i64 (n : Int))) (hh : hasB n i = false) :
    Calls Tryd.prog 39 #[.pointer (some ⟨b, 0, none⟩), .int .i64 i] w fun e w' => e = .returned (.bool false) ∧ ∃ k, w' = w.drewN k := by
  have HH := hid hh
  clear hh
  go_enter Tryd.func39, Tryd.ntmps39
  go_wp2
  go_quiet ((go_at_call 63; exact Calls.quiet_of_same (has_no b n i _ hc HH.out)))
  go_wp2
  go_ret
  exact ⟨rfl, nq, rfl⟩

theorem bit_ne (ws : List Nat) (i : Nat) (x : Nat) (hx : ws[i / 64]?.getD 0 = x) (h3 : x < 18446744073709551616) : (bits .and .u64 (x : Int) ((2 ^ (i % 64) : Nat) : Int) != 0) = bit ws i := by
  have h : 2 ^ (i % 64) < 2 ^ 64 := Nat.pow_lt_pow_right (by omega) (Nat.mod_lt _ (by omega))
  rw [u64_and_nat _ _ h3 h]
  have := and_bit x (i % 64)
  unfold bit
  rw [hx]
  cases hb : x.testBit (i % 64)
  · have h0 := this.2 hb
    rw [h0]; rfl
  · have h0 : ¬ (x &&& 2 ^ (i % 64) = 0) := fun h => by rw [this.1 h] at hb; cases hb
    rw [bne_iff_ne]
    omega

theorem bitOf_p (i p : Nat) (w : World) (h : i < 1048576) (hp : p = 2 ^ (i % 64)) :
    Calls Tryd.prog 64 #[.int .i64 (i : Int)] w fun e w' => e = .returned (.int .u64 (p : Int)) ∧ w' = w := by
  subst hp; exact bitOf_any i w h

theorem wrap_i (n : Int) (h0 : 0 ≤ n) (h1 : n < 9223372036854775808) : IntKind.i64.wrap n = n := by
  simp [IntKind.wrap, IntKind.bits, IntKind.signed]; omega

theorem get_in (b g n : Nat) (ws : List Nat) (i : Nat) (w : World) (hB : Bits w b g n ws) (hi : i < n) :
    Calls Tryd.prog 39 #[.pointer (some ⟨b, 0, none⟩), .int .i64 (i : Int)] w fun e w' => e = .returned (.bool (bit ws i)) ∧ ∃ k, w' = w.drewN k := by
  have h0 := hB.c0
  have h1 := hB.c1
  have h2 := hB.at (i / 64) (by rw [hB.ok.len]; omega)
  have h3 := hB.ok.word (i / 64)
  have h4 : ws.length ≤ 16384 := by rw [hB.ok.len]; have := hB.small; omega
  have h5 : i / 64 < ws.length := by rw [hB.ok.len]; omega
  have h6 := hB.small
  have hh : hasB n i = true := by unfold hasB; rw [decide_eq_true (by omega)]
  obtain ⟨x, hx⟩ : ∃ x, ws[i / 64]?.getD 0 = x := ⟨_, rfl⟩
  rw [hx] at h2 h3
  have hn := hid (bit_ne ws i x hx h3)
  obtain ⟨q, hq⟩ : ∃ q, q = i / 64 := ⟨_, rfl⟩
  obtain ⟨p, hp⟩ : ∃ p : Nat, p = 2 ^ (i % 64) := ⟨_, rfl⟩
  rw [← hq] at h2 h5
  have hq' : (i : Int) / 64 = (q : Int) := by omega
  have hlt : (q : Int) < (ws.length : Int) := by omega
  have hqw := wrap_i (q : Int) (by omega) (by omega)
  have HH := hid hh
  have HP := hid hp
  rw [← hp] at hn
  clear hB hh hp hx hq
  go_enter Tryd.func39, Tryd.ntmps39
  go_wp2
  go_quiet ((first | (go_at_call 63; exact Calls.quiet_of_same (has_yes b n i _ h0 HH.out)) | (go_at_call 64; exact Calls.quiet_of_same (bitOf_p i p _ (by omega) HP.out))))
  go_wp2
  go_ret
  exact ⟨ret_bool hn.out, nq, rfl⟩

theorem get_any (b g n : Nat) (ws : List Nat) (i : Int) (w : World) (hB : Bits w b g n ws) :
    Calls Tryd.prog 39 #[.pointer (some ⟨b, 0, none⟩), .int .i64 i] w fun e w' => e = .returned (.bool (getB n ws i)) ∧ ∃ k, w' = w.drewN k := by
  by_cases h : 0 ≤ i ∧ i < (n : Int)
  · obtain ⟨k, rfl⟩ := Int.eq_ofNat_of_zero_le h.1
    have e : getB n ws (k : Int) = bit ws k := by unfold getB hasB; rw [decide_eq_true h, Int.toNat_natCast, Bool.true_and]
    rw [e]
    exact get_in b g n ws k w hB (by omega)
  · have e : hasB n i = false := by unfold hasB; rw [decide_eq_false h]
    rw [show getB n ws i = false from by unfold getB; rw [e]; rfl]
    exact get_no b n i w hB.c0 e
end Go.Proofs.YtohaoeilodebmaaDoor
