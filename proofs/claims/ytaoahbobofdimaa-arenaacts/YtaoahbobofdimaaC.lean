/- Contracts of Load, Fill and Store: what each call answers and what it does to memory. -/
import Derived.Test.YtaoahbobofdimaaB
import Derived.RegionTactic
import Derived.ChangeAlike
namespace Go.Proofs.Ytaoahbobofdimaa
open Go.RowKit

theorem load_er (b g : Nat) (n : Nat) (at_ : Int) (w : World) (hn : n ≤ 1073741824) (ha : at_ < 9223372036854775808) (er : Int) (h0 : (er != 0) = true)
    (hc : w.cell? ⟨b, 0, none⟩ = some (.slice (some ⟨g, 0, none⟩) n n)) (hr : (if errRange n at_ (8 * (1 : Nat)) = 2 then 2 else if at_ % 8 = 0 then 0 else 3) = er) :
    Calls Try.prog 12 #[.pointer (some ⟨b, 0, none⟩), .int .i64 at_] w fun e w' => e = .returned (.tuple #[.int .u64 0, .int .i64 er]) ∧ w' = w := by
  have HR := hr; clear hr
  go_enter Try.func12, Try.ntmps12
  go_wp2_with (go_at_call 26; refine (checkWords_cell b g n _ 1 _ hn ha (by omega) hc).mono ?_; rintro e w' ⟨rfl, rfl⟩; rw [HR])
  go_ret2
  exact ⟨rfl, rfl⟩

theorem load_nil (at_ : Int) (w : World) :
    Calls Try.prog 12 #[.pointer none, .int .i64 at_] w fun e w' => e = .returned (.tuple #[.int .u64 0, .int .i64 1]) ∧ w' = w := by
  go_enter Try.func12, Try.ntmps12
  go_wp2_with (go_at_call 26; refine (checkWords_nil _ _ _).mono ?_; rintro e w' ⟨rfl, rfl⟩)
  go_ret2
  exact ⟨rfl, rfl⟩

theorem load_some (b g : Nat) (m : List Int) (at_ : Nat) (w : World) (hA : Arena w b g m) (ha : at_ + 8 ≤ m.length) (h8 : (at_ : Int) % 8 = 0) :
    Calls Try.prog 12 #[.pointer (some ⟨b, 0, none⟩), .int .i64 at_] w fun e w' => e = .returned (.tuple #[.int .u64 (word8 (m[at_]?.getD 0) (m[at_+1]?.getD 0) (m[at_+2]?.getD 0) (m[at_+3]?.getD 0) (m[at_+4]?.getD 0) (m[at_+5]?.getD 0) (m[at_+6]?.getD 0) (m[at_+7]?.getD 0)), .int .i64 0]) ∧ Below w.heap.size w w' := by
  have hc := hA.cell
  have hn := hA.small
  have hbl : b < w.heap.size := (Array.getElem?_eq_some_iff.1 hA.head).1
  have hgl : g < w.heap.size := (Array.getElem?_eq_some_iff.1 hA.body).1
  have hr : (if errRange m.length at_ (8 * (1 : Nat)) = 2 then 2 else if (at_ : Int) % 8 = 0 then 0 else 3) = (0 : Int) := by
    rw [er_d (by omega), if_neg (by omega), if_pos h8]
  have hne : m.length ≠ at_ := by omega
  have hle : at_ ≤ m.length := by omega
  have hcp := run_copy_row (P := Try.prog) (w.alloc (.cells #[.int .u8 0, .int .u8 0, .int .u8 0, .int .u8 0, .int .u8 0, .int .u8 0, .int .u8 0, .int .u8 0] 61)).drew 32 32 3 5 w.heap.size 0 8 8 ⟨g, at_, none⟩ (m.length - at_) (m.length - at_)
    #[.int .u8 0, .int .u8 0, .int .u8 0, .int .u8 0, .int .u8 0, .int .u8 0, .int .u8 0, .int .u8 0] 61
    [.int .u8 (m[at_]?.getD 0), .int .u8 (m[at_+1]?.getD 0), .int .u8 (m[at_+2]?.getD 0), .int .u8 (m[at_+3]?.getD 0), .int .u8 (m[at_+4]?.getD 0), .int .u8 (m[at_+5]?.getD 0), .int .u8 (m[at_+6]?.getD 0), .int .u8 (m[at_+7]?.getD 0)] Try.underlying32 info5s
    (by rw [heap_drew, heap_alloc_new]) (by rw [show Nat.min (m.length - at_) 8 = 8 from Nat.min_eq_right (by omega)]; rfl)
    (by
      intro j v hj
      rw [addr_add, World.cell?_drew, World.cell?_alloc_lt (a := ⟨g, at_ + j, none⟩) (h := hgl)]
      match j, hj with
      | 0, hj | 1, hj | 2, hj | 3, hj | 4, hj | 5, hj | 6, hj | 7, hj => rw [hA.at _ (by omega)]; exact hj
      | (n + 8), hj => simp at hj)
    (by simp) (by simp [Value.oneCell'])
  have hcp' : (Builtin.copy_ #[32, 32] 3 #[.slice (some ⟨w.heap.size, 0, none⟩) 8 8, .slice (some ⟨g, at_, none⟩) (m.length - at_) (m.length - at_)]).run Try.prog (w.alloc (.cells #[.int .u8 0, .int .u8 0, .int .u8 0, .int .u8 0, .int .u8 0, .int .u8 0, .int .u8 0, .int .u8 0] 61)).drew = .ok (goInt 8) (w.alloc (.cells #[.int .u8 (m[at_]?.getD 0), .int .u8 (m[at_+1]?.getD 0), .int .u8 (m[at_+2]?.getD 0), .int .u8 (m[at_+3]?.getD 0), .int .u8 (m[at_+4]?.getD 0), .int .u8 (m[at_+5]?.getD 0), .int .u8 (m[at_+6]?.getD 0), .int .u8 (m[at_+7]?.getD 0)] 61)).drew := by
    rw [hcp]
    congr 1
    exact congrArg World.drew (setRow_alloc _ _ _ _)
  clear hcp
  have hby := hA.byte
  clear hA
  go_enter Try.func12, Try.ntmps12
  go_wp2_with (go_at_call 26; refine (checkWords_cell b g m.length _ 1 _ hn (by omega) (by omega) hc).mono ?_; rintro e w' ⟨rfl, rfl⟩; rw [hr])
  go_region
  go_wp2_with (go_at_call 27; refine (join_any _ _ _ _ _ _ _ _ _ (hby _).1 (hby _).2 (hby _).1 (hby _).2 (hby _).1 (hby _).2 (hby _).1 (hby _).2 (hby _).1 (hby _).2 (hby _).1 (hby _).2 (hby _).1 (hby _).2 (hby _).1 (hby _).2).mono ?_; rintro e w1 ⟨rfl, rfl⟩)
  go_ret2
  refine ⟨rfl, ?_⟩
  exact ((Below.refl _ _).alloc (Nat.le_refl _) _).drew.alloc (by simp) _

theorem fill_er (b g : Nat) (n : Nat) (at_ k c : Int) (w : World) (hn : n ≤ 1073741824) (ha : at_ < 9223372036854775808)
    (hc : w.cell? ⟨b, 0, none⟩ = some (.slice (some ⟨g, 0, none⟩) n n)) (hr : errRange n at_ k = 2) :
    Calls Try.prog 17 #[.pointer (some ⟨b, 0, none⟩), .int .i64 at_, .int .i64 k, .int .u8 c] w fun e w' => e = .returned (.int .i64 2) ∧ w' = w := by
  go_enter Try.func17, Try.ntmps17
  go_wp2_with (go_at_call 28; refine (checkRange_cell b g n _ _ _ hn ha hc).mono ?_; rintro e w' ⟨rfl, rfl⟩; rw [hr])
  go_ret
  exact ⟨rfl, rfl⟩

theorem fill_nil (at_ k c : Int) (w : World) :
    Calls Try.prog 17 #[.pointer none, .int .i64 at_, .int .i64 k, .int .u8 c] w fun e w' => e = .returned (.int .i64 1) ∧ w' = w := by
  go_enter Try.func17, Try.ntmps17
  go_wp2_with (go_at_call 28; refine (checkRange_nil _ _ _).mono ?_; rintro e w' ⟨rfl, rfl⟩)
  go_ret
  exact ⟨rfl, rfl⟩

theorem fill_some (b g : Nat) (m : List Int) (at_ k : Nat) (c : Int) (w : World) (hA : Arena w b g m) (ha : at_ + k ≤ m.length) (h0 : 0 < k) :
    Calls Try.prog 17 #[.pointer (some ⟨b, 0, none⟩), .int .i64 at_, .int .i64 k, .int .u8 c] w fun e w' => e = .returned (.int .i64 0) ∧
      w'.heap[g]? = some (.cells (bv (putAt m at_ (List.replicate k c))) 5) ∧ But g w w' := by
  have hc := hA.cell
  have hn := hA.small
  have hr : errRange m.length at_ k = 0 := er_d (by omega)
  have hlt : at_ < m.length := by omega
  have hne : m.length ≠ at_ := by omega
  have hkk : at_ + k - at_ = k := by omega
  have hgb := hA.body
  clear hA
  go_enter Try.func17, Try.ntmps17
  go_wp2_with (go_at_call 28; refine (checkRange_cell b g m.length _ _ _ hn (by omega) hc).mono ?_; rintro e w' ⟨rfl, rfl⟩; rw [hr])
  go_loopw [30] (fun i wr => ∃ j : Nat, j ≤ k ∧ i = .int .i64 j ∧ Hid (wr.heap[g]? = some (.cells (bv (putAt m at_ (List.replicate j c))) 5)) ∧ But g w' wr) (fun i _ => k - (intOf i).toNat)
  case atStart => exact ⟨0, Nat.zero_le _, rfl, by simpa [Hid, putAt_nil] using hgb, But.refl _ _⟩
  case round =>
    obtain ⟨j, hj, rfl, hrow, hbut⟩ := hrel
    have hpl : (putAt m at_ (List.replicate j c)).length = m.length := putAt_length _ _ _ (by simp; omega)
    by_cases hlj : j < k
    · have hcell := cell_of_row _ g (at_ + j) _ _ _ hrow.out
      rw [bv_get _ _ (by rw [hpl]; omega)] at hcell
      have hfro := frozen_of_row _ g (at_ + j) _ _ hrow.out
      have hnext := heap_setCell_same _ g (at_ + j) _ _ (.int .u8 c) hrow.out
      rw [bv_set] at hnext
      have e := putAt_snoc m at_ (List.replicate j c) c (by simp; omega)
      rw [List.length_replicate] at e
      rw [e, ← List.replicate_succ'] at hnext
      have HN := hid hnext
      clear hnext e hpl hgb
      go_wp2
      exact ⟨⟨j + 1, by omega, by go_num, HN, hbut.setCell (.inl rfl) _⟩, by simp [intOf]; omega⟩
    · obtain rfl : j = k := by omega
      go_wp2
      go_ret
      exact ⟨rfl, hrow.out, hbut⟩

theorem fill_none (b g : Nat) (n : Nat) (at_ : Nat) (c : Int) (w : World) (hn : n ≤ 1073741824) (ha : at_ ≤ n)
    (hc : w.cell? ⟨b, 0, none⟩ = some (.slice (some ⟨g, 0, none⟩) n n)) :
    Calls Try.prog 17 #[.pointer (some ⟨b, 0, none⟩), .int .i64 at_, .int .i64 0, .int .u8 c] w fun e w' => e = .returned (.int .i64 0) ∧ w' = w := by
  have hr : errRange n at_ 0 = 0 := er_d (by omega)
  by_cases hna : n = at_
  all_goals
    go_enter Try.func17, Try.ntmps17
    go_wp2_with (go_at_call 28; refine (checkRange_cell b g n _ _ _ hn (by omega) hc).mono ?_; rintro e w' ⟨rfl, rfl⟩; rw [hr])
    refine wp_loop_rounds 1 ?_
    rw [rounds_succ]
    go_wp2
    go_ret
    exact ⟨rfl, rfl⟩

def bytesOf (x : Int) : List Int := [x % 256, x / 256 % 256, x / 65536 % 256, x / 16777216 % 256, x / 4294967296 % 256, x / 1099511627776 % 256, x / 281474976710656 % 256, x / 72057594037927936]
def wordsBytes (l : List Int) : List Int := l.flatMap bytesOf
theorem wordsBytes_length (l : List Int) : (wordsBytes l).length = 8 * l.length := by
  induction l with
  | nil => rfl
  | cons x r ih => simp [wordsBytes, bytesOf] at ih ⊢; omega
theorem putAt_append (m : List Int) (o : Nat) (xs ys : List Int) (h : o + xs.length + ys.length ≤ m.length) :
    putAt (putAt m o xs) (o + xs.length) ys = putAt m o (xs ++ ys) := by
  apply List.ext_getElem?
  intro i
  rw [putAt_get _ _ _ (by rw [putAt_length _ _ _ (by omega)]; omega), putAt_get m o xs (by omega), putAt_get m o (xs ++ ys) (by simp; omega)]
  rw [List.length_append, List.getElem?_append]
  by_cases h1 : i < o
  · have : i < o + xs.length := by omega
    simp [h1, this]
  · by_cases h2 : i < o + xs.length
    · have h3 : i < o + (xs.length + ys.length) := by omega
      have h4 : i - o < xs.length := by omega
      simp [h1, h2, h3, h4]
    · by_cases h3 : i < o + xs.length + ys.length
      · have h4 : i < o + (xs.length + ys.length) := by omega
        have h5 : ¬ i - o < xs.length := by omega
        simp only [h1, h2, h3, h4, h5, if_true, if_false]
        congr 1; omega
      · have h4 : ¬ i < o + (xs.length + ys.length) := by omega
        simp [h1, h2, h3, h4]

theorem store_er (b g : Nat) (n : Nat) (at_ : Int) (src : Option Addr) (len cap : Nat) (w : World) (hn : n ≤ 1073741824) (ha : at_ < 9223372036854775808) (hk : len ≤ 1000000000000) (er : Int) (h0 : (er != 0) = true)
    (hc : w.cell? ⟨b, 0, none⟩ = some (.slice (some ⟨g, 0, none⟩) n n)) (hr : (if errRange n at_ (8 * len) = 2 then 2 else if at_ % 8 = 0 then 0 else 3) = er) :
    Calls Try.prog 15 #[.pointer (some ⟨b, 0, none⟩), .int .i64 at_, .slice src len cap] w fun e w' => e = .returned (.int .i64 er) ∧ w' = w := by
  go_enter Try.func15, Try.ntmps15
  go_wp2_with (go_at_call 26; refine (checkWords_cell b g n _ len _ hn ha hk hc).mono ?_; rintro e w' ⟨rfl, rfl⟩; rw [hr])
  go_ret
  exact ⟨rfl, rfl⟩

theorem store_nil (at_ : Int) (src : Option Addr) (len cap : Nat) (w : World) :
    Calls Try.prog 15 #[.pointer none, .int .i64 at_, .slice src len cap] w fun e w' => e = .returned (.int .i64 1) ∧ w' = w := by
  go_enter Try.func15, Try.ntmps15
  go_wp2_with (go_at_call 26; refine (checkWords_nil _ _ _).mono ?_; rintro e w' ⟨rfl, rfl⟩)
  go_ret
  exact ⟨rfl, rfl⟩

theorem store_none (b g : Nat) (n : Nat) (at_ : Nat) (src : Option Addr) (cap : Nat) (w : World) (hn : n ≤ 1073741824) (ha : at_ ≤ n) (h8 : (at_ : Int) % 8 = 0)
    (hc : w.cell? ⟨b, 0, none⟩ = some (.slice (some ⟨g, 0, none⟩) n n)) :
    Calls Try.prog 15 #[.pointer (some ⟨b, 0, none⟩), .int .i64 at_, .slice src 0 cap] w fun e w' => e = .returned (.int .i64 0) ∧ w' = w := by
  have hr : (if errRange n at_ (8 * (0 : Nat)) = 2 then 2 else if (at_ : Int) % 8 = 0 then 0 else 3) = (0 : Int) := by
    rw [er_d (by omega), if_neg (by omega), if_pos h8]
  go_enter Try.func15, Try.ntmps15
  go_wp2_with (go_at_call 26; refine (checkWords_cell b g n _ 0 _ hn (by omega) (by omega) hc).mono ?_; rintro e w' ⟨rfl, rfl⟩; rw [hr])
  refine wp_loop_rounds 1 ?_
  rw [rounds_succ]
  go_wp2
  go_ret
  exact ⟨rfl, rfl⟩

theorem store_some (b g : Nat) (m ws : List Int) (at_ : Nat) (s o cap : Nat) (w : World) (hA : Arena w b g m) (ha : at_ + 8 * ws.length ≤ m.length) (h8 : (at_ : Int) % 8 = 0)
    (hs : s < w.heap.size) (hsg : s ≠ g) (hsrc : ∀ j, j < ws.length → w.cell? ⟨s, o + j, none⟩ = some (.int .u64 (ws[j]?.getD 0))) (hws : ∀ j : Nat, 0 ≤ ws[j]?.getD 0 ∧ ws[j]?.getD 0 < 18446744073709551616) :
    Calls Try.prog 15 #[.pointer (some ⟨b, 0, none⟩), .int .i64 at_, .slice (some ⟨s, o, none⟩) ws.length cap] w fun e w' => e = .returned (.int .i64 0) ∧
      w'.heap[g]? = some (.cells (bv (putAt m at_ (wordsBytes ws))) 5) ∧ But g w w' := by
  have hc := hA.cell
  have hn := hA.small
  have hr : (if errRange m.length at_ (8 * ws.length) = 2 then 2 else if (at_ : Int) % 8 = 0 then 0 else 3) = (0 : Int) := by
    rw [er_d (by omega), if_neg (by omega), if_pos h8]
  have hgb := hA.body
  have hbg := hA.unlike
  have hbl : b < w.heap.size := (Array.getElem?_eq_some_iff.1 hA.head).1
  have hgl : g < w.heap.size := (Array.getElem?_eq_some_iff.1 hA.body).1
  have hhd := hid hA.head
  have hsr := hid hsrc
  clear hA hsrc
  go_enter Try.func15, Try.ntmps15
  go_wp2_with (go_at_call 26; refine (checkWords_cell b g m.length _ ws.length _ hn (by omega) (by omega) hc).mono ?_; rintro e w' ⟨rfl, rfl⟩; rw [hr])
  go_loopw [21] (fun i wr => ∃ j : Nat, j ≤ ws.length ∧ i = .int .i64 j ∧ Hid (wr.heap[g]? = some (.cells (bv (putAt m at_ (wordsBytes (ws.take j)))) 5)) ∧ But g w' wr) (fun i _ => ws.length - (intOf i).toNat)
  case atStart => exact ⟨0, Nat.zero_le _, rfl, by simpa [Hid, putAt_nil, wordsBytes] using hgb, But.refl _ _⟩
  case round =>
    obtain ⟨j, hj, rfl, hrow, hbut⟩ := hrel
    by_cases hlj : j < ws.length
    · have hcb : wr.cell? ⟨b, 0, none⟩ = some (.slice (some ⟨g, 0, none⟩) m.length m.length) := by
        rw [cell_of_row wr b 0 _ _ _ ((hbut.block b hbl hbg).trans hhd.out)]; rfl
      have hcs : wr.cell? ⟨s, o + j, none⟩ = some (.int .u64 (ws[j]?.getD 0)) := by
        rw [World.cell?_of_block (w := w') (hbut.block s hs hsg)]; exact hsr.out j hlj
      obtain ⟨hx0, hx1⟩ := hws j
      generalize hx : ws[j]?.getD 0 = x at *
      have HX := hid hx
      clear hx hws hc
      go_wp2_with (go_at_call 29; refine (split_any x _ hx0 hx1).mono ?_; rintro e w1 ⟨rfl, hb1⟩)
      have hs1 := hb1.size
      have hs2 := hbut.size
      have hpl : (putAt m at_ (wordsBytes (List.take j ws))).length = m.length := putAt_length _ _ _ (by rw [wordsBytes_length, List.length_take]; omega)
      have hcb1 : w1.cell? ⟨b, 0, none⟩ = some (.slice (some ⟨g, 0, none⟩) m.length m.length) := by
        rw [hb1.cell (p := ⟨b, 0, none⟩) (by show b < _; omega)]; exact hcb
      have hbl1 : b < w1.heap.size := by omega
      have hrow1 : w1.heap[g]? = some (.cells (bv (putAt m at_ (wordsBytes (List.take j ws)))) 5) := by
        rw [hb1.block g (by omega)]; exact hrow.out
      have hcp := copy_bytes (P := Try.prog) (w1.alloc (.cells #[.int .u8 (x % 256), .int .u8 (x / 256 % 256), .int .u8 (x / 65536 % 256), .int .u8 (x / 16777216 % 256), .int .u8 (x / 4294967296 % 256), .int .u8 (x / 1099511627776 % 256), .int .u8 (x / 281474976710656 % 256), .int .u8 (x / 72057594037927936)] 61)).drew 32 32 3 5
        g (at_ + j * 8) (m.length - (at_ + j * 8)) (m.length - (at_ + j * 8)) ⟨w1.heap.size, 0, none⟩ 8 8 _ (bytesOf x) 5 Try.underlying32 info5s
        (by rw [heap_drew, Below.heap_alloc _ _ _ (by omega)]; exact hrow1) (by rw [show Nat.min 8 (m.length - (at_ + j * 8)) = 8 from Nat.min_eq_left (by omega)]; rfl)
        (by
          intro i v hi
          rw [addr_add, World.cell?_drew, cell_of_row _ _ _ _ _ _ (heap_alloc_new _ _), Nat.zero_add]
          simpa [bytesOf] using hi)
        (by rw [hpl, show (bytesOf x).length = 8 from rfl]; omega)
      have hne : m.length ≠ at_ + j * 8 := by omega
      have hle : at_ + j * 8 ≤ m.length := by omega
      have hnext : putAt (putAt m at_ (wordsBytes (List.take j ws))) (at_ + j * 8) (bytesOf x) = putAt m at_ (wordsBytes (List.take (j + 1) ws)) := by
        have e1 : (wordsBytes (List.take j ws)).length = j * 8 := by rw [wordsBytes_length, List.length_take]; omega
        have e2 : List.take (j + 1) ws = List.take j ws ++ [x] := by
          rw [List.take_succ_eq_append_getElem hlj, ← HX.out, List.getElem?_eq_getElem hlj]; rfl
        have e3 := putAt_append m at_ (wordsBytes (List.take j ws)) (bytesOf x) (by rw [e1, show (bytesOf x).length = 8 from rfl]; omega)
        rw [e1] at e3
        rw [e3, e2]
        congr 1
        simp [wordsBytes]
      rw [hnext, show ((bytesOf x).length : Int) = 8 from rfl] at hcp
      have HR1 := hid hrow1
      clear hnext hrow1 hpl hgb hcb hcs
      go_region
      go_wp2
      refine ⟨⟨j + 1, by omega, by go_num, ?_, ?_⟩, by simp [intOf]; omega⟩
      · exact setRow_heap _ g _ _ 5 _ (by rw [heap_drew, Below.heap_alloc _ _ _ (by omega)]; exact HR1.out)
      · exact ((hbut.trans (But.of_below hb1)).alloc _).drew.setRow (.inl rfl) _
    · obtain rfl : j = ws.length := by omega
      rw [List.take_length] at hrow
      go_wp2
      go_ret
      exact ⟨rfl, hrow.out, hbut⟩

end Go.Proofs.Ytaoahbobofdimaa
