/- Contracts of the document's own arena (package quartermasterref01): what each call answers and what it does to memory. -/
import Derived.Test.YtaoahbobofdimaaF
import Derived.Deep.AppendSrc
namespace Go.Proofs.Ytaoahbobofdimaa
open Go.RowKit

/-- The document's arena at block b has the bytes m, in block g. -/
structure Ref (w : World) (b g : Nat) (m : List Int) : Prop where
  head : w.heap[b]? = some (.cells #[.int .i64 m.length, .slice (some ⟨g, 0, none⟩) m.length m.length] 65)
  body : w.heap[g]? = some (.cells (bv m) 5)
  unlike : b ≠ g
  small : m.length ≤ 1073741824
  byte : Byte m

theorem Ref.size {w : World} {b g : Nat} {m : List Int} (h : Ref w b g m) : w.cell? ⟨b, 0, none⟩ = some (.int .i64 m.length) := by
  rw [cell_of_row w b 0 _ _ _ h.head]; rfl
theorem Ref.cell {w : World} {b g : Nat} {m : List Int} (h : Ref w b g m) : w.cell? ⟨b, 1, none⟩ = some (.slice (some ⟨g, 0, none⟩) m.length m.length) := by
  rw [cell_of_row w b 1 _ _ _ h.head]; rfl
theorem Ref.at {w : World} {b g : Nat} {m : List Int} (h : Ref w b g m) (i : Nat) (hi : i < m.length) : w.cell? ⟨g, i, none⟩ = some (.int .u8 (m[i]?.getD 0)) := by
  rw [cell_of_row w g i _ _ _ h.body, bv_get m i hi]
theorem Ref.lt {w : World} {b g : Nat} {m : List Int} (h : Ref w b g m) : b < w.heap.size ∧ g < w.heap.size :=
  ⟨(Array.getElem?_eq_some_iff.1 h.head).1, (Array.getElem?_eq_some_iff.1 h.body).1⟩
theorem Ref.turn {w w' : World} {b g : Nat} {m m' : List Int} (hA : Ref w b g m) (hb : But g w w') (hrow : w'.heap[g]? = some (.cells (bv m') 5)) (hl : m'.length = m.length) (hby : Byte m') : Ref w' b g m' :=
  ⟨by rw [hb.block b hA.lt.1 hA.unlike, hA.head, hl], hrow, hA.unlike, by rw [hl]; exact hA.small, hby⟩
theorem Ref.but {w w' : World} {b g r : Nat} {m : List Int} (hA : Ref w b g m) (hb : But r w w') (h1 : b ≠ r) (h2 : g ≠ r) : Ref w' b g m :=
  ⟨by rw [hb.block b hA.lt.1 h1]; exact hA.head, by rw [hb.block g hA.lt.2 h2]; exact hA.body, hA.unlike, hA.small, hA.byte⟩
theorem Ref.below {w w' : World} {b g : Nat} {m : List Int} (hA : Ref w b g m) (hb : Below w.heap.size w w') : Ref w' b g m :=
  ⟨by rw [hb.block b hA.lt.1]; exact hA.head, by rw [hb.block g hA.lt.2]; exact hA.body, hA.unlike, hA.small, hA.byte⟩
theorem Arena.but {w w' : World} {b g r : Nat} {m : List Int} (hA : Arena w b g m) (hb : But r w w') (h1 : b ≠ r) (h2 : g ≠ r) : Arena w' b g m :=
  ⟨by rw [hb.block b hA.lt.1 h1]; exact hA.head, by rw [hb.block g hA.lt.2 h2]; exact hA.body, hA.unlike, hA.small, hA.byte⟩

theorem er_02 (n at_ k : Int) : errRange n at_ k = 0 ∨ errRange n at_ k = 2 := by unfold errRange; split <;> simp
theorem er_0 {n at_ k : Int} (h : errRange n at_ k = 0) : 0 ≤ at_ ∧ 0 ≤ k ∧ at_ + k ≤ n := by
  unfold errRange at h
  split at h
  · simp at h
  · omega

set_option maxHeartbeats 1000000 in
theorem in_true (b g : Nat) (m : List Int) (at_ k : Int) (w : World) (hR : Ref w b g m) (h : errRange m.length at_ k = 0) :
    Calls Try.prog 30 #[.pointer (some ⟨b, 0, none⟩), .int .i64 at_, .int .i64 k] w fun e w' => e = .returned (.bool true) ∧ w' = w := by
  obtain ⟨h0, h1, h2⟩ := er_0 h
  have hs := hR.size
  have hn := hR.small
  have h3 : at_ ≤ m.length := by omega
  have h4 : k ≤ m.length := by omega
  clear h hR
  go_enter Try.func30, Try.ntmps30
  go_wp2
  go_ret
  exact ⟨rfl, rfl⟩

set_option maxHeartbeats 1000000 in
theorem in_false (b g : Nat) (m : List Int) (at_ k : Int) (w : World) (hR : Ref w b g m) (h : errRange m.length at_ k = 2) :
    Calls Try.prog 30 #[.pointer (some ⟨b, 0, none⟩), .int .i64 at_, .int .i64 k] w fun e w' => e = .returned (.bool false) ∧ w' = w := by
  have hs := hR.size
  have hn := hR.small
  have hd : at_ < 0 ∨ (0 ≤ at_ ∧ k < 0) ∨ (0 ≤ at_ ∧ 0 ≤ k ∧ (m.length : Int) < at_) ∨ (0 ≤ at_ ∧ 0 ≤ k ∧ at_ ≤ m.length ∧ (m.length : Int) < k) ∨ (0 ≤ at_ ∧ 0 ≤ k ∧ at_ ≤ m.length ∧ k ≤ m.length ∧ (m.length : Int) < at_ + k) := by
    unfold errRange at h
    split at h
    · omega
    · simp at h
  clear h hR
  rcases hd with h | ⟨h, k1⟩ | ⟨h, k1, k2⟩ | ⟨h, k1, k2, k3⟩ | ⟨h, k1, k2, k3, k4⟩
  all_goals
    go_enter Try.func30, Try.ntmps30
    go_wp2
    go_ret
    first | exact ⟨rfl, rfl⟩ | exact ⟨ret_bool (decide_eq_false (by omega)), rfl⟩

theorem rnew_ok (n : Nat) (w : World) (h1 : (65536 : Int) ≤ n) (h2 : (n : Int) ≤ 1073741824) :
    Calls Try.prog 18 #[.int .i64 n] w fun e w' => ∃ b g, e = .returned (.pointer (some ⟨b, 0, none⟩)) ∧ Ref w' b g (zeros n) ∧ Below w.heap.size w w' ∧ w.heap.size ≤ b ∧ w.heap.size ≤ g := by
  have hmk := run_make_row' (P := Try.prog) 32 5 (.int .u8 0) 1 Try.underlying32 info5 rfl .i64 .i64 n (by omega) (by omega)
  go_enter Try.func18, Try.ntmps18
  go_wp2
  go_ret
  refine ⟨w.heap.size + 1, w.heap.size, rfl, ⟨?_, ?_, by omega, ?_, ?_⟩, ?_, by omega, by omega⟩
  · rw [heap_alloc2_new, zeros_length]
  · rw [heap_alloc2_old, madeBytes]; rfl
  · rw [zeros_length]; omega
  · intro i; rw [zeros_get]; omega
  · exact ((Below.refl _ _).alloc (Nat.le_refl _) _).alloc (by simp) _

theorem rload_er (b g : Nat) (m : List Int) (at_ : Int) (w : World) (hR : Ref w b g m) (h : errRange m.length at_ 8 = 2) :
    Calls Try.prog 19 #[.pointer (some ⟨b, 0, none⟩), .int .i64 at_] w fun e w' => e = .returned (.tuple #[.int .u64 0, .int .i64 2]) ∧ w' = w := by
  go_enter Try.func19, Try.ntmps19
  go_wp2_with (go_at_call 30; refine (in_false b g m _ _ _ hR h).mono ?_; rintro e w' ⟨rfl, rfl⟩)
  go_ret2
  exact ⟨rfl, rfl⟩

theorem rload_al (b g : Nat) (m : List Int) (at_ : Int) (w : World) (hR : Ref w b g m) (h : errRange m.length at_ 8 = 0) (h8 : (at_ % 8 != 0) = true) :
    Calls Try.prog 19 #[.pointer (some ⟨b, 0, none⟩), .int .i64 at_] w fun e w' => e = .returned (.tuple #[.int .u64 0, .int .i64 3]) ∧ w' = w := by
  have h0 := (er_0 h).1
  go_enter Try.func19, Try.ntmps19
  go_wp2_with (go_at_call 30; refine (in_true b g m _ _ _ hR h).mono ?_; rintro e w' ⟨rfl, rfl⟩)
  go_ret2
  exact ⟨rfl, rfl⟩

theorem word_horner (b0 b1 b2 b3 b4 b5 b6 b7 : Int) : (((((((0 * 256 + b7) * 256 + b6) * 256 + b5) * 256 + b4) * 256 + b3) * 256 + b2) * 256 + b1) * 256 + b0 = word8 b0 b1 b2 b3 b4 b5 b6 b7 := by
  unfold word8; omega

set_option maxHeartbeats 2000000 in
theorem rload_ok (b g : Nat) (m : List Int) (a : Nat) (w : World) (hR : Ref w b g m) (ha : a + 8 ≤ m.length) (h8 : (((a : Int) % 8) != 0) = false) :
    Calls Try.prog 19 #[.pointer (some ⟨b, 0, none⟩), .int .i64 a] w fun e w' => e = .returned (.tuple #[.int .u64 (wordAt m a), .int .i64 0]) ∧ w' = w := by
  have h : errRange m.length a 8 = 0 := er_d (by omega)
  have hc := hR.cell
  have hn := hR.small
  have c0 := hR.at a (by omega)
  have c1 := hR.at (a + 1) (by omega)
  have c2 := hR.at (a + 2) (by omega)
  have c3 := hR.at (a + 3) (by omega)
  have c4 := hR.at (a + 4) (by omega)
  have c5 := hR.at (a + 5) (by omega)
  have c6 := hR.at (a + 6) (by omega)
  have c7 := hR.at (a + 7) (by omega)
  obtain ⟨d0, d0'⟩ := hR.byte a
  obtain ⟨d1, d1'⟩ := hR.byte (a + 1)
  obtain ⟨d2, d2'⟩ := hR.byte (a + 2)
  obtain ⟨d3, d3'⟩ := hR.byte (a + 3)
  obtain ⟨d4, d4'⟩ := hR.byte (a + 4)
  obtain ⟨d5, d5'⟩ := hR.byte (a + 5)
  obtain ⟨d6, d6'⟩ := hR.byte (a + 6)
  obtain ⟨d7, d7'⟩ := hR.byte (a + 7)
  have hin := hid (in_true b g m a 8 w hR h)
  unfold wordAt
  generalize m[a]?.getD 0 = b0 at *
  generalize m[a + 1]?.getD 0 = b1 at *
  generalize m[a + 2]?.getD 0 = b2 at *
  generalize m[a + 3]?.getD 0 = b3 at *
  generalize m[a + 4]?.getD 0 = b4 at *
  generalize m[a + 5]?.getD 0 = b5 at *
  generalize m[a + 6]?.getD 0 = b6 at *
  generalize m[a + 7]?.getD 0 = b7 at *
  clear hR h
  go_enter Try.func19, Try.ntmps19
  go_wp2_with (go_at_call 30; refine hin.out.mono ?_; rintro e w' ⟨rfl, rfl⟩)
  clear hin
  refine wp_loop_rounds 9 ?_
  rw [rounds_succ]; go_wp2
  rw [rounds_succ]; go_wp2
  rw [rounds_succ]; go_wp2
  rw [rounds_succ]; go_wp2
  rw [rounds_succ]; go_wp2
  rw [rounds_succ]; go_wp2
  rw [rounds_succ]; go_wp2
  rw [rounds_succ]; go_wp2
  rw [rounds_succ]; go_wp2
  go_ret2
  refine ⟨congrArg (fun n => Ending.returned (.tuple #[.int .u64 n, .int .i64 0])) ?_, rfl⟩
  unfold word8; omega

theorem rfill_er (b g : Nat) (m : List Int) (at_ k c : Int) (w : World) (hR : Ref w b g m) (h : errRange m.length at_ k = 2) :
    Calls Try.prog 24 #[.pointer (some ⟨b, 0, none⟩), .int .i64 at_, .int .i64 k, .int .u8 c] w fun e w' => e = .returned (.int .i64 2) ∧ w' = w := by
  go_enter Try.func24, Try.ntmps24
  go_wp2_with (go_at_call 30; refine (in_false b g m _ _ _ hR h).mono ?_; rintro e w' ⟨rfl, rfl⟩)
  go_ret
  exact ⟨rfl, rfl⟩

set_option maxHeartbeats 1000000 in
theorem rfill_ok (b g : Nat) (m : List Int) (a k : Nat) (c : Int) (w : World) (hR : Ref w b g m) (ha : a + k ≤ m.length) (hc : 0 ≤ c) (hc' : c ≤ 255) :
    Calls Try.prog 24 #[.pointer (some ⟨b, 0, none⟩), .int .i64 a, .int .i64 k, .int .u8 c] w fun e w' => e = .returned (.int .i64 0) ∧
      Ref w' b g (putAt m a (List.replicate k c)) ∧ But g w w' := by
  have h : errRange m.length a k = 0 := er_d (by omega)
  have hn := hR.small
  have HR := hid hR
  have hin := hid (in_true b g m a k w hR h)
  clear hR h
  go_enter Try.func24, Try.ntmps24
  go_wp2_with (go_at_call 30; refine hin.out.mono ?_; rintro e w' ⟨rfl, rfl⟩)
  clear hin
  go_loopw [9] (fun i wr => ∃ j : Nat, j ≤ k ∧ i = .int .i64 j ∧ Hid (Ref wr b g (putAt m a (List.replicate j c))) ∧ But g w' wr) (fun i _ => k - (intOf i).toNat)
  case atStart => exact ⟨0, Nat.zero_le _, rfl, by simpa [Hid, putAt_nil] using HR.out, But.refl _ _⟩
  case round =>
    obtain ⟨j, hj, rfl, hRr, hbut⟩ := hrel
    have hpl : (putAt m a (List.replicate j c)).length = m.length := putAt_length _ _ _ (by simp; omega)
    by_cases hlj : j < k
    · have hcb := hRr.out.cell
      have hcell := hRr.out.at (a + j) (by rw [hpl]; omega)
      rw [hpl] at hcb
      have hfro := frozen_of_row _ g (a + j) _ _ hRr.out.body
      have hnext := heap_setCell_same _ g (a + j) _ _ (.int .u8 c) hRr.out.body
      have e := putAt_snoc m a (List.replicate j c) c (by simp; omega)
      rw [List.length_replicate] at e
      rw [bv_set, e, ← List.replicate_succ'] at hnext
      have HN := hid hnext
      clear hnext e
      go_wp2
      exact ⟨⟨j + 1, by omega, by go_num, hRr.out.turn ((But.refl g wr).setCell (p := ⟨g, a + j, none⟩) (.inl rfl) _) HN.out (by rw [hpl, putAt_length _ _ _ (by simp; omega)]) (byte_putAt _ _ _ (by simp; omega) HR.out.byte (byte_replicate _ _ hc hc')), hbut.setCell (.inl rfl) _⟩, by simp [intOf]; omega⟩
    · obtain rfl : j = k := by omega
      go_wp2
      go_ret
      exact ⟨rfl, hRr.out, hbut⟩

theorem rwrite_er (b g : Nat) (m : List Int) (at_ : Int) (src : Option Addr) (len cap : Nat) (w : World) (hR : Ref w b g m) (h : errRange m.length at_ len = 2) :
    Calls Try.prog 23 #[.pointer (some ⟨b, 0, none⟩), .int .i64 at_, .slice src len cap] w fun e w' => e = .returned (.int .i64 2) ∧ w' = w := by
  go_enter Try.func23, Try.ntmps23
  go_wp2_with (go_at_call 30; refine (in_false b g m _ _ _ hR h).mono ?_; rintro e w' ⟨rfl, rfl⟩)
  go_ret
  exact ⟨rfl, rfl⟩

set_option maxHeartbeats 1000000 in
theorem rwrite_ok (b g : Nat) (m cs : List Int) (a : Nat) (src : Option Addr) (cap B : Nat) (w : World) (hR : Ref w b g m) (ha : a + cs.length ≤ m.length) (hB : B ≤ g) (hBw : B ≤ w.heap.size) (hI : Ints .u8 w B src cs) (hcs : Byte cs) :
    Calls Try.prog 23 #[.pointer (some ⟨b, 0, none⟩), .int .i64 a, .slice src cs.length cap] w fun e w' => e = .returned (.int .i64 0) ∧
      Ref w' b g (putAt m a cs) ∧ But g w w' := by
  have h : errRange m.length a cs.length = 0 := er_d (by omega)
  have hn := hR.small
  have HR := hid hR
  have hin := hid (in_true b g m a cs.length w hR h)
  clear hR h
  go_enter Try.func23, Try.ntmps23
  go_wp2_with (go_at_call 30; refine hin.out.mono ?_; rintro e w' ⟨rfl, rfl⟩)
  clear hin
  go_loopw [7] (fun i wr => ∃ j : Nat, j ≤ cs.length ∧ i = .int .i64 j ∧ Hid (Ref wr b g (putAt m a (cs.take j))) ∧ But g w' wr) (fun i _ => cs.length - (intOf i).toNat)
  case atStart => exact ⟨0, Nat.zero_le _, rfl, by simpa [Hid, putAt_nil] using HR.out, But.refl _ _⟩
  case round =>
    obtain ⟨j, hj, rfl, hRr, hbut⟩ := hrel
    have hpl : (putAt m a (cs.take j)).length = m.length := putAt_length _ _ _ (by simp; omega)
    by_cases hlj : j < cs.length
    · rcases hI with h0 | ⟨s, o, rfl, hs, hsrc⟩
      · omega
      have hcb := hRr.out.cell
      have hcell := hRr.out.at (a + j) (by rw [hpl]; omega)
      rw [hpl] at hcb
      have hfro := frozen_of_row _ g (a + j) _ _ hRr.out.body
      have hsj : wr.cell? ⟨s, o + j, none⟩ = some (.int .u8 (cs[j]?.getD 0)) := (World.cell?_of_block (w := w') (hbut.block s (by omega) (by omega))).trans (hsrc j hlj)
      have hnext := heap_setCell_same _ g (a + j) _ _ (.int .u8 (cs[j]?.getD 0)) hRr.out.body
      have e := putAt_snoc m a (cs.take j) (cs[j]?.getD 0) (by simp; omega)
      rw [List.length_take, Nat.min_eq_left (by omega)] at e
      have e2 : cs.take j ++ [cs[j]?.getD 0] = cs.take (j + 1) := by rw [List.take_succ_eq_append_getElem hlj, List.getElem?_eq_getElem hlj]; rfl
      rw [bv_set, e, e2] at hnext
      have HN := hid hnext
      clear hnext e e2 hsrc
      generalize cs[j]?.getD 0 = x at *
      go_wp2
      go_region
      go_wp2
      refine ⟨⟨j + 1, by omega, by go_num, Ref.turn hRr.out ((But.refl g wr).setCell (p := ⟨g, a + j, none⟩) (.inl rfl) _).drew HN.out (by rw [hpl, putAt_length _ _ _ (by simp; omega)]) (byte_putAt _ _ _ (by simp; omega) HR.out.byte ?_), (hbut.setCell (.inl rfl) _).drew⟩, by simp [intOf]; omega⟩
      intro i
      rw [List.getElem?_take]
      split
      · exact hcs i
      · simp
    · obtain rfl : j = cs.length := by omega
      rw [List.take_length] at hRr
      go_wp2
      go_ret
      exact ⟨rfl, hRr.out, hbut⟩
theorem rstore_er (b g : Nat) (m : List Int) (at_ : Int) (src : Option Addr) (len cap : Nat) (w : World) (hR : Ref w b g m) (hk : len ≤ 1000000000000) (h : errRange m.length at_ (8 * len) = 2) :
    Calls Try.prog 20 #[.pointer (some ⟨b, 0, none⟩), .int .i64 at_, .slice src len cap] w fun e w' => e = .returned (.int .i64 2) ∧ w' = w := by
  go_enter Try.func20, Try.ntmps20
  go_wp2_with (go_at_call 30; refine (in_false b g m _ _ _ hR h).mono ?_; rintro e w' ⟨rfl, rfl⟩)
  go_ret
  exact ⟨rfl, rfl⟩

theorem rstore_al (b g : Nat) (m : List Int) (at_ : Int) (src : Option Addr) (len cap : Nat) (w : World) (hR : Ref w b g m) (hk : len ≤ 1000000000000) (h : errRange m.length at_ (8 * len) = 0) (h8 : (at_ % 8 != 0) = true) :
    Calls Try.prog 20 #[.pointer (some ⟨b, 0, none⟩), .int .i64 at_, .slice src len cap] w fun e w' => e = .returned (.int .i64 3) ∧ w' = w := by
  have h0 := (er_0 h).1
  go_enter Try.func20, Try.ntmps20
  go_wp2_with (go_at_call 30; refine (in_true b g m _ _ _ hR h).mono ?_; rintro e w' ⟨rfl, rfl⟩)
  go_ret
  exact ⟨rfl, rfl⟩

/-- The j-th byte of a word. -/
theorem bytesOf_get (x : Int) (h0 : 0 ≤ x) (h1 : x < 18446744073709551616) (j : Nat) (hj : j < 8) : (bytesOf x)[j]?.getD 0 = (x / 256 ^ j) % 256 := by
  match j, hj with
  | 0, _ | 1, _ | 2, _ | 3, _ | 4, _ | 5, _ | 6, _ | 7, _ =>
    simp only [bytesOf, List.getElem?_cons_zero, List.getElem?_cons_succ, Option.getD_some]
    omega

theorem take_snoc_getD (l : List Int) (j : Nat) (h : j < l.length) : l.take j ++ [l[j]?.getD 0] = l.take (j + 1) := by
  rw [List.take_succ_eq_append_getElem h, List.getElem?_eq_getElem h]; rfl

theorem byte_take (l : List Int) (j : Nat) (h : Byte l) : Byte (l.take j) := by
  intro i
  rw [List.getElem?_take]
  split
  · exact h i
  · simp
theorem word_take (l : List Int) (j : Nat) (h : Word l) : Word (l.take j) := by
  intro i
  rw [List.getElem?_take]
  split
  · exact h i
  · simp
theorem pow_div (x : Int) (j : Nat) : x / 256 ^ j / 256 = x / 256 ^ (j + 1) := by
  rw [Int.pow_succ, Int.ediv_ediv_of_nonneg (by exact Int.le_of_lt (Int.pow_pos (by decide)))]

set_option maxHeartbeats 2000000 in
theorem rstore_ok (b g : Nat) (m ws : List Int) (a : Nat) (src : Option Addr) (cap B : Nat) (w : World) (hR : Ref w b g m) (ha : a + 8 * ws.length ≤ m.length) (h8 : (((a : Int) % 8) != 0) = false) (hB : B ≤ g) (hBw : B ≤ w.heap.size) (hI : Ints .u64 w B src ws) (hws : Word ws) :
    Calls Try.prog 20 #[.pointer (some ⟨b, 0, none⟩), .int .i64 a, .slice src ws.length cap] w fun e w' => e = .returned (.int .i64 0) ∧
      Ref w' b g (putAt m a (wordsBytes ws)) ∧ But g w w' := by
  have h : errRange m.length a (8 * ws.length) = 0 := er_d (by omega)
  have hn := hR.small
  have HR := hid hR
  have hin := hid (in_true b g m a (8 * ws.length) w hR h)
  clear hR h
  go_enter Try.func20, Try.ntmps20
  go_wp2_with (go_at_call 30; refine hin.out.mono ?_; rintro e w' ⟨rfl, rfl⟩)
  clear hin
  go_loopw [7] (fun i wr => ∃ j : Nat, j ≤ ws.length ∧ i = .int .i64 j ∧ Hid (Ref wr b g (putAt m a (wordsBytes (ws.take j)))) ∧ But g w' wr) (fun i _ => ws.length - (intOf i).toNat)
  case atStart => exact ⟨0, Nat.zero_le _, rfl, by simpa [Hid, putAt_nil, wordsBytes] using HR.out, But.refl _ _⟩
  case round =>
    obtain ⟨j, hj, rfl, hRr, hbut⟩ := hrel
    have hwl : (wordsBytes (ws.take j)).length = 8 * j := by rw [wordsBytes_length, List.length_take]; omega
    have HWL := hid hwl
    clear hwl
    by_cases hlj : j < ws.length
    · rcases hI with h0 | ⟨s, o, rfl, hs, hsrc⟩
      · omega
      have hsj : wr.cell? ⟨s, o + j, none⟩ = some (.int .u64 (ws[j]?.getD 0)) := (World.cell?_of_block (w := w') (hbut.block s (by omega) (by omega))).trans (hsrc j hlj)
      obtain ⟨hx0, hx1⟩ := hws j
      have HE := hid (take_snoc_getD ws j hlj)
      clear hsrc
      generalize ws[j]?.getD 0 = x at *
      go_wp2_with fail
      have hrs := hbut.size
      go_loopw [8, 9] (fun y i wx => ∃ k : Nat, k ≤ 8 ∧ i = .int .i64 k ∧ y = .int .u64 (x / 256 ^ k) ∧ Hid (Ref wx b g (putAt m a (wordsBytes (ws.take j) ++ (bytesOf x).take k))) ∧ But g w' wx) (fun _ i _ => 8 - (intOf i).toNat)
      case atStart => exact ⟨0, by omega, rfl, by simp, by simpa [Hid] using hRr.out, hbut⟩
      case round =>
        obtain ⟨k, hk, rfl, rfl, hRx, hbx⟩ := hrel
        have hl2 : (wordsBytes (ws.take j) ++ (bytesOf x).take k).length = 8 * j + k := by
          rw [List.length_append, HWL.out, List.length_take, show (bytesOf x).length = 8 from rfl]; omega
        have hpl : (putAt m a (wordsBytes (ws.take j) ++ (bytesOf x).take k)).length = m.length := putAt_length _ _ _ (by rw [hl2]; omega)
        by_cases hlk : k < 8
        · have hcb := hRx.out.cell
          have hcell := hRx.out.at (a + 8 * j + k) (by rw [hpl]; omega)
          rw [hpl] at hcb
          have hfro := frozen_of_row _ g (a + 8 * j + k) _ _ hRx.out.body
          have hnext := heap_setCell_same _ g (a + 8 * j + k) _ _ (.int .u8 (x / 256 ^ k % 256)) hRx.out.body
          have e := putAt_snoc m a (wordsBytes (ws.take j) ++ (bytesOf x).take k) (x / 256 ^ k % 256) (by rw [hl2]; omega)
          rw [hl2, List.append_assoc, ← bytesOf_get x hx0 hx1 k hlk, take_snoc_getD (bytesOf x) k hlk, bytesOf_get x hx0 hx1 k hlk, ← Nat.add_assoc] at e
          rw [bv_set, e] at hnext
          have HN := hid hnext
          have hp0 : 0 ≤ x / 256 ^ k := Int.ediv_nonneg hx0 (Int.le_of_lt (Int.pow_pos (by decide)))
          have hp1 : x / 256 ^ k < 18446744073709551616 := by
            have := Int.ediv_le_self (256 ^ k) hx0
            omega
          have HP := hid (pow_div x k)
          clear hnext e
          generalize x / 256 ^ k = y at *
          go_wp2
          exact ⟨⟨k + 1, by omega, by go_num, by rw [HP.out], hRx.out.turn ((But.refl g wr).setCell (p := ⟨g, a + 8 * j + k, none⟩) (.inl rfl) _) HN.out
            (by rw [hpl, putAt_length _ _ _ (by rw [List.length_append, HWL.out, List.length_take, show (bytesOf x).length = 8 from rfl]; omega)])
            (byte_putAt _ _ _ (by rw [List.length_append, HWL.out, List.length_take, show (bytesOf x).length = 8 from rfl]; omega) HR.out.byte (byte_append _ _ (byte_words _ (word_take _ _ hws)) (byte_take _ _ (byte_bytesOf x hx0 hx1)))), hbx.setCell (.inl rfl) _⟩, by simp [intOf]; omega⟩
        · obtain rfl : k = 8 := by omega
          have e : wordsBytes (ws.take j) ++ (bytesOf x).take 8 = wordsBytes (ws.take (j + 1)) := by
            rw [← HE.out, show (bytesOf x).take 8 = bytesOf x from rfl]
            simp [wordsBytes]
          rw [e] at hRx
          go_wp2
          exact ⟨⟨j + 1, by omega, by go_num, hRx, hbx⟩, by simp [intOf]; omega⟩
    · obtain rfl : j = ws.length := by omega
      rw [List.take_length] at hRr
      go_wp2
      go_ret
      exact ⟨rfl, hRr.out, hbut⟩

theorem info5x : ∃ i, Try.prog.info? 5 = some i ∧ i.zero = some (.int .u8 0) ∧ i.size = 1 ∧ i.bytes = 1 := by
  obtain ⟨i, hi, he⟩ := Option.map_eq_some_iff.1 info5
  simp only [Prod.mk.injEq] at he
  exact ⟨i, hi, he.1, he.2.1, he.2.2⟩

/-- The new slice of an append to an empty one. -/
theorem append_new (w : World) (xs : List Int) (s o cap : Nat) (h0 : 0 < xs.length) (hl : xs.length ≤ 1073741824) (hs : s < w.heap.size)
    (hsrc : ∀ j, j < xs.length → w.cell? ⟨s, o + j, none⟩ = some (.int .u8 (xs[j]?.getD 0))) :
    ∃ w' c zs, (Builtin.append_ #[32, 32] 32 #[.slice (some ⟨w.heap.size, 0, none⟩) 0 0, .slice (some ⟨s, o, none⟩) xs.length cap]).run Try.prog (w.alloc (.cells #[] 5)) =
      .ok (.slice (some ⟨w.heap.size + 1, 0, none⟩) xs.length c) w' ∧ w'.heap[w.heap.size + 1]? = some (.cells (bv (xs ++ zs)) 5) ∧ Below w.heap.size w w' ∧ w.heap.size + 1 < w'.heap.size := by
  obtain ⟨i, hi, hz, hsz, hb⟩ := info5x
  have hS : Src Try.prog i.size 32 (.slice (some ⟨s, o, none⟩) xs.length cap) xs.length (xs.map (Value.int .u8)) (w.alloc (.cells #[] 5)) :=
    Src.ofSlice _ Try.underlying32 _ _ _ _ (by rw [hsz]; simp) (by
      intro j u hj
      have hjl : j < xs.length := by simpa using (List.getElem?_eq_some_iff.1 hj).1
      rw [addr_add, World.cell?_alloc_lt (a := ⟨s, o + j, none⟩) (h := hs), hsrc j hjl, ← hj]
      simp [hjl]) (oneCell_map xs)
  have hr := run_append_grow_src (P := Try.prog) (w.alloc (.cells #[] 5)) 32 32 32 5 i (.int .u8 0) Try.underlying32 hi hz (some ⟨w.heap.size, 0, none⟩) 0 0 []
    (run_firstCells_some _ i.size 0 _ 0 0 [] (by simp) (by simp)) _ xs.length _ hS (by omega) (by omega) (by
      rw [hb, Nat.zero_add, Nat.mul_one]
      unfold Builtin.nextslicecap
      rw [if_pos (by omega)]
      omega)
  rw [Nat.zero_add] at hr
  refine ⟨_, _, List.replicate (grownCap (w.alloc (.cells #[] 5)) xs.length 0 5 - xs.length) 0, by simpa using hr, ?_, ?_, ?_⟩
  · have e : (xs.map (Value.int .u8)).toArray ++ Builtin.zeroCells (Value.int .u8 0).cells (grownCap (w.alloc (.cells #[] 5)) xs.length 0 5 - xs.length) = bv (xs ++ List.replicate (grownCap (w.alloc (.cells #[] 5)) xs.length 0 5 - xs.length) 0) := by
      apply Array.ext'
      have hz1 : (Value.int .u8 0).cells = #[.int .u8 0] := rfl
      rw [hz1]
      simp [bv, Builtin.zeroCells, Nat.mod_one, List.map_const']
    have h2 := heap_alloc_new (w.alloc (.cells #[] 5)).drew (.cells ((xs.map (Value.int .u8)).toArray ++ Builtin.zeroCells (Value.int .u8 0).cells (grownCap (w.alloc (.cells #[] 5)) xs.length 0 5 - xs.length)) 5)
    rw [← e]
    simpa using h2
  · exact ((Below.refl _ _).alloc (Nat.le_refl _) _).drew.alloc (by simp) _
  · simp

theorem append_none (w : World) (a : Option Addr) (cap : Nat) :
    (Builtin.append_ #[32, 32] 32 #[.slice (some ⟨w.heap.size, 0, none⟩) 0 0, .slice a 0 cap]).run Try.prog (w.alloc (.cells #[] 5)) = .ok (.slice (some ⟨w.heap.size, 0, none⟩) 0 0) (w.alloc (.cells #[] 5)) := by
  obtain ⟨i, hi, hz, hsz, hb⟩ := info5x
  cases a with
  | none =>
    have hr := run_append_room_src (P := Try.prog) (w.alloc (.cells #[] 5)) 32 32 32 5 i Try.underlying32 hi w.heap.size 0 0 0 _ 0 [] (Src.ofNil _ Try.underlying32 cap) (by omega) (by simp) (by simp)
    simpa [World.setCells] using hr
  | some x =>
    have hr := run_append_room_src (P := Try.prog) (w.alloc (.cells #[] 5)) 32 32 32 5 i Try.underlying32 hi w.heap.size 0 0 0 _ 0 [] (Src.ofSlice _ Try.underlying32 x 0 cap [] (by simp) (by simp) (by simp)) (by omega) (by simp) (by simp)
    simpa [World.setCells] using hr

theorem rread_er (b g : Nat) (m : List Int) (at_ k : Int) (w : World) (hR : Ref w b g m) (h : errRange m.length at_ k = 2) :
    Calls Try.prog 21 #[.pointer (some ⟨b, 0, none⟩), .int .i64 at_, .int .i64 k] w fun e w' => e = .returned (.tuple #[.slice none 0 0, .int .i64 2]) ∧ w' = w := by
  go_enter Try.func21, Try.ntmps21
  go_wp2_with (go_at_call 30; refine (in_false b g m _ _ _ hR h).mono ?_; rintro e w' ⟨rfl, rfl⟩)
  go_ret2
  exact ⟨rfl, rfl⟩

set_option maxHeartbeats 1000000 in
theorem rread_none (b g : Nat) (m : List Int) (a : Nat) (w : World) (hR : Ref w b g m) (ha : a ≤ m.length) :
    Calls Try.prog 21 #[.pointer (some ⟨b, 0, none⟩), .int .i64 a, .int .i64 0] w fun e w' => e = .returned (.tuple #[.slice (some ⟨w.heap.size, 0, none⟩) 0 0, .int .i64 0]) ∧ w' = w.alloc (.cells #[] 5) := by
  have h : errRange m.length a 0 = 0 := er_d (by omega)
  have hn := hR.small
  have hc := hR.cell
  have hl := hR.lt.1
  have hin := hid (in_true b g m a 0 w hR h)
  have hap := hid (fun x c => append_none w x c)
  clear hR h
  by_cases hna : m.length = a
  all_goals
    go_enter Try.func21, Try.ntmps21
    go_wp2_with (first | (go_at_call 30; refine hin.out.mono ?_; rintro e w' ⟨rfl, rfl⟩) | (at_builtin; refine wpList_append_run rfl _ _ 32 32 rfl _ _ _ rfl rfl (hap.out _ _) ?_))
    go_ret2
    exact ⟨rfl, rfl⟩

set_option maxHeartbeats 1000000 in
theorem rread_some (b g : Nat) (m : List Int) (a k : Nat) (w : World) (hR : Ref w b g m) (ha : a + k ≤ m.length) (h0 : 0 < k) :
    Calls Try.prog 21 #[.pointer (some ⟨b, 0, none⟩), .int .i64 a, .int .i64 k] w fun e w' => ∃ c zs, e = .returned (.tuple #[.slice (some ⟨w.heap.size + 1, 0, none⟩) k c, .int .i64 0]) ∧
      w'.heap[w.heap.size + 1]? = some (.cells (bv ((m.drop a).take k ++ zs)) 5) ∧ Below w.heap.size w w' ∧ w.heap.size + 1 < w'.heap.size := by
  have h : errRange m.length a k = 0 := er_d (by omega)
  have hn := hR.small
  have hc := hR.cell
  have hl := hR.lt.1
  have hin := hid (in_true b g m a k w hR h)
  have hlen : ((m.drop a).take k).length = k := by simp; omega
  obtain ⟨w1, c, zs, hrun, hrow, hb, hsz⟩ := append_new w ((m.drop a).take k) g a (m.length - a) (by omega) (by omega) hR.lt.2 (by
    intro j hj
    rw [hlen] at hj
    rw [hR.at _ (by omega)]
    simp [hj])
  rw [hlen, show Value.slice (some ⟨g, a, none⟩) k (m.length - a) = Value.slice (some ⟨g, a, none⟩) (a + k - a) (m.length - a) from by rw [Nat.add_sub_cancel_left]] at hrun
  have HRun := hid hrun
  have HRow := hid hrow
  have hna : m.length ≠ a := by omega
  clear hR h hlen hrun hrow
  go_enter Try.func21, Try.ntmps21
  go_wp2_with (first | (go_at_call 30; refine hin.out.mono ?_; rintro e w' ⟨rfl, rfl⟩) | (at_builtin; refine wpList_append_run rfl _ _ 32 32 rfl _ _ _ rfl rfl HRun.out ?_))
  go_ret2
  exact ⟨c, zs, rfl, HRow.out, hb, hsz⟩

end Go.Proofs.Ytaoahbobofdimaa
