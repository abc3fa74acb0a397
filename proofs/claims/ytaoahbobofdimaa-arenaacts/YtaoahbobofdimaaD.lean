/- Contracts in terms of arenas: what New, Load, Store, Read, Write, Fill and Same do. -/
import Derived.Test.YtaoahbobofdimaaC
namespace Go.Proofs.Ytaoahbobofdimaa
open Go.RowKit

theorem same_zero (pa pb : Option Addr) (ca cb : Nat) (w : World) :
    Calls Try.prog 22 #[.slice pa 0 ca, .slice pb 0 cb] w fun e w' => e = .returned (.bool true) ∧ w' = w := by
  go_enter Try.func22, Try.ntmps22
  go_wp2
  refine wp_loop_rounds 1 ?_
  rw [rounds_succ]
  go_wp2
  go_ret
  exact ⟨rfl, rfl⟩

theorem same_true (xs : List Int) (sa oa ca sb ob cb : Nat) (w : World) (hn : xs.length ≤ 1000000000000) (hla : sa < w.heap.size) (hlb : sb < w.heap.size)
    (ha : ∀ j, j < xs.length → w.cell? ⟨sa, oa + j, none⟩ = some (.int .u8 (xs[j]?.getD 0))) (hb : ∀ j, j < xs.length → w.cell? ⟨sb, ob + j, none⟩ = some (.int .u8 (xs[j]?.getD 0))) :
    Calls Try.prog 22 #[.slice (some ⟨sa, oa, none⟩) xs.length ca, .slice (some ⟨sb, ob, none⟩) xs.length cb] w fun e w' => e = .returned (.bool true) ∧ Below w.heap.size w w' := by
  have HA := hid ha
  have HB := hid hb
  clear ha hb
  go_enter Try.func22, Try.ntmps22
  go_wp2
  go_loopw [5] (fun i wr => ∃ j : Nat, j ≤ xs.length ∧ i = .int .i64 j ∧ Below w.heap.size w wr) (fun i _ => xs.length - (intOf i).toNat)
  case atStart => exact ⟨0, Nat.zero_le _, rfl, Below.refl _ _⟩
  case round =>
    obtain ⟨j, hj, rfl, hbel⟩ := hrel
    by_cases hlj : j < xs.length
    · have h1 : wr.cell? ⟨sa, oa + j, none⟩ = some (.int .u8 (xs[j]?.getD 0)) := (hbel.cell (p := ⟨sa, oa + j, none⟩) hla).trans (HA.out j hlj)
      have h2 : wr.cell? ⟨sb, ob + j, none⟩ = some (.int .u8 (xs[j]?.getD 0)) := (hbel.cell (p := ⟨sb, ob + j, none⟩) hlb).trans (HB.out j hlj)
      generalize xs[j]?.getD 0 = x at h1 h2
      go_wp2
      go_region
      go_wp2
      exact ⟨⟨j + 1, by omega, by go_num, hbel.drew⟩, by simp [intOf]; omega⟩
    · go_wp2
      go_ret
      exact ⟨rfl, hbel⟩

/-- All numbers of a list are a byte's. -/
def Byte (m : List Int) : Prop := ∀ i : Nat, 0 ≤ m[i]?.getD 0 ∧ m[i]?.getD 0 ≤ 255
theorem byte_putAt (m cs : List Int) (o : Nat) (h : o + cs.length ≤ m.length) (hm : Byte m) (hc : Byte cs) : Byte (putAt m o cs) := by
  intro i
  rw [putAt_get m o cs h i]
  split
  · exact hm i
  · split
    · exact hc _
    · exact hm i
theorem byte_replicate (k : Nat) (c : Int) (h0 : 0 ≤ c) (h1 : c ≤ 255) : Byte (List.replicate k c) := by
  intro i
  by_cases h : i < k
  · simp [h]; omega
  · simp [h]
theorem byte_bytesOf (x : Int) (h0 : 0 ≤ x) (h1 : x < 18446744073709551616) : Byte (bytesOf x) := by
  intro i
  match i with
  | 0 | 1 | 2 | 3 | 4 | 5 | 6 | 7 => simp only [bytesOf, List.getElem?_cons_zero, List.getElem?_cons_succ, Option.getD_some]; omega
  | (n + 8) => simp [bytesOf]
theorem byte_append (xs ys : List Int) (hx : Byte xs) (hy : Byte ys) : Byte (xs ++ ys) := by
  intro i
  rw [List.getElem?_append]
  split
  · exact hx i
  · exact hy _
theorem byte_nil : Byte [] := by intro i; simp
def Word (l : List Int) : Prop := ∀ j : Nat, 0 ≤ l[j]?.getD 0 ∧ l[j]?.getD 0 < 18446744073709551616
theorem byte_words : ∀ (l : List Int), Word l → Byte (wordsBytes l)
  | [], _ => byte_nil
  | x :: r, h => by
    have h0 := h 0
    simp at h0
    have hr : Word r := fun j => by have := h (j + 1); simpa using this
    have := byte_append _ _ (byte_bytesOf x h0.1 h0.2) (byte_words r hr)
    simpa [wordsBytes] using this

theorem Arena.turn {w w' : World} {b g : Nat} {m m' : List Int} (hA : Arena w b g m) (hb : But g w w') (hrow : w'.heap[g]? = some (.cells (bv m') 5)) (hl : m'.length = m.length) (hby : Byte m') : Arena w' b g m' :=
  ⟨by rw [hb.block b (Array.getElem?_eq_some_iff.1 hA.head).1 hA.unlike, hA.head, hl], hrow, hA.unlike, by rw [hl]; exact hA.small, hby⟩
theorem Arena.below {w w' : World} {b g : Nat} {m : List Int} (hA : Arena w b g m) (hb : Below w.heap.size w w') : Arena w' b g m :=
  ⟨by rw [hb.block b (Array.getElem?_eq_some_iff.1 hA.head).1]; exact hA.head, by rw [hb.block g (Array.getElem?_eq_some_iff.1 hA.body).1]; exact hA.body, hA.unlike, hA.small, hA.byte⟩
theorem Arena.lt {w : World} {b g : Nat} {m : List Int} (hA : Arena w b g m) : b < w.heap.size ∧ g < w.heap.size :=
  ⟨(Array.getElem?_eq_some_iff.1 hA.head).1, (Array.getElem?_eq_some_iff.1 hA.body).1⟩

def zeros (n : Nat) : List Int := List.replicate n 0
theorem zeros_length (n : Nat) : (zeros n).length = n := by simp [zeros]
theorem zeros_get (n i : Nat) : (zeros n)[i]?.getD 0 = 0 := by
  by_cases h : i < n <;> simp [zeros, h]

theorem new_ok (n : Nat) (w : World) (h1 : (65536 : Int) ≤ n) (h2 : (n : Int) ≤ 1073741824) (hp : (bits .and .i64 n (n - 1) == 0) = true) :
    Calls Try.prog 10 #[.int .i64 n] w fun e w' => ∃ b g, e = .returned (.pointer (some ⟨b, 0, none⟩)) ∧ Arena w' b g (zeros n) ∧ Below w.heap.size w w' ∧ w.heap.size ≤ b ∧ w.heap.size ≤ g := by
  refine (new_raw n w h1 h2 hp).mono ?_
  rintro e w' ⟨rfl, rfl⟩
  refine ⟨w.heap.size + 1, w.heap.size, rfl, ⟨?_, ?_, by omega, ?_, ?_⟩, ?_, by omega, by omega⟩
  · rw [heap_alloc2_new, zeros_length]
  · rw [heap_alloc2_old, madeBytes]; rfl
  · rw [zeros_length]; omega
  · intro i; rw [zeros_get]; omega
  · exact ((Below.refl _ _).alloc (Nat.le_refl _) _).alloc (by simp) _

theorem fill_ok (b g : Nat) (m : List Int) (at_ k c : Int) (w : World) (hA : Arena w b g m) (h0 : 0 ≤ at_) (h1 : 0 ≤ k) (h2 : at_ + k ≤ m.length) (hc : 0 ≤ c) (hc' : c ≤ 255) :
    Calls Try.prog 17 #[.pointer (some ⟨b, 0, none⟩), .int .i64 at_, .int .i64 k, .int .u8 c] w fun e w' => e = .returned (.int .i64 0) ∧
      Arena w' b g (putAt m at_.toNat (List.replicate k.toNat c)) ∧ But g w w' := by
  obtain ⟨a, rfl⟩ := Int.eq_ofNat_of_zero_le h0
  obtain ⟨n, rfl⟩ := Int.eq_ofNat_of_zero_le h1
  simp only [Int.toNat_natCast]
  by_cases hk : n = 0
  · subst hk
    refine (fill_none b g m.length a c w hA.small (by omega) hA.cell).mono ?_
    rintro e w' ⟨rfl, rfl⟩
    exact ⟨rfl, by simpa [putAt_nil] using hA, But.refl _ _⟩
  · refine (fill_some b g m a n c w hA (by omega) (by omega)).mono ?_
    rintro e w' ⟨rfl, hr, hb⟩
    exact ⟨rfl, hA.turn hb hr (putAt_length _ _ _ (by simp; omega)) (byte_putAt _ _ _ (by simp; omega) hA.byte (byte_replicate _ _ hc hc')), hb⟩

theorem store_ok (b g : Nat) (m ws : List Int) (at_ : Int) (s o cap : Nat) (w : World) (hA : Arena w b g m) (h0 : 0 ≤ at_) (ha : at_ + 8 * ws.length ≤ m.length) (h8 : at_ % 8 = 0)
    (hs : s < w.heap.size) (hsg : s ≠ g) (hsrc : ∀ j, j < ws.length → w.cell? ⟨s, o + j, none⟩ = some (.int .u64 (ws[j]?.getD 0))) (hws : Word ws) :
    Calls Try.prog 15 #[.pointer (some ⟨b, 0, none⟩), .int .i64 at_, .slice (some ⟨s, o, none⟩) ws.length cap] w fun e w' => e = .returned (.int .i64 0) ∧
      Arena w' b g (putAt m at_.toNat (wordsBytes ws)) ∧ But g w w' := by
  obtain ⟨a, rfl⟩ := Int.eq_ofNat_of_zero_le h0
  simp only [Int.toNat_natCast]
  refine (store_some b g m ws a s o cap w hA (by omega) h8 hs hsg hsrc hws).mono ?_
  rintro e w' ⟨rfl, hr, hb⟩
  have hl : a + (wordsBytes ws).length ≤ m.length := by rw [wordsBytes_length]; omega
  exact ⟨rfl, hA.turn hb hr (putAt_length _ _ _ hl) (byte_putAt _ _ _ hl hA.byte (byte_words ws hws)), hb⟩

theorem write_ok (b g : Nat) (m cs : List Int) (at_ : Int) (s o cap : Nat) (w : World) (hA : Arena w b g m) (h0 : 0 ≤ at_) (ha : at_ + cs.length ≤ m.length)
    (hsrc : ∀ j, j < cs.length → w.cell? ⟨s, o + j, none⟩ = some (.int .u8 (cs[j]?.getD 0))) (hcs : Byte cs) :
    Calls Try.prog 16 #[.pointer (some ⟨b, 0, none⟩), .int .i64 at_, .slice (some ⟨s, o, none⟩) cs.length cap] w fun e w' => e = .returned (.int .i64 0) ∧
      Arena w' b g (putAt m at_.toNat cs) ∧ But g w w' := by
  obtain ⟨a, rfl⟩ := Int.eq_ofNat_of_zero_le h0
  simp only [Int.toNat_natCast]
  by_cases hk : cs.length = 0
  · obtain rfl : cs = [] := List.eq_nil_of_length_eq_zero hk
    refine (write_none b g m.length a _ cap w hA.small (by simp at ha; omega) hA.cell).mono ?_
    rintro e w' ⟨rfl, rfl⟩
    exact ⟨rfl, by simpa [putAt_nil] using hA, But.refl _ _⟩
  · refine (write_some b g m cs a _ cap w hA (by omega) (by omega) (by
      intro j v hj
      have hjl : j < cs.length := by simpa using (List.getElem?_eq_some_iff.1 hj).1
      rw [addr_add, hsrc j hjl, ← hj]
      simp [hjl])).mono ?_
    rintro e w' ⟨rfl, rfl⟩
    have hb : But g w (w.setRow g (bv (putAt m a cs))) := (But.refl _ _).setRow (.inl rfl) _
    exact ⟨rfl, hA.turn hb (setRow_heap w g _ _ 5 _ hA.body) (putAt_length _ _ _ (by omega)) (byte_putAt _ _ _ (by omega) hA.byte hcs), hb⟩

theorem read_ok (b g : Nat) (m : List Int) (at_ k : Int) (w : World) (hA : Arena w b g m) (h0 : 0 ≤ at_) (h1 : 0 ≤ k) (h2 : at_ + k ≤ m.length) :
    Calls Try.prog 13 #[.pointer (some ⟨b, 0, none⟩), .int .i64 at_, .int .i64 k] w fun e w' => e = .returned (.tuple #[.slice (some ⟨w.heap.size, 0, none⟩) k.toNat k.toNat, .int .i64 0]) ∧
      w'.heap[w.heap.size]? = some (.cells (bv ((m.drop at_.toNat).take k.toNat)) 5) ∧ Below w.heap.size w w' ∧ w'.heap.size = w.heap.size + 1 := by
  obtain ⟨a, rfl⟩ := Int.eq_ofNat_of_zero_le h0
  obtain ⟨n, rfl⟩ := Int.eq_ofNat_of_zero_le h1
  simp only [Int.toNat_natCast]
  by_cases hk : n = 0
  · subst hk
    refine (read_none b g m.length a w hA.small (by omega) hA.cell hA.lt.1).mono ?_
    rintro e w' ⟨rfl, rfl⟩
    exact ⟨rfl, by rw [heap_alloc_new]; simp [bv], (Below.refl _ _).alloc (Nat.le_refl _) _, by simp⟩
  · refine (read_some b g m a n w hA (by omega) (by omega)).mono ?_
    rintro e w' ⟨rfl, rfl⟩
    exact ⟨rfl, heap_alloc_new _ _, (Below.refl _ _).alloc (Nat.le_refl _) _, by simp⟩

def wordAt (m : List Int) (a : Nat) : Int := word8 (m[a]?.getD 0) (m[a+1]?.getD 0) (m[a+2]?.getD 0) (m[a+3]?.getD 0) (m[a+4]?.getD 0) (m[a+5]?.getD 0) (m[a+6]?.getD 0) (m[a+7]?.getD 0)

theorem load_ok (b g : Nat) (m : List Int) (at_ : Int) (w : World) (hA : Arena w b g m) (h0 : 0 ≤ at_) (ha : at_ + 8 ≤ m.length) (h8 : at_ % 8 = 0) :
    Calls Try.prog 12 #[.pointer (some ⟨b, 0, none⟩), .int .i64 at_] w fun e w' => e = .returned (.tuple #[.int .u64 (wordAt m at_.toNat), .int .i64 0]) ∧ Below w.heap.size w w' := by
  obtain ⟨a, rfl⟩ := Int.eq_ofNat_of_zero_le h0
  simp only [Int.toNat_natCast]
  exact load_some b g m a w hA (by omega) h8

/-- The word whose bytes stand there is loaded. -/
theorem word_bytes (x : Int) (_h0 : 0 ≤ x) (_h1 : x < 18446744073709551616) : word8 (x % 256) (x / 256 % 256) (x / 65536 % 256) (x / 16777216 % 256) (x / 4294967296 % 256) (x / 1099511627776 % 256) (x / 281474976710656 % 256) (x / 72057594037927936) = x := by
  unfold word8; omega
theorem wordAt_put (m : List Int) (o : Nat) (x : Int) (h : o + 8 ≤ m.length) (h0 : 0 ≤ x) (h1 : x < 18446744073709551616) : wordAt (putAt m o (bytesOf x)) o = x := by
  have e : ∀ i, i < 8 → (putAt m o (bytesOf x))[o + i]? = (bytesOf x)[i]? := by
    intro i hi
    rw [putAt_get m o (bytesOf x) (by simpa [bytesOf] using h), if_neg (by omega), if_pos (by simp [bytesOf]; omega)]
    congr 1; omega
  have e0 := e 0 (by omega)
  unfold wordAt
  rw [Nat.add_zero] at e0
  rw [e0, e 1 (by omega), e 2 (by omega), e 3 (by omega), e 4 (by omega), e 5 (by omega), e 6 (by omega), e 7 (by omega)]
  exact word_bytes x h0 h1

end Go.Proofs.Ytaoahbobofdimaa
