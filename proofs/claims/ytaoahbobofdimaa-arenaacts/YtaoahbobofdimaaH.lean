/- One contract a call, for whatever arguments, of the arena and of the document's own one: both answer the same, and turn the same bytes. -/
import Derived.Test.YtaoahbobofdimaaG
namespace Go.Proofs.Ytaoahbobofdimaa
open Go.RowKit

def errW (n at_ : Int) (k : Nat) : Int := if errRange n at_ (8 * k) = 2 then 2 else if at_ % 8 = 0 then 0 else 3
def storeMem (m : List Int) (at_ : Int) (ws : List Int) : List Int := if errW m.length at_ ws.length = 0 then putAt m at_.toNat (wordsBytes ws) else m
def writeMem (m : List Int) (at_ : Int) (cs : List Int) : List Int := if errRange m.length at_ cs.length = 0 then putAt m at_.toNat cs else m
def fillMem (m : List Int) (at_ k c : Int) : List Int := if errRange m.length at_ k = 0 then putAt m at_.toNat (List.replicate k.toNat c) else m
def loadVal (m : List Int) (at_ : Int) : Int := if errW m.length at_ 1 = 0 then wordAt m at_.toNat else 0
def readVal (m : List Int) (at_ k : Int) : List Int := if errRange m.length at_ k = 0 then (m.drop at_.toNat).take k.toNat else []

theorem errW_cases (n at_ : Int) (k : Nat) : (errW n at_ k = 2 ∧ errRange n at_ (8 * k) = 2) ∨ (errW n at_ k = 0 ∧ errRange n at_ (8 * k) = 0 ∧ at_ % 8 = 0) ∨ (errW n at_ k = 3 ∧ errRange n at_ (8 * k) = 0 ∧ at_ % 8 ≠ 0) := by
  unfold errW
  rcases er_02 n at_ (8 * k) with h | h
  · rw [h, if_neg (by omega)]
    by_cases h8 : at_ % 8 = 0
    · rw [if_pos h8]; exact .inr (.inl ⟨rfl, rfl, h8⟩)
    · rw [if_neg h8]; exact .inr (.inr ⟨rfl, rfl, h8⟩)
  · rw [h, if_pos rfl]; exact .inl ⟨rfl, rfl⟩

theorem store_all (b g : Nat) (m ws : List Int) (at_ : Int) (a : Option Addr) (cap B : Nat) (w : World) (hA : Arena w b g m) (hat : at_ < 9223372036854775808) (hl : ws.length ≤ 100)
    (hB : B ≤ g) (hBw : B ≤ w.heap.size) (hI : Ints .u64 w B a ws) (hws : Word ws) :
    Calls Try.prog 15 #[.pointer (some ⟨b, 0, none⟩), .int .i64 at_, .slice a ws.length cap] w fun e w' => e = .returned (.int .i64 (errW m.length at_ ws.length)) ∧
      Arena w' b g (storeMem m at_ ws) ∧ But g w w' := by
  unfold storeMem
  rcases errW_cases m.length at_ ws.length with ⟨h, h'⟩ | ⟨h, h', h8⟩ | ⟨h, h', h8⟩
  · rw [h, if_neg (by omega)]
    refine (store_er b g m.length at_ a ws.length cap w hA.small hat (by omega) 2 (by decide) hA.cell h).mono ?_
    rintro e w' ⟨rfl, rfl⟩
    exact ⟨rfl, hA, But.refl _ _⟩
  · rw [h, if_pos rfl]
    obtain ⟨h0, h1, h2⟩ := er_0 h'
    exact store_any b g m ws at_ a cap B w hA h0 h2 h8 hB hBw hI hws
  · rw [h, if_neg (by omega)]
    refine (store_er b g m.length at_ a ws.length cap w hA.small hat (by omega) 3 (by decide) hA.cell h).mono ?_
    rintro e w' ⟨rfl, rfl⟩
    exact ⟨rfl, hA, But.refl _ _⟩

theorem rstore_all (b g : Nat) (m ws : List Int) (at_ : Int) (a : Option Addr) (cap B : Nat) (w : World) (hA : Ref w b g m) (hl : ws.length ≤ 100)
    (hB : B ≤ g) (hBw : B ≤ w.heap.size) (hI : Ints .u64 w B a ws) (hws : Word ws) :
    Calls Try.prog 20 #[.pointer (some ⟨b, 0, none⟩), .int .i64 at_, .slice a ws.length cap] w fun e w' => e = .returned (.int .i64 (errW m.length at_ ws.length)) ∧
      Ref w' b g (storeMem m at_ ws) ∧ But g w w' := by
  unfold storeMem
  rcases errW_cases m.length at_ ws.length with ⟨h, h'⟩ | ⟨h, h', h8⟩ | ⟨h, h', h8⟩
  · rw [h, if_neg (by omega)]
    refine (rstore_er b g m at_ a ws.length cap w hA (by omega) h').mono ?_
    rintro e w' ⟨rfl, rfl⟩
    exact ⟨rfl, hA, But.refl _ _⟩
  · rw [h, if_pos rfl]
    obtain ⟨h0, h1, h2⟩ := er_0 h'
    obtain ⟨n, rfl⟩ := Int.eq_ofNat_of_zero_le h0
    rw [Int.toNat_natCast]
    exact rstore_ok b g m ws n a cap B w hA (by omega) (by simp; omega) hB hBw hI hws
  · rw [h, if_neg (by omega)]
    refine (rstore_al b g m at_ a ws.length cap w hA (by omega) h' (by simpa using h8)).mono ?_
    rintro e w' ⟨rfl, rfl⟩
    exact ⟨rfl, hA, But.refl _ _⟩

theorem write_all (b g : Nat) (m cs : List Int) (at_ : Int) (a : Option Addr) (cap B : Nat) (w : World) (hA : Arena w b g m) (hat : at_ < 9223372036854775808)
    (hI : Ints .u8 w B a cs) (hcs : Byte cs) :
    Calls Try.prog 16 #[.pointer (some ⟨b, 0, none⟩), .int .i64 at_, .slice a cs.length cap] w fun e w' => e = .returned (.int .i64 (errRange m.length at_ cs.length)) ∧
      Arena w' b g (writeMem m at_ cs) ∧ But g w w' := by
  unfold writeMem
  rcases er_02 m.length at_ cs.length with h | h
  · rw [h, if_pos rfl]
    obtain ⟨h0, h1, h2⟩ := er_0 h
    exact write_any b g m cs at_ a cap B w hA h0 h2 hI hcs
  · rw [h, if_neg (by omega)]
    refine (write_er b g m.length at_ a cs.length cap w hA.small hat hA.cell h).mono ?_
    rintro e w' ⟨rfl, rfl⟩
    exact ⟨rfl, hA, But.refl _ _⟩

theorem rwrite_all (b g : Nat) (m cs : List Int) (at_ : Int) (a : Option Addr) (cap B : Nat) (w : World) (hA : Ref w b g m) (hB : B ≤ g) (hBw : B ≤ w.heap.size)
    (hI : Ints .u8 w B a cs) (hcs : Byte cs) :
    Calls Try.prog 23 #[.pointer (some ⟨b, 0, none⟩), .int .i64 at_, .slice a cs.length cap] w fun e w' => e = .returned (.int .i64 (errRange m.length at_ cs.length)) ∧
      Ref w' b g (writeMem m at_ cs) ∧ But g w w' := by
  unfold writeMem
  rcases er_02 m.length at_ cs.length with h | h
  · rw [h, if_pos rfl]
    obtain ⟨h0, h1, h2⟩ := er_0 h
    obtain ⟨n, rfl⟩ := Int.eq_ofNat_of_zero_le h0
    rw [Int.toNat_natCast]
    exact rwrite_ok b g m cs n a cap B w hA (by omega) hB hBw hI hcs
  · rw [h, if_neg (by omega)]
    refine (rwrite_er b g m at_ a cs.length cap w hA h).mono ?_
    rintro e w' ⟨rfl, rfl⟩
    exact ⟨rfl, hA, But.refl _ _⟩

theorem fill_all (b g : Nat) (m : List Int) (at_ k c : Int) (w : World) (hA : Arena w b g m) (hat : at_ < 9223372036854775808) (hc : 0 ≤ c) (hc' : c ≤ 255) :
    Calls Try.prog 17 #[.pointer (some ⟨b, 0, none⟩), .int .i64 at_, .int .i64 k, .int .u8 c] w fun e w' => e = .returned (.int .i64 (errRange m.length at_ k)) ∧
      Arena w' b g (fillMem m at_ k c) ∧ But g w w' := by
  unfold fillMem
  rcases er_02 m.length at_ k with h | h
  · rw [h, if_pos rfl]
    obtain ⟨h0, h1, h2⟩ := er_0 h
    exact fill_ok b g m at_ k c w hA h0 h1 h2 hc hc'
  · rw [h, if_neg (by omega)]
    refine (fill_er b g m.length at_ k c w hA.small hat hA.cell h).mono ?_
    rintro e w' ⟨rfl, rfl⟩
    exact ⟨rfl, hA, But.refl _ _⟩

theorem rfill_all (b g : Nat) (m : List Int) (at_ k c : Int) (w : World) (hA : Ref w b g m) (hc : 0 ≤ c) (hc' : c ≤ 255) :
    Calls Try.prog 24 #[.pointer (some ⟨b, 0, none⟩), .int .i64 at_, .int .i64 k, .int .u8 c] w fun e w' => e = .returned (.int .i64 (errRange m.length at_ k)) ∧
      Ref w' b g (fillMem m at_ k c) ∧ But g w w' := by
  unfold fillMem
  rcases er_02 m.length at_ k with h | h
  · rw [h, if_pos rfl]
    obtain ⟨h0, h1, h2⟩ := er_0 h
    obtain ⟨n, rfl⟩ := Int.eq_ofNat_of_zero_le h0
    obtain ⟨k, rfl⟩ := Int.eq_ofNat_of_zero_le h1
    rw [Int.toNat_natCast, Int.toNat_natCast]
    exact rfill_ok b g m n k c w hA (by omega) hc hc'
  · rw [h, if_neg (by omega)]
    refine (rfill_er b g m at_ k c w hA h).mono ?_
    rintro e w' ⟨rfl, rfl⟩
    exact ⟨rfl, hA, But.refl _ _⟩

theorem load_all (b g : Nat) (m : List Int) (at_ : Int) (w : World) (hA : Arena w b g m) (hat : at_ < 9223372036854775808) :
    Calls Try.prog 12 #[.pointer (some ⟨b, 0, none⟩), .int .i64 at_] w fun e w' => e = .returned (.tuple #[.int .u64 (loadVal m at_), .int .i64 (errW m.length at_ 1)]) ∧ Below w.heap.size w w' := by
  unfold loadVal
  rcases errW_cases m.length at_ 1 with ⟨h, h'⟩ | ⟨h, h', h8⟩ | ⟨h, h', h8⟩
  · rw [h, if_neg (by omega)]
    refine (load_er b g m.length at_ w hA.small hat 2 (by decide) hA.cell h).mono ?_
    rintro e w' ⟨rfl, rfl⟩
    exact ⟨rfl, Below.refl _ _⟩
  · rw [h, if_pos rfl]
    obtain ⟨h0, h1, h2⟩ := er_0 h'
    exact load_ok b g m at_ w hA h0 (by omega) h8
  · rw [h, if_neg (by omega)]
    refine (load_er b g m.length at_ w hA.small hat 3 (by decide) hA.cell h).mono ?_
    rintro e w' ⟨rfl, rfl⟩
    exact ⟨rfl, Below.refl _ _⟩

theorem rload_all (b g : Nat) (m : List Int) (at_ : Int) (w : World) (hA : Ref w b g m) :
    Calls Try.prog 19 #[.pointer (some ⟨b, 0, none⟩), .int .i64 at_] w fun e w' => e = .returned (.tuple #[.int .u64 (loadVal m at_), .int .i64 (errW m.length at_ 1)]) ∧ w' = w := by
  unfold loadVal
  rcases errW_cases m.length at_ 1 with ⟨h, h'⟩ | ⟨h, h', h8⟩ | ⟨h, h', h8⟩
  · rw [h, if_neg (by omega)]
    exact rload_er b g m at_ w hA h'
  · rw [h, if_pos rfl]
    obtain ⟨h0, h1, h2⟩ := er_0 h'
    obtain ⟨n, rfl⟩ := Int.eq_ofNat_of_zero_le h0
    rw [Int.toNat_natCast]
    exact rload_ok b g m n w hA (by omega) (by simp; omega)
  · rw [h, if_neg (by omega)]
    exact rload_al b g m at_ w hA h' (by simpa using h8)

theorem read_all (b g : Nat) (m : List Int) (at_ k : Int) (w : World) (hA : Arena w b g m) (hat : at_ < 9223372036854775808) :
    Calls Try.prog 13 #[.pointer (some ⟨b, 0, none⟩), .int .i64 at_, .int .i64 k] w fun e w' => ∃ p c, e = .returned (.tuple #[.slice p (readVal m at_ k).length c, .int .i64 (errRange m.length at_ k)]) ∧
      Ints .u8 w' w'.heap.size p (readVal m at_ k) ∧ Below w.heap.size w w' := by
  unfold readVal
  rcases er_02 m.length at_ k with h | h
  · rw [h, if_pos rfl]
    obtain ⟨h0, h1, h2⟩ := er_0 h
    have hlen : ((m.drop at_.toNat).take k.toNat).length = k.toNat := by simp; omega
    refine (read_ok b g m at_ k w hA h0 h1 h2).mono ?_
    rintro e w' ⟨rfl, hr, hb, hs⟩
    refine ⟨_, _, by rw [hlen], .inr ⟨w.heap.size, 0, rfl, by omega, ?_⟩, hb⟩
    intro j hj
    rw [cell_of_row _ _ _ _ _ _ hr, Nat.zero_add, bv_get _ _ hj]
  · rw [h, if_neg (by omega)]
    refine (read_er b g m.length at_ k w hA.small hat hA.cell h).mono ?_
    rintro e w' ⟨rfl, rfl⟩
    exact ⟨none, 0, rfl, .inl rfl, Below.refl _ _⟩

theorem rread_all (b g : Nat) (m : List Int) (at_ k : Int) (w : World) (hA : Ref w b g m) :
    Calls Try.prog 21 #[.pointer (some ⟨b, 0, none⟩), .int .i64 at_, .int .i64 k] w fun e w' => ∃ p c, e = .returned (.tuple #[.slice p (readVal m at_ k).length c, .int .i64 (errRange m.length at_ k)]) ∧
      Ints .u8 w' w'.heap.size p (readVal m at_ k) ∧ Below w.heap.size w w' := by
  unfold readVal
  rcases er_02 m.length at_ k with h | h
  · rw [h, if_pos rfl]
    obtain ⟨h0, h1, h2⟩ := er_0 h
    obtain ⟨n, rfl⟩ := Int.eq_ofNat_of_zero_le h0
    obtain ⟨k, rfl⟩ := Int.eq_ofNat_of_zero_le h1
    rw [Int.toNat_natCast, Int.toNat_natCast]
    have hlen : ((m.drop n).take k).length = k := by simp; omega
    by_cases hk : k = 0
    · subst hk
      refine (rread_none b g m n w hA (by omega)).mono ?_
      rintro e w' ⟨rfl, rfl⟩
      exact ⟨_, _, by rw [hlen], .inl hlen, (Below.refl _ _).alloc (Nat.le_refl _) _⟩
    · refine (rread_some b g m n k w hA (by omega) (by omega)).mono ?_
      rintro e w' ⟨c, zs, rfl, hr, hb, hs⟩
      refine ⟨_, _, by rw [hlen], .inr ⟨w.heap.size + 1, 0, rfl, hs, ?_⟩, hb⟩
      intro j hj
      rw [cell_of_row _ _ _ _ _ _ hr, Nat.zero_add, bv_get _ _ (by rw [List.length_append]; omega), List.getElem?_append_left hj]
  · rw [h, if_neg (by omega)]
    refine (rread_er b g m at_ k w hA h).mono ?_
    rintro e w' ⟨rfl, rfl⟩
    exact ⟨none, 0, rfl, .inl rfl, Below.refl _ _⟩

theorem same_all (xs : List Int) (p q : Option Addr) (ca cb : Nat) (w : World) (hn : xs.length ≤ 1000000000000) (h1 : Ints .u8 w w.heap.size p xs) (h2 : Ints .u8 w w.heap.size q xs) :
    Calls Try.prog 22 #[.slice p xs.length ca, .slice q xs.length cb] w fun e w' => e = .returned (.bool true) ∧ Below w.heap.size w w' := by
  by_cases h0 : xs.length = 0
  · rw [h0]
    refine (same_zero p q ca cb w).mono ?_
    rintro e w' ⟨rfl, rfl⟩
    exact ⟨rfl, Below.refl _ _⟩
  · rcases h1 with h | ⟨s, o, rfl, hs, hc⟩
    · exact absurd h h0
    rcases h2 with h | ⟨s', o', rfl, hs', hc'⟩
    · exact absurd h h0
    exact same_true xs s o ca s' o' cb w hn hs hs' hc hc'

theorem readVal_length (m : List Int) (at_ k : Int) : (readVal m at_ k).length ≤ m.length := by
  unfold readVal; split <;> simp; omega
theorem storeMem_length (m : List Int) (at_ : Int) (ws : List Int) : (storeMem m at_ ws).length = m.length := by
  unfold storeMem
  split
  · rename_i h
    rcases errW_cases m.length at_ ws.length with ⟨h1, _⟩ | ⟨_, h', _⟩ | ⟨h1, _⟩
    · omega
    · obtain ⟨h0, _, h2⟩ := er_0 h'
      exact putAt_length _ _ _ (by rw [wordsBytes_length]; omega)
    · omega
  · rfl
theorem writeMem_length (m : List Int) (at_ : Int) (cs : List Int) : (writeMem m at_ cs).length = m.length := by
  unfold writeMem
  split
  · rename_i h
    obtain ⟨h0, _, h2⟩ := er_0 h
    exact putAt_length _ _ _ (by omega)
  · rfl
theorem fillMem_length (m : List Int) (at_ k c : Int) : (fillMem m at_ k c).length = m.length := by
  unfold fillMem
  split
  · rename_i h
    obtain ⟨h0, _, h2⟩ := er_0 h
    exact putAt_length _ _ _ (by simp; omega)
  · rfl
end Go.Proofs.Ytaoahbobofdimaa
