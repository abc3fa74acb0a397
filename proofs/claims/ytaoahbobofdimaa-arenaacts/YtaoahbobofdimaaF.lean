/- Contracts of Store and Write for whatever slice is handed in, nil and empty ones among them; a full arena; where words' bytes stand. -/
import Derived.Test.YtaoahbobofdimaaE
namespace Go.Proofs.Ytaoahbobofdimaa
open Go.RowKit

/-- The slice has these numbers, in memory that was there when block number B was the next one. -/
def Ints (k : IntKind) (w : World) (B : Nat) (a : Option Addr) (l : List Int) : Prop :=
  l.length = 0 ∨ ∃ s o, a = some ⟨s, o, none⟩ ∧ s < B ∧ ∀ j, j < l.length → w.cell? ⟨s, o + j, none⟩ = some (.int k (l[j]?.getD 0))

theorem Ints.below {k : IntKind} {w w' : World} {B : Nat} {a : Option Addr} {l : List Int} (h : Ints k w B a l) (hb : Below B w w') : Ints k w' B a l := by
  rcases h with h | ⟨s, o, rfl, hs, hc⟩
  · exact .inl h
  · exact .inr ⟨s, o, rfl, hs, fun j hj => (hb.cell (p := ⟨s, o + j, none⟩) hs).trans (hc j hj)⟩

theorem store_any (b g : Nat) (m ws : List Int) (at_ : Int) (a : Option Addr) (cap B : Nat) (w : World) (hA : Arena w b g m) (h0 : 0 ≤ at_) (ha : at_ + 8 * ws.length ≤ m.length) (h8 : at_ % 8 = 0)
    (hB : B ≤ g) (hBw : B ≤ w.heap.size) (hI : Ints .u64 w B a ws) (hws : Word ws) :
    Calls Try.prog 15 #[.pointer (some ⟨b, 0, none⟩), .int .i64 at_, .slice a ws.length cap] w fun e w' => e = .returned (.int .i64 0) ∧
      Arena w' b g (putAt m at_.toNat (wordsBytes ws)) ∧ But g w w' := by
  rcases hI with h | ⟨s, o, rfl, hs, hc⟩
  · obtain rfl : ws = [] := List.eq_nil_of_length_eq_zero h
    obtain ⟨n, rfl⟩ := Int.eq_ofNat_of_zero_le h0
    refine (store_none b g m.length n a cap w hA.small (by simp at ha; omega) h8 hA.cell).mono ?_
    rintro e w' ⟨rfl, rfl⟩
    exact ⟨rfl, by simpa [wordsBytes, putAt_nil] using hA, But.refl _ _⟩
  · exact store_ok b g m ws at_ s o cap w hA h0 ha h8 (by omega) (by omega) hc hws

theorem write_any (b g : Nat) (m cs : List Int) (at_ : Int) (a : Option Addr) (cap B : Nat) (w : World) (hA : Arena w b g m) (h0 : 0 ≤ at_) (ha : at_ + cs.length ≤ m.length)
    (hI : Ints .u8 w B a cs) (hcs : Byte cs) :
    Calls Try.prog 16 #[.pointer (some ⟨b, 0, none⟩), .int .i64 at_, .slice a cs.length cap] w fun e w' => e = .returned (.int .i64 0) ∧
      Arena w' b g (putAt m at_.toNat cs) ∧ But g w w' := by
  rcases hI with h | ⟨s, o, rfl, hs, hc⟩
  · obtain rfl : cs = [] := List.eq_nil_of_length_eq_zero h
    obtain ⟨n, rfl⟩ := Int.eq_ofNat_of_zero_le h0
    refine (write_none b g m.length n a cap w hA.small (by simp at ha; omega) hA.cell).mono ?_
    rintro e w' ⟨rfl, rfl⟩
    exact ⟨rfl, by simpa [putAt_nil] using hA, But.refl _ _⟩
  · exact write_ok b g m cs at_ s o cap w hA h0 ha hc hcs

def full (c : Int) : List Int := putAt (zeros 65536) 0 (List.replicate 65536 c)
theorem full_length (c : Int) : (full c).length = 65536 := by
  unfold full; rw [putAt_length _ _ _ (by rw [List.length_replicate, zeros_length]; omega), zeros_length]
theorem full_get (c : Int) (i : Nat) (h : i < 65536) : (full c)[i]?.getD 0 = c := by
  unfold full
  rw [putAt_get _ _ _ (by rw [List.length_replicate, zeros_length]; omega), List.length_replicate, if_neg (by omega), if_pos (by omega), List.getElem?_replicate, if_pos (by omega)]
  rfl

theorem wordsBytes_get : ∀ (l : List Int) (i j : Nat), j < 8 → i < l.length → (wordsBytes l)[8 * i + j]? = (bytesOf (l[i]?.getD 0))[j]?
  | [], i, j, _, h => by simp at h
  | x :: r, 0, j, hj, _ => by
    simp only [wordsBytes, List.flatMap_cons, Nat.mul_zero, Nat.zero_add, List.getElem?_cons_zero, Option.getD_some]
    rw [List.getElem?_append_left (by simpa [bytesOf] using hj)]
  | x :: r, i + 1, j, hj, h => by
    have ih := wordsBytes_get r i j hj (by simpa using h)
    simp only [wordsBytes, List.flatMap_cons] at ih ⊢
    rw [List.getElem?_append_right (by simp [bytesOf]; omega)]
    rw [show 8 * (i + 1) + j - (bytesOf x).length = 8 * i + j from by simp [bytesOf]; omega, ih]
    simp

theorem wordAt_words (m l : List Int) (o i : Nat) (h : o + 8 * l.length ≤ m.length) (hi : i < l.length) (hw : Word l) : wordAt (putAt m o (wordsBytes l)) (o + 8 * i) = l[i]?.getD 0 := by
  have e : ∀ j, j < 8 → (putAt m o (wordsBytes l))[o + 8 * i + j]? = (bytesOf (l[i]?.getD 0))[j]? := by
    intro j hj
    rw [putAt_get m o _ (by rw [wordsBytes_length]; exact h), wordsBytes_length, if_neg (by omega), if_pos (by omega), show o + 8 * i + j - o = 8 * i + j from by omega, wordsBytes_get l i j hj hi]
  have hwi := hw i
  generalize l[i]?.getD 0 = x at *
  have e0 := e 0 (by omega)
  rw [Nat.add_zero] at e0
  unfold wordAt
  rw [e0, e 1 (by omega), e 2 (by omega), e 3 (by omega), e 4 (by omega), e 5 (by omega), e 6 (by omega), e 7 (by omega)]
  exact word_bytes x hwi.1 hwi.2

end Go.Proofs.Ytaoahbobofdimaa
