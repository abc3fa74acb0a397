/- A cache: what Take does with the first open slab. -/
import Derived.Test.YtohaoeilodebmaaDoorS17
namespace Go.Proofs.YtohaoeilodebmaaDoor
open Go.RowKit Go.Maps

section
variable {w w' : World} {c p sz m mb nm : Nat} {D : DataW Unit} {a : Option Addr} {cap nn : Nat} {L sb bm gm : Nat → Nat} {ws : Nat → List Nat} {S O : Nat → Prop} {U : Pls}
theorem Ca.setCall {q i s : Nat} {on : Bool} (h : Ca w c p sz m mb nm D a cap nn L sb bm gm ws S O U) (hq : S q) (hi : i < m) (hs : w.heap[s]? = some (.cells #[.int .i64 (i : Int)] 3)) :
    Calls Tryd.prog 36 #[.pointer (some ⟨bm q, 0, none⟩), .bool on, .slice (some ⟨s, 0, none⟩) 1 1] w fun e w' => ∃ t, e = .returned (.int .i64 t) ∧ But (gm q) w w' ∧ ∃ ws2, Ca w' c p sz m mb nm D a cap nn L sb bm gm (now ws q ws2) S O (setU U q i on) := by
  have hB := h.bits q hq
  refine (set_any (bm q) (gm q) m (ws q) on [(i : Int)] (some ⟨s, 0, none⟩) 1 w hB (.inr ⟨s, 0, rfl, ne_cells hs hB.body (by decide), lt_of hs, fun j hj => ?_⟩) (by simp)).mono ?_
  · obtain rfl : j = 0 := by simpa using hj
    rw [cell_of_row w s _ _ _ _ hs]; rfl
  · rintro e w' ⟨rfl, hB', hb⟩
    exact ⟨_, rfl, hb, _, h.setBit hq hb hB' (fun j _ => setAll_one hB.ok on i hi j)⟩
theorem Ca.first {q : Nat} (h : Ca w c p sz m mb nm D a cap nn L sb bm gm ws S O U) (hq : S q) (hT : Tab w) (hf : ∃ i, i < m ∧ U q i = false) :
    Calls Tryd.prog 40 #[.pointer (some ⟨bm q, 0, none⟩), .bool false, .int .i64 0] w fun e w' => ∃ i : Nat, e = .returned (.int .i64 (i : Int)) ∧ i < m ∧ U q i = false ∧ (∀ j, j < i → U q j = true) ∧ w' = w := by
  refine (first_any (bm q) (gm q) m (ws q) false 0 w (h.bits q hq) hT (by omega)).mono ?_
  rintro e w' ⟨r, rfl, hr, rfl⟩
  rcases hr with ⟨rfl, hn⟩ | ⟨k, rfl, _, hk, hb, hlow⟩
  · obtain ⟨i, hi, hu⟩ := hf
    exact absurd ((h.bit_ q hq i hi).trans hu) (hn i (Nat.zero_le _) hi)
  · refine ⟨k, rfl, hk, (h.bit_ q hq k hk).symm.trans hb, fun j hj => ?_, rfl⟩
    have := hlow j (Nat.zero_le _) hj
    rw [← h.bit_ q hq j (by omega)]
    cases e : bit (ws q) j
    · exact absurd e this
    · rfl
theorem Ca.fullCall {q : Nat} (h : Ca w c p sz m mb nm D a cap nn L sb bm gm ws S O U) (hq : S q) (hT : Tab w) :
    Calls Tryd.prog 51 #[.pointer (some ⟨sb q, 0, none⟩)] w fun e w' => ∃ f : Bool, e = .returned (.bool f) ∧ Hid (f = true ↔ ∀ j, j < m → U q j = true) ∧ w' = w := by
  refine (full_any w (sb q) (bm q) (gm q) m (ws q) (h.s0 hq) (h.bits q hq) hT).mono ?_
  rintro e w' ⟨f, rfl, hf, rfl⟩
  exact ⟨f, rfl, hf.out.trans ⟨fun h2 j hj => (h.bit_ q hq j hj).symm.trans (h2 j hj), fun h2 j hj => (h.bit_ q hq j hj).trans (h2 j hj)⟩, rfl⟩
end
end Go.Proofs.YtohaoeilodebmaaDoor
