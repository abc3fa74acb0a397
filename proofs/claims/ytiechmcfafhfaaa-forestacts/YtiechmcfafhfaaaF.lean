/- The contract of slices.Reverse at rows of pointers. -/
import Derived.Test.YtiechmcfafhfaaaE
namespace Go.Proofs.Ytiechmcfafhfaaa
open Go.RowKit Go.Maps Go.Shelf

/-- A row that is turned round up to place i from either end. -/
def half (xs : List Value) (i : Nat) : List Value := (List.range xs.length).map fun k => if k < i ∨ xs.length - 1 - i < k then xs.getD (xs.length - 1 - k) undef else xs.getD k undef
theorem half_len (xs : List Value) (i : Nat) : (half xs i).length = xs.length := by unfold half; simp
theorem half_at (xs : List Value) (i k : Nat) (hk : k < xs.length) : (half xs i)[k]? = some (if k < i ∨ xs.length - 1 - i < k then xs.getD (xs.length - 1 - k) undef else xs.getD k undef) := by
  unfold half
  rw [List.getElem?_map, List.getElem?_range hk]
  rfl
theorem half_mem {xs : List Value} {i k : Nat} {u : Value} (h : (half xs i)[k]? = some u) : u ∈ xs := by
  have hk : k < xs.length := by have := (List.getElem?_eq_some_iff.1 h).1; rwa [half_len] at this
  rw [half_at xs i k hk] at h
  have key : ∀ j, j < xs.length → xs.getD j undef ∈ xs := by
    intro j hj
    simp [List.getD, List.getElem?_eq_getElem hj]
  split at h
  · rw [← Option.some.inj h]; exact key _ (by omega)
  · rw [← Option.some.inj h]; exact key _ hk
theorem half_zero (xs : List Value) : half xs 0 = xs := by
  apply List.ext_getElem?
  intro k
  by_cases hk : k < xs.length
  · rw [half_at xs 0 k hk, if_neg (by omega), List.getElem?_eq_getElem hk]
    simp [List.getD, List.getElem?_eq_getElem hk]
  · rw [List.getElem?_eq_none (by rw [half_len]; omega), List.getElem?_eq_none (by omega)]
theorem half_full (xs : List Value) (i : Nat) (hi : xs.length ≤ 2 * i + 1) : half xs i = xs.reverse := by
  apply List.ext_getElem?
  intro k
  by_cases hk : k < xs.length
  · rw [half_at xs i k hk, List.getElem?_reverse hk]
    have hk2 : xs.length - 1 - k < xs.length := by omega
    rw [List.getElem?_eq_getElem hk2]
    by_cases h : k < i ∨ xs.length - 1 - i < k
    · rw [if_pos h]
      simp [List.getD, List.getElem?_eq_getElem hk2]
    · rw [if_neg h]
      have e : xs.length - 1 - k = k := by omega
      simp only [e]
      simp [List.getD, List.getElem?_eq_getElem hk]
  · rw [List.getElem?_eq_none (by rw [half_len]; omega), List.getElem?_eq_none (by rw [List.length_reverse]; omega)]
theorem half_step (xs : List Value) (i : Nat) (hi : 2 * i + 1 < xs.length) (u v : Value) (hu : (half xs i)[i]? = some u) (hv : (half xs i)[xs.length - 1 - i]? = some v) : ((half xs i).set i v).set (xs.length - 1 - i) u = half xs (i + 1) := by
  rw [half_at xs i i (by omega), if_neg (by omega)] at hu
  rw [half_at xs i _ (by omega), if_neg (by omega)] at hv
  apply List.ext_getElem?
  intro k
  by_cases hk : k < xs.length
  · rw [List.getElem?_set, List.getElem?_set, half_at xs i k hk, half_at xs (i + 1) k hk]
    simp only [List.length_set, half_len]
    by_cases e1 : xs.length - 1 - i = k
    · subst e1
      rw [if_pos rfl, if_pos hk, if_pos (by omega), ← hu]
      congr 2
      omega
    · rw [if_neg e1]
      by_cases e2 : i = k
      · subst e2
        rw [if_pos rfl, if_pos hk, if_pos (by omega), ← hv]
      · rw [if_neg e2]
        congr 1
        by_cases h : k < i ∨ xs.length - 1 - i < k
        · rw [if_pos h, if_pos (by omega)]
        · rw [if_neg h, if_neg (by omega)]
  · rw [List.getElem?_eq_none (by simp [half_len]; omega), List.getElem?_eq_none (by rw [half_len]; omega)]

set_option maxRecDepth 100000 in
set_option maxHeartbeats 1000000 in
theorem reverse_some (w : World) (base n cap : Nat) (a : Option Addr) (xs : List Value) (h : OR w base 1 (.slice a n cap) n xs) (hn : n ≤ 100000) (hp : ∀ u ∈ xs, ∃ b, u = ptr b) :
    Calls Try.prog 39 #[.slice a n cap] w fun en w' => en = .returned (.tuple #[]) ∧ OR w' base 1 (.slice a n cap) n xs.reverse ∧ Turn (fun k => (Value.slice a n cap).ownBlock = some k) w w' := by
  have hlen : xs.length = n := by have := h.len; omega
  have HO := hid h
  have HL := hid hlen
  have HP := hid hp
  clear h hlen hp
  go_enter Try.func39, Try.ntmps39
  go_wp2_with fail
  go_loopw [2, 3] (fun c d wr => ∃ i : Nat, c = .int .i64 (i : Int) ∧ d = .int .i64 ((n : Int) - 1 - i) ∧ 2 * i ≤ n + 1 ∧ Hid (OR wr base 1 (.slice a n cap) n (half xs i) ∧ Turn (fun k => (Value.slice a n cap).ownBlock = some k) w wr)) (fun c _ _ => n + 1 - (intOf c).toNat)
  case atStart => exact ⟨0, rfl, by simp, by omega, by rw [half_zero]; exact HO.out, Turn.refl _ _⟩
  case round =>
    obtain ⟨i, rfl, rfl, hi, hS⟩ := hrel
    by_cases hlt : 2 * i + 1 < n
    · have hd : decide ((i : Int) < (n : Int) - 1 - i) = true := by simp; omega
      obtain ⟨u, hu⟩ : ∃ u, (half xs i)[i]? = some u := ⟨_, List.getElem?_eq_getElem (by rw [half_len, HL.out]; omega)⟩
      obtain ⟨v, hv⟩ : ∃ v, (half xs i)[n - 1 - i]? = some v := ⟨_, List.getElem?_eq_getElem (by rw [half_len, HL.out]; omega)⟩
      obtain ⟨bu, rfl⟩ := HP.out u (half_mem hu)
      obtain ⟨bv, rfl⟩ := HP.out v (half_mem hv)
      obtain ⟨g, off, rfl, _, ci⟩ := hS.out.1.at hu
      obtain ⟨g', off', e, _, cj⟩ := hS.out.1.at hv
      obtain ⟨rfl, rfl⟩ : g = g' ∧ off = off' := by simpa using e
      obtain ⟨j, hj⟩ : ∃ j : Nat, j = n - 1 - i := ⟨_, rfl⟩
      have hji : (n : Int) - 1 - i = (j : Int) := by omega
      rw [hji]
      have hd : decide (i < j) = true := by simp; omega
      rw [← hj] at cj hv
      obtain ⟨s1, fi⟩ := hS.out.1.set (u := ptr bv) i (by omega)
      obtain ⟨s2, fj⟩ := s1.set (u := ptr bu) j (by omega)
      rw [World.frozen?_setCell] at fj
      have hst := half_step xs i (by rw [HL.out]; exact hlt) (ptr bu) (ptr bv) hu (by rw [HL.out, ← hj]; exact hv)
      rw [HL.out, ← hj] at hst
      rw [hst] at s2
      have HN := hid (And.intro s2 (turn_set (a := g) (i := off + j) (v := ptr bu) (turn_set (a := g) (i := off + i) (v := ptr bv) hS.out.2 rfl) rfl))
      have HJ := hid (And.intro hj hji)
      have hi0 : (0 : Int) ≤ (i : Int) := by omega
      have hi1 : (i : Int) < (n : Int) := by omega
      have hj0 : (0 : Int) ≤ (j : Int) := by omega
      have hj1 : (j : Int) < (n : Int) := by omega
      have hne : off + i ≠ off + j := by omega
      clear hu hv s1 s2 hst hS e hj hji HO HL
      go_wp2_with fail
      go_region
      go_wp2_with fail
      refine ⟨⟨i + 1, by go_num, ?_, by omega, HN.out.1.drew, HN.out.2.drew⟩, by simp [intOf]; omega⟩
      have := HJ.out.2
      rw [show (j : Int) - 1 = (n : Int) - 1 - ((i + 1 : Nat) : Int) by omega]
    · obtain ⟨z, hz⟩ : ∃ z, z = (n : Int) - 1 - i := ⟨_, rfl⟩
      rw [← hz]
      have hd : decide ((i : Int) < z) = false := by simp; omega
      have HE := hid (show half xs i = xs.reverse from half_full xs i (by rw [HL.out]; omega))
      clear hz
      go_wp2_with fail
      go_end0
      rw [← HE.out]
      exact ⟨rfl, hS.out⟩
/-- A row of pointers is turned round in place. -/
theorem reverse_any {w : World} {base : Nat} {nb : Nat → Nat} {l : List Nat} {a : Option Addr} {cap : Nat} (h : OR w base 1 (.slice a l.length cap) l.length (prow nb l)) (hn : l.length ≤ 100000) (hbs : base ≤ w.heap.size) :
    Calls Try.prog 39 #[.slice a l.length cap] w fun en w' => en = .returned (.tuple #[]) ∧ OR w' base 1 (.slice a l.length cap) l.length (prow nb l.reverse) ∧ Below base w w' := by
  have hown := fun k e => (h.own k e).1
  refine (reverse_some w base l.length cap a _ h hn (fun u hu => ?_)).mono ?_
  · obtain ⟨z, _, rfl⟩ := List.mem_map.1 hu
    exact ⟨_, rfl⟩
  · rintro en w' ⟨rfl, ho, hbt⟩
    rw [prow_reverse] at ho
    refine ⟨rfl, ho, hbt.os, hbt.tape, hbt.output, hbt.size, fun k hk => ?_⟩
    exact hbt.block k (by omega) (fun e => by have := hown k e; omega)
end Go.Proofs.Ytiechmcfafhfaaa
