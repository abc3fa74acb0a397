/- A table of handles, as numbers: its places, its handles, and what each call answers and leaves. No program is named here. -/
import Derived.WalkKit
namespace Go.Proofs.Ytoahfeckadaomaa

/-- An object's three numbers. -/
structure Ob where
  k : Int
  a : Int
  f : Int
/-- A place: its object, its state (0 empty, 1 live, 2 zombie, 3 worn out), its age. -/
structure Pl where
  o : Ob
  st : Nat
  ag : Nat
def noOb : Ob := ⟨0, 0, 0⟩
def upd (T : Nat → Pl) (i : Nat) (p : Pl) : Nat → Pl := fun j => if j = i then p else T j
theorem upd_same (T : Nat → Pl) (i : Nat) (p : Pl) : upd T i p i = p := by unfold upd; rw [if_pos rfl]
theorem upd_other (T : Nat → Pl) (i : Nat) (p : Pl) {j : Nat} (h : j ≠ i) : upd T i p j = T j := by unfold upd; rw [if_neg h]

/-- States and ages as they may be. -/
def Wf (T : Nat → Pl) : Prop := ∀ i, i < 256 → (T i).st ≤ 3 ∧ (T i).ag ≤ 1048575
theorem Wf.upd {T : Nat → Pl} (h : Wf T) (i : Nat) {p : Pl} (h1 : p.st ≤ 3) (h2 : p.ag ≤ 1048575) : Wf (upd T i p) := fun j hj => by
  by_cases e : j = i
  · subst e; rw [upd_same]; exact ⟨h1, h2⟩
  · rw [upd_other _ _ _ e]; exact h j hj

/-- The first empty place; 256 without. -/
def First (T : Nat → Pl) (n : Nat) : Prop := n ≤ 256 ∧ (n < 256 → (T n).st = 0) ∧ ∀ j, j < n → (T j).st ≠ 0
theorem first_ex (T : Nat → Pl) : ∃ n, First T n := by
  have key : ∀ m, m ≤ 256 → (∃ n, First T n) ∨ ∀ j, j < m → (T j).st ≠ 0 := by
    intro m
    induction m with
    | zero => intro _; exact .inr (fun j hj => by omega)
    | succ m ih =>
      intro hm
      rcases ih (by omega) with h | h
      · exact .inl h
      · by_cases e : (T m).st = 0
        · exact .inl ⟨m, by omega, fun _ => e, h⟩
        · refine .inr (fun j hj => ?_)
          by_cases ej : j = m
          · rw [ej]; exact e
          · exact h j (by omega)
  rcases key 256 (Nat.le_refl _) with h | h
  · exact h
  · exact ⟨256, Nat.le_refl _, fun hh => by omega, h⟩

def hOf (i ag : Nat) : Nat := ag * 256 + i
theorem hOf_lt {i ag : Nat} (hi : i < 256) (ha : ag ≤ 1048575) : hOf i ag < 268435456 := by unfold hOf; omega
theorem hOf_mod {i ag : Nat} (hi : i < 256) : hOf i ag % 256 = i := by unfold hOf; omega
theorem hOf_div {i ag : Nat} (hi : i < 256) : hOf i ag / 256 = ag := by unfold hOf; omega

/-- Handles of the places below n that are so, by rising places. -/
def hs (T : Nat → Pl) (s n : Nat) : List Nat := ((List.range n).filter fun i => (T i).st == s).map fun i => hOf i (T i).ag
theorem hs_zero (T : Nat → Pl) (s : Nat) : hs T s 0 = [] := rfl
theorem hs_yes {T : Nat → Pl} {s n : Nat} (h : (T n).st = s) : hs T s (n + 1) = hs T s n ++ [hOf n (T n).ag] := by
  unfold hs; rw [List.range_succ, List.filter_append, List.map_append]; simp [h]
theorem hs_no {T : Nat → Pl} {s n : Nat} (h : (T n).st ≠ s) : hs T s (n + 1) = hs T s n := by
  unfold hs; rw [List.range_succ, List.filter_append, List.map_append]; simp [h]
theorem hs_len (T : Nat → Pl) (s : Nat) : ∀ n, (hs T s n).length ≤ n
  | 0 => by simp [hs]
  | n + 1 => by
    have ih := hs_len T s n
    by_cases e : (T n).st = s
    · rw [hs_yes e, List.length_append]; simp; omega
    · rw [hs_no e]; omega
theorem hs_mem {T : Nat → Pl} {s n x : Nat} : x ∈ hs T s n ↔ ∃ i, i < n ∧ (T i).st = s ∧ x = hOf i (T i).ag := by
  unfold hs
  rw [List.mem_map]
  constructor
  · rintro ⟨i, hi, rfl⟩
    rw [List.mem_filter, List.mem_range] at hi
    exact ⟨i, hi.1, by simpa using hi.2, rfl⟩
  · rintro ⟨i, hi, h, rfl⟩
    exact ⟨i, by rw [List.mem_filter, List.mem_range]; exact ⟨hi, by simpa using h⟩, rfl⟩
theorem hs_congr {T T' : Nat → Pl} {s n : Nat} (h : ∀ i, i < n → ((T i).st = s ↔ (T' i).st = s) ∧ ((T i).st = s → (T i).ag = (T' i).ag)) : hs T s n = hs T' s n := by
  induction n with
  | zero => rw [hs_zero, hs_zero]
  | succ n ih =>
    have e := ih (fun i hi => h i (by omega))
    have hn := h n (by omega)
    by_cases c : (T n).st = s
    · rw [hs_yes c, hs_yes (hn.1.1 c), e, hn.2 c]
    · rw [hs_no c, hs_no (fun c' => c (hn.1.2 c')), e]
/-- How many places below n are so. -/
def cn (T : Nat → Pl) (s n : Nat) : Nat := (hs T s n).length
theorem cn_yes {T : Nat → Pl} {s n : Nat} (h : (T n).st = s) : cn T s (n + 1) = cn T s n + 1 := by unfold cn; rw [hs_yes h]; simp
theorem cn_no {T : Nat → Pl} {s n : Nat} (h : (T n).st ≠ s) : cn T s (n + 1) = cn T s n := by unfold cn; rw [hs_no h]
theorem cn_le (T : Nat → Pl) (s n : Nat) : cn T s n ≤ n := hs_len T s n
theorem cn_sum {T : Nat → Pl} : ∀ {n : Nat}, (∀ i, i < n → (T i).st ≤ 2) → cn T 0 n + cn T 1 n + cn T 2 n = n
  | 0, _ => rfl
  | n + 1, h => by
    have ih := cn_sum (n := n) (fun i hi => h i (by omega))
    have hn := h n (by omega)
    rcases (show (T n).st = 0 ∨ (T n).st = 1 ∨ (T n).st = 2 by omega) with e | e | e
    · rw [cn_yes e, cn_no (s := 1) (by omega), cn_no (s := 2) (by omega)]; omega
    · rw [cn_yes e, cn_no (s := 0) (by omega), cn_no (s := 2) (by omega)]; omega
    · rw [cn_yes e, cn_no (s := 0) (by omega), cn_no (s := 1) (by omega)]; omega
theorem cn_all {T : Nat → Pl} {s : Nat} : ∀ {n : Nat}, (∀ i, i < n → (T i).st = s) → cn T s n = n
  | 0, _ => by simp [cn, hs]
  | n + 1, h => by rw [cn_yes (h n (by omega)), cn_all (fun i hi => h i (by omega))]
/-- A place that turns to a state, or from it. -/
theorem cn_upd_in {T : Nat → Pl} {s i : Nat} {p : Pl} (h0 : (T i).st ≠ s) (h1 : p.st = s) : ∀ {n : Nat}, i < n → cn (upd T i p) s n = cn T s n + 1
  | 0, h => by omega
  | n + 1, h => by
    by_cases e : i = n
    · subst e
      have hc : cn (upd T i p) s i = cn T s i := by
        unfold cn
        rw [hs_congr (T := upd T i p) (T' := T) (fun j hj => by rw [upd_other _ _ _ (by omega)]; exact ⟨Iff.rfl, fun _ => rfl⟩)]
      rw [cn_yes (by rw [upd_same]; exact h1), cn_no h0, hc]
    · have ih := cn_upd_in h0 h1 (n := n) (by omega)
      have eo : upd T i p n = T n := upd_other _ _ _ (fun hh => e hh.symm)
      by_cases c : (T n).st = s
      · rw [cn_yes (by rw [eo]; exact c), cn_yes c, ih]
      · rw [cn_no (by rw [eo]; exact c), cn_no c, ih]
theorem cn_upd_out {T : Nat → Pl} {s i n : Nat} {p : Pl} (h0 : (T i).st = s) (h1 : p.st ≠ s) (hi : i < n) : cn (upd T i p) s n + 1 = cn T s n := by
  have h := cn_upd_in (T := upd T i p) (s := s) (i := i) (p := T i) (by rw [upd_same]; exact h1) h0 hi
  rw [← h]
  unfold cn
  rw [hs_congr (T := upd (upd T i p) i (T i)) (T' := T) (fun j _ => ?_)]
  by_cases e : j = i
  · subst e; rw [upd_same]; exact ⟨Iff.rfl, fun _ => rfl⟩
  · rw [upd_other _ _ _ e, upd_other _ _ _ e]; exact ⟨Iff.rfl, fun _ => rfl⟩
theorem cn_upd_not {T : Nat → Pl} {s i n : Nat} {p : Pl} (h0 : (T i).st ≠ s) (h1 : p.st ≠ s) : cn (upd T i p) s n = cn T s n := by
  unfold cn
  rw [hs_congr (T := upd T i p) (T' := T) (fun j _ => ?_)]
  by_cases e : j = i
  · subst e; rw [upd_same]; exact ⟨⟨fun h => absurd h h1, fun h => absurd h h0⟩, fun h => absurd h h1⟩
  · rw [upd_other _ _ _ e]; exact ⟨Iff.rfl, fun _ => rfl⟩

/-- What a handle's place is, of the states for which p holds: the place, or none. -/
def Names (T : Nat → Pl) (p : Nat → Prop) (h : Nat) : Prop := (T (h % 256)).ag = h / 256 ∧ p (T (h % 256)).st
/-- Behind Put at the place n, behind Kill and Free of the handle h. -/
def putT (T : Nat → Pl) (n : Nat) (o : Ob) : Nat → Pl := upd T n ⟨o, 1, (T n).ag⟩
def killT (T : Nat → Pl) (i : Nat) : Nat → Pl := upd T i ⟨(T i).o, 2, (T i).ag⟩
def freeT (T : Nat → Pl) (i : Nat) : Nat → Pl := upd T i (if (T i).ag = 1048575 then ⟨noOb, 3, 1048575⟩ else ⟨noOb, 0, (T i).ag + 1⟩)
def ageT (T : Nat → Pl) (i ag : Nat) : Nat → Pl := upd T i ⟨(T i).o, 0, ag⟩
theorem Wf.put {T : Nat → Pl} (h : Wf T) {n : Nat} (hn : n < 256) (o : Ob) : Wf (putT T n o) := h.upd n (show 1 ≤ 3 by decide) (h n hn).2
theorem Wf.kill {T : Nat → Pl} (h : Wf T) {n : Nat} (hn : n < 256) : Wf (killT T n) := h.upd n (show 2 ≤ 3 by decide) (h n hn).2
theorem Wf.free {T : Nat → Pl} (h : Wf T) {n : Nat} (hn : n < 256) : Wf (freeT T n) := by
  have := (h n hn).2
  unfold freeT
  by_cases e : (T n).ag = 1048575
  · rw [if_pos e]; exact h.upd n (show 3 ≤ 3 by decide) (Nat.le_refl _)
  · rw [if_neg e]; exact h.upd n (Nat.zero_le _) (by show (T n).ag + 1 ≤ 1048575; omega)
theorem Wf.age {T : Nat → Pl} (h : Wf T) (n : Nat) {ag : Nat} (ha : ag ≤ 1048575) : Wf (ageT T n ag) := h.upd n (Nat.zero_le _) ha
def T0 : Nat → Pl := fun _ => ⟨noOb, 0, 0⟩
theorem Wf.new : Wf T0 := fun _ _ => ⟨Nat.zero_le _, Nat.zero_le _⟩
end Go.Proofs.Ytoahfeckadaomaa
