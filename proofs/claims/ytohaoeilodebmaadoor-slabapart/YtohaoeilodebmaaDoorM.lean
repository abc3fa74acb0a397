/- Blocks of powers of two, as kinds of (order, place): how they cover all pages, are split, joined and turned. No program is named here. -/
import Derived.Test.YtohaoeilodebmaaDoorN
namespace Go.Proofs.YtohaoeilodebmaaDoor

abbrev Kind := Option (Option Bool)
abbrev Kind.no : Kind := none
abbrev Kind.free : Kind := some none
abbrev Kind.used : Kind := some (some true)
abbrev Kind.held : Kind := some (some false)
theorem Kind.each (x : Kind) : x = .no ∨ x = .free ∨ x = .used ∨ x = .held := by
  rcases x with _ | _ | _ | _
  · exact .inl rfl
  · exact .inr (.inl rfl)
  · exact .inr (.inr (.inr rfl))
  · exact .inr (.inr (.inl rfl))
abbrev St := Nat → Nat → Kind
def upd (B : St) (k i : Nat) (x : Kind) : St := fun k' i' => if k' = k ∧ i' = i then x else B k' i'
theorem upd_same (B : St) (k i : Nat) (x : Kind) : upd B k i x k i = x := by simp [upd]
theorem upd_ne (B : St) {k i k' i' : Nat} (x : Kind) (h : ¬ (k' = k ∧ i' = i)) : upd B k i x k' i' = B k' i' := by simp [upd, h]

/-- The other one of a pair. -/
def bud (i : Nat) : Nat := if i % 2 = 0 then i + 1 else i - 1
theorem bud_half (i : Nat) : bud i / 2 = i / 2 := by unfold bud; split <;> omega
theorem bud_ne (i : Nat) : bud i ≠ i := by unfold bud; split <;> omega
theorem bud_or {i j : Nat} (h : i / 2 = j / 2) : i = j ∨ i = bud j := by unfold bud; split <;> omega
theorem bud_bud (i : Nat) : bud (bud i) = i := by unfold bud; split <;> split <;> omega

theorem half_div (p k : Nat) : p / 2 ^ (k + 1) = p / 2 ^ k / 2 := by rw [Nat.pow_succ, Nat.div_div_eq_div_mul]

/-- The blocks of a whole of the order K: each page lies in just one, and no two buddies are both free. -/
structure Inv (K : Nat) (B : St) : Prop where
  inn : ∀ k i, B k i ≠ .no → k ≤ K ∧ i < 2 ^ (K - k)
  all : ∀ p, p < 2 ^ K → ∃ k, B k (p / 2 ^ k) ≠ .no
  one : ∀ p k k', B k (p / 2 ^ k) ≠ .no → B k' (p / 2 ^ k') ≠ .no → k = k'
  nb : ∀ k i, B k i = .free → B k (bud i) = .free → False

def begin_ (K : Nat) : St := fun k i => if k = K ∧ i = 0 then .free else .no
theorem begin_inv (K : Nat) : Inv K (begin_ K) where
  inn k i h := by
    unfold begin_ at h
    split at h
    · rename_i h1; obtain ⟨rfl, rfl⟩ := h1; simp
    · exact absurd rfl h
  all p hp := ⟨K, by unfold begin_; rw [if_pos ⟨rfl, Nat.div_eq_of_lt hp⟩]; simp⟩
  one p k k' h h' := by
    unfold begin_ at h h'
    split at h
    · split at h'
      · omega
      · exact absurd rfl h'
    · exact absurd rfl h
  nb k i h h' := by
    unfold begin_ at h h'
    split at h
    · split at h'
      · have := bud_ne i; omega
      · cases h'
    · cases h

/-- A block's pages are its own. -/
theorem Inv.at_ {K : Nat} {B : St} (h : Inv K B) {k i k' p : Nat} (hb : B k i ≠ .no) (hp : p / 2 ^ k = i) (hb' : B k' (p / 2 ^ k') ≠ .no) : k' = k := by
  subst hp; exact h.one p k' k hb' hb

/-- A kind turned into another one. -/
theorem Inv.retype {K : Nat} {B : St} (h : Inv K B) {k i : Nat} (hb : B k i ≠ .no) {x : Kind} (hx : x ≠ .no) (hn : x = .free → B k (bud i) ≠ .free) : Inv K (upd B k i x) := by
  have e : ∀ k' i', upd B k i x k' i' ≠ .no ↔ B k' i' ≠ .no := by
    intro k' i'
    by_cases hc : k' = k ∧ i' = i
    · obtain ⟨rfl, rfl⟩ := hc
      rw [upd_same]; exact ⟨fun _ => hb, fun _ => hx⟩
    · rw [upd_ne B x hc]
  refine ⟨fun k' i' h' => h.inn k' i' ((e _ _).1 h'), fun p hp => ?_, fun p k1 k2 h1 h2 => h.one p k1 k2 ((e _ _).1 h1) ((e _ _).1 h2), fun k' i' h1 h2 => ?_⟩
  · obtain ⟨k', hk⟩ := h.all p hp
    exact ⟨k', (e _ _).2 hk⟩
  · by_cases hc : k' = k ∧ i' = i
    · obtain ⟨rfl, rfl⟩ := hc
      rw [upd_same] at h1
      rw [upd_ne B x (by have := bud_ne i'; omega)] at h2
      exact hn h1 h2
    · by_cases hd : k' = k ∧ bud i' = i
      · obtain ⟨rfl, rfl⟩ := hd
        rw [upd_same] at h2
        rw [upd_ne B x hc] at h1
        rw [bud_bud] at hn
        exact hn h2 h1
      · rw [upd_ne B x hc] at h1
        rw [upd_ne B x hd] at h2
        exact h.nb k' i' h1 h2

def HeldAt (B : St) (k i : Nat) : Prop := ∀ k' i', B k' i' = .held ↔ k' = k ∧ i' = i
def NoHeld (B : St) : Prop := ∀ k i, B k i ≠ .held
def SameUsed (B B' : St) : Prop := ∀ k i, B k i = .used ↔ B' k i = .used
theorem SameUsed.refl (B : St) : SameUsed B B := fun _ _ => Iff.rfl
theorem SameUsed.trans {A B C : St} (h : SameUsed A B) (h' : SameUsed B C) : SameUsed A C := fun k i => (h k i).trans (h' k i)
theorem SameUsed.symm {A B : St} (h : SameUsed A B) : SameUsed B A := fun k i => (h k i).symm

/-- A block that is split: the lower half goes on, the upper half is free. -/
theorem split_step {K : Nat} {B : St} (h : Inv K B) {k i : Nat} (hh : HeldAt B (k + 1) i) :
    ∃ B', Inv K B' ∧ HeldAt B' k (2 * i) ∧ SameUsed B B' ∧ ∀ k' j, B' k' j = .free ↔ (B k' j = .free ∨ k' = k ∧ j = 2 * i + 1) := by
  have hb : B (k + 1) i = .held := (hh _ _).2 ⟨rfl, rfl⟩
  have hbn : B (k + 1) i ≠ .no := by rw [hb]; simp
  have hin := h.inn _ _ hbn
  -- what B has of the two halves: nothing
  have hno : ∀ j, j / 2 = i → B k j = .no := by
    intro j hj
    apply Decidable.byContradiction
    intro hne
    have := h.one (j * 2 ^ k) (k + 1) k (by rw [half_div, Nat.mul_div_cancel _ (Nat.two_pow_pos _), hj]; exact hbn) (by rw [Nat.mul_div_cancel _ (Nat.two_pow_pos _)]; exact hne)
    omega
  let B' : St := fun k' j => if k' = k + 1 ∧ j = i then .no else if k' = k ∧ j = 2 * i then .held else if k' = k ∧ j = 2 * i + 1 then .free else B k' j
  have eB : ∀ k' j, B' k' j = if k' = k + 1 ∧ j = i then .no else if k' = k ∧ j = 2 * i then .held else if k' = k ∧ j = 2 * i + 1 then .free else B k' j := fun _ _ => rfl
  clear_value B'
  -- who owns a page
  have own : ∀ p k', B' k' (p / 2 ^ k') ≠ .no ↔ if p / 2 ^ (k + 1) = i then k' = k else B k' (p / 2 ^ k') ≠ .no := by
    intro p k'
    have hd := half_div p k
    rw [eB]
    by_cases hp : p / 2 ^ (k + 1) = i
    · rw [if_pos hp]
      by_cases h1 : k' = k
      · subst h1
        rw [if_neg (by omega)]
        by_cases h2 : p / 2 ^ k' = 2 * i
        · simp [h2]
        · rw [if_neg (by omega), if_pos ⟨rfl, by omega⟩]; simp
      · by_cases h2 : k' = k + 1
        · subst h2; simp [hp]
        · rw [if_neg (by omega), if_neg (by omega), if_neg (by omega)]
          constructor
          · intro hne; exact absurd (h.at_ hbn hp hne) h2
          · intro hk; exact absurd hk h1
    · rw [if_neg hp]
      by_cases h1 : k' = k
      · subst h1
        rw [if_neg (by omega), if_neg (by omega), if_neg (by omega)]
      · by_cases h2 : k' = k + 1
        · subst h2
          rw [if_neg (by omega), if_neg (by omega), if_neg (by omega)]
        · rw [if_neg (by omega), if_neg (by omega), if_neg (by omega)]
  refine ⟨B', ⟨fun k' j hn => ?_, fun p hp => ?_, fun p k1 k2 h1 h2 => ?_, fun k' j h1 h2 => ?_⟩, fun k' j => ?_, fun k' j => ?_, fun k' j => ?_⟩
  · rw [eB] at hn
    have hpw : 2 ^ (K - k) = 2 ^ (K - (k + 1)) * 2 := by rw [← Nat.pow_succ]; congr 1; omega
    split at hn
    · exact absurd rfl hn
    · split at hn
      · rename_i hc; obtain ⟨rfl, rfl⟩ := hc; omega
      · split at hn
        · rename_i hc; obtain ⟨rfl, rfl⟩ := hc; omega
        · exact h.inn k' j hn
  · by_cases hc : p / 2 ^ (k + 1) = i
    · exact ⟨k, (own p k).2 (by rw [if_pos hc])⟩
    · obtain ⟨k', hk⟩ := h.all p hp
      exact ⟨k', (own p k').2 (by rw [if_neg hc]; exact hk)⟩
  · have e1 := (own p k1).1 h1
    have e2 := (own p k2).1 h2
    by_cases hc : p / 2 ^ (k + 1) = i
    · rw [if_pos hc] at e1 e2; omega
    · rw [if_neg hc] at e1 e2; exact h.one p k1 k2 e1 e2
  · have hbd := bud_half j
    rw [eB] at h1 h2
    split at h1
    · cases h1
    · split at h1
      · cases h1
      · split at h1
        · rename_i hc; obtain ⟨rfl, rfl⟩ := hc
          rw [if_neg (by omega), if_pos ⟨rfl, by unfold bud; split <;> omega⟩] at h2
          cases h2
        · split at h2
          · cases h2
          · split at h2
            · cases h2
            · split at h2
              · rename_i hc1 hc2 hc3 hc4 hc5 hc6
                obtain ⟨rfl, e⟩ := hc6
                exact absurd h1 (by rw [hno j (by omega)]; simp)
              · exact h.nb k' j h1 h2
  · rw [eB]
    split
    · constructor
      · intro h; cases h
      · rintro ⟨rfl, rfl⟩; omega
    · split
      · simp_all
      · split
        · simp_all
        · rename_i h1 h2 h3
          constructor
          · intro hl; exact absurd ((hh _ _).1 hl) h1
          · intro hl; exact absurd hl h2
  · rw [eB]
    split
    · rename_i hc; obtain ⟨rfl, rfl⟩ := hc; rw [hb]; simp
    · split
      · rename_i hc; obtain ⟨rfl, rfl⟩ := hc; rw [hno _ (by omega)]; simp
      · split
        · rename_i hc; obtain ⟨rfl, rfl⟩ := hc; rw [hno _ (by omega)]; simp
        · rfl
  · rw [eB]
    split
    · rename_i hc; obtain ⟨rfl, rfl⟩ := hc; rw [hb]; simp
    · split
      · rename_i hc; obtain ⟨rfl, rfl⟩ := hc; rw [hno _ (by omega)]; simp
      · split
        · rename_i hc; simp [hc]
        · rename_i h1 h2 h3; simp [h3]

/-- Two buddies that become one. -/
theorem join_step {K : Nat} {B : St} (h : Inv K B) {k i : Nat} (hh : HeldAt B k i) (hf : B k (bud i) = .free) :
    ∃ B', Inv K B' ∧ HeldAt B' (k + 1) (i / 2) ∧ SameUsed B B' ∧ ∀ k' j, B' k' j = .free ↔ (B k' j = .free ∧ ¬ (k' = k ∧ j = bud i)) := by
  have hb : B k i = .held := (hh _ _).2 ⟨rfl, rfl⟩
  have hbn : B k i ≠ .no := by rw [hb]; simp
  have hfn : B k (bud i) ≠ .no := by rw [hf]; simp
  have hin := h.inn _ _ hbn
  have hin2 := h.inn _ _ hfn
  have hbd := bud_half i
  have hbne := bud_ne i
  have hpw : 2 ^ (K - k) = 2 ^ (K - (k + 1)) * 2 ∧ k + 1 ≤ K := by
    by_cases hk : k = K
    · rw [hk, Nat.sub_self] at hin hin2; simp at hin hin2; omega
    · refine ⟨?_, by omega⟩
      rw [← Nat.pow_succ]; congr 1; omega
  have hno : B (k + 1) (i / 2) = .no := by
    apply Decidable.byContradiction
    intro hne
    have := h.one (i * 2 ^ k) k (k + 1) (by rw [Nat.mul_div_cancel _ (Nat.two_pow_pos _)]; exact hbn) (by rw [half_div, Nat.mul_div_cancel _ (Nat.two_pow_pos _)]; exact hne)
    omega
  let B' : St := fun k' j => if k' = k ∧ j / 2 = i / 2 then .no else if k' = k + 1 ∧ j = i / 2 then .held else B k' j
  have eB : ∀ k' j, B' k' j = if k' = k ∧ j / 2 = i / 2 then .no else if k' = k + 1 ∧ j = i / 2 then .held else B k' j := fun _ _ => rfl
  clear_value B'
  have pair : ∀ j, j / 2 = i / 2 → B k j ≠ .no := by
    intro j hj
    rcases bud_or hj with rfl | rfl
    · exact hbn
    · exact hfn
  have own : ∀ p k', B' k' (p / 2 ^ k') ≠ .no ↔ if p / 2 ^ (k + 1) = i / 2 then k' = k + 1 else B k' (p / 2 ^ k') ≠ .no := by
    intro p k'
    have hd := half_div p k
    rw [eB]
    by_cases hp : p / 2 ^ (k + 1) = i / 2
    · rw [if_pos hp]
      by_cases h1 : k' = k
      · subst h1
        rw [if_pos ⟨rfl, by omega⟩]; simp
      · by_cases h2 : k' = k + 1
        · subst h2; simp [hp]
        · rw [if_neg (by omega), if_neg (by omega)]
          constructor
          · intro hne; exact absurd (h.at_ (pair (p / 2 ^ k) (by omega)) rfl hne) h1
          · intro hk; exact absurd hk h2
    · rw [if_neg hp]
      by_cases h1 : k' = k
      · subst h1
        rw [if_neg (by omega), if_neg (by omega)]
      · by_cases h2 : k' = k + 1
        · subst h2
          rw [if_neg (by omega), if_neg (by omega)]
        · rw [if_neg (by omega), if_neg (by omega)]
  refine ⟨B', ⟨fun k' j hn => ?_, fun p hp => ?_, fun p k1 k2 h1 h2 => ?_, fun k' j h1 h2 => ?_⟩, fun k' j => ?_, fun k' j => ?_, fun k' j => ?_⟩
  · rw [eB] at hn
    split at hn
    · exact absurd rfl hn
    · split at hn
      · rename_i hc; obtain ⟨rfl, rfl⟩ := hc; omega
      · exact h.inn k' j hn
  · by_cases hc : p / 2 ^ (k + 1) = i / 2
    · exact ⟨k + 1, (own p (k + 1)).2 (by rw [if_pos hc])⟩
    · obtain ⟨k', hk⟩ := h.all p hp
      exact ⟨k', (own p k').2 (by rw [if_neg hc]; exact hk)⟩
  · have e1 := (own p k1).1 h1
    have e2 := (own p k2).1 h2
    by_cases hc : p / 2 ^ (k + 1) = i / 2
    · rw [if_pos hc] at e1 e2; omega
    · rw [if_neg hc] at e1 e2; exact h.one p k1 k2 e1 e2
  · rw [eB] at h1 h2
    split at h1
    · cases h1
    · split at h1
      · cases h1
      · split at h2
        · cases h2
        · split at h2
          · cases h2
          · exact h.nb k' j h1 h2
  · rw [eB]
    split
    · rename_i hc
      constructor
      · intro h; cases h
      · rintro ⟨rfl, rfl⟩; omega
    · split
      · simp_all
      · rename_i h1 h2
        constructor
        · intro hl
          obtain ⟨rfl, rfl⟩ := (hh _ _).1 hl
          exact absurd ⟨rfl, rfl⟩ h1
        · intro hl; exact absurd hl h2
  · rw [eB]
    split
    · rename_i hc
      obtain ⟨rfl, hc⟩ := hc
      rcases bud_or hc with rfl | rfl
      · rw [hb]; simp
      · rw [hf]; simp
    · split
      · rename_i hc; obtain ⟨rfl, rfl⟩ := hc; rw [hno]; simp
      · rfl
  · rw [eB]
    split
    · rename_i hc
      obtain ⟨rfl, hc⟩ := hc
      rcases bud_or hc with rfl | rfl
      · rw [hb]; simp
      · simp
    · split
      · rename_i hc; obtain ⟨rfl, rfl⟩ := hc; rw [hno]; simp
      · rename_i h1 h2
        constructor
        · intro hl
          refine ⟨hl, ?_⟩
          rintro ⟨rfl, rfl⟩
          exact h1 ⟨rfl, hbd⟩
        · exact fun hl => hl.1

/-- A free block is taken up. -/
theorem lift_step {K : Nat} {B : St} (h : Inv K B) (hn : NoHeld B) {k i : Nat} (hf : B k i = .free) :
    ∃ B', Inv K B' ∧ HeldAt B' k i ∧ SameUsed B B' ∧ ∀ k' j, B' k' j = .free ↔ (B k' j = .free ∧ ¬ (k' = k ∧ j = i)) := by
  refine ⟨upd B k i .held, h.retype (by rw [hf]; simp) (by simp) (fun e => by cases e), fun k' j => ?_, fun k' j => ?_, fun k' j => ?_⟩
  all_goals
    by_cases hc : k' = k ∧ j = i
    · obtain ⟨rfl, rfl⟩ := hc
      simp [upd_same, hf]
    · simp [upd_ne B _ hc, hc, hn k' j]
/-- A used block is taken up. -/
theorem pick_step {K : Nat} {B : St} (h : Inv K B) (hn : NoHeld B) {k i : Nat} (hf : B k i = .used) :
    ∃ B', Inv K B' ∧ HeldAt B' k i ∧ (∀ k' j, B' k' j = .used ↔ (B k' j = .used ∧ ¬ (k' = k ∧ j = i))) ∧ ∀ k' j, B' k' j = .free ↔ B k' j = .free := by
  refine ⟨upd B k i .held, h.retype (by rw [hf]; simp) (by simp) (fun e => by cases e), fun k' j => ?_, fun k' j => ?_, fun k' j => ?_⟩
  all_goals
    by_cases hc : k' = k ∧ j = i
    · obtain ⟨rfl, rfl⟩ := hc
      simp [upd_same, hf]
    · simp [upd_ne B _ hc, hc, hn k' j]
/-- What was taken up is used. -/
theorem use_step {K : Nat} {B : St} (h : Inv K B) {k i : Nat} (hh : HeldAt B k i) :
    ∃ B', Inv K B' ∧ NoHeld B' ∧ (∀ k' j, B' k' j = .used ↔ (B k' j = .used ∨ k' = k ∧ j = i)) ∧ ∀ k' j, B' k' j = .free ↔ B k' j = .free := by
  have hb : B k i = .held := (hh _ _).2 ⟨rfl, rfl⟩
  refine ⟨upd B k i .used, h.retype (by rw [hb]; simp) (by simp) (fun e => by cases e), fun k' j => ?_, fun k' j => ?_, fun k' j => ?_⟩
  all_goals
    by_cases hc : k' = k ∧ j = i
    · obtain ⟨rfl, rfl⟩ := hc
      simp [upd_same, hb]
    · simp [upd_ne B _ hc, hc, hh k' j]
/-- What was taken up is free, if its buddy isn't. -/
theorem free_step {K : Nat} {B : St} (h : Inv K B) {k i : Nat} (hh : HeldAt B k i) (hf : B k (bud i) ≠ .free) :
    ∃ B', Inv K B' ∧ NoHeld B' ∧ SameUsed B B' ∧ ∀ k' j, B' k' j = .free ↔ (B k' j = .free ∨ k' = k ∧ j = i) := by
  have hb : B k i = .held := (hh _ _).2 ⟨rfl, rfl⟩
  refine ⟨upd B k i .free, h.retype (by rw [hb]; simp) (by simp) (fun _ => hf), fun k' j => ?_, fun k' j => ?_, fun k' j => ?_⟩
  all_goals
    by_cases hc : k' = k ∧ j = i
    · obtain ⟨rfl, rfl⟩ := hc
      simp [upd_same, hb]
    · simp [upd_ne B _ hc, hc, hh k' j]

/-- Where nothing is used, one free block covers it. -/
theorem covered {K : Nat} {B : St} (h : Inv K B) (hn : NoHeld B) : ∀ (k i : Nat), k ≤ K → i < 2 ^ (K - k) → (∀ k' p, p / 2 ^ k = i → B k' (p / 2 ^ k') ≠ .used) → ∃ k', k ≤ k' ∧ B k' (i * 2 ^ k / 2 ^ k') = .free := by
  intro k
  induction k with
  | zero =>
    intro i _ hi hu
    obtain ⟨k', hk⟩ := h.all (i * 2 ^ 0) (by simpa using hi)
    refine ⟨k', Nat.zero_le _, ?_⟩
    have h1 := hu k' (i * 2 ^ 0) (by simp)
    have h2 := hn k' (i * 2 ^ 0 / 2 ^ k')
    revert hk h1 h2
    rcases Kind.each (B k' (i * 2 ^ 0 / 2 ^ k')) with e | e | e | e <;> rw [e] <;> simp
  | succ k ih =>
    intro i hk hi hu
    have hpw : 2 ^ (K - k) = 2 ^ (K - (k + 1)) * 2 := by rw [← Nat.pow_succ]; congr 1; omega
    have hsub : ∀ j, j / 2 = i → ∃ k', k ≤ k' ∧ B k' (j * 2 ^ k / 2 ^ k') = .free := by
      intro j hj
      refine ih j (by omega) (by omega) (fun k' p hp => hu k' p ?_)
      rw [half_div, hp]; exact hj
    have up : ∀ j k', j / 2 = i → k + 1 ≤ k' → j * 2 ^ k / 2 ^ k' = i * 2 ^ (k + 1) / 2 ^ k' := by
      intro j k' hj hk'
      obtain ⟨d, rfl⟩ := Nat.exists_eq_add_of_le hk'
      rw [Nat.pow_add, ← Nat.div_div_eq_div_mul, ← Nat.div_div_eq_div_mul, Nat.mul_div_cancel _ (Nat.two_pow_pos _), half_div, Nat.mul_div_cancel _ (Nat.two_pow_pos _), hj]
    obtain ⟨k1, h1, f1⟩ := hsub (2 * i) (by omega)
    obtain ⟨k2, h2, f2⟩ := hsub (2 * i + 1) (by omega)
    by_cases e1 : k + 1 ≤ k1
    · exact ⟨k1, e1, by rw [← up (2 * i) k1 (by omega) e1]; exact f1⟩
    · by_cases e2 : k + 1 ≤ k2
      · exact ⟨k2, e2, by rw [← up (2 * i + 1) k2 (by omega) e2]; exact f2⟩
      · obtain rfl : k1 = k := by omega
        obtain rfl : k2 = k1 := by omega
        rw [Nat.mul_div_cancel _ (Nat.two_pow_pos _)] at f1 f2
        exact absurd f2 (fun f2 => h.nb k2 (2 * i) f1 (by rw [show bud (2 * i) = 2 * i + 1 from by unfold bud; split <;> omega]; exact f2))

/-- What is free is told by what is used. -/
theorem free_of_used {K : Nat} {A B : St} (hA : Inv K A) (nA : NoHeld A) (hB : Inv K B) (nB : NoHeld B) (hu : SameUsed A B) (k i : Nat) : A k i = .free → B k i = .free := by
  intro hf
  have hfn : A k i ≠ .no := by rw [hf]; simp
  obtain ⟨hk, hi⟩ := hA.inn k i hfn
  have notU : ∀ {X Y : St}, Inv K X → SameUsed X Y → ∀ {k0 i0 : Nat}, X k0 i0 = .free → ∀ k' p, p / 2 ^ k0 = i0 → Y k' (p / 2 ^ k') ≠ .used := by
    intro X Y hX hXY k0 i0 h0 k' p hp hy
    have hx := (hXY _ _).2 hy
    have e := hX.at_ (k := k0) (i := i0) (by rw [h0]; simp) hp (by rw [hx]; simp)
    subst e
    rw [hp, h0] at hx
    cases hx
  obtain ⟨k1, h1, f1⟩ := covered hB nB k i hk hi (notU hA hu hf)
  obtain ⟨hk1, hi1⟩ := hB.inn _ _ (by rw [f1]; simp : B k1 (i * 2 ^ k / 2 ^ k1) ≠ .no)
  obtain ⟨k2, h2, f2⟩ := covered hA nA k1 (i * 2 ^ k / 2 ^ k1) hk1 hi1 (notU hB hu.symm f1)
  have e : i * 2 ^ k / 2 ^ k1 * 2 ^ k1 / 2 ^ k2 = i * 2 ^ k / 2 ^ k2 := by
    obtain ⟨d, rfl⟩ := Nat.exists_eq_add_of_le h2
    rw [Nat.pow_add, ← Nat.div_div_eq_div_mul, ← Nat.div_div_eq_div_mul, Nat.mul_div_cancel _ (Nat.two_pow_pos _)]
  rw [e] at f2
  have e2 := hA.at_ hfn (Nat.mul_div_cancel i (Nat.two_pow_pos k)) (by rw [f2]; simp : A k2 (i * 2 ^ k / 2 ^ k2) ≠ .no)
  obtain rfl : k1 = k := by omega
  rw [Nat.mul_div_cancel _ (Nat.two_pow_pos _)] at f1
  exact f1
theorem free_iff {K : Nat} {A B : St} (hA : Inv K A) (nA : NoHeld A) (hB : Inv K B) (nB : NoHeld B) (hu : SameUsed A B) (k i : Nat) : A k i = .free ↔ B k i = .free :=
  ⟨free_of_used hA nA hB nB hu k i, free_of_used hB nB hA nA hu.symm k i⟩
theorem whole_free {K : Nat} {B : St} (h : Inv K B) (hn : NoHeld B) (hu : ∀ k i, B k i ≠ .used) : ∀ k i, B k i = .free ↔ k = K ∧ i = 0 := by
  obtain ⟨k1, h1, f1⟩ := covered h hn K 0 (Nat.le_refl _) (Nat.two_pow_pos _) (fun k' p _ => hu _ _)
  obtain ⟨h2, _⟩ := h.inn _ _ (by rw [f1]; simp : B k1 (0 * 2 ^ K / 2 ^ k1) ≠ .no)
  obtain rfl : k1 = K := by omega
  rw [Nat.mul_div_cancel _ (Nat.two_pow_pos _)] at f1
  intro k i
  constructor
  · intro hf
    obtain ⟨hk, hi⟩ := h.inn k i (by rw [hf]; simp)
    have hpp : i * 2 ^ k < 2 ^ k1 := by
      have : 2 ^ k1 = 2 ^ (k1 - k) * 2 ^ k := by rw [← Nat.pow_add]; congr 1; omega
      rw [this]; exact Nat.mul_lt_mul_of_pos_right hi (Nat.two_pow_pos _)
    have e := h.at_ (k := k1) (i := 0) (by rw [f1]; simp) (Nat.div_eq_of_lt hpp) (by rw [Nat.mul_div_cancel i (Nat.two_pow_pos k), hf]; simp : B k (i * 2 ^ k / 2 ^ k) ≠ .no)
    subst e
    simp at hi
    exact ⟨rfl, hi⟩
  · rintro ⟨rfl, rfl⟩; exact f1
end Go.Proofs.YtohaoeilodebmaaDoor
