/- A cache that is alone over its allocator: the used blocks are its slabs; the function alive. -/
import Derived.Test.YtohaoeilodebmaaDoorS25
namespace Go.Proofs.YtohaoeilodebmaaDoor
open Go.RowKit Go.Maps

/-- The used blocks are just the slabs. -/
def Exact (B : St) (U : Pls) (m : Nat) : Prop := ∀ k i, B k i = .used ↔ k = 0 ∧ Slb U m i
theorem Exact.start (K m : Nat) : Exact (begin_ K) none_ m := fun k i => ⟨fun h => absurd ((begin_us K k i).1 h) (by simp), fun h => absurd h.2 (none_slb _ _)⟩
theorem Exact.take {B B' : St} {U U' : Pls} {m q i : Nat} (h : Exact B U m) (ht : Taken U U' m q i) (hc : Came B B' U m q) : Exact B' U' m := fun k r => by
  have hs : Slb U' m r ↔ Slb U m r ∨ r = q := by
    rw [ht.now]
    by_cases e : r = q
    · subst e; exact ⟨fun _ => .inr rfl, fun _ => slb_on ht.lt⟩
    · rw [slb_other true e]; exact ⟨.inl, fun h => h.resolve_right e⟩
  rcases hc with ⟨h1, rfl⟩ | ⟨_, _, _, hp, _⟩
  · rw [h k r, hs]
    exact ⟨fun ⟨a, b⟩ => ⟨a, .inl b⟩, fun ⟨a, b⟩ => ⟨a, b.elim id (fun e => e ▸ h1)⟩⟩
  · rw [hp k r, h k r, hs]
    exact ⟨fun e => e.elim (fun ⟨a, b⟩ => ⟨a, .inl b⟩) (fun ⟨a, b⟩ => ⟨a, .inr b⟩), fun ⟨a, b⟩ => b.elim (fun b => .inl ⟨a, b⟩) (fun b => .inr ⟨a, b⟩)⟩
theorem Exact.give {B B' : St} {U U' : Pls} {m q i : Nat} (h : Exact B U m) (ht : Given U U' m q i) (hc : (Slb U' m q ∧ B' = B) ∨ (¬ Slb U' m q ∧ Less B B' 0 q)) : Exact B' U' m := fun k r => by
  have hq : Slb U m q := ⟨i, ht.lt, ht.used⟩
  have hs : r ≠ q → (Slb U' m r ↔ Slb U m r) := fun e => by rw [ht.now]; exact slb_other false e
  rcases hc with ⟨h1, rfl⟩ | ⟨h1, hl⟩
  · rw [h k r]
    by_cases e : r = q
    · subst e; exact ⟨fun ⟨a, _⟩ => ⟨a, h1⟩, fun ⟨a, _⟩ => ⟨a, hq⟩⟩
    · rw [hs e]
  · rw [hl k r, h k r]
    by_cases e : r = q
    · subst e
      exact ⟨fun ⟨⟨a, _⟩, b⟩ => absurd ⟨a, rfl⟩ b, fun ⟨_, b⟩ => absurd b h1⟩
    · rw [hs e]
      exact ⟨fun ⟨a, _⟩ => a, fun a => ⟨a, fun b => e b.2⟩⟩
theorem pages_zero {K : Nat} {f : Nat → Nat → Bool} : ∀ {N : Nat}, (∀ k i, k < N → f k i = false) → pages K f N = 0
  | 0, _ => rfl
  | N + 1, h => by
    unfold pages
    have e : cnt (f N) (2 ^ (K - N)) = 0 := by
      have : cnt (f N) (2 ^ (K - N)) = cnt (fun _ => false) (2 ^ (K - N)) := cnt_congr (fun i _ => h N i (by omega))
      rw [this]
      have e2 : ∀ n, cnt (fun _ => false) n = 0 := fun n => by
        induction n with
        | zero => rfl
        | succ n ih => unfold cnt; rw [ih]; rfl
      exact e2 _
    rw [pages_zero (fun k i hk => h k i (by omega)), e]; omega
theorem pages_low {K : Nat} {f : Nat → Nat → Bool} (h : ∀ k i, 0 < k → f k i = false) : ∀ N, pages K f (N + 1) = cnt (f 0) (2 ^ K)
  | 0 => by simp [pages]
  | N + 1 => by
    have ih := pages_low (K := K) h N
    show pages K f (N + 1) + cnt (f (N + 1)) (2 ^ (K - (N + 1))) * 2 ^ (N + 1) = _
    rw [ih]
    have e : cnt (f (N + 1)) (2 ^ (K - (N + 1))) = 0 := by
      have : cnt (f (N + 1)) (2 ^ (K - (N + 1))) = cnt (fun _ => false) (2 ^ (K - (N + 1))) := cnt_congr (fun i _ => h (N + 1) i (by omega))
      rw [this]
      have e2 : ∀ n, cnt (fun _ => false) n = 0 := fun n => by
        induction n with
        | zero => rfl
        | succ n ih => unfold cnt; rw [ih]; rfl
      exact e2 _
    rw [e]; omega
/-- How many pages are left, by how many slabs there are. -/
theorem Exact.left {B : St} {U : Pls} {m K : Nat} (h : Exact B U m) (hi : Inv K B) (hn : NoHeld B) : pages K (isK B .free) (K + 1) + (slabsOf U m (2 ^ K)).length = 2 ^ K := by
  have e1 := pages_all hi hn
  have e2 : pages K (isK B .used) (K + 1) = cnt (fun p => decide (0 < cnt (U p) m)) (2 ^ K) := by
    rw [pages_low (fun k i hk => by unfold isK; simp; intro e; have := ((h k i).1 e).1; omega)]
    refine cnt_congr (fun i _ => ?_)
    unfold isK
    rw [decide_eq_decide, h 0 i, slb_cnt]
    simp
  have e3 : (slabsOf U m (2 ^ K)).length = cnt (fun p => decide (0 < cnt (U p) m)) (2 ^ K) := by
    unfold slabsOf
    rw [List.length_map]
    unfold pagesOf
    rw [ones_len]
  omega
theorem ints_len {w : World} {base : Nat} {v : Value} {l : List Nat} {k : Nat} (h : w.ownsRow base 3 1 v l.length (nums l)) (hk : l.length = k) : ∃ a cap, v = .slice a k cap ∧ Ints w base a l := by subst hk; exact ints_of h
end Go.Proofs.YtohaoeilodebmaaDoor
