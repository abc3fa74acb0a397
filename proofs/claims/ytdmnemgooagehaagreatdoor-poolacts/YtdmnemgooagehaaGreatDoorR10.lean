/- What a Take and a Give tell, by the program's allocator or the document's: the same. -/
import Derived.Test.YtdmnemgooagehaaGreatDoorR9
import Derived.Test.YtdmnemgooagehaaGreatDoorR8
namespace Go.Proofs.YtdmnemgooagehaaGreatDoor
open Go.RowKit Go.Maps

/-- What a Take tells, by either. -/
def TookOf (K : Nat) (B B' : St) (N at_ er : Int) : Prop :=
  (at_ = 0 ∧ B' = B ∧ ((er = 1 ∧ (N < 0 ∨ (K : Int) < N)) ∨ er = 4 ∧ ∃ o : Nat, N = (o : Int) ∧ o ≤ K ∧ ∀ k j, o ≤ k → B k j ≠ .free)) ∨
     er = 0 ∧ ∃ o k i n : Nat, N = (o : Int) ∧ o ≤ K ∧ Least B o k i ∧ at_ = addr k i ∧ addr o n = addr k i ∧ B o n ≠ .used ∧ Plus B B' o n
theorem addr_same {o n n' : Nat} (h : addr o n = addr o n') : n = n' := by
  unfold addr at h
  have e : n * 2 ^ o = n' * 2 ^ o := by omega
  exact Nat.eq_of_mul_eq_mul_right (Nat.two_pow_pos o) e
theorem took_agree {K : Nat} {B B1 B2 : St} {N a1 e1 a2 e2 : Int} (h : TookOf K B B1 N a1 e1) (h' : TookOf K B B2 N a2 e2) : a1 = a2 ∧ e1 = e2 ∧ SameUsed B1 B2 := by
  rcases h with ⟨rfl, rfl, h⟩ | ⟨rfl, o, k, i, n, hN, ho, hl, ha, hn, hu, hp⟩
  · rcases h' with ⟨rfl, rfl, h'⟩ | ⟨rfl, o', k', i', n', hN', ho', hl', ha', hn', hu', hp'⟩
    · refine ⟨rfl, ?_, SameUsed.refl _⟩
      rcases h with ⟨rfl, h⟩ | ⟨rfl, o, hN, ho, h⟩ <;> rcases h' with ⟨rfl, h'⟩ | ⟨rfl, o', hN', ho', h'⟩
      · rfl
      · omega
      · omega
      · rfl
    · exfalso
      rcases h with ⟨rfl, h⟩ | ⟨rfl, o, hN, ho, h⟩
      · omega
      · obtain rfl : o = o' := by omega
        exact h k' i' hl'.1 hl'.2.1
  · rcases h' with ⟨rfl, rfl, h'⟩ | ⟨rfl, o', k', i', n', hN', ho', hl', ha', hn', hu', hp'⟩
    · exfalso
      rcases h' with ⟨rfl, h'⟩ | ⟨rfl, o', hN', ho', h'⟩
      · omega
      · obtain rfl : o = o' := by omega
        exact h' k i hl.1 hl.2.1
    · obtain rfl : o = o' := by omega
      obtain ⟨rfl, rfl⟩ := least_one hl hl'
      obtain rfl : n = n' := addr_same (hn.trans hn'.symm)
      exact ⟨ha.trans ha'.symm, rfl, fun k i => (hp k i).trans (hp' k i).symm⟩

theorem rtook_any (w : World) (r : Nat) (Z : Nat → Prop) (K : Nat) (B : St) (vF vU : Value) (F U : List (Nat × Nat)) (N : Int) (h : RefM w r Z K B vF vU F U) (hi : Inv K B) (hn : NoHeld B) :
    Calls Tryz.prog 21 #[.pointer (some ⟨r, 0, none⟩), .int .i64 N] w (RTook w r Z K B N) := by
  by_cases hN : 0 ≤ N ∧ N ≤ (K : Int)
  · obtain ⟨o, rfl⟩ := Int.eq_ofNat_of_zero_le hN.1
    exact rtake_any w r Z K B vF vU F U o h hi hn (by omega)
  · exact rtake_bad w r Z K B vF vU F U N h hi hn (by omega)

/-- What a Give tells, by either. -/
def GaveOf (B B' : St) (a er : Int) : Prop := (er = 6 ∧ B' = B ∧ ∀ k i, B k i = .used → a ≠ addr k i) ∨ er = 0 ∧ ∃ k i : Nat, B k i = .used ∧ a = addr k i ∧ Less B B' k i
theorem gave_agree {K : Nat} {B B1 B2 : St} (hi : Inv K B) {a e1 e2 : Int} (h : GaveOf B B1 a e1) (h' : GaveOf B B2 a e2) : e1 = e2 ∧ SameUsed B1 B2 := by
  rcases h with ⟨rfl, rfl, h⟩ | ⟨rfl, k, i, hb, ha, hl⟩
  · rcases h' with ⟨rfl, rfl, h'⟩ | ⟨rfl, k', i', hb', ha', hl'⟩
    · exact ⟨rfl, SameUsed.refl _⟩
    · exact (h k' i' hb' ha').elim
  · rcases h' with ⟨rfl, rfl, h'⟩ | ⟨rfl, k', i', hb', ha', hl'⟩
    · exact (h' k i hb ha).elim
    · obtain ⟨rfl, rfl⟩ := addr_inj hi (by rw [hb]; simp) (by rw [hb']; simp) (ha.symm.trans ha')
      exact ⟨rfl, fun k' i' => (hl k' i').trans (hl' k' i').symm⟩
theorem lst_one {B : St} {x : Kind} {L L' : List (Nat × Nat)} (h : Lst B x L) (h' : Lst B x L') : L = L' := h.ext h' (fun _ _ => Iff.rfl)

def SlPost (L : List (Nat × Nat)) (w : World) (e : Ending) (w' : World) : Prop := ∃ a cap, e = .returned (.slice a L.length cap) ∧ Rd w' w.heap.size a L ∧ Below w.heap.size w w'
/-- What stands last in a block is followed by what follows the block. -/
theorem unblock {P : Program} {s : Code} {K : Act → World → Prop} {Q : Exit → Act → World → Prop} {n : Nat} {a : Act} {w : World} (h : s.wp P (Exit.then K (Exit.inBlock n (Exit.then K Q))) a w) : s.wp P (Exit.inBlock n (Exit.then K Q)) a w := by
  refine wp_mono h ?_
  intro e a' w' hq
  cases e <;> exact hq
end Go.Proofs.YtdmnemgooagehaaGreatDoor
