/- Age, of both tables. -/
import Derived.Test.YtoahfeckadaomaaQ
namespace Go.Proofs.Ytoahfeckadaomaa
open Go.RowKit

def ageB (T : Nat → Pl) (p a : Int) : Bool := decide (0 ≤ p ∧ p < 256 ∧ 0 ≤ a ∧ a ≤ 1048575) && ((T p.toNat).st == 0)
def ageR (T : Nat → Pl) (p a : Int) : Nat → Pl := if ageB T p a = true then ageT T p.toNat a.toNat else T
section
variable {v w w' : World} {b r : Nat} {T : Nat → Pl}
theorem Wf.ageR (h : Wf T) (p a : Int) : Wf (ageR T p a) := by
  unfold Ytoahfeckadaomaa.ageR
  by_cases e : ageB T p a = true
  · rw [if_pos e]
    unfold ageB at e
    rw [Bool.and_eq_true] at e
    have := of_decide_eq_true e.1
    exact h.age _ (by omega)
  · rw [if_neg e]; exact h
theorem Ht.ageA (h : Ht v w b T) (p a : Int) : Calls Try.prog 16 #[.pointer (some ⟨b, 0, none⟩), .int .i64 p, .int .i64 a] w (HPost v w b (.bool (ageB T p a)) (ageR T p a)) := by
  by_cases c : 0 ≤ p ∧ p < 256 ∧ 0 ≤ a ∧ a ≤ 1048575
  · obtain ⟨n, rfl⟩ := Int.eq_ofNat_of_zero_le c.1
    obtain ⟨m, rfl⟩ := Int.eq_ofNat_of_zero_le c.2.2.1
    have hd : decide (0 ≤ (n : Int) ∧ (n : Int) < 256 ∧ 0 ≤ (m : Int) ∧ (m : Int) ≤ 1048575) = true := decide_eq_true c
    by_cases hs : (T n).st = 0
    · have e : ageB T n m = true := by
        unfold ageB
        rw [hd, Int.toNat_natCast, hs]
        rfl
      have e2 : ageR T n m = ageT T n m := by unfold ageR; rw [if_pos e, Int.toNat_natCast, Int.toNat_natCast]
      rw [e, e2]
      exact h.age n m (by omega) (by omega) hs
    · have e : ageB T n m = false := by
        unfold ageB
        rw [hd, Int.toNat_natCast, Bool.true_and, beq_eq_false_iff_ne]
        exact hs
      have e2 : ageR T n m = T := by unfold ageR; rw [if_neg (by rw [e]; decide)]
      rw [e, e2]
      refine (age_full h.tb n m (by omega) (by omega) (by omega) hs).mono ?_
      rintro e w' ⟨rfl, rfl⟩
      exact ⟨rfl, h, But.refl _ _⟩
  · have e : ageB T p a = false := by unfold ageB; rw [decide_eq_false c, Bool.false_and]
    have e2 : ageR T p a = T := by unfold ageR; rw [if_neg (by rw [e]; decide)]
    rw [e, e2]
    refine (age_bad w b p a c).mono ?_
    rintro e w' ⟨rfl, rfl⟩
    exact ⟨rfl, h, But.refl _ _⟩
theorem rage_any (h : Rb w r T) (p a : Int) : Calls Try.prog 22 #[.pointer (some ⟨r, 0, none⟩), .int .i64 p, .int .i64 a] w (RPost w r (.bool (ageB T p a)) (ageR T p a)) := by
  by_cases c : 0 ≤ p ∧ p < 256 ∧ 0 ≤ a ∧ a ≤ 1048575
  · obtain ⟨n, rfl⟩ := Int.eq_ofNat_of_zero_le c.1
    obtain ⟨m, rfl⟩ := Int.eq_ofNat_of_zero_le c.2.2.1
    have hd : decide (0 ≤ (n : Int) ∧ (n : Int) < 256 ∧ 0 ≤ (m : Int) ∧ (m : Int) ≤ 1048575) = true := decide_eq_true c
    by_cases hs : (T n).st = 0
    · have e : ageB T n m = true := by
        unfold ageB
        rw [hd, Int.toNat_natCast, hs]
        rfl
      have e2 : ageR T n m = ageT T n m := by unfold ageR; rw [if_pos e, Int.toNat_natCast, Int.toNat_natCast]
      rw [e, e2]
      exact rage_ok h n m (by omega) (by omega) hs
    · have e : ageB T n m = false := by
        unfold ageB
        rw [hd, Int.toNat_natCast, Bool.true_and, beq_eq_false_iff_ne]
        exact hs
      have e2 : ageR T n m = T := by unfold ageR; rw [if_neg (by rw [e]; decide)]
      rw [e, e2]
      refine (rage_full h n m (by omega) (by omega) (by omega) hs).mono ?_
      rintro e w' ⟨rfl, rfl⟩
      exact ⟨rfl, h, But.refl _ _⟩
  · have e : ageB T p a = false := by unfold ageB; rw [decide_eq_false c, Bool.false_and]
    have e2 : ageR T p a = T := by unfold ageR; rw [if_neg (by rw [e]; decide)]
    rw [e, e2]
    refine (rage_bad w r p a c).mono ?_
    rintro e w' ⟨rfl, rfl⟩
    exact ⟨rfl, h, But.refl _ _⟩

/-- What the document's call answers and leaves, behind the program's. -/
def TwPost (v w : World) (b r : Nat) (val : Value) (T' : Nat → Pl) (e : Ending) (w' : World) : Prop := e = .returned val ∧ Two v w' b r T' ∧ But r w w'
def MdPost (v w : World) (b r : Nat) (val : Value) (T T' : Nat → Pl) (e : Ending) (w' : World) : Prop := e = .returned val ∧ Mid v w' b r T T' ∧ But b w w'
theorem Two.of {k : Nat} {args : Array Value} {val : Value} {T' : Nat → Pl} (h : Two v w b r T) (c : Calls Try.prog k args w (HPost v w b val T')) : Calls Try.prog k args w (MdPost v w b r val T T') :=
  c.mono fun _ _ ⟨he, h1, hb⟩ => ⟨he, h.mid h1 hb, hb⟩
theorem Mid.of {k : Nat} {args : Array Value} {val : Value} {T' : Nat → Pl} (h : Mid v w b r T T') (c : Calls Try.prog k args w (RPost w r val T')) : Calls Try.prog k args w (TwPost v w b r val T') :=
  c.mono fun _ _ ⟨he, h1, hb⟩ => ⟨he, h.two h1 hb, hb⟩
theorem Mid.alloc {T' : Nat → Pl} (h : Mid v w b r T T') (o : Obj) : Mid v (w.alloc o) b r T T' := ⟨h.ht.alloc o, h.rb.alloc o, h.wf, h.le, h.ne⟩
end
end Go.Proofs.Ytoahfeckadaomaa
