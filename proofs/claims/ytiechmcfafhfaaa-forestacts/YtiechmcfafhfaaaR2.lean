/- The document's forest: two owners compared; Find, Kids; the comparison Spots. -/
import Derived.Test.YtiechmcfafhfaaaR1
import Derived.Laws.StructEq
namespace Go.Proofs.Ytiechmcfafhfaaa
open Go.RowKit Go.Maps Go.Shelf

theorem part0 (a b : Int) (w : World) : (part 3 #[.int .i64 a, .int .i64 b] 0).run Try.prog w = .ok (.int .i64 a) w := by kernel_rfl
theorem part1 (a b : Int) (w : World) : (part 3 #[.int .i64 a, .int .i64 b] 1).run Try.prog w = .ok (.int .i64 b) w := by kernel_rfl
theorem equalS (a b c d : Int) (w : World) : (Op.equalIn 10000 44 (spot a b) (spot c d)).run Try.prog w = .ok (a == c && b == d) w := by
  have hu : Try.prog.underlying 44 = some (.struct (Try.prog.fieldsOf 44)) := by kernel_rfl
  have hp : Try.prog.stoodInHeld 44 = false := by kernel_rfl
  have hf : (Try.prog.fieldsOf 44).toList = [({ name := "Space", type := 3, offset := 0, embedded := false, tag := "", pkgPath := "", byteOffset := 0 } : Field), { name := "Slot", type := 3, offset := 1, embedded := false, tag := "", pkgPath := "", byteOffset := 8 }] := by kernel_rfl
  have he : ∀ (x y : Int) (w : World), (Op.equalIn 9999 3 (.int .i64 x) (.int .i64 y)).run Try.prog w = .ok (x == y) w := fun x y w => run_equalIn_int w 9998 3 .i64 .i64 x y Try.underlying3
  rw [run_equalIn_agg _ _ _ _ _ hu hp, hf]
  by_cases h1 : a = c <;> by_cases h2 : b = d <;> simp [Op.eqFields, part0, part1, he, Result.andThen, h1, h2]
theorem eqlS (a b c d : Int) (w : World) : (binOp .eql 44 (spot a b) (spot c d)).run Try.prog w = .ok (.bool (a == c && b == d)) w := by
  rw [run_eql_struct, equalS]; rfl
theorem neqS (a b c d : Int) (w : World) : (binOp .neq 44 (spot a b) (spot c d)).run Try.prog w = .ok (.bool (!(a == c && b == d))) w := by
  rw [run_neq_struct, equalS]; rfl
theorem guardS : Try.prog.eqGuardType Try.prog.depth 44 = false := by kernel_rfl
section
variable {w w' : World} {r : Nat} {v : Value} {last : Nat} {L : List Nd} {e : Nd}
/-- Spots of like rows. -/
theorem spots_any {b1 b2 : Nat} {v1 v2 : Value} {xs : List (Int × Int)} (h1 : OR w b1 2 v1 xs.length (flat xs)) (h2 : OR w b2 2 v2 xs.length (flat xs)) (hl : xs.length ≤ 100000) : Calls Try.prog 21 #[v1, v2] w fun en w' => en = .returned (.bool true) ∧ ∃ q, w' = w.drewN q := by
  obtain ⟨a1, k1, rfl, _⟩ := h1.slice
  obtain ⟨a2, k2, rfl, _⟩ := h2.slice
  have HR := hid (And.intro h1 h2)
  have hn0 : ((xs.length : Int) != (xs.length : Int)) = false := by simp
  have hg := guardS
  clear h1 h2
  go_enter Try.func21, Try.ntmps21
  go_wp2
  go_loopw [5] (fun c wr => ∃ j : Nat, j ≤ xs.length ∧ c = .int .i64 (j : Int) ∧ ∃ q, wr = w.drewN q) (fun c _ => xs.length - (intOf c).toNat)
  case atStart => exact ⟨0, Nat.zero_le _, rfl, 0, rfl⟩
  case round =>
    obtain ⟨j, hj, rfl, q, rfl⟩ := hrel
    by_cases hlt : j < xs.length
    · obtain ⟨q0, q1⟩ := flat_at (List.getElem?_eq_getElem hlt)
      obtain ⟨g1, o1, rfl, _, c1⟩ := HR.out.1.at q0
      obtain ⟨g1', o1', e1, _, c2⟩ := HR.out.1.at q1
      obtain ⟨rfl, rfl⟩ : g1 = g1' ∧ o1 = o1' := by simpa using e1
      obtain ⟨g2, o2, rfl, _, c3⟩ := HR.out.2.at q0
      obtain ⟨g2', o2', e2, _, c4⟩ := HR.out.2.at q1
      obtain ⟨rfl, rfl⟩ : g2 = g2' ∧ o2 = o2' := by simpa using e2
      have hj0 : (0 : Int) ≤ (j : Int) := by omega
      have hj1 : (j : Int) < (xs.length : Int) := by omega
      have hs : ∀ w, (binOp .neq 44 (spot xs[j].1 xs[j].2) (spot xs[j].1 xs[j].2)).run Try.prog w = .ok (.bool false) w := fun w => by rw [neqS]; simp
      rw [← Nat.add_assoc] at c2 c4
      clear q0 q1 e1 e2
      generalize xs[j].1 = x at *
      generalize xs[j].2 = y at *
      generalize xs.length = n at *
      go_wp2_with fail
      go_quiet (fail)
      go_wp2_with fail
      exact ⟨⟨j + 1, by omega, by go_num, _, rfl⟩, by simp [intOf]; omega⟩
    · go_wp2
      go_ret
      exact ⟨rfl, q, rfl⟩
end
end Go.Proofs.Ytiechmcfafhfaaa
