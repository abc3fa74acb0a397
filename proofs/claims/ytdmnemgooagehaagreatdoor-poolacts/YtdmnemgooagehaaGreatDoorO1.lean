/- The document's pool: what memory costs, what may be; the pool in memory; what a factory is charged. -/
import Derived.Test.YtdmnemgooagehaaGreatDoorQuR2
import Derived.Test.YtdmnemgooagehaaGreatDoorK6
namespace Go.Proofs.YtdmnemgooagehaaGreatDoor
open Go.RowKit Go.Maps

set_option maxHeartbeats 1000000 in
theorem rcost_any (c : Int) (w : World) : Calls Tryz.prog 43 #[.int .i64 c] w fun e w' => e = .returned (.int .i64 (costI c)) ∧ w' = w := by
  by_cases h : c = 1 ∨ c = 2 ∨ c = 3 ∨ c = 4 ∨ c = 5 ∨ c = 6 ∨ c = 7
  · rcases h with rfl | rfl | rfl | rfl | rfl | rfl | rfl
    all_goals
      go_enter Tryz.func43, Tryz.ntmps43
      go_wp2_with fail
      go_ret
      exact ⟨rfl, rfl⟩
  · have e : costI c = 0 := by
      unfold costI
      by_cases h0 : 0 ≤ c ∧ c < 8
      · obtain ⟨k, rfl⟩ := Int.eq_ofNat_of_zero_le h0.1
        obtain rfl : k = 0 := by omega
        rfl
      · first | rw [if_neg h0] | (rw [if_neg (by omega)])
    rw [e]
    have h1 : (c == 1) = false := by rw [beq_eq_false_iff_ne]; omega
    have h2 : (c == 2) = false := by rw [beq_eq_false_iff_ne]; omega
    have h3 : (c == 3) = false := by rw [beq_eq_false_iff_ne]; omega
    have h4 : (c == 4) = false := by rw [beq_eq_false_iff_ne]; omega
    have h5 : (c == 5) = false := by rw [beq_eq_false_iff_ne]; omega
    have h6 : (c == 6) = false := by rw [beq_eq_false_iff_ne]; omega
    have h7 : (c == 7) = false := by rw [beq_eq_false_iff_ne]; omega
    clear h e
    go_enter Tryz.func43, Tryz.ntmps43
    go_wp2_with fail
    go_ret
    exact ⟨rfl, rfl⟩

/-- Of whom a block is: the heads of the document's pool, its tags told by a function. -/
def Zt (w : World) (G : Nat → Prop) (tg : Nat → Nat) (t : Nat) (x : Nat) : Prop := (G x ∨ w.heap.size ≤ x) ∧ (tg x = 0 ∨ tg x = t)
/-- Where its parts are. -/
structure Rw where
  rp : Nat
  r : Nat
  rq : Nat
  rb : Nat → Nat
  K : Nat
  N : Nat
structure RefP (w : World) (G : Nat → Prop) (tg : Nat → Nat) (R : Rw) (B : St) (U : Nat → Pls) (l : List Qu.Fac) (nxt : Nat) (rg cap : Nat) (vF vB : Value) (F Ub : List (Nat × Nat)) (vS vU : Nat → Value) : Prop where
  hd : w.heap[R.rp]? = some (.cells #[.int .i64 (R.N : Int), .pointer (some ⟨R.r, 0, none⟩), .pointer (some ⟨R.rq, 0, none⟩), .pointer none, .pointer (some ⟨R.rb 1, 0, none⟩), .pointer (some ⟨R.rb 2, 0, none⟩), .pointer (some ⟨R.rb 3, 0, none⟩), .pointer (some ⟨R.rb 4, 0, none⟩), .pointer (some ⟨R.rb 5, 0, none⟩), .pointer (some ⟨R.rb 6, 0, none⟩), .pointer (some ⟨R.rb 7, 0, none⟩)] 80)
  rm : RefM w R.r (Zt w G tg 2) R.K B vF vB F Ub
  rt : Qu.Rm w R.rq rg cap l nxt
  rc : ∀ k, 1 ≤ k → k ≤ 7 → RefC w (R.rb k) R.r (Zt w G tg (10 + k)) (cost k) (many k) (2 ^ R.K) (U k) (vS k) (vU k)
  tp : tg R.rp = 1
  tr : tg R.r = 2
  tq : tg R.rq = 3
  tgg : tg rg = 3
  tb : ∀ k, 1 ≤ k → k ≤ 7 → tg (R.rb k) = 10 + k
  gp : G R.rp
  gq : G R.rq
  gg : G rg
  new : ∀ x, w.heap.size ≤ x → tg x = 0
section
variable {w w' : World} {G : Nat → Prop} {tg : Nat → Nat} {R : Rw} {B : St} {U : Nat → Pls} {l : List Qu.Fac} {nxt rg cap : Nat} {vF vB : Value} {F Ub : List (Nat × Nat)} {vS vU : Nat → Value}
theorem RefP.lp (h : RefP w G tg R B U l nxt rg cap vF vB F Ub vS vU) : R.rp < w.heap.size := (Array.getElem?_eq_some_iff.1 h.hd).1
theorem RefP.c1 (h : RefP w G tg R B U l nxt rg cap vF vB F Ub vS vU) : w.cell? ⟨R.rp, 1, none⟩ = some (.pointer (some ⟨R.r, 0, none⟩)) := by rw [cell_of_row w R.rp 1 _ _ _ h.hd]; rfl
theorem RefP.c2 (h : RefP w G tg R B U l nxt rg cap vF vB F Ub vS vU) : w.cell? ⟨R.rp, 2, none⟩ = some (.pointer (some ⟨R.rq, 0, none⟩)) := by rw [cell_of_row w R.rp 2 _ _ _ h.hd]; rfl
theorem RefP.cb (h : RefP w G tg R B U l nxt rg cap vF vB F Ub vS vU) {k : Nat} (h1 : 1 ≤ k) (h7 : k ≤ 7) : w.cell? ⟨R.rp, 3 + k, none⟩ = some (.pointer (some ⟨R.rb k, 0, none⟩)) := by
  rw [cell_of_row w R.rp (3 + k) _ _ _ h.hd]
  rcases cls h1 h7 with rfl | rfl | rfl | rfl | rfl | rfl | rfl <;> rfl
end
end Go.Proofs.YtdmnemgooagehaaGreatDoor
