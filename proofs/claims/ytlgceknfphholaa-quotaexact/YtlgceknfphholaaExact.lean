/- For every limit, every child's limit and every n: just as much may be charged as is left, and an error turns nothing: QuotaExact returns true. Conditions: none. -/
import Derived.Test.YtlgceknfphholaaJ
import Derived.Test.YtlgceknfphholaaRows
import Derived.ProofKit
import Derived.OpenShut
import Derived.ShutString
import Derived.ChangeOld
namespace Go.Proofs.Ytlgceknfphholaa.quotaExact
open Go.ChangeShapes Go.WideShapes Go.ChangeAt Go.RowKit Go.Proofs.Ytlgceknfphholaa

def LA (m u : Nat) : List Fac := [⟨0, -1, m, u⟩]
def LB (m u c : Nat) : List Fac := [⟨0, -1, m, u⟩, ⟨1, 0, c, 0⟩]
theorem a1 (m c : Nat) (h : c ≤ m) : carveA (LA m 0) 1 0 (c : Int) = (1, 0, LB m 0 c, 2) := by
  simp [carveA, the, useOf, kids, LA, LB, show ¬ m < c by omega]
theorem a2 (m c : Nat) (h : m < c) : carveA (LA m 0) 1 0 (c : Int) = (0, 5, LA m 0, 1) := by
  simp [carveA, the, useOf, kids, LA, h]
theorem u1 (m u : Nat) : useA (LA m u) 0 = (u : Int) := by simp [useA, the, useOf, kids, LA]
theorem u2 (m u c : Nat) : useA (LB m u c) 0 = ((u + c : Nat) : Int) := by simp [useA, the, useOf, kids, LB]
theorem g1 (m u : Nat) : chgA (LA m u) 0 = (u : Int) := by simp [chgA, the, LA]
theorem ca1 (m : Nat) (n : Int) (h : n < 0) : chargeA (LA m 0) 0 n = (1, LA m 0) := by simp [chargeA, the, LA, h]
theorem ca2 (m : Nat) (n : Int) (h0 : 0 ≤ n) (h : (m : Int) < n) : chargeA (LA m 0) 0 n = (5, LA m 0) := by simp [chargeA, the, useOf, kids, LA, h, show ¬ n < 0 by omega]
theorem ca3 (m n : Nat) (h : n ≤ m) : chargeA (LA m 0) 0 (n : Int) = (0, LA m n) := by simp [chargeA, the, useOf, kids, LA, setC, show ¬ m < n by omega]
theorem cb1 (m c : Nat) (n : Int) (h : n < 0) : chargeA (LB m 0 c) 0 n = (1, LB m 0 c) := by simp [chargeA, the, LB, h]
theorem cb2 (m c : Nat) (n : Int) (h0 : 0 ≤ n) (h : (m : Int) - (c : Int) < n) : chargeA (LB m 0 c) 0 n = (5, LB m 0 c) := by simp [chargeA, the, useOf, kids, LB, h, show ¬ n < 0 by omega]
theorem cb3 (m c n : Nat) (h : ¬ (m : Int) - (c : Int) < (n : Int)) : chargeA (LB m 0 c) 0 (n : Int) = (0, LB m n c) := by simp [chargeA, the, useOf, kids, LB, setC, h]
theorem d1 (m u c : Nat) : closeA (LB m u c) 0 = (1, LB m u c) := by simp [closeA, the, LB]
theorem d2 (m u c : Nat) : closeA (LB m u c) 1 = (0, LA m u) := by simp [closeA, the, useOf, kids, del, LA, LB]

section
variable (w : World) (m c : Nat) (n : Int)
set_option maxHeartbeats 1000000 in
theorem xb1 (hm : (m : Int) ≤ 65535) (hcm : (c : Int) ≤ 65535) (hc : c ≤ m) (hn : n < 0) : Calls Try.prog 5 #[.int .u16 (m : Int), .int .u16 (c : Int), .int .i64 n] w fun e w' => e = .returned (.bool true) ∧ Below w.heap.size w w' := by
  go_enter Try.func5, Try.ntmps5
  go_wp2_with fail
  refine (alive_true _).mono ?_
  rintro e w1 ⟨rfl, hb1⟩
  have HB1 := hid hb1
  clear hb1
  go_wp2_with fail
  refine (St.new w1 m (by omega)).mono ?_
  rintro e w2 ⟨p, rfl, h2⟩
  change St m w1 w2 p (LA m 0) 1 at h2
  go_wp2_with fail
  have q := h2.carve (by omega) 0 (c : Int)
  rw [a1 m c hc] at q
  refine q.mono ?_
  rintro e w3 ⟨rfl, h3⟩
  clear q h2
  go_wp2_with fail
  have q := h3.use 0
  rw [u2] at q
  refine q.mono ?_
  rintro e w4 ⟨rfl, hb4⟩
  have h4 := h3.below hb4
  clear q h3 hb4
  rw [show ((0 + c : Nat) : Int) = (c : Int) from by omega]
  go_wp2_with fail
  have q := h4.charge 0 n
  rw [cb1 m c n hn] at q
  refine q.mono ?_
  rintro e w5 ⟨rfl, h5⟩
  clear q h4
  go_wp2_with fail
  have q := h5.use 0
  rw [u2] at q
  refine q.mono ?_
  rintro e w6 ⟨rfl, hb6⟩
  have h6 := h5.below hb6
  clear q h5 hb6
  go_wp2_with fail
  refine (alive_true _).mono ?_
  rintro e w7 ⟨rfl, hb7⟩
  have h7 := h6.below hb7
  clear h6 hb7
  go_wp2_with fail
  have q := h7.close 0
  rw [d1] at q
  refine q.mono ?_
  rintro e w8 ⟨rfl, h8⟩
  clear q h7
  go_wp2_with fail
  have q := h8.close 1
  rw [d2] at q
  refine q.mono ?_
  rintro e w9 ⟨rfl, h9⟩
  clear q h8
  go_wp2_with fail
  have q := h9.use 0
  rw [u1] at q
  refine q.mono ?_
  rintro e w10 ⟨rfl, hb10⟩
  have h10 := h9.below hb10
  clear q h9 hb10
  go_wp2_with fail
  have q := h10.charged 0
  rw [g1] at q
  refine q.mono ?_
  rintro e w11 ⟨rfl, rfl⟩
  clear q
  go_wp2_with fail
  go_ret
  exact ⟨rfl, Below.of_below HB1.out HB1.out.size (by exact h10.bel)⟩
set_option maxHeartbeats 1000000 in
theorem xb2 (hm : (m : Int) ≤ 65535) (hcm : (c : Int) ≤ 65535) (hc : c ≤ m) (h0 : 0 ≤ n) (hn : (m : Int) - (c : Int) < n) : Calls Try.prog 5 #[.int .u16 (m : Int), .int .u16 (c : Int), .int .i64 n] w fun e w' => e = .returned (.bool true) ∧ Below w.heap.size w w' := by
  go_enter Try.func5, Try.ntmps5
  go_wp2_with fail
  refine (alive_true _).mono ?_
  rintro e w1 ⟨rfl, hb1⟩
  have HB1 := hid hb1
  clear hb1
  go_wp2_with fail
  refine (St.new w1 m (by omega)).mono ?_
  rintro e w2 ⟨p, rfl, h2⟩
  change St m w1 w2 p (LA m 0) 1 at h2
  go_wp2_with fail
  have q := h2.carve (by omega) 0 (c : Int)
  rw [a1 m c hc] at q
  refine q.mono ?_
  rintro e w3 ⟨rfl, h3⟩
  clear q h2
  go_wp2_with fail
  have q := h3.use 0
  rw [u2] at q
  refine q.mono ?_
  rintro e w4 ⟨rfl, hb4⟩
  have h4 := h3.below hb4
  clear q h3 hb4
  rw [show ((0 + c : Nat) : Int) = (c : Int) from by omega]
  go_wp2_with fail
  have q := h4.charge 0 n
  rw [cb2 m c n h0 hn] at q
  refine q.mono ?_
  rintro e w5 ⟨rfl, h5⟩
  clear q h4
  have hn' : decide (n ≤ (m : Int) - (c : Int)) = false := decide_eq_false (by omega)
  go_wp2_with fail
  have q := h5.use 0
  rw [u2] at q
  refine q.mono ?_
  rintro e w6 ⟨rfl, hb6⟩
  have h6 := h5.below hb6
  clear q h5 hb6
  go_wp2_with fail
  refine (alive_true _).mono ?_
  rintro e w7 ⟨rfl, hb7⟩
  have h7 := h6.below hb7
  clear h6 hb7
  go_wp2_with fail
  have q := h7.close 0
  rw [d1] at q
  refine q.mono ?_
  rintro e w8 ⟨rfl, h8⟩
  clear q h7
  go_wp2_with fail
  have q := h8.close 1
  rw [d2] at q
  refine q.mono ?_
  rintro e w9 ⟨rfl, h9⟩
  clear q h8
  go_wp2_with fail
  have q := h9.use 0
  rw [u1] at q
  refine q.mono ?_
  rintro e w10 ⟨rfl, hb10⟩
  have h10 := h9.below hb10
  clear q h9 hb10
  go_wp2_with fail
  have q := h10.charged 0
  rw [g1] at q
  refine q.mono ?_
  rintro e w11 ⟨rfl, rfl⟩
  clear q
  go_wp2_with fail
  go_ret
  exact ⟨rfl, Below.of_below HB1.out HB1.out.size (by exact h10.bel)⟩
set_option maxHeartbeats 1000000 in
theorem xb3 (hm : (m : Int) ≤ 65535) (hcm : (c : Int) ≤ 65535) (hc : c ≤ m) (k : Nat) (hn : ¬ (m : Int) - (c : Int) < (k : Int)) : Calls Try.prog 5 #[.int .u16 (m : Int), .int .u16 (c : Int), .int .i64 (k : Int)] w fun e w' => e = .returned (.bool true) ∧ Below w.heap.size w w' := by
  have HN := hid hn
  clear hn
  go_enter Try.func5, Try.ntmps5
  go_wp2_with fail
  refine (alive_true _).mono ?_
  rintro e w1 ⟨rfl, hb1⟩
  have HB1 := hid hb1
  clear hb1
  go_wp2_with fail
  refine (St.new w1 m (by omega)).mono ?_
  rintro e w2 ⟨p, rfl, h2⟩
  change St m w1 w2 p (LA m 0) 1 at h2
  go_wp2_with fail
  have q := h2.carve (by omega) 0 (c : Int)
  rw [a1 m c hc] at q
  refine q.mono ?_
  rintro e w3 ⟨rfl, h3⟩
  clear q h2
  go_wp2_with fail
  have q := h3.use 0
  rw [u2] at q
  refine q.mono ?_
  rintro e w4 ⟨rfl, hb4⟩
  have h4 := h3.below hb4
  clear q h3 hb4
  rw [show ((0 + c : Nat) : Int) = (c : Int) from by omega]
  go_wp2_with fail
  have q := h4.charge 0 (k : Int)
  rw [cb3 m c k (by have := HN.out; omega)] at q
  refine q.mono ?_
  rintro e w5 ⟨rfl, h5⟩
  clear q h4
  have hn' : decide ((k : Int) ≤ (m : Int) - (c : Int)) = true := decide_eq_true (by have := HN.out; omega)
  have hk : (k : Int) ≤ 65535 := by have := HN.out; omega
  go_wp2_with fail
  have q := h5.use 0
  rw [u2] at q
  refine q.mono ?_
  rintro e w6 ⟨rfl, hb6⟩
  have h6 := h5.below hb6
  clear q h5 hb6
  have ht : (((k + c : Nat) : Int) == (c : Int) + (k : Int)) = true := by rw [beq_iff_eq]; omega
  go_wp2_with fail
  refine (alive_true _).mono ?_
  rintro e w7 ⟨rfl, hb7⟩
  have h7 := h6.below hb7
  clear h6 hb7
  go_wp2_with fail
  have q := h7.close 0
  rw [d1] at q
  refine q.mono ?_
  rintro e w8 ⟨rfl, h8⟩
  clear q h7
  go_wp2_with fail
  have q := h8.close 1
  rw [d2] at q
  refine q.mono ?_
  rintro e w9 ⟨rfl, h9⟩
  clear q h8
  go_wp2_with fail
  have q := h9.use 0
  rw [u1] at q
  refine q.mono ?_
  rintro e w10 ⟨rfl, hb10⟩
  have h10 := h9.below hb10
  clear q h9 hb10
  go_wp2_with fail
  have q := h10.charged 0
  rw [g1] at q
  refine q.mono ?_
  rintro e w11 ⟨rfl, rfl⟩
  clear q
  go_wp2_with fail
  go_ret
  exact ⟨rfl, Below.of_below HB1.out HB1.out.size (by exact h10.bel)⟩
set_option maxHeartbeats 1000000 in
theorem xa1 (hm : (m : Int) ≤ 65535) (hcm : (c : Int) ≤ 65535) (hc : m < c) (hn : n < 0) : Calls Try.prog 5 #[.int .u16 (m : Int), .int .u16 (c : Int), .int .i64 n] w fun e w' => e = .returned (.bool true) ∧ Below w.heap.size w w' := by
  go_enter Try.func5, Try.ntmps5
  go_wp2_with fail
  refine (alive_true _).mono ?_
  rintro e w1 ⟨rfl, hb1⟩
  have HB1 := hid hb1
  clear hb1
  go_wp2_with fail
  refine (St.new w1 m (by omega)).mono ?_
  rintro e w2 ⟨p, rfl, h2⟩
  change St m w1 w2 p (LA m 0) 1 at h2
  go_wp2_with fail
  have q := h2.carve (by omega) 0 (c : Int)
  rw [a2 m c hc] at q
  refine q.mono ?_
  rintro e w3 ⟨rfl, h3⟩
  clear q h2
  go_wp2_with fail
  have q := h3.use 0
  rw [u1] at q
  refine q.mono ?_
  rintro e w4 ⟨rfl, hb4⟩
  have h4 := h3.below hb4
  clear q h3 hb4
  rw [show ((0 : Nat) : Int) = 0 from rfl]
  go_wp2_with fail
  have q := h4.charge 0 n
  rw [ca1 m n hn] at q
  refine q.mono ?_
  rintro e w5 ⟨rfl, h5⟩
  clear q h4
  go_wp2_with fail
  have q := h5.use 0
  rw [u1] at q
  refine q.mono ?_
  rintro e w6 ⟨rfl, hb6⟩
  have h6 := h5.below hb6
  clear q h5 hb6
  go_wp2_with fail
  refine (alive_true _).mono ?_
  rintro e w7 ⟨rfl, hb7⟩
  have h7 := h6.below hb7
  clear h6 hb7
  go_wp2_with fail
  go_ret
  exact ⟨rfl, Below.of_below HB1.out HB1.out.size (by exact h7.bel)⟩
set_option maxHeartbeats 1000000 in
theorem xa2 (hm : (m : Int) ≤ 65535) (hcm : (c : Int) ≤ 65535) (hc : m < c) (h0 : 0 ≤ n) (hn : (m : Int) < n) : Calls Try.prog 5 #[.int .u16 (m : Int), .int .u16 (c : Int), .int .i64 n] w fun e w' => e = .returned (.bool true) ∧ Below w.heap.size w w' := by
  go_enter Try.func5, Try.ntmps5
  go_wp2_with fail
  refine (alive_true _).mono ?_
  rintro e w1 ⟨rfl, hb1⟩
  have HB1 := hid hb1
  clear hb1
  go_wp2_with fail
  refine (St.new w1 m (by omega)).mono ?_
  rintro e w2 ⟨p, rfl, h2⟩
  change St m w1 w2 p (LA m 0) 1 at h2
  go_wp2_with fail
  have q := h2.carve (by omega) 0 (c : Int)
  rw [a2 m c hc] at q
  refine q.mono ?_
  rintro e w3 ⟨rfl, h3⟩
  clear q h2
  go_wp2_with fail
  have q := h3.use 0
  rw [u1] at q
  refine q.mono ?_
  rintro e w4 ⟨rfl, hb4⟩
  have h4 := h3.below hb4
  clear q h3 hb4
  rw [show ((0 : Nat) : Int) = 0 from rfl]
  go_wp2_with fail
  have q := h4.charge 0 n
  rw [ca2 m n h0 hn] at q
  refine q.mono ?_
  rintro e w5 ⟨rfl, h5⟩
  clear q h4
  have hn' : decide (n ≤ (m : Int)) = false := decide_eq_false (by omega)
  go_wp2_with fail
  have q := h5.use 0
  rw [u1] at q
  refine q.mono ?_
  rintro e w6 ⟨rfl, hb6⟩
  have h6 := h5.below hb6
  clear q h5 hb6
  go_wp2_with fail
  refine (alive_true _).mono ?_
  rintro e w7 ⟨rfl, hb7⟩
  have h7 := h6.below hb7
  clear h6 hb7
  go_wp2_with fail
  go_ret
  exact ⟨rfl, Below.of_below HB1.out HB1.out.size (by exact h7.bel)⟩
set_option maxHeartbeats 1000000 in
theorem xa3 (hm : (m : Int) ≤ 65535) (hcm : (c : Int) ≤ 65535) (hc : m < c) (k : Nat) (hn : ¬ (m : Int) < (k : Int)) : Calls Try.prog 5 #[.int .u16 (m : Int), .int .u16 (c : Int), .int .i64 (k : Int)] w fun e w' => e = .returned (.bool true) ∧ Below w.heap.size w w' := by
  have HN := hid hn
  clear hn
  go_enter Try.func5, Try.ntmps5
  go_wp2_with fail
  refine (alive_true _).mono ?_
  rintro e w1 ⟨rfl, hb1⟩
  have HB1 := hid hb1
  clear hb1
  go_wp2_with fail
  refine (St.new w1 m (by omega)).mono ?_
  rintro e w2 ⟨p, rfl, h2⟩
  change St m w1 w2 p (LA m 0) 1 at h2
  go_wp2_with fail
  have q := h2.carve (by omega) 0 (c : Int)
  rw [a2 m c hc] at q
  refine q.mono ?_
  rintro e w3 ⟨rfl, h3⟩
  clear q h2
  go_wp2_with fail
  have q := h3.use 0
  rw [u1] at q
  refine q.mono ?_
  rintro e w4 ⟨rfl, hb4⟩
  have h4 := h3.below hb4
  clear q h3 hb4
  rw [show ((0 : Nat) : Int) = 0 from rfl]
  go_wp2_with fail
  have q := h4.charge 0 (k : Int)
  rw [ca3 m k (by have := HN.out; omega)] at q
  refine q.mono ?_
  rintro e w5 ⟨rfl, h5⟩
  clear q h4
  have hn' : decide ((k : Int) ≤ (m : Int)) = true := decide_eq_true (by have := HN.out; omega)
  have hk : (k : Int) ≤ 65535 := by have := HN.out; omega
  have hkm : k ≤ m := by have := HN.out; omega
  go_wp2_with fail
  have q := h5.use 0
  rw [u1] at q
  refine q.mono ?_
  rintro e w6 ⟨rfl, hb6⟩
  have h6 := h5.below hb6
  clear q h5 hb6
  go_wp2_with fail
  refine (alive_true _).mono ?_
  rintro e w7 ⟨rfl, hb7⟩
  have h7 := h6.below hb7
  clear h6 hb7
  go_wp2_with fail
  go_ret
  exact ⟨rfl, Below.of_below HB1.out HB1.out.size (by exact h7.bel)⟩
end

theorem walk (a0 a1 a2 : Int) (w : World) (w0 : (Lit.int .u16 a0).wf = true) (w1 : (Lit.int .u16 a1).wf = true) (_w2 : (Lit.int .i64 a2).wf = true) :
    Calls Try.prog 5 #[.int .u16 a0, .int .u16 a1, .int .i64 a2] w fun e w' => e = .returned (.bool true) ∧ Below w.heap.size w w' := by
  have b0 := bounds_u16 w0
  have b1 := bounds_u16 w1
  obtain ⟨m, rfl⟩ := Int.eq_ofNat_of_zero_le b0.1
  obtain ⟨c, rfl⟩ := Int.eq_ofNat_of_zero_le b1.1
  by_cases hc : c ≤ m
  · by_cases h0 : a2 < 0
    · exact xb1 w m c a2 (by omega) (by omega) hc h0
    by_cases h1 : (m : Int) - (c : Int) < a2
    · exact xb2 w m c a2 (by omega) (by omega) hc (by omega) h1
    · obtain ⟨k, rfl⟩ := Int.eq_ofNat_of_zero_le (show 0 ≤ a2 by omega)
      exact xb3 w m c (by omega) (by omega) hc k h1
  · by_cases h0 : a2 < 0
    · exact xa1 w m c a2 (by omega) (by omega) (by omega) h0
    by_cases h1 : (m : Int) < a2
    · exact xa2 w m c a2 (by omega) (by omega) (by omega) (by omega) h1
    · obtain ⟨k, rfl⟩ := Int.eq_ofNat_of_zero_le (show 0 ≤ a2 by omega)
      exact xa3 w m c (by omega) (by omega) (by omega) k h1

theorem own : ownKnob Try.prog.godebug = none := by kernel_rfl
theorem laidOut : laidOutB Try.prog = true := by kernel_rfl

set_option maxRecDepth 100000 in
theorem lifted (os : Os) (started : os.Started) (H : Type) (enc : TypeId × Value → H) :
    ReturnsInHanded {} Try.checked os 5 .any (Rows.quotaExactSpec.pre6 enc Try.prog Try.f5 Rows.quotaExactRow.domain false) (Rows.quotaExactSpec.post enc Try.prog Try.f5 false true false false) := by
  refine returnsInHanded_of_change (C := Try.checked) own started (by kernel_rfl) Try.func5
    (ChangeSpec.witness6 (enc := enc) (C := Try.checked) false ⟨#[], #[.int .u16 0, .int .u16 0, .int .i64 0], []⟩ 8 (by kernel_rfl) (by kernel_rfl) (by kernel_rfl) (by kernel_rfl)) ?_
  intro W base args ds gs before hval0 hW hcnd _
  have hval : ∀ (j : Nat) t v, Try.f5.params[j]? = some t → args[j]? = some v → Value.okWide Try.prog W .any base t v := hval0
  have hW' := hW
  obtain ⟨p, q, hA0, hV, rfl, hfz, hnd⟩ := hW
  have hA : DataW.TrodAll enc Try.prog W 0 (fun _ => true) true Try.f5.params.toList args.toList ds p := hA0
  rw [Try.params5] at hA hval
  obtain ⟨v0, vs0, d0, ds0, p0, q0, hargs, rfl, rfl, h0, r0⟩ := trodAll_cons hA
  obtain ⟨v1, vs1, d1, ds1, p1, q1, rfl, rfl, rfl, h1, r1⟩ := trodAll_cons r0
  obtain ⟨v2, vs2, d2, ds2, p2, q2, rfl, rfl, rfl, h2, r2⟩ := trodAll_cons r1
  obtain ⟨rfl, rfl, rfl⟩ := trodAll_nil r2
  obtain rfl : args = #[v0, v1, v2] := by cases args; simp_all
  obtain ⟨rfl, rfl⟩ := trodVars_none hV
  obtain ⟨a0, rfl, rfl, rfl, w0⟩ := open_int Try.underlying49 (hval 0 49 v0 rfl rfl) h0
  obtain ⟨a1, rfl, rfl, rfl, w1⟩ := open_int Try.underlying49 (hval 1 49 v1 rfl rfl) h1
  obtain ⟨a2, rfl, rfl, rfl, w2⟩ := open_int Try.underlying3 (hval 2 3 v2 rfl rfl) h2
  clear hA0 hval0
  refine (walk a0 a1 a2 W w0 w1 w2).mono fun e W' ⟨he, bel⟩ => ?_
  subst he
  exact ⟨_, rfl, _, _, _, [], _, [], hW', trodAll_mk1 (shut_bool Try.underlying4 _), (trodAll_cons_mk (shut_int Try.underlying49 w0) (trodAll_cons_mk (shut_int Try.underlying49 w1) (trodAll_cons_mk (shut_int Try.underlying3 w2) trodAll_mk0))), rfl, bel.frame _, fun h => by cases h⟩

theorem proved : Rows.QuotaExactSaid :=
  OpenClaim.holds_of_wide 5 Try.f5 rfl rfl rfl rfl rfl rfl rfl ⟨rfl, rfl, rfl, rfl, rfl⟩ rfl rfl rfl rfl rfl (by kernel_rfl) Try.func5 (by kernel_rfl)
    (of_decide_eq_true (by kernel_rfl)) (by unfold Func.isWrapper; first | (rw [if_pos (by decide +kernel)]; kernel_rfl) | (rw [if_neg (by decide +kernel)]; exact ⟨rfl, rfl⟩))
    (fun os started H enc _ => lifted os started H enc)

end Go.Proofs.Ytlgceknfphholaa.quotaExact
