/- For every list of steps and every n: of factories one below the other each uses what it was charged, and its child's limit, and they close from the lowest one up alone: QuotaChain returns true. Conditions: none. -/
import Derived.Test.YtlgceknfphholaaK
import Derived.Test.YtlgceknfphholaaRows
namespace Go.Proofs.Ytlgceknfphholaa.quotaChain
open Go.ChangeShapes Go.WideShapes Go.ChangeAt Go.RowKit Go.Proofs.Ytlgceknfphholaa

/-- Factories one below the other. -/
def chain (L : Nat → Nat) : Nat → List Fac
  | 0 => [⟨0, -1, L 0, 0⟩]
  | j + 1 => chain L j ++ [⟨j + 1, (j : Int), L (j + 1), 0⟩]
section
variable (L : Nat → Nat)
theorem chain_mem (j : Nat) : ∀ f, f ∈ chain L j ↔ ∃ t, t ≤ j ∧ f = ⟨t, (t : Int) - 1, L t, 0⟩ := by
  induction j with
  | zero =>
    intro f
    unfold chain
    rw [List.mem_singleton]
    constructor
    · rintro rfl; exact ⟨0, Nat.le_refl _, rfl⟩
    · rintro ⟨t, ht, rfl⟩
      obtain rfl : t = 0 := by omega
      rfl
  | succ j ih =>
    intro f
    unfold chain
    rw [List.mem_append, ih, List.mem_singleton]
    constructor
    · rintro (⟨t, ht, rfl⟩ | rfl)
      · exact ⟨t, by omega, rfl⟩
      · exact ⟨j + 1, Nat.le_refl _, by congr 1; omega⟩
    · rintro ⟨t, ht, rfl⟩
      by_cases e : t = j + 1
      · subst e; right; congr 1; omega
      · exact .inl ⟨t, by omega, rfl⟩
theorem chain_len (j : Nat) : (chain L j).length = j + 1 := by
  induction j with
  | zero => rfl
  | succ j ih => unfold chain; rw [List.length_append, ih]; rfl
theorem chain_up (j : Nat) : (chain L j).Pairwise fun a b => a.id < b.id := by
  induction j with
  | zero => unfold chain; simp
  | succ j ih =>
    unfold chain
    rw [List.pairwise_append]
    refine ⟨ih, by simp, fun a ha b hb => ?_⟩
    rw [List.mem_singleton] at hb; subst hb
    obtain ⟨t, ht, rfl⟩ := (chain_mem L j a).1 ha
    show t < j + 1; omega
theorem chain_kids (j t : Nat) : kids (chain L j) (t : Int) = if t < j then [L (t + 1)] else [] := by
  induction j with
  | zero =>
    rw [if_neg (by omega)]
    unfold chain
    rw [kids_one, if_neg (by show ¬ ((-1 : Int) = (t : Int)); omega)]
  | succ j ih =>
    unfold chain
    rw [kids_append, ih, kids_one]
    by_cases e : t < j
    · rw [if_pos e, if_neg (by show ¬ ((j : Int) = (t : Int)); omega), if_pos (by omega)]; rfl
    · rw [if_neg e]
      by_cases e2 : t = j
      · subst e2; rw [if_pos rfl, if_pos (show t < t + 1 by omega)]; rfl
      · rw [if_neg (by show ¬ ((j : Int) = (t : Int)); omega), if_neg (by omega)]; rfl
theorem chain_the {j t : Nat} (h : t ≤ j) : the (chain L j) (t : Int) = some ⟨t, (t : Int) - 1, L t, 0⟩ :=
  the_mem (chain_up L j) (f := ⟨t, (t : Int) - 1, L t, 0⟩) ((chain_mem L j _).2 ⟨t, h, rfl⟩)
theorem chain_no {j t : Nat} (h : j < t) : the (chain L j) (t : Int) = none := by
  rw [the_none]
  intro f hf e
  obtain ⟨s, hs, rfl⟩ := (chain_mem L j f).1 hf
  simp at e; omega
theorem use0 {j t : Nat} : useOf (chain L j) ⟨t, (t : Int) - 1, L t, 0⟩ = if t < j then L (t + 1) else 0 := by
  unfold useOf
  show 0 + (kids (chain L j) (t : Int)).sum = _
  rw [chain_kids]
  split <;> simp

theorem s1 (j : Nat) (h : L (j + 1) ≤ L j) (hj : j + 1 < 32) : carveA (chain L j) (j + 1) (j : Int) (L (j + 1) : Int) = (((j + 1 : Nat) : Int), 0, chain L (j + 1), j + 2) := by
  unfold carveA
  rw [chain_the L (Nat.le_refl j)]
  simp only [use0, Nat.lt_irrefl, if_false]
  rw [if_neg (by omega), if_neg (by simp; omega), if_neg (by rw [chain_len]; omega)]
  rfl
theorem s2 (j : Nat) : parA (chain L (j + 1)) ((j + 1 : Nat) : Int) = (j : Int) := by
  unfold parA; rw [chain_the L (Nat.le_refl _)]; show ((j + 1 : Nat) : Int) - 1 = _; omega
theorem s3 (j : Nat) : useA (chain L (j + 1)) (j : Int) = (L (j + 1) : Int) := by
  unfold useA; rw [chain_the L (by omega)]; show ((useOf _ _ : Nat) : Int) = _; rw [use0, if_pos (by omega)]
theorem s4 (j : Nat) : limA (chain L (j + 1)) ((j + 1 : Nat) : Int) = (L (j + 1) : Int) := by
  unfold limA; rw [chain_the L (Nat.le_refl _)]
def paid (j n : Nat) : List Fac := setC (chain L j) (j : Int) n
theorem paid_the (j n : Nat) : the (paid L j n) (j : Int) = some ⟨j, (j : Int) - 1, L j, n⟩ := by
  have hm : (⟨j, (j : Int) - 1, L j, n⟩ : Fac) ∈ paid L j n := by
    unfold paid setC
    refine List.mem_map.2 ⟨⟨j, (j : Int) - 1, L j, 0⟩, (chain_mem L j _).2 ⟨j, Nat.le_refl _, rfl⟩, ?_⟩
    simp
  have hu : (paid L j n).Pairwise fun a b => a.id < b.id := by
    have e : ∀ m : List Fac, m.Pairwise (fun a b => a.id < b.id) ↔ (m.map Fac.id).Pairwise (· < ·) := fun m => by rw [List.pairwise_map]
    have := chain_up L j
    rw [e] at this ⊢
    unfold paid
    rw [setC_ids]; exact this
  exact the_mem hu hm
theorem paid_use (j n : Nat) : useOf (paid L j n) ⟨j, (j : Int) - 1, L j, n⟩ = n := by
  unfold useOf
  show n + (kids (paid L j n) (j : Int)).sum = n
  unfold paid
  rw [kids_setC, chain_kids, if_neg (by omega)]; rfl
theorem p1 (j n : Nat) (h : n ≤ L j) : chargeA (chain L j) (j : Int) (n : Int) = (0, paid L j n) := by
  unfold chargeA
  rw [chain_the L (Nat.le_refl j)]
  simp only [use0, Nat.lt_irrefl, if_false]
  rw [if_neg (by omega), if_neg (by simp; omega)]
  simp [paid]
theorem p2 (j n : Nat) : useA (paid L j n) (j : Int) = (n : Int) := by
  unfold useA; rw [paid_the]; show ((useOf _ _ : Nat) : Int) = _; rw [paid_use]
theorem p3 (j n : Nat) (hj : j ≠ 0) (hn : 0 < n) : closeA (paid L j n) (j : Int) = (12, paid L j n) := by
  unfold closeA; rw [paid_the]
  simp only [paid_use]
  rw [if_neg (by omega), if_pos (.inr hn)]
theorem p4 (j n : Nat) : refundA (paid L j n) (j : Int) (n : Int) = (0, chain L j) := by
  unfold refundA; rw [paid_the]
  simp only
  rw [if_neg (by simp), Int.toNat_natCast, Nat.sub_self]
  unfold paid
  rw [setC_setC]
  have := setC_self (chain_up L j) (f := ⟨j, (j : Int) - 1, L j, 0⟩) ((chain_mem L j _).2 ⟨j, Nat.le_refl _, rfl⟩)
  exact congrArg (Prod.mk 0) this
theorem q1 (j : Nat) (h : j ≠ 0) : closeA (chain L (j + 1)) (j : Int) = (12, chain L (j + 1)) := by
  unfold closeA; rw [chain_the L (by omega)]
  simp only
  rw [if_neg (by omega), if_pos (.inl (by rw [chain_kids, if_pos (by omega)]; simp))]
theorem q2 (j : Nat) : closeA (chain L (j + 1)) ((j + 1 : Nat) : Int) = (0, chain L j) := by
  unfold closeA; rw [chain_the L (Nat.le_refl _)]
  simp only [use0, Nat.lt_irrefl, if_false]
  rw [if_neg (by omega), if_neg (by rw [chain_kids, if_neg (by omega)]; simp)]
  congr 1
  rw [show chain L (j + 1) = chain L j ++ [⟨j + 1, (j : Int), L (j + 1), 0⟩] from rfl]
  unfold del
  rw [List.filter_append, List.filter_eq_self.2 (fun f hf => by
    obtain ⟨s, hs, rfl⟩ := (chain_mem L j f).1 hf
    simp; omega)]
  simp
theorem q3 (j : Nat) : closeA (chain L j) ((j + 1 : Nat) : Int) = (6, chain L j) := by
  unfold closeA; rw [chain_no L (by omega)]
theorem q4 (j : Nat) : useA (chain L j) (j : Int) = 0 := by
  unfold useA; rw [chain_the L (Nat.le_refl _)]; show ((useOf _ _ : Nat) : Int) = _; rw [use0, if_neg (by omega)]; rfl
end

/-- The slice has these bytes, in memory that was there when block number B was the next one. -/
def Bys (w : World) (B : Nat) (a : Option Addr) (ns : List Nat) : Prop := (∀ x ∈ ns, x ≤ 255) ∧ (ns.length = 0 ∨ ∃ s o, a = some ⟨s, o, none⟩ ∧ s < B ∧ ∀ j, j < ns.length → w.cell? ⟨s, o + j, none⟩ = some (.int .u8 ((ns[j]?.getD 0 : Nat) : Int)))
def limit (ns : List Nat) (t : Nat) : Nat := 1048576 - (ns.take t).sum
theorem sum_bytes : ∀ (ns : List Nat), (∀ x ∈ ns, x ≤ 255) → ns.sum ≤ 255 * ns.length
  | [], _ => Nat.le_refl _
  | x :: r, h => by
    have h1 := h x (by simp)
    have h2 := sum_bytes r (fun y hy => h y (by simp [hy]))
    rw [List.sum_cons, List.length_cons]; omega
theorem limit_next {ns : List Nat} (hb : ∀ x ∈ ns, x ≤ 255) (hl : ns.length ≤ 25) {t : Nat} (ht : t < ns.length) : limit ns t = limit ns (t + 1) + ns[t]?.getD 0 ∧ ns[t]?.getD 0 ≤ 255 := by
  have h1 := take_sum ns ht
  have h2 := sum_bytes (ns.take (t + 1)) (fun x hx => hb x (List.mem_of_mem_take hx))
  have h3 : (ns.take (t + 1)).length ≤ 25 := by simp; omega
  have h4 : ns[t]?.getD 0 ≤ 255 := by
    rw [List.getElem?_eq_getElem ht]; exact hb _ (List.getElem_mem ht)
  unfold limit
  omega
theorem limit_big {ns : List Nat} (hb : ∀ x ∈ ns, x ≤ 255) (hl : ns.length ≤ 25) (t : Nat) : 65536 ≤ limit ns t ∧ limit ns t ≤ 1048576 := by
  have h2 := sum_bytes (ns.take t) (fun x hx => hb x (List.mem_of_mem_take hx))
  have h3 : (ns.take t).length ≤ 25 := by simp; omega
  unfold limit
  omega

theorem core_long (a : Option Addr) (len cap : Nat) (n : Int) (w : World) (hl : (25 : Int) < (len : Int)) :
    Calls Try.prog 6 #[.slice a len cap, .int .u16 n] w fun e w' => e = .returned (.bool true) ∧ Below w.heap.size w w' := by
  go_enter Try.func6, Try.ntmps6
  go_wp2_with fail
  refine (alive_true _).mono ?_
  rintro e w1 ⟨rfl, hb1⟩
  go_wp2_with fail
  go_ret
  exact ⟨rfl, hb1⟩

set_option maxRecDepth 100000 in
set_option maxHeartbeats 1000000 in
theorem core (a : Option Addr) (ns : List Nat) (cap n : Nat) (w : World) (hA : Bys w w.heap.size a ns) (hn : (n : Int) ≤ 65535) (hl : (ns.length : Int) ≤ 25) :
    Calls Try.prog 6 #[.slice a ns.length cap, .int .u16 (n : Int)] w fun e w' => e = .returned (.bool true) ∧ Below w.heap.size w w' := by
  have HB := hid hA.1
  have HR := hid hA.2
  have hdl : decide ((25 : Int) < (ns.length : Int)) = false := decide_eq_false (by omega)
  clear hA
  go_enter Try.func6, Try.ntmps6
  go_wp2_with fail
  refine (alive_true _).mono ?_
  rintro e w1 ⟨rfl, hb1⟩
  have HB1 := hid hb1
  clear hb1
  go_wp2_with fail
  refine (St.new w1 1048576 (by omega)).mono ?_
  rintro e w2 ⟨p, rfl, h2⟩
  change St 1048576 w1 w2 p (chain (limit ns) 0) 1 at h2
  have H2 := hid h2
  clear h2
  go_wp2_with fail
  go_loopw [6, 7, 8] (fun lm id t wr => ∃ j : Nat, j ≤ ns.length ∧ t = .int .i64 (j : Int) ∧ id = .int .i64 (j : Int) ∧ lm = .int .i64 (limit ns j : Int) ∧ Hid (St 1048576 w1 wr p (chain (limit ns) j) (j + 1))) (fun _ _ t _ => ns.length - (intOf t).toNat)
  case atStart => exact ⟨0, Nat.zero_le _, rfl, rfl, rfl, H2⟩
  case round =>
    obtain ⟨j, hj, rfl, rfl, rfl, hS⟩ := hrel
    clear H2
    by_cases hlt : j < ns.length
    · have hX := Below.of_below HB1.out HB1.out.size hS.out.bel
      rcases HR.out with h0 | ⟨s, o, rfl, hs, hcell⟩
      · omega
      have hx := (hX.cell (p := ⟨s, o + j, none⟩) hs).trans (hcell j hlt)
      obtain ⟨hn1, hn2⟩ := limit_next HB.out (by omega) hlt
      have hbg := (limit_big HB.out (by omega) j).2
      have k1 := hS.out.carve (by omega) (j : Int) (limit ns (j + 1) : Int)
      rw [s1 (limit ns) j (by omega) (by omega)] at k1
      have K1 := hid k1
      have HN := hid hn1
      rw [hn1] at hbg ⊢
      clear k1 hS hX hcell hn1
      have T1 := hid (s2 (limit ns) j)
      have T2 := hid (s3 (limit ns) j)
      have T3 := hid (s4 (limit ns) j)
      generalize ns[j]?.getD 0 = b at *
      obtain ⟨m, hm⟩ : ∃ m, m = limit ns (j + 1) := ⟨_, rfl⟩
      rw [← hm] at K1 T2 T3 hbg ⊢
      have HM := hid hm
      clear hm
      go_wp2_with fail
      have e0 : (m : Int) + (b : Int) - (b : Int) = (m : Int) := by omega
      try rw [e0]
      refine K1.out.mono ?_
      rintro e w3 ⟨rfl, h3⟩
      have k3 := h3.parent (((j + 1 : Nat)) : Int)
      rw [T1.out] at k3
      have K3 := hid k3
      have H3 := hid h3
      clear k3 h3
      go_wp2_with fail
      refine K3.out.mono ?_
      rintro e w4 ⟨rfl, rfl⟩
      have k4 := H3.out.use (j : Int)
      rw [T2.out] at k4
      have K4 := hid k4
      clear k4
      go_wp2_with fail
      refine K4.out.mono ?_
      rintro e w5 ⟨rfl, hb5⟩
      have H5 := hid (H3.out.below hb5)
      have k5 := H5.out.limit (((j + 1 : Nat)) : Int)
      rw [T3.out] at k5
      have K5 := hid k5
      clear k5 hb5
      go_wp2_with fail
      refine K5.out.mono ?_
      rintro e w6 ⟨rfl, rfl⟩
      go_wp2_with fail
      exact ⟨⟨j + 1, by omega, by go_num, by go_num, by rw [← HM.out], H5⟩, by simp [intOf]; omega⟩
    · obtain rfl : j = ns.length := by omega
      obtain ⟨len, hlen⟩ : ∃ len, len = ns.length := ⟨_, rfl⟩
      have hbg := limit_big HB.out (by omega) ns.length
      rw [← hlen] at hS hbg hl ⊢
      have k1 := hS.out.charge (len : Int) (n : Int)
      rw [p1 (limit ns) len n (by omega)] at k1
      have K1 := hid k1
      have HLEN := hid hlen
      clear k1 hS hlen
      go_wp2_with fail
      refine K1.out.mono ?_
      rintro e w3 ⟨rfl, h3⟩
      have k2 := h3.use (len : Int)
      rw [p2] at k2
      have K2 := hid k2
      have H3 := hid h3
      clear k2 h3
      go_wp2_with fail
      refine K2.out.mono ?_
      rintro e w4 ⟨rfl, hb4⟩
      have H4 := hid (H3.out.below hb4)
      clear hb4 H3
      by_cases z0 : len = 0
      · have z1 : ((len : Int) == 0) = true := by rw [z0]; rfl
        have z2 : ((len : Int) != 0) = false := by rw [z0]; rfl
        clear z0
        have k3 := H4.out.refund (len : Int) (n : Int)
        rw [p4] at k3
        have K3 := hid k3
        clear k3 H4
        go_wp2_with fail
        refine K3.out.mono ?_
        rintro e w5 ⟨rfl, h5⟩
        have HL := hid h5
        clear h5
        as_aux_lemma =>
          go_wp2_with fail
          go_loopw [7, 11] (fun id t wr => ∃ i : Nat, i ≤ len ∧ t = .int .i64 (i : Int) ∧ id = .int .i64 (i : Int) ∧ Hid (St 1048576 w1 wr p (chain (limit ns) i) (len + 1))) (fun _ t _ => (intOf t).toNat)
          case atStart => exact ⟨len, Nat.le_refl _, rfl, rfl, HL⟩
          case round =>
            obtain ⟨i, hi, rfl, rfl, hS⟩ := hrel
            clear HL
            by_cases hi0 : 0 < i
            · obtain ⟨r, hr⟩ : ∃ r, i = r + 1 := ⟨i - 1, by omega⟩
              have T1 : parA (chain (limit ns) i) (i : Int) = (r : Int) := by rw [hr]; exact s2 _ r
              have T3 : closeA (chain (limit ns) i) (i : Int) = (0, chain (limit ns) r) := by rw [hr]; exact q2 _ r
              have T4 : closeA (chain (limit ns) r) (i : Int) = (6, chain (limit ns) r) := by rw [hr]; exact q3 _ r
              have T5 := q4 (limit ns) r
              have k1 := hS.out.parent (i : Int)
              rw [T1] at k1
              have K1 := hid k1
              have HT := hid (And.intro T3 (And.intro T4 T5))
              have T2 : r ≠ 0 → closeA (chain (limit ns) i) (r : Int) = (12, chain (limit ns) i) := fun h => by rw [hr]; exact q1 _ r h
              have HT2 := hid T2
              have HRR := hid hr
              clear k1 T1 T2 T3 T4 T5 hr
              by_cases hr0 : r = 0
              · have hi1 : ¬ (1 < i) := by have := HRR.out; omega
                clear hr0
                go_wp2_with fail
                refine K1.out.mono ?_
                rintro e w6 ⟨rfl, rfl⟩
                have k2 := hS.out.close (i : Int)
                rw [HT.out.1] at k2
                have K2 := hid k2
                clear k2 hS
                go_wp2_with fail
                refine K2.out.mono ?_
                rintro e w7 ⟨rfl, h7⟩
                have k3 := h7.close (i : Int)
                rw [HT.out.2.1] at k3
                have K3 := hid k3
                clear k3 h7
                go_wp2_with fail
                refine K3.out.mono ?_
                rintro e w8 ⟨rfl, h8⟩
                have k4 := h8.use (r : Int)
                rw [HT.out.2.2] at k4
                have K4 := hid k4
                have H8 := hid h8
                clear k4 h8
                go_wp2_with fail
                refine K4.out.mono ?_
                rintro e w9 ⟨rfl, hb9⟩
                have H9 := hid (H8.out.below hb9)
                clear hb9
                go_wp2_with fail
                exact ⟨⟨r, by have := HRR.out; omega, by rw [show (i : Int) - 1 = (r : Int) from by have := HRR.out; omega], rfl, H9⟩, by have := HRR.out; simp [intOf]; omega⟩
              · have hi1 : 1 < i := by have := HRR.out; omega
                go_wp2_with fail
                refine K1.out.mono ?_
                rintro e w6 ⟨rfl, rfl⟩
                have k0 := hS.out.close (r : Int)
                rw [HT2.out hr0] at k0
                have K0 := hid k0
                clear k0 hS
                go_wp2_with fail
                refine K0.out.mono ?_
                rintro e w60 ⟨rfl, h60⟩
                have k2 := h60.close (i : Int)
                rw [HT.out.1] at k2
                have K2 := hid k2
                clear k2 h60
                go_wp2_with fail
                refine K2.out.mono ?_
                rintro e w7 ⟨rfl, h7⟩
                have k3 := h7.close (i : Int)
                rw [HT.out.2.1] at k3
                have K3 := hid k3
                clear k3 h7
                go_wp2_with fail
                refine K3.out.mono ?_
                rintro e w8 ⟨rfl, h8⟩
                have k4 := h8.use (r : Int)
                rw [HT.out.2.2] at k4
                have K4 := hid k4
                have H8 := hid h8
                clear k4 h8
                go_wp2_with fail
                refine K4.out.mono ?_
                rintro e w9 ⟨rfl, hb9⟩
                have H9 := hid (H8.out.below hb9)
                clear hb9
                go_wp2_with fail
                exact ⟨⟨r, by have := HRR.out; omega, by rw [show (i : Int) - 1 = (r : Int) from by have := HRR.out; omega], rfl, H9⟩, by have := HRR.out; simp [intOf]; omega⟩
            · obtain rfl : i = 0 := by omega
              go_wp2_with fail
              refine hS.out.ids.mono ?_
              rintro e w6 ⟨v, rfl, hO, hb6⟩
              have H6 := hid (hS.out.below hb6)
              obtain ⟨av, cv, rfl, _⟩ := row_cells hO
              rw [show ((chain (limit ns) 0).map Fac.id).length = 1 from rfl]
              clear hO hb6 hS
              go_wp2_with fail
              go_ret
              exact ⟨rfl, Below.of_below HB1.out HB1.out.size H6.out.bel⟩
      have z1 : ((len : Int) == 0) = false := by rw [beq_eq_false_iff_ne]; omega
      have z2 : ((len : Int) != 0) = true := by rw [bne_iff_ne]; omega
      by_cases n0 : 0 < n
      · have k3 := H4.out.close (len : Int)
        rw [p3 (limit ns) len n z0 n0] at k3
        have K3 := hid k3
        clear k3 H4
        go_wp2_with fail
        refine K3.out.mono ?_
        rintro e w5 ⟨rfl, h5⟩
        have k4 := h5.refund (len : Int) (n : Int)
        rw [p4] at k4
        have K4 := hid k4
        clear k4 h5
        go_wp2_with fail
        refine K4.out.mono ?_
        rintro e w5 ⟨rfl, h5⟩
        have HL := hid h5
        clear h5
        as_aux_lemma =>
          go_wp2_with fail
          go_loopw [7, 11] (fun id t wr => ∃ i : Nat, i ≤ len ∧ t = .int .i64 (i : Int) ∧ id = .int .i64 (i : Int) ∧ Hid (St 1048576 w1 wr p (chain (limit ns) i) (len + 1))) (fun _ t _ => (intOf t).toNat)
          case atStart => exact ⟨len, Nat.le_refl _, rfl, rfl, HL⟩
          case round =>
            obtain ⟨i, hi, rfl, rfl, hS⟩ := hrel
            clear HL
            by_cases hi0 : 0 < i
            · obtain ⟨r, hr⟩ : ∃ r, i = r + 1 := ⟨i - 1, by omega⟩
              have T1 : parA (chain (limit ns) i) (i : Int) = (r : Int) := by rw [hr]; exact s2 _ r
              have T3 : closeA (chain (limit ns) i) (i : Int) = (0, chain (limit ns) r) := by rw [hr]; exact q2 _ r
              have T4 : closeA (chain (limit ns) r) (i : Int) = (6, chain (limit ns) r) := by rw [hr]; exact q3 _ r
              have T5 := q4 (limit ns) r
              have k1 := hS.out.parent (i : Int)
              rw [T1] at k1
              have K1 := hid k1
              have HT := hid (And.intro T3 (And.intro T4 T5))
              have T2 : r ≠ 0 → closeA (chain (limit ns) i) (r : Int) = (12, chain (limit ns) i) := fun h => by rw [hr]; exact q1 _ r h
              have HT2 := hid T2
              have HRR := hid hr
              clear k1 T1 T2 T3 T4 T5 hr
              by_cases hr0 : r = 0
              · have hi1 : ¬ (1 < i) := by have := HRR.out; omega
                clear hr0
                go_wp2_with fail
                refine K1.out.mono ?_
                rintro e w6 ⟨rfl, rfl⟩
                have k2 := hS.out.close (i : Int)
                rw [HT.out.1] at k2
                have K2 := hid k2
                clear k2 hS
                go_wp2_with fail
                refine K2.out.mono ?_
                rintro e w7 ⟨rfl, h7⟩
                have k3 := h7.close (i : Int)
                rw [HT.out.2.1] at k3
                have K3 := hid k3
                clear k3 h7
                go_wp2_with fail
                refine K3.out.mono ?_
                rintro e w8 ⟨rfl, h8⟩
                have k4 := h8.use (r : Int)
                rw [HT.out.2.2] at k4
                have K4 := hid k4
                have H8 := hid h8
                clear k4 h8
                go_wp2_with fail
                refine K4.out.mono ?_
                rintro e w9 ⟨rfl, hb9⟩
                have H9 := hid (H8.out.below hb9)
                clear hb9
                go_wp2_with fail
                exact ⟨⟨r, by have := HRR.out; omega, by rw [show (i : Int) - 1 = (r : Int) from by have := HRR.out; omega], rfl, H9⟩, by have := HRR.out; simp [intOf]; omega⟩
              · have hi1 : 1 < i := by have := HRR.out; omega
                go_wp2_with fail
                refine K1.out.mono ?_
                rintro e w6 ⟨rfl, rfl⟩
                have k0 := hS.out.close (r : Int)
                rw [HT2.out hr0] at k0
                have K0 := hid k0
                clear k0 hS
                go_wp2_with fail
                refine K0.out.mono ?_
                rintro e w60 ⟨rfl, h60⟩
                have k2 := h60.close (i : Int)
                rw [HT.out.1] at k2
                have K2 := hid k2
                clear k2 h60
                go_wp2_with fail
                refine K2.out.mono ?_
                rintro e w7 ⟨rfl, h7⟩
                have k3 := h7.close (i : Int)
                rw [HT.out.2.1] at k3
                have K3 := hid k3
                clear k3 h7
                go_wp2_with fail
                refine K3.out.mono ?_
                rintro e w8 ⟨rfl, h8⟩
                have k4 := h8.use (r : Int)
                rw [HT.out.2.2] at k4
                have K4 := hid k4
                have H8 := hid h8
                clear k4 h8
                go_wp2_with fail
                refine K4.out.mono ?_
                rintro e w9 ⟨rfl, hb9⟩
                have H9 := hid (H8.out.below hb9)
                clear hb9
                go_wp2_with fail
                exact ⟨⟨r, by have := HRR.out; omega, by rw [show (i : Int) - 1 = (r : Int) from by have := HRR.out; omega], rfl, H9⟩, by have := HRR.out; simp [intOf]; omega⟩
            · obtain rfl : i = 0 := by omega
              go_wp2_with fail
              refine hS.out.ids.mono ?_
              rintro e w6 ⟨v, rfl, hO, hb6⟩
              have H6 := hid (hS.out.below hb6)
              obtain ⟨av, cv, rfl, _⟩ := row_cells hO
              rw [show ((chain (limit ns) 0).map Fac.id).length = 1 from rfl]
              clear hO hb6 hS
              go_wp2_with fail
              go_ret
              exact ⟨rfl, Below.of_below HB1.out HB1.out.size H6.out.bel⟩
      · have k3 := H4.out.refund (len : Int) (n : Int)
        rw [p4] at k3
        have K3 := hid k3
        clear k3 H4
        go_wp2_with fail
        refine K3.out.mono ?_
        rintro e w5 ⟨rfl, h5⟩
        have HL := hid h5
        clear h5
        as_aux_lemma =>
          go_wp2_with fail
          go_loopw [7, 11] (fun id t wr => ∃ i : Nat, i ≤ len ∧ t = .int .i64 (i : Int) ∧ id = .int .i64 (i : Int) ∧ Hid (St 1048576 w1 wr p (chain (limit ns) i) (len + 1))) (fun _ t _ => (intOf t).toNat)
          case atStart => exact ⟨len, Nat.le_refl _, rfl, rfl, HL⟩
          case round =>
            obtain ⟨i, hi, rfl, rfl, hS⟩ := hrel
            clear HL
            by_cases hi0 : 0 < i
            · obtain ⟨r, hr⟩ : ∃ r, i = r + 1 := ⟨i - 1, by omega⟩
              have T1 : parA (chain (limit ns) i) (i : Int) = (r : Int) := by rw [hr]; exact s2 _ r
              have T3 : closeA (chain (limit ns) i) (i : Int) = (0, chain (limit ns) r) := by rw [hr]; exact q2 _ r
              have T4 : closeA (chain (limit ns) r) (i : Int) = (6, chain (limit ns) r) := by rw [hr]; exact q3 _ r
              have T5 := q4 (limit ns) r
              have k1 := hS.out.parent (i : Int)
              rw [T1] at k1
              have K1 := hid k1
              have HT := hid (And.intro T3 (And.intro T4 T5))
              have T2 : r ≠ 0 → closeA (chain (limit ns) i) (r : Int) = (12, chain (limit ns) i) := fun h => by rw [hr]; exact q1 _ r h
              have HT2 := hid T2
              have HRR := hid hr
              clear k1 T1 T2 T3 T4 T5 hr
              by_cases hr0 : r = 0
              · have hi1 : ¬ (1 < i) := by have := HRR.out; omega
                clear hr0
                go_wp2_with fail
                refine K1.out.mono ?_
                rintro e w6 ⟨rfl, rfl⟩
                have k2 := hS.out.close (i : Int)
                rw [HT.out.1] at k2
                have K2 := hid k2
                clear k2 hS
                go_wp2_with fail
                refine K2.out.mono ?_
                rintro e w7 ⟨rfl, h7⟩
                have k3 := h7.close (i : Int)
                rw [HT.out.2.1] at k3
                have K3 := hid k3
                clear k3 h7
                go_wp2_with fail
                refine K3.out.mono ?_
                rintro e w8 ⟨rfl, h8⟩
                have k4 := h8.use (r : Int)
                rw [HT.out.2.2] at k4
                have K4 := hid k4
                have H8 := hid h8
                clear k4 h8
                go_wp2_with fail
                refine K4.out.mono ?_
                rintro e w9 ⟨rfl, hb9⟩
                have H9 := hid (H8.out.below hb9)
                clear hb9
                go_wp2_with fail
                exact ⟨⟨r, by have := HRR.out; omega, by rw [show (i : Int) - 1 = (r : Int) from by have := HRR.out; omega], rfl, H9⟩, by have := HRR.out; simp [intOf]; omega⟩
              · have hi1 : 1 < i := by have := HRR.out; omega
                go_wp2_with fail
                refine K1.out.mono ?_
                rintro e w6 ⟨rfl, rfl⟩
                have k0 := hS.out.close (r : Int)
                rw [HT2.out hr0] at k0
                have K0 := hid k0
                clear k0 hS
                go_wp2_with fail
                refine K0.out.mono ?_
                rintro e w60 ⟨rfl, h60⟩
                have k2 := h60.close (i : Int)
                rw [HT.out.1] at k2
                have K2 := hid k2
                clear k2 h60
                go_wp2_with fail
                refine K2.out.mono ?_
                rintro e w7 ⟨rfl, h7⟩
                have k3 := h7.close (i : Int)
                rw [HT.out.2.1] at k3
                have K3 := hid k3
                clear k3 h7
                go_wp2_with fail
                refine K3.out.mono ?_
                rintro e w8 ⟨rfl, h8⟩
                have k4 := h8.use (r : Int)
                rw [HT.out.2.2] at k4
                have K4 := hid k4
                have H8 := hid h8
                clear k4 h8
                go_wp2_with fail
                refine K4.out.mono ?_
                rintro e w9 ⟨rfl, hb9⟩
                have H9 := hid (H8.out.below hb9)
                clear hb9
                go_wp2_with fail
                exact ⟨⟨r, by have := HRR.out; omega, by rw [show (i : Int) - 1 = (r : Int) from by have := HRR.out; omega], rfl, H9⟩, by have := HRR.out; simp [intOf]; omega⟩
            · obtain rfl : i = 0 := by omega
              go_wp2_with fail
              refine hS.out.ids.mono ?_
              rintro e w6 ⟨v, rfl, hO, hb6⟩
              have H6 := hid (hS.out.below hb6)
              obtain ⟨av, cv, rfl, _⟩ := row_cells hO
              rw [show ((chain (limit ns) 0).map Fac.id).length = 1 from rfl]
              clear hO hb6 hS
              go_wp2_with fail
              go_ret
              exact ⟨rfl, Below.of_below HB1.out HB1.out.size H6.out.bel⟩


/-- What the walk is told of a slice of bytes that came in. -/
def IsRow (w : World) (a : Option Addr) (len cap : Nat) (zs : List Int) : Prop :=
  (a = none ∧ len = 0 ∧ cap = 0 ∧ zs = []) ∨
  ∃ x, a = some x ∧ len ≤ cap ∧ zs.length = cap ∧ (∀ i, i < zs.length → w.cell? (x.add i) = some (.int .u8 (zs.getD i 0))) ∧ ∀ n ∈ zs, (Lit.int .u8 n).wf = true
theorem bys_of {w : World} {a : Option Addr} {len cap : Nat} {zs : List Int} (h : IsRow w a len cap zs) : ∃ ns : List Nat, ns.length = len ∧ Bys w w.heap.size a ns := by
  rcases h with ⟨_, rfl, _, _⟩ | ⟨x, rfl, hlc, hz, hcell, hwf⟩
  · exact ⟨[], rfl, by simp, .inl rfl⟩
  have hr := range_u8 hwf
  have hlen : ((zs.take len).map Int.toNat).length = len := by simp; omega
  refine ⟨(zs.take len).map Int.toNat, hlen, fun x hx => ?_, ?_⟩
  · obtain ⟨y, hy, rfl⟩ := List.mem_map.1 hx
    obtain ⟨i, hi, rfl⟩ := List.getElem_of_mem (List.mem_of_mem_take hy)
    have := hr i
    rw [List.getElem?_eq_getElem hi] at this
    simp at this
    omega
  · by_cases h0 : len = 0
    · exact .inl (by omega)
    obtain ⟨s, o, rfl, hc⟩ := ints_at hcell (by omega)
    refine .inr ⟨s, o, rfl, block_lt_of_cell (hc 0 (by omega)), fun j hj => ?_⟩
    rw [hlen] at hj
    rw [hc j (by omega)]
    have := hr j
    rw [List.getElem?_eq_getElem (by omega)] at this
    simp at this
    have e : (((zs.take len).map Int.toNat)[j]?.getD 0 : Nat) = (zs[j]'(by omega)).toNat := by
      rw [List.getElem?_map, List.getElem?_take_of_lt hj, List.getElem?_eq_getElem (by omega)]; rfl
    rw [e, List.getD_eq_getElem?_getD, List.getElem?_eq_getElem (by omega)]
    simp
    omega

theorem walk (a0 : Option Addr) (len0 cap0 : Nat) (z0 : List Int) (a1 : Int) (w : World) (w0 : IsRow w a0 len0 cap0 z0) (w1 : (Lit.int .u16 a1).wf = true) :
    Calls Try.prog 6 #[.slice a0 len0 cap0, .int .u16 a1] w fun e w' => e = .returned (.bool true) ∧ Below w.heap.size w w' := by
  have b1 := bounds_u16 w1
  obtain ⟨n, rfl⟩ := Int.eq_ofNat_of_zero_le b1.1
  by_cases hl : (25 : Int) < (len0 : Int)
  · exact core_long a0 len0 cap0 _ w hl
  obtain ⟨ns, rfl, hB⟩ := bys_of w0
  exact core a0 ns cap0 n w hB (by omega) (by omega)

theorem own : ownKnob Try.prog.godebug = none := by kernel_rfl
theorem laidOut : laidOutB Try.prog = true := by kernel_rfl

set_option maxRecDepth 100000 in
theorem lifted (os : Os) (started : os.Started) (H : Type) (enc : TypeId × Value → H) :
    ReturnsInHanded {} Try.checked os 6 .any (Rows.quotaChainSpec.pre6 enc Try.prog Try.f6 Rows.quotaChainRow.domain false) (Rows.quotaChainSpec.post enc Try.prog Try.f6 false true false false) := by
  refine returnsInHanded_of_change (C := Try.checked) own started (by kernel_rfl) Try.func6
    (ChangeSpec.witness6 (enc := enc) (C := Try.checked) false ⟨#[], #[.slice none 0 0, .int .u16 0], []⟩ 8 (by kernel_rfl) (by kernel_rfl) (by kernel_rfl) (by kernel_rfl)) ?_
  intro W base args ds gs before hval0 hW hcnd _
  have hval : ∀ (j : Nat) t v, Try.f6.params[j]? = some t → args[j]? = some v → Value.okWide Try.prog W .any base t v := hval0
  have hW' := hW
  obtain ⟨p, q, hA0, hV, rfl, hfz, hnd⟩ := hW
  have hA : DataW.TrodAll enc Try.prog W 0 (fun _ => true) true Try.f6.params.toList args.toList ds p := hA0
  rw [Try.params6] at hA hval
  obtain ⟨v0, vs0, d0, ds0, p0, q0, hargs, rfl, rfl, h0, r0⟩ := trodAll_cons hA
  obtain ⟨v1, vs1, d1, ds1, p1, q1, rfl, rfl, rfl, h1, r1⟩ := trodAll_cons r0
  obtain ⟨rfl, rfl, rfl⟩ := trodAll_nil r1
  obtain rfl : args = #[v0, v1] := by cases args; simp_all
  obtain ⟨rfl, rfl⟩ := trodVars_none hV
  obtain ⟨a0, len0, cap0, rfl⟩ := okWide_slice Try.underlying51 (hval 0 51 v0 rfl rfl)
  have k0 := h0
  have lt0 : ∀ x ∈ p0, x.block < W.heap.size := by obtain ⟨m, hm⟩ := k0; exact DataW.trod_lt m _ _ _ hm
  obtain ⟨z0, w0⟩ : ∃ zs, IsRow W a0 len0 cap0 zs := by
    obtain ⟨fuel, hf⟩ := h0
    rcases open_ints Try.underlying51 Try.underlying5 (by kernel_rfl) hf with ⟨hcs, _⟩ | ⟨x, l, c, zs, hcs, _, hl, hm, hz, _, hcell, hwz⟩
    · simp [Value.cells] at hcs
      obtain ⟨rfl, rfl, rfl⟩ := hcs
      exact ⟨[], .inl ⟨rfl, rfl, rfl, rfl⟩⟩
    · simp [Value.cells] at hcs
      obtain ⟨rfl, rfl, rfl⟩ := hcs
      exact ⟨zs, .inr ⟨_, rfl, hl, by simpa using hz, hcell, hwz⟩⟩
  obtain ⟨a1, rfl, rfl, rfl, w1⟩ := open_int Try.underlying49 (hval 1 49 v1 rfl rfl) h1
  clear hA0 hval0
  refine (walk a0 len0 cap0 z0 a1 W w0 w1).mono fun e W' ⟨he, bel⟩ => ?_
  subst he
  exact ⟨_, rfl, _, _, _, [], _, [], hW', trodAll_mk1 (shut_bool Try.underlying4 _), (trodAll_cons_mk (Below.trod laidOut (by kernel_rfl) (of_decide_eq_true (by kernel_rfl)) k0 bel lt0) (trodAll_cons_mk (shut_int Try.underlying49 w1) trodAll_mk0)), rfl, bel.frame _, fun h => by cases h⟩

theorem proved : Rows.QuotaChainSaid :=
  OpenClaim.holds_of_wide 6 Try.f6 rfl rfl rfl rfl rfl rfl rfl ⟨rfl, rfl, rfl, rfl, rfl⟩ rfl rfl rfl rfl rfl (by kernel_rfl) Try.func6 (by kernel_rfl)
    (of_decide_eq_true (by kernel_rfl)) (by unfold Func.isWrapper; first | (rw [if_pos (by decide +kernel)]; kernel_rfl) | (rw [if_neg (by decide +kernel)]; exact ⟨rfl, rfl⟩))
    (fun os started H enc _ => lifted os started H enc)

end Go.Proofs.Ytlgceknfphholaa.quotaChain
