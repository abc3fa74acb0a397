/- Contracts of Count, firstAhead, First and Run. -/
import Derived.Test.YtohaoeilodebmaaDoorB
namespace Go.Proofs.YtohaoeilodebmaaDoor
open Go.RowKit

theorem count_le {n : Nat} {ws : List Nat} (h : Okm n ws) (hn : n ≤ 1048576) : count ws ≤ 1048576 := by
  have := total_le ws ws.length
  unfold count
  rw [h.len] at this ⊢
  omega

theorem count_any (b g n : Nat) (ws : List Nat) (w : World) (hB : Bits w b g n ws) :
    Calls Tryd.prog 42 #[.pointer (some ⟨b, 0, none⟩)] w fun e w' => e = .returned (.int .i64 (count ws : Int)) ∧ w' = w := by
  have h1 := hB.c1
  have h4 : ws.length ≤ 16384 := by rw [hB.ok.len]; have := hB.small; omega
  have HB := hid hB
  clear hB
  go_enter Tryd.func42, Tryd.ntmps42
  go_wp2
  go_loop [3, 12] (fun t i => ∃ k : Nat, k ≤ ws.length ∧ i = .int .i64 k ∧ t = .int .i64 (total ws k : Int)) (fun _ i => ws.length - (intOf i).toNat)
  case atStart => exact ⟨0, Nat.zero_le _, rfl, rfl⟩
  case round =>
    obtain ⟨k, hk, rfl, rfl⟩ := hrel
    by_cases hlt : k < ws.length
    · have h2 := HB.out.at k hlt
      have h3 := HB.out.ok.word k
      have hs : total ws (k + 1) = total ws k + pop (ws[k]?.getD 0) := rfl
      have hp := pop_le (ws[k]?.getD 0)
      have ht := total_le ws k
      generalize ws[k]?.getD 0 = x at *
      generalize total ws k = tk at *
      have HS := hid hs
      clear hs
      go_wp2_with (go_at_call 59; refine (ones_any x _ h3).mono ?_; rintro e w' ⟨rfl, rfl⟩)
      go_round
      case rel => exact ⟨k + 1, by omega, by go_num, by rw [HS.out]; go_num⟩
      case measure => simp [intOf]; omega
    · obtain rfl : k = ws.length := by omega
      go_wp2
      go_ret
      exact ⟨rfl, rfl⟩

/-- r is the first bit from there on, and ahead of the end, that is so; -1 without. -/
def FirstSo (on : Bool) (ws : List Nat) (from_ end_ : Nat) (r : Int) : Prop :=
  (r = -1 ∧ ∀ j, from_ ≤ j → j < end_ → bit ws j ≠ on) ∨ ∃ k : Nat, r = (k : Int) ∧ from_ ≤ k ∧ k < end_ ∧ bit ws k = on ∧ ∀ j, from_ ≤ j → j < k → bit ws j ≠ on

/-- The word's bits that are so, from there on. -/
def Seen (on : Bool) (ws : List Nat) (from_ s v : Nat) : Prop := v < 18446744073709551616 ∧ ∀ j, j < 64 → v.testBit j = ((bit ws (64 * s + j) == on) && decide (from_ ≤ 64 * s + j))

theorem seen_first {n : Nat} (on : Bool) {ws : List Nat} (h : Okm n ws) (from_ : Nat) : Seen on ws from_ (from_ / 64) (so on (ws[from_ / 64]?.getD 0) &&& (18446744073709551616 - 2 ^ (from_ % 64))) := by
  have hw := h.word (from_ / 64)
  have hs := so_lt on _ hw
  refine ⟨Nat.lt_of_le_of_lt Nat.and_le_left hs, fun j hj => ?_⟩
  rw [mask_bit _ _ _ hs (by omega), so_bit on _ _ hw hj, bit_at ws _ j hj]
  congr 1
  rw [decide_eq_decide]
  omega
theorem seen_next {n : Nat} (on : Bool) {ws : List Nat} (h : Okm n ws) (from_ s : Nat) (hs : from_ ≤ 64 * s) : Seen on ws from_ s (so on (ws[s]?.getD 0)) := by
  have hw := h.word s
  refine ⟨so_lt on _ hw, fun j hj => ?_⟩
  rw [so_bit on _ _ hw hj, bit_at ws _ j hj, decide_eq_true (by omega), Bool.and_true]

def NoneSo (on : Bool) (ws : List Nat) (from_ end_ : Nat) : Prop := ∀ j, from_ ≤ j → j < end_ → bit ws j ≠ on

theorem seen_zero {on : Bool} {ws : List Nat} {from_ s : Nat} (hS : Seen on ws from_ s 0) (h : NoneSo on ws from_ (64 * s)) : NoneSo on ws from_ (64 * (s + 1)) := by
  intro j h1 h2
  by_cases hj : j < 64 * s
  · exact h j h1 hj
  · have := hS.2 (j - 64 * s) (by omega)
    rw [show 64 * s + (j - 64 * s) = j from by omega, decide_eq_true h1, Bool.and_true, Nat.zero_testBit] at this
    intro he
    rw [he] at this
    simp at this

theorem seen_some {on : Bool} {ws : List Nat} {from_ s v : Nat} (hS : Seen on ws from_ s v) (h : NoneSo on ws from_ (64 * s)) (h0 : v ≠ 0) :
    from_ ≤ 64 * s + Lib.ctz 64 v ∧ bit ws (64 * s + Lib.ctz 64 v) = on ∧ NoneSo on ws from_ (64 * s + Lib.ctz 64 v) := by
  obtain ⟨hc, ht, hn⟩ := ctz_spec v h0 hS.1
  generalize Lib.ctz 64 v = c at *
  have h1 := hS.2 c hc
  rw [ht] at h1
  have h2 := Bool.and_eq_true_iff.1 h1.symm
  refine ⟨of_decide_eq_true h2.2, by simpa using h2.1, fun j hj1 hj2 he => ?_⟩
  by_cases hj : j < 64 * s
  · exact h j hj1 hj he
  · have h3 := hS.2 (j - 64 * s) (by omega)
    rw [show 64 * s + (j - 64 * s) = j from by omega, hn _ (by omega), decide_eq_true hj1, Bool.and_true, he] at h3
    simp at h3

theorem ahead_none (b : Option Addr) (on : Bool) (from_ end_ : Int) (w : World) (h : end_ ≤ from_) :
    Calls Tryd.prog 65 #[.pointer b, .bool on, .int .i64 from_, .int .i64 end_] w fun e w' => e = .returned (.int .i64 (-1)) ∧ w' = w := by
  go_enter Tryd.func65, Tryd.ntmps65
  go_wp2
  go_ret
  exact ⟨rfl, rfl⟩

theorem wordSo_x (b g n : Nat) (ws : List Nat) (on : Bool) (i x : Nat) (z : Int) (w : World) (hB : Bits w b g n ws) (hi : i < ws.length) (hz : z = (i : Int)) (hx : x = so on (ws[i]?.getD 0)) :
    Calls Tryd.prog 78 #[.pointer (some ⟨b, 0, none⟩), .bool on, .int .i64 z] w fun e w' => e = .returned (.int .u64 (x : Int)) ∧ w' = w := by
  subst hz hx; exact wordSo_any b g n ws on i w hB hi

def AheadPost (on : Bool) (ws : List Nat) (from_ end_ : Nat) (w : World) (e : Ending) (w' : World) : Prop := ∃ r, e = .returned (.int .i64 r) ∧ FirstSo on ws from_ end_ r ∧ w' = w

set_option maxHeartbeats 4000000 in
theorem ahead_some (b g n : Nat) (ws : List Nat) (on : Bool) (from_ end_ : Nat) (w : World) (hB : Bits w b g n ws) (hT : Tab w) (h : from_ < end_) (he : end_ ≤ n) :
    Calls Tryd.prog 65 #[.pointer (some ⟨b, 0, none⟩), .bool on, .int .i64 (from_ : Int), .int .i64 (end_ : Int)] w (AheadPost on ws from_ end_ w) := by
  have hn := hB.small
  have hlen := hB.ok.len
  have HB := hid hB
  have HT := hid hT
  have HL := hid hlen
  obtain ⟨s, hs⟩ : ∃ s, s = from_ / 64 := ⟨_, rfl⟩
  obtain ⟨t, ht⟩ : ∃ t, t = (end_ + 63) / 64 := ⟨_, rfl⟩
  have hs' : (from_ : Int) / 64 = (s : Int) := by omega
  have ht' : ((end_ : Int) + 63) / 64 = (t : Int) := by omega
  have hst : s < t := by omega
  have htl : t ≤ ws.length := by omega
  have htm : t ≤ 16384 := by omega
  have HS := hid hs
  have HT' := hid ht
  clear hB hT hlen hs ht
  go_enter Tryd.func65, Tryd.ntmps65
  go_wp2_with (go_at_call 62; refine (wordsOf_any end_ _ (by omega) (by omega)).mono ?_; rintro e w' ⟨rfl, rfl⟩; rw [ht'])
  go_loop [22] (fun i => ∃ k : Nat, s + k ≤ t ∧ i = .int .i64 k ∧ (k = 0 ∨ Hid (NoneSo on ws from_ (64 * (s + k))))) (fun i => t - s - (intOf i).toNat)
  case atStart => exact ⟨0, by omega, rfl, .inl rfl⟩
  case round =>
    obtain ⟨k, hk, rfl, hnone⟩ := hrel
    by_cases hlt : s + k < t
    · obtain ⟨x, hx⟩ : ∃ x, x = so on (ws[s + k]?.getD 0) := ⟨_, rfl⟩
      have hx1 : x < 18446744073709551616 := by rw [hx]; exact so_lt on _ (HB.out.ok.word _)
      have HX := hid hx
      have hsi : s + k < ws.length := by omega
      have hN : Hid (NoneSo on ws from_ (64 * (s + k))) := by
        rcases hnone with rfl | h
        · intro j h1 h2
          have := HS.out
          omega
        · exact h
      clear hx hnone
      by_cases hk0 : k = 0
      · obtain ⟨p, hp⟩ : ∃ p : Nat, p = 2 ^ (from_ % 64) := ⟨_, rfl⟩
        have hp1 : 1 ≤ p := by rw [hp]; exact Nat.two_pow_pos _
        have hp2 : p < 18446744073709551616 := by
          have hlt : 2 ^ (from_ % 64) < 2 ^ 64 := Nat.pow_lt_pow_right (by omega) (Nat.mod_lt _ (by omega))
          rw [hp]; exact hlt
        obtain ⟨p1, hp3⟩ : ∃ p1, p1 = p - 1 := ⟨_, rfl⟩
        obtain ⟨m, hm⟩ : ∃ m, m = 18446744073709551616 - p := ⟨_, rfl⟩
        obtain ⟨v, hv⟩ : ∃ v, v = x &&& m := ⟨_, rfl⟩
        have hS : Hid (Seen on ws from_ (s + k) v) := by
          have h1 := seen_first on HB.out.ok from_
          rw [← HS.out] at h1
          have h2 := HX.out
          rw [hk0, Nat.add_zero] at h2 ⊢
          rw [hv, hm, hp, h2]
          exact h1
        have hsg : IntKind.u64.signed = false := rfl
        have hm1 : IntKind.u64.wrap ((p : Int) - 1) = (p1 : Int) := by rw [IntKind.wrap_u64]; omega
        have hm2 : bits .xor .u64 IntKind.u64.max (p1 : Int) = (m : Int) := by
          rw [show IntKind.u64.max = ((18446744073709551615 : Nat) : Int) from by decide, u64_xor_nat _ _ (by omega) (by omega), xor_ones p1 (by omega)]
          omega
        have hm3 : bits .and .u64 (x : Int) (m : Int) = (v : Int) := by
          rw [u64_and_nat _ _ hx1 (by omega), hv]
        have hk1 : ((k : Int) == 0) = true := by rw [hk0]; rfl
        have HP := hid hp
        have hv1 := hS.out.1
        clear hp hp3 hm hv hk0
        by_cases hv0 : v = 0
        · have hv2 : ((v : Int) == 0) = true := by rw [hv0]; rfl
          have HZ : Hid (NoneSo on ws from_ (64 * (s + (k + 1)))) := by rw [hv0] at hS; exact seen_zero hS.out hN.out
          clear hv0
          go_wp2_with (first | (go_at_call 78; refine (wordSo_x b g n ws on (s + k) x _ _ HB.out hsi (by omega) HX.out).mono ?_; rintro e w' ⟨rfl, rfl⟩) | (go_at_call 64; refine (bitOf_p from_ p _ (by omega) HP.out).mono ?_; rintro e w' ⟨rfl, rfl⟩))
          go_round
          case rel => exact ⟨k + 1, by omega, by go_num, .inr HZ⟩
          case measure => simp [intOf]; omega
        · have hv2 : ((v : Int) == 0) = false := by simpa using hv0
          have hz := hid (seen_some hS.out hN.out hv0)
          have hc := (ctz_spec v hv0 hv1).1
          have HV := hid hv0
          clear hv0
          by_cases hat : 64 * (s + k) + Lib.ctz 64 v < end_
          all_goals
            go_wp2_with (first | (go_at_call 78; refine (wordSo_x b g n ws on (s + k) x _ _ HB.out hsi (by omega) HX.out).mono ?_; rintro e w' ⟨rfl, rfl⟩) | (go_at_call 64; refine (bitOf_p from_ p _ (by omega) HP.out).mono ?_; rintro e w' ⟨rfl, rfl⟩) | (go_at_call 61; refine (tz_any v _ HV.out hv1 HT.out).mono ?_; rintro e w' ⟨rfl, rfl⟩; generalize Lib.ctz 64 v = c at *))
            go_ret
          · exact ⟨_, rfl, .inr ⟨64 * (s + k) + c, by omega, hz.out.1, by omega, hz.out.2.1, hz.out.2.2⟩, rfl⟩
          · exact ⟨_, rfl, .inl ⟨rfl, fun j h1 h2 => hz.out.2.2 j h1 (by omega)⟩, rfl⟩
      · have hS : Hid (Seen on ws from_ (s + k) x) := by
          have h1 := seen_next on HB.out.ok from_ (s + k) (by have := HS.out; omega)
          rw [HX.out]; exact h1
        have hk1 : ((k : Int) == 0) = false := by simpa using hk0
        clear hk0
        by_cases hv0 : x = 0
        · have hv2 : ((x : Int) == 0) = true := by rw [hv0]; rfl
          have HZ : Hid (NoneSo on ws from_ (64 * (s + (k + 1)))) := by rw [hv0] at hS; exact seen_zero hS.out hN.out
          clear hv0
          go_wp2_with (go_at_call 78; refine (wordSo_x b g n ws on (s + k) x _ _ HB.out hsi (by omega) HX.out).mono ?_; rintro e w' ⟨rfl, rfl⟩)
          go_round
          case rel => exact ⟨k + 1, by omega, by go_num, .inr HZ⟩
          case measure => simp [intOf]; omega
        · have hv2 : ((x : Int) == 0) = false := by simpa using hv0
          have hz := hid (seen_some hS.out hN.out hv0)
          have hc := (ctz_spec x hv0 hx1).1
          have HV := hid hv0
          clear hv0
          by_cases hat : 64 * (s + k) + Lib.ctz 64 x < end_
          all_goals
            go_wp2_with (first | (go_at_call 78; refine (wordSo_x b g n ws on (s + k) x _ _ HB.out hsi (by omega) HX.out).mono ?_; rintro e w' ⟨rfl, rfl⟩) | (go_at_call 61; refine (tz_any x _ HV.out hx1 HT.out).mono ?_; rintro e w' ⟨rfl, rfl⟩; generalize Lib.ctz 64 x = c at *))
            go_ret
          · exact ⟨_, rfl, .inr ⟨64 * (s + k) + c, by omega, hz.out.1, by omega, hz.out.2.1, hz.out.2.2⟩, rfl⟩
          · exact ⟨_, rfl, .inl ⟨rfl, fun j h1 h2 => hz.out.2.2 j h1 (by omega)⟩, rfl⟩
    · rcases hnone with rfl | hnone
      · omega
      go_wp2
      go_ret
      refine ⟨-1, rfl, .inl ⟨rfl, fun j h1 h2 => hnone.out j h1 ?_⟩, rfl⟩
      have := HT'.out
      omega
end Go.Proofs.YtohaoeilodebmaaDoor
