/- Contracts of First and Run. -/
import Derived.Test.YtdngpppcjindiaaDoorC
namespace Go.Proofs.YtdngpppcjindiaaDoor
open Go.RowKit

theorem ahead_any (b g n : Nat) (ws : List Nat) (on : Bool) (from_ end_ : Nat) (w : World) (hB : Bits w b g n ws) (hT : Tab w) (he : end_ ≤ n) :
    Calls Tryd.prog 18 #[.pointer (some ⟨b, 0, none⟩), .bool on, .int .i64 (from_ : Int), .int .i64 (end_ : Int)] w (AheadPost on ws from_ end_ w) := by
  by_cases h : from_ < end_
  · exact ahead_some b g n ws on from_ end_ w hB hT h he
  · refine (ahead_none _ on from_ end_ w (by omega)).mono ?_
    rintro e w' ⟨rfl, rfl⟩
    exact ⟨-1, rfl, .inl ⟨rfl, fun j h1 h2 => by omega⟩, rfl⟩

theorem first_any (b g n : Nat) (ws : List Nat) (on : Bool) (from_ : Nat) (w : World) (hB : Bits w b g n ws) (hT : Tab w) (hf : from_ < 4611686018427387904) :
    Calls Tryd.prog 10 #[.pointer (some ⟨b, 0, none⟩), .bool on, .int .i64 (from_ : Int)] w (AheadPost on ws from_ n w) := by
  have h0 := hB.c0
  have HB := hid hB
  have HT := hid hT
  clear hB hT
  go_enter Tryd.func10, Tryd.ntmps10
  go_wp2_with fail
  refine (len_cell b n _ h0).mono ?_
  rintro e w1 ⟨rfl, rfl⟩
  go_wp2_with fail
  refine (ahead_any b g n ws on from_ n _ HB.out HT.out (Nat.le_refl _)).mono ?_
  rintro e w2 ⟨r, rfl, hr, rfl⟩
  have HR := hid hr
  clear hr
  go_wp2_with fail
  go_ret
  exact ⟨r, rfl, HR.out, rfl⟩

theorem run_true (b g n : Nat) (ws : List Nat) (on : Bool) (from_ m : Nat) (w : World) (hB : Bits w b g n ws) (hT : Tab w) (hm : from_ + m ≤ n) (hall : ∀ j, from_ ≤ j → j < from_ + m → bit ws j = on) :
    Calls Tryd.prog 11 #[.pointer (some ⟨b, 0, none⟩), .bool on, .int .i64 (from_ : Int), .int .i64 (m : Int)] w fun e w' => e = .returned (.bool true) ∧ w' = w := by
  have h0 := hB.c0
  have hn := hB.small
  have HB := hid hB
  have HT := hid hT
  have HA := hid hall
  clear hB hT hall
  go_enter Tryd.func11, Tryd.ntmps11
  go_wp2_with fail
  refine (ahead_any b g n ws (!on) from_ (from_ + m) _ HB.out HT.out hm).mono ?_
  rintro e w2 ⟨r, rfl, hr, rfl⟩
  obtain rfl : r = -1 := by
    rcases hr with ⟨h, _⟩ | ⟨k, _, h1, h2, h3, _⟩
    · exact h
    · rw [HA.out k h1 h2] at h3
      cases on <;> cases h3
  clear hr
  go_wp2_with fail
  go_ret
  exact ⟨rfl, rfl⟩

theorem run_false (b g n : Nat) (ws : List Nat) (on : Bool) (from_ m k : Nat) (w : World) (hB : Bits w b g n ws) (hT : Tab w) (hm : from_ + m ≤ n) (hk : from_ ≤ k) (hk' : k < from_ + m) (hb : bit ws k ≠ on) :
    Calls Tryd.prog 11 #[.pointer (some ⟨b, 0, none⟩), .bool on, .int .i64 (from_ : Int), .int .i64 (m : Int)] w fun e w' => e = .returned (.bool false) ∧ w' = w := by
  have h0 := hB.c0
  have hn := hB.small
  have HB := hid hB
  have HT := hid hT
  have HA := hid hb
  clear hB hT hb
  go_enter Tryd.func11, Tryd.ntmps11
  go_wp2_with fail
  refine (ahead_any b g n ws (!on) from_ (from_ + m) _ HB.out HT.out hm).mono ?_
  rintro e w2 ⟨r, rfl, hr, rfl⟩
  obtain ⟨q, rfl⟩ : ∃ q : Nat, r = (q : Int) := by
    rcases hr with ⟨_, h⟩ | ⟨q, h, _⟩
    · refine absurd (?_ : bit ws k = !on) (h k hk hk')
      have := HA.out
      revert this
      cases bit ws k <;> cases on <;> simp
    · exact ⟨q, h⟩
  clear hr
  go_wp2_with fail
  go_ret
  exact ⟨rfl, rfl⟩
end Go.Proofs.YtdngpppcjindiaaDoor
