/- The contract of First. -/
import Derived.Test.YtohaoeilodebmaaDoorC
namespace Go.Proofs.YtohaoeilodebmaaDoor
open Go.RowKit

theorem ahead_any (b g n : Nat) (ws : List Nat) (on : Bool) (from_ end_ : Nat) (w : World) (hB : Bits w b g n ws) (hT : Tab w) (he : end_ ≤ n) :
    Calls Tryd.prog 65 #[.pointer (some ⟨b, 0, none⟩), .bool on, .int .i64 (from_ : Int), .int .i64 (end_ : Int)] w (AheadPost on ws from_ end_ w) := by
  by_cases h : from_ < end_
  · exact ahead_some b g n ws on from_ end_ w hB hT h he
  · refine (ahead_none _ on from_ end_ w (by omega)).mono ?_
    rintro e w' ⟨rfl, rfl⟩
    exact ⟨-1, rfl, .inl ⟨rfl, fun j h1 h2 => by omega⟩, rfl⟩

theorem first_any (b g n : Nat) (ws : List Nat) (on : Bool) (from_ : Nat) (w : World) (hB : Bits w b g n ws) (hT : Tab w) (hf : from_ < 4611686018427387904) :
    Calls Tryd.prog 40 #[.pointer (some ⟨b, 0, none⟩), .bool on, .int .i64 (from_ : Int)] w (AheadPost on ws from_ n w) := by
  have h0 := hB.c0
  have HB := hid hB
  have HT := hid hT
  clear hB hT
  go_enter Tryd.func40, Tryd.ntmps40
  go_wp2_with fail
  refine (len_cell b n _ h0).mono ?_
  rintro e w1 ⟨rfl, rfl⟩
  go_wp2_with fail
  refine (ahead_any b g n ws on from_ n _ HB.out HT.out (Nat.le_refl _)).mono ?_
  rintro e w2 ⟨r, rfl, hr, rfl⟩
  have HR := hid hr
  clear hr
  go_wp2_with fail
  go_ret
  exact ⟨r, rfl, HR.out, rfl⟩

end Go.Proofs.YtohaoeilodebmaaDoor
