/- What came in as a slice of numbers; the table of math/bits as the row lists it, and a world that holds it. -/
import Derived.Test.YtdngpppcjindiaaDoorE
import Derived.ProofKit
import Derived.OpenShut
import Derived.ShutString
import Derived.ChangeOld
import Derived.Deep.DeepHandedRow
import Derived.Lib.LaidTab
import Derived.Deep.Slices
namespace Go.Proofs.YtdngpppcjindiaaDoor
open Go.ChangeShapes Go.WideShapes Go.ChangeAt Go.RowKit

/-- The slice has these numbers, in memory that was there. -/
def Ints (w : World) (a : Option Addr) (l : List Int) : Prop :=
  l.length = 0 ∨ ∃ s o, a = some ⟨s, o, none⟩ ∧ s < w.heap.size ∧ ∀ j, j < l.length → w.cell? ⟨s, o + j, none⟩ = some (.int .i64 (l[j]?.getD 0))

theorem Ints.src {w w' : World} {a : Option Addr} {l : List Int} {g : Nat} (h : Ints w a l) (hb : Below w.heap.size w w') (hg : w.heap.size ≤ g) : Src w' g a l := by
  rcases h with h | ⟨s, o, rfl, hs, hc⟩
  · exact .inl h
  · exact .inr ⟨s, o, rfl, by omega, Nat.lt_of_lt_of_le hs hb.size, fun j hj => (hb.cell (p := ⟨s, o + j, none⟩) hs).trans (hc j hj)⟩

/-- WHAT THE WALK IS TOLD OF A SLICE OF INTEGERS THAT CAME IN. -/
theorem ints_of {H : Type} {enc : TypeId × Value → H} {w : World} {fuel : Nat} {v : Value} {x : DataW H × List MemPlace}
    (h : DataW.trod enc Tryd.prog w 0 (fun _ => true) true fuel 27 [v] = some x) :
    ∃ p cap zs, v = .slice p zs.length cap ∧ Ints w p zs ∧ ∀ n ∈ zs, (Lit.int .i64 n).wf = true := by
  rcases open_ints Tryd.underlying27 Tryd.underlying3 (by kernel_rfl) h with ⟨hcs, _⟩ | ⟨a, len, cap, zs, hcs, _, hl, hm, hz, _, hcell, hwf⟩
  · obtain rfl : v = .slice none 0 0 := by simpa using hcs
    exact ⟨none, 0, [], rfl, .inl rfl, fun n h => by cases h⟩
  · obtain rfl : v = .slice (some a) len cap := by simpa using hcs
    simp only [if_true] at hz
    have hlen : (zs.take len).length = len := by simp; omega
    refine ⟨some a, cap, zs.take len, by rw [hlen], ?_, fun n hn => hwf n (List.mem_of_mem_take hn)⟩
    by_cases h0 : len = 0
    · exact .inl (by omega)
    obtain ⟨s, o, rfl, hcc⟩ := ints_at hcell (by omega)
    refine .inr ⟨s, o, rfl, block_lt_of_cell (hcc 0 (by omega)), fun j hj => ?_⟩
    rw [hlen] at hj
    rw [hcc j (by omega)]
    simp [List.getD, hj]

theorem own : ownKnob Tryd.prog.godebug = none := by kernel_rfl
theorem laidOut : laidOutB Tryd.prog = true := by kernel_rfl
theorem gTab : Tryd.prog.globalNamed "math/bits.deBruijn64tab" = some 0 := by kernel_rfl
theorem gTabType : (Tryd.prog.globals[0]?).map (·.type) = some 48 := by kernel_rfl
theorem cells48 : Tryd.prog.cellsOf 48 = 64 := by kernel_rfl
theorem cells5 : Tryd.prog.cellsOf 5 = 1 := by kernel_rfl

def tabInts : List Int := Lib.deBruijn64tab.map (fun x : Nat => (x : Int))
def lays (xs : List Int) : Obj → Obj
  | .cells _ t frozen => .cells (xs.map (Value.int .u8)).toArray t frozen
  | o => o
theorem table {W : World} (h : laidMetH Tryd.prog [("math/bits.deBruijn64tab", Rows.laid_math_bits_deBruijn64tab)] W) : Lib.TabIs Tryd.prog W "math/bits.deBruijn64tab" .u8 tabInts :=
  Lib.tabIs_of_head (rest := []) gTab gTabType Tryd.underlying48 Tryd.underlying5 cells5 cells48 h
theorem tab_val : ∀ j : Fin 64, tabInts.getD j.val 0 = ((Lib.deBruijn64tab.getD j.val 0 : Nat) : Int) := by decide +kernel
theorem tab_of {W : World} (h : laidMetH Tryd.prog [("math/bits.deBruijn64tab", Rows.laid_math_bits_deBruijn64tab)] W) : Tab W := by
  intro j hj
  have := (table h).cell gTab j (by show j < _; exact hj)
  rw [this, tab_val ⟨j, hj⟩]

end Go.Proofs.YtdngpppcjindiaaDoor
