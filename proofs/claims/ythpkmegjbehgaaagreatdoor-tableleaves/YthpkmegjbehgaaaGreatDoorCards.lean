/-
  DERIVED. GIVEN WITH THE SEED: THE CARDS: each row of YthpkmegjbehgaaaGreatDoorRows.lean that lists a variable, with what it lists TIED to the program's text (the seventh form; the later family's looks); each row that meets fmt, with fmt's text TOLD by the authors' own Lean function (tested against real Go, not proved from fmt's source: count such statements apart). THE CARD IS WHAT COUNTS. Prove the row's statement (the work); the ties are given (YthpkmegjbehgaaaGreatDoorTie.lean); close each card by the builder's one call (the guide's Derived/Test/ToyasCard.lean, 'card_holds'). Laid BY PROGRAM, IN A SANDBOX (cutbox-door.mjs). By AI agents, Wed Nov 11 2026. No macro, syntax, notation, axiom, sorry.
-/
import Derived.Test.YthpkmegjbehgaaaGreatDoorRows
import GoSem.ClaimSeven
namespace Go.Proofs.YthpkmegjbehgaaaGreatDoor
namespace Rows

/-- THE TIED CARD OF 'quartermasterlaw06.PoolSums'. -/
def poolSumsCard : Claim7 := { stood := { row := poolSumsRow, standIns := [], harness := (true, "a520f3a1393c22afb6850805f808a2d33bb242e46a08daf39597ac521aec061c"), looks := true }, kinds := [], alts := [], laidByText := true, laidKinds := [.data, .data, .data], laidTests := true, laidLooks := .later }
def PoolSumsCardSaid : Prop := Claim7.holds Tryz.pinned (.plain (OpenSpec.ofChange poolSumsSpec)) poolSumsCard

/-- THE TIED CARD OF 'quartermasterlaw06.PoolZeros'. -/
def poolZerosCard : Claim7 := { stood := { row := poolZerosRow, standIns := [], harness := (true, "a520f3a1393c22afb6850805f808a2d33bb242e46a08daf39597ac521aec061c"), looks := true }, kinds := [], alts := [], laidByText := true, laidKinds := [.data, .data, .data], laidTests := true, laidLooks := .later }
def PoolZerosCardSaid : Prop := Claim7.holds Tryz.pinned (.plain (OpenSpec.ofChange poolZerosSpec)) poolZerosCard

/-- THE TIED CARD OF 'quartermasterlaw06.PoolFails'. -/
def poolFailsCard : Claim7 := { stood := { row := poolFailsRow, standIns := [], harness := (true, "a520f3a1393c22afb6850805f808a2d33bb242e46a08daf39597ac521aec061c"), looks := true }, kinds := [], alts := [], laidByText := true, laidKinds := [.data, .data, .data], laidTests := true, laidLooks := .later }
def PoolFailsCardSaid : Prop := Claim7.holds Tryz.pinned (.plain (OpenSpec.ofChange poolFailsSpec)) poolFailsCard

/-- THE TIED CARD OF 'quartermasterlaw09.TableLeaves'. -/
def tableLeavesCard : Claim7 := { stood := { row := tableLeavesRow, standIns := [], harness := (true, "a520f3a1393c22afb6850805f808a2d33bb242e46a08daf39597ac521aec061c"), looks := true }, kinds := [], alts := [], laidByText := true, laidKinds := [.data, .data, .data], laidTests := true, laidLooks := .later }
def TableLeavesCardSaid : Prop := Claim7.holds Tryz.pinned (.plain (OpenSpec.ofChange tableLeavesSpec)) tableLeavesCard

/-- THE SECOND FORM's CARD OF 'quartermasterlaw06.PoolSums'. -/
def poolSumsUptoCard : Claim7 := { stood := { row := poolSumsUptoRow, standIns := [], harness := (true, "a520f3a1393c22afb6850805f808a2d33bb242e46a08daf39597ac521aec061c"), looks := true }, kinds := [], alts := [], laidByText := true, laidKinds := [.data, .data, .data], laidTests := true, laidLooks := .later }
def PoolSumsUptoCardSaid : Prop := Claim7.holds Tryz.pinned (.plain (OpenSpec.upto poolSumsSpec)) poolSumsUptoCard

/-- THE SECOND FORM's CARD OF 'quartermasterlaw06.PoolZeros'. -/
def poolZerosUptoCard : Claim7 := { stood := { row := poolZerosUptoRow, standIns := [], harness := (true, "a520f3a1393c22afb6850805f808a2d33bb242e46a08daf39597ac521aec061c"), looks := true }, kinds := [], alts := [], laidByText := true, laidKinds := [.data, .data, .data], laidTests := true, laidLooks := .later }
def PoolZerosUptoCardSaid : Prop := Claim7.holds Tryz.pinned (.plain (OpenSpec.upto poolZerosSpec)) poolZerosUptoCard

/-- THE SECOND FORM's CARD OF 'quartermasterlaw06.PoolFails'. -/
def poolFailsUptoCard : Claim7 := { stood := { row := poolFailsUptoRow, standIns := [], harness := (true, "a520f3a1393c22afb6850805f808a2d33bb242e46a08daf39597ac521aec061c"), looks := true }, kinds := [], alts := [], laidByText := true, laidKinds := [.data, .data, .data], laidTests := true, laidLooks := .later }
def PoolFailsUptoCardSaid : Prop := Claim7.holds Tryz.pinned (.plain (OpenSpec.upto poolFailsSpec)) poolFailsUptoCard

/-- THE SECOND FORM's CARD OF 'quartermasterlaw09.TableLeaves'. -/
def tableLeavesUptoCard : Claim7 := { stood := { row := tableLeavesUptoRow, standIns := [], harness := (true, "a520f3a1393c22afb6850805f808a2d33bb242e46a08daf39597ac521aec061c"), looks := true }, kinds := [], alts := [], laidByText := true, laidKinds := [.data, .data, .data], laidTests := true, laidLooks := .later }
def TableLeavesUptoCardSaid : Prop := Claim7.holds Tryz.pinned (.plain (OpenSpec.upto tableLeavesSpec)) tableLeavesUptoCard
end Rows
end Go.Proofs.YthpkmegjbehgaaaGreatDoor
