/-
  DERIVED. GIVEN WITH THE SEED: THE CARDS: each row of YthpkmegjbehgaaaDoorRows.lean that lists a variable, with what it lists TIED to the program's text (the seventh form; the later family's looks); each row that meets fmt, with fmt's text TOLD by the authors' own Lean function (tested against real Go, not proved from fmt's source: count such statements apart). THE CARD IS WHAT COUNTS. Prove the row's statement (the work); the ties are given (YthpkmegjbehgaaaDoorTie.lean); close each card by the builder's one call (the guide's Derived/Test/ToyasCard.lean, 'card_holds'). Laid BY PROGRAM, IN A SANDBOX (cutbox-door.mjs). By AI agents, Wed Nov 11 2026. No macro, syntax, notation, axiom, sorry.
-/
import Derived.Test.YthpkmegjbehgaaaDoorRows
import GoSem.ClaimSeven
namespace Go.Proofs.YthpkmegjbehgaaaDoor
namespace Rows

/-- THE TIED CARD OF 'quartermasterlaw09.TableBack'. -/
def tableBackCard : Claim7 := { stood := { row := tableBackRow, standIns := [], harness := (true, "f5b7714870fdf641de599fc058d401950e21ed091bb0882bcade1b19daa956b1"), looks := true }, kinds := [], alts := [], laidByText := true, laidKinds := [.data, .data, .data], laidTests := true, laidLooks := .later }
def TableBackCardSaid : Prop := Claim7.holds Tryd.pinned (.plain (OpenSpec.ofChange tableBackSpec)) tableBackCard

/-- THE TIED CARD OF 'quartermasterlaw09.TableFails'. -/
def tableFailsCard : Claim7 := { stood := { row := tableFailsRow, standIns := [], harness := (true, "f5b7714870fdf641de599fc058d401950e21ed091bb0882bcade1b19daa956b1"), looks := true }, kinds := [], alts := [], laidByText := true, laidKinds := [.data, .data, .data], laidTests := true, laidLooks := .later }
def TableFailsCardSaid : Prop := Claim7.holds Tryd.pinned (.plain (OpenSpec.ofChange tableFailsSpec)) tableFailsCard

/-- THE SECOND FORM's CARD OF 'quartermasterlaw09.TableBack'. -/
def tableBackUptoCard : Claim7 := { stood := { row := tableBackUptoRow, standIns := [], harness := (true, "f5b7714870fdf641de599fc058d401950e21ed091bb0882bcade1b19daa956b1"), looks := true }, kinds := [], alts := [], laidByText := true, laidKinds := [.data, .data, .data], laidTests := true, laidLooks := .later }
def TableBackUptoCardSaid : Prop := Claim7.holds Tryd.pinned (.plain (OpenSpec.upto tableBackSpec)) tableBackUptoCard

/-- THE SECOND FORM's CARD OF 'quartermasterlaw09.TableFails'. -/
def tableFailsUptoCard : Claim7 := { stood := { row := tableFailsUptoRow, standIns := [], harness := (true, "f5b7714870fdf641de599fc058d401950e21ed091bb0882bcade1b19daa956b1"), looks := true }, kinds := [], alts := [], laidByText := true, laidKinds := [.data, .data, .data], laidTests := true, laidLooks := .later }
def TableFailsUptoCardSaid : Prop := Claim7.holds Tryd.pinned (.plain (OpenSpec.upto tableFailsSpec)) tableFailsUptoCard
end Rows
end Go.Proofs.YthpkmegjbehgaaaDoor
