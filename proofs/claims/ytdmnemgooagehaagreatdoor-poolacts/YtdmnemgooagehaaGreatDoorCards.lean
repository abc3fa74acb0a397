/-
  DERIVED. GIVEN WITH THE SEED: THE CARDS: each row of YtdmnemgooagehaaGreatDoorRows.lean that lists a variable, with what it lists TIED to the program's text (the seventh form; the later family's looks); each row that meets fmt, with fmt's text TOLD by the authors' own Lean function (tested against real Go, not proved from fmt's source: count such statements apart). THE CARD IS WHAT COUNTS. Prove the row's statement (the work); the ties are given (YtdmnemgooagehaaGreatDoorTie.lean); close each card by the builder's one call (the guide's Derived/Test/ToyasCard.lean, 'card_holds'). Laid BY PROGRAM, IN A SANDBOX (cutbox-door.mjs). By AI agents, Wed Nov 11 2026. No macro, syntax, notation, axiom, sorry.
-/
import Derived.Test.YtdmnemgooagehaaGreatDoorRows
import GoSem.ClaimSeven
namespace Go.Proofs.YtdmnemgooagehaaGreatDoor
namespace Rows

/-- THE TIED CARD OF 'quartermasterlaw04.SlabActs'. -/
def slabActsCard : Claim7 := { stood := { row := slabActsRow, standIns := [], harness := (true, "539e4775a7a9420f364b1ee42375e798aebd040ac1db54439afa29e659cbcd41"), looks := true }, kinds := [], alts := [], laidByText := true, laidKinds := [.data, .data], laidTests := true, laidLooks := .later }
def SlabActsCardSaid : Prop := Claim7.holds Tryz.pinned (.plain (OpenSpec.ofChange slabActsSpec)) slabActsCard

/-- THE TIED CARD OF 'quartermasterlaw06.PoolActs'. -/
def poolActsCard : Claim7 := { stood := { row := poolActsRow, standIns := [], harness := (true, "539e4775a7a9420f364b1ee42375e798aebd040ac1db54439afa29e659cbcd41"), looks := true }, kinds := [], alts := [], laidByText := true, laidKinds := [.data, .data, .data], laidTests := true, laidLooks := .later }
def PoolActsCardSaid : Prop := Claim7.holds Tryz.pinned (.plain (OpenSpec.ofChange poolActsSpec)) poolActsCard

/-- THE TIED CARD OF 'quartermasterlaw09.TableActs'. -/
def tableActsCard : Claim7 := { stood := { row := tableActsRow, standIns := [], harness := (true, "539e4775a7a9420f364b1ee42375e798aebd040ac1db54439afa29e659cbcd41"), looks := true }, kinds := [], alts := [], laidByText := true, laidKinds := [.data, .data, .data], laidTests := true, laidLooks := .later }
def TableActsCardSaid : Prop := Claim7.holds Tryz.pinned (.plain (OpenSpec.ofChange tableActsSpec)) tableActsCard

/-- THE SECOND FORM's CARD OF 'quartermasterlaw04.SlabActs'. -/
def slabActsUptoCard : Claim7 := { stood := { row := slabActsUptoRow, standIns := [], harness := (true, "539e4775a7a9420f364b1ee42375e798aebd040ac1db54439afa29e659cbcd41"), looks := true }, kinds := [], alts := [], laidByText := true, laidKinds := [.data, .data], laidTests := true, laidLooks := .later }
def SlabActsUptoCardSaid : Prop := Claim7.holds Tryz.pinned (.plain (OpenSpec.upto slabActsSpec)) slabActsUptoCard

/-- THE SECOND FORM's CARD OF 'quartermasterlaw06.PoolActs'. -/
def poolActsUptoCard : Claim7 := { stood := { row := poolActsUptoRow, standIns := [], harness := (true, "539e4775a7a9420f364b1ee42375e798aebd040ac1db54439afa29e659cbcd41"), looks := true }, kinds := [], alts := [], laidByText := true, laidKinds := [.data, .data, .data], laidTests := true, laidLooks := .later }
def PoolActsUptoCardSaid : Prop := Claim7.holds Tryz.pinned (.plain (OpenSpec.upto poolActsSpec)) poolActsUptoCard

/-- THE SECOND FORM's CARD OF 'quartermasterlaw09.TableActs'. -/
def tableActsUptoCard : Claim7 := { stood := { row := tableActsUptoRow, standIns := [], harness := (true, "539e4775a7a9420f364b1ee42375e798aebd040ac1db54439afa29e659cbcd41"), looks := true }, kinds := [], alts := [], laidByText := true, laidKinds := [.data, .data, .data], laidTests := true, laidLooks := .later }
def TableActsUptoCardSaid : Prop := Claim7.holds Tryz.pinned (.plain (OpenSpec.upto tableActsSpec)) tableActsUptoCard
end Rows
end Go.Proofs.YtdmnemgooagehaaGreatDoor
