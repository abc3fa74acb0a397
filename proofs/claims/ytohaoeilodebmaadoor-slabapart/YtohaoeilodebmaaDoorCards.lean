/-
  DERIVED. GIVEN WITH THE SEED: THE CARDS: each row of YtohaoeilodebmaaDoorRows.lean that lists a variable, with what it lists TIED to the program's text (the seventh form; the later family's looks); each row that meets fmt, with fmt's text TOLD by the authors' own Lean function (tested against real Go, not proved from fmt's source: count such statements apart). THE CARD IS WHAT COUNTS. Prove the row's statement (the work); the ties are given (YtohaoeilodebmaaDoorTie.lean); close each card by the builder's one call (the guide's Derived/Test/ToyasCard.lean, 'card_holds'). Laid BY PROGRAM, IN A SANDBOX (cutbox-door.mjs). By AI agents, Wed Nov 11 2026. No macro, syntax, notation, axiom, sorry.
-/
import Derived.Test.YtohaoeilodebmaaDoorRows
import GoSem.ClaimSeven
namespace Go.Proofs.YtohaoeilodebmaaDoor
namespace Rows

/-- THE TIED CARD OF 'quartermasterlaw03.BuddyActs'. -/
def buddyActsCard : Claim7 := { stood := { row := buddyActsRow, standIns := [], harness := (true, "a026ec44cc3b9242bb0013fa87ba14f616ae180f9975a4ae394b8bd4562e3abc"), looks := true }, kinds := [], alts := [], laidByText := true, laidKinds := [.data, .data], laidTests := true, laidLooks := .later }
def BuddyActsCardSaid : Prop := Claim7.holds Tryd.pinned (.plain (OpenSpec.ofChange buddyActsSpec)) buddyActsCard

/-- THE TIED CARD OF 'quartermasterlaw04.SlabApart'. -/
def slabApartCard : Claim7 := { stood := { row := slabApartRow, standIns := [], harness := (true, "a026ec44cc3b9242bb0013fa87ba14f616ae180f9975a4ae394b8bd4562e3abc"), looks := true }, kinds := [], alts := [], laidByText := true, laidKinds := [.data, .data], laidTests := true, laidLooks := .later }
def SlabApartCardSaid : Prop := Claim7.holds Tryd.pinned (.plain (OpenSpec.ofChange slabApartSpec)) slabApartCard

/-- THE TIED CARD OF 'quartermasterlaw04.SlabBack'. -/
def slabBackCard : Claim7 := { stood := { row := slabBackRow, standIns := [], harness := (true, "a026ec44cc3b9242bb0013fa87ba14f616ae180f9975a4ae394b8bd4562e3abc"), looks := true }, kinds := [], alts := [], laidByText := true, laidKinds := [.data, .data], laidTests := true, laidLooks := .later }
def SlabBackCardSaid : Prop := Claim7.holds Tryd.pinned (.plain (OpenSpec.ofChange slabBackSpec)) slabBackCard

/-- THE TIED CARD OF 'quartermasterlaw04.SlabFills'. -/
def slabFillsCard : Claim7 := { stood := { row := slabFillsRow, standIns := [], harness := (true, "a026ec44cc3b9242bb0013fa87ba14f616ae180f9975a4ae394b8bd4562e3abc"), looks := true }, kinds := [], alts := [], laidByText := true, laidKinds := [.data, .data], laidTests := true, laidLooks := .later }
def SlabFillsCardSaid : Prop := Claim7.holds Tryd.pinned (.plain (OpenSpec.ofChange slabFillsSpec)) slabFillsCard

/-- THE SECOND FORM's CARD OF 'quartermasterlaw03.BuddyActs'. -/
def buddyActsUptoCard : Claim7 := { stood := { row := buddyActsUptoRow, standIns := [], harness := (true, "a026ec44cc3b9242bb0013fa87ba14f616ae180f9975a4ae394b8bd4562e3abc"), looks := true }, kinds := [], alts := [], laidByText := true, laidKinds := [.data, .data], laidTests := true, laidLooks := .later }
def BuddyActsUptoCardSaid : Prop := Claim7.holds Tryd.pinned (.plain (OpenSpec.upto buddyActsSpec)) buddyActsUptoCard

/-- THE SECOND FORM's CARD OF 'quartermasterlaw04.SlabApart'. -/
def slabApartUptoCard : Claim7 := { stood := { row := slabApartUptoRow, standIns := [], harness := (true, "a026ec44cc3b9242bb0013fa87ba14f616ae180f9975a4ae394b8bd4562e3abc"), looks := true }, kinds := [], alts := [], laidByText := true, laidKinds := [.data, .data], laidTests := true, laidLooks := .later }
def SlabApartUptoCardSaid : Prop := Claim7.holds Tryd.pinned (.plain (OpenSpec.upto slabApartSpec)) slabApartUptoCard

/-- THE SECOND FORM's CARD OF 'quartermasterlaw04.SlabBack'. -/
def slabBackUptoCard : Claim7 := { stood := { row := slabBackUptoRow, standIns := [], harness := (true, "a026ec44cc3b9242bb0013fa87ba14f616ae180f9975a4ae394b8bd4562e3abc"), looks := true }, kinds := [], alts := [], laidByText := true, laidKinds := [.data, .data], laidTests := true, laidLooks := .later }
def SlabBackUptoCardSaid : Prop := Claim7.holds Tryd.pinned (.plain (OpenSpec.upto slabBackSpec)) slabBackUptoCard

/-- THE SECOND FORM's CARD OF 'quartermasterlaw04.SlabFills'. -/
def slabFillsUptoCard : Claim7 := { stood := { row := slabFillsUptoRow, standIns := [], harness := (true, "a026ec44cc3b9242bb0013fa87ba14f616ae180f9975a4ae394b8bd4562e3abc"), looks := true }, kinds := [], alts := [], laidByText := true, laidKinds := [.data, .data], laidTests := true, laidLooks := .later }
def SlabFillsUptoCardSaid : Prop := Claim7.holds Tryd.pinned (.plain (OpenSpec.upto slabFillsSpec)) slabFillsUptoCard
end Rows
end Go.Proofs.YtohaoeilodebmaaDoor
