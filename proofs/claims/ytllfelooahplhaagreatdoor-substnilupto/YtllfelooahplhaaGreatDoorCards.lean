/-
  DERIVED. GIVEN WITH THE SEED: THE CARDS: each row of YtllfelooahplhaaGreatDoorRows.lean that lists a variable, with what it lists TIED to the program's text (the seventh form; the later family's looks); each row that meets fmt, with fmt's text TOLD by the authors' own Lean function (tested against real Go, not proved from fmt's source: count such statements apart). THE CARD IS WHAT COUNTS. Prove the row's statement (the work); the ties are given (YtllfelooahplhaaGreatDoorTie.lean); close each card by the builder's one call (the guide's Derived/Test/ToyasCard.lean, 'card_holds'). Laid BY PROGRAM, IN A SANDBOX (cutbox-door.mjs). By AI agents, Wed Nov 11 2026. No macro, syntax, notation, axiom, sorry.
-/
import Derived.Test.YtllfelooahplhaaGreatDoorRows
import GoSem.ClaimSeven
namespace Go.Proofs.YtllfelooahplhaaGreatDoor
namespace Rows

/-- THE TIED CARD OF 'riddlelaw09.SimpMeans'. -/
def simpMeansCard : Claim7 := { stood := { row := simpMeansRow, standIns := [], harness := (true, "48e6293b0d4f8a0ad70f43e8688e3bec457d1a5aa5e08876548fed034b6de099"), looks := false }, kinds := [], alts := [], laidByText := true, laidKinds := [.data, .data, .data], laidTests := true, laidLooks := .later }
def SimpMeansCardSaid : Prop := Claim7.holds Tryz.pinned (.plain (OpenSpec.ofChange simpMeansSpec)) simpMeansCard

/-- THE TIED CARD OF 'riddlelaw09.SimpOrders'. -/
def simpOrdersCard : Claim7 := { stood := { row := simpOrdersRow, standIns := [], harness := (true, "48e6293b0d4f8a0ad70f43e8688e3bec457d1a5aa5e08876548fed034b6de099"), looks := false }, kinds := [], alts := [], laidByText := true, laidKinds := [.data, .data, .data], laidTests := true, laidLooks := .later }
def SimpOrdersCardSaid : Prop := Claim7.holds Tryz.pinned (.plain (OpenSpec.ofChange simpOrdersSpec)) simpOrdersCard

/-- THE TIED CARD OF 'riddlelaw09.SimpNil'. -/
def simpNilCard : Claim7 := { stood := { row := simpNilRow, standIns := [], harness := (true, "48e6293b0d4f8a0ad70f43e8688e3bec457d1a5aa5e08876548fed034b6de099"), looks := false }, kinds := [], alts := [], laidByText := true, laidKinds := [.data, .data, .data], laidTests := true, laidLooks := .later }
def SimpNilCardSaid : Prop := Claim7.holds Tryz.pinned (.plain (OpenSpec.ofChange simpNilSpec)) simpNilCard

/-- THE TIED CARD OF 'riddlelaw12.SubstMeans'. -/
def substMeansCard : Claim7 := { stood := { row := substMeansRow, standIns := [], harness := (true, "48e6293b0d4f8a0ad70f43e8688e3bec457d1a5aa5e08876548fed034b6de099"), looks := false }, kinds := [], alts := [], laidByText := true, laidKinds := [.data, .data, .data], laidTests := true, laidLooks := .later }
def SubstMeansCardSaid : Prop := Claim7.holds Tryz.pinned (.plain (OpenSpec.ofChange substMeansSpec)) substMeansCard

/-- THE TIED CARD OF 'riddlelaw12.SubstGone'. -/
def substGoneCard : Claim7 := { stood := { row := substGoneRow, standIns := [], harness := (true, "48e6293b0d4f8a0ad70f43e8688e3bec457d1a5aa5e08876548fed034b6de099"), looks := false }, kinds := [], alts := [], laidByText := true, laidKinds := [.data, .data, .data], laidTests := true, laidLooks := .later }
def SubstGoneCardSaid : Prop := Claim7.holds Tryz.pinned (.plain (OpenSpec.ofChange substGoneSpec)) substGoneCard

/-- THE TIED CARD OF 'riddlelaw12.SubstNil'. -/
def substNilCard : Claim7 := { stood := { row := substNilRow, standIns := [], harness := (true, "48e6293b0d4f8a0ad70f43e8688e3bec457d1a5aa5e08876548fed034b6de099"), looks := false }, kinds := [], alts := [], laidByText := true, laidKinds := [.data, .data, .data], laidTests := true, laidLooks := .later }
def SubstNilCardSaid : Prop := Claim7.holds Tryz.pinned (.plain (OpenSpec.ofChange substNilSpec)) substNilCard

/-- THE SECOND FORM's CARD OF 'riddlelaw09.SimpMeans'. -/
def simpMeansUptoCard : Claim7 := { stood := { row := simpMeansUptoRow, standIns := [], harness := (true, "48e6293b0d4f8a0ad70f43e8688e3bec457d1a5aa5e08876548fed034b6de099"), looks := false }, kinds := [], alts := [], laidByText := true, laidKinds := [.data, .data, .data], laidTests := true, laidLooks := .later }
def SimpMeansUptoCardSaid : Prop := Claim7.holds Tryz.pinned (.plain (OpenSpec.upto simpMeansSpec)) simpMeansUptoCard

/-- THE SECOND FORM's CARD OF 'riddlelaw09.SimpOrders'. -/
def simpOrdersUptoCard : Claim7 := { stood := { row := simpOrdersUptoRow, standIns := [], harness := (true, "48e6293b0d4f8a0ad70f43e8688e3bec457d1a5aa5e08876548fed034b6de099"), looks := false }, kinds := [], alts := [], laidByText := true, laidKinds := [.data, .data, .data], laidTests := true, laidLooks := .later }
def SimpOrdersUptoCardSaid : Prop := Claim7.holds Tryz.pinned (.plain (OpenSpec.upto simpOrdersSpec)) simpOrdersUptoCard

/-- THE SECOND FORM's CARD OF 'riddlelaw09.SimpNil'. -/
def simpNilUptoCard : Claim7 := { stood := { row := simpNilUptoRow, standIns := [], harness := (true, "48e6293b0d4f8a0ad70f43e8688e3bec457d1a5aa5e08876548fed034b6de099"), looks := false }, kinds := [], alts := [], laidByText := true, laidKinds := [.data, .data, .data], laidTests := true, laidLooks := .later }
def SimpNilUptoCardSaid : Prop := Claim7.holds Tryz.pinned (.plain (OpenSpec.upto simpNilSpec)) simpNilUptoCard

/-- THE SECOND FORM's CARD OF 'riddlelaw12.SubstMeans'. -/
def substMeansUptoCard : Claim7 := { stood := { row := substMeansUptoRow, standIns := [], harness := (true, "48e6293b0d4f8a0ad70f43e8688e3bec457d1a5aa5e08876548fed034b6de099"), looks := false }, kinds := [], alts := [], laidByText := true, laidKinds := [.data, .data, .data], laidTests := true, laidLooks := .later }
def SubstMeansUptoCardSaid : Prop := Claim7.holds Tryz.pinned (.plain (OpenSpec.upto substMeansSpec)) substMeansUptoCard

/-- THE SECOND FORM's CARD OF 'riddlelaw12.SubstGone'. -/
def substGoneUptoCard : Claim7 := { stood := { row := substGoneUptoRow, standIns := [], harness := (true, "48e6293b0d4f8a0ad70f43e8688e3bec457d1a5aa5e08876548fed034b6de099"), looks := false }, kinds := [], alts := [], laidByText := true, laidKinds := [.data, .data, .data], laidTests := true, laidLooks := .later }
def SubstGoneUptoCardSaid : Prop := Claim7.holds Tryz.pinned (.plain (OpenSpec.upto substGoneSpec)) substGoneUptoCard

/-- THE SECOND FORM's CARD OF 'riddlelaw12.SubstNil'. -/
def substNilUptoCard : Claim7 := { stood := { row := substNilUptoRow, standIns := [], harness := (true, "48e6293b0d4f8a0ad70f43e8688e3bec457d1a5aa5e08876548fed034b6de099"), looks := false }, kinds := [], alts := [], laidByText := true, laidKinds := [.data, .data, .data], laidTests := true, laidLooks := .later }
def SubstNilUptoCardSaid : Prop := Claim7.holds Tryz.pinned (.plain (OpenSpec.upto substNilSpec)) substNilUptoCard
end Rows
end Go.Proofs.YtllfelooahplhaaGreatDoor
