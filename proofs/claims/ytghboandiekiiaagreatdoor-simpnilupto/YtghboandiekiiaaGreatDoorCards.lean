/-
  DERIVED. GIVEN WITH THE SEED: THE CARDS: each row of YtghboandiekiiaaGreatDoorRows.lean that lists a variable, with what it lists TIED to the program's text (the seventh form; the later family's looks); each row that meets fmt, with fmt's text TOLD by the authors' own Lean function (tested against real Go, not proved from fmt's source: count such statements apart). THE CARD IS WHAT COUNTS. Prove the row's statement (the work); the ties are given (YtghboandiekiiaaGreatDoorTie.lean); close each card by the builder's one call (the guide's Derived/Test/ToyasCard.lean, 'card_holds'). Laid BY PROGRAM, IN A SANDBOX (cutbox-door.mjs). By AI agents, Wed Nov 11 2026. No macro, syntax, notation, axiom, sorry.
-/
import Derived.Test.YtghboandiekiiaaGreatDoorRows
import GoSem.ClaimSeven
namespace Go.Proofs.YtghboandiekiiaaGreatDoor
namespace Rows

/-- THE TIED CARD OF 'riddlelaw09.SimpMeans'. -/
def simpMeansCard : Claim7 := { stood := { row := simpMeansRow, standIns := [], harness := (true, "ff4c2e62b98e52f6ac774f86c66cb30174c2e995e55679a3224e7fd6d6c02f50"), looks := false }, kinds := [], alts := [], laidByText := true, laidKinds := [.data, .data, .data], laidTests := true, laidLooks := .later }
def SimpMeansCardSaid : Prop := Claim7.holds Tryz.pinned (.plain (OpenSpec.ofChange simpMeansSpec)) simpMeansCard

/-- THE TIED CARD OF 'riddlelaw09.SimpOrders'. -/
def simpOrdersCard : Claim7 := { stood := { row := simpOrdersRow, standIns := [], harness := (true, "ff4c2e62b98e52f6ac774f86c66cb30174c2e995e55679a3224e7fd6d6c02f50"), looks := false }, kinds := [], alts := [], laidByText := true, laidKinds := [.data, .data, .data], laidTests := true, laidLooks := .later }
def SimpOrdersCardSaid : Prop := Claim7.holds Tryz.pinned (.plain (OpenSpec.ofChange simpOrdersSpec)) simpOrdersCard

/-- THE TIED CARD OF 'riddlelaw09.SimpNil'. -/
def simpNilCard : Claim7 := { stood := { row := simpNilRow, standIns := [], harness := (true, "ff4c2e62b98e52f6ac774f86c66cb30174c2e995e55679a3224e7fd6d6c02f50"), looks := false }, kinds := [], alts := [], laidByText := true, laidKinds := [.data, .data, .data], laidTests := true, laidLooks := .later }
def SimpNilCardSaid : Prop := Claim7.holds Tryz.pinned (.plain (OpenSpec.ofChange simpNilSpec)) simpNilCard

/-- THE SECOND FORM's CARD OF 'riddlelaw09.SimpMeans'. -/
def simpMeansUptoCard : Claim7 := { stood := { row := simpMeansUptoRow, standIns := [], harness := (true, "ff4c2e62b98e52f6ac774f86c66cb30174c2e995e55679a3224e7fd6d6c02f50"), looks := false }, kinds := [], alts := [], laidByText := true, laidKinds := [.data, .data, .data], laidTests := true, laidLooks := .later }
def SimpMeansUptoCardSaid : Prop := Claim7.holds Tryz.pinned (.plain (OpenSpec.upto simpMeansSpec)) simpMeansUptoCard

/-- THE SECOND FORM's CARD OF 'riddlelaw09.SimpOrders'. -/
def simpOrdersUptoCard : Claim7 := { stood := { row := simpOrdersUptoRow, standIns := [], harness := (true, "ff4c2e62b98e52f6ac774f86c66cb30174c2e995e55679a3224e7fd6d6c02f50"), looks := false }, kinds := [], alts := [], laidByText := true, laidKinds := [.data, .data, .data], laidTests := true, laidLooks := .later }
def SimpOrdersUptoCardSaid : Prop := Claim7.holds Tryz.pinned (.plain (OpenSpec.upto simpOrdersSpec)) simpOrdersUptoCard

/-- THE SECOND FORM's CARD OF 'riddlelaw09.SimpNil'. -/
def simpNilUptoCard : Claim7 := { stood := { row := simpNilUptoRow, standIns := [], harness := (true, "ff4c2e62b98e52f6ac774f86c66cb30174c2e995e55679a3224e7fd6d6c02f50"), looks := false }, kinds := [], alts := [], laidByText := true, laidKinds := [.data, .data, .data], laidTests := true, laidLooks := .later }
def SimpNilUptoCardSaid : Prop := Claim7.holds Tryz.pinned (.plain (OpenSpec.upto simpNilSpec)) simpNilUptoCard
end Rows
end Go.Proofs.YtghboandiekiiaaGreatDoor
