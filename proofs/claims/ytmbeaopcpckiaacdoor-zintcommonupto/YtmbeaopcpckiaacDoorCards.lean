/-
  DERIVED. GIVEN WITH THE SEED: THE CARDS: each row of YtmbeaopcpckiaacDoorRows.lean that lists a variable, with what it lists TIED to the program's text (the seventh form; the later family's looks); each row that meets fmt, with fmt's text TOLD by the authors' own Lean function (tested against real Go, not proved from fmt's source: count such statements apart). THE CARD IS WHAT COUNTS. Prove the row's statement (the work); the ties are given (YtmbeaopcpckiaacDoorTie.lean); close each card by the builder's one call (the guide's Derived/Test/ToyasCard.lean, 'card_holds'). Laid BY PROGRAM, IN A SANDBOX (cutbox-door.mjs). By AI agents, Wed Nov 11 2026. No macro, syntax, notation, axiom, sorry.
-/
import Derived.Test.YtmbeaopcpckiaacDoorRows
import GoSem.ClaimSeven
namespace Go.Proofs.YtmbeaopcpckiaacDoor
namespace Rows

/-- THE TIED CARD OF 'riddlelaw02.ZintCommon'. -/
def zintCommonCard : Claim7 := { stood := { row := zintCommonRow, standIns := [], harness := (true, "250e6dd68b0975cbda5ab7eb7388687f6913fdc73b0dc52ca79c3bfdc6bb84f9"), looks := false }, kinds := [], alts := [], laidByText := true, laidKinds := [.data, .data, .data], laidTests := true, laidLooks := .later }
def ZintCommonCardSaid : Prop := Claim7.holds Tryd.pinned (.plain (OpenSpec.ofChange zintCommonSpec)) zintCommonCard

/-- THE SECOND FORM's CARD OF 'riddlelaw02.ZintCommon'. -/
def zintCommonUptoCard : Claim7 := { stood := { row := zintCommonUptoRow, standIns := [], harness := (true, "250e6dd68b0975cbda5ab7eb7388687f6913fdc73b0dc52ca79c3bfdc6bb84f9"), looks := false }, kinds := [], alts := [], laidByText := true, laidKinds := [.data, .data, .data], laidTests := true, laidLooks := .later }
def ZintCommonUptoCardSaid : Prop := Claim7.holds Tryd.pinned (.plain (OpenSpec.upto zintCommonSpec)) zintCommonUptoCard
end Rows
end Go.Proofs.YtmbeaopcpckiaacDoor
