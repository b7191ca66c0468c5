/-
  DERIVED. GIVEN WITH THE SEED: THE CARDS: each row of YtmlephkmbkiofaaGreatDoorRows.lean that lists a variable, with what it lists TIED to the program's text (the seventh form; the later family's looks); each row that meets fmt, with fmt's text TOLD by the authors' own Lean function (tested against real Go, not proved from fmt's source: count such statements apart). THE CARD IS WHAT COUNTS. Prove the row's statement (the work); the ties are given (YtmlephkmbkiofaaGreatDoorTie.lean); close each card by the builder's one call (the guide's Derived/Test/ToyasCard.lean, 'card_holds'). Laid BY PROGRAM, IN A SANDBOX (cutbox-door.mjs). By AI agents, Wed Nov 11 2026. No macro, syntax, notation, axiom, sorry.
-/
import Derived.Test.YtmlephkmbkiofaaGreatDoorRows
import GoSem.ClaimSeven
namespace Go.Proofs.YtmlephkmbkiofaaGreatDoor
namespace Rows

/-- THE TIED CARD OF 'riddlelaw02.ZintDivisors'. -/
def zintDivisorsCard : Claim7 := { stood := { row := zintDivisorsRow, standIns := [], harness := (true, "00c4bb1cc05947f738f348b5d7222e800a94b3411e078e4e8cacd40b02680b64"), looks := false }, kinds := [], alts := [], laidByText := true, laidKinds := [.data, .data, .data], laidTests := true, laidLooks := .later }
def ZintDivisorsCardSaid : Prop := Claim7.holds Tryz.pinned (.plain (OpenSpec.ofChange zintDivisorsSpec)) zintDivisorsCard

/-- THE TIED CARD OF 'riddlelaw02.ZintMemory'. -/
def zintMemoryCard : Claim7 := { stood := { row := zintMemoryRow, standIns := [], harness := (true, "00c4bb1cc05947f738f348b5d7222e800a94b3411e078e4e8cacd40b02680b64"), looks := false }, kinds := [], alts := [], laidByText := true, laidKinds := [.data, .data, .data], laidTests := true, laidLooks := .later }
def ZintMemoryCardSaid : Prop := Claim7.holds Tryz.pinned (.plain (OpenSpec.ofChange zintMemorySpec)) zintMemoryCard

/-- THE SECOND FORM's CARD OF 'riddlelaw02.ZintDivisors'. -/
def zintDivisorsUptoCard : Claim7 := { stood := { row := zintDivisorsUptoRow, standIns := [], harness := (true, "00c4bb1cc05947f738f348b5d7222e800a94b3411e078e4e8cacd40b02680b64"), looks := false }, kinds := [], alts := [], laidByText := true, laidKinds := [.data, .data, .data], laidTests := true, laidLooks := .later }
def ZintDivisorsUptoCardSaid : Prop := Claim7.holds Tryz.pinned (.plain (OpenSpec.upto zintDivisorsSpec)) zintDivisorsUptoCard

/-- THE SECOND FORM's CARD OF 'riddlelaw02.ZintMemory'. -/
def zintMemoryUptoCard : Claim7 := { stood := { row := zintMemoryUptoRow, standIns := [], harness := (true, "00c4bb1cc05947f738f348b5d7222e800a94b3411e078e4e8cacd40b02680b64"), looks := false }, kinds := [], alts := [], laidByText := true, laidKinds := [.data, .data, .data], laidTests := true, laidLooks := .later }
def ZintMemoryUptoCardSaid : Prop := Claim7.holds Tryz.pinned (.plain (OpenSpec.upto zintMemorySpec)) zintMemoryUptoCard
end Rows
end Go.Proofs.YtmlephkmbkiofaaGreatDoor
