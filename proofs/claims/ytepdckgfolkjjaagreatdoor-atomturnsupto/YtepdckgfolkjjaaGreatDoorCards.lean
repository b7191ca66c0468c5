/-
  DERIVED. GIVEN WITH THE SEED: THE CARDS: each row of YtepdckgfolkjjaaGreatDoorRows.lean that lists a variable, with what it lists TIED to the program's text (the seventh form; the later family's looks); each row that meets fmt, with fmt's text TOLD by the authors' own Lean function (tested against real Go, not proved from fmt's source: count such statements apart). THE CARD IS WHAT COUNTS. Prove the row's statement (the work); the ties are given (YtepdckgfolkjjaaGreatDoorTie.lean); close each card by the builder's one call (the guide's Derived/Test/ToyasCard.lean, 'card_holds'). Laid BY PROGRAM, IN A SANDBOX (cutbox-door.mjs). By AI agents, Wed Nov 11 2026. No macro, syntax, notation, axiom, sorry.
-/
import Derived.Test.YtepdckgfolkjjaaGreatDoorRows
import GoSem.ClaimSeven
namespace Go.Proofs.YtepdckgfolkjjaaGreatDoor
namespace Rows

/-- THE TIED CARD OF 'riddlelaw06.AtomTurns'. -/
def atomTurnsCard : Claim7 := { stood := { row := atomTurnsRow, standIns := [], harness := (true, "2cdb155663fa7d743775ba5da7c3e360a268edc609fdeab07a0afa41b8c3b71c"), looks := false }, kinds := [], alts := [], laidByText := true, laidKinds := [.data, .data, .data], laidTests := true, laidLooks := .later }
def AtomTurnsCardSaid : Prop := Claim7.holds Tryz.pinned (.plain (OpenSpec.ofChange atomTurnsSpec)) atomTurnsCard

/-- THE TIED CARD OF 'riddlelaw06.AtomLooks'. -/
def atomLooksCard : Claim7 := { stood := { row := atomLooksRow, standIns := [], harness := (true, "2cdb155663fa7d743775ba5da7c3e360a268edc609fdeab07a0afa41b8c3b71c"), looks := false }, kinds := [], alts := [], laidByText := true, laidKinds := [.data, .data, .data], laidTests := true, laidLooks := .later }
def AtomLooksCardSaid : Prop := Claim7.holds Tryz.pinned (.plain (OpenSpec.ofChange atomLooksSpec)) atomLooksCard

/-- THE SECOND FORM's CARD OF 'riddlelaw06.AtomTurns'. -/
def atomTurnsUptoCard : Claim7 := { stood := { row := atomTurnsUptoRow, standIns := [], harness := (true, "2cdb155663fa7d743775ba5da7c3e360a268edc609fdeab07a0afa41b8c3b71c"), looks := false }, kinds := [], alts := [], laidByText := true, laidKinds := [.data, .data, .data], laidTests := true, laidLooks := .later }
def AtomTurnsUptoCardSaid : Prop := Claim7.holds Tryz.pinned (.plain (OpenSpec.upto atomTurnsSpec)) atomTurnsUptoCard

/-- THE SECOND FORM's CARD OF 'riddlelaw06.AtomLooks'. -/
def atomLooksUptoCard : Claim7 := { stood := { row := atomLooksUptoRow, standIns := [], harness := (true, "2cdb155663fa7d743775ba5da7c3e360a268edc609fdeab07a0afa41b8c3b71c"), looks := false }, kinds := [], alts := [], laidByText := true, laidKinds := [.data, .data, .data], laidTests := true, laidLooks := .later }
def AtomLooksUptoCardSaid : Prop := Claim7.holds Tryz.pinned (.plain (OpenSpec.upto atomLooksSpec)) atomLooksUptoCard
end Rows
end Go.Proofs.YtepdckgfolkjjaaGreatDoor
