/-
  DERIVED. GIVEN WITH THE SEED: THE CARDS: each row of YtjhhknfnaobmiaaGreatDoorRows.lean that lists a variable, with what it lists TIED to the program's text (the seventh form; the later family's looks); each row that meets fmt, with fmt's text TOLD by the authors' own Lean function (tested against real Go, not proved from fmt's source: count such statements apart). THE CARD IS WHAT COUNTS. Prove the row's statement (the work); the ties are given (YtjhhknfnaobmiaaGreatDoorTie.lean); close each card by the builder's one call (the guide's Derived/Test/ToyasCard.lean, 'card_holds'). Laid BY PROGRAM, IN A SANDBOX (cutbox-door.mjs). By AI agents, Wed Nov 11 2026. No macro, syntax, notation, axiom, sorry.
-/
import Derived.Test.YtjhhknfnaobmiaaGreatDoorRows
import GoSem.ClaimSeven
namespace Go.Proofs.YtjhhknfnaobmiaaGreatDoor
namespace Rows

/-- THE TIED CARD OF 'riddlelaw06.AtomForms'. -/
def atomFormsCard : Claim7 := { stood := { row := atomFormsRow, standIns := [], harness := (true, "838f58627739b7542d9930a2cc6f54db8fda419da429541dde41dd149d19749a"), looks := false }, kinds := [], alts := [], laidByText := true, laidKinds := [.data, .data, .data], laidTests := true, laidLooks := .later }
def AtomFormsCardSaid : Prop := Claim7.holds Tryz.pinned (.plain (OpenSpec.ofChange atomFormsSpec)) atomFormsCard

/-- THE TIED CARD OF 'riddlelaw06.AtomTurns'. -/
def atomTurnsCard : Claim7 := { stood := { row := atomTurnsRow, standIns := [], harness := (true, "838f58627739b7542d9930a2cc6f54db8fda419da429541dde41dd149d19749a"), looks := false }, kinds := [], alts := [], laidByText := true, laidKinds := [.data, .data, .data], laidTests := true, laidLooks := .later }
def AtomTurnsCardSaid : Prop := Claim7.holds Tryz.pinned (.plain (OpenSpec.ofChange atomTurnsSpec)) atomTurnsCard

/-- THE TIED CARD OF 'riddlelaw06.AtomLooks'. -/
def atomLooksCard : Claim7 := { stood := { row := atomLooksRow, standIns := [], harness := (true, "838f58627739b7542d9930a2cc6f54db8fda419da429541dde41dd149d19749a"), looks := false }, kinds := [], alts := [], laidByText := true, laidKinds := [.data, .data, .data], laidTests := true, laidLooks := .later }
def AtomLooksCardSaid : Prop := Claim7.holds Tryz.pinned (.plain (OpenSpec.ofChange atomLooksSpec)) atomLooksCard

/-- THE SECOND FORM's CARD OF 'riddlelaw06.AtomForms'. -/
def atomFormsUptoCard : Claim7 := { stood := { row := atomFormsUptoRow, standIns := [], harness := (true, "838f58627739b7542d9930a2cc6f54db8fda419da429541dde41dd149d19749a"), looks := false }, kinds := [], alts := [], laidByText := true, laidKinds := [.data, .data, .data], laidTests := true, laidLooks := .later }
def AtomFormsUptoCardSaid : Prop := Claim7.holds Tryz.pinned (.plain (OpenSpec.upto atomFormsSpec)) atomFormsUptoCard

/-- THE SECOND FORM's CARD OF 'riddlelaw06.AtomTurns'. -/
def atomTurnsUptoCard : Claim7 := { stood := { row := atomTurnsUptoRow, standIns := [], harness := (true, "838f58627739b7542d9930a2cc6f54db8fda419da429541dde41dd149d19749a"), looks := false }, kinds := [], alts := [], laidByText := true, laidKinds := [.data, .data, .data], laidTests := true, laidLooks := .later }
def AtomTurnsUptoCardSaid : Prop := Claim7.holds Tryz.pinned (.plain (OpenSpec.upto atomTurnsSpec)) atomTurnsUptoCard

/-- THE SECOND FORM's CARD OF 'riddlelaw06.AtomLooks'. -/
def atomLooksUptoCard : Claim7 := { stood := { row := atomLooksUptoRow, standIns := [], harness := (true, "838f58627739b7542d9930a2cc6f54db8fda419da429541dde41dd149d19749a"), looks := false }, kinds := [], alts := [], laidByText := true, laidKinds := [.data, .data, .data], laidTests := true, laidLooks := .later }
def AtomLooksUptoCardSaid : Prop := Claim7.holds Tryz.pinned (.plain (OpenSpec.upto atomLooksSpec)) atomLooksUptoCard
end Rows
end Go.Proofs.YtjhhknfnaobmiaaGreatDoor
