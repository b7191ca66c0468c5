/-
  DERIVED. GIVEN WITH THE SEED: THE CARDS: each row of YtbgpddlcfiiiaaaGreatDoorRows.lean that lists a variable, with what it lists TIED to the program's text (the seventh form; the later family's looks); each row that meets fmt, with fmt's text TOLD by the authors' own Lean function (tested against real Go, not proved from fmt's source: count such statements apart). THE CARD IS WHAT COUNTS. Prove the row's statement (the work); the ties are given (YtbgpddlcfiiiaaaGreatDoorTie.lean); close each card by the builder's one call (the guide's Derived/Test/ToyasCard.lean, 'card_holds'). Laid BY PROGRAM, IN A SANDBOX (cutbox-door.mjs). By AI agents, Wed Nov 11 2026. No macro, syntax, notation, axiom, sorry.
-/
import Derived.Test.YtbgpddlcfiiiaaaGreatDoorRows
import GoSem.ClaimSeven
namespace Go.Proofs.YtbgpddlcfiiiaaaGreatDoor
namespace Rows

/-- THE TIED CARD OF 'riddlelaw12.SubstMeans'. -/
def substMeansCard : Claim7 := { stood := { row := substMeansRow, standIns := [], harness := (true, "2ec1fefb04da00f21e56b9d6970848e81217bd16e8fc454e92542fb22213d4ca"), looks := false }, kinds := [], alts := [], laidByText := true, laidKinds := [.data, .data, .data], laidTests := true, laidLooks := .later }
def SubstMeansCardSaid : Prop := Claim7.holds Tryz.pinned (.plain (OpenSpec.ofChange substMeansSpec)) substMeansCard

/-- THE TIED CARD OF 'riddlelaw12.SubstGone'. -/
def substGoneCard : Claim7 := { stood := { row := substGoneRow, standIns := [], harness := (true, "2ec1fefb04da00f21e56b9d6970848e81217bd16e8fc454e92542fb22213d4ca"), looks := false }, kinds := [], alts := [], laidByText := true, laidKinds := [.data, .data, .data], laidTests := true, laidLooks := .later }
def SubstGoneCardSaid : Prop := Claim7.holds Tryz.pinned (.plain (OpenSpec.ofChange substGoneSpec)) substGoneCard

/-- THE SECOND FORM's CARD OF 'riddlelaw12.SubstMeans'. -/
def substMeansUptoCard : Claim7 := { stood := { row := substMeansUptoRow, standIns := [], harness := (true, "2ec1fefb04da00f21e56b9d6970848e81217bd16e8fc454e92542fb22213d4ca"), looks := false }, kinds := [], alts := [], laidByText := true, laidKinds := [.data, .data, .data], laidTests := true, laidLooks := .later }
def SubstMeansUptoCardSaid : Prop := Claim7.holds Tryz.pinned (.plain (OpenSpec.upto substMeansSpec)) substMeansUptoCard

/-- THE SECOND FORM's CARD OF 'riddlelaw12.SubstGone'. -/
def substGoneUptoCard : Claim7 := { stood := { row := substGoneUptoRow, standIns := [], harness := (true, "2ec1fefb04da00f21e56b9d6970848e81217bd16e8fc454e92542fb22213d4ca"), looks := false }, kinds := [], alts := [], laidByText := true, laidKinds := [.data, .data, .data], laidTests := true, laidLooks := .later }
def SubstGoneUptoCardSaid : Prop := Claim7.holds Tryz.pinned (.plain (OpenSpec.upto substGoneSpec)) substGoneUptoCard
end Rows
end Go.Proofs.YtbgpddlcfiiiaaaGreatDoor
