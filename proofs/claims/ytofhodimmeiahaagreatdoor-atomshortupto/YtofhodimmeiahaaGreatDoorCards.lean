/-
  DERIVED. GIVEN WITH THE SEED: THE CARDS: each row of YtofhodimmeiahaaGreatDoorRows.lean that lists a variable, with what it lists TIED to the program's text (the seventh form; the later family's looks); each row that meets fmt, with fmt's text TOLD by the authors' own Lean function (tested against real Go, not proved from fmt's source: count such statements apart). THE CARD IS WHAT COUNTS. Prove the row's statement (the work); the ties are given (YtofhodimmeiahaaGreatDoorTie.lean); close each card by the builder's one call (the guide's Derived/Test/ToyasCard.lean, 'card_holds'). Laid BY PROGRAM, IN A SANDBOX (cutbox-door.mjs). By AI agents, Wed Nov 11 2026. No macro, syntax, notation, axiom, sorry.
-/
import Derived.Test.YtofhodimmeiahaaGreatDoorRows
import GoSem.ClaimSeven
namespace Go.Proofs.YtofhodimmeiahaaGreatDoor
namespace Rows

/-- THE TIED CARD OF 'riddlelaw06.AtomMeans'. -/
def atomMeansCard : Claim7 := { stood := { row := atomMeansRow, standIns := [], harness := (true, "caa9a071ae4fd338cff1edfa8918ac4aa01eadb83254724706a1b244ef71a339"), looks := false }, kinds := [], alts := [], laidByText := true, laidKinds := [.data, .data, .data], laidTests := true, laidLooks := .later }
def AtomMeansCardSaid : Prop := Claim7.holds Tryz.pinned (.plain (OpenSpec.ofChange atomMeansSpec)) atomMeansCard

/-- THE TIED CARD OF 'riddlelaw06.AtomOpposite'. -/
def atomOppositeCard : Claim7 := { stood := { row := atomOppositeRow, standIns := [], harness := (true, "caa9a071ae4fd338cff1edfa8918ac4aa01eadb83254724706a1b244ef71a339"), looks := false }, kinds := [], alts := [], laidByText := true, laidKinds := [.data, .data, .data], laidTests := true, laidLooks := .later }
def AtomOppositeCardSaid : Prop := Claim7.holds Tryz.pinned (.plain (OpenSpec.ofChange atomOppositeSpec)) atomOppositeCard

/-- THE TIED CARD OF 'riddlelaw06.AtomPuts'. -/
def atomPutsCard : Claim7 := { stood := { row := atomPutsRow, standIns := [], harness := (true, "caa9a071ae4fd338cff1edfa8918ac4aa01eadb83254724706a1b244ef71a339"), looks := false }, kinds := [], alts := [], laidByText := true, laidKinds := [.data, .data, .data], laidTests := true, laidLooks := .later }
def AtomPutsCardSaid : Prop := Claim7.holds Tryz.pinned (.plain (OpenSpec.ofChange atomPutsSpec)) atomPutsCard

/-- THE TIED CARD OF 'riddlelaw06.AtomShort'. -/
def atomShortCard : Claim7 := { stood := { row := atomShortRow, standIns := [], harness := (true, "caa9a071ae4fd338cff1edfa8918ac4aa01eadb83254724706a1b244ef71a339"), looks := false }, kinds := [], alts := [], laidByText := true, laidKinds := [.data, .data, .data], laidTests := true, laidLooks := .later }
def AtomShortCardSaid : Prop := Claim7.holds Tryz.pinned (.plain (OpenSpec.ofChange atomShortSpec)) atomShortCard

/-- THE SECOND FORM's CARD OF 'riddlelaw06.AtomMeans'. -/
def atomMeansUptoCard : Claim7 := { stood := { row := atomMeansUptoRow, standIns := [], harness := (true, "caa9a071ae4fd338cff1edfa8918ac4aa01eadb83254724706a1b244ef71a339"), looks := false }, kinds := [], alts := [], laidByText := true, laidKinds := [.data, .data, .data], laidTests := true, laidLooks := .later }
def AtomMeansUptoCardSaid : Prop := Claim7.holds Tryz.pinned (.plain (OpenSpec.upto atomMeansSpec)) atomMeansUptoCard

/-- THE SECOND FORM's CARD OF 'riddlelaw06.AtomOpposite'. -/
def atomOppositeUptoCard : Claim7 := { stood := { row := atomOppositeUptoRow, standIns := [], harness := (true, "caa9a071ae4fd338cff1edfa8918ac4aa01eadb83254724706a1b244ef71a339"), looks := false }, kinds := [], alts := [], laidByText := true, laidKinds := [.data, .data, .data], laidTests := true, laidLooks := .later }
def AtomOppositeUptoCardSaid : Prop := Claim7.holds Tryz.pinned (.plain (OpenSpec.upto atomOppositeSpec)) atomOppositeUptoCard

/-- THE SECOND FORM's CARD OF 'riddlelaw06.AtomPuts'. -/
def atomPutsUptoCard : Claim7 := { stood := { row := atomPutsUptoRow, standIns := [], harness := (true, "caa9a071ae4fd338cff1edfa8918ac4aa01eadb83254724706a1b244ef71a339"), looks := false }, kinds := [], alts := [], laidByText := true, laidKinds := [.data, .data, .data], laidTests := true, laidLooks := .later }
def AtomPutsUptoCardSaid : Prop := Claim7.holds Tryz.pinned (.plain (OpenSpec.upto atomPutsSpec)) atomPutsUptoCard

/-- THE SECOND FORM's CARD OF 'riddlelaw06.AtomShort'. -/
def atomShortUptoCard : Claim7 := { stood := { row := atomShortUptoRow, standIns := [], harness := (true, "caa9a071ae4fd338cff1edfa8918ac4aa01eadb83254724706a1b244ef71a339"), looks := false }, kinds := [], alts := [], laidByText := true, laidKinds := [.data, .data, .data], laidTests := true, laidLooks := .later }
def AtomShortUptoCardSaid : Prop := Claim7.holds Tryz.pinned (.plain (OpenSpec.upto atomShortSpec)) atomShortUptoCard
end Rows
end Go.Proofs.YtofhodimmeiahaaGreatDoor
