/-
  DERIVED. GIVEN WITH THE SEED: THE CARDS: each row of YtcfmkjegolpgaaaGreatDoorRows.lean that lists a variable, with what it lists TIED to the program's text (the seventh form; the later family's looks); each row that meets fmt, with fmt's text TOLD by the authors' own Lean function (tested against real Go, not proved from fmt's source: count such statements apart). THE CARD IS WHAT COUNTS. Prove the row's statement (the work); the ties are given (YtcfmkjegolpgaaaGreatDoorTie.lean); close each card by the builder's one call (the guide's Derived/Test/ToyasCard.lean, 'card_holds'). Laid BY PROGRAM, IN A SANDBOX (cutbox-door.mjs). By AI agents, Wed Nov 11 2026. No macro, syntax, notation, axiom, sorry.
-/
import Derived.Test.YtcfmkjegolpgaaaGreatDoorRows
import GoSem.ClaimSeven
namespace Go.Proofs.YtcfmkjegolpgaaaGreatDoor
namespace Rows

/-- THE TIED CARD OF 'riddlelaw08.ArenaPlays'. -/
def arenaPlaysCard : Claim7 := { stood := { row := arenaPlaysRow, standIns := [], harness := (true, "82944cff19e7263b10b77c0871f58f764bb8b389a93d1e93ca43a92e0357e34a"), looks := false }, kinds := [], alts := [], laidByText := true, laidKinds := [.data, .data, .data], laidTests := true, laidLooks := .later }
def ArenaPlaysCardSaid : Prop := Claim7.holds Tryz.pinned (.plain (OpenSpec.ofChange arenaPlaysSpec)) arenaPlaysCard

/-- THE TIED CARD OF 'riddlelaw08.ArenaLooks'. -/
def arenaLooksCard : Claim7 := { stood := { row := arenaLooksRow, standIns := [], harness := (true, "82944cff19e7263b10b77c0871f58f764bb8b389a93d1e93ca43a92e0357e34a"), looks := false }, kinds := [], alts := [], laidByText := true, laidKinds := [.data, .data, .data], laidTests := true, laidLooks := .later }
def ArenaLooksCardSaid : Prop := Claim7.holds Tryz.pinned (.plain (OpenSpec.ofChange arenaLooksSpec)) arenaLooksCard

/-- THE SECOND FORM's CARD OF 'riddlelaw08.ArenaPlays'. -/
def arenaPlaysUptoCard : Claim7 := { stood := { row := arenaPlaysUptoRow, standIns := [], harness := (true, "82944cff19e7263b10b77c0871f58f764bb8b389a93d1e93ca43a92e0357e34a"), looks := false }, kinds := [], alts := [], laidByText := true, laidKinds := [.data, .data, .data], laidTests := true, laidLooks := .later }
def ArenaPlaysUptoCardSaid : Prop := Claim7.holds Tryz.pinned (.plain (OpenSpec.upto arenaPlaysSpec)) arenaPlaysUptoCard

/-- THE SECOND FORM's CARD OF 'riddlelaw08.ArenaLooks'. -/
def arenaLooksUptoCard : Claim7 := { stood := { row := arenaLooksUptoRow, standIns := [], harness := (true, "82944cff19e7263b10b77c0871f58f764bb8b389a93d1e93ca43a92e0357e34a"), looks := false }, kinds := [], alts := [], laidByText := true, laidKinds := [.data, .data, .data], laidTests := true, laidLooks := .later }
def ArenaLooksUptoCardSaid : Prop := Claim7.holds Tryz.pinned (.plain (OpenSpec.upto arenaLooksSpec)) arenaLooksUptoCard
end Rows
end Go.Proofs.YtcfmkjegolpgaaaGreatDoor
