/-
  DERIVED. GIVEN WITH THE SEED: THE CARDS: each row of YtjdghmkolkidpaaGreatDoorRows.lean that lists a variable, with what it lists TIED to the program's text (the seventh form; the later family's looks); each row that meets fmt, with fmt's text TOLD by the authors' own Lean function (tested against real Go, not proved from fmt's source: count such statements apart). THE CARD IS WHAT COUNTS. Prove the row's statement (the work); the ties are given (YtjdghmkolkidpaaGreatDoorTie.lean); close each card by the builder's one call (the guide's Derived/Test/ToyasCard.lean, 'card_holds'). Laid BY PROGRAM, IN A SANDBOX (cutbox-door.mjs). By AI agents, Wed Nov 11 2026. No macro, syntax, notation, axiom, sorry.
-/
import Derived.Test.YtjdghmkolkidpaaGreatDoorRows
import GoSem.ClaimSeven
namespace Go.Proofs.YtjdghmkolkidpaaGreatDoor
namespace Rows

/-- THE TIED CARD OF 'riddlelaw08.ArenaOnce'. -/
def arenaOnceCard : Claim7 := { stood := { row := arenaOnceRow, standIns := [], harness := (true, "052d660aa5626799c2507b5f34b95d9c677d74bc6d8eeb9e5b700b2e0baeff64"), looks := false }, kinds := [], alts := [], laidByText := true, laidKinds := [.data, .data, .data], laidTests := true, laidLooks := .later }
def ArenaOnceCardSaid : Prop := Claim7.holds Tryz.pinned (.plain (OpenSpec.ofChange arenaOnceSpec)) arenaOnceCard

/-- THE TIED CARD OF 'riddlelaw08.ArenaLets'. -/
def arenaLetsCard : Claim7 := { stood := { row := arenaLetsRow, standIns := [], harness := (true, "052d660aa5626799c2507b5f34b95d9c677d74bc6d8eeb9e5b700b2e0baeff64"), looks := false }, kinds := [], alts := [], laidByText := true, laidKinds := [.data, .data, .data], laidTests := true, laidLooks := .later }
def ArenaLetsCardSaid : Prop := Claim7.holds Tryz.pinned (.plain (OpenSpec.ofChange arenaLetsSpec)) arenaLetsCard

/-- THE TIED CARD OF 'riddlelaw08.ArenaApart'. -/
def arenaApartCard : Claim7 := { stood := { row := arenaApartRow, standIns := [], harness := (true, "052d660aa5626799c2507b5f34b95d9c677d74bc6d8eeb9e5b700b2e0baeff64"), looks := false }, kinds := [], alts := [], laidByText := true, laidKinds := [.data, .data, .data], laidTests := true, laidLooks := .later }
def ArenaApartCardSaid : Prop := Claim7.holds Tryz.pinned (.plain (OpenSpec.ofChange arenaApartSpec)) arenaApartCard

/-- THE TIED CARD OF 'riddlelaw08.ArenaNil'. -/
def arenaNilCard : Claim7 := { stood := { row := arenaNilRow, standIns := [], harness := (true, "052d660aa5626799c2507b5f34b95d9c677d74bc6d8eeb9e5b700b2e0baeff64"), looks := false }, kinds := [], alts := [], laidByText := true, laidKinds := [.data, .data, .data], laidTests := true, laidLooks := .later }
def ArenaNilCardSaid : Prop := Claim7.holds Tryz.pinned (.plain (OpenSpec.ofChange arenaNilSpec)) arenaNilCard

/-- THE SECOND FORM's CARD OF 'riddlelaw08.ArenaOnce'. -/
def arenaOnceUptoCard : Claim7 := { stood := { row := arenaOnceUptoRow, standIns := [], harness := (true, "052d660aa5626799c2507b5f34b95d9c677d74bc6d8eeb9e5b700b2e0baeff64"), looks := false }, kinds := [], alts := [], laidByText := true, laidKinds := [.data, .data, .data], laidTests := true, laidLooks := .later }
def ArenaOnceUptoCardSaid : Prop := Claim7.holds Tryz.pinned (.plain (OpenSpec.upto arenaOnceSpec)) arenaOnceUptoCard

/-- THE SECOND FORM's CARD OF 'riddlelaw08.ArenaLets'. -/
def arenaLetsUptoCard : Claim7 := { stood := { row := arenaLetsUptoRow, standIns := [], harness := (true, "052d660aa5626799c2507b5f34b95d9c677d74bc6d8eeb9e5b700b2e0baeff64"), looks := false }, kinds := [], alts := [], laidByText := true, laidKinds := [.data, .data, .data], laidTests := true, laidLooks := .later }
def ArenaLetsUptoCardSaid : Prop := Claim7.holds Tryz.pinned (.plain (OpenSpec.upto arenaLetsSpec)) arenaLetsUptoCard

/-- THE SECOND FORM's CARD OF 'riddlelaw08.ArenaApart'. -/
def arenaApartUptoCard : Claim7 := { stood := { row := arenaApartUptoRow, standIns := [], harness := (true, "052d660aa5626799c2507b5f34b95d9c677d74bc6d8eeb9e5b700b2e0baeff64"), looks := false }, kinds := [], alts := [], laidByText := true, laidKinds := [.data, .data, .data], laidTests := true, laidLooks := .later }
def ArenaApartUptoCardSaid : Prop := Claim7.holds Tryz.pinned (.plain (OpenSpec.upto arenaApartSpec)) arenaApartUptoCard

/-- THE SECOND FORM's CARD OF 'riddlelaw08.ArenaNil'. -/
def arenaNilUptoCard : Claim7 := { stood := { row := arenaNilUptoRow, standIns := [], harness := (true, "052d660aa5626799c2507b5f34b95d9c677d74bc6d8eeb9e5b700b2e0baeff64"), looks := false }, kinds := [], alts := [], laidByText := true, laidKinds := [.data, .data, .data], laidTests := true, laidLooks := .later }
def ArenaNilUptoCardSaid : Prop := Claim7.holds Tryz.pinned (.plain (OpenSpec.upto arenaNilSpec)) arenaNilUptoCard
end Rows
end Go.Proofs.YtjdghmkolkidpaaGreatDoor
