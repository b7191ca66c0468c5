/-
  DERIVED. GIVEN WITH THE SEED: THE CARDS: each row of YtmbeaopcpckiaaaDoorRows.lean that lists a variable, with what it lists TIED to the program's text (the seventh form; the later family's looks); each row that meets fmt, with fmt's text TOLD by the authors' own Lean function (tested against real Go, not proved from fmt's source: count such statements apart). THE CARD IS WHAT COUNTS. Prove the row's statement (the work); the ties are given (YtmbeaopcpckiaaaDoorTie.lean); close each card by the builder's one call (the guide's Derived/Test/ToyasCard.lean, 'card_holds'). Laid BY PROGRAM, IN A SANDBOX (cutbox-door.mjs). By AI agents, Wed Nov 11 2026. No macro, syntax, notation, axiom, sorry.
-/
import Derived.Test.YtmbeaopcpckiaaaDoorRows
import GoSem.ClaimSeven
namespace Go.Proofs.YtmbeaopcpckiaaaDoor
namespace Rows

/-- THE TIED CARD OF 'riddlelaw01.NatAdds'. -/
def natAddsCard : Claim7 := { stood := { row := natAddsRow, standIns := [], harness := (true, "0ede559ffd5d10ac156151b10a2497d7082d4869ebaa85a4b3706e3364099199"), looks := false }, kinds := [], alts := [], laidByText := true, laidKinds := [.data, .data, .data], laidTests := true, laidLooks := .later }
def NatAddsCardSaid : Prop := Claim7.holds Tryd.pinned (.plain (OpenSpec.ofChange natAddsSpec)) natAddsCard

/-- THE TIED CARD OF 'riddlelaw01.NatMultiplies'. -/
def natMultipliesCard : Claim7 := { stood := { row := natMultipliesRow, standIns := [], harness := (true, "0ede559ffd5d10ac156151b10a2497d7082d4869ebaa85a4b3706e3364099199"), looks := false }, kinds := [], alts := [], laidByText := true, laidKinds := [.data, .data, .data], laidTests := true, laidLooks := .later }
def NatMultipliesCardSaid : Prop := Claim7.holds Tryd.pinned (.plain (OpenSpec.ofChange natMultipliesSpec)) natMultipliesCard

/-- THE TIED CARD OF 'riddlelaw01.NatDivisors'. -/
def natDivisorsCard : Claim7 := { stood := { row := natDivisorsRow, standIns := [], harness := (true, "0ede559ffd5d10ac156151b10a2497d7082d4869ebaa85a4b3706e3364099199"), looks := false }, kinds := [], alts := [], laidByText := true, laidKinds := [.data, .data, .data], laidTests := true, laidLooks := .later }
def NatDivisorsCardSaid : Prop := Claim7.holds Tryd.pinned (.plain (OpenSpec.ofChange natDivisorsSpec)) natDivisorsCard

/-- THE TIED CARD OF 'riddlelaw01.NatTells'. -/
def natTellsCard : Claim7 := { stood := { row := natTellsRow, standIns := [], harness := (true, "0ede559ffd5d10ac156151b10a2497d7082d4869ebaa85a4b3706e3364099199"), looks := false }, kinds := [], alts := [], laidByText := true, laidKinds := [.data, .data, .data], laidTests := true, laidLooks := .later }
def NatTellsCardSaid : Prop := Claim7.holds Tryd.pinned (.plain (OpenSpec.ofChange natTellsSpec)) natTellsCard

/-- THE TIED CARD OF 'riddlelaw02.ZintStands'. -/
def zintStandsCard : Claim7 := { stood := { row := zintStandsRow, standIns := [], harness := (true, "0ede559ffd5d10ac156151b10a2497d7082d4869ebaa85a4b3706e3364099199"), looks := false }, kinds := [], alts := [], laidByText := true, laidKinds := [.data, .data, .data], laidTests := true, laidLooks := .later }
def ZintStandsCardSaid : Prop := Claim7.holds Tryd.pinned (.plain (OpenSpec.ofChange zintStandsSpec)) zintStandsCard

/-- THE TIED CARD OF 'riddlelaw02.ZintReckons'. -/
def zintReckonsCard : Claim7 := { stood := { row := zintReckonsRow, standIns := [], harness := (true, "0ede559ffd5d10ac156151b10a2497d7082d4869ebaa85a4b3706e3364099199"), looks := false }, kinds := [], alts := [], laidByText := true, laidKinds := [.data, .data, .data], laidTests := true, laidLooks := .later }
def ZintReckonsCardSaid : Prop := Claim7.holds Tryd.pinned (.plain (OpenSpec.ofChange zintReckonsSpec)) zintReckonsCard

/-- THE SECOND FORM's CARD OF 'riddlelaw01.NatAdds'. -/
def natAddsUptoCard : Claim7 := { stood := { row := natAddsUptoRow, standIns := [], harness := (true, "0ede559ffd5d10ac156151b10a2497d7082d4869ebaa85a4b3706e3364099199"), looks := false }, kinds := [], alts := [], laidByText := true, laidKinds := [.data, .data, .data], laidTests := true, laidLooks := .later }
def NatAddsUptoCardSaid : Prop := Claim7.holds Tryd.pinned (.plain (OpenSpec.upto natAddsSpec)) natAddsUptoCard

/-- THE SECOND FORM's CARD OF 'riddlelaw01.NatMultiplies'. -/
def natMultipliesUptoCard : Claim7 := { stood := { row := natMultipliesUptoRow, standIns := [], harness := (true, "0ede559ffd5d10ac156151b10a2497d7082d4869ebaa85a4b3706e3364099199"), looks := false }, kinds := [], alts := [], laidByText := true, laidKinds := [.data, .data, .data], laidTests := true, laidLooks := .later }
def NatMultipliesUptoCardSaid : Prop := Claim7.holds Tryd.pinned (.plain (OpenSpec.upto natMultipliesSpec)) natMultipliesUptoCard

/-- THE SECOND FORM's CARD OF 'riddlelaw01.NatDivisors'. -/
def natDivisorsUptoCard : Claim7 := { stood := { row := natDivisorsUptoRow, standIns := [], harness := (true, "0ede559ffd5d10ac156151b10a2497d7082d4869ebaa85a4b3706e3364099199"), looks := false }, kinds := [], alts := [], laidByText := true, laidKinds := [.data, .data, .data], laidTests := true, laidLooks := .later }
def NatDivisorsUptoCardSaid : Prop := Claim7.holds Tryd.pinned (.plain (OpenSpec.upto natDivisorsSpec)) natDivisorsUptoCard

/-- THE SECOND FORM's CARD OF 'riddlelaw01.NatTells'. -/
def natTellsUptoCard : Claim7 := { stood := { row := natTellsUptoRow, standIns := [], harness := (true, "0ede559ffd5d10ac156151b10a2497d7082d4869ebaa85a4b3706e3364099199"), looks := false }, kinds := [], alts := [], laidByText := true, laidKinds := [.data, .data, .data], laidTests := true, laidLooks := .later }
def NatTellsUptoCardSaid : Prop := Claim7.holds Tryd.pinned (.plain (OpenSpec.upto natTellsSpec)) natTellsUptoCard

/-- THE SECOND FORM's CARD OF 'riddlelaw02.ZintStands'. -/
def zintStandsUptoCard : Claim7 := { stood := { row := zintStandsUptoRow, standIns := [], harness := (true, "0ede559ffd5d10ac156151b10a2497d7082d4869ebaa85a4b3706e3364099199"), looks := false }, kinds := [], alts := [], laidByText := true, laidKinds := [.data, .data, .data], laidTests := true, laidLooks := .later }
def ZintStandsUptoCardSaid : Prop := Claim7.holds Tryd.pinned (.plain (OpenSpec.upto zintStandsSpec)) zintStandsUptoCard

/-- THE SECOND FORM's CARD OF 'riddlelaw02.ZintReckons'. -/
def zintReckonsUptoCard : Claim7 := { stood := { row := zintReckonsUptoRow, standIns := [], harness := (true, "0ede559ffd5d10ac156151b10a2497d7082d4869ebaa85a4b3706e3364099199"), looks := false }, kinds := [], alts := [], laidByText := true, laidKinds := [.data, .data, .data], laidTests := true, laidLooks := .later }
def ZintReckonsUptoCardSaid : Prop := Claim7.holds Tryd.pinned (.plain (OpenSpec.upto zintReckonsSpec)) zintReckonsUptoCard
end Rows
end Go.Proofs.YtmbeaopcpckiaaaDoor
