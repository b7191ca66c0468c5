/-
  DERIVED. GIVEN WITH THE SEED: THE CARDS: each row of YtcmlkofcmgbceaaDoorRows.lean that lists a variable, with what it lists TIED to the program's text (the seventh form; the later family's looks); each row that meets fmt, with fmt's text TOLD by the authors' own Lean function (tested against real Go, not proved from fmt's source: count such statements apart). THE CARD IS WHAT COUNTS. Prove the row's statement (the work); the ties are given (YtcmlkofcmgbceaaDoorTie.lean); close each card by the builder's one call (the guide's Derived/Test/ToyasCard.lean, 'card_holds'). Laid BY PROGRAM, IN A SANDBOX (cutbox-door.mjs). By AI agents, Wed Nov 11 2026. No macro, syntax, notation, axiom, sorry.
-/
import Derived.Test.YtcmlkofcmgbceaaDoorRows
import GoSem.ClaimSeven
namespace Go.Proofs.YtcmlkofcmgbceaaDoor
namespace Rows

/-- THE TIED CARD OF 'riddlelaw01.NatMultiplies'. -/
def natMultipliesCard : Claim7 := { stood := { row := natMultipliesRow, standIns := [], harness := (true, "b0efa5c616c799ec98201b30269f23b4033e9095dafcd9260ec60098e6975d1b"), looks := false }, kinds := [], alts := [], laidByText := true, laidKinds := [.data, .data, .data], laidTests := true, laidLooks := .later }
def NatMultipliesCardSaid : Prop := Claim7.holds Tryd.pinned (.plain (OpenSpec.ofChange natMultipliesSpec)) natMultipliesCard

/-- THE TIED CARD OF 'riddlelaw01.NatDivisors'. -/
def natDivisorsCard : Claim7 := { stood := { row := natDivisorsRow, standIns := [], harness := (true, "b0efa5c616c799ec98201b30269f23b4033e9095dafcd9260ec60098e6975d1b"), looks := false }, kinds := [], alts := [], laidByText := true, laidKinds := [.data, .data, .data], laidTests := true, laidLooks := .later }
def NatDivisorsCardSaid : Prop := Claim7.holds Tryd.pinned (.plain (OpenSpec.ofChange natDivisorsSpec)) natDivisorsCard

/-- THE TIED CARD OF 'riddlelaw01.NatTells'. -/
def natTellsCard : Claim7 := { stood := { row := natTellsRow, standIns := [], harness := (true, "b0efa5c616c799ec98201b30269f23b4033e9095dafcd9260ec60098e6975d1b"), looks := false }, kinds := [], alts := [], laidByText := true, laidKinds := [.data, .data, .data], laidTests := true, laidLooks := .later }
def NatTellsCardSaid : Prop := Claim7.holds Tryd.pinned (.plain (OpenSpec.ofChange natTellsSpec)) natTellsCard

/-- THE TIED CARD OF 'riddlelaw02.ZintTexts'. -/
def zintTextsCard : Claim7 := { stood := { row := zintTextsRow, standIns := [], harness := (true, "b0efa5c616c799ec98201b30269f23b4033e9095dafcd9260ec60098e6975d1b"), looks := false }, kinds := [], alts := [], laidByText := true, laidKinds := [.data, .data, .data], laidTests := true, laidLooks := .later }
def ZintTextsCardSaid : Prop := Claim7.holds Tryd.pinned (.plain (OpenSpec.ofChange zintTextsSpec)) zintTextsCard

/-- THE SECOND FORM's CARD OF 'riddlelaw01.NatMultiplies'. -/
def natMultipliesUptoCard : Claim7 := { stood := { row := natMultipliesUptoRow, standIns := [], harness := (true, "b0efa5c616c799ec98201b30269f23b4033e9095dafcd9260ec60098e6975d1b"), looks := false }, kinds := [], alts := [], laidByText := true, laidKinds := [.data, .data, .data], laidTests := true, laidLooks := .later }
def NatMultipliesUptoCardSaid : Prop := Claim7.holds Tryd.pinned (.plain (OpenSpec.upto natMultipliesSpec)) natMultipliesUptoCard

/-- THE SECOND FORM's CARD OF 'riddlelaw01.NatDivisors'. -/
def natDivisorsUptoCard : Claim7 := { stood := { row := natDivisorsUptoRow, standIns := [], harness := (true, "b0efa5c616c799ec98201b30269f23b4033e9095dafcd9260ec60098e6975d1b"), looks := false }, kinds := [], alts := [], laidByText := true, laidKinds := [.data, .data, .data], laidTests := true, laidLooks := .later }
def NatDivisorsUptoCardSaid : Prop := Claim7.holds Tryd.pinned (.plain (OpenSpec.upto natDivisorsSpec)) natDivisorsUptoCard

/-- THE SECOND FORM's CARD OF 'riddlelaw01.NatTells'. -/
def natTellsUptoCard : Claim7 := { stood := { row := natTellsUptoRow, standIns := [], harness := (true, "b0efa5c616c799ec98201b30269f23b4033e9095dafcd9260ec60098e6975d1b"), looks := false }, kinds := [], alts := [], laidByText := true, laidKinds := [.data, .data, .data], laidTests := true, laidLooks := .later }
def NatTellsUptoCardSaid : Prop := Claim7.holds Tryd.pinned (.plain (OpenSpec.upto natTellsSpec)) natTellsUptoCard

/-- THE SECOND FORM's CARD OF 'riddlelaw02.ZintTexts'. -/
def zintTextsUptoCard : Claim7 := { stood := { row := zintTextsUptoRow, standIns := [], harness := (true, "b0efa5c616c799ec98201b30269f23b4033e9095dafcd9260ec60098e6975d1b"), looks := false }, kinds := [], alts := [], laidByText := true, laidKinds := [.data, .data, .data], laidTests := true, laidLooks := .later }
def ZintTextsUptoCardSaid : Prop := Claim7.holds Tryd.pinned (.plain (OpenSpec.upto zintTextsSpec)) zintTextsUptoCard
end Rows
end Go.Proofs.YtcmlkofcmgbceaaDoor
