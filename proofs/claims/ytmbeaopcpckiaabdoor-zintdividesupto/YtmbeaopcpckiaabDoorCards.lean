/-
  DERIVED. GIVEN WITH THE SEED: THE CARDS: each row of YtmbeaopcpckiaabDoorRows.lean that lists a variable, with what it lists TIED to the program's text (the seventh form; the later family's looks); each row that meets fmt, with fmt's text TOLD by the authors' own Lean function (tested against real Go, not proved from fmt's source: count such statements apart). THE CARD IS WHAT COUNTS. Prove the row's statement (the work); the ties are given (YtmbeaopcpckiaabDoorTie.lean); close each card by the builder's one call (the guide's Derived/Test/ToyasCard.lean, 'card_holds'). Laid BY PROGRAM, IN A SANDBOX (cutbox-door.mjs). By AI agents, Wed Nov 11 2026. No macro, syntax, notation, axiom, sorry.
-/
import Derived.Test.YtmbeaopcpckiaabDoorRows
import GoSem.ClaimSeven
namespace Go.Proofs.YtmbeaopcpckiaabDoor
namespace Rows

/-- THE TIED CARD OF 'riddlelaw02.ZintDivides'. -/
def zintDividesCard : Claim7 := { stood := { row := zintDividesRow, standIns := [], harness := (true, "311875a7e6319ac79b4ddf754866fc7e3024f28d396aef29e9c0a997c3e19ee7"), looks := false }, kinds := [], alts := [], laidByText := true, laidKinds := [.data, .data, .data], laidTests := true, laidLooks := .later }
def ZintDividesCardSaid : Prop := Claim7.holds Tryd.pinned (.plain (OpenSpec.ofChange zintDividesSpec)) zintDividesCard

/-- THE TIED CARD OF 'riddlelaw02.ZintTexts'. -/
def zintTextsCard : Claim7 := { stood := { row := zintTextsRow, standIns := [], harness := (true, "311875a7e6319ac79b4ddf754866fc7e3024f28d396aef29e9c0a997c3e19ee7"), looks := false }, kinds := [], alts := [], laidByText := true, laidKinds := [.data, .data, .data], laidTests := true, laidLooks := .later }
def ZintTextsCardSaid : Prop := Claim7.holds Tryd.pinned (.plain (OpenSpec.ofChange zintTextsSpec)) zintTextsCard

/-- THE TIED CARD OF 'riddlelaw02.ZintRing'. -/
def zintRingCard : Claim7 := { stood := { row := zintRingRow, standIns := [], harness := (true, "311875a7e6319ac79b4ddf754866fc7e3024f28d396aef29e9c0a997c3e19ee7"), looks := false }, kinds := [], alts := [], laidByText := true, laidKinds := [.data, .data, .data], laidTests := true, laidLooks := .later }
def ZintRingCardSaid : Prop := Claim7.holds Tryd.pinned (.plain (OpenSpec.ofChange zintRingSpec)) zintRingCard

/-- THE TIED CARD OF 'riddlelaw02.ZintQuotient'. -/
def zintQuotientCard : Claim7 := { stood := { row := zintQuotientRow, standIns := [], harness := (true, "311875a7e6319ac79b4ddf754866fc7e3024f28d396aef29e9c0a997c3e19ee7"), looks := false }, kinds := [], alts := [], laidByText := true, laidKinds := [.data, .data, .data], laidTests := true, laidLooks := .later }
def ZintQuotientCardSaid : Prop := Claim7.holds Tryd.pinned (.plain (OpenSpec.ofChange zintQuotientSpec)) zintQuotientCard

/-- THE SECOND FORM's CARD OF 'riddlelaw02.ZintDivides'. -/
def zintDividesUptoCard : Claim7 := { stood := { row := zintDividesUptoRow, standIns := [], harness := (true, "311875a7e6319ac79b4ddf754866fc7e3024f28d396aef29e9c0a997c3e19ee7"), looks := false }, kinds := [], alts := [], laidByText := true, laidKinds := [.data, .data, .data], laidTests := true, laidLooks := .later }
def ZintDividesUptoCardSaid : Prop := Claim7.holds Tryd.pinned (.plain (OpenSpec.upto zintDividesSpec)) zintDividesUptoCard

/-- THE SECOND FORM's CARD OF 'riddlelaw02.ZintTexts'. -/
def zintTextsUptoCard : Claim7 := { stood := { row := zintTextsUptoRow, standIns := [], harness := (true, "311875a7e6319ac79b4ddf754866fc7e3024f28d396aef29e9c0a997c3e19ee7"), looks := false }, kinds := [], alts := [], laidByText := true, laidKinds := [.data, .data, .data], laidTests := true, laidLooks := .later }
def ZintTextsUptoCardSaid : Prop := Claim7.holds Tryd.pinned (.plain (OpenSpec.upto zintTextsSpec)) zintTextsUptoCard

/-- THE SECOND FORM's CARD OF 'riddlelaw02.ZintRing'. -/
def zintRingUptoCard : Claim7 := { stood := { row := zintRingUptoRow, standIns := [], harness := (true, "311875a7e6319ac79b4ddf754866fc7e3024f28d396aef29e9c0a997c3e19ee7"), looks := false }, kinds := [], alts := [], laidByText := true, laidKinds := [.data, .data, .data], laidTests := true, laidLooks := .later }
def ZintRingUptoCardSaid : Prop := Claim7.holds Tryd.pinned (.plain (OpenSpec.upto zintRingSpec)) zintRingUptoCard

/-- THE SECOND FORM's CARD OF 'riddlelaw02.ZintQuotient'. -/
def zintQuotientUptoCard : Claim7 := { stood := { row := zintQuotientUptoRow, standIns := [], harness := (true, "311875a7e6319ac79b4ddf754866fc7e3024f28d396aef29e9c0a997c3e19ee7"), looks := false }, kinds := [], alts := [], laidByText := true, laidKinds := [.data, .data, .data], laidTests := true, laidLooks := .later }
def ZintQuotientUptoCardSaid : Prop := Claim7.holds Tryd.pinned (.plain (OpenSpec.upto zintQuotientSpec)) zintQuotientUptoCard
end Rows
end Go.Proofs.YtmbeaopcpckiaabDoor
