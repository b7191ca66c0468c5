/-
  No cell of these rows narrows 'for every input' (looked for: loops, veiled, ifaces, maps, wideKeys, modest, calm, conditions, laid).
  DERIVED. THE GIVEN ROWS OF THIS SEAT. 3 by the template 'for every input the law returns true; each argument reads behind the call as it read before'; 0 by the template 'total and deterministic' (their statements: YtdbbfpfmfchmgaaTotals.lean).
  GIVEN WITH THE SEED: the statements are not yours to turn. If you find one false, say at which input.
  Laid BY PROGRAM, IN A SANDBOX (cutbox-rows.mjs): the forced cells as the released guide's own fill.sh prints them over the translation 3df5ad08deaceac0… (all of the seat's roots in one cut). By AI agents, Wed Nov 11 2026. No macro, syntax, notation, axiom, sorry.
-/
import Derived.Test.YtdbbfpfmfchmgaaChecked
import GoSem.Claim
import GoSem.ClaimJoined
import GoSem.ClaimMapViews
import Derived.JoinedTies
import Derived.KernelRfl
namespace Go.Proofs.Ytdbbfpfmfchmgaa
/- THE CELL 'sum', in the pinned program and in every row, IS THE sha256 OF THE DUMP (.gsa) THAT YtdbbfpfmfchmgaaProg.lean LOADS. Nothing in Lean hashes anything: it is a label: what it is worth is what the hold of that sum in a sandbox is worth. -/
noncomputable def Try.pinned : Pinned := { name := "ytdbbfpfmfchmgaa", sum := "3df5ad08deaceac00bec70f47f88d7ed6a079b23cec54cea2e1ebf9351100d79", checked := Try.checked }
namespace Rows
def none {H : Type} : Left H := { results := [], args := [] }

/-- 'riddlelaw05.TermStands': WHATEVER THE INPUT: true; the input reads as it did. -/
def termStandsSpec : ChangeSpec := { name := "termStands", fn := fun _ => fun
  | [d1, d2, d3] => { results := [.lit (.bool true)], args := [d1, d2, d3] }
  | _ => none }
def termStandsRow : OpenClaim := { program := "ytdbbfpfmfchmgaa", sum := "3df5ad08deaceac00bec70f47f88d7ed6a079b23cec54cea2e1ebf9351100d79", func := "riddle/riddlelaw05.TermStands", spec := "termStands", unfollowed := true, recurses := true, apart := false }
def TermStandsSaid : Prop := termStandsRow.holds Try.pinned (OpenSpec.ofChange termStandsSpec)

/-- ITS FALSE NEIGHBOUR: 'it returns false'. Refute it at one input. -/
def termStandsWrong : ChangeSpec := { name := "termStands", fn := fun _ => fun
  | [d1, d2, d3] => { results := [.lit (.bool false)], args := [d1, d2, d3] }
  | _ => none }
def TermStandsWrongFalsely : Prop := termStandsRow.holds Try.pinned (OpenSpec.ofChange termStandsWrong)

/-- 'riddlelaw05.TermReckons': WHATEVER THE INPUT: true; the input reads as it did. -/
def termReckonsSpec : ChangeSpec := { name := "termReckons", fn := fun _ => fun
  | [d1, d2, d3, d4] => { results := [.lit (.bool true)], args := [d1, d2, d3, d4] }
  | _ => none }
def termReckonsRow : OpenClaim := { program := "ytdbbfpfmfchmgaa", sum := "3df5ad08deaceac00bec70f47f88d7ed6a079b23cec54cea2e1ebf9351100d79", func := "riddle/riddlelaw05.TermReckons", spec := "termReckons", unfollowed := true, recurses := true, apart := false }
def TermReckonsSaid : Prop := termReckonsRow.holds Try.pinned (OpenSpec.ofChange termReckonsSpec)

/-- ITS FALSE NEIGHBOUR: 'it returns false'. Refute it at one input. -/
def termReckonsWrong : ChangeSpec := { name := "termReckons", fn := fun _ => fun
  | [d1, d2, d3, d4] => { results := [.lit (.bool false)], args := [d1, d2, d3, d4] }
  | _ => none }
def TermReckonsWrongFalsely : Prop := termReckonsRow.holds Try.pinned (OpenSpec.ofChange termReckonsWrong)

/-- 'riddlelaw05.TermLooks': WHATEVER THE INPUT: true; the input reads as it did. -/
def termLooksSpec : ChangeSpec := { name := "termLooks", fn := fun _ => fun
  | [d1, d2] => { results := [.lit (.bool true)], args := [d1, d2] }
  | _ => none }
def termLooksRow : OpenClaim := { program := "ytdbbfpfmfchmgaa", sum := "3df5ad08deaceac00bec70f47f88d7ed6a079b23cec54cea2e1ebf9351100d79", func := "riddle/riddlelaw05.TermLooks", spec := "termLooks", unfollowed := true, recurses := true, apart := false }
def TermLooksSaid : Prop := termLooksRow.holds Try.pinned (OpenSpec.ofChange termLooksSpec)

/-- ITS FALSE NEIGHBOUR: 'it returns false'. Refute it at one input. -/
def termLooksWrong : ChangeSpec := { name := "termLooks", fn := fun _ => fun
  | [d1, d2] => { results := [.lit (.bool false)], args := [d1, d2] }
  | _ => none }
def TermLooksWrongFalsely : Prop := termLooksRow.holds Try.pinned (OpenSpec.ofChange termLooksWrong)

/- THE SECOND FORM. 'bulk': how many values and letters a reading holds, each counted each time it is reached (what is shared counts as often as it is met; a slice's spare places count too). A statement '..UptoSaid' is the law's where the arguments, and the package variables that the reading takes, are together of bulk at most 1048576: NARROWER than '..Said'. Prove '..Said' where nothing that the law and all that it calls make is longer than what came in: it says more and counts as full. Else prove '..UptoSaid'. A law counts once. -/
mutual
def uptoBulk {H : Type} : DataW H → Nat
  | .lit (.string bytes) => bytes.length + 1
  | .lit _ => 1
  | .nil => 1
  | .ptr d => uptoBulk d + 1
  | .slice elems spare => uptoBulkAll elems + uptoBulkAll spare + 1
  | .agg parts => uptoBulkAll parts + 1
  | .iface _ d => uptoBulk d + 1
  | .map entries => uptoBulkEntries entries + 1
  | .held _ => 1
def uptoBulkAll {H : Type} : List (DataW H) → Nat
  | [] => 0
  | d :: r => uptoBulk d + uptoBulkAll r
def uptoBulkEntries {H : Type} : List (Lit × DataW H) → Nat
  | [] => 0
  | x :: r => uptoBulkEntry x + uptoBulkEntries r
def uptoBulkEntry {H : Type} : Lit × DataW H → Nat
  | (.string bytes, d) => bytes.length + uptoBulk d + 1
  | (_, d) => uptoBulk d + 1
 end
def uptoSmall : (H : Type) → List (DataW H) → Bool := fun _ ds => decide (uptoBulkAll ds ≤ 1048576)
def OpenSpec.upto (s : _root_.Go.ChangeSpec) : _root_.Go.OpenSpec := { _root_.Go.OpenSpec.ofChange s with cond := some uptoSmall }

/-- 'riddlelaw05.TermStands', WHERE WHAT IT READS IS OF BULK AT MOST 1048576: true; the input reads as it did. -/
def termStandsUptoRow : OpenClaim := { program := "ytdbbfpfmfchmgaa", sum := "3df5ad08deaceac00bec70f47f88d7ed6a079b23cec54cea2e1ebf9351100d79", func := "riddle/riddlelaw05.TermStands", spec := "termStands", unfollowed := true, recurses := true, apart := false, narrowed := true }
def TermStandsUptoSaid : Prop := termStandsUptoRow.holds Try.pinned (OpenSpec.upto termStandsSpec)

/-- 'riddlelaw05.TermReckons', WHERE WHAT IT READS IS OF BULK AT MOST 1048576: true; the input reads as it did. -/
def termReckonsUptoRow : OpenClaim := { program := "ytdbbfpfmfchmgaa", sum := "3df5ad08deaceac00bec70f47f88d7ed6a079b23cec54cea2e1ebf9351100d79", func := "riddle/riddlelaw05.TermReckons", spec := "termReckons", unfollowed := true, recurses := true, apart := false, narrowed := true }
def TermReckonsUptoSaid : Prop := termReckonsUptoRow.holds Try.pinned (OpenSpec.upto termReckonsSpec)

/-- 'riddlelaw05.TermLooks', WHERE WHAT IT READS IS OF BULK AT MOST 1048576: true; the input reads as it did. -/
def termLooksUptoRow : OpenClaim := { program := "ytdbbfpfmfchmgaa", sum := "3df5ad08deaceac00bec70f47f88d7ed6a079b23cec54cea2e1ebf9351100d79", func := "riddle/riddlelaw05.TermLooks", spec := "termLooks", unfollowed := true, recurses := true, apart := false, narrowed := true }
def TermLooksUptoSaid : Prop := termLooksUptoRow.holds Try.pinned (OpenSpec.upto termLooksSpec)

end Rows
end Go.Proofs.Ytdbbfpfmfchmgaa
