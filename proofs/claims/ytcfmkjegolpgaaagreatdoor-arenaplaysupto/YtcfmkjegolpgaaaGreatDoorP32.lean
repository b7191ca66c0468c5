/-
 From what a law's argument of the type api.Int reads as to the walks' words.
-/
import Derived.Test.YtcfmkjegolpgaaaGreatDoorP31
import Derived.Test.YtcfmkjegolpgaaaGreatDoorP13
import Derived.Lib.SmallJoins
namespace Go.Proofs.YtcfmkjegolpgaaaGreatDoor
open Go.ChangeShapes Go.WideShapes Go.ChangeAt Go.RowKit Go.Joins

end Go.Proofs.YtcfmkjegolpgaaaGreatDoor
