/-
 From what a law's argument of the type api.Int reads as to the walks' words.
-/
import Derived.Test.YtbgpddlcfiiiaaaGreatDoorSbm26
import Derived.Test.YtbgpddlcfiiiaaaGreatDoorSbm12
import Derived.Lib.SmallJoins
namespace Go.Proofs.YtbgpddlcfiiiaaaGreatDoor
open Go.ChangeShapes Go.WideShapes Go.ChangeAt Go.RowKit Go.Joins

end Go.Proofs.YtbgpddlcfiiiaaaGreatDoor
