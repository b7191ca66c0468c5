/-
 From what a law's argument of the type api.Int reads as to the walks' words.
-/
import Derived.Test.YtghboandiekiiaaGreatDoorSnl28
import Derived.Test.YtghboandiekiiaaGreatDoorSnl12
import Derived.Lib.SmallJoins
namespace Go.Proofs.YtghboandiekiiaaGreatDoor
open Go.ChangeShapes Go.WideShapes Go.ChangeAt Go.RowKit Go.Joins

end Go.Proofs.YtghboandiekiiaaGreatDoor
