/-
 From what a law's argument of the type api.Int reads as to the walks' words.
-/
import Derived.Test.YtepdckgfolkjjaaGreatDoorS25
import Derived.Test.YtepdckgfolkjjaaGreatDoorS07
import Derived.Lib.SmallJoins
namespace Go.Proofs.YtepdckgfolkjjaaGreatDoor
open Go.ChangeShapes Go.WideShapes Go.ChangeAt Go.RowKit Go.Joins

end Go.Proofs.YtepdckgfolkjjaaGreatDoor
