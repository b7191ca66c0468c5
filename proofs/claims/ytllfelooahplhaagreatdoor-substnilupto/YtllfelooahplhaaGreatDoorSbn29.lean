/-
 From what a law's argument of the type api.Int reads as to the walks' words.
-/
import Derived.Test.YtllfelooahplhaaGreatDoorSbn28
import Derived.Test.YtllfelooahplhaaGreatDoorSbn12
import Derived.Lib.SmallJoins
namespace Go.Proofs.YtllfelooahplhaaGreatDoor
open Go.ChangeShapes Go.WideShapes Go.ChangeAt Go.RowKit Go.Joins

end Go.Proofs.YtllfelooahplhaaGreatDoor
