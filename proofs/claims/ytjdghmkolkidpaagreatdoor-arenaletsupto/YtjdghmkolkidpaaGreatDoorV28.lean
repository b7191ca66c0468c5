/-
 From what a law's argument of the type api.Int reads as to the walks' words.
-/
import Derived.Test.YtjdghmkolkidpaaGreatDoorV27
import Derived.Test.YtjdghmkolkidpaaGreatDoorV12
import Derived.Lib.SmallJoins
namespace Go.Proofs.YtjdghmkolkidpaaGreatDoor
open Go.ChangeShapes Go.WideShapes Go.ChangeAt Go.RowKit Go.Joins

end Go.Proofs.YtjdghmkolkidpaaGreatDoor
