/-
 From what a law's argument of the type api.Int reads as to the walks' words.
-/
import Derived.Test.YtjlkmjonadkkdaaGreatDoorP22
import Derived.Test.YtjlkmjonadkkdaaGreatDoorP07
import Derived.Lib.SmallJoins
namespace Go.Proofs.YtjlkmjonadkkdaaGreatDoor
open Go.ChangeShapes Go.WideShapes Go.ChangeAt Go.RowKit Go.Joins

end Go.Proofs.YtjlkmjonadkkdaaGreatDoor
