/-
 Layer 5: does a term stand as it should? The readings; Valid.
-/
import Derived.Test.YtepdckgfolkjjaaGreatDoorR11
import Derived.Test.YtepdckgfolkjjaaGreatDoorR16
namespace Go.Proofs.YtepdckgfolkjjaaGreatDoor
open Go.RowKit Go.Sort Go.Shelf
open Tm

end Go.Proofs.YtepdckgfolkjjaaGreatDoor
