/-
 Layer 5: does a term stand as it should? The readings; Valid.
-/
import Derived.Test.YtllfelooahplhaaGreatDoorSbn15
import Derived.Test.YtllfelooahplhaaGreatDoorSbn20
namespace Go.Proofs.YtllfelooahplhaaGreatDoor
open Go.RowKit Go.Sort Go.Shelf
open Tm

end Go.Proofs.YtllfelooahplhaaGreatDoor
