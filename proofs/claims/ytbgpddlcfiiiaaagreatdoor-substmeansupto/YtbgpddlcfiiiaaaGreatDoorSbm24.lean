/-
 Layer 5: does a term stand as it should? The readings; Valid.
-/
import Derived.Test.YtbgpddlcfiiiaaaGreatDoorSbm15
import Derived.Test.YtbgpddlcfiiiaaaGreatDoorSbm18
namespace Go.Proofs.YtbgpddlcfiiiaaaGreatDoor
open Go.RowKit Go.Sort Go.Shelf
open Tm

end Go.Proofs.YtbgpddlcfiiiaaaGreatDoor
