/-
 Layer 5: does a term stand as it should? The readings; Valid.
-/
import Derived.Test.YtghboandiekiiaaGreatDoorSnl15
import Derived.Test.YtghboandiekiiaaGreatDoorSnl20
namespace Go.Proofs.YtghboandiekiiaaGreatDoor
open Go.RowKit Go.Sort Go.Shelf
open Tm

end Go.Proofs.YtghboandiekiiaaGreatDoor
