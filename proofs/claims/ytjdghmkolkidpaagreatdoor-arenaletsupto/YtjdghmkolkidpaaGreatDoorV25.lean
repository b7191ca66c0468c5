/-
 Layer 5: does a term stand as it should? The readings; Valid.
-/
import Derived.Test.YtjdghmkolkidpaaGreatDoorV15
import Derived.Test.YtjdghmkolkidpaaGreatDoorV20
namespace Go.Proofs.YtjdghmkolkidpaaGreatDoor
open Go.RowKit Go.Sort Go.Shelf
open Tm

end Go.Proofs.YtjdghmkolkidpaaGreatDoor
