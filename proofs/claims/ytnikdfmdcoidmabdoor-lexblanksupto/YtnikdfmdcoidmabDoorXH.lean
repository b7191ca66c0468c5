/-
  Layer 3: the walk of the reference's words.
-/
import Derived.Test.YtnikdfmdcoidmabDoorXG
namespace Go.Proofs.YtnikdfmdcoidmabDoor
open Go.RowKit Go.Shelf

end Go.Proofs.YtnikdfmdcoidmabDoor
