/-
  Layer 3: the reference's words, or the error.
-/
import Derived.Test.YtnikdfmdcoidmabDoorXH
namespace Go.Proofs.YtnikdfmdcoidmabDoor
open Go.RowKit Go.Shelf

end Go.Proofs.YtnikdfmdcoidmabDoor
