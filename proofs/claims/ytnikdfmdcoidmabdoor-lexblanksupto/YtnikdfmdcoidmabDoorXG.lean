/-
  Layer 3: the reference's words.
-/
import Derived.Test.YtnikdfmdcoidmabDoorXF
namespace Go.Proofs.YtnikdfmdcoidmabDoor
open Go.RowKit Go.Shelf

end Go.Proofs.YtnikdfmdcoidmabDoor
