/-
  Layer 3: the reference's bytes and names.
-/
import Derived.Test.YtnikdfmdcoidmabDoorXC
namespace Go.Proofs.YtnikdfmdcoidmabDoor
open Go.RowKit Go.Shelf

end Go.Proofs.YtnikdfmdcoidmabDoor
