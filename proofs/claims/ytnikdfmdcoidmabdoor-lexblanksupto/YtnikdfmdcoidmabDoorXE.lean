/-
  Layer 3: the reference's signs and rows.
-/
import Derived.Test.YtnikdfmdcoidmabDoorXD
import Derived.Test.YtnikdfmdcoidmabDoorXP
import Derived.Test.YtnikdfmdcoidmabDoorR8
namespace Go.Proofs.YtnikdfmdcoidmabDoor
open Go.RowKit Go.Shelf

end Go.Proofs.YtnikdfmdcoidmabDoor
