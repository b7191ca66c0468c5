/-
  Walks of the reference package: Times.
-/
import Derived.Test.YtnikdfmdcoidmabDoorR3
namespace Go.Proofs.YtnikdfmdcoidmabDoor
open Go.RowKit

end Go.Proofs.YtnikdfmdcoidmabDoor
