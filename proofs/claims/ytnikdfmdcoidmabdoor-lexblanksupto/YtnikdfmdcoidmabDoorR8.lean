/-
  Walks of the reference package: Parse.
-/
import Derived.Test.YtnikdfmdcoidmabDoorR5
namespace Go.Proofs.YtnikdfmdcoidmabDoor
open Go.RowKit

end Go.Proofs.YtnikdfmdcoidmabDoor
