/-
 Walks of the reference package: DivMod.
-/
import Derived.Test.YtjdghmkolkidpaaGreatDoorV13
import Derived.Deep.DeepCutAuto
import Derived.Deep.RegionHeld3
namespace Go.Proofs.YtjdghmkolkidpaaGreatDoor
open Go.RowKit

end Go.Proofs.YtjdghmkolkidpaaGreatDoor
