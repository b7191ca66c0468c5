/-
 Walks of the reference package: DivMod.
-/
import Derived.Test.YtghboandiekiiaaGreatDoorSnl13
import Derived.Deep.DeepCutAuto
import Derived.Deep.RegionHeld3
namespace Go.Proofs.YtghboandiekiiaaGreatDoor
open Go.RowKit

end Go.Proofs.YtghboandiekiiaaGreatDoor
