/-
 Walks of the reference package: DivMod.
-/
import Derived.Test.YtjlkmjonadkkdaaGreatDoorP08
import Derived.Deep.DeepCutAuto
import Derived.Deep.RegionHeld3
namespace Go.Proofs.YtjlkmjonadkkdaaGreatDoor
open Go.RowKit

end Go.Proofs.YtjlkmjonadkkdaaGreatDoor
