/-
 Walks of the reference package: DivMod.
-/
import Derived.Test.YtllfelooahplhaaGreatDoorSbn13
import Derived.Deep.DeepCutAuto
import Derived.Deep.RegionHeld3
namespace Go.Proofs.YtllfelooahplhaaGreatDoor
open Go.RowKit

end Go.Proofs.YtllfelooahplhaaGreatDoor
