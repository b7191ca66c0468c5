/-
 Layer 2: numbers as words of the machine; how they stand.
-/
import Derived.Test.YtbgpddlcfiiiaaaGreatDoorSbm14
import Derived.Laws.BitsAllLaws
import Derived.Deep.LoopGhost
import Derived.Deep.DeepCutAuto
namespace Go.Proofs.YtbgpddlcfiiiaaaGreatDoor
open Go.RowKit

end Go.Proofs.YtbgpddlcfiiiaaaGreatDoor
