/-
 Layer 2: numbers as words of the machine; how they stand.
-/
import Derived.Test.YtepdckgfolkjjaaGreatDoorR10
import Derived.Laws.BitsAllLaws
import Derived.Deep.LoopGhost
import Derived.Deep.DeepCutAuto
namespace Go.Proofs.YtepdckgfolkjjaaGreatDoor
open Go.RowKit

end Go.Proofs.YtepdckgfolkjjaaGreatDoor
