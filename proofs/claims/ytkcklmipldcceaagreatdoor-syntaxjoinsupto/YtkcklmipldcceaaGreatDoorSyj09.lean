/-
 Several texts in one: R1, R3.
-/
import Derived.Test.YtkcklmipldcceaaGreatDoorSyj07
import Derived.Laws.CopyOwn
namespace Go.Proofs.YtkcklmipldcceaaGreatDoor
open Go.RowKit

end Go.Proofs.YtkcklmipldcceaaGreatDoor

namespace Go.Proofs.YtkcklmipldcceaaGreatDoor
open Go.RowKit

end Go.Proofs.YtkcklmipldcceaaGreatDoor
