/-
 Several texts in one: R1, R3.
-/
import Derived.Test.YtgpaajolcpgeaaaGreatDoorSrd07
import Derived.Laws.CopyOwn
namespace Go.Proofs.YtgpaajolcpgeaaaGreatDoor
open Go.RowKit

end Go.Proofs.YtgpaajolcpgeaaaGreatDoor

namespace Go.Proofs.YtgpaajolcpgeaaaGreatDoor
open Go.RowKit

end Go.Proofs.YtgpaajolcpgeaaaGreatDoor
