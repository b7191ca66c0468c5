/-
  Walks of the reference package: Times.
-/
import Derived.Test.YtofhodimmeiahaaGreatDoorR3
namespace Go.Proofs.YtofhodimmeiahaaGreatDoor
open Go.RowKit

end Go.Proofs.YtofhodimmeiahaaGreatDoor
