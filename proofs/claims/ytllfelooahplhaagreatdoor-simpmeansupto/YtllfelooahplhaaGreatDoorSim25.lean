/-
 Several texts in one: YO,YQ.
-/
import Derived.Test.YtllfelooahplhaaGreatDoorSim24
import Derived.Test.YtllfelooahplhaaGreatDoorSim23
import Derived.Test.YtllfelooahplhaaGreatDoorSim20
namespace Go.Proofs.YtllfelooahplhaaGreatDoor
open Go.RowKit Go.Sort Go.Shelf
open Tm


end Go.Proofs.YtllfelooahplhaaGreatDoor
