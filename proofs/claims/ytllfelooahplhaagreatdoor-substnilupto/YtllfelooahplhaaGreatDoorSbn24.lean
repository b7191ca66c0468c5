/-
 Several texts in one: YO,YQ.
-/
import Derived.Test.YtllfelooahplhaaGreatDoorSbn23
import Derived.Test.YtllfelooahplhaaGreatDoorSbn22
import Derived.Test.YtllfelooahplhaaGreatDoorSbn20
namespace Go.Proofs.YtllfelooahplhaaGreatDoor
open Go.RowKit Go.Sort Go.Shelf
open Tm


end Go.Proofs.YtllfelooahplhaaGreatDoor
