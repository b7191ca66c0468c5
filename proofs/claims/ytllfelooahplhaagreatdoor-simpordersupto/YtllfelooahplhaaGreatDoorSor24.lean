/-
 Several texts in one: YO,YQ.
-/
import Derived.Test.YtllfelooahplhaaGreatDoorSor23
import Derived.Test.YtllfelooahplhaaGreatDoorSor22
import Derived.Test.YtllfelooahplhaaGreatDoorSor20
namespace Go.Proofs.YtllfelooahplhaaGreatDoor
open Go.RowKit Go.Sort Go.Shelf
open Tm


end Go.Proofs.YtllfelooahplhaaGreatDoor
