/-
 Several texts in one: YO,YQ.
-/
import Derived.Test.YtbgpddlcfiiiaaaGreatDoorSbm22
import Derived.Test.YtbgpddlcfiiiaaaGreatDoorSbm18
namespace Go.Proofs.YtbgpddlcfiiiaaaGreatDoor
open Go.RowKit Go.Sort Go.Shelf
open Tm


end Go.Proofs.YtbgpddlcfiiiaaaGreatDoor
