/-
  Several texts in one: YD, YE.
-/
import Derived.Test.YtjhhknfnaobmiaaGreatDoorJ5
import Derived.Test.YtjhhknfnaobmiaaGreatDoorJ20
namespace Go.Proofs.YtjhhknfnaobmiaaGreatDoor
open Go.RowKit Go.Sort Go.Shelf
open Tm

end Go.Proofs.YtjhhknfnaobmiaaGreatDoor

namespace Go.Proofs.YtjhhknfnaobmiaaGreatDoor
open Go.RowKit Go.Sort Go.Shelf
open Tm

end Go.Proofs.YtjhhknfnaobmiaaGreatDoor
