/-
 Several texts in one: YO,YQ.
-/
import Derived.Test.YtghboandiekiiaaGreatDoorSnl23
import Derived.Test.YtghboandiekiiaaGreatDoorSnl24
import Derived.Test.YtghboandiekiiaaGreatDoorSnl20
namespace Go.Proofs.YtghboandiekiiaaGreatDoor
open Go.RowKit Go.Sort Go.Shelf
open Tm


end Go.Proofs.YtghboandiekiiaaGreatDoor
