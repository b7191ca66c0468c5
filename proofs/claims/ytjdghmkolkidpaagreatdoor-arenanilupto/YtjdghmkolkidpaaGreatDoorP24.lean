/-
 Several texts in one: YO, YQ.
-/
import Derived.Test.YtjdghmkolkidpaaGreatDoorP23
import Derived.Test.YtjdghmkolkidpaaGreatDoorP22
import Derived.Test.YtjdghmkolkidpaaGreatDoorP20
namespace Go.Proofs.YtjdghmkolkidpaaGreatDoor
open Go.RowKit Go.Sort Go.Shelf
open Tm

end Go.Proofs.YtjdghmkolkidpaaGreatDoor

namespace Go.Proofs.YtjdghmkolkidpaaGreatDoor
open Go.RowKit Go.Sort Go.Shelf
open Tm

end Go.Proofs.YtjdghmkolkidpaaGreatDoor
