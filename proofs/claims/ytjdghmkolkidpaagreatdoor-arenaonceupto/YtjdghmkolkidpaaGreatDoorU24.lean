/-
 Several texts in one: YO, YQ.
-/
import Derived.Test.YtjdghmkolkidpaaGreatDoorU23
import Derived.Test.YtjdghmkolkidpaaGreatDoorU22
import Derived.Test.YtjdghmkolkidpaaGreatDoorU20
namespace Go.Proofs.YtjdghmkolkidpaaGreatDoor
open Go.RowKit Go.Sort Go.Shelf
open Tm

end Go.Proofs.YtjdghmkolkidpaaGreatDoor

namespace Go.Proofs.YtjdghmkolkidpaaGreatDoor
open Go.RowKit Go.Sort Go.Shelf
open Tm

end Go.Proofs.YtjdghmkolkidpaaGreatDoor
