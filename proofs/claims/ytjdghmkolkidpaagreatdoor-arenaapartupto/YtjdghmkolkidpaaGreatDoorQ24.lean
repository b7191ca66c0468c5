/-
 Several texts in one: YO, YQ.
-/
import Derived.Test.YtjdghmkolkidpaaGreatDoorQ23
import Derived.Test.YtjdghmkolkidpaaGreatDoorQ22
import Derived.Test.YtjdghmkolkidpaaGreatDoorQ20
namespace Go.Proofs.YtjdghmkolkidpaaGreatDoor
open Go.RowKit Go.Sort Go.Shelf
open Tm

end Go.Proofs.YtjdghmkolkidpaaGreatDoor

namespace Go.Proofs.YtjdghmkolkidpaaGreatDoor
open Go.RowKit Go.Sort Go.Shelf
open Tm

end Go.Proofs.YtjdghmkolkidpaaGreatDoor
