/-
 Several texts in one: YO, YQ.
-/
import Derived.Test.YtjdghmkolkidpaaGreatDoorV23
import Derived.Test.YtjdghmkolkidpaaGreatDoorV22
import Derived.Test.YtjdghmkolkidpaaGreatDoorV20
namespace Go.Proofs.YtjdghmkolkidpaaGreatDoor
open Go.RowKit Go.Sort Go.Shelf
open Tm

end Go.Proofs.YtjdghmkolkidpaaGreatDoor

namespace Go.Proofs.YtjdghmkolkidpaaGreatDoor
open Go.RowKit Go.Sort Go.Shelf
open Tm

end Go.Proofs.YtjdghmkolkidpaaGreatDoor
