/-
 Several texts in one: YZ,YZ2,YZ3.
-/
import Derived.Test.YtcfmkjegolpgaaaGreatDoorP25
import Derived.Test.YtcfmkjegolpgaaaGreatDoorP28
import Derived.Laws.AppendOwnNone
namespace Go.Proofs.YtcfmkjegolpgaaaGreatDoor
open Go.RowKit Go.Sort Go.Shelf
open Tm


end Go.Proofs.YtcfmkjegolpgaaaGreatDoor

namespace Go.Proofs.YtcfmkjegolpgaaaGreatDoor
open Go.RowKit Go.Sort Go.Shelf
open Tm At

end Go.Proofs.YtcfmkjegolpgaaaGreatDoor
