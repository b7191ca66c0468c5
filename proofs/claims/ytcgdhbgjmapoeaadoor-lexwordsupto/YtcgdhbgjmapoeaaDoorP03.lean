/-
 Where this program bears the library's functions that the walks take by their contracts: layings, written by the kit's own tool, cut to what is used.
-/
import Derived.Shelf.Strings.Builder1
import Derived.Shelf.Small.Bits
import Derived.Shelf.Strconv.Itoa1
import Derived.Shelf.Strconv.Itoa2
import Derived.Shelf.Strings.Repeat
import Derived.Test.YtcgdhbgjmapoeaaDoorProg
namespace Go.Proofs
open Go.Shelf

end Go.Proofs
