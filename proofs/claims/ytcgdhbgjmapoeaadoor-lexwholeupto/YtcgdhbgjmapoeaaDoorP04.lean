/-
 Walks: a number's digits (strconv.FormatUint at base 10), and what the texts take of the library by its contracts.
-/
import Derived.Test.YtcgdhbgjmapoeaaDoorRows
import Derived.Test.YtcgdhbgjmapoeaaDoorP03
import Derived.Test.YtcgdhbgjmapoeaaDoorP01
import Derived.Lib.ItoaMem
import Derived.BigCall
import Derived.BigGuard
namespace Go.Proofs.YtcgdhbgjmapoeaaDoor
open Go.RowKit Go.Sort

end Go.Proofs.YtcgdhbgjmapoeaaDoor
