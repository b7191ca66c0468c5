/-
 Walks: a number's digits (strconv.FormatUint at base 10), and what the texts take of the library by its contracts.
-/
import Derived.Test.YtagjfhipjbpoiaaRows
import Derived.Test.YtagjfhipjbpoiaaQ04
import Derived.Test.YtagjfhipjbpoiaaQ01
import Derived.Lib.ItoaMem
import Derived.BigCall
import Derived.BigGuard
namespace Go.Proofs.Ytagjfhipjbpoiaa
open Go.RowKit Go.Sort

end Go.Proofs.Ytagjfhipjbpoiaa
