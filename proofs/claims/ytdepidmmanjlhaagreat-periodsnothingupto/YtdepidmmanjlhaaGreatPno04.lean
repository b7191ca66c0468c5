/-
 Walks: a number's digits (strconv.FormatUint at base 10), and what the texts take of the library by its contracts.
-/
import Derived.Test.YtdepidmmanjlhaaGreatRows
import Derived.Test.YtdepidmmanjlhaaGreatPno03
import Derived.Test.YtdepidmmanjlhaaGreatPno01
import Derived.Lib.ItoaMem
import Derived.BigCall
import Derived.BigGuard
namespace Go.Proofs.YtdepidmmanjlhaaGreat
open Go.RowKit Go.Sort

end Go.Proofs.YtdepidmmanjlhaaGreat
