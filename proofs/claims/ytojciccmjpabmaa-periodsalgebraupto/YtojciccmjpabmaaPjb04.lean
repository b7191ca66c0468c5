/-
 Walks: a number's digits (strconv.FormatUint at base 10), and what the texts take of the library by its contracts.
-/
import Derived.Test.YtojciccmjpabmaaRows
import Derived.Test.YtojciccmjpabmaaPjb03
import Derived.Test.YtojciccmjpabmaaPjb01
import Derived.Lib.ItoaMem
import Derived.BigCall
import Derived.BigGuard
namespace Go.Proofs.Ytojciccmjpabmaa
open Go.RowKit Go.Sort

end Go.Proofs.Ytojciccmjpabmaa
