/-
 Walks: a number's digits (strconv.FormatUint at base 10), and what the texts take of the library by its contracts.
-/
import Derived.Test.YtojciccmjpabmaaRows
import Derived.Test.YtojciccmjpabmaaPjs03
import Derived.Test.YtojciccmjpabmaaPjs01
import Derived.Lib.ItoaMem
import Derived.BigCall
import Derived.BigGuard
namespace Go.Proofs.Ytojciccmjpabmaa
open Go.RowKit Go.Sort

end Go.Proofs.Ytojciccmjpabmaa
