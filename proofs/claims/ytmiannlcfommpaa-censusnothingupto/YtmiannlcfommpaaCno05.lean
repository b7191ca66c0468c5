/-
 Walks: a number's digits (strconv.FormatUint at base 10), and what the texts take of the library by its contracts.
-/
import Derived.Test.YtmiannlcfommpaaRows
import Derived.Test.YtmiannlcfommpaaCno04
import Derived.Test.YtmiannlcfommpaaCno01
import Derived.Lib.ItoaMem
import Derived.BigCall
import Derived.BigGuard
namespace Go.Proofs.Ytmiannlcfommpaa
open Go.RowKit Go.Sort

end Go.Proofs.Ytmiannlcfommpaa
