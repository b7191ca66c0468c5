/-
 Walks: a number's digits (strconv.FormatUint at base 10), and what the texts take of the library by its contracts.
-/
import Derived.Test.YtmiannlcfommpaaGreatRows
import Derived.Test.YtmiannlcfommpaaGreatCen04
import Derived.Test.YtmiannlcfommpaaGreatCen01
import Derived.Lib.ItoaMem
import Derived.BigCall
import Derived.BigGuard
namespace Go.Proofs.YtmiannlcfommpaaGreat
open Go.RowKit Go.Sort

end Go.Proofs.YtmiannlcfommpaaGreat
