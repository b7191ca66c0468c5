/-
 Walks: a number's digits (strconv.FormatUint at base 10),and what the texts take of the library by its contracts.
-/
import Derived.Test.YtaafoppaepcaeaaGreatRows
import Derived.Test.YtaafoppaepcaeaaGreatCd04
import Derived.Test.YtaafoppaepcaeaaGreatCd01
import Derived.Lib.ItoaMem
import Derived.BigCall
import Derived.BigGuard
namespace Go.Proofs.YtaafoppaepcaeaaGreat
open Go.RowKit Go.Sort

end Go.Proofs.YtaafoppaepcaeaaGreat
