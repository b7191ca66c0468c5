/-
 Walks: a number's digits (strconv.FormatUint at base 10), and what the texts take of the library by its contracts.
-/
import Derived.Test.YtfannonacamhhaaGreatRows
import Derived.Test.YtfannonacamhhaaGreatCpt04
import Derived.Test.YtfannonacamhhaaGreatCpt01
import Derived.Lib.ItoaMem
import Derived.BigCall
import Derived.BigGuard
namespace Go.Proofs.YtfannonacamhhaaGreat
open Go.RowKit Go.Sort

end Go.Proofs.YtfannonacamhhaaGreat
