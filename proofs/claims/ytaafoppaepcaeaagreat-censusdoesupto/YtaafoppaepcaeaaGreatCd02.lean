/-
 Plain numbers and their decimal texts: pieces of nine digits.
-/
import Derived.Test.YtaafoppaepcaeaaGreatCd00
import Derived.Lib.ItoaNum
import Derived.Lib.Repeat
namespace Go.Proofs.YtaafoppaepcaeaaGreat

end Go.Proofs.YtaafoppaepcaeaaGreat
