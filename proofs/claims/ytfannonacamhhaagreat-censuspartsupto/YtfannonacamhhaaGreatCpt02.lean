/-
 Plain numbers and their decimal texts: pieces of nine digits.
-/
import Derived.Test.YtfannonacamhhaaGreatCpt00
import Derived.Lib.ItoaNum
import Derived.Lib.Repeat
namespace Go.Proofs.YtfannonacamhhaaGreat

end Go.Proofs.YtfannonacamhhaaGreat
