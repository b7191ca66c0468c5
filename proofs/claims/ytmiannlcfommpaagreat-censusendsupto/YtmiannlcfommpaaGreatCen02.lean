/-
 Plain numbers and their decimal texts: pieces of nine digits.
-/
import Derived.Test.YtmiannlcfommpaaGreatCen00
import Derived.Lib.ItoaNum
import Derived.Lib.Repeat
namespace Go.Proofs.YtmiannlcfommpaaGreat

end Go.Proofs.YtmiannlcfommpaaGreat
