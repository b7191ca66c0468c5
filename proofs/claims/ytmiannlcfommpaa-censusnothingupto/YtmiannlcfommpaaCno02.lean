/-
 Plain numbers and their decimal texts: pieces of nine digits.
-/
import Derived.Test.YtmiannlcfommpaaCno00
import Derived.Lib.ItoaNum
import Derived.Lib.Repeat
namespace Go.Proofs.Ytmiannlcfommpaa

end Go.Proofs.Ytmiannlcfommpaa
