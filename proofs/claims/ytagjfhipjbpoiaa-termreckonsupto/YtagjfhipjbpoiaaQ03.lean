/-
 Plain numbers and their decimal texts: pieces of nine digits.
-/
import Derived.Test.YtagjfhipjbpoiaaQ00
import Derived.Lib.ItoaNum
import Derived.Lib.Repeat
namespace Go.Proofs.Ytagjfhipjbpoiaa

end Go.Proofs.Ytagjfhipjbpoiaa
