/-
 Plain numbers and their decimal texts: pieces of nine digits.
-/
import Derived.Test.YtdepidmmanjlhaaGreatPno00
import Derived.Lib.ItoaNum
import Derived.Lib.Repeat
namespace Go.Proofs.YtdepidmmanjlhaaGreat

end Go.Proofs.YtdepidmmanjlhaaGreat
