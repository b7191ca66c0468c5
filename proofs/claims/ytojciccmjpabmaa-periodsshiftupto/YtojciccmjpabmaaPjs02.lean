/-
 Plain numbers and their decimal texts: pieces of nine digits.
-/
import Derived.Test.YtojciccmjpabmaaPjs00
import Derived.Lib.ItoaNum
import Derived.Lib.Repeat
namespace Go.Proofs.Ytojciccmjpabmaa

end Go.Proofs.Ytojciccmjpabmaa
