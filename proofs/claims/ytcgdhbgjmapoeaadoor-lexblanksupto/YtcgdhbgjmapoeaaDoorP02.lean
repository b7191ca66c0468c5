/-
 Plain numbers and their decimal texts: pieces of nine digits.
-/
import Derived.Test.YtcgdhbgjmapoeaaDoorP00
import Derived.Lib.ItoaNum
import Derived.Lib.Repeat
namespace Go.Proofs.YtcgdhbgjmapoeaaDoor

end Go.Proofs.YtcgdhbgjmapoeaaDoor
