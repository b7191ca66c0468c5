/-
 Walks of the reference package: DivMod.
-/
import Derived.Test.YtagjfhipjbpoiaaQ08
import Derived.Deep.DeepCutAuto
import Derived.Deep.RegionHeld3
namespace Go.Proofs.Ytagjfhipjbpoiaa
open Go.RowKit

end Go.Proofs.Ytagjfhipjbpoiaa
