/-
  Walks of the reference package: Times.
-/
import Derived.Test.YtpjngmllbkcclabR3
namespace Go.Proofs.Ytpjngmllbkcclab
open Go.RowKit

end Go.Proofs.Ytpjngmllbkcclab
