/-
  Layer 2: the reference's Neg, Abs, Add, Sub, Mul.
-/
import Derived.Test.YtpjngmllbkcclabZ4
import Derived.Test.YtpjngmllbkcclabR6
namespace Go.Proofs.Ytpjngmllbkcclab
open Go.RowKit

theorem zm_of {s : Bool} {a : Option Addr} {l c : Nat} {n : Int} {w : World} (h : Nm w a l c n) : Zm w s a l c (sg s n) := ⟨n, h, rfl⟩
end Go.Proofs.Ytpjngmllbkcclab
