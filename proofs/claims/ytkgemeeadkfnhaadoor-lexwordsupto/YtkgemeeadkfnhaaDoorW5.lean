/-
  Walks: Mul.
-/
import Derived.Test.YtkgemeeadkfnhaaDoorW4
namespace Go.Proofs.YtkgemeeadkfnhaaDoor
open Go.RowKit

theorem run_mk2 (n m : Nat) (hn : n + m ≤ 70368744177664) (u : World) : (Instr.makeSlice 36 (.int .i64 ((n : Int) + (m : Int))) (.int .i64 ((n : Int) + (m : Int)))).run Tryd.prog u =
      .ok (.slice (some ⟨u.heap.size, 0, none⟩) (n + m) (n + m)) (u.alloc (.cells (U (List.replicate (n + m) 0)) 64)) := run_mk (n + m) hn u

end Go.Proofs.YtkgemeeadkfnhaaDoor
