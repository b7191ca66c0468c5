/-
 What was there in a world is there still: the steps by which a region goes on.
-/
import Derived.Test.YtjhhknfnaobmiaaGreatDoorK1
namespace Go.Proofs.YtjhhknfnaobmiaaGreatDoor
open Go.RowKit

theorem below_alloc' {w0 w : World} (h : Below w0.heap.size w0 w) (o : Obj) : Below w0.heap.size w0 (w.alloc o) := h.alloc h.size o

/-- the same, of any base: what was there at w1 is there at w2 -/
theorem grow_alloc {w0 w : World} (h : Below w0.heap.size w0 w) (o : Obj) : Below w0.heap.size w0 (w.alloc o) := below_alloc' h o
theorem grow_drew {w0 w : World} (h : Below w0.heap.size w0 w) : Below w0.heap.size w0 w.drew := Below.drew h
theorem grow_drewN {w0 w : World} (h : Below w0.heap.size w0 w) (n : Nat) : Below w0.heap.size w0 (w.drewN n) := Below.trans h (below_drewN _ _ _)
theorem grow_step {w0 w1 w2 : World} (k : Below w1.heap.size w1 w2) (h : Below w0.heap.size w0 w1) : Below w0.heap.size w0 w2 := h.trans (k.mono h.size)
end Go.Proofs.YtjhhknfnaobmiaaGreatDoor
