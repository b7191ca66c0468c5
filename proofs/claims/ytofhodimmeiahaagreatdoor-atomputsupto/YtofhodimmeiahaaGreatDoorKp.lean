/-
  What was there in a world is there still: the steps by which a region goes on.
-/
import Derived.Test.YtofhodimmeiahaaGreatDoorK1
namespace Go.Proofs.YtofhodimmeiahaaGreatDoor
open Go.RowKit

theorem below_alloc' {w0 w : World} (h : Below w0.heap.size w0 w) (o : Obj) : Below w0.heap.size w0 (w.alloc o) := h.alloc h.size o

/-- what was there at w0 is there still -/
def Kept (w0 w : World) : Prop := Below w0.heap.size w0 w
theorem Kept.refl (w : World) : Kept w w := Below.refl _ _
theorem kept_alloc {w0 w : World} (h : Kept w0 w) (o : Obj) : Kept w0 (w.alloc o) := below_alloc' h o
theorem kept_drew {w0 w : World} (h : Kept w0 w) : Kept w0 w.drew := Below.drew h
theorem kept_drewN {w0 w : World} (h : Kept w0 w) (n : Nat) : Kept w0 (w.drewN n) := Below.trans h (below_drewN _ _ _)
theorem kept_step {w0 w1 w2 : World} (k : Below w1.heap.size w1 w2) (h : Kept w0 w1) : Kept w0 w2 := Below.trans h (k.mono h.size)

/-- the same, of any base: what was there at w1 is there at w2 -/
theorem grow_alloc {w0 w : World} (h : Below w0.heap.size w0 w) (o : Obj) : Below w0.heap.size w0 (w.alloc o) := below_alloc' h o
theorem grow_drew {w0 w : World} (h : Below w0.heap.size w0 w) : Below w0.heap.size w0 w.drew := Below.drew h
theorem grow_drewN {w0 w : World} (h : Below w0.heap.size w0 w) (n : Nat) : Below w0.heap.size w0 (w.drewN n) := Below.trans h (below_drewN _ _ _)
theorem grow_step {w0 w1 w2 : World} (k : Below w1.heap.size w1 w2) (h : Below w0.heap.size w0 w1) : Below w0.heap.size w0 w2 := h.trans (k.mono h.size)
end Go.Proofs.YtofhodimmeiahaaGreatDoor
