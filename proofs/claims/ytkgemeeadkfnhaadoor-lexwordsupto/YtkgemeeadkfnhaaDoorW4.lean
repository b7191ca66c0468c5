/-
  Walks: Sub.
-/
import Derived.Test.YtkgemeeadkfnhaaDoorW3
namespace Go.Proofs.YtkgemeeadkfnhaaDoor
open Go.RowKit

theorem below_drewN (B : Nat) (w : World) (q : Nat) : Below B w (w.drewN q) := ⟨rfl, rfl, rfl, Nat.le_refl _, fun _ _ => rfl⟩
theorem below_alloc_drewN (w : World) (q : Nat) (o : Obj) : Below w.heap.size w ((w.drewN q).alloc o) :=
  ⟨rfl, rfl, rfl, by simp, fun k hk => Below.heap_alloc (w.drewN q) o k hk⟩

end Go.Proofs.YtkgemeeadkfnhaaDoor
