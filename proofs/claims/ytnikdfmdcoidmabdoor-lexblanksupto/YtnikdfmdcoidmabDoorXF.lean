/-
  Layer 3: the reference's rows.
-/
import Derived.Test.YtnikdfmdcoidmabDoorXE
namespace Go.Proofs.YtnikdfmdcoidmabDoor
open Go.RowKit Go.Shelf

/-- a block of five cells -/
def T5 (ty : TypeId) (w : World) (b : Nat) (v0 v1 v2 v3 v4 : Value) : Prop := w.heap[b]? = some (.cells #[v0, v1, v2, v3, v4] ty (0, 0))
section
variable {ty : TypeId} {w w' : World} {b : Nat} {v0 v1 v2 v3 v4 : Value}
theorem T5.c0 (h : T5 ty w b v0 v1 v2 v3 v4) : w.cell? ⟨b, 0, none⟩ = some v0 := cell_of_row w b 0 _ _ (0, 0) h
theorem T5.c1 (h : T5 ty w b v0 v1 v2 v3 v4) : w.cell? ⟨b, 1, none⟩ = some v1 := cell_of_row w b 1 _ _ (0, 0) h
theorem T5.c2 (h : T5 ty w b v0 v1 v2 v3 v4) : w.cell? ⟨b, 2, none⟩ = some v2 := cell_of_row w b 2 _ _ (0, 0) h
theorem T5.c3 (h : T5 ty w b v0 v1 v2 v3 v4) : w.cell? ⟨b, 3, none⟩ = some v3 := cell_of_row w b 3 _ _ (0, 0) h
theorem T5.c4 (h : T5 ty w b v0 v1 v2 v3 v4) : w.cell? ⟨b, 4, none⟩ = some v4 := cell_of_row w b 4 _ _ (0, 0) h
theorem T5.f (h : T5 ty w b v0 v1 v2 v3 v4) (i : Nat) : w.frozen? ⟨b, i, none⟩ = false := frozen_of_row w b i _ _ h
theorem T5.lt (h : T5 ty w b v0 v1 v2 v3 v4) : b < w.heap.size := (Array.getElem?_eq_some_iff.1 h).1
theorem T5.below (h : T5 ty w b v0 v1 v2 v3 v4) (hb : Below w.heap.size w w') : T5 ty w' b v0 v1 v2 v3 v4 := (hb.block b h.lt).trans h
theorem t5_new (ty : TypeId) (w : World) (v0 v1 v2 v3 v4 : Value) : T5 ty (w.alloc (.cells #[v0, v1, v2, v3, v4] ty)) w.heap.size v0 v1 v2 v3 v4 := heap_alloc_new w _
theorem T5.fin (h : T5 ty w b v0 v1 v2 v3 v4) (u0 u1 u2 u3 u4 : Value) : T5 ty (tokSet w b u0 u1 u2 u3 u4) b u0 u1 u2 u3 u4 := by
  have y0 := heap_setCell_same w b 0 _ ty u0 h
  have y1 := heap_setCell_same _ b 1 _ ty u1 y0
  have y2 := heap_setCell_same _ b 2 _ ty u2 y1
  have y3 := heap_setCell_same _ b 3 _ ty u3 y2
  have y4 := heap_setCell_same _ b 4 _ ty u4 y3
  unfold T5 tokSet
  simpa using y4
end

end Go.Proofs.YtnikdfmdcoidmabDoor
