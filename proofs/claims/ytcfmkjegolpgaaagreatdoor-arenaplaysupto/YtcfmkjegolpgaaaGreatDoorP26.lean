/-
 Several texts in one: YO,YQ.
-/
import Derived.Test.YtcfmkjegolpgaaaGreatDoorP25
import Derived.Test.YtcfmkjegolpgaaaGreatDoorP24
import Derived.Test.YtcfmkjegolpgaaaGreatDoorP21
namespace Go.Proofs.YtcfmkjegolpgaaaGreatDoor
open Go.RowKit Go.Sort Go.Shelf
open Tm


theorem ek6 {wr w' : World} {b0 b1 b2 b3 i0 i1 i2 i3 i4 i5 : Nat} {v0 v1 v2 v3 v4 v5 : Value} (h0 : wr.cell? ⟨b0,i0,none⟩ = some v0) (l0 : b0 < wr.heap.size) (h1 : wr.cell? ⟨b1,i1,none⟩ = some v1) (l1 : b1 < wr.heap.size) (h2 : wr.cell? ⟨b2,i2,none⟩ = some v2) (h3 : wr.cell? ⟨b2,i3,none⟩ = some v3) (l2 : b2 < wr.heap.size) (h4 : wr.cell? ⟨b3,i4,none⟩ = some v4) (h5 : wr.cell? ⟨b3,i5,none⟩ = some v5) (l3 : b3 < wr.heap.size) (k : Below wr.heap.size wr w') :
  w'.cell? ⟨b0,i0,none⟩ = some v0∧w'.cell? ⟨b1,i1,none⟩ = some v1∧w'.cell? ⟨b2,i2,none⟩ = some v2∧w'.cell? ⟨b2,i3,none⟩ = some v3∧w'.cell? ⟨b3,i4,none⟩ = some v4∧w'.cell? ⟨b3,i5,none⟩ = some v5∧Below wr.heap.size wr w' :=
 ⟨(k.cell (p:=⟨b0,i0,none⟩) l0).trans h0,(k.cell (p:=⟨b1,i1,none⟩) l1).trans h1,(k.cell (p:=⟨b2,i2,none⟩) l2).trans h2,(k.cell (p:=⟨b2,i3,none⟩) l2).trans h3,(k.cell (p:=⟨b3,i4,none⟩) l3).trans h4,(k.cell (p:=⟨b3,i5,none⟩) l3).trans h5,k⟩
theorem cmpI_self (a : Int) : cmpI a a = 0:=by unfold cmpI; simp
end Go.Proofs.YtcfmkjegolpgaaaGreatDoor
