/-
  Layer 2: the reference's DivMod.
-/
import Derived.Test.YtofhodimmeiahaaGreatDoorZ7
import Derived.Test.YtofhodimmeiahaaGreatDoorZ9
import Derived.Test.YtofhodimmeiahaaGreatDoorR7
import Derived.Deep.DeepCutAuto
namespace Go.Proofs.YtofhodimmeiahaaGreatDoor
open Go.RowKit

theorem fd_rest {a b q r : Int} (h : FD a b q r) : FD a b q (a - q * b) := by
  have e : a - q * b = r := by have := h.1; omega
  rw [e]; exact h
/-- three variables, as a region meets them -/
theorem zc3 {wb w' : World} {p1 p2 p3 l1 c1 l2 c2 l3 c3 : Nat} {s1 s2 s3 : Bool} {a1 a2 a3 : Option Addr} (x1 : ZB wb p1 s1 a1 l1 c1) (x2 : ZB wb p2 s2 a2 l2 c2) (x3 : ZB wb p3 s3 a3 l3 c3) (k : Below wb.heap.size wb w') :
    w'.cell? ⟨p1, 0, none⟩ = some (.bool s1) ∧ w'.cell? ⟨p1, 1, none⟩ = some (.slice a1 l1 c1) ∧ w'.cell? ⟨p2, 0, none⟩ = some (.bool s2) ∧ w'.cell? ⟨p2, 1, none⟩ = some (.slice a2 l2 c2) ∧ w'.cell? ⟨p3, 0, none⟩ = some (.bool s3) ∧ w'.cell? ⟨p3, 1, none⟩ = some (.slice a3 l3 c3) :=
  ⟨(x1.below k).c0, (x1.below k).c1, (x2.below k).c0, (x2.below k).c1, (x3.below k).c0, (x3.below k).c1⟩
theorem zc3r {wb w' : World} {p1 p2 p3 l1 c1 l2 c2 l3 c3 r : Nat} {s1 s2 s3 : Bool} {a1 a2 a3 : Option Addr} {v v' : Value} (x1 : ZB wb p1 s1 a1 l1 c1) (x2 : ZB wb p2 s2 a2 l2 c2) (x3 : ZB wb p3 s3 a3 l3 c3) (h1 : p1 ≠ r) (h2 : p2 ≠ r) (h3 : p3 ≠ r) (k : Below wb.heap.size wb w') :
    ((w'.setCell ⟨r, 0, none⟩ v).setCell ⟨r, 1, none⟩ v').cell? ⟨p1, 0, none⟩ = some (.bool s1) ∧ ((w'.setCell ⟨r, 0, none⟩ v).setCell ⟨r, 1, none⟩ v').cell? ⟨p1, 1, none⟩ = some (.slice a1 l1 c1) ∧ ((w'.setCell ⟨r, 0, none⟩ v).setCell ⟨r, 1, none⟩ v').cell? ⟨p2, 0, none⟩ = some (.bool s2) ∧ ((w'.setCell ⟨r, 0, none⟩ v).setCell ⟨r, 1, none⟩ v').cell? ⟨p2, 1, none⟩ = some (.slice a2 l2 c2) ∧ ((w'.setCell ⟨r, 0, none⟩ v).setCell ⟨r, 1, none⟩ v').cell? ⟨p3, 0, none⟩ = some (.bool s3) ∧ ((w'.setCell ⟨r, 0, none⟩ v).setCell ⟨r, 1, none⟩ v').cell? ⟨p3, 1, none⟩ = some (.slice a3 l3 c3) := by
  have y1 := (x1.below k).only (only2 r w' v v') h1
  have y2 := (x2.below k).only (only2 r w' v v') h2
  have y3 := (x3.below k).only (only2 r w' v v') h3
  exact ⟨y1.c0, y1.c1, y2.c0, y2.c1, y3.c0, y3.c1⟩
theorem zc3t {wb w' : World} {p1 p2 p3 l1 c1 l2 c2 l3 c3 r t : Nat} {s1 s2 s3 : Bool} {a1 a2 a3 : Option Addr} {v v' u u' : Value} (x1 : ZB wb p1 s1 a1 l1 c1) (x2 : ZB wb p2 s2 a2 l2 c2) (x3 : ZB wb p3 s3 a3 l3 c3) (h1 : p1 ≠ r) (h2 : p2 ≠ r) (h3 : p3 ≠ r) (g1 : p1 ≠ t) (g2 : p2 ≠ t) (g3 : p3 ≠ t) (k : Below wb.heap.size wb w') :
    ((((w'.setCell ⟨r, 0, none⟩ v).setCell ⟨r, 1, none⟩ v').setCell ⟨t, 0, none⟩ u).setCell ⟨t, 1, none⟩ u').cell? ⟨p1, 0, none⟩ = some (.bool s1) ∧ ((((w'.setCell ⟨r, 0, none⟩ v).setCell ⟨r, 1, none⟩ v').setCell ⟨t, 0, none⟩ u).setCell ⟨t, 1, none⟩ u').cell? ⟨p1, 1, none⟩ = some (.slice a1 l1 c1) ∧ ((((w'.setCell ⟨r, 0, none⟩ v).setCell ⟨r, 1, none⟩ v').setCell ⟨t, 0, none⟩ u).setCell ⟨t, 1, none⟩ u').cell? ⟨p2, 0, none⟩ = some (.bool s2) ∧ ((((w'.setCell ⟨r, 0, none⟩ v).setCell ⟨r, 1, none⟩ v').setCell ⟨t, 0, none⟩ u).setCell ⟨t, 1, none⟩ u').cell? ⟨p2, 1, none⟩ = some (.slice a2 l2 c2) ∧ ((((w'.setCell ⟨r, 0, none⟩ v).setCell ⟨r, 1, none⟩ v').setCell ⟨t, 0, none⟩ u).setCell ⟨t, 1, none⟩ u').cell? ⟨p3, 0, none⟩ = some (.bool s3) ∧ ((((w'.setCell ⟨r, 0, none⟩ v).setCell ⟨r, 1, none⟩ v').setCell ⟨t, 0, none⟩ u).setCell ⟨t, 1, none⟩ u').cell? ⟨p3, 1, none⟩ = some (.slice a3 l3 c3) := by
  have y1 := ((x1.below k).only (only2 r w' v v') h1).only (only2 t _ u u') g1
  have y2 := ((x2.below k).only (only2 r w' v v') h2).only (only2 t _ u u') g2
  have y3 := ((x3.below k).only (only2 r w' v v') h3).only (only2 t _ u u') g3
  exact ⟨y1.c0, y1.c1, y2.c0, y2.c1, y3.c0, y3.c1⟩

theorem zn_nil (w : World) : Zn w false none 0 0 0 := ⟨0, ⟨[], ⟨rfl, by decide, by decide, fun z hz => (by cases hz), Or.inl ⟨rfl, rfl, rfl⟩⟩, canon_nil, rfl⟩, rfl, fun h => by cases h⟩
theorem zdivmod0z {s1 s2 : Bool} {a1 a2 : Option Addr} {l1 c1 l2 c2 : Nat} {z1 z2 : Int} {w : World} (h1 : Zm w s1 a1 l1 c1 z1) (h2 : Zm w s2 a2 l2 c2 z2) (hz : z2 = 0) :
    Calls Tryz.prog 30 #[.agg #[.bool s1, .slice a1 l1 c1], .agg #[.bool s2, .slice a2 l2 c2]] w fun e w' => ∃ sq aq lq cq sr ar lr cr, e = .returned (.tuple #[.agg #[.bool sq, .slice aq lq cq], .agg #[.bool sr, .slice ar lr cr], .int .i64 11]) ∧ Zn w' sq aq lq cq 0 ∧ Zn w' sr ar lr cr 0 ∧ Below w.heap.size w w' ∧ lq ≤ 2 ∧ lr ≤ 2 := by
  refine (zdivmod0 h1 h2 hz).mono ?_
  rintro e w' ⟨rfl, hb⟩
  exact ⟨false, none, 0, 0, false, none, 0, 0, rfl, zn_nil _, zn_nil _, hb, by decide, by decide⟩
end Go.Proofs.YtofhodimmeiahaaGreatDoor
