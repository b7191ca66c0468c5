/-
  Layer 7: a step that both meters take.
-/
import Derived.Test.YtofjjpkbildagaaMC
namespace Go.Proofs.Ytofjjpkbildagaa
open Go.RowKit Mt

/-- the block of a step -/
def XB (w : World) (b : Nat) (s : Bool) (N : Int) (a : Option Addr) (l c : Nat) : Prop := w.heap[b]? = some (.cells #[.bool s, .int .i64 N, .slice a l c] 36 (0, 0))
namespace XB
variable {w w' : World} {b : Nat} {s : Bool} {N : Int} {a : Option Addr} {l c : Nat}
theorem lt (h : XB w b s N a l c) : b < w.heap.size := lt_of_block h
theorem c0 (h : XB w b s N a l c) : w.cell? ⟨b, 0, none⟩ = some (.bool s) := cell_of_row w b 0 _ _ (0, 0) h
theorem c1 (h : XB w b s N a l c) : w.cell? ⟨b, 1, none⟩ = some (.int .i64 N) := cell_of_row w b 1 _ _ (0, 0) h
theorem c2 (h : XB w b s N a l c) : w.cell? ⟨b, 2, none⟩ = some (.slice a l c) := cell_of_row w b 2 _ _ (0, 0) h
theorem below (h : XB w b s N a l c) (hb : Below w.heap.size w w') : XB w' b s N a l c := (hb.block b h.lt).trans h
theorem but {b2 : Nat} (h : XB w b s N a l c) (hb : But b2 w w') (hne : b ≠ b2) : XB w' b s N a l c := (hb.block b h.lt hne).trans h
theorem new (w : World) (s : Bool) (N : Int) (a : Option Addr) (l c : Nat) : XB (w.alloc (.cells #[.bool s, .int .i64 N, .slice a l c] 36)) w.heap.size s N a l c := heap_alloc_new w _
end XB


/-- what was there in a world is there still, but for the blocks b and r -/
structure But2 (b r : Nat) (w w' : World) : Prop where
  os : w'.os = w.os
  tape : w'.tape = w.tape
  output : w'.output = w.output
  size : w.heap.size ≤ w'.heap.size
  block : ∀ i, i < w.heap.size → i ≠ b → i ≠ r → w'.heap[i]? = w.heap[i]?
theorem But.left {b r : Nat} {w w' : World} (h : But b w w') : But2 b r w w' := ⟨h.os, h.tape, h.output, h.size, fun i hi hb _ => h.block i hi hb⟩
theorem But.right {b r : Nat} {w w' : World} (h : But r w w') : But2 b r w w' := ⟨h.os, h.tape, h.output, h.size, fun i hi _ hr => h.block i hi hr⟩
theorem But2.trans {b r : Nat} {w w1 w2 : World} (h : But2 b r w w1) (k : But2 b r w1 w2) : But2 b r w w2 :=
  ⟨k.os.trans h.os, k.tape.trans h.tape, k.output.trans h.output, Nat.le_trans h.size k.size, fun i hi hb hr => (k.block i (Nat.lt_of_lt_of_le hi h.size) hb hr).trans (h.block i hi hb hr)⟩
theorem But2.below {b r B : Nat} {w w' : World} (h : But2 b r w w') (hb : B ≤ b) (hr : B ≤ r) (hs : B ≤ w.heap.size) : Below B w w' :=
  ⟨h.os, h.tape, h.output, h.size, fun i hi => h.block i (by omega) (by omega) (by omega)⟩
theorem MB.but2 {w w' : World} {b b1 b2 : Nat} {n k c e : Int} (h : MB w b n k c e) (g : But2 b1 b2 w w') (h1 : b ≠ b1) (h2 : b ≠ b2) : MB w' b n k c e := (g.block b h.lt h1 h2).trans h
theorem RB.but2 {w w' : World} {b b1 b2 : Nat} {n k c e : Int} (h : RB w b n k c e) (g : But2 b1 b2 w w') (h1 : b ≠ b1) (h2 : b ≠ b2) : RB w' b n k c e := (g.block b h.lt h1 h2).trans h
theorem XB.cells {w w' : World} {p b r : Nat} {s : Bool} {N : Int} {a : Option Addr} {l c : Nat} (h : XB w p s N a l c) (hb : p ≠ b) (hr : p ≠ r) (g : But2 b r w w') :
    w'.cell? ⟨p, 0, none⟩ = some (.bool s) ∧ w'.cell? ⟨p, 1, none⟩ = some (.int .i64 N) ∧ w'.cell? ⟨p, 2, none⟩ = some (.slice a l c) := by
  have z : XB w' p s N a l c := (g.block p h.lt hb hr).trans h
  exact ⟨z.c0, z.c1, z.c2⟩

/-- a step of the state -/
def mstep (n k c e : Int) (x : Stp) : Int × Int × Int := if x.1 then mspend n c e x.2.1 else mnode n k c e x.2.2
theorem St7.step {n k c e : Int} (h : St7 n c e) (x : Stp) : St7 n (mstep n k c e x).1 (mstep n k c e x).2.1 := by
  unfold mstep
  split
  · exact h.spend _
  · exact h.node _

set_option maxRecDepth 100000 in
set_option maxHeartbeats 6400000 in
theorem one_n {w : World} {b r : Nat} {n k c e : Int} {x : Stp} {a : Option Addr} {l cc B : Nat} (hM : MB w b n k c e) (hR : RB w r n k c e) (hs : St7 n c e) (hNL : NL w a l x.2.2 B) (hl : l ≤ B) (hB : B ≤ 1048576) (hne : b ≠ r) :
    Calls Try.prog 20 #[.pointer (some ⟨b, 0, none⟩), .pointer (some ⟨r, 0, none⟩), .agg #[.bool x.1, .int .i64 x.2.1, .slice a l cc]] w fun v w' => v = .returned (.bool true) ∧ MB w' b n k (mstep n k c e x).1 (mstep n k c e x).2.1 ∧ RB w' r n k (mstep n k c e x).1 (mstep n k c e x).2.1 ∧ But2 b r w w' := by
  obtain ⟨xs, xN, xQ⟩ := x
  unfold mstep
  dsimp only at *
  have hx := XB.new w xs xN a l cc
  have kx := below_alloc7 w (.cells #[.bool xs, .int .i64 xN, .slice a l cc] 36)
  have HX := hide (And.intro hx (And.intro kx (And.intro (hM.below kx) (And.intro (hR.below kx) (hNL.below kx)))))
  have hpb : w.heap.size ≠ b := Nat.ne_of_gt hM.lt
  have hpr : w.heap.size ≠ r := Nat.ne_of_gt hR.lt
  clear hx kx hNL hM hR
  cases xs with
  | true =>
    simp only [if_true]
    generalize hz : mspend n c e xN = z
    replace hz := hide hz
    go_enter Try.func20, Try.ntmps20
    go_wp2_with fail
    obtain ⟨hx, kx, hM, hR, -⟩ := HX.out
    clear HX
    generalize w.alloc (.cells #[.bool true, .int .i64 xN, .slice a l cc] 36) = wb at *
    generalize hp : w.heap.size = p at *
    replace hp := hide hp
    go_region_held3 (fun w' => w'.cell? ⟨p, 0, none⟩ = some (.bool true) ∧ w'.cell? ⟨p, 1, none⟩ = some (.int .i64 xN) ∧ w'.cell? ⟨p, 2, none⟩ = some (.slice a l cc))
      ((refine XB.cells hx hpb hpr ?_; (first | (refine But2.trans (But2.trans (But.left (Below.but ?_ b)) (But.left g6)) (But.right g8); (repeat' (first | with_reducible exact Below.refl _ _ | with_reducible assumption | with_reducible refine step7 (by with_reducible assumption) ?_ | with_reducible refine g7_drew ?_ | with_reducible refine g7_alloc ?_ _ | with_reducible refine g7_drewN ?_ _))) | (refine But2.trans (But.left (Below.but ?_ b)) (But.left g6); (repeat' (first | with_reducible exact Below.refl _ _ | with_reducible assumption | with_reducible refine step7 (by with_reducible assumption) ?_ | with_reducible refine g7_drew ?_ | with_reducible refine g7_alloc ?_ _ | with_reducible refine g7_drewN ?_ _))) | (refine But.left (Below.but ?_ b); (repeat' (first | with_reducible exact Below.refl _ _ | with_reducible assumption | with_reducible refine step7 (by with_reducible assumption) ?_ | with_reducible refine g7_drew ?_ | with_reducible refine g7_alloc ?_ _ | with_reducible refine g7_drewN ?_ _))))))
      (first | (go_at_call 13; with_reducible refine (spend_a (MB.below hM (by (repeat' (first | with_reducible exact Below.refl _ _ | with_reducible assumption | with_reducible refine step7 (by with_reducible assumption) ?_ | with_reducible refine g7_drew ?_ | with_reducible refine g7_alloc ?_ _ | with_reducible refine g7_drewN ?_ _)))) hs).mono ?_; rintro v w6 ⟨rfl, m6, g6⟩; rw [hz.out]) | (go_at_call 14; with_reducible refine (refspend_a (RB.but (RB.below hR (by (repeat' (first | with_reducible exact Below.refl _ _ | with_reducible assumption | with_reducible refine step7 (by with_reducible assumption) ?_ | with_reducible refine g7_drew ?_ | with_reducible refine g7_alloc ?_ _ | with_reducible refine g7_drewN ?_ _)))) g6 (Ne.symm hne)) hs).mono ?_; rintro v w8 ⟨rfl, R8, g8⟩; rw [hz.out]))
    rw [hz.out] at m6 R8
    have m8 := hide (m6.but g8 hne)
    have k8 : Hid (But2 b r w w8) := (But2.trans (But2.trans (But.left (Below.but (step7 (show Below wb.heap.size wb _ by (repeat' (first | with_reducible exact Below.refl _ _ | with_reducible assumption | with_reducible refine step7 (by with_reducible assumption) ?_ | with_reducible refine g7_drew ?_ | with_reducible refine g7_alloc ?_ _ | with_reducible refine g7_drewN ?_ _))) (hp.out.symm ▸ kx)) b)) (But.left g6)) (But.right g8))
    have R9 := hide R8
    clear g6 g8 m6 R8 hM hR hx kx
    go_wp2
    go_ret
    exact ⟨rfl, m8.out, R9.out, k8.out⟩
  | false =>
    simp only [Bool.false_eq_true, if_false]
    generalize hz : mnode n k c e xQ = z
    replace hz := hide hz
    go_enter Try.func20, Try.ntmps20
    go_wp2_with fail
    obtain ⟨hx, kx, hM, hR, hNL⟩ := HX.out
    clear HX
    refine (lent_n hNL hB (by omega)).mono ?_
    rintro v w5' ⟨ad', cp', rfl, hN5, k5⟩
    have x5 := hx.below k5
    have M5 := hM.below k5
    have R5 := hR.below k5
    have q5 := hNL.below k5
    have K5 := hide (step7 k5 kx)
    clear hx hM hR hNL kx k5
    go_wp2_with fail
    generalize hp : w.heap.size = p at *
    replace hp := hide hp
    go_region_held3 (fun w' => w'.cell? ⟨p, 0, none⟩ = some (.bool false) ∧ w'.cell? ⟨p, 1, none⟩ = some (.int .i64 xN) ∧ w'.cell? ⟨p, 2, none⟩ = some (.slice a l cc))
      ((refine XB.cells x5 hpb hpr ?_; (first | (refine But2.trans (But2.trans (But2.trans (But.left (Below.but ?_ b)) (But.left g6)) (But.right g8)) (But.left (Below.but g9 b)); (repeat' (first | with_reducible exact Below.refl _ _ | with_reducible assumption | with_reducible refine step7 (by with_reducible assumption) ?_ | with_reducible refine g7_drew ?_ | with_reducible refine g7_alloc ?_ _ | with_reducible refine g7_drewN ?_ _))) | (refine But2.trans (But2.trans (But.left (Below.but ?_ b)) (But.left g6)) (But.right g8); (repeat' (first | with_reducible exact Below.refl _ _ | with_reducible assumption | with_reducible refine step7 (by with_reducible assumption) ?_ | with_reducible refine g7_drew ?_ | with_reducible refine g7_alloc ?_ _ | with_reducible refine g7_drewN ?_ _))) | (refine But2.trans (But.left (Below.but ?_ b)) (But.left g6); (repeat' (first | with_reducible exact Below.refl _ _ | with_reducible assumption | with_reducible refine step7 (by with_reducible assumption) ?_ | with_reducible refine g7_drew ?_ | with_reducible refine g7_alloc ?_ _ | with_reducible refine g7_drewN ?_ _))) | (refine But.left (Below.but ?_ b); (repeat' (first | with_reducible exact Below.refl _ _ | with_reducible assumption | with_reducible refine step7 (by with_reducible assumption) ?_ | with_reducible refine g7_drew ?_ | with_reducible refine g7_alloc ?_ _ | with_reducible refine g7_drewN ?_ _))))))
      (first | (go_at_call 16; with_reducible refine (node_a (MB.below M5 (by (repeat' (first | with_reducible exact Below.refl _ _ | with_reducible assumption | with_reducible refine step7 (by with_reducible assumption) ?_ | with_reducible refine g7_drew ?_ | with_reducible refine g7_alloc ?_ _ | with_reducible refine g7_drewN ?_ _)))) (NL.below hN5 (by (repeat' (first | with_reducible exact Below.refl _ _ | with_reducible assumption | with_reducible refine step7 (by with_reducible assumption) ?_ | with_reducible refine g7_drew ?_ | with_reducible refine g7_alloc ?_ _ | with_reducible refine g7_drewN ?_ _)))) hB (by omega) hs).mono ?_; rintro v w6 ⟨rfl, m6, g6⟩; rw [hz.out]) | (go_at_call 17; with_reducible refine (refnode_a (RB.but (RB.below R5 (by (repeat' (first | with_reducible exact Below.refl _ _ | with_reducible assumption | with_reducible refine step7 (by with_reducible assumption) ?_ | with_reducible refine g7_drew ?_ | with_reducible refine g7_alloc ?_ _ | with_reducible refine g7_drewN ?_ _)))) g6 (Ne.symm hne)) (NL.but (NL.below q5 (by (repeat' (first | with_reducible exact Below.refl _ _ | with_reducible assumption | with_reducible refine step7 (by with_reducible assumption) ?_ | with_reducible refine g7_drew ?_ | with_reducible refine g7_alloc ?_ _ | with_reducible refine g7_drewN ?_ _)))) (MB.intB (MB.below M5 (by (repeat' (first | with_reducible exact Below.refl _ _ | with_reducible assumption | with_reducible refine step7 (by with_reducible assumption) ?_ | with_reducible refine g7_drew ?_ | with_reducible refine g7_alloc ?_ _ | with_reducible refine g7_drewN ?_ _))))) g6) hB (by omega) hs).mono ?_; rintro v w8 ⟨rfl, R8, g8⟩; rw [hz.out]) | (go_at_call 18; with_reducible refine (kept_n (NL.but (NL.but (NL.below hN5 (by (repeat' (first | with_reducible exact Below.refl _ _ | with_reducible assumption | with_reducible refine step7 (by with_reducible assumption) ?_ | with_reducible refine g7_drew ?_ | with_reducible refine g7_alloc ?_ _ | with_reducible refine g7_drewN ?_ _)))) (MB.intB (MB.below M5 (by (repeat' (first | with_reducible exact Below.refl _ _ | with_reducible assumption | with_reducible refine step7 (by with_reducible assumption) ?_ | with_reducible refine g7_drew ?_ | with_reducible refine g7_alloc ?_ _ | with_reducible refine g7_drewN ?_ _))))) g6) (RB.intB (RB.but (RB.below R5 (by (repeat' (first | with_reducible exact Below.refl _ _ | with_reducible assumption | with_reducible refine step7 (by with_reducible assumption) ?_ | with_reducible refine g7_drew ?_ | with_reducible refine g7_alloc ?_ _ | with_reducible refine g7_drewN ?_ _)))) g6 (Ne.symm hne))) g8) (NL.but (NL.but (NL.below q5 (by (repeat' (first | with_reducible exact Below.refl _ _ | with_reducible assumption | with_reducible refine step7 (by with_reducible assumption) ?_ | with_reducible refine g7_drew ?_ | with_reducible refine g7_alloc ?_ _ | with_reducible refine g7_drewN ?_ _)))) (MB.intB (MB.below M5 (by (repeat' (first | with_reducible exact Below.refl _ _ | with_reducible assumption | with_reducible refine step7 (by with_reducible assumption) ?_ | with_reducible refine g7_drew ?_ | with_reducible refine g7_alloc ?_ _ | with_reducible refine g7_drewN ?_ _))))) g6) (RB.intB (RB.but (RB.below R5 (by (repeat' (first | with_reducible exact Below.refl _ _ | with_reducible assumption | with_reducible refine step7 (by with_reducible assumption) ?_ | with_reducible refine g7_drew ?_ | with_reducible refine g7_alloc ?_ _ | with_reducible refine g7_drewN ?_ _)))) g6 (Ne.symm hne))) g8) hB (by omega)).mono ?_; rintro v w9 ⟨rfl, g9⟩))
    rw [hz.out] at m6 R8
    have m8 := hide ((m6.but g8 hne).below g9)
    have k8 : Hid (But2 b r w w9) := (But2.trans (But2.trans (But2.trans (But.left (Below.but (step7 (show Below w5'.heap.size w5' _ by (repeat' (first | with_reducible exact Below.refl _ _ | with_reducible assumption | with_reducible refine step7 (by with_reducible assumption) ?_ | with_reducible refine g7_drew ?_ | with_reducible refine g7_alloc ?_ _ | with_reducible refine g7_drewN ?_ _))) (hp.out.symm ▸ K5.out)) b)) (But.left g6)) (But.right g8)) (But.left (Below.but g9 b)))
    have R9 := hide (R8.below g9)
    clear g6 g8 g9 m6 R8 M5 R5 x5 hN5 q5
    go_wp2
    go_ret
    exact ⟨rfl, m8.out, R9.out, k8.out⟩

theorem node_nil (w : World) (ad : Option Addr) (m cp : Nat) : Calls Try.prog 16 #[.pointer none, .slice ad m cp] w fun x w' => x = .returned (.int .i64 1) ∧ Below w.heap.size w w' := by
  have h := below_alloc7 w (.cells #[.pointer none] 22)
  go_enter Try.func16, Try.ntmps16
  go_wp2
  go_ret
  exact ⟨rfl, h⟩
theorem spend_nil (w : World) (N : Int) : Calls Try.prog 13 #[.pointer none, .int .i64 N] w fun x w' => x = .returned (.int .i64 1) ∧ Below w.heap.size w w' := by
  have h := step7 (below_alloc7 _ (.cells #[.int .i64 N] 3)) (below_alloc7 w (.cells #[.pointer none] 22))
  go_enter Try.func13, Try.ntmps13
  go_wp2
  go_ret
  exact ⟨rfl, h⟩
theorem spent_nil (w : World) : Calls Try.prog 9 #[.pointer none] w fun x w' => x = .returned (.int .i64 0) ∧ Below w.heap.size w w' := by
  go_enter Try.func9, Try.ntmps9
  go_wp2
  go_ret
  exact ⟨rfl, Below.refl _ _⟩
theorem over_nil (w : World) : Calls Try.prog 10 #[.pointer none] w fun x w' => x = .returned (.int .i64 1) ∧ Below w.heap.size w w' := by
  go_enter Try.func10, Try.ntmps10
  go_wp2
  go_ret
  exact ⟨rfl, Below.refl _ _⟩
end Go.Proofs.Ytofjjpkbildagaa
