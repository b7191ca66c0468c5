/-
  The walk of the law ZintRing.
-/
import Derived.Test.YtmbeaopcpckiaabDoorZ7
import Derived.Test.YtmbeaopcpckiaabDoorZk
import Derived.Deep.DeepCutAuto
namespace Go.Proofs.YtmbeaopcpckiaabDoor
open Go.RowKit

set_option maxRecDepth 100000 in
set_option maxHeartbeats 3200000 in
theorem zintRing_walk {s1 : Bool} {a1 : Option Addr} {l1 c1 : Nat} {z1 : Int} {s2 : Bool} {a2 : Option Addr} {l2 c2 : Nat} {z2 : Int} {s3 : Bool} {a3 : Option Addr} {l3 c3 : Nat} {z3 : Int} {w : World} (n1 : Zm w s1 a1 l1 c1 z1) (h1 : l1 ≤ 1048576) (n2 : Zm w s2 a2 l2 c2 z2) (h2 : l2 ≤ 1048576) (n3 : Zm w s3 a3 l3 c3 z3) (h3 : l3 ≤ 1048576) (htab : Tab w) :
    Calls Tryd.prog 5 #[.agg #[.bool s1, .slice a1 l1 c1], .agg #[.bool s2, .slice a2 l2 c2], .agg #[.bool s3, .slice a3 l3 c3]] w fun e w' => e = .returned (.bool true) ∧ Below w.heap.size w w' := by
  go_enter Tryd.func5, Tryd.ntmps5
  go_wp2_with fail
  have x1 := (zb_new w s1 a1 l1 c1).below (below_alloc' (below_alloc _ (.cells #[.bool s2, .slice a2 l2 c2] 24)) (.cells #[.bool s3, .slice a3 l3 c3] 24))
  have x2 := (zb_new (w.alloc (.cells #[.bool s1, .slice a1 l1 c1] 24)) s2 a2 l2 c2).below (below_alloc _ (.cells #[.bool s3, .slice a3 l3 c3] 24))
  rw [show (w.alloc (.cells #[.bool s1, .slice a1 l1 c1] 24)).heap.size = w.heap.size + 1 from by simp] at x2
  have x3 := zb_new ((w.alloc (.cells #[.bool s1, .slice a1 l1 c1] 24)).alloc (.cells #[.bool s2, .slice a2 l2 c2] 24)) s3 a3 l3 c3
  rw [show ((w.alloc (.cells #[.bool s1, .slice a1 l1 c1] 24)).alloc (.cells #[.bool s2, .slice a2 l2 c2] 24)).heap.size = w.heap.size + 2 from by simp] at x3
  have b0 : Below w.heap.size w (((w.alloc (.cells #[.bool s1, .slice a1 l1 c1] 24)).alloc (.cells #[.bool s2, .slice a2 l2 c2] 24)).alloc (.cells #[.bool s3, .slice a3 l3 c3] 24)) := below_alloc' (below_alloc' (below_alloc _ _) _) _
  generalize (((w.alloc (.cells #[.bool s1, .slice a1 l1 c1] 24)).alloc (.cells #[.bool s2, .slice a2 l2 c2] 24)).alloc (.cells #[.bool s3, .slice a3 l3 c3] 24)) = wb0 at *
  replace n1 := n1.below b0
  replace n2 := n2.below b0
  replace n3 := n3.below b0
  replace htab := htab.below b0
  generalize w.heap.size + 2 = p3 at *
  generalize w.heap.size + 1 = p2 at *
  generalize hp : w.heap.size = p1 at *
  replace hp := hide hp
  go_wp2_with fail
  refine (awake_any wb0 htab).mono ?_
  rintro e w1 ⟨rfl, k1⟩
  replace b0 := b0.trans (k1.mono (Nat.le_of_lt x1.lt))
  replace x1 := x1.below k1
  replace x2 := x2.below k1
  replace x3 := x3.below k1
  replace n1 := n1.below k1
  replace n2 := n2.below k1
  replace n3 := n3.below k1
  replace htab := htab.below k1
  clear k1
  go_upto_region 2 with (fail)
  have u1 := x1.c0
  have v1 := x1.c1
  have u2 := x2.c0
  have v2 := x2.c1
  have u3 := x3.c0
  have v3 := x3.c1
  go_wp2_with fail
  refine (zadd_n n1 n2 (by omega) (by omega)).mono ?_
  rintro e w2 ⟨s4, a4, l4, c4, rfl, N4, k2, h4⟩
  clear u1 v1 u2 v2 u3 v3
  replace b0 := b0.trans (k2.mono (Nat.le_of_lt x1.lt))
  replace x1 := x1.below k2
  replace x2 := x2.below k2
  replace x3 := x3.below k2
  replace n1 := n1.below k2
  replace n2 := n2.below k2
  replace n3 := n3.below k2
  replace htab := htab.below k2
  clear k2
  have n4 := N4.zm
  clear N4
  go_upto_region 3 with (fail)
  have x4 := zb_new w2 s4 a4 l4 c4
  have k0 : Below w2.heap.size w2 (w2.alloc (.cells #[.bool s4, .slice a4 l4 c4] 24)) := below_alloc _ _
  replace b0 := b0.trans (k0.mono (Nat.le_of_lt x1.lt))
  replace x1 := x1.below k0
  replace x2 := x2.below k0
  replace x3 := x3.below k0
  replace n1 := n1.below k0
  replace n2 := n2.below k0
  replace n3 := n3.below k0
  replace n4 := n4.below k0
  replace htab := htab.below k0
  clear k0
  generalize (w2.alloc (.cells #[.bool s4, .slice a4 l4 c4] 24)) = w3 at *
  generalize w2.heap.size = p4 at *
  have u1 := x1.c0
  have v1 := x1.c1
  have u2 := x2.c0
  have v2 := x2.c1
  have u3 := x3.c0
  have v3 := x3.c1
  have u4 := x4.c0
  have v4 := x4.c1
  go_wp2_with fail
  refine (zadd_n n2 n3 (by omega) (by omega)).mono ?_
  rintro e w4 ⟨s5, a5, l5, c5, rfl, N5, k4, h5⟩
  clear u1 v1 u2 v2 u3 v3 u4 v4
  replace b0 := b0.trans (k4.mono (Nat.le_of_lt x1.lt))
  replace x1 := x1.below k4
  replace x2 := x2.below k4
  replace x3 := x3.below k4
  replace x4 := x4.below k4
  replace n1 := n1.below k4
  replace n2 := n2.below k4
  replace n3 := n3.below k4
  replace n4 := n4.below k4
  replace htab := htab.below k4
  clear k4
  have n5 := N5.zm
  clear N5
  go_upto_region 4 with (fail)
  have x5 := zb_new w4 s5 a5 l5 c5
  have k0 : Below w4.heap.size w4 (w4.alloc (.cells #[.bool s5, .slice a5 l5 c5] 24)) := below_alloc _ _
  replace b0 := b0.trans (k0.mono (Nat.le_of_lt x1.lt))
  replace x1 := x1.below k0
  replace x2 := x2.below k0
  replace x3 := x3.below k0
  replace x4 := x4.below k0
  replace n1 := n1.below k0
  replace n2 := n2.below k0
  replace n3 := n3.below k0
  replace n4 := n4.below k0
  replace n5 := n5.below k0
  replace htab := htab.below k0
  clear k0
  generalize (w4.alloc (.cells #[.bool s5, .slice a5 l5 c5] 24)) = w5 at *
  generalize w4.heap.size = p5 at *
  go_region_held3 (fun w' => w'.cell? ⟨p1, 0, none⟩ = some (.bool s1) ∧ w'.cell? ⟨p1, 1, none⟩ = some (.slice a1 l1 c1) ∧ w'.cell? ⟨p2, 0, none⟩ = some (.bool s2) ∧ w'.cell? ⟨p2, 1, none⟩ = some (.slice a2 l2 c2) ∧ w'.cell? ⟨p3, 0, none⟩ = some (.bool s3) ∧ w'.cell? ⟨p3, 1, none⟩ = some (.slice a3 l3 c3) ∧ w'.cell? ⟨p4, 0, none⟩ = some (.bool s4) ∧ w'.cell? ⟨p4, 1, none⟩ = some (.slice a4 l4 c4) ∧ w'.cell? ⟨p5, 0, none⟩ = some (.bool s5) ∧ w'.cell? ⟨p5, 1, none⟩ = some (.slice a5 l5 c5) ∧ Below w5.heap.size w5 w')
    ((refine zk5 x1 x2 x3 x4 x5 ?_; (repeat' (first | with_reducible exact Below.refl _ _ | with_reducible assumption | with_reducible refine grow_step (by with_reducible assumption) ?_ | with_reducible refine grow_drew ?_ | with_reducible refine grow_alloc ?_ _ | with_reducible refine grow_drewN ?_ _))))
    (first | (go_at_call 18; with_reducible refine (zadd_n (Zm.below n4 (by (repeat' (first | with_reducible exact Below.refl _ _ | with_reducible assumption | with_reducible refine grow_step (by with_reducible assumption) ?_ | with_reducible refine grow_drew ?_ | with_reducible refine grow_alloc ?_ _ | with_reducible refine grow_drewN ?_ _)))) (Zm.below n3 (by (repeat' (first | with_reducible exact Below.refl _ _ | with_reducible assumption | with_reducible refine grow_step (by with_reducible assumption) ?_ | with_reducible refine grow_drew ?_ | with_reducible refine grow_alloc ?_ _ | with_reducible refine grow_drewN ?_ _)))) (by omega) (by omega)).mono ?_; rintro e w' ⟨sA, aA, lA, cA, rfl, nA, hg, hA⟩) | (go_at_call 18; with_reducible refine (zadd_n (Zm.below n1 (by (repeat' (first | with_reducible exact Below.refl _ _ | with_reducible assumption | with_reducible refine grow_step (by with_reducible assumption) ?_ | with_reducible refine grow_drew ?_ | with_reducible refine grow_alloc ?_ _ | with_reducible refine grow_drewN ?_ _)))) (Zm.below n5 (by (repeat' (first | with_reducible exact Below.refl _ _ | with_reducible assumption | with_reducible refine grow_step (by with_reducible assumption) ?_ | with_reducible refine grow_drew ?_ | with_reducible refine grow_alloc ?_ _ | with_reducible refine grow_drewN ?_ _)))) (by omega) (by omega)).mono ?_; rintro e w' ⟨sB, aB, lB, cB, rfl, nB, hg, hB⟩) | (go_at_call 19; with_reducible refine (zcmp_0 (Zn.zm (Zn.below nA (by (repeat' (first | with_reducible exact Below.refl _ _ | with_reducible assumption | with_reducible refine grow_step (by with_reducible assumption) ?_ | with_reducible refine grow_drew ?_ | with_reducible refine grow_alloc ?_ _ | with_reducible refine grow_drewN ?_ _))))) (Zn.zm (Zn.below nB (by (repeat' (first | with_reducible exact Below.refl _ _ | with_reducible assumption | with_reducible refine grow_step (by with_reducible assumption) ?_ | with_reducible refine grow_drew ?_ | with_reducible refine grow_alloc ?_ _ | with_reducible refine grow_drewN ?_ _))))) (by omega) (by omega) (Int.add_assoc _ _ _)).mono ?_; rintro e w' ⟨rfl, hg⟩))
  rename_i hH
  have k6 := hH.2.2.2.2.2.2.2.2.2.2
  clear hH
  replace b0 := b0.trans (k6.mono (Nat.le_of_lt x1.lt))
  replace x1 := x1.below k6
  replace x2 := x2.below k6
  replace x3 := x3.below k6
  replace x4 := x4.below k6
  replace x5 := x5.below k6
  replace n1 := n1.below k6
  replace n2 := n2.below k6
  replace n3 := n3.below k6
  replace n4 := n4.below k6
  replace n5 := n5.below k6
  replace htab := htab.below k6
  clear k6 hg
  generalize w' = w7 at *
  go_upto_region 5 with (fail)
  go_region_held3 (fun w' => w'.cell? ⟨p1, 0, none⟩ = some (.bool s1) ∧ w'.cell? ⟨p1, 1, none⟩ = some (.slice a1 l1 c1) ∧ w'.cell? ⟨p2, 0, none⟩ = some (.bool s2) ∧ w'.cell? ⟨p2, 1, none⟩ = some (.slice a2 l2 c2) ∧ w'.cell? ⟨p3, 0, none⟩ = some (.bool s3) ∧ w'.cell? ⟨p3, 1, none⟩ = some (.slice a3 l3 c3) ∧ w'.cell? ⟨p4, 0, none⟩ = some (.bool s4) ∧ w'.cell? ⟨p4, 1, none⟩ = some (.slice a4 l4 c4) ∧ w'.cell? ⟨p5, 0, none⟩ = some (.bool s5) ∧ w'.cell? ⟨p5, 1, none⟩ = some (.slice a5 l5 c5) ∧ Below w7.heap.size w7 w')
    ((refine zk5 x1 x2 x3 x4 x5 ?_; (repeat' (first | with_reducible exact Below.refl _ _ | with_reducible assumption | with_reducible refine grow_step (by with_reducible assumption) ?_ | with_reducible refine grow_drew ?_ | with_reducible refine grow_alloc ?_ _ | with_reducible refine grow_drewN ?_ _))))
    (first | (go_at_call 20; with_reducible refine (zmul_n (Zm.below n1 (by (repeat' (first | with_reducible exact Below.refl _ _ | with_reducible assumption | with_reducible refine grow_step (by with_reducible assumption) ?_ | with_reducible refine grow_drew ?_ | with_reducible refine grow_alloc ?_ _ | with_reducible refine grow_drewN ?_ _)))) (Zm.below n2 (by (repeat' (first | with_reducible exact Below.refl _ _ | with_reducible assumption | with_reducible refine grow_step (by with_reducible assumption) ?_ | with_reducible refine grow_drew ?_ | with_reducible refine grow_alloc ?_ _ | with_reducible refine grow_drewN ?_ _)))) (by omega) (by omega)).mono ?_; rintro e w' ⟨sA, aA, lA, cA, rfl, nA, hg, hA⟩) | (go_at_call 20; with_reducible refine (zmul_n (Zm.below n2 (by (repeat' (first | with_reducible exact Below.refl _ _ | with_reducible assumption | with_reducible refine grow_step (by with_reducible assumption) ?_ | with_reducible refine grow_drew ?_ | with_reducible refine grow_alloc ?_ _ | with_reducible refine grow_drewN ?_ _)))) (Zm.below n1 (by (repeat' (first | with_reducible exact Below.refl _ _ | with_reducible assumption | with_reducible refine grow_step (by with_reducible assumption) ?_ | with_reducible refine grow_drew ?_ | with_reducible refine grow_alloc ?_ _ | with_reducible refine grow_drewN ?_ _)))) (by omega) (by omega)).mono ?_; rintro e w' ⟨sB, aB, lB, cB, rfl, nB, hg, hB⟩) | (go_at_call 19; with_reducible refine (zcmp_0 (Zn.zm (Zn.below nA (by (repeat' (first | with_reducible exact Below.refl _ _ | with_reducible assumption | with_reducible refine grow_step (by with_reducible assumption) ?_ | with_reducible refine grow_drew ?_ | with_reducible refine grow_alloc ?_ _ | with_reducible refine grow_drewN ?_ _))))) (Zn.zm (Zn.below nB (by (repeat' (first | with_reducible exact Below.refl _ _ | with_reducible assumption | with_reducible refine grow_step (by with_reducible assumption) ?_ | with_reducible refine grow_drew ?_ | with_reducible refine grow_alloc ?_ _ | with_reducible refine grow_drewN ?_ _))))) (by omega) (by omega) (Int.mul_comm _ _)).mono ?_; rintro e w' ⟨rfl, hg⟩))
  rename_i hH
  have k8 := hH.2.2.2.2.2.2.2.2.2.2
  clear hH
  replace b0 := b0.trans (k8.mono (Nat.le_of_lt x1.lt))
  replace x1 := x1.below k8
  replace x2 := x2.below k8
  replace x3 := x3.below k8
  replace x4 := x4.below k8
  replace x5 := x5.below k8
  replace n1 := n1.below k8
  replace n2 := n2.below k8
  replace n3 := n3.below k8
  replace n4 := n4.below k8
  replace n5 := n5.below k8
  replace htab := htab.below k8
  clear k8 hg
  generalize w' = w9 at *
  go_upto_region 6 with (fail)
  go_region_held3 (fun w' => w'.cell? ⟨p1, 0, none⟩ = some (.bool s1) ∧ w'.cell? ⟨p1, 1, none⟩ = some (.slice a1 l1 c1) ∧ w'.cell? ⟨p2, 0, none⟩ = some (.bool s2) ∧ w'.cell? ⟨p2, 1, none⟩ = some (.slice a2 l2 c2) ∧ w'.cell? ⟨p3, 0, none⟩ = some (.bool s3) ∧ w'.cell? ⟨p3, 1, none⟩ = some (.slice a3 l3 c3) ∧ w'.cell? ⟨p4, 0, none⟩ = some (.bool s4) ∧ w'.cell? ⟨p4, 1, none⟩ = some (.slice a4 l4 c4) ∧ w'.cell? ⟨p5, 0, none⟩ = some (.bool s5) ∧ w'.cell? ⟨p5, 1, none⟩ = some (.slice a5 l5 c5) ∧ Below w9.heap.size w9 w')
    ((refine zk5 x1 x2 x3 x4 x5 ?_; (repeat' (first | with_reducible exact Below.refl _ _ | with_reducible assumption | with_reducible refine grow_step (by with_reducible assumption) ?_ | with_reducible refine grow_drew ?_ | with_reducible refine grow_alloc ?_ _ | with_reducible refine grow_drewN ?_ _))))
    (first | (go_at_call 20; with_reducible refine (zmul_n (Zm.below n1 (by (repeat' (first | with_reducible exact Below.refl _ _ | with_reducible assumption | with_reducible refine grow_step (by with_reducible assumption) ?_ | with_reducible refine grow_drew ?_ | with_reducible refine grow_alloc ?_ _ | with_reducible refine grow_drewN ?_ _)))) (Zm.below n2 (by (repeat' (first | with_reducible exact Below.refl _ _ | with_reducible assumption | with_reducible refine grow_step (by with_reducible assumption) ?_ | with_reducible refine grow_drew ?_ | with_reducible refine grow_alloc ?_ _ | with_reducible refine grow_drewN ?_ _)))) (by omega) (by omega)).mono ?_; rintro e w' ⟨sA, aA, lA, cA, rfl, nA, hg, hA⟩) | (go_at_call 20; with_reducible refine (zmul_n (Zn.zm (Zn.below nA (by (repeat' (first | with_reducible exact Below.refl _ _ | with_reducible assumption | with_reducible refine grow_step (by with_reducible assumption) ?_ | with_reducible refine grow_drew ?_ | with_reducible refine grow_alloc ?_ _ | with_reducible refine grow_drewN ?_ _))))) (Zm.below n3 (by (repeat' (first | with_reducible exact Below.refl _ _ | with_reducible assumption | with_reducible refine grow_step (by with_reducible assumption) ?_ | with_reducible refine grow_drew ?_ | with_reducible refine grow_alloc ?_ _ | with_reducible refine grow_drewN ?_ _)))) (by omega) (by omega)).mono ?_; rintro e w' ⟨sB, aB, lB, cB, rfl, nB, hg, hB⟩) | (go_at_call 20; with_reducible refine (zmul_n (Zm.below n2 (by (repeat' (first | with_reducible exact Below.refl _ _ | with_reducible assumption | with_reducible refine grow_step (by with_reducible assumption) ?_ | with_reducible refine grow_drew ?_ | with_reducible refine grow_alloc ?_ _ | with_reducible refine grow_drewN ?_ _)))) (Zm.below n3 (by (repeat' (first | with_reducible exact Below.refl _ _ | with_reducible assumption | with_reducible refine grow_step (by with_reducible assumption) ?_ | with_reducible refine grow_drew ?_ | with_reducible refine grow_alloc ?_ _ | with_reducible refine grow_drewN ?_ _)))) (by omega) (by omega)).mono ?_; rintro e w' ⟨sC, aC, lC, cC, rfl, nC, hg, hC⟩) | (go_at_call 20; with_reducible refine (zmul_n (Zm.below n1 (by (repeat' (first | with_reducible exact Below.refl _ _ | with_reducible assumption | with_reducible refine grow_step (by with_reducible assumption) ?_ | with_reducible refine grow_drew ?_ | with_reducible refine grow_alloc ?_ _ | with_reducible refine grow_drewN ?_ _)))) (Zn.zm (Zn.below nC (by (repeat' (first | with_reducible exact Below.refl _ _ | with_reducible assumption | with_reducible refine grow_step (by with_reducible assumption) ?_ | with_reducible refine grow_drew ?_ | with_reducible refine grow_alloc ?_ _ | with_reducible refine grow_drewN ?_ _))))) (by omega) (by omega)).mono ?_; rintro e w' ⟨sD, aD, lD, cD, rfl, nD, hg, hD⟩) | (go_at_call 19; with_reducible refine (zcmp_0 (Zn.zm (Zn.below nB (by (repeat' (first | with_reducible exact Below.refl _ _ | with_reducible assumption | with_reducible refine grow_step (by with_reducible assumption) ?_ | with_reducible refine grow_drew ?_ | with_reducible refine grow_alloc ?_ _ | with_reducible refine grow_drewN ?_ _))))) (Zn.zm (Zn.below nD (by (repeat' (first | with_reducible exact Below.refl _ _ | with_reducible assumption | with_reducible refine grow_step (by with_reducible assumption) ?_ | with_reducible refine grow_drew ?_ | with_reducible refine grow_alloc ?_ _ | with_reducible refine grow_drewN ?_ _))))) (by omega) (by omega) (Int.mul_assoc _ _ _)).mono ?_; rintro e w' ⟨rfl, hg⟩))
  rename_i hH
  have k10 := hH.2.2.2.2.2.2.2.2.2.2
  clear hH
  replace b0 := b0.trans (k10.mono (Nat.le_of_lt x1.lt))
  replace x1 := x1.below k10
  replace x2 := x2.below k10
  replace x3 := x3.below k10
  replace x4 := x4.below k10
  replace x5 := x5.below k10
  replace n1 := n1.below k10
  replace n2 := n2.below k10
  replace n3 := n3.below k10
  replace n4 := n4.below k10
  replace n5 := n5.below k10
  replace htab := htab.below k10
  clear k10 hg
  generalize w' = w11 at *
  go_upto_region 7 with (fail)
  go_region_held3 (fun w' => w'.cell? ⟨p1, 0, none⟩ = some (.bool s1) ∧ w'.cell? ⟨p1, 1, none⟩ = some (.slice a1 l1 c1) ∧ w'.cell? ⟨p2, 0, none⟩ = some (.bool s2) ∧ w'.cell? ⟨p2, 1, none⟩ = some (.slice a2 l2 c2) ∧ w'.cell? ⟨p3, 0, none⟩ = some (.bool s3) ∧ w'.cell? ⟨p3, 1, none⟩ = some (.slice a3 l3 c3) ∧ w'.cell? ⟨p4, 0, none⟩ = some (.bool s4) ∧ w'.cell? ⟨p4, 1, none⟩ = some (.slice a4 l4 c4) ∧ w'.cell? ⟨p5, 0, none⟩ = some (.bool s5) ∧ w'.cell? ⟨p5, 1, none⟩ = some (.slice a5 l5 c5) ∧ Below w11.heap.size w11 w')
    ((refine zk5 x1 x2 x3 x4 x5 ?_; (repeat' (first | with_reducible exact Below.refl _ _ | with_reducible assumption | with_reducible refine grow_step (by with_reducible assumption) ?_ | with_reducible refine grow_drew ?_ | with_reducible refine grow_alloc ?_ _ | with_reducible refine grow_drewN ?_ _))))
    (first | (go_at_call 20; with_reducible refine (zmul_n (Zm.below n1 (by (repeat' (first | with_reducible exact Below.refl _ _ | with_reducible assumption | with_reducible refine grow_step (by with_reducible assumption) ?_ | with_reducible refine grow_drew ?_ | with_reducible refine grow_alloc ?_ _ | with_reducible refine grow_drewN ?_ _)))) (Zm.below n5 (by (repeat' (first | with_reducible exact Below.refl _ _ | with_reducible assumption | with_reducible refine grow_step (by with_reducible assumption) ?_ | with_reducible refine grow_drew ?_ | with_reducible refine grow_alloc ?_ _ | with_reducible refine grow_drewN ?_ _)))) (by omega) (by omega)).mono ?_; rintro e w' ⟨sA, aA, lA, cA, rfl, nA, hg, hA⟩) | (go_at_call 20; with_reducible refine (zmul_n (Zm.below n1 (by (repeat' (first | with_reducible exact Below.refl _ _ | with_reducible assumption | with_reducible refine grow_step (by with_reducible assumption) ?_ | with_reducible refine grow_drew ?_ | with_reducible refine grow_alloc ?_ _ | with_reducible refine grow_drewN ?_ _)))) (Zm.below n2 (by (repeat' (first | with_reducible exact Below.refl _ _ | with_reducible assumption | with_reducible refine grow_step (by with_reducible assumption) ?_ | with_reducible refine grow_drew ?_ | with_reducible refine grow_alloc ?_ _ | with_reducible refine grow_drewN ?_ _)))) (by omega) (by omega)).mono ?_; rintro e w' ⟨sB, aB, lB, cB, rfl, nB, hg, hB⟩) | (go_at_call 20; with_reducible refine (zmul_n (Zm.below n1 (by (repeat' (first | with_reducible exact Below.refl _ _ | with_reducible assumption | with_reducible refine grow_step (by with_reducible assumption) ?_ | with_reducible refine grow_drew ?_ | with_reducible refine grow_alloc ?_ _ | with_reducible refine grow_drewN ?_ _)))) (Zm.below n3 (by (repeat' (first | with_reducible exact Below.refl _ _ | with_reducible assumption | with_reducible refine grow_step (by with_reducible assumption) ?_ | with_reducible refine grow_drew ?_ | with_reducible refine grow_alloc ?_ _ | with_reducible refine grow_drewN ?_ _)))) (by omega) (by omega)).mono ?_; rintro e w' ⟨sC, aC, lC, cC, rfl, nC, hg, hC⟩) | (go_at_call 18; with_reducible refine (zadd_n (Zn.zm (Zn.below nB (by (repeat' (first | with_reducible exact Below.refl _ _ | with_reducible assumption | with_reducible refine grow_step (by with_reducible assumption) ?_ | with_reducible refine grow_drew ?_ | with_reducible refine grow_alloc ?_ _ | with_reducible refine grow_drewN ?_ _))))) (Zn.zm (Zn.below nC (by (repeat' (first | with_reducible exact Below.refl _ _ | with_reducible assumption | with_reducible refine grow_step (by with_reducible assumption) ?_ | with_reducible refine grow_drew ?_ | with_reducible refine grow_alloc ?_ _ | with_reducible refine grow_drewN ?_ _))))) (by omega) (by omega)).mono ?_; rintro e w' ⟨sD, aD, lD, cD, rfl, nD, hg, hD⟩) | (go_at_call 19; with_reducible refine (zcmp_0 (Zn.zm (Zn.below nA (by (repeat' (first | with_reducible exact Below.refl _ _ | with_reducible assumption | with_reducible refine grow_step (by with_reducible assumption) ?_ | with_reducible refine grow_drew ?_ | with_reducible refine grow_alloc ?_ _ | with_reducible refine grow_drewN ?_ _))))) (Zn.zm (Zn.below nD (by (repeat' (first | with_reducible exact Below.refl _ _ | with_reducible assumption | with_reducible refine grow_step (by with_reducible assumption) ?_ | with_reducible refine grow_drew ?_ | with_reducible refine grow_alloc ?_ _ | with_reducible refine grow_drewN ?_ _))))) (by omega) (by omega) (Int.mul_add _ _ _)).mono ?_; rintro e w' ⟨rfl, hg⟩))
  rename_i hH
  have k12 := hH.2.2.2.2.2.2.2.2.2.2
  clear hH
  replace b0 := b0.trans (k12.mono (Nat.le_of_lt x1.lt))
  replace x1 := x1.below k12
  replace x2 := x2.below k12
  replace x3 := x3.below k12
  replace x4 := x4.below k12
  replace x5 := x5.below k12
  replace n1 := n1.below k12
  replace n2 := n2.below k12
  replace n3 := n3.below k12
  replace n4 := n4.below k12
  replace n5 := n5.below k12
  replace htab := htab.below k12
  clear k12 hg
  generalize w' = w13 at *
  go_upto_region 8 with (fail)
  go_region_held3 (fun w' => w'.cell? ⟨p1, 0, none⟩ = some (.bool s1) ∧ w'.cell? ⟨p1, 1, none⟩ = some (.slice a1 l1 c1) ∧ w'.cell? ⟨p2, 0, none⟩ = some (.bool s2) ∧ w'.cell? ⟨p2, 1, none⟩ = some (.slice a2 l2 c2) ∧ w'.cell? ⟨p3, 0, none⟩ = some (.bool s3) ∧ w'.cell? ⟨p3, 1, none⟩ = some (.slice a3 l3 c3) ∧ w'.cell? ⟨p4, 0, none⟩ = some (.bool s4) ∧ w'.cell? ⟨p4, 1, none⟩ = some (.slice a4 l4 c4) ∧ w'.cell? ⟨p5, 0, none⟩ = some (.bool s5) ∧ w'.cell? ⟨p5, 1, none⟩ = some (.slice a5 l5 c5) ∧ Below w13.heap.size w13 w')
    ((refine zk5 x1 x2 x3 x4 x5 ?_; (repeat' (first | with_reducible exact Below.refl _ _ | with_reducible assumption | with_reducible refine grow_step (by with_reducible assumption) ?_ | with_reducible refine grow_drew ?_ | with_reducible refine grow_alloc ?_ _ | with_reducible refine grow_drewN ?_ _))))
    (first | (go_at_call 21; with_reducible refine (zsub_n (Zm.below n4 (by (repeat' (first | with_reducible exact Below.refl _ _ | with_reducible assumption | with_reducible refine grow_step (by with_reducible assumption) ?_ | with_reducible refine grow_drew ?_ | with_reducible refine grow_alloc ?_ _ | with_reducible refine grow_drewN ?_ _)))) (Zm.below n2 (by (repeat' (first | with_reducible exact Below.refl _ _ | with_reducible assumption | with_reducible refine grow_step (by with_reducible assumption) ?_ | with_reducible refine grow_drew ?_ | with_reducible refine grow_alloc ?_ _ | with_reducible refine grow_drewN ?_ _)))) (by omega) (by omega)).mono ?_; rintro e w' ⟨sA, aA, lA, cA, rfl, nA, hg, hA⟩) | (go_at_call 19; with_reducible refine (zcmp_0 (Zn.zm (Zn.below nA (by (repeat' (first | with_reducible exact Below.refl _ _ | with_reducible assumption | with_reducible refine grow_step (by with_reducible assumption) ?_ | with_reducible refine grow_drew ?_ | with_reducible refine grow_alloc ?_ _ | with_reducible refine grow_drewN ?_ _))))) (Zm.below n1 (by (repeat' (first | with_reducible exact Below.refl _ _ | with_reducible assumption | with_reducible refine grow_step (by with_reducible assumption) ?_ | with_reducible refine grow_drew ?_ | with_reducible refine grow_alloc ?_ _ | with_reducible refine grow_drewN ?_ _)))) (by omega) (by omega) (by omega)).mono ?_; rintro e w' ⟨rfl, hg⟩))
  rename_i hH
  have k14 := hH.2.2.2.2.2.2.2.2.2.2
  clear hH
  replace b0 := b0.trans (k14.mono (Nat.le_of_lt x1.lt))
  replace x1 := x1.below k14
  replace x2 := x2.below k14
  replace x3 := x3.below k14
  replace x4 := x4.below k14
  replace x5 := x5.below k14
  replace n1 := n1.below k14
  replace n2 := n2.below k14
  replace n3 := n3.below k14
  replace n4 := n4.below k14
  replace n5 := n5.below k14
  replace htab := htab.below k14
  clear k14 hg
  generalize w' = w15 at *
  go_upto_region 9 with (fail)
  have hcc := cmpI_bd z1 z2
  go_region_held3 (fun w' => w'.cell? ⟨p1, 0, none⟩ = some (.bool s1) ∧ w'.cell? ⟨p1, 1, none⟩ = some (.slice a1 l1 c1) ∧ w'.cell? ⟨p2, 0, none⟩ = some (.bool s2) ∧ w'.cell? ⟨p2, 1, none⟩ = some (.slice a2 l2 c2) ∧ w'.cell? ⟨p3, 0, none⟩ = some (.bool s3) ∧ w'.cell? ⟨p3, 1, none⟩ = some (.slice a3 l3 c3) ∧ w'.cell? ⟨p4, 0, none⟩ = some (.bool s4) ∧ w'.cell? ⟨p4, 1, none⟩ = some (.slice a4 l4 c4) ∧ w'.cell? ⟨p5, 0, none⟩ = some (.bool s5) ∧ w'.cell? ⟨p5, 1, none⟩ = some (.slice a5 l5 c5) ∧ Below w15.heap.size w15 w')
    ((refine zk5 x1 x2 x3 x4 x5 ?_; (repeat' (first | with_reducible exact Below.refl _ _ | with_reducible assumption | with_reducible refine grow_step (by with_reducible assumption) ?_ | with_reducible refine grow_drew ?_ | with_reducible refine grow_alloc ?_ _ | with_reducible refine grow_drewN ?_ _))))
    (first | (go_at_call 21; with_reducible refine (zsub_n (Zm.below n1 (by (repeat' (first | with_reducible exact Below.refl _ _ | with_reducible assumption | with_reducible refine grow_step (by with_reducible assumption) ?_ | with_reducible refine grow_drew ?_ | with_reducible refine grow_alloc ?_ _ | with_reducible refine grow_drewN ?_ _)))) (Zm.below n2 (by (repeat' (first | with_reducible exact Below.refl _ _ | with_reducible assumption | with_reducible refine grow_step (by with_reducible assumption) ?_ | with_reducible refine grow_drew ?_ | with_reducible refine grow_alloc ?_ _ | with_reducible refine grow_drewN ?_ _)))) (by omega) (by omega)).mono ?_; rintro e w' ⟨sA, aA, lA, cA, rfl, nA, hg, hA⟩) | (go_at_call 22; with_reducible refine (zsign_n (Zn.zm (Zn.below nA (by (repeat' (first | with_reducible exact Below.refl _ _ | with_reducible assumption | with_reducible refine grow_step (by with_reducible assumption) ?_ | with_reducible refine grow_drew ?_ | with_reducible refine grow_alloc ?_ _ | with_reducible refine grow_drewN ?_ _))))) (by omega)).mono ?_; rintro e w' ⟨rfl, hg⟩; rw [cmpI_sub]) | (go_at_call 19; with_reducible refine (zcmp_n (Zm.below n1 (by (repeat' (first | with_reducible exact Below.refl _ _ | with_reducible assumption | with_reducible refine grow_step (by with_reducible assumption) ?_ | with_reducible refine grow_drew ?_ | with_reducible refine grow_alloc ?_ _ | with_reducible refine grow_drewN ?_ _)))) (Zm.below n2 (by (repeat' (first | with_reducible exact Below.refl _ _ | with_reducible assumption | with_reducible refine grow_step (by with_reducible assumption) ?_ | with_reducible refine grow_drew ?_ | with_reducible refine grow_alloc ?_ _ | with_reducible refine grow_drewN ?_ _)))) (by omega) (by omega)).mono ?_; rintro e w' ⟨rfl, hg⟩))
  rename_i hH
  have k16 := hH.2.2.2.2.2.2.2.2.2.2
  clear hH
  replace b0 := b0.trans (k16.mono (Nat.le_of_lt x1.lt))
  replace x1 := x1.below k16
  replace x2 := x2.below k16
  replace x3 := x3.below k16
  replace x4 := x4.below k16
  replace x5 := x5.below k16
  replace n1 := n1.below k16
  replace n2 := n2.below k16
  replace n3 := n3.below k16
  replace n4 := n4.below k16
  replace n5 := n5.below k16
  replace htab := htab.below k16
  clear k16 hg
  generalize w' = w17 at *
  go_upto_region 10 with (fail)
  go_region_held3 (fun w' => w'.cell? ⟨p1, 0, none⟩ = some (.bool s1) ∧ w'.cell? ⟨p1, 1, none⟩ = some (.slice a1 l1 c1) ∧ w'.cell? ⟨p2, 0, none⟩ = some (.bool s2) ∧ w'.cell? ⟨p2, 1, none⟩ = some (.slice a2 l2 c2) ∧ w'.cell? ⟨p3, 0, none⟩ = some (.bool s3) ∧ w'.cell? ⟨p3, 1, none⟩ = some (.slice a3 l3 c3) ∧ w'.cell? ⟨p4, 0, none⟩ = some (.bool s4) ∧ w'.cell? ⟨p4, 1, none⟩ = some (.slice a4 l4 c4) ∧ w'.cell? ⟨p5, 0, none⟩ = some (.bool s5) ∧ w'.cell? ⟨p5, 1, none⟩ = some (.slice a5 l5 c5) ∧ Below w17.heap.size w17 w')
    ((refine zk5 x1 x2 x3 x4 x5 ?_; (repeat' (first | with_reducible exact Below.refl _ _ | with_reducible assumption | with_reducible refine grow_step (by with_reducible assumption) ?_ | with_reducible refine grow_drew ?_ | with_reducible refine grow_alloc ?_ _ | with_reducible refine grow_drewN ?_ _))))
    (first | (go_at_call 23; with_reducible refine (neg_n (Zm.below n1 (by (repeat' (first | with_reducible exact Below.refl _ _ | with_reducible assumption | with_reducible refine grow_step (by with_reducible assumption) ?_ | with_reducible refine grow_drew ?_ | with_reducible refine grow_alloc ?_ _ | with_reducible refine grow_drewN ?_ _)))) (by omega)).mono ?_; rintro e w' ⟨sA, aA, lA, cA, rfl, nA, hg, hA⟩) | (go_at_call 23; with_reducible refine (neg_n (Zn.zm (Zn.below nA (by (repeat' (first | with_reducible exact Below.refl _ _ | with_reducible assumption | with_reducible refine grow_step (by with_reducible assumption) ?_ | with_reducible refine grow_drew ?_ | with_reducible refine grow_alloc ?_ _ | with_reducible refine grow_drewN ?_ _))))) (by omega)).mono ?_; rintro e w' ⟨sB, aB, lB, cB, rfl, nB, hg, hB⟩) | (go_at_call 19; with_reducible refine (zcmp_0 (Zn.zm (Zn.below nB (by (repeat' (first | with_reducible exact Below.refl _ _ | with_reducible assumption | with_reducible refine grow_step (by with_reducible assumption) ?_ | with_reducible refine grow_drew ?_ | with_reducible refine grow_alloc ?_ _ | with_reducible refine grow_drewN ?_ _))))) (Zm.below n1 (by (repeat' (first | with_reducible exact Below.refl _ _ | with_reducible assumption | with_reducible refine grow_step (by with_reducible assumption) ?_ | with_reducible refine grow_drew ?_ | with_reducible refine grow_alloc ?_ _ | with_reducible refine grow_drewN ?_ _)))) (by omega) (by omega) (Int.neg_neg _)).mono ?_; rintro e w' ⟨rfl, hg⟩))
  rename_i hH
  have k18 := hH.2.2.2.2.2.2.2.2.2.2
  clear hH
  replace b0 := b0.trans (k18.mono (Nat.le_of_lt x1.lt))
  replace x1 := x1.below k18
  replace x2 := x2.below k18
  replace x3 := x3.below k18
  replace x4 := x4.below k18
  replace x5 := x5.below k18
  replace n1 := n1.below k18
  replace n2 := n2.below k18
  replace n3 := n3.below k18
  replace n4 := n4.below k18
  replace n5 := n5.below k18
  replace htab := htab.below k18
  clear k18 hg
  generalize w' = w19 at *
  go_upto_region 11 with (fail)
  go_wp2_with fail
  go_ret
  exact ⟨by simp, hp.out.symm ▸ b0⟩
end Go.Proofs.YtmbeaopcpckiaabDoor
