/-
  The walk of the law ZintReckons.
-/
import Derived.Test.YtmbeaopcpckiaaaDoorZ7
import Derived.Test.YtmbeaopcpckiaaaDoorZ9
import Derived.Test.YtmbeaopcpckiaaaDoorZk
import Derived.Deep.DeepCutAuto
namespace Go.Proofs.YtmbeaopcpckiaaaDoor
open Go.RowKit

set_option maxRecDepth 100000 in
set_option maxHeartbeats 3200000 in
theorem zintReckons_walk {s1 : Bool} {a1 : Option Addr} {l1 c1 : Nat} {z1 : Int} {s2 : Bool} {a2 : Option Addr} {l2 c2 : Nat} {z2 : Int} {w : World} (n1 : Zm w s1 a1 l1 c1 z1) (h1 : l1 ≤ 1048576) (n2 : Zm w s2 a2 l2 c2 z2) (h2 : l2 ≤ 1048576) (htab : Tab w) :
    Calls Tryd.prog 8 #[.agg #[.bool s1, .slice a1 l1 c1], .agg #[.bool s2, .slice a2 l2 c2]] w fun e w' => e = .returned (.bool true) ∧ Below w.heap.size w w' := by
  go_enter Tryd.func8, Tryd.ntmps8
  go_wp2_with fail
  have x1 := (zb_new w s1 a1 l1 c1).below (below_alloc _ (.cells #[.bool s2, .slice a2 l2 c2] 49))
  have x2 := zb_new (w.alloc (.cells #[.bool s1, .slice a1 l1 c1] 49)) s2 a2 l2 c2
  rw [show (w.alloc (.cells #[.bool s1, .slice a1 l1 c1] 49)).heap.size = w.heap.size + 1 from by simp] at x2
  have b0 : Below w.heap.size w ((w.alloc (.cells #[.bool s1, .slice a1 l1 c1] 49)).alloc (.cells #[.bool s2, .slice a2 l2 c2] 49)) := below_alloc' (below_alloc _ _) _
  generalize ((w.alloc (.cells #[.bool s1, .slice a1 l1 c1] 49)).alloc (.cells #[.bool s2, .slice a2 l2 c2] 49)) = wb0 at *
  replace n1 := n1.below b0
  replace n2 := n2.below b0
  replace htab := htab.below b0
  generalize w.heap.size + 1 = p2 at *
  generalize hp : w.heap.size = p1 at *
  replace hp := hide hp
  go_wp2_with fail
  refine (awake_any wb0 htab).mono ?_
  rintro e w1 ⟨rfl, k1⟩
  replace b0 := b0.trans (k1.mono (Nat.le_of_lt x1.lt))
  replace x1 := x1.below k1
  replace x2 := x2.below k1
  replace n1 := n1.below k1
  replace n2 := n2.below k1
  replace htab := htab.below k1
  clear k1
  go_upto_region 2 with (fail)
  have u1 := x1.c0
  have v1 := x1.c1
  have u2 := x2.c0
  have v2 := x2.c1
  go_wp2_with fail
  refine (zsign_n n1 (by omega)).mono ?_
  rintro e w2 ⟨rfl, k2⟩
  clear u1 v1 u2 v2
  replace b0 := b0.trans (k2.mono (Nat.le_of_lt x1.lt))
  replace x1 := x1.below k2
  replace x2 := x2.below k2
  replace n1 := n1.below k2
  replace n2 := n2.below k2
  replace htab := htab.below k2
  clear k2
  generalize E6 : cmpI z1 0 = v6 at *
  replace E6 := hide E6
  go_upto_region 3 with (fail)
  have u1 := x1.c0
  have v1 := x1.c1
  have u2 := x2.c0
  have v2 := x2.c1
  go_wp2_with fail
  refine (zcmp_n n1 n2 (by omega) (by omega)).mono ?_
  rintro e w3 ⟨rfl, k3⟩
  clear u1 v1 u2 v2
  replace b0 := b0.trans (k3.mono (Nat.le_of_lt x1.lt))
  replace x1 := x1.below k3
  replace x2 := x2.below k3
  replace n1 := n1.below k3
  replace n2 := n2.below k3
  replace htab := htab.below k3
  clear k3
  generalize E7 : cmpI z1 z2 = v7 at *
  replace E7 := hide E7
  go_upto_region 4 with (fail)
  have u1 := x1.c0
  have v1 := x1.c1
  have u2 := x2.c0
  have v2 := x2.c1
  go_wp2_with fail
  refine (neg_n n1 (by omega)).mono ?_
  rintro e w4 ⟨s3, a3, l3, c3, rfl, n3, k4, h3⟩
  clear u1 v1 u2 v2
  replace b0 := b0.trans (k4.mono (Nat.le_of_lt x1.lt))
  replace x1 := x1.below k4
  replace x2 := x2.below k4
  replace n1 := n1.below k4
  replace n2 := n2.below k4
  replace htab := htab.below k4
  clear k4
  go_upto_region 5 with (fail)
  have x3 := zb_new w4 s3 a3 l3 c3
  have k0 : Below w4.heap.size w4 (w4.alloc (.cells #[.bool s3, .slice a3 l3 c3] 49)) := below_alloc _ _
  replace b0 := b0.trans (k0.mono (Nat.le_of_lt x1.lt))
  replace x1 := x1.below k0
  replace x2 := x2.below k0
  replace n1 := n1.below k0
  replace n2 := n2.below k0
  replace n3 := n3.below k0
  replace htab := htab.below k0
  clear k0
  generalize (w4.alloc (.cells #[.bool s3, .slice a3 l3 c3] 49)) = w5 at *
  generalize w4.heap.size = p3 at *
  have u1 := x1.c0
  have v1 := x1.c1
  have u2 := x2.c0
  have v2 := x2.c1
  have u3 := x3.c0
  have v3 := x3.c1
  go_wp2_with fail
  refine (abs_n n1 (by omega)).mono ?_
  rintro e w6 ⟨s4, a4, l4, c4, rfl, n4, k6, h4⟩
  clear u1 v1 u2 v2 u3 v3
  replace b0 := b0.trans (k6.mono (Nat.le_of_lt x1.lt))
  replace x1 := x1.below k6
  replace x2 := x2.below k6
  replace x3 := x3.below k6
  replace n1 := n1.below k6
  replace n2 := n2.below k6
  replace n3 := n3.below k6
  replace htab := htab.below k6
  clear k6
  go_upto_region 6 with (fail)
  have x4 := zb_new w6 s4 a4 l4 c4
  have k0 : Below w6.heap.size w6 (w6.alloc (.cells #[.bool s4, .slice a4 l4 c4] 49)) := below_alloc _ _
  replace b0 := b0.trans (k0.mono (Nat.le_of_lt x1.lt))
  replace x1 := x1.below k0
  replace x2 := x2.below k0
  replace x3 := x3.below k0
  replace n1 := n1.below k0
  replace n2 := n2.below k0
  replace n3 := n3.below k0
  replace n4 := n4.below k0
  replace htab := htab.below k0
  clear k0
  generalize (w6.alloc (.cells #[.bool s4, .slice a4 l4 c4] 49)) = w7 at *
  generalize w6.heap.size = p4 at *
  have u1 := x1.c0
  have v1 := x1.c1
  have u2 := x2.c0
  have v2 := x2.c1
  have u3 := x3.c0
  have v3 := x3.c1
  have u4 := x4.c0
  have v4 := x4.c1
  go_wp2_with fail
  refine (zadd_n n1 n2 (by omega) (by omega)).mono ?_
  rintro e w8 ⟨s5, a5, l5, c5, rfl, n5, k8, h5⟩
  clear u1 v1 u2 v2 u3 v3 u4 v4
  replace b0 := b0.trans (k8.mono (Nat.le_of_lt x1.lt))
  replace x1 := x1.below k8
  replace x2 := x2.below k8
  replace x3 := x3.below k8
  replace x4 := x4.below k8
  replace n1 := n1.below k8
  replace n2 := n2.below k8
  replace n3 := n3.below k8
  replace n4 := n4.below k8
  replace htab := htab.below k8
  clear k8
  go_upto_region 7 with (fail)
  have x5 := zb_new w8 s5 a5 l5 c5
  have k0 : Below w8.heap.size w8 (w8.alloc (.cells #[.bool s5, .slice a5 l5 c5] 49)) := below_alloc _ _
  replace b0 := b0.trans (k0.mono (Nat.le_of_lt x1.lt))
  replace x1 := x1.below k0
  replace x2 := x2.below k0
  replace x3 := x3.below k0
  replace x4 := x4.below k0
  replace n1 := n1.below k0
  replace n2 := n2.below k0
  replace n3 := n3.below k0
  replace n4 := n4.below k0
  replace n5 := n5.below k0
  replace htab := htab.below k0
  clear k0
  generalize (w8.alloc (.cells #[.bool s5, .slice a5 l5 c5] 49)) = w9 at *
  generalize w8.heap.size = p5 at *
  have u1 := x1.c0
  have v1 := x1.c1
  have u2 := x2.c0
  have v2 := x2.c1
  have u3 := x3.c0
  have v3 := x3.c1
  have u4 := x4.c0
  have v4 := x4.c1
  have u5 := x5.c0
  have v5 := x5.c1
  go_wp2_with fail
  refine (zsub_n n1 n2 (by omega) (by omega)).mono ?_
  rintro e w10 ⟨s6, a6, l6, c6, rfl, n6, k10, h6⟩
  clear u1 v1 u2 v2 u3 v3 u4 v4 u5 v5
  replace b0 := b0.trans (k10.mono (Nat.le_of_lt x1.lt))
  replace x1 := x1.below k10
  replace x2 := x2.below k10
  replace x3 := x3.below k10
  replace x4 := x4.below k10
  replace x5 := x5.below k10
  replace n1 := n1.below k10
  replace n2 := n2.below k10
  replace n3 := n3.below k10
  replace n4 := n4.below k10
  replace n5 := n5.below k10
  replace htab := htab.below k10
  clear k10
  go_upto_region 8 with (fail)
  have x6 := zb_new w10 s6 a6 l6 c6
  have k0 : Below w10.heap.size w10 (w10.alloc (.cells #[.bool s6, .slice a6 l6 c6] 49)) := below_alloc _ _
  replace b0 := b0.trans (k0.mono (Nat.le_of_lt x1.lt))
  replace x1 := x1.below k0
  replace x2 := x2.below k0
  replace x3 := x3.below k0
  replace x4 := x4.below k0
  replace x5 := x5.below k0
  replace n1 := n1.below k0
  replace n2 := n2.below k0
  replace n3 := n3.below k0
  replace n4 := n4.below k0
  replace n5 := n5.below k0
  replace n6 := n6.below k0
  replace htab := htab.below k0
  clear k0
  generalize (w10.alloc (.cells #[.bool s6, .slice a6 l6 c6] 49)) = w11 at *
  generalize w10.heap.size = p6 at *
  have u1 := x1.c0
  have v1 := x1.c1
  have u2 := x2.c0
  have v2 := x2.c1
  have u3 := x3.c0
  have v3 := x3.c1
  have u4 := x4.c0
  have v4 := x4.c1
  have u5 := x5.c0
  have v5 := x5.c1
  have u6 := x6.c0
  have v6 := x6.c1
  go_wp2_with fail
  refine (zmul_n n1 n2 (by omega) (by omega)).mono ?_
  rintro e w12 ⟨s7, a7, l7, c7, rfl, n7, k12, h7⟩
  clear u1 v1 u2 v2 u3 v3 u4 v4 u5 v5 u6 v6
  replace b0 := b0.trans (k12.mono (Nat.le_of_lt x1.lt))
  replace x1 := x1.below k12
  replace x2 := x2.below k12
  replace x3 := x3.below k12
  replace x4 := x4.below k12
  replace x5 := x5.below k12
  replace x6 := x6.below k12
  replace n1 := n1.below k12
  replace n2 := n2.below k12
  replace n3 := n3.below k12
  replace n4 := n4.below k12
  replace n5 := n5.below k12
  replace n6 := n6.below k12
  replace htab := htab.below k12
  clear k12
  go_upto_region 9 with (fail)
  have x7 := zb_new w12 s7 a7 l7 c7
  have k0 : Below w12.heap.size w12 (w12.alloc (.cells #[.bool s7, .slice a7 l7 c7] 49)) := below_alloc _ _
  replace b0 := b0.trans (k0.mono (Nat.le_of_lt x1.lt))
  replace x1 := x1.below k0
  replace x2 := x2.below k0
  replace x3 := x3.below k0
  replace x4 := x4.below k0
  replace x5 := x5.below k0
  replace x6 := x6.below k0
  replace n1 := n1.below k0
  replace n2 := n2.below k0
  replace n3 := n3.below k0
  replace n4 := n4.below k0
  replace n5 := n5.below k0
  replace n6 := n6.below k0
  replace n7 := n7.below k0
  replace htab := htab.below k0
  clear k0
  generalize (w12.alloc (.cells #[.bool s7, .slice a7 l7 c7] 49)) = w13 at *
  generalize w12.heap.size = p7 at *
  go_region_held3 (fun w' => w'.cell? ⟨p1, 0, none⟩ = some (.bool s1) ∧ w'.cell? ⟨p1, 1, none⟩ = some (.slice a1 l1 c1) ∧ w'.cell? ⟨p2, 0, none⟩ = some (.bool s2) ∧ w'.cell? ⟨p2, 1, none⟩ = some (.slice a2 l2 c2) ∧ w'.cell? ⟨p3, 0, none⟩ = some (.bool s3) ∧ w'.cell? ⟨p3, 1, none⟩ = some (.slice a3 l3 c3) ∧ w'.cell? ⟨p4, 0, none⟩ = some (.bool s4) ∧ w'.cell? ⟨p4, 1, none⟩ = some (.slice a4 l4 c4) ∧ w'.cell? ⟨p5, 0, none⟩ = some (.bool s5) ∧ w'.cell? ⟨p5, 1, none⟩ = some (.slice a5 l5 c5) ∧ w'.cell? ⟨p6, 0, none⟩ = some (.bool s6) ∧ w'.cell? ⟨p6, 1, none⟩ = some (.slice a6 l6 c6) ∧ w'.cell? ⟨p7, 0, none⟩ = some (.bool s7) ∧ w'.cell? ⟨p7, 1, none⟩ = some (.slice a7 l7 c7) ∧ Below w13.heap.size w13 w')
    ((refine zk7 x1 x2 x3 x4 x5 x6 x7 ?_; (repeat' (first | with_reducible exact Below.refl _ _ | with_reducible assumption | with_reducible refine grow_step (by with_reducible assumption) ?_ | with_reducible refine grow_drew ?_ | with_reducible refine grow_alloc ?_ _ | with_reducible refine grow_drewN ?_ _))))
    (first | (go_at_call 54; with_reducible refine (rsign_n (Zm.below n1 (by (repeat' (first | with_reducible exact Below.refl _ _ | with_reducible assumption | with_reducible refine grow_step (by with_reducible assumption) ?_ | with_reducible refine grow_drew ?_ | with_reducible refine grow_alloc ?_ _ | with_reducible refine grow_drewN ?_ _)))) (by omega)).mono ?_; rintro e w' ⟨rfl, hg⟩; rw [unhide E6]) | (go_at_call 55; with_reducible refine (rcmp2_n (Zm.below n1 (by (repeat' (first | with_reducible exact Below.refl _ _ | with_reducible assumption | with_reducible refine grow_step (by with_reducible assumption) ?_ | with_reducible refine grow_drew ?_ | with_reducible refine grow_alloc ?_ _ | with_reducible refine grow_drewN ?_ _)))) (Zm.below n2 (by (repeat' (first | with_reducible exact Below.refl _ _ | with_reducible assumption | with_reducible refine grow_step (by with_reducible assumption) ?_ | with_reducible refine grow_drew ?_ | with_reducible refine grow_alloc ?_ _ | with_reducible refine grow_drewN ?_ _)))) (by omega) (by omega)).mono ?_; rintro e w' ⟨rfl, hg⟩; rw [unhide E7]) | (go_at_call 56; with_reducible refine (rneg_n (Zm.below n1 (by (repeat' (first | with_reducible exact Below.refl _ _ | with_reducible assumption | with_reducible refine grow_step (by with_reducible assumption) ?_ | with_reducible refine grow_drew ?_ | with_reducible refine grow_alloc ?_ _ | with_reducible refine grow_drewN ?_ _)))) (by omega)).mono ?_; rintro e w' ⟨sA, aA, lA, cA, rfl, nA, hg, hA⟩) | (go_at_call 43; with_reducible refine (is_t (Zn.below n3 (by (repeat' (first | with_reducible exact Below.refl _ _ | with_reducible assumption | with_reducible refine grow_step (by with_reducible assumption) ?_ | with_reducible refine grow_drew ?_ | with_reducible refine grow_alloc ?_ _ | with_reducible refine grow_drewN ?_ _)))) (Zn.zm (Zn.below nA (by (repeat' (first | with_reducible exact Below.refl _ _ | with_reducible assumption | with_reducible refine grow_step (by with_reducible assumption) ?_ | with_reducible refine grow_drew ?_ | with_reducible refine grow_alloc ?_ _ | with_reducible refine grow_drewN ?_ _))))) (by omega) (by omega) rfl).mono ?_; rintro e w' ⟨rfl, hg⟩) | (go_at_call 57; with_reducible refine (rabs_n (Zm.below n1 (by (repeat' (first | with_reducible exact Below.refl _ _ | with_reducible assumption | with_reducible refine grow_step (by with_reducible assumption) ?_ | with_reducible refine grow_drew ?_ | with_reducible refine grow_alloc ?_ _ | with_reducible refine grow_drewN ?_ _)))) (by omega)).mono ?_; rintro e w' ⟨sB, aB, lB, cB, rfl, nB, hg, hB⟩) | (go_at_call 43; with_reducible refine (is_t (Zn.below n4 (by (repeat' (first | with_reducible exact Below.refl _ _ | with_reducible assumption | with_reducible refine grow_step (by with_reducible assumption) ?_ | with_reducible refine grow_drew ?_ | with_reducible refine grow_alloc ?_ _ | with_reducible refine grow_drewN ?_ _)))) (Zn.zm (Zn.below nB (by (repeat' (first | with_reducible exact Below.refl _ _ | with_reducible assumption | with_reducible refine grow_step (by with_reducible assumption) ?_ | with_reducible refine grow_drew ?_ | with_reducible refine grow_alloc ?_ _ | with_reducible refine grow_drewN ?_ _))))) (by omega) (by omega) rfl).mono ?_; rintro e w' ⟨rfl, hg⟩) | (go_at_call 58; with_reducible refine (radd2_n (Zm.below n1 (by (repeat' (first | with_reducible exact Below.refl _ _ | with_reducible assumption | with_reducible refine grow_step (by with_reducible assumption) ?_ | with_reducible refine grow_drew ?_ | with_reducible refine grow_alloc ?_ _ | with_reducible refine grow_drewN ?_ _)))) (Zm.below n2 (by (repeat' (first | with_reducible exact Below.refl _ _ | with_reducible assumption | with_reducible refine grow_step (by with_reducible assumption) ?_ | with_reducible refine grow_drew ?_ | with_reducible refine grow_alloc ?_ _ | with_reducible refine grow_drewN ?_ _)))) (by omega) (by omega)).mono ?_; rintro e w' ⟨sC, aC, lC, cC, rfl, nC, hg, hC⟩) | (go_at_call 43; with_reducible refine (is_t (Zn.below n5 (by (repeat' (first | with_reducible exact Below.refl _ _ | with_reducible assumption | with_reducible refine grow_step (by with_reducible assumption) ?_ | with_reducible refine grow_drew ?_ | with_reducible refine grow_alloc ?_ _ | with_reducible refine grow_drewN ?_ _)))) (Zn.zm (Zn.below nC (by (repeat' (first | with_reducible exact Below.refl _ _ | with_reducible assumption | with_reducible refine grow_step (by with_reducible assumption) ?_ | with_reducible refine grow_drew ?_ | with_reducible refine grow_alloc ?_ _ | with_reducible refine grow_drewN ?_ _))))) (by omega) (by omega) rfl).mono ?_; rintro e w' ⟨rfl, hg⟩) | (go_at_call 59; with_reducible refine (rsub2_n (Zm.below n1 (by (repeat' (first | with_reducible exact Below.refl _ _ | with_reducible assumption | with_reducible refine grow_step (by with_reducible assumption) ?_ | with_reducible refine grow_drew ?_ | with_reducible refine grow_alloc ?_ _ | with_reducible refine grow_drewN ?_ _)))) (Zm.below n2 (by (repeat' (first | with_reducible exact Below.refl _ _ | with_reducible assumption | with_reducible refine grow_step (by with_reducible assumption) ?_ | with_reducible refine grow_drew ?_ | with_reducible refine grow_alloc ?_ _ | with_reducible refine grow_drewN ?_ _)))) (by omega) (by omega)).mono ?_; rintro e w' ⟨sD, aD, lD, cD, rfl, nD, hg, hD⟩) | (go_at_call 43; with_reducible refine (is_t (Zn.below n6 (by (repeat' (first | with_reducible exact Below.refl _ _ | with_reducible assumption | with_reducible refine grow_step (by with_reducible assumption) ?_ | with_reducible refine grow_drew ?_ | with_reducible refine grow_alloc ?_ _ | with_reducible refine grow_drewN ?_ _)))) (Zn.zm (Zn.below nD (by (repeat' (first | with_reducible exact Below.refl _ _ | with_reducible assumption | with_reducible refine grow_step (by with_reducible assumption) ?_ | with_reducible refine grow_drew ?_ | with_reducible refine grow_alloc ?_ _ | with_reducible refine grow_drewN ?_ _))))) (by omega) (by omega) rfl).mono ?_; rintro e w' ⟨rfl, hg⟩) | (go_at_call 60; with_reducible refine (rmul2_n (Zm.below n1 (by (repeat' (first | with_reducible exact Below.refl _ _ | with_reducible assumption | with_reducible refine grow_step (by with_reducible assumption) ?_ | with_reducible refine grow_drew ?_ | with_reducible refine grow_alloc ?_ _ | with_reducible refine grow_drewN ?_ _)))) (Zm.below n2 (by (repeat' (first | with_reducible exact Below.refl _ _ | with_reducible assumption | with_reducible refine grow_step (by with_reducible assumption) ?_ | with_reducible refine grow_drew ?_ | with_reducible refine grow_alloc ?_ _ | with_reducible refine grow_drewN ?_ _)))) (by omega) (by omega)).mono ?_; rintro e w' ⟨sE, aE, lE, cE, rfl, nE, hg, hE⟩) | (go_at_call 43; with_reducible refine (is_t (Zn.below n7 (by (repeat' (first | with_reducible exact Below.refl _ _ | with_reducible assumption | with_reducible refine grow_step (by with_reducible assumption) ?_ | with_reducible refine grow_drew ?_ | with_reducible refine grow_alloc ?_ _ | with_reducible refine grow_drewN ?_ _)))) (Zn.zm (Zn.below nE (by (repeat' (first | with_reducible exact Below.refl _ _ | with_reducible assumption | with_reducible refine grow_step (by with_reducible assumption) ?_ | with_reducible refine grow_drew ?_ | with_reducible refine grow_alloc ?_ _ | with_reducible refine grow_drewN ?_ _))))) (by omega) (by omega) rfl).mono ?_; rintro e w' ⟨rfl, hg⟩))
  rename_i hH
  have k14 := hH.2.2.2.2.2.2.2.2.2.2.2.2.2.2
  clear hH
  replace b0 := b0.trans (k14.mono (Nat.le_of_lt x1.lt))
  replace x1 := x1.below k14
  replace x2 := x2.below k14
  replace x3 := x3.below k14
  replace x4 := x4.below k14
  replace x5 := x5.below k14
  replace x6 := x6.below k14
  replace x7 := x7.below k14
  replace n1 := n1.below k14
  replace n2 := n2.below k14
  replace n3 := n3.below k14
  replace n4 := n4.below k14
  replace n5 := n5.below k14
  replace n6 := n6.below k14
  replace n7 := n7.below k14
  replace htab := htab.below k14
  clear k14 hg
  generalize w' = w15 at *
  go_wp2_with fail
  go_ret
  exact ⟨by simp, hp.out.symm ▸ b0⟩
end Go.Proofs.YtmbeaopcpckiaaaDoor
