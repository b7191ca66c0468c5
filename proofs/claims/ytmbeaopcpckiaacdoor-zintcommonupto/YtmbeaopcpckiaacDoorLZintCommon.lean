/-
  The walk of the law ZintCommon.
-/
import Derived.Test.YtmbeaopcpckiaacDoorZ8
import Derived.Test.YtmbeaopcpckiaacDoorZk
import Derived.Deep.DeepCutAuto
namespace Go.Proofs.YtmbeaopcpckiaacDoor
open Go.RowKit

set_option maxRecDepth 100000 in
set_option maxHeartbeats 3200000 in
theorem zintCommon_walk {s1 : Bool} {a1 : Option Addr} {l1 c1 : Nat} {z1 : Int} {s2 : Bool} {a2 : Option Addr} {l2 c2 : Nat} {z2 : Int} {w : World} (n1 : Zm w s1 a1 l1 c1 z1) (h1 : l1 ≤ 1048576) (n2 : Zm w s2 a2 l2 c2 z2) (h2 : l2 ≤ 1048576) (htab : Tab w) :
    Calls Tryd.prog 3 #[.agg #[.bool s1, .slice a1 l1 c1], .agg #[.bool s2, .slice a2 l2 c2]] w fun e w' => e = .returned (.bool true) ∧ Below w.heap.size w w' := by
  go_enter Tryd.func3, Tryd.ntmps3
  go_wp2_with fail
  have x1 := (zb_new w s1 a1 l1 c1).below (below_alloc _ (.cells #[.bool s2, .slice a2 l2 c2] 24))
  have x2 := zb_new (w.alloc (.cells #[.bool s1, .slice a1 l1 c1] 24)) s2 a2 l2 c2
  rw [show (w.alloc (.cells #[.bool s1, .slice a1 l1 c1] 24)).heap.size = w.heap.size + 1 from by simp] at x2
  have b0 : Below w.heap.size w ((w.alloc (.cells #[.bool s1, .slice a1 l1 c1] 24)).alloc (.cells #[.bool s2, .slice a2 l2 c2] 24)) := below_alloc' (below_alloc _ _) _
  generalize ((w.alloc (.cells #[.bool s1, .slice a1 l1 c1] 24)).alloc (.cells #[.bool s2, .slice a2 l2 c2] 24)) = wb0 at *
  replace n1 := n1.below b0
  replace n2 := n2.below b0
  replace htab := htab.below b0
  generalize w.heap.size + 1 = p2 at *
  generalize hp : w.heap.size = p1 at *
  replace hp := hide hp
  go_wp2_with fail
  refine (awake_any wb0 htab).mono ?_
  rintro e w1 ⟨rfl, k1⟩
  replace b0 := b0.trans (k1.mono (Nat.le_of_lt x1.lt))
  replace x1 := x1.below k1
  replace x2 := x2.below k1
  replace n1 := n1.below k1
  replace n2 := n2.below k1
  replace htab := htab.below k1
  clear k1
  go_upto_region 2 with (fail)
  have u1 := x1.c0
  have v1 := x1.c1
  have u2 := x2.c0
  have v2 := x2.c1
  go_wp2_with fail
  refine (zgcd2 n1 n2 (by omega) (by omega)).mono ?_
  rintro e w2 ⟨s6, a6, l6, c6, rfl, N6, k2, h6⟩
  clear u1 v1 u2 v2
  replace b0 := b0.trans (k2.mono (Nat.le_of_lt x1.lt))
  replace x1 := x1.below k2
  replace x2 := x2.below k2
  replace n1 := n1.below k2
  replace n2 := n2.below k2
  replace htab := htab.below k2
  clear k2
  have n6 := N6.zm
  clear N6
  go_upto_region 3 with (fail)
  have x6 := zb_new w2 s6 a6 l6 c6
  have k0 : Below w2.heap.size w2 (w2.alloc (.cells #[.bool s6, .slice a6 l6 c6] 24)) := below_alloc _ _
  replace b0 := b0.trans (k0.mono (Nat.le_of_lt x1.lt))
  replace x1 := x1.below k0
  replace x2 := x2.below k0
  replace n1 := n1.below k0
  replace n2 := n2.below k0
  replace n6 := n6.below k0
  replace htab := htab.below k0
  clear k0
  generalize (w2.alloc (.cells #[.bool s6, .slice a6 l6 c6] 24)) = w3 at *
  generalize w2.heap.size = p6 at *
  have u1 := x1.c0
  have v1 := x1.c1
  have u2 := x2.c0
  have v2 := x2.c1
  have u6 := x6.c0
  have v6 := x6.c1
  go_wp2_with fail
  refine (zlcm2 n1 n2 (by omega) (by omega)).mono ?_
  rintro e w4 ⟨s7, a7, l7, c7, rfl, N7, k4, h7⟩
  clear u1 v1 u2 v2 u6 v6
  replace b0 := b0.trans (k4.mono (Nat.le_of_lt x1.lt))
  replace x1 := x1.below k4
  replace x2 := x2.below k4
  replace x6 := x6.below k4
  replace n1 := n1.below k4
  replace n2 := n2.below k4
  replace n6 := n6.below k4
  replace htab := htab.below k4
  clear k4
  have n7 := N7.zm
  clear N7
  have HALL := hide (common_all z1 z2)
  have HN := hide (fun h => gcd_none (z1 := z1) (z2 := z2) h)
  have H1 := hide (gcd_dvd1 z1 z2)
  have H2 := hide (gcd_dvd2 z1 z2)
  have hG0 := gcdI_nonneg z1.natAbs z2.natAbs
  generalize HG : gcdI z1.natAbs z2.natAbs = G at *
  replace HG := hide HG
  generalize lcmI z1.natAbs z2.natAbs = M at *
  go_upto_region 4 with (fail)
  have x7 := zb_new w4 s7 a7 l7 c7
  have k0 : Below w4.heap.size w4 (w4.alloc (.cells #[.bool s7, .slice a7 l7 c7] 24)) := below_alloc _ _
  replace b0 := b0.trans (k0.mono (Nat.le_of_lt x1.lt))
  replace x1 := x1.below k0
  replace x2 := x2.below k0
  replace x6 := x6.below k0
  replace n1 := n1.below k0
  replace n2 := n2.below k0
  replace n6 := n6.below k0
  replace n7 := n7.below k0
  replace htab := htab.below k0
  clear k0
  generalize (w4.alloc (.cells #[.bool s7, .slice a7 l7 c7] 24)) = w5 at *
  generalize w4.heap.size = p7 at *
  go_region_held3 (fun w' => w'.cell? ⟨p1, 0, none⟩ = some (.bool s1) ∧ w'.cell? ⟨p1, 1, none⟩ = some (.slice a1 l1 c1) ∧ w'.cell? ⟨p2, 0, none⟩ = some (.bool s2) ∧ w'.cell? ⟨p2, 1, none⟩ = some (.slice a2 l2 c2) ∧ w'.cell? ⟨p6, 0, none⟩ = some (.bool s6) ∧ w'.cell? ⟨p6, 1, none⟩ = some (.slice a6 l6 c6) ∧ w'.cell? ⟨p7, 0, none⟩ = some (.bool s7) ∧ w'.cell? ⟨p7, 1, none⟩ = some (.slice a7 l7 c7) ∧ Below w5.heap.size w5 w')
    ((refine zk4 x1 x2 x6 x7 ?_; (repeat' (first | with_reducible exact Below.refl _ _ | with_reducible assumption | with_reducible refine grow_step (by with_reducible assumption) ?_ | with_reducible refine grow_drew ?_ | with_reducible refine grow_alloc ?_ _ | with_reducible refine grow_drewN ?_ _))))
    (first | (go_at_call 8; with_reducible refine (zmul_n (Zm.below n6 (by (repeat' (first | with_reducible exact Below.refl _ _ | with_reducible assumption | with_reducible refine grow_step (by with_reducible assumption) ?_ | with_reducible refine grow_drew ?_ | with_reducible refine grow_alloc ?_ _ | with_reducible refine grow_drewN ?_ _)))) (Zm.below n7 (by (repeat' (first | with_reducible exact Below.refl _ _ | with_reducible assumption | with_reducible refine grow_step (by with_reducible assumption) ?_ | with_reducible refine grow_drew ?_ | with_reducible refine grow_alloc ?_ _ | with_reducible refine grow_drewN ?_ _)))) (by omega) (by omega)).mono ?_; rintro e w' ⟨sA, aA, lA, cA, rfl, nA, hg, hA⟩) | (go_at_call 8; with_reducible refine (zmul_n (Zm.below n1 (by (repeat' (first | with_reducible exact Below.refl _ _ | with_reducible assumption | with_reducible refine grow_step (by with_reducible assumption) ?_ | with_reducible refine grow_drew ?_ | with_reducible refine grow_alloc ?_ _ | with_reducible refine grow_drewN ?_ _)))) (Zm.below n2 (by (repeat' (first | with_reducible exact Below.refl _ _ | with_reducible assumption | with_reducible refine grow_step (by with_reducible assumption) ?_ | with_reducible refine grow_drew ?_ | with_reducible refine grow_alloc ?_ _ | with_reducible refine grow_drewN ?_ _)))) (by omega) (by omega)).mono ?_; rintro e w' ⟨sB, aB, lB, cB, rfl, nB, hg, hB⟩) | (go_at_call 9; with_reducible refine (abs_n (Zn.zm (Zn.below nB (by (repeat' (first | with_reducible exact Below.refl _ _ | with_reducible assumption | with_reducible refine grow_step (by with_reducible assumption) ?_ | with_reducible refine grow_drew ?_ | with_reducible refine grow_alloc ?_ _ | with_reducible refine grow_drewN ?_ _))))) (by omega)).mono ?_; rintro e w' ⟨sC, aC, lC, cC, rfl, nC, hg, hC⟩) | (go_at_call 7; with_reducible refine (zcmp_0 (Zn.zm (Zn.below nA (by (repeat' (first | with_reducible exact Below.refl _ _ | with_reducible assumption | with_reducible refine grow_step (by with_reducible assumption) ?_ | with_reducible refine grow_drew ?_ | with_reducible refine grow_alloc ?_ _ | with_reducible refine grow_drewN ?_ _))))) (Zn.zm (Zn.below nC (by (repeat' (first | with_reducible exact Below.refl _ _ | with_reducible assumption | with_reducible refine grow_step (by with_reducible assumption) ?_ | with_reducible refine grow_drew ?_ | with_reducible refine grow_alloc ?_ _ | with_reducible refine grow_drewN ?_ _))))) (by omega) (by omega) (unhide HALL)).mono ?_; rintro e w' ⟨rfl, hg⟩))
  rename_i hH
  have k6 := hH.2.2.2.2.2.2.2.2
  clear hH
  replace b0 := b0.trans (k6.mono (Nat.le_of_lt x1.lt))
  replace x1 := x1.below k6
  replace x2 := x2.below k6
  replace x6 := x6.below k6
  replace x7 := x7.below k6
  replace n1 := n1.below k6
  replace n2 := n2.below k6
  replace n6 := n6.below k6
  replace n7 := n7.below k6
  replace htab := htab.below k6
  clear k6 hg
  generalize w' = w7 at *
  go_upto_region 5 with (fail)
  by_cases hg0 : G = 0
  · obtain ⟨e1, e2⟩ := unhide HN hg0
    have u1 := x1.c0
    have v1 := x1.c1
    have u2 := x2.c0
    have v2 := x2.c1
    have u6 := x6.c0
    have v6 := x6.c1
    have u7 := x7.c0
    have v7 := x7.c1
    go_wp2_with fail
    refine (zsign_n n6 (by omega)).mono ?_
    rintro e w8 ⟨rfl, k8⟩
    clear u1 v1 u2 v2 u6 v6 u7 v7
    replace b0 := b0.trans (k8.mono (Nat.le_of_lt x1.lt))
    replace x1 := x1.below k8
    replace x2 := x2.below k8
    replace x6 := x6.below k8
    replace x7 := x7.below k8
    replace n1 := n1.below k8
    replace n2 := n2.below k8
    replace n6 := n6.below k8
    replace n7 := n7.below k8
    replace htab := htab.below k8
    clear k8
    rw [cmpI_eq hg0]
    go_upto_region 7 with (fail)
    have u1 := x1.c0
    have v1 := x1.c1
    have u2 := x2.c0
    have v2 := x2.c1
    have u6 := x6.c0
    have v6 := x6.c1
    have u7 := x7.c0
    have v7 := x7.c1
    go_wp2_with fail
    refine (zsign_n n1 (by omega)).mono ?_
    rintro e w9 ⟨rfl, k9⟩
    clear u1 v1 u2 v2 u6 v6 u7 v7
    replace b0 := b0.trans (k9.mono (Nat.le_of_lt x1.lt))
    replace x1 := x1.below k9
    replace x2 := x2.below k9
    replace x6 := x6.below k9
    replace x7 := x7.below k9
    replace n1 := n1.below k9
    replace n2 := n2.below k9
    replace n6 := n6.below k9
    replace n7 := n7.below k9
    replace htab := htab.below k9
    clear k9
    rw [cmpI_eq e1]
    go_upto_region 8 with (fail)
    have u1 := x1.c0
    have v1 := x1.c1
    have u2 := x2.c0
    have v2 := x2.c1
    have u6 := x6.c0
    have v6 := x6.c1
    have u7 := x7.c0
    have v7 := x7.c1
    go_wp2_with fail
    refine (zsign_n n2 (by omega)).mono ?_
    rintro e w10 ⟨rfl, k10⟩
    clear u1 v1 u2 v2 u6 v6 u7 v7
    replace b0 := b0.trans (k10.mono (Nat.le_of_lt x1.lt))
    replace x1 := x1.below k10
    replace x2 := x2.below k10
    replace x6 := x6.below k10
    replace x7 := x7.below k10
    replace n1 := n1.below k10
    replace n2 := n2.below k10
    replace n6 := n6.below k10
    replace n7 := n7.below k10
    replace htab := htab.below k10
    clear k10
    rw [cmpI_eq e2]
    go_upto_region 9 with (fail)
    go_wp2_with fail
    go_ret
    exact ⟨by simp, hp.out.symm ▸ b0⟩
  · have hg1 : 0 < G := by omega
    have u1 := x1.c0
    have v1 := x1.c1
    have u2 := x2.c0
    have v2 := x2.c1
    have u6 := x6.c0
    have v6 := x6.c1
    have u7 := x7.c0
    have v7 := x7.c1
    go_wp2_with fail
    refine (zsign_n n6 (by omega)).mono ?_
    rintro e w8 ⟨rfl, k8⟩
    clear u1 v1 u2 v2 u6 v6 u7 v7
    replace b0 := b0.trans (k8.mono (Nat.le_of_lt x1.lt))
    replace x1 := x1.below k8
    replace x2 := x2.below k8
    replace x6 := x6.below k8
    replace x7 := x7.below k8
    replace n1 := n1.below k8
    replace n2 := n2.below k8
    replace n6 := n6.below k8
    replace n7 := n7.below k8
    replace htab := htab.below k8
    clear k8
    rw [cmpI_gt hg1]
    go_upto_region 10 with (fail)
    have u1 := x1.c0
    have v1 := x1.c1
    have u2 := x2.c0
    have v2 := x2.c1
    have u6 := x6.c0
    have v6 := x6.c1
    have u7 := x7.c0
    have v7 := x7.c1
    go_wp2_with fail
    refine (zdivmod_n n1 n6 (by omega) (by omega) hg0).mono ?_
    rintro e w9 ⟨sx, ax, lx, cx, sr, ar, lr, cr, xv, rv, rfl, Nx, Nr, hfd, k9, hx, hr⟩
    clear u1 v1 u2 v2 u6 v6 u7 v7
    replace b0 := b0.trans (k9.mono (Nat.le_of_lt x1.lt))
    replace x1 := x1.below k9
    replace x2 := x2.below k9
    replace x6 := x6.below k9
    replace x7 := x7.below k9
    replace n1 := n1.below k9
    replace n2 := n2.below k9
    replace n6 := n6.below k9
    replace n7 := n7.below k9
    replace htab := htab.below k9
    clear k9
    have nx := Nx.zm
    have nr := Nr.zm
    clear Nx Nr
    obtain ⟨er, ex⟩ := fd_dvd hfd hg1 (unhide H1)
    replace ex := hide ex
    clear hfd
    go_upto_region 11 with (fail)
    have xx := (zb_new w9 sx ax lx cx).below (below_alloc _ (.cells #[.bool sr, .slice ar lr cr] 24))
    have xr := zb_new (w9.alloc (.cells #[.bool sx, .slice ax lx cx] 24)) sr ar lr cr
    rw [show (w9.alloc (.cells #[.bool sx, .slice ax lx cx] 24)).heap.size = w9.heap.size + 1 from by simp] at xr
    have k0 : Below w9.heap.size w9 ((w9.alloc (.cells #[.bool sx, .slice ax lx cx] 24)).alloc (.cells #[.bool sr, .slice ar lr cr] 24)) := below_alloc' (below_alloc _ _) _
    replace b0 := b0.trans (k0.mono (Nat.le_of_lt x1.lt))
    replace x1 := x1.below k0
    replace x2 := x2.below k0
    replace x6 := x6.below k0
    replace x7 := x7.below k0
    replace n1 := n1.below k0
    replace n2 := n2.below k0
    replace n6 := n6.below k0
    replace n7 := n7.below k0
    replace nx := nx.below k0
    replace nr := nr.below k0
    replace htab := htab.below k0
    clear k0
    generalize ((w9.alloc (.cells #[.bool sx, .slice ax lx cx] 24)).alloc (.cells #[.bool sr, .slice ar lr cr] 24)) = w10 at *
    generalize w9.heap.size + 1 = pr at *
    generalize w9.heap.size = px at *
    have u1 := x1.c0
    have v1 := x1.c1
    have u2 := x2.c0
    have v2 := x2.c1
    have u6 := x6.c0
    have v6 := x6.c1
    have u7 := x7.c0
    have v7 := x7.c1
    have ux := xx.c0
    have vx := xx.c1
    have ur := xr.c0
    have vr := xr.c1
    go_wp2_with fail
    refine (zdivmod_n n2 n6 (by omega) (by omega) hg0).mono ?_
    rintro e w11 ⟨sy, ay, ly, cy, so, ao, lo, co, yv, tv, rfl, Ny, No, hfe, k11, hy, ho⟩
    clear u1 v1 u2 v2 u6 v6 u7 v7 ux vx ur vr
    replace b0 := b0.trans (k11.mono (Nat.le_of_lt x1.lt))
    replace x1 := x1.below k11
    replace x2 := x2.below k11
    replace x6 := x6.below k11
    replace x7 := x7.below k11
    replace xx := xx.below k11
    replace xr := xr.below k11
    replace n1 := n1.below k11
    replace n2 := n2.below k11
    replace n6 := n6.below k11
    replace n7 := n7.below k11
    replace nx := nx.below k11
    replace nr := nr.below k11
    replace htab := htab.below k11
    clear k11
    have ny := Ny.zm
    have no := No.zm
    clear Ny No
    obtain ⟨et, ey⟩ := fd_dvd hfe hg1 (unhide H2)
    replace ey := hide ey
    clear hfe
    go_upto_region 12 with (fail)
    have xy := (zb_new w11 sy ay ly cy).below (below_alloc _ (.cells #[.bool so, .slice ao lo co] 24))
    have xo := zb_new (w11.alloc (.cells #[.bool sy, .slice ay ly cy] 24)) so ao lo co
    rw [show (w11.alloc (.cells #[.bool sy, .slice ay ly cy] 24)).heap.size = w11.heap.size + 1 from by simp] at xo
    have k0 : Below w11.heap.size w11 ((w11.alloc (.cells #[.bool sy, .slice ay ly cy] 24)).alloc (.cells #[.bool so, .slice ao lo co] 24)) := below_alloc' (below_alloc _ _) _
    replace b0 := b0.trans (k0.mono (Nat.le_of_lt x1.lt))
    replace x1 := x1.below k0
    replace x2 := x2.below k0
    replace x6 := x6.below k0
    replace x7 := x7.below k0
    replace xx := xx.below k0
    replace xr := xr.below k0
    replace n1 := n1.below k0
    replace n2 := n2.below k0
    replace n6 := n6.below k0
    replace n7 := n7.below k0
    replace nx := nx.below k0
    replace nr := nr.below k0
    replace ny := ny.below k0
    replace no := no.below k0
    replace htab := htab.below k0
    clear k0
    generalize ((w11.alloc (.cells #[.bool sy, .slice ay ly cy] 24)).alloc (.cells #[.bool so, .slice ao lo co] 24)) = w12 at *
    generalize w11.heap.size + 1 = po at *
    generalize w11.heap.size = py at *
    have u1 := x1.c0
    have v1 := x1.c1
    have u2 := x2.c0
    have v2 := x2.c1
    have u6 := x6.c0
    have v6 := x6.c1
    have u7 := x7.c0
    have v7 := x7.c1
    have ux := xx.c0
    have vx := xx.c1
    have ur := xr.c0
    have vr := xr.c1
    have uy := xy.c0
    have vy := xy.c1
    have uo := xo.c0
    have vo := xo.c1
    go_wp2_with fail
    refine (zsign_n nr (by omega)).mono ?_
    rintro e w13 ⟨rfl, k13⟩
    clear u1 v1 u2 v2 u6 v6 u7 v7 ux vx ur vr uy vy uo vo
    replace b0 := b0.trans (k13.mono (Nat.le_of_lt x1.lt))
    replace x1 := x1.below k13
    replace x2 := x2.below k13
    replace x6 := x6.below k13
    replace x7 := x7.below k13
    replace xx := xx.below k13
    replace xr := xr.below k13
    replace xy := xy.below k13
    replace xo := xo.below k13
    replace n1 := n1.below k13
    replace n2 := n2.below k13
    replace n6 := n6.below k13
    replace n7 := n7.below k13
    replace nx := nx.below k13
    replace nr := nr.below k13
    replace ny := ny.below k13
    replace no := no.below k13
    replace htab := htab.below k13
    clear k13
    rw [cmpI_eq er]
    go_upto_region 13 with (fail)
    have u1 := x1.c0
    have v1 := x1.c1
    have u2 := x2.c0
    have v2 := x2.c1
    have u6 := x6.c0
    have v6 := x6.c1
    have u7 := x7.c0
    have v7 := x7.c1
    have ux := xx.c0
    have vx := xx.c1
    have ur := xr.c0
    have vr := xr.c1
    have uy := xy.c0
    have vy := xy.c1
    have uo := xo.c0
    have vo := xo.c1
    go_wp2_with fail
    refine (zsign_n no (by omega)).mono ?_
    rintro e w14 ⟨rfl, k14⟩
    clear u1 v1 u2 v2 u6 v6 u7 v7 ux vx ur vr uy vy uo vo
    replace b0 := b0.trans (k14.mono (Nat.le_of_lt x1.lt))
    replace x1 := x1.below k14
    replace x2 := x2.below k14
    replace x6 := x6.below k14
    replace x7 := x7.below k14
    replace xx := xx.below k14
    replace xr := xr.below k14
    replace xy := xy.below k14
    replace xo := xo.below k14
    replace n1 := n1.below k14
    replace n2 := n2.below k14
    replace n6 := n6.below k14
    replace n7 := n7.below k14
    replace nx := nx.below k14
    replace nr := nr.below k14
    replace ny := ny.below k14
    replace no := no.below k14
    replace htab := htab.below k14
    clear k14
    rw [cmpI_eq et]
    go_upto_region 14 with (fail)
    have u1 := x1.c0
    have v1 := x1.c1
    have u2 := x2.c0
    have v2 := x2.c1
    have u6 := x6.c0
    have v6 := x6.c1
    have u7 := x7.c0
    have v7 := x7.c1
    have ux := xx.c0
    have vx := xx.c1
    have ur := xr.c0
    have vr := xr.c1
    have uy := xy.c0
    have vy := xy.c1
    have uo := xo.c0
    have vo := xo.c1
    go_wp2_with fail
    refine (zgcd2 nx ny (by omega) (by omega)).mono ?_
    rintro e w15 ⟨s8, a8, l8, c8, rfl, N8, k15, h8⟩
    clear u1 v1 u2 v2 u6 v6 u7 v7 ux vx ur vr uy vy uo vo
    replace b0 := b0.trans (k15.mono (Nat.le_of_lt x1.lt))
    replace x1 := x1.below k15
    replace x2 := x2.below k15
    replace x6 := x6.below k15
    replace x7 := x7.below k15
    replace xx := xx.below k15
    replace xr := xr.below k15
    replace xy := xy.below k15
    replace xo := xo.below k15
    replace n1 := n1.below k15
    replace n2 := n2.below k15
    replace n6 := n6.below k15
    replace n7 := n7.below k15
    replace nx := nx.below k15
    replace nr := nr.below k15
    replace ny := ny.below k15
    replace no := no.below k15
    replace htab := htab.below k15
    clear k15
    have n8 := N8.zm
    clear N8
    go_wp2_with fail
    refine (zof_n 1 (by decide) (by decide) w15).mono ?_
    rintro e w16 ⟨s9, a9, l9, c9, rfl, N9, k16, h9⟩
    replace b0 := b0.trans (k16.mono (Nat.le_of_lt x1.lt))
    replace x1 := x1.below k16
    replace x2 := x2.below k16
    replace x6 := x6.below k16
    replace x7 := x7.below k16
    replace xx := xx.below k16
    replace xr := xr.below k16
    replace xy := xy.below k16
    replace xo := xo.below k16
    replace n1 := n1.below k16
    replace n2 := n2.below k16
    replace n6 := n6.below k16
    replace n7 := n7.below k16
    replace nx := nx.below k16
    replace nr := nr.below k16
    replace ny := ny.below k16
    replace no := no.below k16
    replace n8 := n8.below k16
    replace htab := htab.below k16
    clear k16
    have n9 := N9.zm
    clear N9
    go_wp2_with fail
    refine (zcmp_0 n8 n9 (by omega) (by omega) (gcd_apart (unhide HG) hg1 (unhide ex) (unhide ey))).mono ?_
    rintro e w17 ⟨rfl, k17⟩
    replace b0 := b0.trans (k17.mono (Nat.le_of_lt x1.lt))
    replace x1 := x1.below k17
    replace x2 := x2.below k17
    replace x6 := x6.below k17
    replace x7 := x7.below k17
    replace xx := xx.below k17
    replace xr := xr.below k17
    replace xy := xy.below k17
    replace xo := xo.below k17
    replace n1 := n1.below k17
    replace n2 := n2.below k17
    replace n6 := n6.below k17
    replace n7 := n7.below k17
    replace nx := nx.below k17
    replace nr := nr.below k17
    replace ny := ny.below k17
    replace no := no.below k17
    replace n8 := n8.below k17
    replace n9 := n9.below k17
    replace htab := htab.below k17
    clear k17
    go_upto_region 15 with (fail)
    go_wp2_with fail
    go_ret
    exact ⟨by simp, hp.out.symm ▸ b0⟩
end Go.Proofs.YtmbeaopcpckiaacDoor
