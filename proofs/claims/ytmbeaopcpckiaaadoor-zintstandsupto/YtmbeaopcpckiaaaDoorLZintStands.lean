/-
  The walk of the law ZintStands.
-/
import Derived.Test.YtmbeaopcpckiaaaDoorZ7
import Derived.Test.YtmbeaopcpckiaaaDoorZ9
import Derived.Test.YtmbeaopcpckiaaaDoorZA
import Derived.Test.YtmbeaopcpckiaaaDoorZk
import Derived.Deep.DeepCutAuto
namespace Go.Proofs.YtmbeaopcpckiaaaDoor
open Go.RowKit

set_option maxRecDepth 100000 in
set_option maxHeartbeats 3200000 in
theorem zintStands_in {s1 : Bool} {a1 : Option Addr} {l1 c1 : Nat} {xs : List Int} {m : Int} {w : World} (rd : Rd w a1 l1 c1 xs) (h1' : l1 ≤ 1048576) (h0 : -9223372036854775808 ≤ m) (h1 : m ≤ 9223372036854775807) (htab : Tab w) (f0 : -9223372036854775808 ≤ sg s1 (val xs)) (f1 : sg s1 (val xs) ≤ 9223372036854775807) :
    Calls Tryd.prog 7 #[.agg #[.bool s1, .slice a1 l1 c1], .int .i64 m] w fun e w' => e = .returned (.bool true) ∧ Below w.heap.size w w' := by
  have n1 : Zm w s1 a1 l1 c1 (sg s1 (val xs)) := ⟨val xs, ⟨xs, rd, rfl⟩, rfl⟩
  go_enter Tryd.func7, Tryd.ntmps7
  go_wp2_with fail
  have x1 := zb_new w s1 a1 l1 c1
  have b0 : Below w.heap.size w (w.alloc (.cells #[.bool s1, .slice a1 l1 c1] 49)) := below_alloc _ _
  generalize (w.alloc (.cells #[.bool s1, .slice a1 l1 c1] 49)) = wb0 at *
  replace n1 := n1.below b0
  replace htab := htab.below b0
  replace rd := rd.below b0
  generalize hp : w.heap.size = p1 at *
  replace hp := hide hp
  go_wp2_with fail
  refine (awake_any wb0 htab).mono ?_
  rintro e w1 ⟨rfl, k1⟩
  replace b0 := b0.trans (k1.mono (Nat.le_of_lt x1.lt))
  replace x1 := x1.below k1
  replace n1 := n1.below k1
  replace htab := htab.below k1
  replace rd := rd.below k1
  clear k1
  go_upto_region 2 with (fail)
  have u1 := x1.c0
  have v1 := x1.c1
  go_wp2_with fail
  refine (zof_n m h0 h1 w1).mono ?_
  rintro e w2 ⟨s3, a3, l3, c3, rfl, n3, k2, h3⟩
  clear u1 v1
  replace b0 := b0.trans (k2.mono (Nat.le_of_lt x1.lt))
  replace x1 := x1.below k2
  replace n1 := n1.below k2
  replace htab := htab.below k2
  replace rd := rd.below k2
  clear k2
  go_upto_region 3 with (fail)
  have x3 := zb_new w2 s3 a3 l3 c3
  have k0 : Below w2.heap.size w2 (w2.alloc (.cells #[.bool s3, .slice a3 l3 c3] 49)) := below_alloc _ _
  replace b0 := b0.trans (k0.mono (Nat.le_of_lt x1.lt))
  replace x1 := x1.below k0
  replace n1 := n1.below k0
  replace n3 := n3.below k0
  replace htab := htab.below k0
  replace rd := rd.below k0
  clear k0
  generalize (w2.alloc (.cells #[.bool s3, .slice a3 l3 c3] 49)) = w3 at *
  generalize w2.heap.size = p3 at *
  have u1 := x1.c0
  have v1 := x1.c1
  have u3 := x3.c0
  have v3 := x3.c1
  go_wp2_with fail
  refine (zint64_in n3.zm (by omega) h0 h1).mono ?_
  rintro e w4 ⟨rfl, k4⟩
  clear u1 v1 u3 v3
  replace b0 := b0.trans (k4.mono (Nat.le_of_lt x1.lt))
  replace x1 := x1.below k4
  replace x3 := x3.below k4
  replace n1 := n1.below k4
  replace n3 := n3.below k4
  replace htab := htab.below k4
  replace rd := rd.below k4
  clear k4
  go_upto_region 4 with (fail)
  have u1 := x1.c0
  have v1 := x1.c1
  have u3 := x3.c0
  have v3 := x3.c1
  go_wp2_with fail
  refine (norm_n n1 (by omega)).mono ?_
  rintro e w5 ⟨s4, a4, l4, c4, rfl, n4, k5, h4⟩
  clear u1 v1 u3 v3
  replace b0 := b0.trans (k5.mono (Nat.le_of_lt x1.lt))
  replace x1 := x1.below k5
  replace x3 := x3.below k5
  replace n1 := n1.below k5
  replace n3 := n3.below k5
  replace htab := htab.below k5
  replace rd := rd.below k5
  clear k5
  go_upto_region 5 with (fail)
  have x4 := zb_new w5 s4 a4 l4 c4
  have k0 : Below w5.heap.size w5 (w5.alloc (.cells #[.bool s4, .slice a4 l4 c4] 49)) := below_alloc _ _
  replace b0 := b0.trans (k0.mono (Nat.le_of_lt x1.lt))
  replace x1 := x1.below k0
  replace x3 := x3.below k0
  replace n1 := n1.below k0
  replace n3 := n3.below k0
  replace n4 := n4.below k0
  replace htab := htab.below k0
  replace rd := rd.below k0
  clear k0
  generalize (w5.alloc (.cells #[.bool s4, .slice a4 l4 c4] 49)) = w6 at *
  generalize w5.heap.size = p4 at *
  have u1 := x1.c0
  have v1 := x1.c1
  have u3 := x3.c0
  have v3 := x3.c1
  have u4 := x4.c0
  have v4 := x4.c1
  go_wp2_with fail
  refine (zvalid_n rd).mono ?_
  rintro e w7 ⟨rfl, k7⟩
  clear u1 v1 u3 v3 u4 v4
  replace b0 := b0.trans (k7.mono (Nat.le_of_lt x1.lt))
  replace x1 := x1.below k7
  replace x3 := x3.below k7
  replace x4 := x4.below k7
  replace n1 := n1.below k7
  replace n3 := n3.below k7
  replace n4 := n4.below k7
  replace htab := htab.below k7
  replace rd := rd.below k7
  clear k7
  generalize EV : StandsB s1 l1 xs = v10 at *
  replace EV := hide EV
  go_upto_region 6 with (fail)
  have u1 := x1.c0
  have v1 := x1.c1
  have u3 := x3.c0
  have v3 := x3.c1
  have u4 := x4.c0
  have v4 := x4.c1
  go_wp2_with fail
  refine (zint64_in n1 (by omega) f0 f1).mono ?_
  rintro e w8 ⟨rfl, k8⟩
  clear u1 v1 u3 v3 u4 v4
  replace b0 := b0.trans (k8.mono (Nat.le_of_lt x1.lt))
  replace x1 := x1.below k8
  replace x3 := x3.below k8
  replace x4 := x4.below k8
  replace n1 := n1.below k8
  replace n3 := n3.below k8
  replace n4 := n4.below k8
  replace htab := htab.below k8
  replace rd := rd.below k8
  clear k8
  go_upto_region 7 with (fail)
  have u1 := x1.c0
  have v1 := x1.c1
  have u3 := x3.c0
  have v3 := x3.c1
  have u4 := x4.c0
  have v4 := x4.c1
  go_wp2_with fail
  refine (rint64_in n1 (by omega) f0 f1).mono ?_
  rintro e w9 ⟨rfl, k9⟩
  clear u1 v1 u3 v3 u4 v4
  replace b0 := b0.trans (k9.mono (Nat.le_of_lt x1.lt))
  replace x1 := x1.below k9
  replace x3 := x3.below k9
  replace x4 := x4.below k9
  replace n1 := n1.below k9
  replace n3 := n3.below k9
  replace n4 := n4.below k9
  replace htab := htab.below k9
  replace rd := rd.below k9
  clear k9
  go_upto_region 8 with (fail)
  go_region_held3 (fun w' => w'.cell? ⟨p1, 0, none⟩ = some (.bool s1) ∧ w'.cell? ⟨p1, 1, none⟩ = some (.slice a1 l1 c1) ∧ w'.cell? ⟨p3, 0, none⟩ = some (.bool s3) ∧ w'.cell? ⟨p3, 1, none⟩ = some (.slice a3 l3 c3) ∧ w'.cell? ⟨p4, 0, none⟩ = some (.bool s4) ∧ w'.cell? ⟨p4, 1, none⟩ = some (.slice a4 l4 c4) ∧ Below w9.heap.size w9 w')
    ((refine zk3 x1 x3 x4 ?_; (repeat' (first | with_reducible exact Below.refl _ _ | with_reducible assumption | with_reducible refine grow_step (by with_reducible assumption) ?_ | with_reducible refine grow_drew ?_ | with_reducible refine grow_alloc ?_ _ | with_reducible refine grow_drewN ?_ _))))
    (first | (go_at_call 44; with_reducible refine (rof_n m h0 h1 _).mono ?_; rintro e w' ⟨sA, aA, lA, cA, rfl, nA, hg, hA⟩) | (go_at_call 43; with_reducible refine (is_t (Zn.below n3 (by (repeat' (first | with_reducible exact Below.refl _ _ | with_reducible assumption | with_reducible refine grow_step (by with_reducible assumption) ?_ | with_reducible refine grow_drew ?_ | with_reducible refine grow_alloc ?_ _ | with_reducible refine grow_drewN ?_ _)))) (Zn.zm (Zn.below nA (by (repeat' (first | with_reducible exact Below.refl _ _ | with_reducible assumption | with_reducible refine grow_step (by with_reducible assumption) ?_ | with_reducible refine grow_drew ?_ | with_reducible refine grow_alloc ?_ _ | with_reducible refine grow_drewN ?_ _))))) (by omega) (by omega) rfl).mono ?_; rintro e w' ⟨rfl, hg⟩) | (go_at_call 45; with_reducible refine (rnorm_n (Zm.below n1 (by (repeat' (first | with_reducible exact Below.refl _ _ | with_reducible assumption | with_reducible refine grow_step (by with_reducible assumption) ?_ | with_reducible refine grow_drew ?_ | with_reducible refine grow_alloc ?_ _ | with_reducible refine grow_drewN ?_ _)))) (by omega)).mono ?_; rintro e w' ⟨sB, aB, lB, cB, rfl, nB, hg, hB⟩) | (go_at_call 43; with_reducible refine (is_t (Zn.below n4 (by (repeat' (first | with_reducible exact Below.refl _ _ | with_reducible assumption | with_reducible refine grow_step (by with_reducible assumption) ?_ | with_reducible refine grow_drew ?_ | with_reducible refine grow_alloc ?_ _ | with_reducible refine grow_drewN ?_ _)))) (Zn.zm (Zn.below nB (by (repeat' (first | with_reducible exact Below.refl _ _ | with_reducible assumption | with_reducible refine grow_step (by with_reducible assumption) ?_ | with_reducible refine grow_drew ?_ | with_reducible refine grow_alloc ?_ _ | with_reducible refine grow_drewN ?_ _))))) (by omega) (by omega) rfl).mono ?_; rintro e w' ⟨rfl, hg⟩) | (go_at_call 46; with_reducible refine (rvalid_n (Rd.below rd (by (repeat' (first | with_reducible exact Below.refl _ _ | with_reducible assumption | with_reducible refine grow_step (by with_reducible assumption) ?_ | with_reducible refine grow_drew ?_ | with_reducible refine grow_alloc ?_ _ | with_reducible refine grow_drewN ?_ _)))) (by omega)).mono ?_; rintro e w' ⟨rfl, hg⟩; rw [unhide EV]))
  rename_i hH
  have k10 := hH.2.2.2.2.2.2
  clear hH
  replace b0 := b0.trans (k10.mono (Nat.le_of_lt x1.lt))
  replace x1 := x1.below k10
  replace x3 := x3.below k10
  replace x4 := x4.below k10
  replace n1 := n1.below k10
  replace n3 := n3.below k10
  replace n4 := n4.below k10
  replace htab := htab.below k10
  replace rd := rd.below k10
  clear k10 hg
  generalize w' = w11 at *
  go_wp2_with fail
  go_ret
  exact ⟨by simp, hp.out.symm ▸ b0⟩

set_option maxRecDepth 100000 in
set_option maxHeartbeats 3200000 in
theorem zintStands_out {s1 : Bool} {a1 : Option Addr} {l1 c1 : Nat} {xs : List Int} {m : Int} {w : World} (rd : Rd w a1 l1 c1 xs) (h1' : l1 ≤ 1048576) (h0 : -9223372036854775808 ≤ m) (h1 : m ≤ 9223372036854775807) (htab : Tab w) (f0 : sg s1 (val xs) < -9223372036854775808 ∨ 9223372036854775807 < sg s1 (val xs)) :
    Calls Tryd.prog 7 #[.agg #[.bool s1, .slice a1 l1 c1], .int .i64 m] w fun e w' => e = .returned (.bool true) ∧ Below w.heap.size w w' := by
  have n1 : Zm w s1 a1 l1 c1 (sg s1 (val xs)) := ⟨val xs, ⟨xs, rd, rfl⟩, rfl⟩
  go_enter Tryd.func7, Tryd.ntmps7
  go_wp2_with fail
  have x1 := zb_new w s1 a1 l1 c1
  have b0 : Below w.heap.size w (w.alloc (.cells #[.bool s1, .slice a1 l1 c1] 49)) := below_alloc _ _
  generalize (w.alloc (.cells #[.bool s1, .slice a1 l1 c1] 49)) = wb0 at *
  replace n1 := n1.below b0
  replace htab := htab.below b0
  replace rd := rd.below b0
  generalize hp : w.heap.size = p1 at *
  replace hp := hide hp
  go_wp2_with fail
  refine (awake_any wb0 htab).mono ?_
  rintro e w1 ⟨rfl, k1⟩
  replace b0 := b0.trans (k1.mono (Nat.le_of_lt x1.lt))
  replace x1 := x1.below k1
  replace n1 := n1.below k1
  replace htab := htab.below k1
  replace rd := rd.below k1
  clear k1
  go_upto_region 2 with (fail)
  have u1 := x1.c0
  have v1 := x1.c1
  go_wp2_with fail
  refine (zof_n m h0 h1 w1).mono ?_
  rintro e w2 ⟨s3, a3, l3, c3, rfl, n3, k2, h3⟩
  clear u1 v1
  replace b0 := b0.trans (k2.mono (Nat.le_of_lt x1.lt))
  replace x1 := x1.below k2
  replace n1 := n1.below k2
  replace htab := htab.below k2
  replace rd := rd.below k2
  clear k2
  go_upto_region 3 with (fail)
  have x3 := zb_new w2 s3 a3 l3 c3
  have k0 : Below w2.heap.size w2 (w2.alloc (.cells #[.bool s3, .slice a3 l3 c3] 49)) := below_alloc _ _
  replace b0 := b0.trans (k0.mono (Nat.le_of_lt x1.lt))
  replace x1 := x1.below k0
  replace n1 := n1.below k0
  replace n3 := n3.below k0
  replace htab := htab.below k0
  replace rd := rd.below k0
  clear k0
  generalize (w2.alloc (.cells #[.bool s3, .slice a3 l3 c3] 49)) = w3 at *
  generalize w2.heap.size = p3 at *
  have u1 := x1.c0
  have v1 := x1.c1
  have u3 := x3.c0
  have v3 := x3.c1
  go_wp2_with fail
  refine (zint64_in n3.zm (by omega) h0 h1).mono ?_
  rintro e w4 ⟨rfl, k4⟩
  clear u1 v1 u3 v3
  replace b0 := b0.trans (k4.mono (Nat.le_of_lt x1.lt))
  replace x1 := x1.below k4
  replace x3 := x3.below k4
  replace n1 := n1.below k4
  replace n3 := n3.below k4
  replace htab := htab.below k4
  replace rd := rd.below k4
  clear k4
  go_upto_region 4 with (fail)
  have u1 := x1.c0
  have v1 := x1.c1
  have u3 := x3.c0
  have v3 := x3.c1
  go_wp2_with fail
  refine (norm_n n1 (by omega)).mono ?_
  rintro e w5 ⟨s4, a4, l4, c4, rfl, n4, k5, h4⟩
  clear u1 v1 u3 v3
  replace b0 := b0.trans (k5.mono (Nat.le_of_lt x1.lt))
  replace x1 := x1.below k5
  replace x3 := x3.below k5
  replace n1 := n1.below k5
  replace n3 := n3.below k5
  replace htab := htab.below k5
  replace rd := rd.below k5
  clear k5
  go_upto_region 5 with (fail)
  have x4 := zb_new w5 s4 a4 l4 c4
  have k0 : Below w5.heap.size w5 (w5.alloc (.cells #[.bool s4, .slice a4 l4 c4] 49)) := below_alloc _ _
  replace b0 := b0.trans (k0.mono (Nat.le_of_lt x1.lt))
  replace x1 := x1.below k0
  replace x3 := x3.below k0
  replace n1 := n1.below k0
  replace n3 := n3.below k0
  replace n4 := n4.below k0
  replace htab := htab.below k0
  replace rd := rd.below k0
  clear k0
  generalize (w5.alloc (.cells #[.bool s4, .slice a4 l4 c4] 49)) = w6 at *
  generalize w5.heap.size = p4 at *
  have u1 := x1.c0
  have v1 := x1.c1
  have u3 := x3.c0
  have v3 := x3.c1
  have u4 := x4.c0
  have v4 := x4.c1
  go_wp2_with fail
  refine (zvalid_n rd).mono ?_
  rintro e w7 ⟨rfl, k7⟩
  clear u1 v1 u3 v3 u4 v4
  replace b0 := b0.trans (k7.mono (Nat.le_of_lt x1.lt))
  replace x1 := x1.below k7
  replace x3 := x3.below k7
  replace x4 := x4.below k7
  replace n1 := n1.below k7
  replace n3 := n3.below k7
  replace n4 := n4.below k7
  replace htab := htab.below k7
  replace rd := rd.below k7
  clear k7
  generalize EV : StandsB s1 l1 xs = v10 at *
  replace EV := hide EV
  go_upto_region 6 with (fail)
  have u1 := x1.c0
  have v1 := x1.c1
  have u3 := x3.c0
  have v3 := x3.c1
  have u4 := x4.c0
  have v4 := x4.c1
  go_wp2_with fail
  refine (zint64_out n1 (by omega) f0).mono ?_
  rintro e w8 ⟨rfl, k8⟩
  clear u1 v1 u3 v3 u4 v4
  replace b0 := b0.trans (k8.mono (Nat.le_of_lt x1.lt))
  replace x1 := x1.below k8
  replace x3 := x3.below k8
  replace x4 := x4.below k8
  replace n1 := n1.below k8
  replace n3 := n3.below k8
  replace n4 := n4.below k8
  replace htab := htab.below k8
  replace rd := rd.below k8
  clear k8
  go_upto_region 7 with (fail)
  have u1 := x1.c0
  have v1 := x1.c1
  have u3 := x3.c0
  have v3 := x3.c1
  have u4 := x4.c0
  have v4 := x4.c1
  go_wp2_with fail
  refine (rint64_out n1 (by omega) f0).mono ?_
  rintro e w9 ⟨rfl, k9⟩
  clear u1 v1 u3 v3 u4 v4
  replace b0 := b0.trans (k9.mono (Nat.le_of_lt x1.lt))
  replace x1 := x1.below k9
  replace x3 := x3.below k9
  replace x4 := x4.below k9
  replace n1 := n1.below k9
  replace n3 := n3.below k9
  replace n4 := n4.below k9
  replace htab := htab.below k9
  replace rd := rd.below k9
  clear k9
  go_upto_region 8 with (fail)
  go_region_held3 (fun w' => w'.cell? ⟨p1, 0, none⟩ = some (.bool s1) ∧ w'.cell? ⟨p1, 1, none⟩ = some (.slice a1 l1 c1) ∧ w'.cell? ⟨p3, 0, none⟩ = some (.bool s3) ∧ w'.cell? ⟨p3, 1, none⟩ = some (.slice a3 l3 c3) ∧ w'.cell? ⟨p4, 0, none⟩ = some (.bool s4) ∧ w'.cell? ⟨p4, 1, none⟩ = some (.slice a4 l4 c4) ∧ Below w9.heap.size w9 w')
    ((refine zk3 x1 x3 x4 ?_; (repeat' (first | with_reducible exact Below.refl _ _ | with_reducible assumption | with_reducible refine grow_step (by with_reducible assumption) ?_ | with_reducible refine grow_drew ?_ | with_reducible refine grow_alloc ?_ _ | with_reducible refine grow_drewN ?_ _))))
    (first | (go_at_call 44; with_reducible refine (rof_n m h0 h1 _).mono ?_; rintro e w' ⟨sA, aA, lA, cA, rfl, nA, hg, hA⟩) | (go_at_call 43; with_reducible refine (is_t (Zn.below n3 (by (repeat' (first | with_reducible exact Below.refl _ _ | with_reducible assumption | with_reducible refine grow_step (by with_reducible assumption) ?_ | with_reducible refine grow_drew ?_ | with_reducible refine grow_alloc ?_ _ | with_reducible refine grow_drewN ?_ _)))) (Zn.zm (Zn.below nA (by (repeat' (first | with_reducible exact Below.refl _ _ | with_reducible assumption | with_reducible refine grow_step (by with_reducible assumption) ?_ | with_reducible refine grow_drew ?_ | with_reducible refine grow_alloc ?_ _ | with_reducible refine grow_drewN ?_ _))))) (by omega) (by omega) rfl).mono ?_; rintro e w' ⟨rfl, hg⟩) | (go_at_call 45; with_reducible refine (rnorm_n (Zm.below n1 (by (repeat' (first | with_reducible exact Below.refl _ _ | with_reducible assumption | with_reducible refine grow_step (by with_reducible assumption) ?_ | with_reducible refine grow_drew ?_ | with_reducible refine grow_alloc ?_ _ | with_reducible refine grow_drewN ?_ _)))) (by omega)).mono ?_; rintro e w' ⟨sB, aB, lB, cB, rfl, nB, hg, hB⟩) | (go_at_call 43; with_reducible refine (is_t (Zn.below n4 (by (repeat' (first | with_reducible exact Below.refl _ _ | with_reducible assumption | with_reducible refine grow_step (by with_reducible assumption) ?_ | with_reducible refine grow_drew ?_ | with_reducible refine grow_alloc ?_ _ | with_reducible refine grow_drewN ?_ _)))) (Zn.zm (Zn.below nB (by (repeat' (first | with_reducible exact Below.refl _ _ | with_reducible assumption | with_reducible refine grow_step (by with_reducible assumption) ?_ | with_reducible refine grow_drew ?_ | with_reducible refine grow_alloc ?_ _ | with_reducible refine grow_drewN ?_ _))))) (by omega) (by omega) rfl).mono ?_; rintro e w' ⟨rfl, hg⟩) | (go_at_call 46; with_reducible refine (rvalid_n (Rd.below rd (by (repeat' (first | with_reducible exact Below.refl _ _ | with_reducible assumption | with_reducible refine grow_step (by with_reducible assumption) ?_ | with_reducible refine grow_drew ?_ | with_reducible refine grow_alloc ?_ _ | with_reducible refine grow_drewN ?_ _)))) (by omega)).mono ?_; rintro e w' ⟨rfl, hg⟩; rw [unhide EV]))
  rename_i hH
  have k10 := hH.2.2.2.2.2.2
  clear hH
  replace b0 := b0.trans (k10.mono (Nat.le_of_lt x1.lt))
  replace x1 := x1.below k10
  replace x3 := x3.below k10
  replace x4 := x4.below k10
  replace n1 := n1.below k10
  replace n3 := n3.below k10
  replace n4 := n4.below k10
  replace htab := htab.below k10
  replace rd := rd.below k10
  clear k10 hg
  generalize w' = w11 at *
  go_wp2_with fail
  go_ret
  exact ⟨by simp, hp.out.symm ▸ b0⟩

theorem zintStands_walk {s1 : Bool} {a1 : Option Addr} {l1 c1 : Nat} {xs : List Int} {m : Int} {w : World} (rd : Rd w a1 l1 c1 xs) (h1' : l1 ≤ 1048576) (h0 : -9223372036854775808 ≤ m) (h1 : m ≤ 9223372036854775807) (htab : Tab w) :
    Calls Tryd.prog 7 #[.agg #[.bool s1, .slice a1 l1 c1], .int .i64 m] w fun e w' => e = .returned (.bool true) ∧ Below w.heap.size w w' := by
  by_cases f : -9223372036854775808 ≤ sg s1 (val xs) ∧ sg s1 (val xs) ≤ 9223372036854775807
  · exact zintStands_in rd h1' h0 h1 htab f.1 f.2
  · exact zintStands_out rd h1' h0 h1 htab (by omega)

theorem zintStands_go {s1 : Bool} {a1 : Option Addr} {l1 c1 : Nat} {z m : Int} {w : World} (n1 : Zm w s1 a1 l1 c1 z) (h1' : l1 ≤ 1048576) (h0 : -9223372036854775808 ≤ m) (h1 : m ≤ 9223372036854775807) (htab : Tab w) :
    Calls Tryd.prog 7 #[.agg #[.bool s1, .slice a1 l1 c1], .int .i64 m] w fun e w' => e = .returned (.bool true) ∧ Below w.heap.size w w' := by
  obtain ⟨n, ⟨xs, rd, -⟩, -⟩ := n1
  exact zintStands_walk rd h1' h0 h1 htab
end Go.Proofs.YtmbeaopcpckiaaaDoor
