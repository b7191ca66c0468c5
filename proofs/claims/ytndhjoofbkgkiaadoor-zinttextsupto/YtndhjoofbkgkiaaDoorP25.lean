/-
 The walk of the law ZintTexts.
-/
import Derived.Test.YtndhjoofbkgkiaaDoorP15
import Derived.Test.YtndhjoofbkgkiaaDoorP24
import Derived.Deep.RegionHeld3
import Derived.Test.YtndhjoofbkgkiaaDoorP14
import Derived.Deep.DeepCutAuto
namespace Go.Proofs.YtndhjoofbkgkiaaDoor
open Go.RowKit

set_option maxRecDepth 100000 in
set_option maxHeartbeats 3200000 in
theorem zintTexts_walk {s : ByteArray} {s1 : Bool} {a1 : Option Addr} {l1 c1 : Nat} {xs : List Int} {w : World} (hs : s.size ≤ 1048576) (rd : Rd w a1 l1 c1 xs) (h1' : l1 ≤ 1048576) (htab : Tab w) :
  Calls Tryd.prog 6 #[.string s, .agg #[.bool s1, .slice a1 l1 c1]] w fun e w' => e = .returned (.bool true) ∧ Below w.heap.size w w' := by
 have n1 : Zm w s1 a1 l1 c1 (sg s1 (val xs)) := ⟨val xs, ⟨xs, rd, rfl⟩, rfl⟩
 go_enter Tryd.func6, Tryd.ntmps6
 go_wp2_with fail
 have x1 := zb_new w s1 a1 l1 c1
 have b0 : Below w.heap.size w (w.alloc (.cells #[.bool s1, .slice a1 l1 c1] 41)) := below_alloc _ _
 generalize (w.alloc (.cells #[.bool s1, .slice a1 l1 c1] 41)) = wb0 at *
 replace n1 := n1.below b0
 replace htab := htab.below b0
 replace rd := rd.below b0
 generalize hp : w.heap.size = p1 at *
 replace hp := hide hp
 go_wp2_with fail
 refine (awake_any wb0 htab).mono ?_
 rintro e w1 ⟨rfl, k1⟩
 replace b0 := b0.trans (k1.mono (Nat.le_of_lt x1.lt))
 replace x1 := x1.below k1
 replace n1 := n1.below k1
 replace htab := htab.below k1
 replace rd := rd.below k1
 clear k1
 go_upto_region 2 with (fail)
 have u1 := x1.c0
 have v1 := x1.c1
 go_wp2_with fail
 refine (zparse_any s w1 (by omega)).mono ?_
 rintro e w2 ⟨s3, a3, l3, c3, rfl, n3, k2, h3⟩
 clear u1 v1
 replace b0 := b0.trans (k2.mono (Nat.le_of_lt x1.lt))
 replace x1 := x1.below k2
 replace n1 := n1.below k2
 replace htab := htab.below k2
 replace rd := rd.below k2
 clear k2
 generalize EP : perr s = pe at *
 replace EP := hide EP
 go_upto_region 3 with (fail)
 have x3 := zb_new w2 s3 a3 l3 c3
 have k0 : Below w2.heap.size w2 (w2.alloc (.cells #[.bool s3, .slice a3 l3 c3] 41)) := below_alloc _ _
 replace b0 := b0.trans (k0.mono (Nat.le_of_lt x1.lt))
 replace x1 := x1.below k0
 replace n1 := n1.below k0
 replace n3 := n3.below k0
 replace htab := htab.below k0
 replace rd := rd.below k0
 clear k0
 generalize (w2.alloc (.cells #[.bool s3, .slice a3 l3 c3] 41)) = w3 at *
 generalize w2.heap.size = p3 at *
 have u1 := x1.c0
 have v1 := x1.c1
 have u3 := x3.c0
 have v3 := x3.c1
 go_wp2_with fail
 refine (rzparse_any s w3 (by omega)).mono ?_
 rintro e w4 ⟨s4, a4, l4, c4, rfl, n4, k4, h4⟩
 clear u1 v1 u3 v3
 replace b0 := b0.trans (k4.mono (Nat.le_of_lt x1.lt))
 replace x1 := x1.below k4
 replace x3 := x3.below k4
 replace n1 := n1.below k4
 replace n3 := n3.below k4
 replace htab := htab.below k4
 replace rd := rd.below k4
 clear k4
 rw [unhide EP]
 go_upto_region 4 with (fail)
 have x4 := zb_new w4 s4 a4 l4 c4
 have k0 : Below w4.heap.size w4 (w4.alloc (.cells #[.bool s4, .slice a4 l4 c4] 41)) := below_alloc _ _
 replace b0 := b0.trans (k0.mono (Nat.le_of_lt x1.lt))
 replace x1 := x1.below k0
 replace x3 := x3.below k0
 replace n1 := n1.below k0
 replace n3 := n3.below k0
 replace n4 := n4.below k0
 replace htab := htab.below k0
 replace rd := rd.below k0
 clear k0
 generalize (w4.alloc (.cells #[.bool s4, .slice a4 l4 c4] 41)) = w5 at *
 generalize w4.heap.size = p4 at *
 have u1 := x1.c0
 have v1 := x1.c1
 have u3 := x3.c0
 have v3 := x3.c1
 have u4 := x4.c0
 have v4 := x4.c1
 go_wp2_with fail
 refine (ztext_n n1 (by omega) htab).mono ?_
 rintro e w6 ⟨rfl, k6⟩
 clear u1 v1 u3 v3 u4 v4
 replace b0 := b0.trans (k6.mono (Nat.le_of_lt x1.lt))
 replace x1 := x1.below k6
 replace x3 := x3.below k6
 replace x4 := x4.below k6
 replace n1 := n1.below k6
 replace n3 := n3.below k6
 replace n4 := n4.below k6
 replace htab := htab.below k6
 replace rd := rd.below k6
 clear k6
 have hts := ztext_size n1
 generalize ET : zText (sg s1 (val xs)) = t at *
 replace ET := hide ET
 go_upto_region 5 with (fail)
 have u1 := x1.c0
 have v1 := x1.c1
 have u3 := x3.c0
 have v3 := x3.c1
 have u4 := x4.c0
 have v4 := x4.c1
 go_wp2_with fail
 refine (zlimbs_n rd (by omega)).mono ?_
 rintro e w7 ⟨rfl, k7⟩
 clear u1 v1 u3 v3 u4 v4
 replace b0 := b0.trans (k7.mono (Nat.le_of_lt x1.lt))
 replace x1 := x1.below k7
 replace x3 := x3.below k7
 replace x4 := x4.below k7
 replace n1 := n1.below k7
 replace n3 := n3.below k7
 replace n4 := n4.below k7
 replace htab := htab.below k7
 replace rd := rd.below k7
 clear k7
 generalize EL : tl xs l1 = tk at *
 replace EL := hide EL
 go_upto_region 6 with (fail)
 have u1 := x1.c0
 have v1 := x1.c1
 have u3 := x3.c0
 have v3 := x3.c1
 have u4 := x4.c0
 have v4 := x4.c1
 go_wp2_with fail
 refine (zparse_back ET w7 (by omega)).mono ?_
 rintro e w8 ⟨s5, a5, l5, c5, rfl, n5, k8, h5⟩
 clear u1 v1 u3 v3 u4 v4
 replace b0 := b0.trans (k8.mono (Nat.le_of_lt x1.lt))
 replace x1 := x1.below k8
 replace x3 := x3.below k8
 replace x4 := x4.below k8
 replace n1 := n1.below k8
 replace n3 := n3.below k8
 replace n4 := n4.below k8
 replace htab := htab.below k8
 replace rd := rd.below k8
 clear k8
 go_upto_region 7 with (fail)
 have x5 := zb_new w8 s5 a5 l5 c5
 have k0 : Below w8.heap.size w8 (w8.alloc (.cells #[.bool s5, .slice a5 l5 c5] 41)) := below_alloc _ _
 replace b0 := b0.trans (k0.mono (Nat.le_of_lt x1.lt))
 replace x1 := x1.below k0
 replace x3 := x3.below k0
 replace x4 := x4.below k0
 replace n1 := n1.below k0
 replace n3 := n3.below k0
 replace n4 := n4.below k0
 replace n5 := n5.below k0
 replace htab := htab.below k0
 replace rd := rd.below k0
 clear k0
 generalize (w8.alloc (.cells #[.bool s5, .slice a5 l5 c5] 41)) = w9 at *
 generalize w8.heap.size = p5 at *
 go_region_held3 (fun w' => w'.cell? ⟨p1, 0, none⟩ = some (.bool s1) ∧ w'.cell? ⟨p1, 1, none⟩ = some (.slice a1 l1 c1) ∧ w'.cell? ⟨p3, 0, none⟩ = some (.bool s3) ∧ w'.cell? ⟨p3, 1, none⟩ = some (.slice a3 l3 c3) ∧ w'.cell? ⟨p4, 0, none⟩ = some (.bool s4) ∧ w'.cell? ⟨p4, 1, none⟩ = some (.slice a4 l4 c4) ∧ w'.cell? ⟨p5, 0, none⟩ = some (.bool s5) ∧ w'.cell? ⟨p5, 1, none⟩ = some (.slice a5 l5 c5) ∧ Below w9.heap.size w9 w')
  ((refine zk4 x1 x3 x4 x5 ?_; (repeat' (first | with_reducible exact Below.refl _ _ | with_reducible assumption | with_reducible refine grow_step (by with_reducible assumption) ?_ | with_reducible refine grow_drew ?_ | with_reducible refine grow_alloc ?_ _ | with_reducible refine grow_drewN ?_ _))))
  (first | (go_at_call 31; with_reducible refine (is_t (Zn.below n3 (by (repeat' (first | with_reducible exact Below.refl _ _ | with_reducible assumption | with_reducible refine grow_step (by with_reducible assumption) ?_ | with_reducible refine grow_drew ?_ | with_reducible refine grow_alloc ?_ _ | with_reducible refine grow_drewN ?_ _)))) (Zn.zm (Zn.below n4 (by (repeat' (first | with_reducible exact Below.refl _ _ | with_reducible assumption | with_reducible refine grow_step (by with_reducible assumption) ?_ | with_reducible refine grow_drew ?_ | with_reducible refine grow_alloc ?_ _ | with_reducible refine grow_drewN ?_ _))))) (by omega) (by omega) rfl).mono ?_; rintro e w' ⟨rfl, hg⟩) | (go_at_call 32; with_reducible refine (rtext_n (Zm.below n1 (by (repeat' (first | with_reducible exact Below.refl _ _ | with_reducible assumption | with_reducible refine grow_step (by with_reducible assumption) ?_ | with_reducible refine grow_drew ?_ | with_reducible refine grow_alloc ?_ _ | with_reducible refine grow_drewN ?_ _)))) (by omega)).mono ?_; rintro e w' ⟨rfl, hg⟩; rw [unhide ET]) | (go_at_call 33; with_reducible refine (rlimbs_n (Rd.below rd (by (repeat' (first | with_reducible exact Below.refl _ _ | with_reducible assumption | with_reducible refine grow_step (by with_reducible assumption) ?_ | with_reducible refine grow_drew ?_ | with_reducible refine grow_alloc ?_ _ | with_reducible refine grow_drewN ?_ _)))) (by omega)).mono ?_; rintro e w' ⟨rfl, hg⟩; rw [unhide EL]) | (go_at_call 34; with_reducible refine (rnorm_n (Zm.below n1 (by (repeat' (first | with_reducible exact Below.refl _ _ | with_reducible assumption | with_reducible refine grow_step (by with_reducible assumption) ?_ | with_reducible refine grow_drew ?_ | with_reducible refine grow_alloc ?_ _ | with_reducible refine grow_drewN ?_ _)))) (by omega)).mono ?_; rintro e w' ⟨s6, a6, l6, c6, rfl, n6, hg, h6⟩) | (go_at_call 31; with_reducible refine (is_t (Zn.below n5 (by (repeat' (first | with_reducible exact Below.refl _ _ | with_reducible assumption | with_reducible refine grow_step (by with_reducible assumption) ?_ | with_reducible refine grow_drew ?_ | with_reducible refine grow_alloc ?_ _ | with_reducible refine grow_drewN ?_ _)))) (Zn.zm (Zn.below n6 (by (repeat' (first | with_reducible exact Below.refl _ _ | with_reducible assumption | with_reducible refine grow_step (by with_reducible assumption) ?_ | with_reducible refine grow_drew ?_ | with_reducible refine grow_alloc ?_ _ | with_reducible refine grow_drewN ?_ _))))) (by omega) (by omega) rfl).mono ?_; rintro e w' ⟨rfl, hg⟩))
 rename_i hH
 have k10 := hH.2.2.2.2.2.2.2.2
 clear hH
 replace b0 := b0.trans (k10.mono (Nat.le_of_lt x1.lt))
 replace x1 := x1.below k10
 replace x3 := x3.below k10
 replace x4 := x4.below k10
 replace x5 := x5.below k10
 replace n1 := n1.below k10
 replace n3 := n3.below k10
 replace n4 := n4.below k10
 replace n5 := n5.below k10
 replace htab := htab.below k10
 replace rd := rd.below k10
 clear k10 hg
 generalize w' = w11 at *
 go_wp2_with fail
 go_ret
 exact ⟨by simp, hp.out.symm ▸ b0⟩

theorem zintTexts_go {s : ByteArray} {s1 : Bool} {a1 : Option Addr} {l1 c1 : Nat} {z : Int} {w : World} (hs : s.size ≤ 1048576) (n1 : Zm w s1 a1 l1 c1 z) (h1' : l1 ≤ 1048576) (htab : Tab w) :
  Calls Tryd.prog 6 #[.string s, .agg #[.bool s1, .slice a1 l1 c1]] w fun e w' => e = .returned (.bool true) ∧ Below w.heap.size w w' := by
 obtain ⟨n, ⟨xs, rd, rfl⟩, rfl⟩ := n1
 exact zintTexts_walk hs rd h1' htab
end Go.Proofs.YtndhjoofbkgkiaaDoor
