/-
 The law TermLooks: its walk.
-/
import Derived.Test.YtagjfhipjbpoiaaP23
namespace Go.Proofs.Ytagjfhipjbpoiaa
open Go.RowKit Go.Sort Go.Shelf
open Tm

set_option maxRecDepth 100000 in
set_option maxHeartbeats 6400000 in
theorem termLooks_walk {w : World} {ad : Option Addr} {n cp : Nat} {s : Bool} {a : Option Addr} {l c : Nat} {ps : List (Int × Int)} {k : Int} {ad2 : Option Addr} {n2 cp2 : Nat} {s2 : Bool} {a2 : Option Addr} {l2 c2 : Nat} {qs : List (Int × Int)} {k2 : Int} {B : Nat}
  (hP : Pr w ad n ps B) (hz : Zm w s a l c k) (hl : l ≤ B) (hn : n ≤ B) (hP2 : Pr w ad2 n2 qs B) (hz2 : Zm w s2 a2 l2 c2 k2) (hl2 : l2 ≤ B) (hn2 : n2 ≤ B) (hB : B ≤ 1048576) :
  Calls Try.prog 5 #[.agg #[.slice ad n cp, .bool s, .slice a l c], .agg #[.slice ad2 n2 cp2, .bool s2, .slice a2 l2 c2]] w fun e w' => e = .returned (.bool true) ∧ Below w.heap.size w w' := by
 go_enter Try.func5, Try.ntmps5
 go_wp2_with fail
 have x := (tb_new w ad n cp s a l c).below (below_alloc _ (.cells #[.slice ad2 n2 cp2, .bool s2, .slice a2 l2 c2] 27))
 have y := tb_new (w.alloc (.cells #[.slice ad n cp, .bool s, .slice a l c] 27)) ad2 n2 cp2 s2 a2 l2 c2
 have b0 : Below w.heap.size w ((w.alloc (.cells #[.slice ad n cp, .bool s, .slice a l c] 27)).alloc (.cells #[.slice ad2 n2 cp2, .bool s2, .slice a2 l2 c2] 27)) := below_alloc' (below_alloc _ _) _
 rw [show (w.alloc (.cells #[.slice ad n cp, .bool s, .slice a l c] 27)).heap.size = w.heap.size + 1 from by simp] at y
 generalize (w.alloc (.cells #[.slice ad n cp, .bool s, .slice a l c] 27)).alloc (.cells #[.slice ad2 n2 cp2, .bool s2, .slice a2 l2 c2] 27) = wb at *
 replace hP := hP.below b0
 replace hz := hz.below b0
 replace hP2 := hP2.below b0
 replace hz2 := hz2.below b0
 generalize hp : w.heap.size = p at *
 replace b0 : Hid (Below w.heap.size w wb) := hp ▸ b0
 replace hp := hide hp
 generalize p + 1 = q at *
 refine (awake5 wb).mono ?_
 rintro e w1 ⟨rfl, k1⟩
 replace k1 := hide k1
 have x0 := (x.below k1.out).c0
 have x1 := (x.below k1.out).c1
 have x2 := (x.below k1.out).c2
 go_wp2_with fail
 refine (tvars_n (hP.below k1.out) (hz.below k1.out) hl (by omega)).mono ?_
 rintro e w2 ⟨adv, nv, cv, vs, rfl, hIV, hnv, hSv, hcv, k2⟩
 rw [lays_eq hSv hcv] at hIV
 replace k2 := hide (grow_step k2 k1.out)
 clear x0 x1 x2 k1
 have x0 := (x.below k2.out).c0
 have x1 := (x.below k2.out).c1
 have x2 := (x.below k2.out).c2
 go_wp2_with fail
 refine (tlimbs_n (hP.below k2.out) (hz.below k2.out) hl (by omega)).mono ?_
 rintro e w3 ⟨us, rfl, hSu, hcu, k3⟩
 rw [lays_eq hSu hcu]
 have hIV3 := hIV.below k3
 replace k3 := hide (grow_step k3 k2.out)
 clear x0 x1 x2 k2 hIV
 have x0 := (x.below k3.out).c0
 have x1 := (x.below k3.out).c1
 have x2 := (x.below k3.out).c2
 have y0 := (y.below k3.out).c0
 have y1 := (y.below k3.out).c1
 have y2 := (y.below k3.out).c2
 generalize hlb : limbsL (lbz k) (nz (lays [] ps)) = lb at *
 replace hlb := hide hlb
 go_wp2_with fail
 refine (torder_n (hP.below k3.out) (hz.below k3.out) hl (hP2.below k3.out) (hz2.below k3.out) hl2 (by omega) (by omega)).mono ?_
 rintro e w4 ⟨ps', qs', rfl, hSp, hSq, hcp, hcq, k4⟩
 rw [lays_eq hSp hcp, lays_eq hSq hcq]
 have hIV4 := hIV3.below k4
 replace k4 := hide (grow_step k4 k3.out)
 clear x0 x1 x2 y0 y1 y2 k3 hIV3 hSp hSq hcp hcq
 have x0 := (x.below k4.out).c0
 have x1 := (x.below k4.out).c1
 have x2 := (x.below k4.out).c2
 generalize hoc : ordT (nz (lays [] ps)) (nz (lays [] qs)) k k2 = oc at *
 replace hoc := hide hoc
 go_wp2_with fail
 refine (rvars_n (hP.below k4.out) (hz.below k4.out) hl (by omega)).mono ?_
 rintro e w5 ⟨adr, nr, cr, rfl, hIR, hnr, k5⟩
 have hIV5 := hIV4.below k5
 obtain rfl : nv = nr := hIV5.1.symm.trans hIR.1
 replace k5 := hide (grow_step k5 k4.out)
 clear x0 x1 x2 k4 hIV4
 have x0 := (x.below k5.out).c0
 have x1 := (x.below k5.out).c1
 have x2 := (x.below k5.out).c2
 go_wp2_with fail
 refine (ints_t hIV5 hIR (by omega)).mono ?_
 rintro e w6 ⟨rfl, k6⟩
 replace k6 := hide (grow_step k6 k5.out)
 clear x0 x1 x2 k5 hIV5 hIR
 have x0 := (x.below k6.out).c0
 have x1 := (x.below k6.out).c1
 have x2 := (x.below k6.out).c2
 go_wp2_with fail
 refine (rlimbs5_n (hP.below k6.out) (hz.below k6.out) hl (by omega)).mono ?_
 rintro e w7 ⟨rfl, k7⟩
 rw [hlb.out]
 replace k7 := hide (grow_step k7 k6.out)
 clear x0 x1 x2 k6
 have x0 := (x.below k7.out).c0
 have x1 := (x.below k7.out).c1
 have x2 := (x.below k7.out).c2
 have y0 := (y.below k7.out).c0
 have y1 := (y.below k7.out).c1
 have y2 := (y.below k7.out).c2
 go_wp2_with fail
 refine (rorder5_n (hP.below k7.out) (hz.below k7.out) hl (hP2.below k7.out) (hz2.below k7.out) hl2 (by omega) (by omega)).mono ?_
 rintro e w8 ⟨rfl, k8⟩
 rw [hoc.out]
 have kf : Hid (Below w.heap.size w w8) := b0.out.trans ((grow_step k8 k7.out).mono b0.out.size)
 clear k8
 go_wp2
 go_ret
 exact ⟨rfl, kf.out⟩
end Go.Proofs.Ytagjfhipjbpoiaa
