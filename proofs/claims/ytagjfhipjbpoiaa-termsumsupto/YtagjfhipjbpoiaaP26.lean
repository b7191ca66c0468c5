/-
 The law TermSums: its walk.
-/
import Derived.Test.YtagjfhipjbpoiaaP17
namespace Go.Proofs.Ytagjfhipjbpoiaa
open Go.RowKit Go.Sort Go.Shelf
open Tm

theorem tot_add {ps qs rs vs : List (Int × Int)} (h1 : Tot ps vs) (h2 : Tot qs vs) (h : ∀ v, csum rs v = csum (ps ++ qs) v) : Tot rs vs := fun v hc => by
 rw [h, csum_append] at hc
 by_cases e : csum ps v = 0
 ·exact h2 v (fun e2 => hc (by rw [e, e2]; rfl))
 ·exact h1 v e
theorem tot_scl {k : Int} {ps vs : List (Int × Int)} (h1 : Tot ps vs) : Tot (scl k ps) vs := fun v hc => h1 v (fun e => hc (by rw [csum_scl, e, Int.mul_zero]))
theorem tot_same {ps qs vs : List (Int × Int)} (h1 : Tot ps vs) (h : ∀ v, csum qs v = csum ps v) : Tot qs vs := fun v hc => h1 v (by rw [← h]; exact hc)
theorem zk3 {wb w' : World} {p q r l1 c1 l2 c2 l3 c3 : Nat} {s1 s2 s3 : Bool} {a1 a2 a3 : Option Addr} (x : ZB wb p s1 a1 l1 c1) (x2 : ZB wb q s2 a2 l2 c2) (x3 : ZB wb r s3 a3 l3 c3) (k : Below wb.heap.size wb w') :
  w'.cell? ⟨p, 0, none⟩ = some (.bool s1) ∧ w'.cell? ⟨p, 1, none⟩ = some (.slice a1 l1 c1) ∧ w'.cell? ⟨q, 0, none⟩ = some (.bool s2) ∧ w'.cell? ⟨q, 1, none⟩ = some (.slice a2 l2 c2) ∧ w'.cell? ⟨r, 0, none⟩ = some (.bool s3) ∧ w'.cell? ⟨r, 1, none⟩ = some (.slice a3 l3 c3) ∧ Below wb.heap.size wb w' :=
 ⟨(x.below k).c0, (x.below k).c1, (x2.below k).c0, (x2.below k).c1, (x3.below k).c0, (x3.below k).c1, k⟩

set_option maxRecDepth 100000 in
set_option maxHeartbeats 6400000 in
theorem termSums_walk {w : World} {ad : Option Addr} {n cp : Nat} {s : Bool} {a : Option Addr} {l c : Nat} {ps : List (Int × Int)} {k : Int} {ad2 : Option Addr} {n2 cp2 : Nat} {s2 : Bool} {a2 : Option Addr} {l2 c2 : Nat} {qs : List (Int × Int)} {k2 : Int} {s0 : Bool} {a0 : Option Addr} {l0 c0 : Nat} {k0 : Int} {ad3 : Option Addr} {n3 cp3 : Nat} {vs : List (Int × Int)} {B : Nat}
  (hP : Pr w ad n ps B) (hz : Zm w s a l c k) (hl : l ≤ B) (hn : n ≤ B) (hP2 : Pr w ad2 n2 qs B) (hz2 : Zm w s2 a2 l2 c2 k2) (hl2 : l2 ≤ B) (hn2 : n2 ≤ B) (hk : Zm w s0 a0 l0 c0 k0) (hk0 : l0 ≤ B) (hV : Pr w ad3 n3 vs B) (hn3 : n3 ≤ B) (hB : B ≤ 1048576) :
  Calls Try.prog 7 #[.agg #[.slice ad n cp, .bool s, .slice a l c], .agg #[.slice ad2 n2 cp2, .bool s2, .slice a2 l2 c2], .agg #[.bool s0, .slice a0 l0 c0], .slice ad3 n3 cp3] w fun e w' => e = .returned (.bool true) ∧ Below w.heap.size w w' := by
 go_enter Try.func7, Try.ntmps7
 go_wp2_with fail
 have x := ((tb_new w ad n cp s a l c).below (below_alloc _ (.cells #[.slice ad2 n2 cp2, .bool s2, .slice a2 l2 c2] 27))).below (below_alloc _ (.cells #[.bool s0, .slice a0 l0 c0] 25))
 have y := (tb_new (w.alloc (.cells #[.slice ad n cp, .bool s, .slice a l c] 27)) ad2 n2 cp2 s2 a2 l2 c2).below (below_alloc _ (.cells #[.bool s0, .slice a0 l0 c0] 25))
 have z := zb_new ((w.alloc (.cells #[.slice ad n cp, .bool s, .slice a l c] 27)).alloc (.cells #[.slice ad2 n2 cp2, .bool s2, .slice a2 l2 c2] 27)) s0 a0 l0 c0
 have b0 : Below w.heap.size w (((w.alloc (.cells #[.slice ad n cp, .bool s, .slice a l c] 27)).alloc (.cells #[.slice ad2 n2 cp2, .bool s2, .slice a2 l2 c2] 27)).alloc (.cells #[.bool s0, .slice a0 l0 c0] 25)) := below_alloc' (below_alloc' (below_alloc _ _) _) _
 rw [show (w.alloc (.cells #[.slice ad n cp, .bool s, .slice a l c] 27)).heap.size = w.heap.size + 1 from by simp] at y
 rw [show ((w.alloc (.cells #[.slice ad n cp, .bool s, .slice a l c] 27)).alloc (.cells #[.slice ad2 n2 cp2, .bool s2, .slice a2 l2 c2] 27)).heap.size = w.heap.size + 1 + 1 from by simp] at z
 generalize ((w.alloc (.cells #[.slice ad n cp, .bool s, .slice a l c] 27)).alloc (.cells #[.slice ad2 n2 cp2, .bool s2, .slice a2 l2 c2] 27)).alloc (.cells #[.bool s0, .slice a0 l0 c0] 25) = wb at *
 replace hP := hP.below b0
 replace hz := hz.below b0
 replace hP2 := hP2.below b0
 replace hz2 := hz2.below b0
 replace hk := hk.below b0
 replace hV := hV.below b0
 generalize hp : w.heap.size = p0 at *
 replace b0 : Hid (Below w.heap.size w wb) := hp ▸ b0
 replace hp := hide hp
 generalize p0 + 1 = p1 at *
 generalize p1 + 1 = p2 at *
 refine (awake5 wb).mono ?_
 rintro e w1 ⟨rfl, k1⟩
 replace k1 := hide k1
 have fx0 := (x.below k1.out).c0
 have fx1 := (x.below k1.out).c1
 have fx2 := (x.below k1.out).c2
 have fxl := (x.below k1.out).lt
 go_wp2_with fail
 refine (eval_n (hP.below k1.out) (hz.below k1.out) hl (hV.below k1.out) (by omega)).mono ?_
 rintro e w2 ⟨sx, ax, lx, cx, ex, rfl, kE, hEx⟩
 clear fx0 fx1 fx2 fxl
 have k2' := hide (grow_step kE k1.out)
 clear kE k1
 have bx := zb_new w2 sx ax lx cx
 have kx := hide (grow_alloc k2'.out (.cells #[.bool sx, .slice ax lx cx] 25))
 have fy0 := (y.below k2'.out).c0
 have fy1 := (y.below k2'.out).c1
 have fy2 := (y.below k2'.out).c2
 have fyl := (y.below k2'.out).lt
 rcases hEx with ⟨-, rfl, -⟩ | ⟨hT1, rfl, hzx, hlx⟩
 ·go_wp2_with fail
  refine (eval_n (hP2.below kx.out) (hz2.below kx.out) hl2 (hV.below kx.out) (by omega)).mono ?_
  rintro e w4 ⟨sy, ay, ly, cy, ey, rfl, kE, -⟩
  have k4 := hide (grow_alloc (grow_step (grow_step kE kx.out) b0.out) (.cells #[.bool sy, .slice ay ly cy] 25))
  clear kE
  go_wp2
  go_ret
  exact ⟨by simp, k4.out⟩
 ·replace hzx := hzx.below (below_alloc w2 (.cells #[.bool sx, .slice ax lx cx] 25))
  go_wp2_with fail
  clear fy0 fy1 fy2 fyl
  generalize w2.alloc (.cells #[.bool sx, .slice ax lx cx] 25) = w3 at *
  generalize w2.heap.size = qx at *
  refine (eval_n (hP2.below kx.out) (hz2.below kx.out) hl2 (hV.below kx.out) (by omega)).mono ?_
  rintro e w4 ⟨sy, ay, ly, cy, ey, rfl, kE, hEy⟩
  replace bx := bx.below kE
  replace hzx := hzx.below kE
  have k4 := hide (grow_step kE kx.out)
  clear kE kx
  have bY := zb_new w4 sy ay ly cy
  have kq := below_alloc w4 (.cells #[.bool sy, .slice ay ly cy] 25)
  have k5 := hide (grow_alloc k4.out (.cells #[.bool sy, .slice ay ly cy] 25))
  rcases hEy with ⟨-, rfl, -⟩ | ⟨hT2, rfl, hzy, hly⟩
  ·have k6 := hide (grow_step k5.out b0.out)
   clear kq
   go_wp2
   go_ret
   exact ⟨by simp, k6.out⟩
  ·replace bx := bx.below kq
   replace hzx := hzx.below kq
   replace hzy := hzy.below kq
   clear kq
   have fx0 := (x.below k4.out).c0
   have fx1 := (x.below k4.out).c1
   have fx2 := (x.below k4.out).c2
   have fxl := (x.below k4.out).lt
   have fy0 := (y.below k4.out).c0
   have fy1 := (y.below k4.out).c1
   have fy2 := (y.below k4.out).c2
   have fyl := (y.below k4.out).lt
   go_wp2_with fail
   clear fx0 fx1 fx2 fxl
   clear fy0 fy1 fy2 fyl
   generalize w4.alloc (.cells #[.bool sy, .slice ay ly cy] 25) = w5 at *
   generalize w4.heap.size = qy at *
   clear k4
   refine (tadd_n (hP.below k5.out) (hz.below k5.out) hl (hP2.below k5.out) (hz2.below k5.out) hl2 (by omega)).mono ?_
   rintro e w6 ⟨ad', n', cp', s', a', l', c', rs, rfl, hT, hn', hStd, hcs⟩
   have kR := hT.below
   have tR := hT.tw
   have kQ := hide (grow_step kR k5.out)
   replace bx := bx.below kR
   replace hzx := hzx.below kR
   replace bY := bY.below kR
   replace hzy := hzy.below kR
   clear kR
   go_wp2_with fail
   refine (eval_n (B := 8388608) (tR.1.mono (by omega)) tR.2.1 (by have := tR.2.2; omega) ((hV.below kQ.out).mono (by omega)) (by omega)).mono ?_
   rintro e w7 ⟨se1, ae1, le1, ce1, ee1, rfl, kE, hE⟩
   have hTot := tot_add hT1 hT2 hcs
   rcases hE with ⟨hN, _⟩ | ⟨_, rfl, hze1, hle1⟩
   ·exact absurd hTot hN
   ·rw [show k + k2 + ev (rs.map Raw.p) (val1 vs) = (k + ev ps (val1 vs)) + (k2 + ev qs (val1 vs)) by rw [ev_congr hcs, ev_append]; omega] at hze1
    have kF := below_alloc w7 (.cells #[.bool se1, .slice ae1 le1 ce1] 25)
    have be1 := zb_new w7 se1 ae1 le1 ce1
    replace hze1 := hze1.below kF
    have kM := hide (grow_step kE kQ.out)
    replace kF := grow_step kF kE
    replace bx := bx.below kF
    replace hzx := hzx.below kF
    replace bY := bY.below kF
    replace hzy := hzy.below kF
    have kG := hide (grow_step kF kQ.out)
    clear kE kF kQ hTot tR hT
    have fx0 := (x.below kM.out).c0
    have fx1 := (x.below kM.out).c1
    have fx2 := (x.below kM.out).c2
    have fxl := (x.below kM.out).lt
    have fy0 := (y.below kM.out).c0
    have fy1 := (y.below kM.out).c1
    have fy2 := (y.below kM.out).c2
    have fyl := (y.below kM.out).lt
    go_wp2_with fail
    generalize w7.alloc (.cells #[.bool se1, .slice ae1 le1 ce1] 25) = w7' at *
    generalize w7.heap.size = qe1 at *
    clear kM
    clear fx0 fx1 fx2 fxl fy0 fy1 fy2 fyl
    refine (tsub_n (hP.below kG.out) (hz.below kG.out) hl (hP2.below kG.out) (hz2.below kG.out) hl2 (by omega)).mono ?_
    rintro e w8 ⟨ad', n', cp', s', a', l', c', rt, rfl, hT, hn', hStd, hcs⟩
    have kR := hT.below
    have tR := hT.tw
    have kQ := hide (grow_step kR kG.out)
    replace bx := bx.below kR
    replace hzx := hzx.below kR
    replace bY := bY.below kR
    replace hzy := hzy.below kR
    replace be1 := be1.below kR
    replace hze1 := hze1.below kR
    clear kR
    go_wp2_with fail
    refine (eval_n (B := 8388608) (tR.1.mono (by omega)) tR.2.1 (by have := tR.2.2; omega) ((hV.below kQ.out).mono (by omega)) (by omega)).mono ?_
    rintro e w9 ⟨se2, ae2, le2, ce2, ee2, rfl, kE, hE⟩
    have hTot := tot_add hT1 (tot_scl (k := -1) hT2) hcs
    rcases hE with ⟨hN, _⟩ | ⟨_, rfl, hze2, hle2⟩
    ·exact absurd hTot hN
    ·rw [show k - k2 + ev (rt.map Raw.p) (val1 vs) = (k + ev ps (val1 vs)) - (k2 + ev qs (val1 vs)) by rw [ev_congr hcs, ev_append, ev_scl]; omega] at hze2
     have kF := below_alloc w9 (.cells #[.bool se2, .slice ae2 le2 ce2] 25)
     have be2 := zb_new w9 se2 ae2 le2 ce2
     replace hze2 := hze2.below kF
     have kM := hide (grow_step kE kQ.out)
     replace kF := grow_step kF kE
     replace bx := bx.below kF
     replace hzx := hzx.below kF
     replace bY := bY.below kF
     replace hzy := hzy.below kF
     replace be1 := be1.below kF
     replace hze1 := hze1.below kF
     replace kG := hide (grow_step kF kQ.out)
     clear kE kF kQ hTot tR hT
     have fx0 := (x.below kM.out).c0
     have fx1 := (x.below kM.out).c1
     have fx2 := (x.below kM.out).c2
     have fxl := (x.below kM.out).lt
     have fz0 := (z.below kM.out).c0
     have fz1 := (z.below kM.out).c1
     have fzl := (z.below kM.out).lt
     go_wp2_with fail
     generalize w9.alloc (.cells #[.bool se2, .slice ae2 le2 ce2] 25) = w9' at *
     generalize w9.heap.size = qe2 at *
     clear kM
     clear fx0 fx1 fx2 fxl fz0 fz1 fzl
     refine (tscale_n (hk.below kG.out) (by omega) (hP.below kG.out) (hz.below kG.out) hl (by omega)).mono ?_
     rintro e wa ⟨ad', n', cp', s', a', l', c', ru, rfl, hT, hn', hStd, hcs, kS⟩
     have kR := kS
     have tR := hT
     have kQ := hide (grow_step kR kG.out)
     replace bx := bx.below kR
     replace hzx := hzx.below kR
     replace bY := bY.below kR
     replace hzy := hzy.below kR
     replace be1 := be1.below kR
     replace hze1 := hze1.below kR
     replace be2 := be2.below kR
     replace hze2 := hze2.below kR
     clear kR
     clear kS
     go_wp2_with fail
     refine (eval_n (B := 8388608) (tR.1.mono (by omega)) tR.2.1 (by have := tR.2.2; omega) ((hV.below kQ.out).mono (by omega)) (by omega)).mono ?_
     rintro e wb2 ⟨se3, ae3, le3, ce3, ee3, rfl, kE, hE⟩
     have hTot := tot_same (tot_scl (k := k0) hT1) hcs
     rcases hE with ⟨hN, _⟩ | ⟨_, rfl, hze3, hle3⟩
     ·exact absurd hTot hN
     ·rw [show k0 * k + ev ru (val1 vs) = k0 * (k + ev ps (val1 vs)) by rw [ev_congr hcs, ev_scl, Int.mul_add]] at hze3
      have kF := below_alloc wb2 (.cells #[.bool se3, .slice ae3 le3 ce3] 25)
      have be3 := zb_new wb2 se3 ae3 le3 ce3
      replace hze3 := hze3.below kF
      have kM := hide (grow_step kE kQ.out)
      replace kF := grow_step kF kE
      replace bx := bx.below kF
      replace hzx := hzx.below kF
      replace bY := bY.below kF
      replace hzy := hzy.below kF
      replace be1 := be1.below kF
      replace hze1 := hze1.below kF
      replace be2 := be2.below kF
      replace hze2 := hze2.below kF
      replace kG := hide (grow_step kF kQ.out)
      clear kE kF kQ hTot tR hT
      go_wp2_with fail
      generalize wb2.alloc (.cells #[.bool se3, .slice ae3 le3 ce3] 25) = wb2' at *
      generalize wb2.heap.size = qe3 at *
      clear kM
      clear hP hP2 hz hz2 hV x y
      replace z := z.below kG.out
      replace hk := hk.below kG.out
      replace kG := hide (grow_step kG.out b0.out)
      clear b0
      generalize k + ev ps (val1 vs) = X at *
      generalize k2 + ev qs (val1 vs) = Y at *
      go_region_held3 (fun w' => w'.cell? ⟨qe1, 0, none⟩ = some (.bool se1) ∧ w'.cell? ⟨qe1, 1, none⟩ = some (.slice ae1 le1 ce1) ∧ w'.cell? ⟨qx, 0, none⟩ = some (.bool sx) ∧ w'.cell? ⟨qx, 1, none⟩ = some (.slice ax lx cx) ∧ w'.cell? ⟨qy, 0, none⟩ = some (.bool sy) ∧ w'.cell? ⟨qy, 1, none⟩ = some (.slice ay ly cy) ∧ Below wb2'.heap.size wb2' w')
       ((refine zk3 be1 bx bY ?_; (repeat' (first | with_reducible exact Below.refl _ _ | with_reducible assumption | with_reducible refine grow_step (by with_reducible assumption) ?_ | with_reducible refine grow_drew ?_ | with_reducible refine grow_alloc ?_ _ | with_reducible refine grow_drewN ?_ _))))
       (first | (go_at_call 46; refine (zadd_n (Zm.below hzx.zm (by (repeat' (first | with_reducible exact Below.refl _ _ | with_reducible assumption | with_reducible refine grow_step (by with_reducible assumption) ?_ | with_reducible refine grow_drew ?_ | with_reducible refine grow_alloc ?_ _ | with_reducible refine grow_drewN ?_ _)))) (Zm.below hzy.zm (by (repeat' (first | with_reducible exact Below.refl _ _ | with_reducible assumption | with_reducible refine grow_step (by with_reducible assumption) ?_ | with_reducible refine grow_drew ?_ | with_reducible refine grow_alloc ?_ _ | with_reducible refine grow_drewN ?_ _)))) (by omega) (by omega)).mono ?_; rintro e wR ⟨sR, aR, lR, cR, rfl, hzR, kR, hlR⟩) | (go_at_call 45; refine (zcmp_n (Zm.below hze1.zm (by (repeat' (first | with_reducible exact Below.refl _ _ | with_reducible assumption | with_reducible refine grow_step (by with_reducible assumption) ?_ | with_reducible refine grow_drew ?_ | with_reducible refine grow_alloc ?_ _ | with_reducible refine grow_drewN ?_ _)))) hzR.zm (by omega) (by omega)).mono ?_; rintro e wC ⟨rfl, kC⟩))
      rename_i hH
      have kH := hH.2.2.2.2.2.2
      clear hH hzR kR kC
      rw [cmpI_eq (by rfl)]
      replace bx := bx.below kH
      replace hzx := hzx.below kH
      replace bY := bY.below kH
      replace hzy := hzy.below kH
      replace be2 := be2.below kH
      replace hze2 := hze2.below kH
      replace be3 := be3.below kH
      replace hze3 := hze3.below kH
      replace z := z.below kH
      replace hk := hk.below kH
      replace kG := hide (grow_step kH kG.out)
      clear kH be1 hze1
      go_wp2_with fail
      go_region_held3 (fun w' => w'.cell? ⟨qe2, 0, none⟩ = some (.bool se2) ∧ w'.cell? ⟨qe2, 1, none⟩ = some (.slice ae2 le2 ce2) ∧ w'.cell? ⟨qx, 0, none⟩ = some (.bool sx) ∧ w'.cell? ⟨qx, 1, none⟩ = some (.slice ax lx cx) ∧ w'.cell? ⟨qy, 0, none⟩ = some (.bool sy) ∧ w'.cell? ⟨qy, 1, none⟩ = some (.slice ay ly cy) ∧ Below wC.heap.size wC w')
       ((refine zk3 be2 bx bY ?_; (repeat' (first | with_reducible exact Below.refl _ _ | with_reducible assumption | with_reducible refine grow_step (by with_reducible assumption) ?_ | with_reducible refine grow_drew ?_ | with_reducible refine grow_alloc ?_ _ | with_reducible refine grow_drewN ?_ _))))
       (first | (go_at_call 47; refine (zsub_n (Zm.below hzx.zm (by (repeat' (first | with_reducible exact Below.refl _ _ | with_reducible assumption | with_reducible refine grow_step (by with_reducible assumption) ?_ | with_reducible refine grow_drew ?_ | with_reducible refine grow_alloc ?_ _ | with_reducible refine grow_drewN ?_ _)))) (Zm.below hzy.zm (by (repeat' (first | with_reducible exact Below.refl _ _ | with_reducible assumption | with_reducible refine grow_step (by with_reducible assumption) ?_ | with_reducible refine grow_drew ?_ | with_reducible refine grow_alloc ?_ _ | with_reducible refine grow_drewN ?_ _)))) (by omega) (by omega)).mono ?_; rintro e wR2 ⟨sR, aR, lR, cR, rfl, hzR, kR, hlR⟩) | (go_at_call 45; refine (zcmp_n (Zm.below hze2.zm (by (repeat' (first | with_reducible exact Below.refl _ _ | with_reducible assumption | with_reducible refine grow_step (by with_reducible assumption) ?_ | with_reducible refine grow_drew ?_ | with_reducible refine grow_alloc ?_ _ | with_reducible refine grow_drewN ?_ _)))) hzR.zm (by omega) (by omega)).mono ?_; rintro e wC2 ⟨rfl, kC⟩))
      rename_i hH
      have kH := hH.2.2.2.2.2.2
      clear hH hzR kR kC
      rw [cmpI_eq (by rfl)]
      replace bx := bx.below kH
      replace hzx := hzx.below kH
      replace be3 := be3.below kH
      replace hze3 := hze3.below kH
      replace z := z.below kH
      replace hk := hk.below kH
      replace kG := hide (grow_step kH kG.out)
      clear kH be2 hze2 bY hzy
      go_wp2_with fail
      go_region_held3 (fun w' => w'.cell? ⟨qe3, 0, none⟩ = some (.bool se3) ∧ w'.cell? ⟨qe3, 1, none⟩ = some (.slice ae3 le3 ce3) ∧ w'.cell? ⟨p2, 0, none⟩ = some (.bool s0) ∧ w'.cell? ⟨p2, 1, none⟩ = some (.slice a0 l0 c0) ∧ w'.cell? ⟨qx, 0, none⟩ = some (.bool sx) ∧ w'.cell? ⟨qx, 1, none⟩ = some (.slice ax lx cx) ∧ Below wC2.heap.size wC2 w')
       ((refine zk3 be3 z bx ?_; (repeat' (first | with_reducible exact Below.refl _ _ | with_reducible assumption | with_reducible refine grow_step (by with_reducible assumption) ?_ | with_reducible refine grow_drew ?_ | with_reducible refine grow_alloc ?_ _ | with_reducible refine grow_drewN ?_ _))))
       (first | (go_at_call 48; refine (zmul_n (Zm.below hk (by (repeat' (first | with_reducible exact Below.refl _ _ | with_reducible assumption | with_reducible refine grow_step (by with_reducible assumption) ?_ | with_reducible refine grow_drew ?_ | with_reducible refine grow_alloc ?_ _ | with_reducible refine grow_drewN ?_ _)))) (Zm.below hzx.zm (by (repeat' (first | with_reducible exact Below.refl _ _ | with_reducible assumption | with_reducible refine grow_step (by with_reducible assumption) ?_ | with_reducible refine grow_drew ?_ | with_reducible refine grow_alloc ?_ _ | with_reducible refine grow_drewN ?_ _)))) (by omega) (by omega)).mono ?_; rintro e wR3 ⟨sR, aR, lR, cR, rfl, hzR, kR, hlR⟩) | (go_at_call 45; refine (zcmp_n (Zm.below hze3.zm (by (repeat' (first | with_reducible exact Below.refl _ _ | with_reducible assumption | with_reducible refine grow_step (by with_reducible assumption) ?_ | with_reducible refine grow_drew ?_ | with_reducible refine grow_alloc ?_ _ | with_reducible refine grow_drewN ?_ _)))) hzR.zm (by omega) (by omega)).mono ?_; rintro e wC3 ⟨rfl, kC⟩))
      rename_i hH
      have kH := hH.2.2.2.2.2.2
      clear hH hzR kR kC
      rw [cmpI_eq (by rfl)]
      replace kG := hide (grow_step kH kG.out)
      clear kH
      go_wp2_with fail
      go_ret
      exact ⟨by simp, kG.out⟩
end Go.Proofs.Ytagjfhipjbpoiaa
