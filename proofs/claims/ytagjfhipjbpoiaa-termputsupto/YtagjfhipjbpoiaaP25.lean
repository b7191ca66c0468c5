/-
 The law TermPuts: its walk.
-/
import Derived.Test.YtagjfhipjbpoiaaP19
namespace Go.Proofs.Ytagjfhipjbpoiaa
open Go.RowKit Go.Sort Go.Shelf
open Tm

set_option maxRecDepth 100000 in
set_option maxHeartbeats 6400000 in
theorem termPuts_walk {w : World} {ad : Option Addr} {n cp : Nat} {s : Bool} {a : Option Addr} {l c : Nat} {ps : List (Int × Int)} {k : Int} {v : Int} {ad2 : Option Addr} {n2 cp2 : Nat} {s2 : Bool} {a2 : Option Addr} {l2 c2 : Nat} {us : List (Int × Int)} {k2 : Int} {ad3 : Option Addr} {n3 cp3 : Nat} {vs : List (Int × Int)} {B : Nat}
  (hv : I64 v) (hP : Pr w ad n ps B) (hz : Zm w s a l c k) (hl : l ≤ B) (hn : n ≤ B) (hP2 : Pr w ad2 n2 us B) (hz2 : Zm w s2 a2 l2 c2 k2) (hl2 : l2 ≤ B) (hn2 : n2 ≤ B) (hV : Pr w ad3 n3 vs B) (hn3 : n3 ≤ B) (hcp : ad3 = none → n3 = 0 ∧ cp3 = 0) (hB : B ≤ 1048576) :
  Calls Try.prog 8 #[.agg #[.slice ad n cp, .bool s, .slice a l c], .int .i64 v, .agg #[.slice ad2 n2 cp2, .bool s2, .slice a2 l2 c2], .slice ad3 n3 cp3] w fun e w' => e = .returned (.bool true) ∧ Below w.heap.size w w' := by
 replace hcp := hide hcp
 go_enter Try.func8, Try.ntmps8
 go_wp2_with fail
 have x := (tb_new w ad n cp s a l c).below (below_alloc _ (.cells #[.slice ad2 n2 cp2, .bool s2, .slice a2 l2 c2] 27))
 have y := tb_new (w.alloc (.cells #[.slice ad n cp, .bool s, .slice a l c] 27)) ad2 n2 cp2 s2 a2 l2 c2
 have b0 : Below w.heap.size w ((w.alloc (.cells #[.slice ad n cp, .bool s, .slice a l c] 27)).alloc (.cells #[.slice ad2 n2 cp2, .bool s2, .slice a2 l2 c2] 27)) := below_alloc' (below_alloc _ _) _
 rw [show (w.alloc (.cells #[.slice ad n cp, .bool s, .slice a l c] 27)).heap.size = w.heap.size + 1 from by simp] at y
 generalize (w.alloc (.cells #[.slice ad n cp, .bool s, .slice a l c] 27)).alloc (.cells #[.slice ad2 n2 cp2, .bool s2, .slice a2 l2 c2] 27) = wb at *
 replace hP := hP.below b0
 replace hz := hz.below b0
 replace hP2 := hP2.below b0
 replace hz2 := hz2.below b0
 replace hV := hV.below b0
 generalize hp : w.heap.size = p0 at *
 replace b0 : Hid (Below w.heap.size w wb) := hp ▸ b0
 replace hp := hide hp
 generalize p0 + 1 = p1 at *
 refine (awake5 wb).mono ?_
 rintro e w1 ⟨rfl, k1⟩
 replace k1 := hide k1
 have fy0 := (y.below k1.out).c0
 have fy1 := (y.below k1.out).c1
 have fy2 := (y.below k1.out).c2
 have fyl := (y.below k1.out).lt
 go_wp2_with fail
 refine (eval_n (hP2.below k1.out) (hz2.below k1.out) hl2 (hV.below k1.out) (by omega)).mono ?_
 rintro e w2 ⟨sx, ax, lx, cx, ex, rfl, kE, hEx⟩
 clear fy0 fy1 fy2 fyl
 have k2' := hide (grow_step kE k1.out)
 clear kE k1
 have bx := zb_new w2 sx ax lx cx
 have kx := hide (grow_alloc k2'.out (.cells #[.bool sx, .slice ax lx cx] 25))
 rcases hEx with ⟨-, rfl, -⟩ | ⟨hT1, rfl, hzx, hlx⟩
 ·have k4 := hide (grow_step kx.out b0.out)
  go_wp2
  go_ret
  exact ⟨by simp, k4.out⟩
 ·replace hzx := hzx.below (below_alloc w2 (.cells #[.bool sx, .slice ax lx cx] 25))
  have hq : (w2.alloc (.cells #[.bool sx, .slice ax lx cx] 25)).heap.size = w2.heap.size + 1 := by simp
  have hV2 := hV.below kx.out
  replace hq := hide hq
  go_wp2_with (at_builtin; refine wpList_append_run rfl _ _ 48 rfl _ _ rfl rfl _ (append_vals (B := 8 * B + 8) hq.out hzx.zm (by omega) hv (hV2.mono (by omega)) (by omega) hcp.out _) ?_; rintro v' w3 ⟨kP, adw, cpw, rfl, hPw⟩; have k3 := hide (grow_step kP kx.out); have fx0 := (x.below k3.out).c0; have fx1 := (x.below k3.out).c1; have fx2 := (x.below k3.out).c2)
  replace bx := bx.below kP
  replace hzx := hzx.below kP
  clear kP kx k2' hq hV2
  clear fx0 fx1 fx2
  generalize w2.heap.size = qx at *
  generalize hX : k2 + ev us (val1 vs) = X at *
  refine (eval_n (B := 8 * B + 8) ((hP.below k3.out).mono (by omega)) (hz.below k3.out) (by omega) hPw (by omega)).mono ?_
  rintro e w4 ⟨sy, ay, ly, cy, ey, rfl, kE, hEy⟩
  have k4 := hide (grow_step kE k3.out)
  clear kE k3 hPw
  have bY := zb_new w4 sy ay ly cy
  have k5 := hide (grow_alloc k4.out (.cells #[.bool sy, .slice ay ly cy] 25))
  rcases hEy with ⟨-, rfl, -⟩ | ⟨hT2, rfl, hzy, hly⟩
  ·have k6 := hide (grow_step k5.out b0.out)
   go_wp2
   go_ret
   exact ⟨by simp, k6.out⟩
  ·replace hzy := hzy.below (below_alloc w4 (.cells #[.bool sy, .slice ay ly cy] 25))
   clear bx hzx
   have fx0 := (x.below k4.out).c0
   have fx1 := (x.below k4.out).c1
   have fx2 := (x.below k4.out).c2
   have fxl := (x.below k4.out).lt
   have fy0 := (y.below k4.out).c0
   have fy1 := (y.below k4.out).c1
   have fy2 := (y.below k4.out).c2
   have fyl := (y.below k4.out).lt
   go_wp2_with fail
   clear fx0 fx1 fx2 fxl
   clear fy0 fy1 fy2 fyl
   generalize w4.alloc (.cells #[.bool sy, .slice ay ly cy] 25) = w5 at *
   generalize w4.heap.size = qy at *
   clear k4
   refine (tput_n hv (hP.below k5.out) (hz.below k5.out) hl (hP2.below k5.out) (hz2.below k5.out) hl2 (by omega)).mono ?_
   rintro e w6 ⟨ad', n', cp', s', a', l', c', rs, rfl, hT, hn', hStd, hcs⟩
   have kR := hT.below
   have tR := hT.tw
   replace bY := bY.below kR
   replace hzy := hzy.below kR
   have k6 := hide (grow_step kR k5.out)
   clear kR k5 hT
   go_wp2_with fail
   refine (eval_n (B := 16 * B + 16) (tR.1.mono (by omega)) tR.2.1 (by have := tR.2.2; omega) ((hV.below k6.out).mono (by omega)) (by omega)).mono ?_
   rintro e w7 ⟨sz, az, lz', cz, ez, rfl, kE, hE⟩
   have hTot := tot_put (x := X) hT1 hT2 hcs
   rcases hE with ⟨hN, _⟩ | ⟨_, rfl, hzz, hlz⟩
   ·exact absurd hTot hN
   ·rw [ev_put hcs, hX] at hzz
    have kF := below_alloc w7 (.cells #[.bool sz, .slice az lz' cz] 25)
    have bz := zb_new w7 sz az lz' cz
    replace bY := bY.below kE
    have k7 := hide (grow_step kE k6.out)
    have k8 := hide (grow_step kF k7.out)
    replace hzy := (hzy.below kE).below kF
    replace hzz := hzz.below kF
    have bY8 := bY.below kF
    have g0 := bY.c0
    have g1 := bY.c1
    have g2 := bY.lt
    clear kE k6 hTot tR kF
    go_wp2_with fail
    clear g0 g1 g2
    generalize w7.alloc (.cells #[.bool sz, .slice az lz' cz] 25) = w8 at *
    generalize w7.heap.size = qz at *
    refine (zcmp_n hzy.zm hzz.zm (by omega) (by omega)).mono ?_
    rintro e w9 ⟨rfl, k9⟩
    rw [cmpI_eq rfl]
    replace k9 := hide (grow_step k9 k8.out)
    clear k8 k7 bY bY8 hzy hzz bz
    have fx0 := (x.below k9.out).c0
    have fx1 := (x.below k9.out).c1
    have fx2 := (x.below k9.out).c2
    have fxl := (x.below k9.out).lt
    go_wp2_with fail
    clear fx0 fx1 fx2 fxl
    refine (twithout_n (hP.below k9.out) (hz.below k9.out) hl (by omega) hv).mono ?_
    rintro e wa ⟨ad4, n4, cp4, s4, a4, l4, c4, rsO, rfl, hTO, hnO, hStdO, hcsO⟩
    have ka := hide (grow_step hTO.below k9.out)
    have tO := hTO.tw
    clear hTO k9
    go_wp2_with fail
    refine (tcoef_n (v := v) (tO.1.mono (B' := 4 * B + 4) (by omega)) (by omega)).mono ?_
    rintro e wc ⟨sC, aC, lC, cC, rfl, hzC, hlC, kC⟩
    obtain rfl : lC = 0 := zn_len0 hzC (by rw [hcsO, csum_wo, if_pos rfl])
    have kc := hide (grow_alloc (grow_step (grow_step kC ka.out) b0.out) (.cells #[.bool sC, .slice aC 0 cC] 25))
    clear ka kC tO hzC
    go_wp2
    go_ret
    exact ⟨by simp, kc.out⟩
end Go.Proofs.Ytagjfhipjbpoiaa
