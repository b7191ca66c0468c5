/-
 Several texts in one: ZD, ZF1.
-/
import Derived.Test.YtmlephkmbkiofaaGreatDoorR08
import Derived.Test.YtmlephkmbkiofaaGreatDoorR10
import Derived.Deep.DeepCutAuto
namespace Go.Proofs.YtmlephkmbkiofaaGreatDoor
open Go.RowKit

theorem fd_rest {a b q r : Int} (h : FD a b q r) : FD a b q (a - q * b) := by
 have e : a - q * b = r := by have := h.1; omega
 rw [e]; exact h
theorem rdm_n {a1 a2 : Option Addr} {l1 c1 l2 c2 : Nat} {m n : Int} {w : World} (h1 : Nm w a1 l1 c1 m) (h2 : Nm w a2 l2 c2 n) (hl1 : l1 ≤ 17179869184) (hl2 : l2 ≤ 17179869184) (hn : 0 < n) :
  Calls Tryz.prog 65 #[.slice a1 l1 c1, .slice a2 l2 c2] w fun e w' => ∃ aq lq cq ar lr cr, e = .returned (.tuple #[.slice aq lq cq, .slice ar lr cr]) ∧ Cn w' aq lq cq (m / n) ∧ Cn w' ar lr cr (m % n) ∧ Below w.heap.size w w' ∧ lq ≤ l1 ∧ lr ≤ l2 := by
 obtain ⟨xs, h1, rfl⟩ := h1
 obtain ⟨ys, h2, rfl⟩ := h2
 exact refdivmod_any h1 h2 hl1 hl2 hn

/-- three variables, as a region meets them -/
theorem zc3 {wb w' : World} {p1 p2 p3 l1 c1 l2 c2 l3 c3 : Nat} {s1 s2 s3 : Bool} {a1 a2 a3 : Option Addr} (x1 : ZB wb p1 s1 a1 l1 c1) (x2 : ZB wb p2 s2 a2 l2 c2) (x3 : ZB wb p3 s3 a3 l3 c3) (k : Below wb.heap.size wb w') :
  w'.cell? ⟨p1, 0, none⟩ = some (.bool s1) ∧ w'.cell? ⟨p1, 1, none⟩ = some (.slice a1 l1 c1) ∧ w'.cell? ⟨p2, 0, none⟩ = some (.bool s2) ∧ w'.cell? ⟨p2, 1, none⟩ = some (.slice a2 l2 c2) ∧ w'.cell? ⟨p3, 0, none⟩ = some (.bool s3) ∧ w'.cell? ⟨p3, 1, none⟩ = some (.slice a3 l3 c3) :=
 ⟨(x1.below k).c0, (x1.below k).c1, (x2.below k).c0, (x2.below k).c1, (x3.below k).c0, (x3.below k).c1⟩
theorem zc3r {wb w' : World} {p1 p2 p3 l1 c1 l2 c2 l3 c3 r : Nat} {s1 s2 s3 : Bool} {a1 a2 a3 : Option Addr} {v v' : Value} (x1 : ZB wb p1 s1 a1 l1 c1) (x2 : ZB wb p2 s2 a2 l2 c2) (x3 : ZB wb p3 s3 a3 l3 c3) (h1 : p1 ≠ r) (h2 : p2 ≠ r) (h3 : p3 ≠ r) (k : Below wb.heap.size wb w') :
  ((w'.setCell ⟨r, 0, none⟩ v).setCell ⟨r, 1, none⟩ v').cell? ⟨p1, 0, none⟩ = some (.bool s1) ∧ ((w'.setCell ⟨r, 0, none⟩ v).setCell ⟨r, 1, none⟩ v').cell? ⟨p1, 1, none⟩ = some (.slice a1 l1 c1) ∧ ((w'.setCell ⟨r, 0, none⟩ v).setCell ⟨r, 1, none⟩ v').cell? ⟨p2, 0, none⟩ = some (.bool s2) ∧ ((w'.setCell ⟨r, 0, none⟩ v).setCell ⟨r, 1, none⟩ v').cell? ⟨p2, 1, none⟩ = some (.slice a2 l2 c2) ∧ ((w'.setCell ⟨r, 0, none⟩ v).setCell ⟨r, 1, none⟩ v').cell? ⟨p3, 0, none⟩ = some (.bool s3) ∧ ((w'.setCell ⟨r, 0, none⟩ v).setCell ⟨r, 1, none⟩ v').cell? ⟨p3, 1, none⟩ = some (.slice a3 l3 c3) := by
 have y1 := (x1.below k).only (only2 r w' v v') h1
 have y2 := (x2.below k).only (only2 r w' v v') h2
 have y3 := (x3.below k).only (only2 r w' v v') h3
 exact ⟨y1.c0, y1.c1, y2.c0, y2.c1, y3.c0, y3.c1⟩
theorem zc3t {wb w' : World} {p1 p2 p3 l1 c1 l2 c2 l3 c3 r t : Nat} {s1 s2 s3 : Bool} {a1 a2 a3 : Option Addr} {v v' u u' : Value} (x1 : ZB wb p1 s1 a1 l1 c1) (x2 : ZB wb p2 s2 a2 l2 c2) (x3 : ZB wb p3 s3 a3 l3 c3) (h1 : p1 ≠ r) (h2 : p2 ≠ r) (h3 : p3 ≠ r) (g1 : p1 ≠ t) (g2 : p2 ≠ t) (g3 : p3 ≠ t) (k : Below wb.heap.size wb w') :
  ((((w'.setCell ⟨r, 0, none⟩ v).setCell ⟨r, 1, none⟩ v').setCell ⟨t, 0, none⟩ u).setCell ⟨t, 1, none⟩ u').cell? ⟨p1, 0, none⟩ = some (.bool s1) ∧ ((((w'.setCell ⟨r, 0, none⟩ v).setCell ⟨r, 1, none⟩ v').setCell ⟨t, 0, none⟩ u).setCell ⟨t, 1, none⟩ u').cell? ⟨p1, 1, none⟩ = some (.slice a1 l1 c1) ∧ ((((w'.setCell ⟨r, 0, none⟩ v).setCell ⟨r, 1, none⟩ v').setCell ⟨t, 0, none⟩ u).setCell ⟨t, 1, none⟩ u').cell? ⟨p2, 0, none⟩ = some (.bool s2) ∧ ((((w'.setCell ⟨r, 0, none⟩ v).setCell ⟨r, 1, none⟩ v').setCell ⟨t, 0, none⟩ u).setCell ⟨t, 1, none⟩ u').cell? ⟨p2, 1, none⟩ = some (.slice a2 l2 c2) ∧ ((((w'.setCell ⟨r, 0, none⟩ v).setCell ⟨r, 1, none⟩ v').setCell ⟨t, 0, none⟩ u).setCell ⟨t, 1, none⟩ u').cell? ⟨p3, 0, none⟩ = some (.bool s3) ∧ ((((w'.setCell ⟨r, 0, none⟩ v).setCell ⟨r, 1, none⟩ v').setCell ⟨t, 0, none⟩ u).setCell ⟨t, 1, none⟩ u').cell? ⟨p3, 1, none⟩ = some (.slice a3 l3 c3) := by
 have y1 := ((x1.below k).only (only2 r w' v v') h1).only (only2 t _ u u') g1
 have y2 := ((x2.below k).only (only2 r w' v v') h2).only (only2 t _ u u') g2
 have y3 := ((x3.below k).only (only2 r w' v v') h3).only (only2 t _ u u') g3
 exact ⟨y1.c0, y1.c1, y2.c0, y2.c1, y3.c0, y3.c1⟩

set_option maxRecDepth 100000 in
set_option maxHeartbeats 1600000 in
theorem rdivmod0 {s1 s2 : Bool} {a1 a2 : Option Addr} {l1 c1 l2 c2 : Nat} {z1 z2 : Int} {w : World} (h1 : Zm w s1 a1 l1 c1 z1) (h2 : Zm w s2 a2 l2 c2 z2) (hl2 : l2 ≤ 17179869184) (hz : z2 = 0) :
  Calls Tryz.prog 44 #[.agg #[.bool s1, .slice a1 l1 c1], .agg #[.bool s2, .slice a2 l2 c2]] w fun e w' => e = .returned (.tuple #[.agg #[.bool false, .slice none 0 0], .agg #[.bool false, .slice none 0 0], .int .i64 11]) ∧ Below w.heap.size w w' := by
 have hm := h1
 have hn := h2
 clear h1 h2
 go_enter Tryz.func44, Tryz.ntmps44
 go_wp2_with fail
 have x := (zb_new w s1 a1 l1 c1).below (below_alloc' (below_alloc' (below_alloc _ (.cells #[.bool s2, .slice a2 l2 c2] 26)) (.cells #[.bool false, .slice none 0 0] 26)) (.cells #[.bool false, .slice none 0 0] 26))
 have x2 := (zb_new (w.alloc (.cells #[.bool s1, .slice a1 l1 c1] 26)) s2 a2 l2 c2).below (below_alloc' (below_alloc _ (.cells #[.bool false, .slice none 0 0] 26)) (.cells #[.bool false, .slice none 0 0] 26))
 have y := (zb_new ((w.alloc (.cells #[.bool s1, .slice a1 l1 c1] 26)).alloc (.cells #[.bool s2, .slice a2 l2 c2] 26)) false none 0 0).below (below_alloc _ (.cells #[.bool false, .slice none 0 0] 26))
 have yt := zb_new (((w.alloc (.cells #[.bool s1, .slice a1 l1 c1] 26)).alloc (.cells #[.bool s2, .slice a2 l2 c2] 26)).alloc (.cells #[.bool false, .slice none 0 0] 26)) false none 0 0
 have b0 : Below w.heap.size w ((((w.alloc (.cells #[.bool s1, .slice a1 l1 c1] 26)).alloc (.cells #[.bool s2, .slice a2 l2 c2] 26)).alloc (.cells #[.bool false, .slice none 0 0] 26)).alloc (.cells #[.bool false, .slice none 0 0] 26)) := below_alloc' (below_alloc' (below_alloc' (below_alloc _ _) _) _) _
 rw [show (((w.alloc (.cells #[.bool s1, .slice a1 l1 c1] 26)).alloc (.cells #[.bool s2, .slice a2 l2 c2] 26)).alloc (.cells #[.bool false, .slice none 0 0] 26)).heap.size = w.heap.size + 3 from by simp] at yt
 rw [show ((w.alloc (.cells #[.bool s1, .slice a1 l1 c1] 26)).alloc (.cells #[.bool s2, .slice a2 l2 c2] 26)).heap.size = w.heap.size + 2 from by simp] at y
 rw [show (w.alloc (.cells #[.bool s1, .slice a1 l1 c1] 26)).heap.size = w.heap.size + 1 from by simp] at x2
 generalize (((w.alloc (.cells #[.bool s1, .slice a1 l1 c1] 26)).alloc (.cells #[.bool s2, .slice a2 l2 c2] 26)).alloc (.cells #[.bool false, .slice none 0 0] 26)).alloc (.cells #[.bool false, .slice none 0 0] 26) = wb at *
 have hpr : w.heap.size < w.heap.size + 2 := by omega
 have hqr : w.heap.size + 1 < w.heap.size + 2 := by omega
 have hrt : w.heap.size + 2 < w.heap.size + 3 := by omega
 replace hm := hm.below b0
 replace hn := hn.below b0
 generalize hp : w.heap.size = p at *
 replace hp := hide hp
 generalize p + 3 = t at *
 generalize p + 2 = r at *
 generalize p + 1 = q at *
 have hrb := Nat.le_of_lt y.lt
 refine (rsign_n hn (by omega)).mono ?_
 rintro e w' ⟨rfl, k1⟩
 rw [cmpI_eq hz]
 have y' := y.below k1
 have yt' := yt.below k1
 have y0 := y'.c0
 have y1 := y'.c1
 have y2 := y'.f 0
 have y3 := y'.f 1
 have t0 := yt'.c0
 have t1 := yt'.c1
 have t2 := yt'.f 0
 have t3 := yt'.f 1
 have hrt' : r ≠ t := by omega
 have hB : Below p w w' := b0.trans (k1.mono (Nat.le_of_lt x.lt))
 go_wp2
 have y4 := zb_fin y' false none 0 0
 have t4 := zb_fin (yt'.only (only2 r w' (.bool false) (.slice none 0 0)) (Ne.symm hrt')) false none 0 0
 refine bodyPost_ret (results_c2t rfl _ _ r t 26 _ _ (0, 0) _ rfl rfl (y4.only (only2 t _ _ _) hrt') t4 Tryz.underlying26 rfl (by kernel_rfl) (by kernel_rfl)) rfl ?_
 exact ⟨by simp, hp.out.symm ▸ (((hB.setCell (Nat.le_of_lt hpr) _).setCell (Nat.le_of_lt hpr) _).setCell (by show p ≤ t; omega) _).setCell (by show p ≤ t; omega) _⟩

set_option maxRecDepth 100000 in
set_option maxHeartbeats 1600000 in
theorem rdivmod_n {s1 s2 : Bool} {a1 a2 : Option Addr} {l1 c1 l2 c2 : Nat} {z1 z2 : Int} {w : World} (h1 : Zm w s1 a1 l1 c1 z1) (h2 : Zm w s2 a2 l2 c2 z2) (hl1 : l1 ≤ 4294967296) (hl2 : l2 ≤ 4294967296) (hz : z2 ≠ 0) :
  Calls Tryz.prog 44 #[.agg #[.bool s1, .slice a1 l1 c1], .agg #[.bool s2, .slice a2 l2 c2]] w fun e w' => ∃ sq aq lq cq sr ar lr cr qv rv, e = .returned (.tuple #[.agg #[.bool sq, .slice aq lq cq], .agg #[.bool sr, .slice ar lr cr], .int .i64 0]) ∧ Zn w' sq aq lq cq qv ∧ Zn w' sr ar lr cr rv ∧ FD z1 z2 qv rv ∧ Below w.heap.size w w' ∧ lq ≤ l1 + 3 ∧ lr ≤ l1 + l2 + 5 := by
 have hm := h1
 have hn := h2
 clear h1 h2
 go_enter Tryz.func44, Tryz.ntmps44
 go_wp2_with fail
 have x := (zb_new w s1 a1 l1 c1).below (below_alloc' (below_alloc' (below_alloc _ (.cells #[.bool s2, .slice a2 l2 c2] 26)) (.cells #[.bool false, .slice none 0 0] 26)) (.cells #[.bool false, .slice none 0 0] 26))
 have x2 := (zb_new (w.alloc (.cells #[.bool s1, .slice a1 l1 c1] 26)) s2 a2 l2 c2).below (below_alloc' (below_alloc _ (.cells #[.bool false, .slice none 0 0] 26)) (.cells #[.bool false, .slice none 0 0] 26))
 have y := (zb_new ((w.alloc (.cells #[.bool s1, .slice a1 l1 c1] 26)).alloc (.cells #[.bool s2, .slice a2 l2 c2] 26)) false none 0 0).below (below_alloc _ (.cells #[.bool false, .slice none 0 0] 26))
 have yt := zb_new (((w.alloc (.cells #[.bool s1, .slice a1 l1 c1] 26)).alloc (.cells #[.bool s2, .slice a2 l2 c2] 26)).alloc (.cells #[.bool false, .slice none 0 0] 26)) false none 0 0
 have b0 : Below w.heap.size w ((((w.alloc (.cells #[.bool s1, .slice a1 l1 c1] 26)).alloc (.cells #[.bool s2, .slice a2 l2 c2] 26)).alloc (.cells #[.bool false, .slice none 0 0] 26)).alloc (.cells #[.bool false, .slice none 0 0] 26)) := below_alloc' (below_alloc' (below_alloc' (below_alloc _ _) _) _) _
 rw [show (((w.alloc (.cells #[.bool s1, .slice a1 l1 c1] 26)).alloc (.cells #[.bool s2, .slice a2 l2 c2] 26)).alloc (.cells #[.bool false, .slice none 0 0] 26)).heap.size = w.heap.size + 3 from by simp] at yt
 rw [show ((w.alloc (.cells #[.bool s1, .slice a1 l1 c1] 26)).alloc (.cells #[.bool s2, .slice a2 l2 c2] 26)).heap.size = w.heap.size + 2 from by simp] at y
 rw [show (w.alloc (.cells #[.bool s1, .slice a1 l1 c1] 26)).heap.size = w.heap.size + 1 from by simp] at x2
 generalize (((w.alloc (.cells #[.bool s1, .slice a1 l1 c1] 26)).alloc (.cells #[.bool s2, .slice a2 l2 c2] 26)).alloc (.cells #[.bool false, .slice none 0 0] 26)).alloc (.cells #[.bool false, .slice none 0 0] 26) = wb at *
 have hpr : w.heap.size < w.heap.size + 2 := by omega
 have hqr : w.heap.size + 1 < w.heap.size + 2 := by omega
 have hrt : w.heap.size + 2 < w.heap.size + 3 := by omega
 replace hm := hm.below b0
 replace hn := hn.below b0
 generalize hp : w.heap.size = p at *
 replace hp := hide hp
 generalize p + 3 = t at *
 generalize p + 2 = r at *
 generalize p + 1 = q at *
 have hrb := Nat.le_of_lt y.lt
 refine (rsign_n hn (by omega)).mono ?_
 rintro e w1 ⟨rfl, k1⟩
 have hv7 := cmpI_ne hz
 have hb7 := cmpI_bd z2 0
 generalize cmpI z2 0 = v7 at *
 replace b0 := b0.trans (k1.mono (Nat.le_of_lt x.lt))
 replace x := x.below k1
 replace x2 := x2.below k1
 replace y := y.below k1
 replace yt := yt.below k1
 replace hm := hm.below k1
 replace hn := hn.below k1
 go_upto_region 4 with (fail)
 have u0 := x.c0
 have u1 := x.c1
 go_wp2_with fail
 refine (rnorm_n hm (by omega)).mono ?_
 rintro e w2 ⟨sx, ax, lx, cx, rfl, nx, k2, hlx⟩
 replace b0 := b0.trans (k2.mono (Nat.le_of_lt x.lt))
 clear u0 u1
 replace x := x.below k2
 replace x2 := x2.below k2
 replace y := y.below k2
 replace yt := yt.below k2
 replace hn := hn.below k2
 clear hm
 go_upto_region 5 with (fail)
 have x8 := zb_new w2 sx ax lx cx
 have k3 := below_alloc w2 (.cells #[.bool sx, .slice ax lx cx] 26)
 replace b0 := b0.trans (k3.mono (Nat.le_of_lt x.lt))
 have g1 : r ≠ w2.heap.size := Nat.ne_of_lt y.lt
 have g2 : t ≠ w2.heap.size := Nat.ne_of_lt yt.lt
 replace x := x.below k3
 replace x2 := x2.below k3
 replace y := y.below k3
 replace yt := yt.below k3
 replace hn := hn.below k3
 replace nx := nx.below k3
 generalize w2.alloc (.cells #[.bool sx, .slice ax lx cx] 26) = w3 at *
 generalize w2.heap.size = p8 at *
 clear k3
 have u0 := x2.c0
 have u1 := x2.c1
 go_wp2_with fail
 refine (rnorm_n hn (by omega)).mono ?_
 rintro e w4 ⟨sy, ay, ly, cy, rfl, ny, k4, hly⟩
 replace b0 := b0.trans (k4.mono (Nat.le_of_lt x.lt))
 clear u0 u1
 replace x := x.below k4
 replace y := y.below k4
 replace yt := yt.below k4
 replace x8 := x8.below k4
 replace nx := nx.below k4
 clear hn x2
 go_upto_region 6 with (fail)
 have x9 := zb_new w4 sy ay ly cy
 have k5 := below_alloc w4 (.cells #[.bool sy, .slice ay ly cy] 26)
 replace b0 := b0.trans (k5.mono (Nat.le_of_lt x.lt))
 have g3 : r ≠ w4.heap.size := Nat.ne_of_lt y.lt
 have g4 : t ≠ w4.heap.size := Nat.ne_of_lt yt.lt
 replace x := x.below k5
 replace y := y.below k5
 replace yt := yt.below k5
 replace x8 := x8.below k5
 replace nx := nx.below k5
 replace ny := ny.below k5
 generalize w4.alloc (.cells #[.bool sy, .slice ay ly cy] 26) = w5 at *
 generalize w4.heap.size = p9 at *
 clear k5
 have nx' := nx
 have ny' := ny
 obtain ⟨M, hcM, e1, hs1⟩ := nx'
 obtain ⟨N, hcN, e2, hs2⟩ := ny'
 have hN0 : 0 < N := by
  have := hcN.nm.nonneg
  have : N ≠ 0 := fun h => hz (by rw [e2, h]; cases sy <;> simp [sg])
  omega
 have u1 := x8.c1
 have u3 := x9.c1
 go_wp2_with fail
 refine (rdm_n hcM.nm hcN.nm (by omega) (by omega) hN0).mono ?_
 rintro e w6 ⟨am, lm, cm, an, ln, cn, rfl, hcm, hcn, k6, hlm, hln⟩
 replace b0 := b0.trans (k6.mono (Nat.le_of_lt x.lt))
 clear u1 u3 hcM hcN
 replace x := x.below k6
 replace y := y.below k6
 replace yt := yt.below k6
 replace x8 := x8.below k6
 replace x9 := x9.below k6
 replace nx := nx.below k6
 replace ny := ny.below k6
 clear k6
 go_upto_region 7 with (fail)
 have u0 := x8.c0
 have u2 := x9.c0
 go_wp2_with fail
 refine (rnorm_n (zm_of hcm.nm) (by omega)).mono ?_
 rintro e w7 ⟨sq, aq, lq, cq, rfl, nq, k7, hlq⟩
 replace b0 := b0.trans (k7.mono (Nat.le_of_lt x.lt))
 clear u0 u2 hcm
 replace x := x.below k7
 replace y := y.below k7
 replace yt := yt.below k7
 replace x8 := x8.below k7
 replace x9 := x9.below k7
 replace nx := nx.below k7
 replace ny := ny.below k7
 replace hcn := hcn.below k7
 clear k7
 go_upto_region 8 with (fail)
 have x12 := zb_new w7 sq aq lq cq
 have k8 := below_alloc w7 (.cells #[.bool sq, .slice aq lq cq] 26)
 replace b0 := b0.trans (k8.mono (Nat.le_of_lt x.lt))
 have g5 : r ≠ w7.heap.size := Nat.ne_of_lt y.lt
 have g6 : t ≠ w7.heap.size := Nat.ne_of_lt yt.lt
 have g7 : p8 ≠ w7.heap.size := Nat.ne_of_lt x8.lt
 have g8 : p9 ≠ w7.heap.size := Nat.ne_of_lt x9.lt
 have g9 : p < w7.heap.size := x.lt
 have hrt' : r ≠ t := by omega
 replace x := x.below k8
 replace y := y.below k8
 replace yt := yt.below k8
 replace x8 := x8.below k8
 replace x9 := x9.below k8
 replace nx := nx.below k8
 replace ny := ny.below k8
 replace nq := nq.below k8
 replace hcn := hcn.below k8
 generalize w7.alloc (.cells #[.bool sq, .slice aq lq cq] 26) = w8 at *
 generalize w7.heap.size = p12 at *
 clear k8
 have u0 := x8.c0
 have u2 := x9.c0
 by_cases hs : sx = sy
 ·have hs' : (sx == sy) = true := by simp [hs]
  have HF : FD z1 z2 (M / N) (sg sy (M % N)) := by rw [e1, e2, hs]; exact fd_same hN0
  rw [hs', show sg (!true) (M / N) = M / N from rfl] at nq
  clear hs hcn
  go_wp2_with fail
  clear u0 u2
  have HFD := fd_rest HF
  go_region_held3 (fun w' => w'.cell? ⟨p8, 0, none⟩ = some (.bool sx) ∧ w'.cell? ⟨p8, 1, none⟩ = some (.slice ax lx cx) ∧ w'.cell? ⟨p9, 0, none⟩ = some (.bool sy) ∧ w'.cell? ⟨p9, 1, none⟩ = some (.slice ay ly cy) ∧ w'.cell? ⟨p12, 0, none⟩ = some (.bool sq) ∧ w'.cell? ⟨p12, 1, none⟩ = some (.slice aq lq cq))
   (first | (refine zc3 x8 x9 x12 ?_; focus ((repeat' (first | with_reducible exact Below.refl _ _ | with_reducible assumption | with_reducible refine grow_step (by with_reducible assumption) ?_ | with_reducible refine grow_drew ?_ | with_reducible refine grow_alloc ?_ _ | with_reducible refine grow_drewN ?_ _)); done)) | (refine zc3r x8 x9 x12 (Ne.symm g1) (Ne.symm g3) (Ne.symm g5) ?_; focus ((repeat' (first | with_reducible exact Below.refl _ _ | with_reducible assumption | with_reducible refine grow_step (by with_reducible assumption) ?_ | with_reducible refine grow_drew ?_ | with_reducible refine grow_alloc ?_ _ | with_reducible refine grow_drewN ?_ _)); done)) | (refine zc3t x8 x9 x12 (Ne.symm g1) (Ne.symm g3) (Ne.symm g5) (Ne.symm g2) (Ne.symm g4) (Ne.symm g6) ?_; focus ((repeat' (first | with_reducible exact Below.refl _ _ | with_reducible assumption | with_reducible refine grow_step (by with_reducible assumption) ?_ | with_reducible refine grow_drew ?_ | with_reducible refine grow_alloc ?_ _ | with_reducible refine grow_drewN ?_ _)); done)))
   (first | (go_at_call 35; with_reducible refine (rmul2_n (Zn.zm (Zn.below nq (by (repeat' (first | with_reducible exact Below.refl _ _ | with_reducible assumption | with_reducible refine grow_step (by with_reducible assumption) ?_ | with_reducible refine grow_drew ?_ | with_reducible refine grow_alloc ?_ _ | with_reducible refine grow_drewN ?_ _))))) (Zn.zm (Zn.below ny (by (repeat' (first | with_reducible exact Below.refl _ _ | with_reducible assumption | with_reducible refine grow_step (by with_reducible assumption) ?_ | with_reducible refine grow_drew ?_ | with_reducible refine grow_alloc ?_ _ | with_reducible refine grow_drewN ?_ _))))) (by omega) (by omega)).mono ?_; rintro e wA ⟨sM, aM, lM, cM, rfl, nM, hg, hlM⟩) | (go_at_call 66; with_reducible refine (rsub2_n (Zn.zm (Zn.below nx (by (repeat' (first | with_reducible exact Below.refl _ _ | with_reducible assumption | with_reducible refine grow_step (by with_reducible assumption) ?_ | with_reducible refine grow_drew ?_ | with_reducible refine grow_alloc ?_ _ | with_reducible refine grow_drewN ?_ _))))) (Zn.zm (Zn.below nM (by (repeat' (first | with_reducible exact Below.refl _ _ | with_reducible assumption | with_reducible refine grow_step (by with_reducible assumption) ?_ | with_reducible refine grow_drew ?_ | with_reducible refine grow_alloc ?_ _ | with_reducible refine grow_drewN ?_ _))))) (by omega) (by omega)).mono ?_; rintro e w' ⟨sr, ar, lr, cr, rfl, nr, hg', hlr⟩; have y' : ZB w' r false none 0 0 := ZB.below y (by (repeat' (first | with_reducible exact Below.refl _ _ | with_reducible assumption | with_reducible refine grow_step (by with_reducible assumption) ?_ | with_reducible refine grow_drew ?_ | with_reducible refine grow_alloc ?_ _ | with_reducible refine grow_drewN ?_ _))); have y0 := y'.c0; have y1 := y'.c1; have y2 := y'.f 0; have y3 := y'.f 1; have yt' : ZB w' t false none 0 0 := ZB.below yt (by (repeat' (first | with_reducible exact Below.refl _ _ | with_reducible assumption | with_reducible refine grow_step (by with_reducible assumption) ?_ | with_reducible refine grow_drew ?_ | with_reducible refine grow_alloc ?_ _ | with_reducible refine grow_drewN ?_ _))); have t0 := yt'.c0; have t1 := yt'.c1; have t2 := yt'.f 0; have t3 := yt'.f 1; have nq' := Zn.below nq (show Below _ _ w' by (repeat' (first | with_reducible exact Below.refl _ _ | with_reducible assumption | with_reducible refine grow_step (by with_reducible assumption) ?_ | with_reducible refine grow_drew ?_ | with_reducible refine grow_alloc ?_ _ | with_reducible refine grow_drewN ?_ _))); have kB := show Below w8.heap.size w8 w' by (repeat' (first | with_reducible exact Below.refl _ _ | with_reducible assumption | with_reducible refine grow_step (by with_reducible assumption) ?_ | with_reducible refine grow_drew ?_ | with_reducible refine grow_alloc ?_ _ | with_reducible refine grow_drewN ?_ _))))
  have hB : Below p w w' := b0.trans (kB.mono (Nat.le_of_lt x.lt))
  go_wp2
  have y4 := zb_fin y' sq aq lq cq
  have t4 := zb_fin (yt'.only (only2 r w' (.bool sq) (.slice aq lq cq)) (Ne.symm hrt')) sr ar lr cr
  refine bodyPost_ret (results_c2t rfl _ _ r t 26 _ _ (0, 0) _ rfl rfl (y4.only (only2 t _ _ _) hrt') t4 Tryz.underlying26 rfl (by kernel_rfl) (by kernel_rfl)) rfl ?_
  have zq := zb_zn (yt'.only (only2 r w' (.bool sq) (.slice aq lq cq)) (Ne.symm hrt')) (zb_zn y' nq' sq aq lq cq) sr ar lr cr
  have zr := zb_zn (yt'.only (only2 r w' (.bool sq) (.slice aq lq cq)) (Ne.symm hrt')) (zb_zn y' nr sq aq lq cq) sr ar lr cr
  exact ⟨sq, aq, lq, cq, sr, ar, lr, cr, _, _, by simp, zq, zr, HFD, hp.out.symm ▸ (((hB.setCell (Nat.le_of_lt hpr) _).setCell (Nat.le_of_lt hpr) _).setCell (by show p ≤ t; omega) _).setCell (by show p ≤ t; omega) _, by omega, by omega⟩
 ·have hs' : (sx == sy) = false := by simp [hs]
  rw [hs', show sg (!false) (M / N) = sg true (M / N) from rfl] at nq
  go_wp2_with fail
  refine (trim_n hcn.nm (by omega)).mono ?_
  rintro e w9 ⟨aT, lT, cT, rfl, hcT, k9, -⟩
  have hT := hcT.len
  replace b0 := b0.trans (k9.mono (Nat.le_of_lt x.lt))
  clear u0 u2 hcT hcn
  replace x := x.below k9
  replace y := y.below k9
  replace yt := yt.below k9
  replace x8 := x8.below k9
  replace x9 := x9.below k9
  replace x12 := x12.below k9
  replace nx := nx.below k9
  replace ny := ny.below k9
  replace nq := nq.below k9
  clear k9
  by_cases hr0 : M % N = 0
  ·obtain rfl : lT = 0 := hT.1 hr0
   have HF : FD z1 z2 (sg true (M / N)) (sg sy (M % N)) := by rw [e1, e2]; exact fd_zero hs hN0 hr0
   clear hs
   go_wp2_with fail
   have HFD := fd_rest HF
   go_region_held3 (fun w' => w'.cell? ⟨p8, 0, none⟩ = some (.bool sx) ∧ w'.cell? ⟨p8, 1, none⟩ = some (.slice ax lx cx) ∧ w'.cell? ⟨p9, 0, none⟩ = some (.bool sy) ∧ w'.cell? ⟨p9, 1, none⟩ = some (.slice ay ly cy) ∧ w'.cell? ⟨p12, 0, none⟩ = some (.bool sq) ∧ w'.cell? ⟨p12, 1, none⟩ = some (.slice aq lq cq))
    (first | (refine zc3 x8 x9 x12 ?_; focus ((repeat' (first | with_reducible exact Below.refl _ _ | with_reducible assumption | with_reducible refine grow_step (by with_reducible assumption) ?_ | with_reducible refine grow_drew ?_ | with_reducible refine grow_alloc ?_ _ | with_reducible refine grow_drewN ?_ _)); done)) | (refine zc3r x8 x9 x12 (Ne.symm g1) (Ne.symm g3) (Ne.symm g5) ?_; focus ((repeat' (first | with_reducible exact Below.refl _ _ | with_reducible assumption | with_reducible refine grow_step (by with_reducible assumption) ?_ | with_reducible refine grow_drew ?_ | with_reducible refine grow_alloc ?_ _ | with_reducible refine grow_drewN ?_ _)); done)) | (refine zc3t x8 x9 x12 (Ne.symm g1) (Ne.symm g3) (Ne.symm g5) (Ne.symm g2) (Ne.symm g4) (Ne.symm g6) ?_; focus ((repeat' (first | with_reducible exact Below.refl _ _ | with_reducible assumption | with_reducible refine grow_step (by with_reducible assumption) ?_ | with_reducible refine grow_drew ?_ | with_reducible refine grow_alloc ?_ _ | with_reducible refine grow_drewN ?_ _)); done)))
    (first | (go_at_call 35; with_reducible refine (rmul2_n (Zn.zm (Zn.below nq (by (repeat' (first | with_reducible exact Below.refl _ _ | with_reducible assumption | with_reducible refine grow_step (by with_reducible assumption) ?_ | with_reducible refine grow_drew ?_ | with_reducible refine grow_alloc ?_ _ | with_reducible refine grow_drewN ?_ _))))) (Zn.zm (Zn.below ny (by (repeat' (first | with_reducible exact Below.refl _ _ | with_reducible assumption | with_reducible refine grow_step (by with_reducible assumption) ?_ | with_reducible refine grow_drew ?_ | with_reducible refine grow_alloc ?_ _ | with_reducible refine grow_drewN ?_ _))))) (by omega) (by omega)).mono ?_; rintro e wA ⟨sM, aM, lM, cM, rfl, nM, hg, hlM⟩) | (go_at_call 66; with_reducible refine (rsub2_n (Zn.zm (Zn.below nx (by (repeat' (first | with_reducible exact Below.refl _ _ | with_reducible assumption | with_reducible refine grow_step (by with_reducible assumption) ?_ | with_reducible refine grow_drew ?_ | with_reducible refine grow_alloc ?_ _ | with_reducible refine grow_drewN ?_ _))))) (Zn.zm (Zn.below nM (by (repeat' (first | with_reducible exact Below.refl _ _ | with_reducible assumption | with_reducible refine grow_step (by with_reducible assumption) ?_ | with_reducible refine grow_drew ?_ | with_reducible refine grow_alloc ?_ _ | with_reducible refine grow_drewN ?_ _))))) (by omega) (by omega)).mono ?_; rintro e w' ⟨sr, ar, lr, cr, rfl, nr, hg', hlr⟩; have y' : ZB w' r false none 0 0 := ZB.below y (by (repeat' (first | with_reducible exact Below.refl _ _ | with_reducible assumption | with_reducible refine grow_step (by with_reducible assumption) ?_ | with_reducible refine grow_drew ?_ | with_reducible refine grow_alloc ?_ _ | with_reducible refine grow_drewN ?_ _))); have y0 := y'.c0; have y1 := y'.c1; have y2 := y'.f 0; have y3 := y'.f 1; have yt' : ZB w' t false none 0 0 := ZB.below yt (by (repeat' (first | with_reducible exact Below.refl _ _ | with_reducible assumption | with_reducible refine grow_step (by with_reducible assumption) ?_ | with_reducible refine grow_drew ?_ | with_reducible refine grow_alloc ?_ _ | with_reducible refine grow_drewN ?_ _))); have t0 := yt'.c0; have t1 := yt'.c1; have t2 := yt'.f 0; have t3 := yt'.f 1; have nq' := Zn.below nq (show Below _ _ w' by (repeat' (first | with_reducible exact Below.refl _ _ | with_reducible assumption | with_reducible refine grow_step (by with_reducible assumption) ?_ | with_reducible refine grow_drew ?_ | with_reducible refine grow_alloc ?_ _ | with_reducible refine grow_drewN ?_ _))); have kB := show Below w9.heap.size w9 w' by (repeat' (first | with_reducible exact Below.refl _ _ | with_reducible assumption | with_reducible refine grow_step (by with_reducible assumption) ?_ | with_reducible refine grow_drew ?_ | with_reducible refine grow_alloc ?_ _ | with_reducible refine grow_drewN ?_ _))))
   have hB : Below p w w' := b0.trans (kB.mono (Nat.le_of_lt x.lt))
   go_wp2
   have y4 := zb_fin y' sq aq lq cq
   have t4 := zb_fin (yt'.only (only2 r w' (.bool sq) (.slice aq lq cq)) (Ne.symm hrt')) sr ar lr cr
   refine bodyPost_ret (results_c2t rfl _ _ r t 26 _ _ (0, 0) _ rfl rfl (y4.only (only2 t _ _ _) hrt') t4 Tryz.underlying26 rfl (by kernel_rfl) (by kernel_rfl)) rfl ?_
   have zq := zb_zn (yt'.only (only2 r w' (.bool sq) (.slice aq lq cq)) (Ne.symm hrt')) (zb_zn y' nq' sq aq lq cq) sr ar lr cr
   have zr := zb_zn (yt'.only (only2 r w' (.bool sq) (.slice aq lq cq)) (Ne.symm hrt')) (zb_zn y' nr sq aq lq cq) sr ar lr cr
   exact ⟨sq, aq, lq, cq, sr, ar, lr, cr, _, _, by simp, zq, zr, HFD, hp.out.symm ▸ (((hB.setCell (Nat.le_of_lt hpr) _).setCell (Nat.le_of_lt hpr) _).setCell (by show p ≤ t; omega) _).setCell (by show p ≤ t; omega) _, by omega, by omega⟩
  ·have hT0 : 0 < lT := Nat.pos_of_ne_zero (fun h => hr0 (hT.2 h))
   have HF : FD z1 z2 (sg true (M / N) - 1) (sg sy (N - M % N)) := by
    rw [e1, e2, show sg true (M / N) - 1 = sg true (M / N + 1) from by show -(M / N) - 1 = -(M / N + 1); omega]
    exact fd_up hs hN0 hr0
   clear hs hr0 hT
   have u0 := x12.c0
   have u1 := x12.c1
   have HL : lq ≤ 17179869184 := by omega
   go_wp2_with fail
   go_region_with (first | (go_at_call 24; with_reducible refine (rof_n 1 (by decide) (by decide) _).mono ?_; rintro e wA ⟨s5, a5, l5, c5, rfl, z5, hg, hl5⟩; have K9 := (show Below w9.heap.size w9 wA by (repeat' (first | with_reducible exact Below.refl _ _ | with_reducible assumption | with_reducible refine grow_step (by with_reducible assumption) ?_ | with_reducible refine grow_drew ?_ | with_reducible refine grow_alloc ?_ _ | with_reducible refine grow_drewN ?_ _))); have HL5 : l5 ≤ 17179869184 := (by omega); have v0 := (ZB.below x12 K9).c0; have v1 := (ZB.below x12 K9).c1) | (go_at_call 66; refine (rsub2_n (Zn.zm (Zn.below nq K9)) (Zn.zm z5) HL HL5).mono ?_; rintro e wB ⟨sQ, aQ, lQ, cQ, rfl, nQ, hg', hlQ⟩; have kB := grow_step hg' K9; have xB := ZB.below x12 kB; have y0 := xB.c0; have y1 := xB.c1; have y2 := xB.f 0; have y3 := xB.f 1))
   all_goals (
    have o := only2 p12 wB (.bool sQ) (.slice aQ lQ cQ)
    have b1 := b0.trans (kB.mono (Nat.le_of_lt x.lt))
    have b2 := (b1.setCell (p := ⟨p12, 0, none⟩) (Nat.le_of_lt g9) (.bool sQ)).setCell (p := ⟨p12, 1, none⟩) (Nat.le_of_lt g9) (.slice aQ lQ cQ)
    have X := (x.below kB).only o (Nat.ne_of_lt g9)
    have Y := (y.below kB).only o g5
    have YT := (yt.below kB).only o g6
    have X8 := (x8.below kB).only o g7
    have X9 := (x9.below kB).only o g8
    have NX := zb_zn xB (nx.below kB) sQ aQ lQ cQ
    have NY := zb_zn xB (ny.below kB) sQ aQ lQ cQ
    have NQ := zb_zn xB nQ sQ aQ lQ cQ
    have X12 := zb_fin xB sQ aQ lQ cQ
    generalize (wB.setCell ⟨p12, 0, none⟩ (.bool sQ)).setCell ⟨p12, 1, none⟩ (.slice aQ lQ cQ) = wQ at *
    clear b0 b1 x y yt x8 x9 x12 nx ny nq nQ u0 u1 v0 v1 y0 y1 y2 y3 o xB
    have b0 := b2
    have x := X
    have y := Y
    have yt := YT
    have x8 := X8
    have x9 := X9
    have x12 := X12
    have nx := NX
    have ny := NY
    have nq := NQ
    clear b2 X Y YT X8 X9 X12 NX NY NQ
    go_wp2_with fail
    have HFD := fd_rest HF
    go_region_held3 (fun w' => w'.cell? ⟨p8, 0, none⟩ = some (.bool sx) ∧ w'.cell? ⟨p8, 1, none⟩ = some (.slice ax lx cx) ∧ w'.cell? ⟨p9, 0, none⟩ = some (.bool sy) ∧ w'.cell? ⟨p9, 1, none⟩ = some (.slice ay ly cy) ∧ w'.cell? ⟨p12, 0, none⟩ = some (.bool sQ) ∧ w'.cell? ⟨p12, 1, none⟩ = some (.slice aQ lQ cQ))
     (first | (refine zc3 x8 x9 x12 ?_; focus ((repeat' (first | with_reducible exact Below.refl _ _ | with_reducible assumption | with_reducible refine grow_step (by with_reducible assumption) ?_ | with_reducible refine grow_drew ?_ | with_reducible refine grow_alloc ?_ _ | with_reducible refine grow_drewN ?_ _)); done)) | (refine zc3r x8 x9 x12 (Ne.symm g1) (Ne.symm g3) (Ne.symm g5) ?_; focus ((repeat' (first | with_reducible exact Below.refl _ _ | with_reducible assumption | with_reducible refine grow_step (by with_reducible assumption) ?_ | with_reducible refine grow_drew ?_ | with_reducible refine grow_alloc ?_ _ | with_reducible refine grow_drewN ?_ _)); done)) | (refine zc3t x8 x9 x12 (Ne.symm g1) (Ne.symm g3) (Ne.symm g5) (Ne.symm g2) (Ne.symm g4) (Ne.symm g6) ?_; focus ((repeat' (first | with_reducible exact Below.refl _ _ | with_reducible assumption | with_reducible refine grow_step (by with_reducible assumption) ?_ | with_reducible refine grow_drew ?_ | with_reducible refine grow_alloc ?_ _ | with_reducible refine grow_drewN ?_ _)); done)))
     (first | (go_at_call 35; with_reducible refine (rmul2_n (Zn.zm (Zn.below nq (by (repeat' (first | with_reducible exact Below.refl _ _ | with_reducible assumption | with_reducible refine grow_step (by with_reducible assumption) ?_ | with_reducible refine grow_drew ?_ | with_reducible refine grow_alloc ?_ _ | with_reducible refine grow_drewN ?_ _))))) (Zn.zm (Zn.below ny (by (repeat' (first | with_reducible exact Below.refl _ _ | with_reducible assumption | with_reducible refine grow_step (by with_reducible assumption) ?_ | with_reducible refine grow_drew ?_ | with_reducible refine grow_alloc ?_ _ | with_reducible refine grow_drewN ?_ _))))) (by omega) (by omega)).mono ?_; rintro e wA ⟨sM, aM, lM, cM, rfl, nM, hg, hlM⟩) | (go_at_call 66; with_reducible refine (rsub2_n (Zn.zm (Zn.below nx (by (repeat' (first | with_reducible exact Below.refl _ _ | with_reducible assumption | with_reducible refine grow_step (by with_reducible assumption) ?_ | with_reducible refine grow_drew ?_ | with_reducible refine grow_alloc ?_ _ | with_reducible refine grow_drewN ?_ _))))) (Zn.zm (Zn.below nM (by (repeat' (first | with_reducible exact Below.refl _ _ | with_reducible assumption | with_reducible refine grow_step (by with_reducible assumption) ?_ | with_reducible refine grow_drew ?_ | with_reducible refine grow_alloc ?_ _ | with_reducible refine grow_drewN ?_ _))))) (by omega) (by omega)).mono ?_; rintro e w' ⟨sr, ar, lr, cr, rfl, nr, hg', hlr⟩; have y' : ZB w' r false none 0 0 := ZB.below y (by (repeat' (first | with_reducible exact Below.refl _ _ | with_reducible assumption | with_reducible refine grow_step (by with_reducible assumption) ?_ | with_reducible refine grow_drew ?_ | with_reducible refine grow_alloc ?_ _ | with_reducible refine grow_drewN ?_ _))); have y0 := y'.c0; have y1 := y'.c1; have y2 := y'.f 0; have y3 := y'.f 1; have yt' : ZB w' t false none 0 0 := ZB.below yt (by (repeat' (first | with_reducible exact Below.refl _ _ | with_reducible assumption | with_reducible refine grow_step (by with_reducible assumption) ?_ | with_reducible refine grow_drew ?_ | with_reducible refine grow_alloc ?_ _ | with_reducible refine grow_drewN ?_ _))); have t0 := yt'.c0; have t1 := yt'.c1; have t2 := yt'.f 0; have t3 := yt'.f 1; have nq' := Zn.below nq (show Below _ _ w' by (repeat' (first | with_reducible exact Below.refl _ _ | with_reducible assumption | with_reducible refine grow_step (by with_reducible assumption) ?_ | with_reducible refine grow_drew ?_ | with_reducible refine grow_alloc ?_ _ | with_reducible refine grow_drewN ?_ _))); have kB := show Below wQ.heap.size wQ w' by (repeat' (first | with_reducible exact Below.refl _ _ | with_reducible assumption | with_reducible refine grow_step (by with_reducible assumption) ?_ | with_reducible refine grow_drew ?_ | with_reducible refine grow_alloc ?_ _ | with_reducible refine grow_drewN ?_ _))))
    have hB : Below p w w' := b0.trans (kB.mono (Nat.le_of_lt x.lt))
    go_wp2
    have y4 := zb_fin y' sQ aQ lQ cQ
    have t4 := zb_fin (yt'.only (only2 r w' (.bool sQ) (.slice aQ lQ cQ)) (Ne.symm hrt')) sr ar lr cr
    refine bodyPost_ret (results_c2t rfl _ _ r t 26 _ _ (0, 0) _ rfl rfl (y4.only (only2 t _ _ _) hrt') t4 Tryz.underlying26 rfl (by kernel_rfl) (by kernel_rfl)) rfl ?_
    have zq := zb_zn (yt'.only (only2 r w' (.bool sQ) (.slice aQ lQ cQ)) (Ne.symm hrt')) (zb_zn y' nq' sQ aQ lQ cQ) sr ar lr cr
    have zr := zb_zn (yt'.only (only2 r w' (.bool sQ) (.slice aQ lQ cQ)) (Ne.symm hrt')) (zb_zn y' nr sQ aQ lQ cQ) sr ar lr cr
    exact ⟨sQ, aQ, lQ, cQ, sr, ar, lr, cr, _, _, by simp, zq, zr, HFD, hp.out.symm ▸ (((hB.setCell (Nat.le_of_lt hpr) _).setCell (Nat.le_of_lt hpr) _).setCell (by show p ≤ t; omega) _).setCell (by show p ≤ t; omega) _, by omega, by omega⟩)

theorem zn_nil (w : World) : Zn w false none 0 0 0 := ⟨0, ⟨[], ⟨rfl, by decide, by decide, fun z hz => (by cases hz), Or.inl ⟨rfl, rfl, rfl⟩⟩, canon_nil, rfl⟩, rfl, fun h => by cases h⟩
theorem rdivmod0z {s1 s2 : Bool} {a1 a2 : Option Addr} {l1 c1 l2 c2 : Nat} {z1 z2 : Int} {w : World} (h1 : Zm w s1 a1 l1 c1 z1) (h2 : Zm w s2 a2 l2 c2 z2) (hl2 : l2 ≤ 17179869184) (hz : z2 = 0) :
  Calls Tryz.prog 44 #[.agg #[.bool s1, .slice a1 l1 c1], .agg #[.bool s2, .slice a2 l2 c2]] w fun e w' => ∃ sq aq lq cq sr ar lr cr, e = .returned (.tuple #[.agg #[.bool sq, .slice aq lq cq], .agg #[.bool sr, .slice ar lr cr], .int .i64 11]) ∧ Zn w' sq aq lq cq 0 ∧ Zn w' sr ar lr cr 0 ∧ Below w.heap.size w w' ∧ lq ≤ 2 ∧ lr ≤ 2 := by
 refine (rdivmod0 h1 h2 hl2 hz).mono ?_
 rintro e w' ⟨rfl, hb⟩
 exact ⟨false, none, 0, 0, false, none, 0, 0, rfl, zn_nil _, zn_nil _, hb, by decide, by decide⟩

end Go.Proofs.YtmlephkmbkiofaaGreatDoor

namespace Go.Proofs.YtmlephkmbkiofaaGreatDoor.Fresh
open Go.RowKit

/-- a row of limbs of its own at block B or later, or nothing -/
def Fr (B : Nat) (w : World) (ad : Option Addr) (cap : Nat) : Prop := (ad = none ∧ cap = 0) ∨ ∃ b xs, ad = some ⟨b, 0, none⟩ ∧ B ≤ b ∧ Row w b xs ∧ xs.length = cap ∧ cap ≤ 9223372036854775807
theorem row_lt {w : World} {b : Nat} {xs : List Int} (h : Row w b xs) : b < w.heap.size := (Array.getElem?_eq_some_iff.1 h).1
theorem Fr.below {B : Nat} {w w' : World} {ad : Option Addr} {cap : Nat} (h : Fr B w ad cap) (hb : Below w.heap.size w w') : Fr B w' ad cap := by
 rcases h with h | ⟨b, xs, h1, h2, h3, h4⟩
 ·exact .inl h
 ·exact .inr ⟨b, xs, h1, h2, (hb.block b (row_lt h3)).trans h3, h4⟩
theorem Fr.only {B : Nat} {w w' : World} {ad : Option Addr} {cap r l c : Nat} {s : Bool} {a : Option Addr} (h : Fr B w ad cap) (y : ZB w r s a l c) (ho : Only r w w') : Fr B w' ad cap := by
 rcases h with h | ⟨b, xs, h1, h2, h3, h4⟩
 ·exact .inl h
 ·refine .inr ⟨b, xs, h1, h2, (ho.block b (fun e => ?_)).trans h3, h4⟩
  subst e
  have e := Option.some.inj ((show w.heap[b]? = _ from y).symm.trans h3)
  injection e with _ e
  exact absurd e (by decide)
def Nm (B : Nat) (w : World) (ad : Option Addr) (len cap : Nat) (n : Int) : Prop := Go.Proofs.YtmlephkmbkiofaaGreatDoor.Nm w ad len cap n ∧ B ≤ w.heap.size
def Cn (B : Nat) (w : World) (ad : Option Addr) (len cap : Nat) (n : Int) : Prop := Go.Proofs.YtmlephkmbkiofaaGreatDoor.Cn w ad len cap n ∧ B ≤ w.heap.size ∧ Fr B w ad cap
theorem Cn.nm {B : Nat} {w : World} {ad : Option Addr} {len cap : Nat} {n : Int} (h : Cn B w ad len cap n) : Nm B w ad len cap n := ⟨h.1.nm, h.2.1⟩
theorem Nm.below {B : Nat} {w w' : World} {ad : Option Addr} {len cap : Nat} {n : Int} (h : Nm B w ad len cap n) (hb : Below w.heap.size w w') : Nm B w' ad len cap n := ⟨h.1.below hb, Nat.le_trans h.2 hb.size⟩
theorem Cn.below {B : Nat} {w w' : World} {ad : Option Addr} {len cap : Nat} {n : Int} (h : Cn B w ad len cap n) (hb : Below w.heap.size w w') : Cn B w' ad len cap n := ⟨h.1.below hb, Nat.le_trans h.2.1 hb.size, h.2.2.below hb⟩
theorem Nm.nonneg {B : Nat} {w : World} {ad : Option Addr} {len cap : Nat} {n : Int} (h : Nm B w ad len cap n) : 0 ≤ n := h.1.nonneg
theorem Cn.len {B : Nat} {w : World} {ad : Option Addr} {len cap : Nat} {n : Int} (h : Cn B w ad len cap n) : n = 0 ↔ len = 0 := h.1.len
theorem out_cn {B : Nat} {w w' : World} {ad : Option Addr} {len cap : Nat} {zs : List Int} {n : Int} (hB : B ≤ w.heap.size) (h : Out w w' ad len cap zs) (hc : Canon zs) (hv : val zs = n) : Cn B w' ad len cap n := by
 refine ⟨Go.Proofs.YtmlephkmbkiofaaGreatDoor.out_cn h hc hv, Nat.le_trans hB h.1.size, ?_⟩
 obtain ⟨_, ⟨rfl, _, rfl, _⟩ | ⟨b, xs, rfl, hb, hr, _, hn, _, hm, _⟩⟩ := h
 ·exact .inl ⟨rfl, rfl⟩
 ·exact .inr ⟨b, xs, rfl, Nat.le_trans hB hb, hr, hn, hm⟩
theorem nm_nil {B : Nat} {w : World} (hB : B ≤ w.heap.size) : Nm B w none 0 0 0 := ⟨Go.Proofs.YtmlephkmbkiofaaGreatDoor.nm_nil w, hB⟩

theorem add_n {B : Nat} {a1 a2 : Option Addr} {l1 c1 l2 c2 : Nat} {m n : Int} {w : World} (h1 : Nm B w a1 l1 c1 m) (h2 : Nm B w a2 l2 c2 n) (hl1 : l1 ≤ 1099511627776) (hl2 : l2 ≤ 1099511627776) :
  Calls Tryz.prog 39 #[.slice a1 l1 c1, .slice a2 l2 c2] w fun e w' => ∃ ad len cap, e = .returned (.slice ad len cap) ∧ Cn B w' ad len cap (m + n) ∧ Below w.heap.size w w' ∧ len ≤ max l1 l2 + 1 := by
 obtain ⟨⟨xs, h1, rfl⟩, hB⟩ := h1
 obtain ⟨⟨ys, h2, rfl⟩, _⟩ := h2
 refine (add_any h1 h2 hl1 hl2).mono ?_
 rintro e w' ⟨ad, len, cap, zs, rfl, ho, hc, hv, hl⟩
 exact ⟨ad, len, cap, rfl, out_cn hB ho hc hv, ho.1, hl⟩
theorem mul_n {B : Nat} {a1 a2 : Option Addr} {l1 c1 l2 c2 : Nat} {m n : Int} {w : World} (h1 : Nm B w a1 l1 c1 m) (h2 : Nm B w a2 l2 c2 n) (hl1 : l1 ≤ 1099511627776) (hl2 : l2 ≤ 1099511627776) :
  Calls Tryz.prog 42 #[.slice a1 l1 c1, .slice a2 l2 c2] w fun e w' => ∃ ad len cap, e = .returned (.slice ad len cap) ∧ Cn B w' ad len cap (m * n) ∧ Below w.heap.size w w' ∧ len ≤ l1 + l2 := by
 obtain ⟨⟨xs, h1, rfl⟩, hB⟩ := h1
 obtain ⟨⟨ys, h2, rfl⟩, _⟩ := h2
 refine (mul_any h1 h2 hl1 hl2).mono ?_
 rintro e w' ⟨ad, len, cap, zs, rfl, ho, hc, hv, hl⟩
 exact ⟨ad, len, cap, rfl, out_cn hB ho hc hv, ho.1, hl⟩
theorem sub_n {B : Nat} {a1 a2 : Option Addr} {l1 c1 l2 c2 : Nat} {m n : Int} {w : World} (h1 : Nm B w a1 l1 c1 m) (h2 : Nm B w a2 l2 c2 n) (hl1 : l1 ≤ 1099511627776) (hge : n ≤ m) :
  Calls Tryz.prog 41 #[.slice a1 l1 c1, .slice a2 l2 c2] w fun e w' => ∃ ad len cap, e = .returned (.tuple #[.slice ad len cap, .int .i64 0]) ∧ Cn B w' ad len cap (m - n) ∧ Below w.heap.size w w' ∧ len ≤ l1 := by
 obtain ⟨⟨xs, h1, rfl⟩, hB⟩ := h1
 obtain ⟨⟨ys, h2, rfl⟩, _⟩ := h2
 refine (sub_any h1 h2 hl1 hge).mono ?_
 rintro e w' ⟨ad, len, cap, zs, rfl, ho, hc, hv, hl⟩
 exact ⟨ad, len, cap, rfl, out_cn hB ho hc hv, ho.1, hl⟩
theorem gcd_n {B : Nat} {a1 a2 : Option Addr} {l1 c1 l2 c2 : Nat} {m n : Int} {w : World} (h1 : Nm B w a1 l1 c1 m) (h2 : Nm B w a2 l2 c2 n) (hl1 : l1 ≤ 1099511627776) (hl2 : l2 ≤ 1099511627776) :
  Calls Tryz.prog 29 #[.slice a1 l1 c1, .slice a2 l2 c2] w fun e w' => ∃ ad len cap, e = .returned (.slice ad len cap) ∧ Cn B w' ad len cap (gcdI m n) ∧ Below w.heap.size w w' ∧ len ≤ max l1 l2 := by
 obtain ⟨⟨xs, h1, rfl⟩, hB⟩ := h1
 obtain ⟨⟨ys, h2, rfl⟩, _⟩ := h2
 refine (gcd_any h1 h2 hl1 hl2).mono ?_
 rintro e w' ⟨ad, len, cap, zs, rfl, ho, hc, hv, hl⟩
 exact ⟨ad, len, cap, rfl, out_cn hB ho hc hv, ho.1, hl⟩
theorem lcm_n {B : Nat} {a1 a2 : Option Addr} {l1 c1 l2 c2 : Nat} {m n : Int} {w : World} (h1 : Nm B w a1 l1 c1 m) (h2 : Nm B w a2 l2 c2 n) (hl1 : l1 ≤ 1099511627776) (hl2 : l2 ≤ 1099511627776) :
  Calls Tryz.prog 30 #[.slice a1 l1 c1, .slice a2 l2 c2] w fun e w' => ∃ ad len cap, e = .returned (.slice ad len cap) ∧ Cn B w' ad len cap (lcmI m n) ∧ Below w.heap.size w w' ∧ len ≤ l1 + l2 := by
 obtain ⟨⟨xs, h1, rfl⟩, hB⟩ := h1
 obtain ⟨⟨ys, h2, rfl⟩, _⟩ := h2
 refine (lcm_any h1 h2 hl1 hl2).mono ?_
 rintro e w' ⟨ad, len, cap, zs, rfl, ho, hc, hv, hl⟩
 exact ⟨ad, len, cap, rfl, out_cn hB ho hc hv, ho.1, hl⟩
theorem of_n {B : Nat} (n : Int) (h0 : 0 ≤ n) (h1 : n < 18446744073709551616) (w : World) (hB : B ≤ w.heap.size) :
  Calls Tryz.prog 28 #[.int .u64 n] w fun e w' => ∃ ad len cap, e = .returned (.slice ad len cap) ∧ Cn B w' ad len cap n ∧ Below w.heap.size w w' ∧ len ≤ 2 := by
 refine (of_any n h0 h1 w).mono ?_
 rintro e w' ⟨ad, len, cap, zs, rfl, ho, hc, hv, hl⟩
 exact ⟨ad, len, cap, rfl, out_cn hB ho hc hv, ho.1, hl⟩
theorem sub_new {B : Nat} {a1 a2 : Option Addr} {l1 c1 l2 c2 : Nat} {m n : Int} {w : World} (h1 : Nm B w a1 l1 c1 m) (h2 : Nm B w a2 l2 c2 n) (hl1 : l1 ≤ 1099511627776) (hge : n ≤ m) :
  Calls Tryz.prog 41 #[.slice a1 l1 c1, .slice a2 l2 c2] w fun e w' => ∃ ad len cap, e = .returned (.tuple #[.slice ad len cap, .int .i64 0]) ∧ Cn B w' ad len cap (m - n) ∧ Below w.heap.size w w' ∧ len ≤ l1 ∧ ∀ b, blk ad = some b → w.heap.size ≤ b := by
 obtain ⟨⟨xs, h1, rfl⟩, hB⟩ := h1
 obtain ⟨⟨ys, h2, rfl⟩, _⟩ := h2
 refine (sub_any h1 h2 hl1 hge).mono ?_
 rintro e w' ⟨ad, len, cap, zs, rfl, ho, hc, hv, hl⟩
 exact ⟨ad, len, cap, rfl, out_cn hB ho hc hv, ho.1, hl, fun b hb => (ho.lt hb).1⟩
theorem divmod_n {B : Nat} {a1 a2 : Option Addr} {l1 c1 l2 c2 : Nat} {m n : Int} {w : World} (h1 : Nm B w a1 l1 c1 m) (h2 : Nm B w a2 l2 c2 n) (hl1 : l1 ≤ 1099511627776) (hn0 : 0 < n) :
  Calls Tryz.prog 43 #[.slice a1 l1 c1, .slice a2 l2 c2] w fun e w' => ∃ aq lq cq ar lr cr, e = .returned (.tuple #[.slice aq lq cq, .slice ar lr cr, .int .i64 0]) ∧ Cn B w' aq lq cq (m / n) ∧ Cn B w' ar lr cr (m % n) ∧ Below w.heap.size w w' ∧ lq ≤ l1 ∧ lr ≤ l2 ∧ (∀ b, blk ar = some b → blk aq ≠ some b) := by
 obtain ⟨⟨xs, h1, rfl⟩, hB⟩ := h1
 obtain ⟨⟨ys, h2, rfl⟩, _⟩ := h2
 refine (divmod_any h1 h2 hl1 hn0).mono ?_
 rintro e w' ⟨aq, lq, cq, zq, ar, lr, cr, zr, rfl, hoq, hcq, hvq, hor, hcr, hvr, hlq, hap⟩
 refine ⟨aq, lq, cq, ar, lr, cr, rfl, out_cn hB hoq hcq hvq, out_cn hB hor hcr hvr, hoq.1, hlq, ?_, fun b hb e => ?_⟩
 ·rw [← hor.rd.1]
  exact canon_short hcr h2.2.2.2.1 h2.1 (by rw [hvr]; exact Int.le_of_lt (Int.emod_lt_of_pos _ hn0))
 ·rcases hap with rfl | h
  ·cases e
  ·exact h (e.trans hb.symm)
theorem cmp_n {B : Nat} {a1 a2 : Option Addr} {l1 c1 l2 c2 : Nat} {m n : Int} {w : World} (h1 : Nm B w a1 l1 c1 m) (h2 : Nm B w a2 l2 c2 n) :
  Calls Tryz.prog 40 #[.slice a1 l1 c1, .slice a2 l2 c2] w fun e w' => e = .returned (.int .i64 (cmpI m n)) ∧ Below w.heap.size w w' := Go.Proofs.YtmlephkmbkiofaaGreatDoor.cmp_n h1.1 h2.1
theorem cmp_lt {B : Nat} {a1 a2 : Option Addr} {l1 c1 l2 c2 : Nat} {m n : Int} {w : World} (h1 : Nm B w a1 l1 c1 m) (h2 : Nm B w a2 l2 c2 n) (he : m < n) :
  Calls Tryz.prog 40 #[.slice a1 l1 c1, .slice a2 l2 c2] w fun e w' => e = .returned (.int .i64 (-1)) ∧ Below w.heap.size w w' := Go.Proofs.YtmlephkmbkiofaaGreatDoor.cmp_lt h1.1 h2.1 he

def Zm (B : Nat) (w : World) (s : Bool) (ad : Option Addr) (len cap : Nat) (z : Int) : Prop := ∃ n, Nm B w ad len cap n ∧ z = sg s n
def Zn (B : Nat) (w : World) (s : Bool) (ad : Option Addr) (len cap : Nat) (z : Int) : Prop := ∃ n, Cn B w ad len cap n ∧ z = sg s n ∧ (s = true → n ≠ 0)
theorem Zn.zn {B : Nat} {w : World} {s : Bool} {ad : Option Addr} {len cap : Nat} {z : Int} (h : Zn B w s ad len cap z) : Go.Proofs.YtmlephkmbkiofaaGreatDoor.Zn w s ad len cap z := by
 obtain ⟨n, h1, h2⟩ := h
 exact ⟨n, h1.1, h2⟩
theorem Zn.fr {B : Nat} {w : World} {s : Bool} {ad : Option Addr} {len cap : Nat} {z : Int} (h : Zn B w s ad len cap z) : Fr B w ad cap := by
 obtain ⟨n, h1, h2⟩ := h
 exact h1.2.2
theorem zm_of {B : Nat} {w : World} {s : Bool} {ad : Option Addr} {len cap : Nat} {z : Int} (h : Go.Proofs.YtmlephkmbkiofaaGreatDoor.Zm w s ad len cap z) (hB : B ≤ w.heap.size) : Zm B w s ad len cap z := by
 obtain ⟨n, h1, h2⟩ := h
 exact ⟨n, ⟨h1, hB⟩, h2⟩
theorem zb_cn {B : Nat} {w w' : World} {r l c : Nat} {s : Bool} {a : Option Addr} {ad : Option Addr} {len cap : Nat} {n : Int} (y : ZB w r s a l c) (ho : Only r w w') (h : Cn B w ad len cap n) : Cn B w' ad len cap n := by
 obtain ⟨⟨zs, h1, h2, h3⟩, h4, h5⟩ := h
 exact ⟨⟨zs, h1.only ho (zb_apart y h1), h2, h3⟩, Nat.le_trans h4 (Nat.le_of_eq ho.size.symm), h5.only y ho⟩
theorem zb_zn {B : Nat} {w : World} {r l c : Nat} {s : Bool} {a : Option Addr} {s1 : Bool} {ad : Option Addr} {len cap : Nat} {z : Int} (y : ZB w r s a l c) (h : Zn B w s1 ad len cap z) (s' : Bool) (a' : Option Addr) (l' c' : Nat) :
  Zn B ((w.setCell ⟨r, 0, none⟩ (.bool s')).setCell ⟨r, 1, none⟩ (.slice a' l' c')) s1 ad len cap z := by
 obtain ⟨n, h1, h4⟩ := h
 exact ⟨n, zb_cn y ((Only.set r 0 w _).trans (Only.set r 1 _ _)) h1, h4⟩
theorem zb_nm {B : Nat} {w w' : World} {r l c : Nat} {s : Bool} {a : Option Addr} {ad : Option Addr} {len cap : Nat} {n : Int} (y : ZB w r s a l c) (ho : Only r w w') (h : Nm B w ad len cap n) : Nm B w' ad len cap n := ⟨Go.Proofs.YtmlephkmbkiofaaGreatDoor.zb_nm y ho h.1, Nat.le_trans h.2 (Nat.le_of_eq ho.size.symm)⟩

theorem bare_n2 {B : Nat} {a : Option Addr} {l c : Nat} {n : Int} {w : World} (h : Nm B w a l c n) (hl : l ≤ 1099511627776) :
  Calls Tryz.prog 38 #[.slice a l c] w fun e w' => ∃ ad len cap, e = .returned (.slice ad len cap) ∧ Cn B w' ad len cap n ∧ Below w.heap.size w w' ∧ len ≤ l + 1 := by
 go_enter Tryz.func38, Tryz.ntmps38
 go_wp2_with fail
 refine (add_n h (nm_nil h.2) hl (by decide)).mono ?_
 rintro e w' ⟨ad, len, cap, rfl, hc, hb, hl'⟩
 go_wp2
 go_ret
 exact ⟨ad, len, cap, rfl, by simpa using hc, hb, by omega⟩
theorem stand_n {B : Nat} {s : Bool} {a : Option Addr} {l c : Nat} {n : Int} {w : World} (h : Cn B w a l c n) :
  Calls Tryz.prog 37 #[.bool s, .slice a l c] w fun e w' => ∃ s', e = .returned (.agg #[.bool s', .slice a l c]) ∧ Zn B w' s' a l c (sg s n) ∧ Below w.heap.size w w' := by
 have hn := h.len
 go_enter Tryz.func37, Tryz.ntmps37
 cases s
 ·go_wp2
  refine bodyPost_ret (results_cell_row rfl _ _ w.heap.size 26 _ (0, 0) _ rfl (zb_new w _ _ _ _) Tryz.underlying26 rfl (by kernel_rfl)) rfl ?_
  exact ⟨false, by simp, ⟨n, h.below (below_alloc _ _), rfl, fun h => by cases h⟩, below_alloc _ _⟩
 ·go_wp2
  refine bodyPost_ret (results_cell_row rfl _ _ w.heap.size 26 _ (0, 0) _ rfl (zb_new w _ _ _ _) Tryz.underlying26 rfl (by kernel_rfl)) rfl ?_
  refine ⟨decide (0 < l), by simp, ⟨n, h.below (below_alloc _ _), ?_, fun h => ?_⟩, below_alloc _ _⟩
  ·by_cases h0 : 0 < l
   ·simp [h0]
   ·have : n = 0 := hn.2 (by omega)
    simp [sg, this]
  ·have h0 : 0 < l := of_decide_eq_true h
   intro h1; have := hn.1 h1; omega
set_option maxRecDepth 100000 in
set_option maxHeartbeats 1600000 in
theorem norm_n {B : Nat} {s : Bool} {a : Option Addr} {l c : Nat} {z : Int} {w : World} (h : Zm B w s a l c z) (hl : l ≤ 1099511627776) :
  Calls Tryz.prog 14 #[.agg #[.bool s, .slice a l c]] w fun e w' => ∃ s' ad len cap, e = .returned (.agg #[.bool s', .slice ad len cap]) ∧ Zn B w' s' ad len cap z ∧ Below w.heap.size w w' ∧ len ≤ l + 1 := by
 obtain ⟨n, hn, rfl⟩ := h
 go_enter Tryz.func14, Tryz.ntmps14
 go_wp2_with fail
 have x := (zb_new w s a l c).below (below_alloc _ (.cells #[.bool false, .slice none 0 0] 26))
 have y := zb_new (w.alloc (.cells #[.bool s, .slice a l c] 26)) false none 0 0
 have b0 : Below w.heap.size w ((w.alloc (.cells #[.bool s, .slice a l c] 26)).alloc (.cells #[.bool false, .slice none 0 0] 26)) := below_alloc' (below_alloc _ _) _
 rw [show (w.alloc (.cells #[.bool s, .slice a l c] 26)).heap.size = w.heap.size + 1 from by simp] at y
 generalize (w.alloc (.cells #[.bool s, .slice a l c] 26)).alloc (.cells #[.bool false, .slice none 0 0] 26) = wb at *
 have hpr : w.heap.size < w.heap.size + 1 := by omega
 replace hn := hn.below b0
 generalize hp : w.heap.size = p at *
 replace hp := hide hp
 generalize p + 1 = r at *
 have hrb := Nat.le_of_lt y.lt
 go_region_held3 (fun w' => w'.cell? ⟨p, 0, none⟩ = some (.bool s) ∧ w'.cell? ⟨p, 1, none⟩ = some (.slice a l c) ∧ Below r wb w')
  ((refine zs1 x hpr ?_; first | (refine Below.mono ?_ hrb; focus ((repeat' (first | with_reducible exact Below.refl _ _ | with_reducible assumption | with_reducible refine grow_step (by with_reducible assumption) ?_ | with_reducible refine grow_drew ?_ | with_reducible refine grow_alloc ?_ _ | with_reducible refine grow_drewN ?_ _)); done)) | (refine ((Below.mono ?_ hrb).setCell (Nat.le_refl _) _).setCell (Nat.le_refl _) _; focus ((repeat' (first | with_reducible exact Below.refl _ _ | with_reducible assumption | with_reducible refine grow_step (by with_reducible assumption) ?_ | with_reducible refine grow_drew ?_ | with_reducible refine grow_alloc ?_ _ | with_reducible refine grow_drewN ?_ _)); done))))
  (first | (go_at_call 38; refine (bare_n2 (Nm.below hn (by (repeat' (first | with_reducible exact Below.refl _ _ | with_reducible assumption | with_reducible refine grow_step (by with_reducible assumption) ?_ | with_reducible refine grow_drew ?_ | with_reducible refine grow_alloc ?_ _ | with_reducible refine grow_drewN ?_ _)))) hl).mono ?_; rintro e w' ⟨ad, len, cap, rfl, hc, hg, hl'⟩) | (go_at_call 37; refine (stand_n (Cn.below hc (by (repeat' (first | with_reducible exact Below.refl _ _ | with_reducible assumption | with_reducible refine grow_step (by with_reducible assumption) ?_ | with_reducible refine grow_drew ?_ | with_reducible refine grow_alloc ?_ _ | with_reducible refine grow_drewN ?_ _))))).mono ?_; rintro e w' ⟨s', rfl, hz, hg⟩; have y' : ZB w' r false none 0 0 := ZB.below y (by (repeat' (first | with_reducible exact Below.refl _ _ | with_reducible assumption | with_reducible refine grow_step (by with_reducible assumption) ?_ | with_reducible refine grow_drew ?_ | with_reducible refine grow_alloc ?_ _ | with_reducible refine grow_drewN ?_ _))); have y0 := y'.c0; have y1 := y'.c1; have y2 := y'.f 0; have y3 := y'.f 1))
 go_wp2
 rename_i hH
 refine bodyPost_ret (results_cell_row rfl _ _ r 26 _ (0, 0) _ rfl (zb_fin y' s' ad len cap) Tryz.underlying26 rfl (by kernel_rfl)) rfl ?_
 exact ⟨s', ad, len, cap, by simp, zb_zn y' hz _ _ _ _, hp.out.symm ▸ (b0.trans (hH.2.2.mono (Nat.le_of_lt hpr))), hl'⟩
set_option maxRecDepth 100000 in
set_option maxHeartbeats 1600000 in
theorem neg_n {B : Nat} {s : Bool} {a : Option Addr} {l c : Nat} {z : Int} {w : World} (h : Zm B w s a l c z) (hl : l ≤ 1099511627776) :
  Calls Tryz.prog 15 #[.agg #[.bool s, .slice a l c]] w fun e w' => ∃ s' ad len cap, e = .returned (.agg #[.bool s', .slice ad len cap]) ∧ Zn B w' s' ad len cap (-z) ∧ Below w.heap.size w w' ∧ len ≤ l + 1 := by
 obtain ⟨n, hn, rfl⟩ := h
 rw [← sg_not]
 go_enter Tryz.func15, Tryz.ntmps15
 go_wp2_with fail
 have x := (zb_new w s a l c).below (below_alloc _ (.cells #[.bool false, .slice none 0 0] 26))
 have y := zb_new (w.alloc (.cells #[.bool s, .slice a l c] 26)) false none 0 0
 have b0 : Below w.heap.size w ((w.alloc (.cells #[.bool s, .slice a l c] 26)).alloc (.cells #[.bool false, .slice none 0 0] 26)) := below_alloc' (below_alloc _ _) _
 rw [show (w.alloc (.cells #[.bool s, .slice a l c] 26)).heap.size = w.heap.size + 1 from by simp] at y
 generalize (w.alloc (.cells #[.bool s, .slice a l c] 26)).alloc (.cells #[.bool false, .slice none 0 0] 26) = wb at *
 have hpr : w.heap.size < w.heap.size + 1 := by omega
 replace hn := hn.below b0
 generalize hp : w.heap.size = p at *
 replace hp := hide hp
 generalize p + 1 = r at *
 have hrb := Nat.le_of_lt y.lt
 go_region_held3 (fun w' => w'.cell? ⟨p, 0, none⟩ = some (.bool s) ∧ w'.cell? ⟨p, 1, none⟩ = some (.slice a l c) ∧ Below r wb w')
  ((refine zs1 x hpr ?_; first | (refine Below.mono ?_ hrb; focus ((repeat' (first | with_reducible exact Below.refl _ _ | with_reducible assumption | with_reducible refine grow_step (by with_reducible assumption) ?_ | with_reducible refine grow_drew ?_ | with_reducible refine grow_alloc ?_ _ | with_reducible refine grow_drewN ?_ _)); done)) | (refine ((Below.mono ?_ hrb).setCell (Nat.le_refl _) _).setCell (Nat.le_refl _) _; focus ((repeat' (first | with_reducible exact Below.refl _ _ | with_reducible assumption | with_reducible refine grow_step (by with_reducible assumption) ?_ | with_reducible refine grow_drew ?_ | with_reducible refine grow_alloc ?_ _ | with_reducible refine grow_drewN ?_ _)); done))))
  (first | (go_at_call 38; refine (bare_n2 (Nm.below hn (by (repeat' (first | with_reducible exact Below.refl _ _ | with_reducible assumption | with_reducible refine grow_step (by with_reducible assumption) ?_ | with_reducible refine grow_drew ?_ | with_reducible refine grow_alloc ?_ _ | with_reducible refine grow_drewN ?_ _)))) hl).mono ?_; rintro e w' ⟨ad, len, cap, rfl, hc, hg, hl'⟩) | (go_at_call 37; refine (stand_n (Cn.below hc (by (repeat' (first | with_reducible exact Below.refl _ _ | with_reducible assumption | with_reducible refine grow_step (by with_reducible assumption) ?_ | with_reducible refine grow_drew ?_ | with_reducible refine grow_alloc ?_ _ | with_reducible refine grow_drewN ?_ _))))).mono ?_; rintro e w' ⟨s', rfl, hz, hg⟩; have y' : ZB w' r false none 0 0 := ZB.below y (by (repeat' (first | with_reducible exact Below.refl _ _ | with_reducible assumption | with_reducible refine grow_step (by with_reducible assumption) ?_ | with_reducible refine grow_drew ?_ | with_reducible refine grow_alloc ?_ _ | with_reducible refine grow_drewN ?_ _))); have y0 := y'.c0; have y1 := y'.c1; have y2 := y'.f 0; have y3 := y'.f 1))
 go_wp2
 rename_i hH
 refine bodyPost_ret (results_cell_row rfl _ _ r 26 _ (0, 0) _ rfl (zb_fin y' s' ad len cap) Tryz.underlying26 rfl (by kernel_rfl)) rfl ?_
 exact ⟨s', ad, len, cap, by simp, zb_zn y' hz _ _ _ _, hp.out.symm ▸ (b0.trans (hH.2.2.mono (Nat.le_of_lt hpr))), hl'⟩
set_option maxRecDepth 100000 in
set_option maxHeartbeats 1600000 in
theorem abs_n {B : Nat} {s : Bool} {a : Option Addr} {l c : Nat} {z : Int} {w : World} (h : Zm B w s a l c z) (hl : l ≤ 1099511627776) :
  Calls Tryz.prog 16 #[.agg #[.bool s, .slice a l c]] w fun e w' => ∃ s' ad len cap, e = .returned (.agg #[.bool s', .slice ad len cap]) ∧ Zn B w' s' ad len cap (z.natAbs : Int) ∧ Below w.heap.size w w' ∧ len ≤ l + 1 := by
 obtain ⟨n, hn, rfl⟩ := h
 rw [← sg_abs (s := s) hn.nonneg]
 go_enter Tryz.func16, Tryz.ntmps16
 go_wp2_with fail
 have x := (zb_new w s a l c).below (below_alloc _ (.cells #[.bool false, .slice none 0 0] 26))
 have y := zb_new (w.alloc (.cells #[.bool s, .slice a l c] 26)) false none 0 0
 have b0 : Below w.heap.size w ((w.alloc (.cells #[.bool s, .slice a l c] 26)).alloc (.cells #[.bool false, .slice none 0 0] 26)) := below_alloc' (below_alloc _ _) _
 rw [show (w.alloc (.cells #[.bool s, .slice a l c] 26)).heap.size = w.heap.size + 1 from by simp] at y
 generalize (w.alloc (.cells #[.bool s, .slice a l c] 26)).alloc (.cells #[.bool false, .slice none 0 0] 26) = wb at *
 have hpr : w.heap.size < w.heap.size + 1 := by omega
 replace hn := hn.below b0
 generalize hp : w.heap.size = p at *
 replace hp := hide hp
 generalize p + 1 = r at *
 have hrb := Nat.le_of_lt y.lt
 have x1 := x.c1
 refine (bare_n2 hn hl).mono ?_
 rintro e w1 ⟨ad, len, cap, rfl, hc, k1, hl'⟩
 go_wp2_with fail
 refine (stand_n hc).mono ?_
 rintro e w' ⟨s', rfl, hz, hg⟩
 have y' : ZB w' r false none 0 0 := ZB.below y (by (repeat' (first | with_reducible exact Below.refl _ _ | with_reducible assumption | with_reducible refine grow_step (by with_reducible assumption) ?_ | with_reducible refine grow_drew ?_ | with_reducible refine grow_alloc ?_ _ | with_reducible refine grow_drewN ?_ _))); have y0 := y'.c0; have y1 := y'.c1; have y2 := y'.f 0; have y3 := y'.f 1
 have hB : Below p w w' := b0.trans ((grow_step hg k1).mono (Nat.le_of_lt (Nat.lt_of_lt_of_le hpr hrb)))
 go_wp2
 refine bodyPost_ret (results_cell_row rfl _ _ r 26 _ (0, 0) _ rfl (zb_fin y' s' ad len cap) Tryz.underlying26 rfl (by kernel_rfl)) rfl ?_
 exact ⟨s', ad, len, cap, by simp, zb_zn y' hz _ _ _ _, hp.out.symm ▸ (hB.setCell (Nat.le_of_lt hpr) _).setCell (Nat.le_of_lt hpr) _, hl'⟩
set_option maxRecDepth 100000 in
set_option maxHeartbeats 1600000 in
theorem zmul_n {B : Nat} {s1 s2 : Bool} {a1 a2 : Option Addr} {l1 c1 l2 c2 : Nat} {z1 z2 : Int} {w : World} (h1 : Zm B w s1 a1 l1 c1 z1) (h2 : Zm B w s2 a2 l2 c2 z2) (hl1 : l1 ≤ 1099511627776) (hl2 : l2 ≤ 1099511627776) :
  Calls Tryz.prog 19 #[.agg #[.bool s1, .slice a1 l1 c1], .agg #[.bool s2, .slice a2 l2 c2]] w fun e w' => ∃ s' ad len cap, e = .returned (.agg #[.bool s', .slice ad len cap]) ∧ Zn B w' s' ad len cap (z1 * z2) ∧ Below w.heap.size w w' ∧ len ≤ l1 + l2 := by
 obtain ⟨m, hm, rfl⟩ := h1
 obtain ⟨n, hn, rfl⟩ := h2
 rw [← sg_mul]
 go_enter Tryz.func19, Tryz.ntmps19
 go_wp2_with fail
 have x := (zb_new w s1 a1 l1 c1).below (below_alloc' (below_alloc _ (.cells #[.bool s2, .slice a2 l2 c2] 26)) (.cells #[.bool false, .slice none 0 0] 26))
 have x2 := (zb_new (w.alloc (.cells #[.bool s1, .slice a1 l1 c1] 26)) s2 a2 l2 c2).below (below_alloc _ (.cells #[.bool false, .slice none 0 0] 26))
 have y := zb_new ((w.alloc (.cells #[.bool s1, .slice a1 l1 c1] 26)).alloc (.cells #[.bool s2, .slice a2 l2 c2] 26)) false none 0 0
 have b0 : Below w.heap.size w (((w.alloc (.cells #[.bool s1, .slice a1 l1 c1] 26)).alloc (.cells #[.bool s2, .slice a2 l2 c2] 26)).alloc (.cells #[.bool false, .slice none 0 0] 26)) := below_alloc' (below_alloc' (below_alloc _ _) _) _
 rw [show ((w.alloc (.cells #[.bool s1, .slice a1 l1 c1] 26)).alloc (.cells #[.bool s2, .slice a2 l2 c2] 26)).heap.size = w.heap.size + 2 from by simp] at y
 rw [show (w.alloc (.cells #[.bool s1, .slice a1 l1 c1] 26)).heap.size = w.heap.size + 1 from by simp] at x2
 generalize ((w.alloc (.cells #[.bool s1, .slice a1 l1 c1] 26)).alloc (.cells #[.bool s2, .slice a2 l2 c2] 26)).alloc (.cells #[.bool false, .slice none 0 0] 26) = wb at *
 have hpr : w.heap.size < w.heap.size + 2 := by omega
 have hqr : w.heap.size + 1 < w.heap.size + 2 := by omega
 have hpq : w.heap.size < w.heap.size + 1 := by omega
 replace hm := hm.below b0
 replace hn := hn.below b0
 generalize hp : w.heap.size = p at *
 replace hp := hide hp
 generalize p + 2 = r at *
 generalize p + 1 = q at *
 have hrb := Nat.le_of_lt y.lt
 go_region_held3 (fun w' => w'.cell? ⟨p, 0, none⟩ = some (.bool s1) ∧ w'.cell? ⟨p, 1, none⟩ = some (.slice a1 l1 c1) ∧ w'.cell? ⟨q, 0, none⟩ = some (.bool s2) ∧ w'.cell? ⟨q, 1, none⟩ = some (.slice a2 l2 c2) ∧ Below r wb w')
  ((refine zs2 x x2 hpr hqr ?_; first | (refine Below.mono ?_ hrb; focus ((repeat' (first | with_reducible exact Below.refl _ _ | with_reducible assumption | with_reducible refine grow_step (by with_reducible assumption) ?_ | with_reducible refine grow_drew ?_ | with_reducible refine grow_alloc ?_ _ | with_reducible refine grow_drewN ?_ _)); done)) | (refine ((Below.mono ?_ hrb).setCell (Nat.le_refl _) _).setCell (Nat.le_refl _) _; focus ((repeat' (first | with_reducible exact Below.refl _ _ | with_reducible assumption | with_reducible refine grow_step (by with_reducible assumption) ?_ | with_reducible refine grow_drew ?_ | with_reducible refine grow_alloc ?_ _ | with_reducible refine grow_drewN ?_ _)); done))))
  (first | (go_at_call 42; refine (mul_n (Nm.below hm (by (repeat' (first | with_reducible exact Below.refl _ _ | with_reducible assumption | with_reducible refine grow_step (by with_reducible assumption) ?_ | with_reducible refine grow_drew ?_ | with_reducible refine grow_alloc ?_ _ | with_reducible refine grow_drewN ?_ _)))) (Nm.below hn (by (repeat' (first | with_reducible exact Below.refl _ _ | with_reducible assumption | with_reducible refine grow_step (by with_reducible assumption) ?_ | with_reducible refine grow_drew ?_ | with_reducible refine grow_alloc ?_ _ | with_reducible refine grow_drewN ?_ _)))) hl1 hl2).mono ?_; rintro e w' ⟨ad, len, cap, rfl, hc, hg, hl'⟩) | (go_at_call 37; refine (stand_n (Cn.below hc (by (repeat' (first | with_reducible exact Below.refl _ _ | with_reducible assumption | with_reducible refine grow_step (by with_reducible assumption) ?_ | with_reducible refine grow_drew ?_ | with_reducible refine grow_alloc ?_ _ | with_reducible refine grow_drewN ?_ _))))).mono ?_; rintro e w' ⟨s', rfl, hz, hg⟩; have y' : ZB w' r false none 0 0 := ZB.below y (by (repeat' (first | with_reducible exact Below.refl _ _ | with_reducible assumption | with_reducible refine grow_step (by with_reducible assumption) ?_ | with_reducible refine grow_drew ?_ | with_reducible refine grow_alloc ?_ _ | with_reducible refine grow_drewN ?_ _))); have y0 := y'.c0; have y1 := y'.c1; have y2 := y'.f 0; have y3 := y'.f 1))
 go_wp2

 rename_i hH
 refine bodyPost_ret (results_cell_row rfl _ _ r 26 _ (0, 0) _ rfl (zb_fin y' s' ad len cap) Tryz.underlying26 rfl (by kernel_rfl)) rfl ?_
 exact ⟨s', ad, len, cap, by simp, zb_zn y' hz _ _ _ _, hp.out.symm ▸ (b0.trans (hH.2.2.2.2.mono (Nat.le_of_lt hpr))), hl'⟩
set_option maxRecDepth 100000 in
set_option maxHeartbeats 1600000 in
theorem zadd_n {B : Nat} {s1 s2 : Bool} {a1 a2 : Option Addr} {l1 c1 l2 c2 : Nat} {z1 z2 : Int} {w : World} (h1 : Zm B w s1 a1 l1 c1 z1) (h2 : Zm B w s2 a2 l2 c2 z2) (hl1 : l1 ≤ 1099511627776) (hl2 : l2 ≤ 1099511627776) :
  Calls Tryz.prog 17 #[.agg #[.bool s1, .slice a1 l1 c1], .agg #[.bool s2, .slice a2 l2 c2]] w fun e w' => ∃ s' ad len cap, e = .returned (.agg #[.bool s', .slice ad len cap]) ∧ Zn B w' s' ad len cap (z1 + z2) ∧ Below w.heap.size w w' ∧ len ≤ max l1 l2 + 1 := by
 obtain ⟨m, hm, rfl⟩ := h1
 obtain ⟨n, hn, rfl⟩ := h2
 by_cases hs : s1 = s2
 ·have hs' : (s1 == s2) = true := by simp [hs]
  rw [show sg s1 m + sg s2 n = sg s1 (m + n) from by rw [← hs, sg_add]]
  clear hs
  go_enter Tryz.func17, Tryz.ntmps17
  go_wp2_with fail
  have x := (zb_new w s1 a1 l1 c1).below (below_alloc' (below_alloc _ (.cells #[.bool s2, .slice a2 l2 c2] 26)) (.cells #[.bool false, .slice none 0 0] 26))
  have x2 := (zb_new (w.alloc (.cells #[.bool s1, .slice a1 l1 c1] 26)) s2 a2 l2 c2).below (below_alloc _ (.cells #[.bool false, .slice none 0 0] 26))
  have y := zb_new ((w.alloc (.cells #[.bool s1, .slice a1 l1 c1] 26)).alloc (.cells #[.bool s2, .slice a2 l2 c2] 26)) false none 0 0
  have b0 : Below w.heap.size w (((w.alloc (.cells #[.bool s1, .slice a1 l1 c1] 26)).alloc (.cells #[.bool s2, .slice a2 l2 c2] 26)).alloc (.cells #[.bool false, .slice none 0 0] 26)) := below_alloc' (below_alloc' (below_alloc _ _) _) _
  rw [show ((w.alloc (.cells #[.bool s1, .slice a1 l1 c1] 26)).alloc (.cells #[.bool s2, .slice a2 l2 c2] 26)).heap.size = w.heap.size + 2 from by simp] at y
  rw [show (w.alloc (.cells #[.bool s1, .slice a1 l1 c1] 26)).heap.size = w.heap.size + 1 from by simp] at x2
  generalize ((w.alloc (.cells #[.bool s1, .slice a1 l1 c1] 26)).alloc (.cells #[.bool s2, .slice a2 l2 c2] 26)).alloc (.cells #[.bool false, .slice none 0 0] 26) = wb at *
  have hpr : w.heap.size < w.heap.size + 2 := by omega
  have hqr : w.heap.size + 1 < w.heap.size + 2 := by omega
  have hpq : w.heap.size < w.heap.size + 1 := by omega
  replace hm := hm.below b0
  replace hn := hn.below b0
  generalize hp : w.heap.size = p at *
  replace hp := hide hp
  generalize p + 2 = r at *
  generalize p + 1 = q at *
  have hrb := Nat.le_of_lt y.lt
  go_region_held3 (fun w' => w'.cell? ⟨p, 0, none⟩ = some (.bool s1) ∧ w'.cell? ⟨p, 1, none⟩ = some (.slice a1 l1 c1) ∧ w'.cell? ⟨q, 0, none⟩ = some (.bool s2) ∧ w'.cell? ⟨q, 1, none⟩ = some (.slice a2 l2 c2) ∧ Below r wb w')
   ((refine zs2 x x2 hpr hqr ?_; first | (refine Below.mono ?_ hrb; focus ((repeat' (first | with_reducible exact Below.refl _ _ | with_reducible assumption | with_reducible refine grow_step (by with_reducible assumption) ?_ | with_reducible refine grow_drew ?_ | with_reducible refine grow_alloc ?_ _ | with_reducible refine grow_drewN ?_ _)); done)) | (refine ((Below.mono ?_ hrb).setCell (Nat.le_refl _) _).setCell (Nat.le_refl _) _; focus ((repeat' (first | with_reducible exact Below.refl _ _ | with_reducible assumption | with_reducible refine grow_step (by with_reducible assumption) ?_ | with_reducible refine grow_drew ?_ | with_reducible refine grow_alloc ?_ _ | with_reducible refine grow_drewN ?_ _)); done))))
   (first | (go_at_call 39; refine (add_n (Nm.below hm (by (repeat' (first | with_reducible exact Below.refl _ _ | with_reducible assumption | with_reducible refine grow_step (by with_reducible assumption) ?_ | with_reducible refine grow_drew ?_ | with_reducible refine grow_alloc ?_ _ | with_reducible refine grow_drewN ?_ _)))) (Nm.below hn (by (repeat' (first | with_reducible exact Below.refl _ _ | with_reducible assumption | with_reducible refine grow_step (by with_reducible assumption) ?_ | with_reducible refine grow_drew ?_ | with_reducible refine grow_alloc ?_ _ | with_reducible refine grow_drewN ?_ _)))) hl1 hl2).mono ?_; rintro e w' ⟨ad, len, cap, rfl, hc, hg, hl'⟩) | (go_at_call 37; refine (stand_n (Cn.below hc (by (repeat' (first | with_reducible exact Below.refl _ _ | with_reducible assumption | with_reducible refine grow_step (by with_reducible assumption) ?_ | with_reducible refine grow_drew ?_ | with_reducible refine grow_alloc ?_ _ | with_reducible refine grow_drewN ?_ _))))).mono ?_; rintro e w' ⟨s', rfl, hz, hg⟩; have y' : ZB w' r false none 0 0 := ZB.below y (by (repeat' (first | with_reducible exact Below.refl _ _ | with_reducible assumption | with_reducible refine grow_step (by with_reducible assumption) ?_ | with_reducible refine grow_drew ?_ | with_reducible refine grow_alloc ?_ _ | with_reducible refine grow_drewN ?_ _))); have y0 := y'.c0; have y1 := y'.c1; have y2 := y'.f 0; have y3 := y'.f 1))
  go_wp2
  rename_i hH
  refine bodyPost_ret (results_cell_row rfl _ _ r 26 _ (0, 0) _ rfl (zb_fin y' s' ad len cap) Tryz.underlying26 rfl (by kernel_rfl)) rfl ?_
  exact ⟨s', ad, len, cap, by simp, zb_zn y' hz _ _ _ _, hp.out.symm ▸ (b0.trans (hH.2.2.2.2.mono (Nat.le_of_lt hpr))), hl'⟩
 ·have hs' : (s1 == s2) = false := by simp [hs]
  by_cases hlt : m < n
  ·rw [← sg_sub2 hs]
   clear hs
   go_enter Tryz.func17, Tryz.ntmps17
   go_wp2_with fail
   have x := (zb_new w s1 a1 l1 c1).below (below_alloc' (below_alloc _ (.cells #[.bool s2, .slice a2 l2 c2] 26)) (.cells #[.bool false, .slice none 0 0] 26))
   have x2 := (zb_new (w.alloc (.cells #[.bool s1, .slice a1 l1 c1] 26)) s2 a2 l2 c2).below (below_alloc _ (.cells #[.bool false, .slice none 0 0] 26))
   have y := zb_new ((w.alloc (.cells #[.bool s1, .slice a1 l1 c1] 26)).alloc (.cells #[.bool s2, .slice a2 l2 c2] 26)) false none 0 0
   have b0 : Below w.heap.size w (((w.alloc (.cells #[.bool s1, .slice a1 l1 c1] 26)).alloc (.cells #[.bool s2, .slice a2 l2 c2] 26)).alloc (.cells #[.bool false, .slice none 0 0] 26)) := below_alloc' (below_alloc' (below_alloc _ _) _) _
   rw [show ((w.alloc (.cells #[.bool s1, .slice a1 l1 c1] 26)).alloc (.cells #[.bool s2, .slice a2 l2 c2] 26)).heap.size = w.heap.size + 2 from by simp] at y
   rw [show (w.alloc (.cells #[.bool s1, .slice a1 l1 c1] 26)).heap.size = w.heap.size + 1 from by simp] at x2
   generalize ((w.alloc (.cells #[.bool s1, .slice a1 l1 c1] 26)).alloc (.cells #[.bool s2, .slice a2 l2 c2] 26)).alloc (.cells #[.bool false, .slice none 0 0] 26) = wb at *
   have hpr : w.heap.size < w.heap.size + 2 := by omega
   have hqr : w.heap.size + 1 < w.heap.size + 2 := by omega
   have hpq : w.heap.size < w.heap.size + 1 := by omega
   replace hm := hm.below b0
   replace hn := hn.below b0
   generalize hp : w.heap.size = p at *
   replace hp := hide hp
   generalize p + 2 = r at *
   generalize p + 1 = q at *
   have hrb := Nat.le_of_lt y.lt
   refine (cmp_lt hm hn hlt).mono ?_
   rintro e w1 ⟨rfl, k1⟩
   replace x := x.below k1
   replace x2 := x2.below k1
   replace y := y.below k1
   replace hm := hm.below k1
   replace hn := hn.below k1
   replace b0 := b0.trans (k1.mono (Nat.le_of_lt (Nat.lt_of_lt_of_le hpr hrb)))
   clear hrb k1
   have u0 := x.c0
   have u1 := x.c1
   have u2 := x2.c0
   have u3 := x2.c1
   have v0 := x.f 0
   have v1 := x.f 1
   have v2 := x2.f 0
   have v3 := x2.f 1
   have hpq' : p ≠ q := by omega
   go_wp2_with fail
   have o1 := only2 p w1 (.bool s2) (.slice a2 l2 c2)
   replace hm := zb_nm x o1 hm
   replace hn := zb_nm x o1 hn
   replace x2 := x2.only o1 (Ne.symm hpq')
   replace y := y.only o1 (by omega)
   replace b0 := (b0.setCell (p := ⟨p, 0, none⟩) (Nat.le_refl _) (.bool s2)).setCell (p := ⟨p, 1, none⟩) (Nat.le_refl _) (.slice a2 l2 c2)
   replace x := zb_fin x s2 a2 l2 c2
   generalize (w1.setCell ⟨p, 0, none⟩ (.bool s2)).setCell ⟨p, 1, none⟩ (.slice a2 l2 c2) = w2 at *
   have o2 := only2 q w2 (.bool s1) (.slice a1 l1 c1)
   replace hm := zb_nm x2 o2 hm
   replace hn := zb_nm x2 o2 hn
   replace x := x.only o2 hpq'
   replace y := y.only o2 (by omega)
   replace b0 := (b0.setCell (p := ⟨q, 0, none⟩) (Nat.le_of_lt hpq) (.bool s1)).setCell (p := ⟨q, 1, none⟩) (Nat.le_of_lt hpq) (.slice a1 l1 c1)
   replace x2 := zb_fin x2 s1 a1 l1 c1
   generalize (w2.setCell ⟨q, 0, none⟩ (.bool s1)).setCell ⟨q, 1, none⟩ (.slice a1 l1 c1) = w3 at *
   clear o1 o2 u0 u1 u2 u3 v0 v1 v2 v3
   refine (sub_n hn hm hl2 (by omega)).mono ?_
   rintro e w4 ⟨ad, len, cap, rfl, hc, k2, hl'⟩
   have u0 := (x.below k2).c0
   go_wp2_with fail
   refine (stand_n hc).mono ?_
   rintro e w' ⟨s', rfl, hz, hg⟩
   have y' : ZB w' r false none 0 0 := ZB.below y (grow_step hg k2)
   have y0 := y'.c0
   have y1 := y'.c1
   have y2 := y'.f 0
   have y3 := y'.f 1
   have hB : Below p w w' := b0.trans ((grow_step hg k2).mono (Nat.le_of_lt x.lt))
   go_wp2
   refine bodyPost_ret (results_cell_row rfl _ _ r 26 _ (0, 0) _ rfl (zb_fin y' s' ad len cap) Tryz.underlying26 rfl (by kernel_rfl)) rfl ?_
   exact ⟨s', ad, len, cap, by simp, zb_zn y' hz _ _ _ _, hp.out.symm ▸ (hB.setCell (Nat.le_of_lt hpr) _).setCell (Nat.le_of_lt hpr) _, by omega⟩
  ·rw [← sg_sub1 hs]
   clear hs
   go_enter Tryz.func17, Tryz.ntmps17
   go_wp2_with fail
   have x := (zb_new w s1 a1 l1 c1).below (below_alloc' (below_alloc _ (.cells #[.bool s2, .slice a2 l2 c2] 26)) (.cells #[.bool false, .slice none 0 0] 26))
   have x2 := (zb_new (w.alloc (.cells #[.bool s1, .slice a1 l1 c1] 26)) s2 a2 l2 c2).below (below_alloc _ (.cells #[.bool false, .slice none 0 0] 26))
   have y := zb_new ((w.alloc (.cells #[.bool s1, .slice a1 l1 c1] 26)).alloc (.cells #[.bool s2, .slice a2 l2 c2] 26)) false none 0 0
   have b0 : Below w.heap.size w (((w.alloc (.cells #[.bool s1, .slice a1 l1 c1] 26)).alloc (.cells #[.bool s2, .slice a2 l2 c2] 26)).alloc (.cells #[.bool false, .slice none 0 0] 26)) := below_alloc' (below_alloc' (below_alloc _ _) _) _
   rw [show ((w.alloc (.cells #[.bool s1, .slice a1 l1 c1] 26)).alloc (.cells #[.bool s2, .slice a2 l2 c2] 26)).heap.size = w.heap.size + 2 from by simp] at y
   rw [show (w.alloc (.cells #[.bool s1, .slice a1 l1 c1] 26)).heap.size = w.heap.size + 1 from by simp] at x2
   generalize ((w.alloc (.cells #[.bool s1, .slice a1 l1 c1] 26)).alloc (.cells #[.bool s2, .slice a2 l2 c2] 26)).alloc (.cells #[.bool false, .slice none 0 0] 26) = wb at *
   have hpr : w.heap.size < w.heap.size + 2 := by omega
   have hqr : w.heap.size + 1 < w.heap.size + 2 := by omega
   have hpq : w.heap.size < w.heap.size + 1 := by omega
   replace hm := hm.below b0
   replace hn := hn.below b0
   generalize hp : w.heap.size = p at *
   replace hp := hide hp
   generalize p + 2 = r at *
   generalize p + 1 = q at *
   have hrb := Nat.le_of_lt y.lt
   refine (cmp_n hm hn).mono ?_
   rintro e w1 ⟨rfl, k1⟩
   have hcn : ¬ cmpI m n < 0 := by unfold cmpI; rw [if_neg (by omega)]; split <;> decide
   generalize cmpI m n = cc at *
   replace x := x.below k1
   replace x2 := x2.below k1
   replace y := y.below k1
   replace hm := hm.below k1
   replace hn := hn.below k1
   replace b0 := b0.trans (k1.mono (Nat.le_of_lt (Nat.lt_of_lt_of_le hpr hrb)))
   clear hrb k1
   have u0 := x.c0
   have u1 := x.c1
   have u2 := x2.c0
   have u3 := x2.c1
   go_wp2_with fail
   refine (sub_n hm hn hl1 hlt).mono ?_
   rintro e w4 ⟨ad, len, cap, rfl, hc, k2, hl'⟩
   clear u0 u1 u2 u3
   have u0 := (x.below k2).c0
   go_wp2_with fail
   refine (stand_n hc).mono ?_
   rintro e w' ⟨s', rfl, hz, hg⟩
   have y' : ZB w' r false none 0 0 := ZB.below y (grow_step hg k2)
   have y0 := y'.c0
   have y1 := y'.c1
   have y2 := y'.f 0
   have y3 := y'.f 1
   have hB : Below p w w' := b0.trans ((grow_step hg k2).mono (Nat.le_of_lt x.lt))
   go_wp2
   refine bodyPost_ret (results_cell_row rfl _ _ r 26 _ (0, 0) _ rfl (zb_fin y' s' ad len cap) Tryz.underlying26 rfl (by kernel_rfl)) rfl ?_
   exact ⟨s', ad, len, cap, by simp, zb_zn y' hz _ _ _ _, hp.out.symm ▸ (hB.setCell (Nat.le_of_lt hpr) _).setCell (Nat.le_of_lt hpr) _, by omega⟩
set_option maxRecDepth 100000 in
set_option maxHeartbeats 1600000 in
theorem zsub_n {B : Nat} {s1 s2 : Bool} {a1 a2 : Option Addr} {l1 c1 l2 c2 : Nat} {z1 z2 : Int} {w : World} (h1 : Zm B w s1 a1 l1 c1 z1) (h2 : Zm B w s2 a2 l2 c2 z2) (hl1 : l1 ≤ 1099511627776) (hl2 : l2 ≤ 1099511627776) :
  Calls Tryz.prog 18 #[.agg #[.bool s1, .slice a1 l1 c1], .agg #[.bool s2, .slice a2 l2 c2]] w fun e w' => ∃ s' ad len cap, e = .returned (.agg #[.bool s', .slice ad len cap]) ∧ Zn B w' s' ad len cap (z1 - z2) ∧ Below w.heap.size w w' ∧ len ≤ max l1 l2 + 1 := by
 obtain ⟨m, hm, rfl⟩ := h1
 obtain ⟨n, hn, rfl⟩ := h2
 rw [show sg s1 m - sg s2 n = sg s1 m + sg (!s2) n from by rw [sg_not]; omega]
 go_enter Tryz.func18, Tryz.ntmps18
 go_wp2_with fail
 have x := (zb_new w s1 a1 l1 c1).below (below_alloc' (below_alloc _ (.cells #[.bool !s2, .slice a2 l2 c2] 26)) (.cells #[.bool false, .slice none 0 0] 26))
 have x2 := (zb_new (w.alloc (.cells #[.bool s1, .slice a1 l1 c1] 26)) (!s2) a2 l2 c2).below (below_alloc _ (.cells #[.bool false, .slice none 0 0] 26))
 have y := zb_new ((w.alloc (.cells #[.bool s1, .slice a1 l1 c1] 26)).alloc (.cells #[.bool !s2, .slice a2 l2 c2] 26)) false none 0 0
 have b0 : Below w.heap.size w (((w.alloc (.cells #[.bool s1, .slice a1 l1 c1] 26)).alloc (.cells #[.bool !s2, .slice a2 l2 c2] 26)).alloc (.cells #[.bool false, .slice none 0 0] 26)) := below_alloc' (below_alloc' (below_alloc _ _) _) _
 rw [show ((w.alloc (.cells #[.bool s1, .slice a1 l1 c1] 26)).alloc (.cells #[.bool !s2, .slice a2 l2 c2] 26)).heap.size = w.heap.size + 2 from by simp] at y
 rw [show (w.alloc (.cells #[.bool s1, .slice a1 l1 c1] 26)).heap.size = w.heap.size + 1 from by simp] at x2
 generalize ((w.alloc (.cells #[.bool s1, .slice a1 l1 c1] 26)).alloc (.cells #[.bool !s2, .slice a2 l2 c2] 26)).alloc (.cells #[.bool false, .slice none 0 0] 26) = wb at *
 have hpr : w.heap.size < w.heap.size + 2 := by omega
 have hqr : w.heap.size + 1 < w.heap.size + 2 := by omega
 have hpq : w.heap.size < w.heap.size + 1 := by omega
 replace hm := hm.below b0
 replace hn := hn.below b0
 generalize hp : w.heap.size = p at *
 replace hp := hide hp
 generalize p + 2 = r at *
 generalize p + 1 = q at *
 have hrb := Nat.le_of_lt y.lt
 refine (zadd_n ⟨m, hm, rfl⟩ ⟨n, hn, rfl⟩ hl1 hl2).mono ?_
 rintro e w' ⟨s', ad, len, cap, rfl, hz, hg, hl'⟩
 have y' : ZB w' r false none 0 0 := ZB.below y (by (repeat' (first | with_reducible exact Below.refl _ _ | with_reducible assumption | with_reducible refine grow_step (by with_reducible assumption) ?_ | with_reducible refine grow_drew ?_ | with_reducible refine grow_alloc ?_ _ | with_reducible refine grow_drewN ?_ _))); have y0 := y'.c0; have y1 := y'.c1; have y2 := y'.f 0; have y3 := y'.f 1
 have hB : Below p w w' := b0.trans (hg.mono (Nat.le_of_lt (Nat.lt_of_lt_of_le hpr hrb)))
 go_wp2
 refine bodyPost_ret (results_cell_row rfl _ _ r 26 _ (0, 0) _ rfl (zb_fin y' s' ad len cap) Tryz.underlying26 rfl (by kernel_rfl)) rfl ?_
 exact ⟨s', ad, len, cap, by simp, zb_zn y' hz _ _ _ _, hp.out.symm ▸ (hB.setCell (Nat.le_of_lt hpr) _).setCell (Nat.le_of_lt hpr) _, hl'⟩
set_option maxRecDepth 100000 in
set_option maxHeartbeats 1600000 in
theorem zof_n {B : Nat} (n : Int) (h0 : -9223372036854775808 ≤ n) (h1 : n ≤ 9223372036854775807) (w : World) (hB : B ≤ w.heap.size) :
  Calls Tryz.prog 22 #[.int .i64 n] w fun e w' => ∃ s' ad len cap, e = .returned (.agg #[.bool s', .slice ad len cap]) ∧ Zn B w' s' ad len cap n ∧ Below w.heap.size w w' ∧ len ≤ 2 := by
 go_enter Tryz.func22, Tryz.ntmps22
 by_cases hn : n < 0
 ·go_wp2_with fail
  have y := zb_new w false none 0 0
  have b0 := below_alloc w (.cells #[.bool false, .slice none 0 0] 26)
  rw [wrap_neg h0 hn]
  generalize w.alloc (.cells #[.bool false, .slice none 0 0] 26) = wb at *
  generalize hp : w.heap.size = r at *
  replace hp := hide hp
  refine (of_n (-n) (by omega) (by omega) wb (Nat.le_of_lt (Nat.lt_of_le_of_lt hB y.lt))).mono ?_
  rintro e w1 ⟨ad, len, cap, rfl, hc, k1, hl'⟩
  go_wp2_with fail
  refine (stand_n hc).mono ?_
  rintro e w' ⟨s', rfl, hz, hg⟩
  have y' : ZB w' r false none 0 0 := ZB.below y (by (repeat' (first | with_reducible exact Below.refl _ _ | with_reducible assumption | with_reducible refine grow_step (by with_reducible assumption) ?_ | with_reducible refine grow_drew ?_ | with_reducible refine grow_alloc ?_ _ | with_reducible refine grow_drewN ?_ _))); have y0 := y'.c0; have y1 := y'.c1; have y2 := y'.f 0; have y3 := y'.f 1
  have hB : Below r w w' := b0.trans ((grow_step hg k1).mono (Nat.le_of_lt y.lt))
  go_wp2
  refine bodyPost_ret (results_cell_row rfl _ _ r 26 _ (0, 0) _ rfl (zb_fin y' s' ad len cap) Tryz.underlying26 rfl (by kernel_rfl)) rfl ?_
  rw [show sg true (-n) = n from by simp [sg]] at hz
  exact ⟨s', ad, len, cap, by simp, zb_zn y' hz _ _ _ _, hp.out.symm ▸ (hB.setCell (Nat.le_refl _) _).setCell (Nat.le_refl _) _, hl'⟩
 ·go_wp2_with fail
  have y := zb_new w false none 0 0
  have b0 := below_alloc w (.cells #[.bool false, .slice none 0 0] 26)
  generalize w.alloc (.cells #[.bool false, .slice none 0 0] 26) = wb at *
  generalize hp : w.heap.size = r at *
  replace hp := hide hp
  refine (of_n n (by omega) (by omega) wb (Nat.le_of_lt (Nat.lt_of_le_of_lt hB y.lt))).mono ?_
  rintro e w1 ⟨ad, len, cap, rfl, hc, k1, hl'⟩
  go_wp2_with fail
  refine (stand_n hc).mono ?_
  rintro e w' ⟨s', rfl, hz, hg⟩
  have y' : ZB w' r false none 0 0 := ZB.below y (by (repeat' (first | with_reducible exact Below.refl _ _ | with_reducible assumption | with_reducible refine grow_step (by with_reducible assumption) ?_ | with_reducible refine grow_drew ?_ | with_reducible refine grow_alloc ?_ _ | with_reducible refine grow_drewN ?_ _))); have y0 := y'.c0; have y1 := y'.c1; have y2 := y'.f 0; have y3 := y'.f 1
  have hB : Below r w w' := b0.trans ((grow_step hg k1).mono (Nat.le_of_lt y.lt))
  go_wp2
  refine bodyPost_ret (results_cell_row rfl _ _ r 26 _ (0, 0) _ rfl (zb_fin y' s' ad len cap) Tryz.underlying26 rfl (by kernel_rfl)) rfl ?_
  rw [show sg false n = n from by simp [sg]] at hz
  exact ⟨s', ad, len, cap, by simp, zb_zn y' hz _ _ _ _, hp.out.symm ▸ (hB.setCell (Nat.le_refl _) _).setCell (Nat.le_refl _) _, hl'⟩
end Go.Proofs.YtmlephkmbkiofaaGreatDoor.Fresh
