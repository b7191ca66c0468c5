/-
 The law TermStands: its walk.
-/
import Derived.Test.YtagjfhipjbpoiaaP23
namespace Go.Proofs.Ytagjfhipjbpoiaa
open Go.RowKit Go.Sort Go.Shelf
open Tm

theorem ts_S {W w' : World} {p q pn pc pv : Nat} {ad : Option Addr} {n cp : Nat} {s : Bool} {a : Option Addr} {l c : Nat} {s2 : Bool} {a2 : Option Addr} {l2 c2 : Nat} {ad3 : Option Addr} {n3 cp3 : Nat} {s3 : Bool} {a3 : Option Addr} {l3 c3 : Nat} {ad4 : Option Addr} {n4 cp4 : Nat} {s4 : Bool} {a4 : Option Addr} {l4 c4 : Nat} {ad5 : Option Addr} {n5 cp5 : Nat} {s5 : Bool} {a5 : Option Addr} {l5 c5 : Nat}
  (x : TB W p ad n cp s a l c) (y : ZB W q s2 a2 l2 c2) (xn : TB W pn ad3 n3 cp3 s3 a3 l3 c3) (xc : TB W pc ad4 n4 cp4 s4 a4 l4 c4) (xv : TB W pv ad5 n5 cp5 s5 a5 l5 c5) (k : Below W.heap.size W w') :
  w'.cell? ⟨p, 0, none⟩ = some (.slice ad n cp) ∧ w'.cell? ⟨p, 1, none⟩ = some (.bool s) ∧ w'.cell? ⟨p, 2, none⟩ = some (.slice a l c) ∧ w'.cell? ⟨q, 0, none⟩ = some (.bool s2) ∧ w'.cell? ⟨q, 1, none⟩ = some (.slice a2 l2 c2) ∧
  w'.cell? ⟨pn, 0, none⟩ = some (.slice ad3 n3 cp3) ∧ w'.cell? ⟨pn, 1, none⟩ = some (.bool s3) ∧ w'.cell? ⟨pn, 2, none⟩ = some (.slice a3 l3 c3) ∧
  w'.cell? ⟨pc, 0, none⟩ = some (.slice ad4 n4 cp4) ∧ w'.cell? ⟨pc, 1, none⟩ = some (.bool s4) ∧ w'.cell? ⟨pc, 2, none⟩ = some (.slice a4 l4 c4) ∧
  w'.cell? ⟨pv, 0, none⟩ = some (.slice ad5 n5 cp5) ∧ w'.cell? ⟨pv, 1, none⟩ = some (.bool s5) ∧ w'.cell? ⟨pv, 2, none⟩ = some (.slice a5 l5 c5) ∧ Below W.heap.size W w' :=
 ⟨(x.below k).c0, (x.below k).c1, (x.below k).c2, (y.below k).c0, (y.below k).c1, (xn.below k).c0, (xn.below k).c1, (xn.below k).c2, (xc.below k).c0, (xc.below k).c1, (xc.below k).c2, (xv.below k).c0, (xv.below k).c1, (xv.below k).c2, k⟩
theorem std_one (v : Int) : Std [(v, 1)] := ⟨List.pairwise_singleton _ _, fun p hp => by rw [List.mem_singleton.1 hp]; exact (by decide : (1 : Int) ≠ 0)⟩

set_option maxRecDepth 100000 in
set_option maxHeartbeats 6400000 in
theorem termStands_walk {w : World} {ad : Option Addr} {n cp : Nat} {s : Bool} {a : Option Addr} {l c : Nat} {ps : List (Int × Int)} {k : Int} {s2 : Bool} {a2 : Option Addr} {l2 c2 : Nat} {k2 : Int} {v : Int} {B : Nat}
  (hP : Pr w ad n ps B) (hz : Zm w s a l c k) (hl : l ≤ B) (hn : n ≤ B) (hz2 : Zm w s2 a2 l2 c2 k2) (hl2 : l2 ≤ B) (hv : I64 v) (hB : B ≤ 1048576) :
  Calls Try.prog 3 #[.agg #[.slice ad n cp, .bool s, .slice a l c], .agg #[.bool s2, .slice a2 l2 c2], .int .i64 v] w fun e w' => e = .returned (.bool true) ∧ Below w.heap.size w w' := by
 go_enter Try.func3, Try.ntmps3
 go_wp2_with fail
 have x := (tb_new w ad n cp s a l c).below (below_alloc _ (.cells #[.bool s2, .slice a2 l2 c2] 25))
 have y := zb_new (w.alloc (.cells #[.slice ad n cp, .bool s, .slice a l c] 27)) s2 a2 l2 c2
 have b0 : Below w.heap.size w ((w.alloc (.cells #[.slice ad n cp, .bool s, .slice a l c] 27)).alloc (.cells #[.bool s2, .slice a2 l2 c2] 25)) := below_alloc' (below_alloc _ _) _
 rw [show (w.alloc (.cells #[.slice ad n cp, .bool s, .slice a l c] 27)).heap.size = w.heap.size + 1 from by simp] at y
 generalize (w.alloc (.cells #[.slice ad n cp, .bool s, .slice a l c] 27)).alloc (.cells #[.bool s2, .slice a2 l2 c2] 25) = wb at *
 replace hP := hP.below b0
 replace hz := hz.below b0
 replace hz2 := hz2.below b0
 generalize hp : w.heap.size = p at *
 replace b0 : Hid (Below w.heap.size w wb) := hp ▸ b0
 replace hp := hide hp
 generalize p + 1 = q at *
 obtain ⟨X, hX⟩ := pr_px hP
 obtain ⟨m, ⟨xs, hr, hm⟩, hkm⟩ := id hz
 clear hm hkm
 refine (awake5 wb).mono ?_
 rintro e w1 ⟨rfl, k1⟩
 replace k1 := hide k1
 have x0 := (x.below k1.out).c0
 have x1 := (x.below k1.out).c1
 have x2 := (x.below k1.out).c2
 go_wp2_with fail
 refine (tvalid_n (hX.below k1.out) (hr.below k1.out) (by omega) (by omega)).mono ?_
 rintro e w2 ⟨vb, rfl, hvb, k2⟩
 replace hvb := hide hvb
 replace k2 := hide (grow_step k2 k1.out)
 clear x0 x1 x2 k1
 have x0 := (x.below k2.out).c0
 have x1 := (x.below k2.out).c1
 have x2 := (x.below k2.out).c2
 go_wp2_with fail
 refine (tnorm_n (hP.below k2.out) (hz.below k2.out) hl (by omega)).mono ?_
 rintro e w3 ⟨ad3, n3, cp3, s3, a3, l3, c3, rs, rfl, hTN, hn3, hS3, hc3⟩
 have k3 := hide (grow_step hTN.below k2.out)
 have hPn := hTN.pn
 have hZn := hTN.zn
 have hle3 := hTN.le
 rw [lays_eq hS3 hc3] at hPn
 clear x0 x1 x2 k2 hTN hS3 hc3
 have xn := tb_new w3 ad3 n3 cp3 s3 a3 l3 c3
 have ka := below_alloc w3 (.cells #[.slice ad3 n3 cp3, .bool s3, .slice a3 l3 c3] 27)
 replace hPn := hPn.below ka
 replace hZn := hZn.below ka
 replace k3 := hide (grow_step ka k3.out)
 have y0 := (y.below k3.out).c0
 have y1 := (y.below k3.out).c1
 clear ka
 replace xn := hide xn
 go_wp2_with fail
 replace xn := xn.out
 generalize w3.alloc (.cells #[.slice ad3 n3 cp3, .bool s3, .slice a3 l3 c3] 27) = wn at *
 generalize w3.heap.size = pn at *
 clear y0 y1
 refine (tconst_n (B := B + 1) (hz2.below k3.out) (by omega) (by omega)).mono ?_
 rintro e w4 ⟨s4, a4, l4, c4, rfl, hTC⟩
 have hbC := hTC.below
 have hZC := hTC.zn
 have hlC := hTC.le
 clear hTC
 have xc := tb_new w4 none 0 0 s4 a4 l4 c4
 have ka := grow_alloc hbC (.cells #[.slice none 0 0, .bool s4, .slice a4 l4 c4] 27)
 have k4 := hide (grow_step ka k3.out)
 replace hPn := hPn.below ka
 replace hZn := hZn.below ka
 replace xn := xn.below ka
 replace hZC := hZC.below (below_alloc w4 (.cells #[.slice none 0 0, .bool s4, .slice a4 l4 c4] 27))
 clear ka hbC k3
 replace xc := hide xc
 replace xn := hide xn
 go_wp2_with fail
 replace xc := xc.out
 replace xn := xn.out
 generalize w4.alloc (.cells #[.slice none 0 0, .bool s4, .slice a4 l4 c4] 27) = wc at *
 generalize w4.heap.size = pc at *
 refine (tvar_n (B := 2) (v := v) hv (by omega)).mono ?_
 rintro e w5 ⟨ad5, cp5, rv, rfl, hTV, hrv⟩
 have hbV := hTV.below
 have hPV := hTV.pn
 rw [hrv] at hPV
 clear hTV hrv
 have xv := tb_new w5 ad5 1 cp5 false none 0 0
 have ka := grow_alloc hbV (.cells #[.slice ad5 1 cp5, .bool false, .slice none 0 0] 27)
 have k5 := hide (grow_step ka k4.out)
 replace hPn := hPn.below ka
 replace hZn := hZn.below ka
 replace xn := xn.below ka
 replace xc := xc.below ka
 replace hZC := hZC.below ka
 replace hPV := hPV.below (below_alloc w5 (.cells #[.slice ad5 1 cp5, .bool false, .slice none 0 0] 27))
 clear ka hbV k4
 have x0 := (x.below k5.out).c0
 have x1 := (x.below k5.out).c1
 have x2 := (x.below k5.out).c2
 replace xv := hide xv
 replace xn := hide xn
 replace xc := hide xc
 go_wp2_with fail
 replace xv := xv.out
 replace xn := xn.out
 replace xc := xc.out
 clear x0 x1 x2
 have x5 := x.below k5.out
 have y5 := y.below k5.out
 have hX5 := hX.below k5.out
 have hr5 := hr.below k5.out
 have hP5 := hP.below k5.out
 have hz5 := hz.below k5.out
 have hzk5 := hz2.below k5.out
 have hSt := std_lays ps
 clear hX hr hP hz hz2 x y
 generalize w5.alloc (.cells #[.slice ad5 1 cp5, .bool false, .slice none 0 0] 27) = wv at *
 generalize w5.heap.size = pv at *
 replace hSt := hide hSt
 go_region_held3 (fun w' => w'.cell? ⟨p, 0, none⟩ = some (.slice ad n cp) ∧ w'.cell? ⟨p, 1, none⟩ = some (.bool s) ∧ w'.cell? ⟨p, 2, none⟩ = some (.slice a l c) ∧ w'.cell? ⟨q, 0, none⟩ = some (.bool s2) ∧ w'.cell? ⟨q, 1, none⟩ = some (.slice a2 l2 c2) ∧ w'.cell? ⟨pn, 0, none⟩ = some (.slice ad3 n3 cp3) ∧ w'.cell? ⟨pn, 1, none⟩ = some (.bool s3) ∧ w'.cell? ⟨pn, 2, none⟩ = some (.slice a3 l3 c3) ∧ w'.cell? ⟨pc, 0, none⟩ = some (.slice none 0 0) ∧ w'.cell? ⟨pc, 1, none⟩ = some (.bool s4) ∧ w'.cell? ⟨pc, 2, none⟩ = some (.slice a4 l4 c4) ∧ w'.cell? ⟨pv, 0, none⟩ = some (.slice ad5 1 cp5) ∧ w'.cell? ⟨pv, 1, none⟩ = some (.bool false) ∧ w'.cell? ⟨pv, 2, none⟩ = some (.slice none 0 0) ∧ Below wv.heap.size wv w')
  ((refine ts_S x5 y5 xn xc xv ?_; (repeat' (first | with_reducible exact Below.refl _ _ | with_reducible assumption | with_reducible refine grow_step (by with_reducible assumption) ?_ | with_reducible refine grow_drew ?_ | with_reducible refine grow_alloc ?_ _ | with_reducible refine grow_drewN ?_ _))))
  (first | (go_at_call 15; refine Calls.mono (rvalid5_n (PX.below hX5 (by (repeat' (first | with_reducible exact Below.refl _ _ | with_reducible assumption | with_reducible refine grow_step (by with_reducible assumption) ?_ | with_reducible refine grow_drew ?_ | with_reducible refine grow_alloc ?_ _ | with_reducible refine grow_drewN ?_ _)))) (Rd.below hr5 (by (repeat' (first | with_reducible exact Below.refl _ _ | with_reducible assumption | with_reducible refine grow_step (by with_reducible assumption) ?_ | with_reducible refine grow_drew ?_ | with_reducible refine grow_alloc ?_ _ | with_reducible refine grow_drewN ?_ _)))) hl (by omega) (by omega)) ?_; rintro e w6 ⟨vr, rfl, hvr, k6⟩; obtain rfl : vb = vr := Bool.eq_iff_iff.2 (hvb.out.trans hvr.symm); clear hvr) | (go_at_call 17; refine Calls.mono (rnorm5_r (Pr.below hP5 (by (repeat' (first | with_reducible exact Below.refl _ _ | with_reducible assumption | with_reducible refine grow_step (by with_reducible assumption) ?_ | with_reducible refine grow_drew ?_ | with_reducible refine grow_alloc ?_ _ | with_reducible refine grow_drewN ?_ _)))) (Zm.below hz5 (by (repeat' (first | with_reducible exact Below.refl _ _ | with_reducible assumption | with_reducible refine grow_step (by with_reducible assumption) ?_ | with_reducible refine grow_drew ?_ | with_reducible refine grow_alloc ?_ _ | with_reducible refine grow_drewN ?_ _)))) hl (by omega) (by omega)) ?_; rintro e w7 ⟨ad7, n7, cp7, s7, a7, l7, c7, rfl, hT7, hZ7, k7, hn7, hPn7⟩; replace hT7 := hT7.2.2) | (go_at_call 18; refine Calls.mono (rconst5_n (Zm.below hzk5 (by (repeat' (first | with_reducible exact Below.refl _ _ | with_reducible assumption | with_reducible refine grow_step (by with_reducible assumption) ?_ | with_reducible refine grow_drew ?_ | with_reducible refine grow_alloc ?_ _ | with_reducible refine grow_drewN ?_ _)))) (by omega)) ?_; rintro e w8 ⟨s8, a8, l8, c8, rfl, hZ8, hl8, k8⟩) | (go_at_call 19; refine Calls.mono (rvar5_n hv) ?_; rintro e w9 ⟨ad9, cp9, rfl, hP9, k9⟩) | (go_at_call 16; first | (refine Calls.mono (same5_t (B := B + n + 2) hSt.out ((Pn.below hPn (by (repeat' (first | with_reducible exact Below.refl _ _ | with_reducible assumption | with_reducible refine grow_step (by with_reducible assumption) ?_ | with_reducible refine grow_drew ?_ | with_reducible refine grow_alloc ?_ _ | with_reducible refine grow_drewN ?_ _)))).mono (by omega)) (Zn.below hZn (by (repeat' (first | with_reducible exact Below.refl _ _ | with_reducible assumption | with_reducible refine grow_step (by with_reducible assumption) ?_ | with_reducible refine grow_drew ?_ | with_reducible refine grow_alloc ?_ _ | with_reducible refine grow_drewN ?_ _)))) (by omega) ((Pn.below hPn7 (by (repeat' (first | with_reducible exact Below.refl _ _ | with_reducible assumption | with_reducible refine grow_step (by with_reducible assumption) ?_ | with_reducible refine grow_drew ?_ | with_reducible refine grow_alloc ?_ _ | with_reducible refine grow_drewN ?_ _)))).mono (by omega)) (Zn.below hZ7 (by (repeat' (first | with_reducible exact Below.refl _ _ | with_reducible assumption | with_reducible refine grow_step (by with_reducible assumption) ?_ | with_reducible refine grow_drew ?_ | with_reducible refine grow_alloc ?_ _ | with_reducible refine grow_drewN ?_ _)))) (by omega) (by omega) (by omega)) ?_; rintro e wA ⟨rfl, kA⟩) | (refine Calls.mono (same5_t (B := B + n + 2) std_nil (pn_nil _ _ _) (Zn.below hZC (by (repeat' (first | with_reducible exact Below.refl _ _ | with_reducible assumption | with_reducible refine grow_step (by with_reducible assumption) ?_ | with_reducible refine grow_drew ?_ | with_reducible refine grow_alloc ?_ _ | with_reducible refine grow_drewN ?_ _)))) (by omega) (pn_nil _ _ _) (Zn.below hZ8 (by (repeat' (first | with_reducible exact Below.refl _ _ | with_reducible assumption | with_reducible refine grow_step (by with_reducible assumption) ?_ | with_reducible refine grow_drew ?_ | with_reducible refine grow_alloc ?_ _ | with_reducible refine grow_drewN ?_ _)))) (by omega) (by omega) (by omega)) ?_; rintro e wB ⟨rfl, kB⟩) | (refine Calls.mono (same5_t (B := B + n + 2) (std_one v) ((Pn.below hPV (by (repeat' (first | with_reducible exact Below.refl _ _ | with_reducible assumption | with_reducible refine grow_step (by with_reducible assumption) ?_ | with_reducible refine grow_drew ?_ | with_reducible refine grow_alloc ?_ _ | with_reducible refine grow_drewN ?_ _)))).mono (by omega)) (zn_zero _) (by omega) ((Pn.below hP9 (by (repeat' (first | with_reducible exact Below.refl _ _ | with_reducible assumption | with_reducible refine grow_step (by with_reducible assumption) ?_ | with_reducible refine grow_drew ?_ | with_reducible refine grow_alloc ?_ _ | with_reducible refine grow_drewN ?_ _)))).mono (by omega)) (zn_zero _) (by omega) (by omega) (by omega)) ?_; rintro e wC ⟨rfl, kC⟩)))
 all_goals
  have kf : Hid (RowKit.Below wv.heap.size wv wC) := (by (repeat' (first | with_reducible exact Below.refl _ _ | with_reducible assumption | (go_split_ands; with_reducible assumption) | with_reducible refine grow_step (by with_reducible assumption) ?_ | with_reducible refine grow_drew ?_ | with_reducible refine grow_alloc ?_ _ | with_reducible refine grow_drewN ?_ _)) : RowKit.Below wv.heap.size wv wC)
  have kz : Hid (RowKit.Below w.heap.size w wC) := b0.out.trans ((grow_step kf.out k5.out).mono b0.out.size)
  go_wp2
  go_ret
  exact ⟨rfl, kz.out⟩
end Go.Proofs.Ytagjfhipjbpoiaa
