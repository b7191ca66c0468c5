/-
 Layer 2: division that is cut downwards.
-/
import Derived.Test.YtjhhknfnaobmiaaGreatDoorZ2
namespace Go.Proofs.YtjhhknfnaobmiaaGreatDoor
open Go.RowKit

/-- q and r are the quotient, cut downwards, and what is left -/
def FD (a b q r : Int) : Prop := a = q * b + r ∧ ((0 ≤ r ∧ r < b) ∨ (b < r ∧ r ≤ 0))

theorem fd_same {s : Bool} {m n : Int} (hn : 0 < n) : FD (sg s m) (sg s n) (m / n) (sg s (m % n)) := by
 have h1 := Int.emod_add_mul_ediv m n
 have h2 := Int.emod_nonneg m (Int.ne_of_gt hn)
 have h3 := Int.emod_lt_of_pos m hn
 rw [Int.mul_comm] at h1
 cases s
 ·exact ⟨by simp only [sg, Bool.false_eq_true, if_false]; omega, Or.inl ⟨by simpa [sg] using h2, by simpa [sg] using h3⟩⟩
 ·refine ⟨?_, Or.inr ⟨by simp only [sg, if_true]; omega, by simp only [sg, if_true]; omega⟩⟩
  simp only [sg, if_true, Int.mul_neg]
  omega
theorem fd_zero {s1 s2 : Bool} {m n : Int} (hs : s1 ≠ s2) (hn : 0 < n) (h0 : m % n = 0) : FD (sg s1 m) (sg s2 n) (sg true (m / n)) (sg s2 (m % n)) := by
 have h1 := Int.emod_add_mul_ediv m n
 rw [Int.mul_comm, h0] at h1
 rw [h0]
 generalize m / n = k at *
 subst h1
 cases s1 <;> cases s2 <;> first | exact absurd rfl hs | (simp only [sg, if_true, if_false, Bool.false_eq_true, FD, Int.neg_mul, Int.mul_neg] at *; omega)
theorem fd_up {s1 s2 : Bool} {m n : Int} (hs : s1 ≠ s2) (hn : 0 < n) (h0 : m % n ≠ 0) : FD (sg s1 m) (sg s2 n) (sg true (m / n + 1)) (sg s2 (n - m % n)) := by
 have h1 := Int.emod_add_mul_ediv m n
 have h2 := Int.emod_nonneg m (Int.ne_of_gt hn)
 have h3 := Int.emod_lt_of_pos m hn
 rw [Int.mul_comm] at h1
 generalize m / n = k at *
 generalize m % n = j at *
 have e : (k + 1) * n = k * n + n := by rw [Int.add_mul, Int.one_mul]
 cases s1 <;> cases s2 <;> first | exact absurd rfl hs | (simp only [sg, if_true, if_false, Bool.false_eq_true, FD, Int.neg_mul, Int.mul_neg, e] at *; omega)

theorem results_c2t {P : Program} {fn : Func} {p1 p2 t3 : Tmp} {ty : TypeId} (h : fn.results = #[.cell p1 ty, .cell p2 ty, .tmp t3]) (tmps : Array Value) (w : World) (g1 g2 : Nat) (t : TypeId) (cs1 cs2 : Array Value) (fr : Nat × Nat) (d : TypeDesc)
  (hp1 : tmps.getD p1 undef = .pointer (some ⟨g1, 0, none⟩)) (hp2 : tmps.getD p2 undef = .pointer (some ⟨g2, 0, none⟩)) (hg1 : w.heap[g1]? = some (.cells cs1 t fr)) (hg2 : w.heap[g2]? = some (.cells cs2 t fr))
  (hu : P.underlying ty = some d) (hd : (match d with | .struct _ | .array _ _ => true | _ => false) = true) (hi1 : (P.info? ty).map (·.size) = some cs1.size) (hi2 : (P.info? ty).map (·.size) = some cs2.size) :
  (results fn tmps).run P w = .ok (.tuple #[.agg cs1, .agg cs2, tmps.getD t3 undef]) w := by
 have hp1' : tmps[p1]?.getD undef = .pointer (some ⟨g1, 0, none⟩) := by simpa using hp1
 have hp2' : tmps[p2]?.getD undef = .pointer (some ⟨g2, 0, none⟩) := by simpa using hp2
 simp [results, h, hp1', hp2', asAddr, run_loadVar_row w g1 t ty cs1 fr d hg1 hu hd hi1, run_loadVar_row w g2 t ty cs2 fr d hg2 hu hd hi2]

set_option maxRecDepth 100000 in
set_option maxHeartbeats 1600000 in
theorem zdivmod_n {s1 s2 : Bool} {a1 a2 : Option Addr} {l1 c1 l2 c2 : Nat} {z1 z2 : Int} {w : World} (h1 : Zm w s1 a1 l1 c1 z1) (h2 : Zm w s2 a2 l2 c2 z2) (hl1 : l1 ≤ 1099511627776) (hl2 : l2 ≤ 1099511627776) (hz : z2 ≠ 0) :
  Calls Tryz.prog 88 #[.agg #[.bool s1, .slice a1 l1 c1], .agg #[.bool s2, .slice a2 l2 c2]] w fun e w' => ∃ sq aq lq cq sr ar lr cr qv rv, e = .returned (.tuple #[.agg #[.bool sq, .slice aq lq cq], .agg #[.bool sr, .slice ar lr cr], .int .i64 0]) ∧ Zn w' sq aq lq cq qv ∧ Zn w' sr ar lr cr rv ∧ FD z1 z2 qv rv ∧ Below w.heap.size w w' ∧ lq ≤ l1 + 3 ∧ lr ≤ l2 := by
 obtain ⟨m, hm, rfl⟩ := h1
 obtain ⟨n, hn, rfl⟩ := h2
 have hn0 : 0 < n := by
  have := hn.nonneg
  have : n ≠ 0 := fun h => hz (by cases s2 <;> simp [sg, h])
  omega
 go_enter Tryz.func88, Tryz.ntmps88
 go_wp2_with fail
 have x := (zb_new w s1 a1 l1 c1).below (below_alloc' (below_alloc' (below_alloc _ (.cells #[.bool s2, .slice a2 l2 c2] 24)) (.cells #[.bool false, .slice none 0 0] 24)) (.cells #[.bool false, .slice none 0 0] 24))
 have x2 := (zb_new (w.alloc (.cells #[.bool s1, .slice a1 l1 c1] 24)) s2 a2 l2 c2).below (below_alloc' (below_alloc _ (.cells #[.bool false, .slice none 0 0] 24)) (.cells #[.bool false, .slice none 0 0] 24))
 have y := (zb_new ((w.alloc (.cells #[.bool s1, .slice a1 l1 c1] 24)).alloc (.cells #[.bool s2, .slice a2 l2 c2] 24)) false none 0 0).below (below_alloc _ (.cells #[.bool false, .slice none 0 0] 24))
 have yt := zb_new (((w.alloc (.cells #[.bool s1, .slice a1 l1 c1] 24)).alloc (.cells #[.bool s2, .slice a2 l2 c2] 24)).alloc (.cells #[.bool false, .slice none 0 0] 24)) false none 0 0
 have b0 : Below w.heap.size w ((((w.alloc (.cells #[.bool s1, .slice a1 l1 c1] 24)).alloc (.cells #[.bool s2, .slice a2 l2 c2] 24)).alloc (.cells #[.bool false, .slice none 0 0] 24)).alloc (.cells #[.bool false, .slice none 0 0] 24)) := below_alloc' (below_alloc' (below_alloc' (below_alloc _ _) _) _) _
 rw [show (((w.alloc (.cells #[.bool s1, .slice a1 l1 c1] 24)).alloc (.cells #[.bool s2, .slice a2 l2 c2] 24)).alloc (.cells #[.bool false, .slice none 0 0] 24)).heap.size = w.heap.size + 3 from by simp] at yt
 rw [show ((w.alloc (.cells #[.bool s1, .slice a1 l1 c1] 24)).alloc (.cells #[.bool s2, .slice a2 l2 c2] 24)).heap.size = w.heap.size + 2 from by simp] at y
 rw [show (w.alloc (.cells #[.bool s1, .slice a1 l1 c1] 24)).heap.size = w.heap.size + 1 from by simp] at x2
 generalize (((w.alloc (.cells #[.bool s1, .slice a1 l1 c1] 24)).alloc (.cells #[.bool s2, .slice a2 l2 c2] 24)).alloc (.cells #[.bool false, .slice none 0 0] 24)).alloc (.cells #[.bool false, .slice none 0 0] 24) = wb at *
 have hpr : w.heap.size < w.heap.size + 2 := by omega
 have hqr : w.heap.size + 1 < w.heap.size + 2 := by omega
 have hrt : w.heap.size + 2 < w.heap.size + 3 := by omega
 replace hm := hm.below b0
 replace hn := hn.below b0
 generalize hp : w.heap.size = p at *
 replace hp := hide hp
 generalize p + 3 = t at *
 generalize p + 2 = r at *
 generalize p + 1 = q at *
 have hrb := Nat.le_of_lt y.lt
 refine (divmod_n hm hn hl1 hn0).mono ?_
 rintro e w1 ⟨aq, lq, cq, ar, lr, cr, rfl, hcq, hcr, k1, hlq, hlr⟩
 have u0 := (x.below k1).c0
 have u2 := (x2.below k1).c0
 have hr0 := hcr.len
 have hrt' : r ≠ t := by omega
 by_cases hs : s1 = s2
 ·have hs' : (s1 == s2) = true := by simp [hs]
  have HFD : FD (sg s1 m) (sg s2 n) (sg false (m / n)) (sg s2 (m % n)) := by
   subst hs; exact fd_same hn0
  clear hs
  go_wp2_with fail
  go_region_held3 (fun w' => w'.cell? ⟨p, 0, none⟩ = some (.bool s1) ∧ w'.cell? ⟨p, 1, none⟩ = some (.slice a1 l1 c1) ∧ w'.cell? ⟨q, 0, none⟩ = some (.bool s2) ∧ w'.cell? ⟨q, 1, none⟩ = some (.slice a2 l2 c2) ∧ Below r wb w')
   ((refine zs2 x x2 hpr hqr ?_; first | (refine Below.mono ?_ hrb; focus ((repeat' (first | with_reducible exact Below.refl _ _ | with_reducible assumption | with_reducible refine grow_step (by with_reducible assumption) ?_ | with_reducible refine grow_drew ?_ | with_reducible refine grow_alloc ?_ _ | with_reducible refine grow_drewN ?_ _)); done)) | (refine ((Below.mono ?_ hrb).setCell (Nat.le_refl _) _).setCell (Nat.le_refl _) _; focus ((repeat' (first | with_reducible exact Below.refl _ _ | with_reducible assumption | with_reducible refine grow_step (by with_reducible assumption) ?_ | with_reducible refine grow_drew ?_ | with_reducible refine grow_alloc ?_ _ | with_reducible refine grow_drewN ?_ _)); done)) | (refine Below.setCell (Below.setCell (((Below.mono ?_ hrb).setCell (Nat.le_refl _) _).setCell (Nat.le_refl _) _) (Nat.le_of_lt hrt) _) (Nat.le_of_lt hrt) _; focus ((repeat' (first | with_reducible exact Below.refl _ _ | with_reducible assumption | with_reducible refine grow_step (by with_reducible assumption) ?_ | with_reducible refine grow_drew ?_ | with_reducible refine grow_alloc ?_ _ | with_reducible refine grow_drewN ?_ _)); done))))
   (first | (go_at_call 77; with_reducible refine (stand_n (Cn.below hcq (by (repeat' (first | with_reducible exact Below.refl _ _ | with_reducible assumption | with_reducible refine grow_step (by with_reducible assumption) ?_ | with_reducible refine grow_drew ?_ | with_reducible refine grow_alloc ?_ _ | with_reducible refine grow_drewN ?_ _))))).mono ?_; rintro e w' ⟨sq, rfl, hzq, hg⟩) | (go_at_call 77; with_reducible refine (stand_n (Cn.below hcr (by (repeat' (first | with_reducible exact Below.refl _ _ | with_reducible assumption | with_reducible refine grow_step (by with_reducible assumption) ?_ | with_reducible refine grow_drew ?_ | with_reducible refine grow_alloc ?_ _ | with_reducible refine grow_drewN ?_ _))))).mono ?_; rintro e w' ⟨sr, rfl, hzr, hg⟩; have y' : ZB w' r false none 0 0 := ZB.below y (by (repeat' (first | with_reducible exact Below.refl _ _ | with_reducible assumption | with_reducible refine grow_step (by with_reducible assumption) ?_ | with_reducible refine grow_drew ?_ | with_reducible refine grow_alloc ?_ _ | with_reducible refine grow_drewN ?_ _))); have y0 := y'.c0; have y1 := y'.c1; have y2 := y'.f 0; have y3 := y'.f 1; have yt' : ZB w' t false none 0 0 := ZB.below yt (by (repeat' (first | with_reducible exact Below.refl _ _ | with_reducible assumption | with_reducible refine grow_step (by with_reducible assumption) ?_ | with_reducible refine grow_drew ?_ | with_reducible refine grow_alloc ?_ _ | with_reducible refine grow_drewN ?_ _))); have t0 := yt'.c0; have t1 := yt'.c1; have t2 := yt'.f 0; have t3 := yt'.f 1; have hzq' := Zn.below hzq hg))
  go_wp2
  rename_i hH
  have y4 := zb_fin y' sq aq lq cq
  have t4 := zb_fin (yt'.only (only2 r w' (.bool sq) (.slice aq lq cq)) (Ne.symm hrt')) sr ar lr cr
  refine bodyPost_ret (results_c2t rfl _ _ r t 24 _ _ (0, 0) _ rfl rfl (y4.only (only2 t _ _ _) hrt') t4 Tryz.underlying24 rfl (by kernel_rfl) (by kernel_rfl)) rfl ?_
  have zq := zb_zn (yt'.only (only2 r w' (.bool sq) (.slice aq lq cq)) (Ne.symm hrt')) (zb_zn y' hzq' sq aq lq cq) sr ar lr cr
  have zr := zb_zn (yt'.only (only2 r w' (.bool sq) (.slice aq lq cq)) (Ne.symm hrt')) (zb_zn y' hzr sq aq lq cq) sr ar lr cr
  exact ⟨sq, aq, lq, cq, sr, ar, lr, cr, _, _, by simp, zq, zr, HFD, hp.out.symm ▸ (b0.trans (hH.2.2.2.2.mono (Nat.le_of_lt hpr))), by omega, by omega⟩
 ·have hs' : (s1 == s2) = false := by simp [hs]
  by_cases hz0 : m % n = 0
  ·obtain rfl : lr = 0 := hr0.1 hz0
   have HFD : FD (sg s1 m) (sg s2 n) (sg true (m / n)) (sg s2 (m % n)) := by
    exact fd_zero hs hn0 hz0
   clear hs
   go_wp2_with fail
   go_region_held3 (fun w' => w'.cell? ⟨p, 0, none⟩ = some (.bool s1) ∧ w'.cell? ⟨p, 1, none⟩ = some (.slice a1 l1 c1) ∧ w'.cell? ⟨q, 0, none⟩ = some (.bool s2) ∧ w'.cell? ⟨q, 1, none⟩ = some (.slice a2 l2 c2) ∧ Below r wb w')
    ((refine zs2 x x2 hpr hqr ?_; first | (refine Below.mono ?_ hrb; focus ((repeat' (first | with_reducible exact Below.refl _ _ | with_reducible assumption | with_reducible refine grow_step (by with_reducible assumption) ?_ | with_reducible refine grow_drew ?_ | with_reducible refine grow_alloc ?_ _ | with_reducible refine grow_drewN ?_ _)); done)) | (refine ((Below.mono ?_ hrb).setCell (Nat.le_refl _) _).setCell (Nat.le_refl _) _; focus ((repeat' (first | with_reducible exact Below.refl _ _ | with_reducible assumption | with_reducible refine grow_step (by with_reducible assumption) ?_ | with_reducible refine grow_drew ?_ | with_reducible refine grow_alloc ?_ _ | with_reducible refine grow_drewN ?_ _)); done)) | (refine Below.setCell (Below.setCell (((Below.mono ?_ hrb).setCell (Nat.le_refl _) _).setCell (Nat.le_refl _) _) (Nat.le_of_lt hrt) _) (Nat.le_of_lt hrt) _; focus ((repeat' (first | with_reducible exact Below.refl _ _ | with_reducible assumption | with_reducible refine grow_step (by with_reducible assumption) ?_ | with_reducible refine grow_drew ?_ | with_reducible refine grow_alloc ?_ _ | with_reducible refine grow_drewN ?_ _)); done))))
    (first | (go_at_call 77; with_reducible refine (stand_n (Cn.below hcq (by (repeat' (first | with_reducible exact Below.refl _ _ | with_reducible assumption | with_reducible refine grow_step (by with_reducible assumption) ?_ | with_reducible refine grow_drew ?_ | with_reducible refine grow_alloc ?_ _ | with_reducible refine grow_drewN ?_ _))))).mono ?_; rintro e w' ⟨sq, rfl, hzq, hg⟩) | (go_at_call 77; with_reducible refine (stand_n (Cn.below hcr (by (repeat' (first | with_reducible exact Below.refl _ _ | with_reducible assumption | with_reducible refine grow_step (by with_reducible assumption) ?_ | with_reducible refine grow_drew ?_ | with_reducible refine grow_alloc ?_ _ | with_reducible refine grow_drewN ?_ _))))).mono ?_; rintro e w' ⟨sr, rfl, hzr, hg⟩; have y' : ZB w' r false none 0 0 := ZB.below y (by (repeat' (first | with_reducible exact Below.refl _ _ | with_reducible assumption | with_reducible refine grow_step (by with_reducible assumption) ?_ | with_reducible refine grow_drew ?_ | with_reducible refine grow_alloc ?_ _ | with_reducible refine grow_drewN ?_ _))); have y0 := y'.c0; have y1 := y'.c1; have y2 := y'.f 0; have y3 := y'.f 1; have yt' : ZB w' t false none 0 0 := ZB.below yt (by (repeat' (first | with_reducible exact Below.refl _ _ | with_reducible assumption | with_reducible refine grow_step (by with_reducible assumption) ?_ | with_reducible refine grow_drew ?_ | with_reducible refine grow_alloc ?_ _ | with_reducible refine grow_drewN ?_ _))); have t0 := yt'.c0; have t1 := yt'.c1; have t2 := yt'.f 0; have t3 := yt'.f 1; have hzq' := Zn.below hzq hg))
   go_wp2
   rename_i hH
   have y4 := zb_fin y' sq aq lq cq
   have t4 := zb_fin (yt'.only (only2 r w' (.bool sq) (.slice aq lq cq)) (Ne.symm hrt')) sr ar 0 cr
   refine bodyPost_ret (results_c2t rfl _ _ r t 24 _ _ (0, 0) _ rfl rfl (y4.only (only2 t _ _ _) hrt') t4 Tryz.underlying24 rfl (by kernel_rfl) (by kernel_rfl)) rfl ?_
   have zq := zb_zn (yt'.only (only2 r w' (.bool sq) (.slice aq lq cq)) (Ne.symm hrt')) (zb_zn y' hzq' sq aq lq cq) sr ar 0 cr
   have zr := zb_zn (yt'.only (only2 r w' (.bool sq) (.slice aq lq cq)) (Ne.symm hrt')) (zb_zn y' hzr sq aq lq cq) sr ar 0 cr
   exact ⟨sq, aq, lq, cq, sr, ar, 0, cr, _, _, by simp, zq, zr, HFD, hp.out.symm ▸ (b0.trans (hH.2.2.2.2.mono (Nat.le_of_lt hpr))), by omega, by omega⟩
  ·have hlr0 : 0 < lr := Nat.pos_of_ne_zero (fun h => hz0 (hr0.2 h))
   have HFD : FD (sg s1 m) (sg s2 n) (sg true (m / n + 1)) (sg s2 (n - m % n)) := by
    exact fd_up hs hn0 hz0
   clear hs
   go_wp2_with fail
   refine (of_n 1 (by decide) (by decide) w1).mono ?_
   rintro e w2 ⟨ao, lo, co, rfl, hco, k2, hlo⟩
   go_wp2_with fail
   refine (add_n (hcq.below k2).nm hco.nm (by omega) (by omega)).mono ?_
   rintro e w3 ⟨aq', lq', cq', rfl, hcq', k3, hlq'⟩
   have k4 := grow_step k3 (grow_step k2 k1)
   have u3 := (x2.below k4).c1
   clear u0 u2
   go_wp2_with fail
   refine (sub_n (hn.below k4) (hcr.below (grow_step k3 k2)).nm hl2 (by have := Int.emod_lt_of_pos m hn0; omega)).mono ?_
   rintro e w4 ⟨ar', lr', cr', rfl, hcr', k5, hlr'⟩
   replace hcq' := hcq'.below k5
   replace k5 := grow_step k5 k4
   replace hr0 := hcr'.len
   clear hcq hcr k1 k2 k3 k4 hco u3
   go_wp2_with fail
   go_region_held3 (fun w' => w'.cell? ⟨p, 0, none⟩ = some (.bool s1) ∧ w'.cell? ⟨p, 1, none⟩ = some (.slice a1 l1 c1) ∧ w'.cell? ⟨q, 0, none⟩ = some (.bool s2) ∧ w'.cell? ⟨q, 1, none⟩ = some (.slice a2 l2 c2) ∧ Below r wb w')
    ((refine zs2 x x2 hpr hqr ?_; first | (refine Below.mono ?_ hrb; focus ((repeat' (first | with_reducible exact Below.refl _ _ | with_reducible assumption | with_reducible refine grow_step (by with_reducible assumption) ?_ | with_reducible refine grow_drew ?_ | with_reducible refine grow_alloc ?_ _ | with_reducible refine grow_drewN ?_ _)); done)) | (refine ((Below.mono ?_ hrb).setCell (Nat.le_refl _) _).setCell (Nat.le_refl _) _; focus ((repeat' (first | with_reducible exact Below.refl _ _ | with_reducible assumption | with_reducible refine grow_step (by with_reducible assumption) ?_ | with_reducible refine grow_drew ?_ | with_reducible refine grow_alloc ?_ _ | with_reducible refine grow_drewN ?_ _)); done)) | (refine Below.setCell (Below.setCell (((Below.mono ?_ hrb).setCell (Nat.le_refl _) _).setCell (Nat.le_refl _) _) (Nat.le_of_lt hrt) _) (Nat.le_of_lt hrt) _; focus ((repeat' (first | with_reducible exact Below.refl _ _ | with_reducible assumption | with_reducible refine grow_step (by with_reducible assumption) ?_ | with_reducible refine grow_drew ?_ | with_reducible refine grow_alloc ?_ _ | with_reducible refine grow_drewN ?_ _)); done))))
    (first | (go_at_call 77; with_reducible refine (stand_n (Cn.below hcq' (by (repeat' (first | with_reducible exact Below.refl _ _ | with_reducible assumption | with_reducible refine grow_step (by with_reducible assumption) ?_ | with_reducible refine grow_drew ?_ | with_reducible refine grow_alloc ?_ _ | with_reducible refine grow_drewN ?_ _))))).mono ?_; rintro e w' ⟨sq, rfl, hzq, hg⟩) | (go_at_call 77; with_reducible refine (stand_n (Cn.below hcr' (by (repeat' (first | with_reducible exact Below.refl _ _ | with_reducible assumption | with_reducible refine grow_step (by with_reducible assumption) ?_ | with_reducible refine grow_drew ?_ | with_reducible refine grow_alloc ?_ _ | with_reducible refine grow_drewN ?_ _))))).mono ?_; rintro e w' ⟨sr, rfl, hzr, hg⟩; have y' : ZB w' r false none 0 0 := ZB.below y (by (repeat' (first | with_reducible exact Below.refl _ _ | with_reducible assumption | with_reducible refine grow_step (by with_reducible assumption) ?_ | with_reducible refine grow_drew ?_ | with_reducible refine grow_alloc ?_ _ | with_reducible refine grow_drewN ?_ _))); have y0 := y'.c0; have y1 := y'.c1; have y2 := y'.f 0; have y3 := y'.f 1; have yt' : ZB w' t false none 0 0 := ZB.below yt (by (repeat' (first | with_reducible exact Below.refl _ _ | with_reducible assumption | with_reducible refine grow_step (by with_reducible assumption) ?_ | with_reducible refine grow_drew ?_ | with_reducible refine grow_alloc ?_ _ | with_reducible refine grow_drewN ?_ _))); have t0 := yt'.c0; have t1 := yt'.c1; have t2 := yt'.f 0; have t3 := yt'.f 1; have hzq' := Zn.below hzq hg))
   go_wp2
   rename_i hH
   have y4 := zb_fin y' sq aq' lq' cq'
   have t4 := zb_fin (yt'.only (only2 r w' (.bool sq) (.slice aq' lq' cq')) (Ne.symm hrt')) sr ar' lr' cr'
   refine bodyPost_ret (results_c2t rfl _ _ r t 24 _ _ (0, 0) _ rfl rfl (y4.only (only2 t _ _ _) hrt') t4 Tryz.underlying24 rfl (by kernel_rfl) (by kernel_rfl)) rfl ?_
   have zq := zb_zn (yt'.only (only2 r w' (.bool sq) (.slice aq' lq' cq')) (Ne.symm hrt')) (zb_zn y' hzq' sq aq' lq' cq') sr ar' lr' cr'
   have zr := zb_zn (yt'.only (only2 r w' (.bool sq) (.slice aq' lq' cq')) (Ne.symm hrt')) (zb_zn y' hzr sq aq' lq' cq') sr ar' lr' cr'
   exact ⟨sq, aq', lq', cq', sr, ar', lr', cr', _, _, by simp, zq, zr, HFD, hp.out.symm ▸ (b0.trans (hH.2.2.2.2.mono (Nat.le_of_lt hpr))), by omega, by omega⟩

end Go.Proofs.YtjhhknfnaobmiaaGreatDoor
