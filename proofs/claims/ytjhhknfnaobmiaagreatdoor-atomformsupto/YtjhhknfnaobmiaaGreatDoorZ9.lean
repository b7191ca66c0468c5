/-
 Layer 2: the reference's Neg, Abs, Add, Sub, Mul.
-/
import Derived.Test.YtjhhknfnaobmiaaGreatDoorZ4
import Derived.Test.YtjhhknfnaobmiaaGreatDoorR6
namespace Go.Proofs.YtjhhknfnaobmiaaGreatDoor
open Go.RowKit

theorem zm_of {s : Bool} {a : Option Addr} {l c : Nat} {n : Int} {w : World} (h : Nm w a l c n) : Zm w s a l c (sg s n) := ⟨n, h, rfl⟩
theorem radd_n {a1 a2 : Option Addr} {l1 c1 l2 c2 : Nat} {m n : Int} {w : World} (h1 : Nm w a1 l1 c1 m) (h2 : Nm w a2 l2 c2 n) (hl1 : l1 ≤ 17179869184) (hl2 : l2 ≤ 17179869184) :
  Calls Tryz.prog 102 #[.slice a1 l1 c1, .slice a2 l2 c2] w fun e w' => ∃ ad len cap, e = .returned (.slice ad len cap) ∧ Cn w' ad len cap (m + n) ∧ Below w.heap.size w w' ∧ len ≤ max l1 l2 + 1 := by
 obtain ⟨xs, h1, rfl⟩ := h1
 obtain ⟨ys, h2, rfl⟩ := h2
 refine (refadd_any h1 h2 (by omega) (by omega)).mono ?_
 rintro e w' ⟨ad, len, cap, zs, rfl, ho, hc, hv, hl⟩
 exact ⟨ad, len, cap, rfl, out_cn ho hc hv, ho.1, hl⟩
theorem rsub_n {a1 a2 : Option Addr} {l1 c1 l2 c2 : Nat} {m n : Int} {w : World} (h1 : Nm w a1 l1 c1 m) (h2 : Nm w a2 l2 c2 n) (hl1 : l1 ≤ 17179869184) (hge : n ≤ m) :
  Calls Tryz.prog 104 #[.slice a1 l1 c1, .slice a2 l2 c2] w fun e w' => ∃ ad len cap, e = .returned (.slice ad len cap) ∧ Cn w' ad len cap (m - n) ∧ Below w.heap.size w w' ∧ len ≤ l1 := by
 obtain ⟨xs, h1, rfl⟩ := h1
 obtain ⟨ys, h2, rfl⟩ := h2
 refine (refsub_any h1 h2 (by omega) hge).mono ?_
 rintro e w' ⟨ad, len, cap, zs, rfl, ho, hc, hv, hl⟩
 exact ⟨ad, len, cap, rfl, out_cn ho hc hv, ho.1, hl⟩
theorem rmul_n {a1 a2 : Option Addr} {l1 c1 l2 c2 : Nat} {m n : Int} {w : World} (h1 : Nm w a1 l1 c1 m) (h2 : Nm w a2 l2 c2 n) (hl1 : l1 ≤ 17179869184) (hl2 : l2 ≤ 17179869184) :
  Calls Tryz.prog 141 #[.slice a1 l1 c1, .slice a2 l2 c2] w fun e w' => ∃ ad len cap, e = .returned (.slice ad len cap) ∧ Cn w' ad len cap (m * n) ∧ Below w.heap.size w w' ∧ len ≤ l1 + l2 := by
 obtain ⟨xs, h1, rfl⟩ := h1
 obtain ⟨ys, h2, rfl⟩ := h2
 refine (refmul_any h1 h2 hl1 hl2).mono ?_
 rintro e w' ⟨ad, len, cap, zs, rfl, ho, hc, hv, hl⟩
 exact ⟨ad, len, cap, rfl, out_cn ho hc hv, ho.1, hl⟩

set_option maxRecDepth 100000 in
set_option maxHeartbeats 1600000 in
theorem rneg_n {s : Bool} {a : Option Addr} {l c : Nat} {z : Int} {w : World} (h : Zm w s a l c z) (hl : l ≤ 1099511627776) :
  Calls Tryz.prog 106 #[.agg #[.bool s, .slice a l c]] w fun e w' => ∃ s' ad len cap, e = .returned (.agg #[.bool s', .slice ad len cap]) ∧ Zn w' s' ad len cap (-z) ∧ Below w.heap.size w w' ∧ len ≤ l := by
 obtain ⟨n, hn, rfl⟩ := h
 rw [← sg_not]
 go_enter Tryz.func106, Tryz.ntmps106
 go_wp2_with fail
 have x := (zb_new w s a l c).below (below_alloc _ (.cells #[.bool false, .slice none 0 0] 24))
 have y := zb_new (w.alloc (.cells #[.bool s, .slice a l c] 24)) false none 0 0
 have b0 : Below w.heap.size w ((w.alloc (.cells #[.bool s, .slice a l c] 24)).alloc (.cells #[.bool false, .slice none 0 0] 24)) := below_alloc' (below_alloc _ _) _
 rw [show (w.alloc (.cells #[.bool s, .slice a l c] 24)).heap.size = w.heap.size + 1 from by simp] at y
 generalize (w.alloc (.cells #[.bool s, .slice a l c] 24)).alloc (.cells #[.bool false, .slice none 0 0] 24) = wb at *
 have hpr : w.heap.size < w.heap.size + 1 := by omega
 replace hn := hn.below b0
 generalize hp : w.heap.size = p at *
 replace hp := hide hp
 generalize p + 1 = r at *
 have hrb := Nat.le_of_lt y.lt
 refine (rnorm_n ⟨n, hn, rfl⟩ hl).mono ?_
 rintro e w' ⟨s', ad, len, cap, rfl, hz, hg, hl'⟩
 have y' : ZB w' r false none 0 0 := ZB.below y (by (repeat' (first | with_reducible exact Below.refl _ _ | with_reducible assumption | with_reducible refine grow_step (by with_reducible assumption) ?_ | with_reducible refine grow_drew ?_ | with_reducible refine grow_alloc ?_ _ | with_reducible refine grow_drewN ?_ _))); have y0 := y'.c0; have y1 := y'.c1; have y2 := y'.f 0; have y3 := y'.f 1
 have hB : Below p w w' := b0.trans (hg.mono (Nat.le_of_lt (Nat.lt_of_lt_of_le hpr hrb)))
 go_wp2
 refine bodyPost_ret (results_cell_row rfl _ _ r 24 _ (0, 0) _ rfl (zb_fin y' s' ad len cap) Tryz.underlying24 rfl (by kernel_rfl)) rfl ?_
 exact ⟨s', ad, len, cap, by simp, zb_zn y' hz _ _ _ _, hp.out.symm ▸ (hB.setCell (Nat.le_of_lt hpr) _).setCell (Nat.le_of_lt hpr) _, hl'⟩

set_option maxRecDepth 100000 in
set_option maxHeartbeats 1600000 in
theorem rabs_n {s : Bool} {a : Option Addr} {l c : Nat} {z : Int} {w : World} (h : Zm w s a l c z) (hl : l ≤ 1099511627776) :
  Calls Tryz.prog 89 #[.agg #[.bool s, .slice a l c]] w fun e w' => ∃ s' ad len cap, e = .returned (.agg #[.bool s', .slice ad len cap]) ∧ Zn w' s' ad len cap ((z.natAbs : Int)) ∧ Below w.heap.size w w' ∧ len ≤ l := by
 obtain ⟨n, hn, rfl⟩ := h
 rw [← sg_abs (s := s) hn.nonneg]
 go_enter Tryz.func89, Tryz.ntmps89
 go_wp2_with fail
 have x := (zb_new w s a l c).below (below_alloc _ (.cells #[.bool false, .slice none 0 0] 24))
 have y := zb_new (w.alloc (.cells #[.bool s, .slice a l c] 24)) false none 0 0
 have b0 : Below w.heap.size w ((w.alloc (.cells #[.bool s, .slice a l c] 24)).alloc (.cells #[.bool false, .slice none 0 0] 24)) := below_alloc' (below_alloc _ _) _
 rw [show (w.alloc (.cells #[.bool s, .slice a l c] 24)).heap.size = w.heap.size + 1 from by simp] at y
 generalize (w.alloc (.cells #[.bool s, .slice a l c] 24)).alloc (.cells #[.bool false, .slice none 0 0] 24) = wb at *
 have hpr : w.heap.size < w.heap.size + 1 := by omega
 replace hn := hn.below b0
 generalize hp : w.heap.size = p at *
 replace hp := hide hp
 generalize p + 1 = r at *
 have hrb := Nat.le_of_lt y.lt
 refine (rnorm_n ⟨n, hn, rfl⟩ hl).mono ?_
 rintro e w' ⟨s', ad, len, cap, rfl, hz, hg, hl'⟩
 have y' : ZB w' r false none 0 0 := ZB.below y (by (repeat' (first | with_reducible exact Below.refl _ _ | with_reducible assumption | with_reducible refine grow_step (by with_reducible assumption) ?_ | with_reducible refine grow_drew ?_ | with_reducible refine grow_alloc ?_ _ | with_reducible refine grow_drewN ?_ _))); have y0 := y'.c0; have y1 := y'.c1; have y2 := y'.f 0; have y3 := y'.f 1
 have hB : Below p w w' := b0.trans (hg.mono (Nat.le_of_lt (Nat.lt_of_lt_of_le hpr hrb)))
 go_wp2
 refine bodyPost_ret (results_cell_row rfl _ _ r 24 _ (0, 0) _ rfl (zb_fin y' s' ad len cap) Tryz.underlying24 rfl (by kernel_rfl)) rfl ?_
 exact ⟨s', ad, len, cap, by simp, zb_zn y' hz _ _ _ _, hp.out.symm ▸ (hB.setCell (Nat.le_of_lt hpr) _).setCell (Nat.le_of_lt hpr) _, hl'⟩

set_option maxRecDepth 100000 in
set_option maxHeartbeats 1600000 in
theorem rmul2_n {s1 s2 : Bool} {a1 a2 : Option Addr} {l1 c1 l2 c2 : Nat} {z1 z2 : Int} {w : World} (h1 : Zm w s1 a1 l1 c1 z1) (h2 : Zm w s2 a2 l2 c2 z2) (hl1 : l1 ≤ 17179869184) (hl2 : l2 ≤ 17179869184) :
  Calls Tryz.prog 117 #[.agg #[.bool s1, .slice a1 l1 c1], .agg #[.bool s2, .slice a2 l2 c2]] w fun e w' => ∃ s' ad len cap, e = .returned (.agg #[.bool s', .slice ad len cap]) ∧ Zn w' s' ad len cap (z1 * z2) ∧ Below w.heap.size w w' ∧ len ≤ l1 + l2 := by
 obtain ⟨m, hm, rfl⟩ := h1
 obtain ⟨n, hn, rfl⟩ := h2
 rw [← sg_mul]
 go_enter Tryz.func117, Tryz.ntmps117
 go_wp2_with fail
 have x := (zb_new w s1 a1 l1 c1).below (below_alloc' (below_alloc _ (.cells #[.bool s2, .slice a2 l2 c2] 24)) (.cells #[.bool false, .slice none 0 0] 24))
 have x2 := (zb_new (w.alloc (.cells #[.bool s1, .slice a1 l1 c1] 24)) s2 a2 l2 c2).below (below_alloc _ (.cells #[.bool false, .slice none 0 0] 24))
 have y := zb_new ((w.alloc (.cells #[.bool s1, .slice a1 l1 c1] 24)).alloc (.cells #[.bool s2, .slice a2 l2 c2] 24)) false none 0 0
 have b0 : Below w.heap.size w (((w.alloc (.cells #[.bool s1, .slice a1 l1 c1] 24)).alloc (.cells #[.bool s2, .slice a2 l2 c2] 24)).alloc (.cells #[.bool false, .slice none 0 0] 24)) := below_alloc' (below_alloc' (below_alloc _ _) _) _
 rw [show ((w.alloc (.cells #[.bool s1, .slice a1 l1 c1] 24)).alloc (.cells #[.bool s2, .slice a2 l2 c2] 24)).heap.size = w.heap.size + 2 from by simp] at y
 rw [show (w.alloc (.cells #[.bool s1, .slice a1 l1 c1] 24)).heap.size = w.heap.size + 1 from by simp] at x2
 generalize ((w.alloc (.cells #[.bool s1, .slice a1 l1 c1] 24)).alloc (.cells #[.bool s2, .slice a2 l2 c2] 24)).alloc (.cells #[.bool false, .slice none 0 0] 24) = wb at *
 have hpr : w.heap.size < w.heap.size + 2 := by omega
 have hqr : w.heap.size + 1 < w.heap.size + 2 := by omega
 have hpq : w.heap.size < w.heap.size + 1 := by omega
 replace hm := hm.below b0
 replace hn := hn.below b0
 generalize hp : w.heap.size = p at *
 replace hp := hide hp
 generalize p + 2 = r at *
 generalize p + 1 = q at *
 have hrb := Nat.le_of_lt y.lt
 go_region_held3 (fun w' => w'.cell? ⟨p, 0, none⟩ = some (.bool s1) ∧ w'.cell? ⟨p, 1, none⟩ = some (.slice a1 l1 c1) ∧ w'.cell? ⟨q, 0, none⟩ = some (.bool s2) ∧ w'.cell? ⟨q, 1, none⟩ = some (.slice a2 l2 c2) ∧ Below r wb w')
  ((refine zs2 x x2 hpr hqr ?_; first | (refine Below.mono ?_ hrb; focus ((repeat' (first | with_reducible exact Below.refl _ _ | with_reducible assumption | with_reducible refine grow_step (by with_reducible assumption) ?_ | with_reducible refine grow_drew ?_ | with_reducible refine grow_alloc ?_ _ | with_reducible refine grow_drewN ?_ _)); done)) | (refine ((Below.mono ?_ hrb).setCell (Nat.le_refl _) _).setCell (Nat.le_refl _) _; focus ((repeat' (first | with_reducible exact Below.refl _ _ | with_reducible assumption | with_reducible refine grow_step (by with_reducible assumption) ?_ | with_reducible refine grow_drew ?_ | with_reducible refine grow_alloc ?_ _ | with_reducible refine grow_drewN ?_ _)); done))))
  (first | (go_at_call 141; with_reducible refine (rmul_n (Nm.below hm (by (repeat' (first | with_reducible exact Below.refl _ _ | with_reducible assumption | with_reducible refine grow_step (by with_reducible assumption) ?_ | with_reducible refine grow_drew ?_ | with_reducible refine grow_alloc ?_ _ | with_reducible refine grow_drewN ?_ _)))) (Nm.below hn (by (repeat' (first | with_reducible exact Below.refl _ _ | with_reducible assumption | with_reducible refine grow_step (by with_reducible assumption) ?_ | with_reducible refine grow_drew ?_ | with_reducible refine grow_alloc ?_ _ | with_reducible refine grow_drewN ?_ _)))) (by omega) (by omega)).mono ?_; rintro e w' ⟨ad, len, cap, rfl, hc, hg, hl'⟩) | (go_at_call 98; with_reducible refine (rnorm_n (zm_of (Nm.below (Cn.nm hc) (by (repeat' (first | with_reducible exact Below.refl _ _ | with_reducible assumption | with_reducible refine grow_step (by with_reducible assumption) ?_ | with_reducible refine grow_drew ?_ | with_reducible refine grow_alloc ?_ _ | with_reducible refine grow_drewN ?_ _))))) (by omega)).mono ?_; rintro e w' ⟨s', ad', len', cap', rfl, hz, hg, hl2'⟩; have y' : ZB w' r false none 0 0 := ZB.below y (by (repeat' (first | with_reducible exact Below.refl _ _ | with_reducible assumption | with_reducible refine grow_step (by with_reducible assumption) ?_ | with_reducible refine grow_drew ?_ | with_reducible refine grow_alloc ?_ _ | with_reducible refine grow_drewN ?_ _))); have y0 := y'.c0; have y1 := y'.c1; have y2 := y'.f 0; have y3 := y'.f 1))
 go_wp2
 rename_i hH
 refine bodyPost_ret (results_cell_row rfl _ _ r 24 _ (0, 0) _ rfl (zb_fin y' s' ad' len' cap') Tryz.underlying24 rfl (by kernel_rfl)) rfl ?_
 exact ⟨s', ad', len', cap', by simp, zb_zn y' hz _ _ _ _, hp.out.symm ▸ (b0.trans (hH.2.2.2.2.mono (Nat.le_of_lt hpr))), by omega⟩

set_option maxRecDepth 100000 in
set_option maxHeartbeats 1600000 in
theorem radd2_n {s1 s2 : Bool} {a1 a2 : Option Addr} {l1 c1 l2 c2 : Nat} {z1 z2 : Int} {w : World} (h1 : Zm w s1 a1 l1 c1 z1) (h2 : Zm w s2 a2 l2 c2 z2) (hl1 : l1 ≤ 17179869184) (hl2 : l2 ≤ 17179869184) :
  Calls Tryz.prog 56 #[.agg #[.bool s1, .slice a1 l1 c1], .agg #[.bool s2, .slice a2 l2 c2]] w fun e w' => ∃ s' ad len cap, e = .returned (.agg #[.bool s', .slice ad len cap]) ∧ Zn w' s' ad len cap (z1 + z2) ∧ Below w.heap.size w w' ∧ len ≤ max l1 l2 + 1 := by
 obtain ⟨m, hm, rfl⟩ := h1
 obtain ⟨n, hn, rfl⟩ := h2
 by_cases hs : s1 = s2
 ·have hs' : (s1 == s2) = true := by simp [hs]
  rw [show sg s1 m + sg s2 n = sg s1 (m + n) from by rw [← hs, sg_add]]
  clear hs
  go_enter Tryz.func56, Tryz.ntmps56
  go_wp2_with fail
  have x := (zb_new w s1 a1 l1 c1).below (below_alloc' (below_alloc _ (.cells #[.bool s2, .slice a2 l2 c2] 24)) (.cells #[.bool false, .slice none 0 0] 24))
  have x2 := (zb_new (w.alloc (.cells #[.bool s1, .slice a1 l1 c1] 24)) s2 a2 l2 c2).below (below_alloc _ (.cells #[.bool false, .slice none 0 0] 24))
  have y := zb_new ((w.alloc (.cells #[.bool s1, .slice a1 l1 c1] 24)).alloc (.cells #[.bool s2, .slice a2 l2 c2] 24)) false none 0 0
  have b0 : Below w.heap.size w (((w.alloc (.cells #[.bool s1, .slice a1 l1 c1] 24)).alloc (.cells #[.bool s2, .slice a2 l2 c2] 24)).alloc (.cells #[.bool false, .slice none 0 0] 24)) := below_alloc' (below_alloc' (below_alloc _ _) _) _
  rw [show ((w.alloc (.cells #[.bool s1, .slice a1 l1 c1] 24)).alloc (.cells #[.bool s2, .slice a2 l2 c2] 24)).heap.size = w.heap.size + 2 from by simp] at y
  rw [show (w.alloc (.cells #[.bool s1, .slice a1 l1 c1] 24)).heap.size = w.heap.size + 1 from by simp] at x2
  generalize ((w.alloc (.cells #[.bool s1, .slice a1 l1 c1] 24)).alloc (.cells #[.bool s2, .slice a2 l2 c2] 24)).alloc (.cells #[.bool false, .slice none 0 0] 24) = wb at *
  have hpr : w.heap.size < w.heap.size + 2 := by omega
  have hqr : w.heap.size + 1 < w.heap.size + 2 := by omega
  have hpq : w.heap.size < w.heap.size + 1 := by omega
  replace hm := hm.below b0
  replace hn := hn.below b0
  generalize hp : w.heap.size = p at *
  replace hp := hide hp
  generalize p + 2 = r at *
  generalize p + 1 = q at *
  have hrb := Nat.le_of_lt y.lt
  go_region_held3 (fun w' => w'.cell? ⟨p, 0, none⟩ = some (.bool s1) ∧ w'.cell? ⟨p, 1, none⟩ = some (.slice a1 l1 c1) ∧ w'.cell? ⟨q, 0, none⟩ = some (.bool s2) ∧ w'.cell? ⟨q, 1, none⟩ = some (.slice a2 l2 c2) ∧ Below r wb w')
   ((refine zs2 x x2 hpr hqr ?_; first | (refine Below.mono ?_ hrb; focus ((repeat' (first | with_reducible exact Below.refl _ _ | with_reducible assumption | with_reducible refine grow_step (by with_reducible assumption) ?_ | with_reducible refine grow_drew ?_ | with_reducible refine grow_alloc ?_ _ | with_reducible refine grow_drewN ?_ _)); done)) | (refine ((Below.mono ?_ hrb).setCell (Nat.le_refl _) _).setCell (Nat.le_refl _) _; focus ((repeat' (first | with_reducible exact Below.refl _ _ | with_reducible assumption | with_reducible refine grow_step (by with_reducible assumption) ?_ | with_reducible refine grow_drew ?_ | with_reducible refine grow_alloc ?_ _ | with_reducible refine grow_drewN ?_ _)); done))))
   (first | (go_at_call 102; with_reducible refine (radd_n (Nm.below hm (by (repeat' (first | with_reducible exact Below.refl _ _ | with_reducible assumption | with_reducible refine grow_step (by with_reducible assumption) ?_ | with_reducible refine grow_drew ?_ | with_reducible refine grow_alloc ?_ _ | with_reducible refine grow_drewN ?_ _)))) (Nm.below hn (by (repeat' (first | with_reducible exact Below.refl _ _ | with_reducible assumption | with_reducible refine grow_step (by with_reducible assumption) ?_ | with_reducible refine grow_drew ?_ | with_reducible refine grow_alloc ?_ _ | with_reducible refine grow_drewN ?_ _)))) (by omega) (by omega)).mono ?_; rintro e w' ⟨ad, len, cap, rfl, hc, hg, hl'⟩) | (go_at_call 98; with_reducible refine (rnorm_n (zm_of (Nm.below (Cn.nm hc) (by (repeat' (first | with_reducible exact Below.refl _ _ | with_reducible assumption | with_reducible refine grow_step (by with_reducible assumption) ?_ | with_reducible refine grow_drew ?_ | with_reducible refine grow_alloc ?_ _ | with_reducible refine grow_drewN ?_ _))))) (by omega)).mono ?_; rintro e w' ⟨s', ad', len', cap', rfl, hz, hg, hl2'⟩; have y' : ZB w' r false none 0 0 := ZB.below y (by (repeat' (first | with_reducible exact Below.refl _ _ | with_reducible assumption | with_reducible refine grow_step (by with_reducible assumption) ?_ | with_reducible refine grow_drew ?_ | with_reducible refine grow_alloc ?_ _ | with_reducible refine grow_drewN ?_ _))); have y0 := y'.c0; have y1 := y'.c1; have y2 := y'.f 0; have y3 := y'.f 1))
  go_wp2
  rename_i hH
  refine bodyPost_ret (results_cell_row rfl _ _ r 24 _ (0, 0) _ rfl (zb_fin y' s' ad' len' cap') Tryz.underlying24 rfl (by kernel_rfl)) rfl ?_
  exact ⟨s', ad', len', cap', by simp, zb_zn y' hz _ _ _ _, hp.out.symm ▸ (b0.trans (hH.2.2.2.2.mono (Nat.le_of_lt hpr))), by omega⟩
 ·have hs' : (s1 == s2) = false := by simp [hs]
  have hcm : (m < n → cmpI m n < 0) ∧ (¬ m < n → 0 ≤ cmpI m n) := by unfold cmpI; omega
  by_cases hlt : m < n
  ·rw [← sg_sub2 hs]
   clear hs
   have hcc := hcm.1 hlt
   clear hcm
   go_enter Tryz.func56, Tryz.ntmps56
   go_wp2_with fail
   have x := (zb_new w s1 a1 l1 c1).below (below_alloc' (below_alloc _ (.cells #[.bool s2, .slice a2 l2 c2] 24)) (.cells #[.bool false, .slice none 0 0] 24))
   have x2 := (zb_new (w.alloc (.cells #[.bool s1, .slice a1 l1 c1] 24)) s2 a2 l2 c2).below (below_alloc _ (.cells #[.bool false, .slice none 0 0] 24))
   have y := zb_new ((w.alloc (.cells #[.bool s1, .slice a1 l1 c1] 24)).alloc (.cells #[.bool s2, .slice a2 l2 c2] 24)) false none 0 0
   have b0 : Below w.heap.size w (((w.alloc (.cells #[.bool s1, .slice a1 l1 c1] 24)).alloc (.cells #[.bool s2, .slice a2 l2 c2] 24)).alloc (.cells #[.bool false, .slice none 0 0] 24)) := below_alloc' (below_alloc' (below_alloc _ _) _) _
   rw [show ((w.alloc (.cells #[.bool s1, .slice a1 l1 c1] 24)).alloc (.cells #[.bool s2, .slice a2 l2 c2] 24)).heap.size = w.heap.size + 2 from by simp] at y
   rw [show (w.alloc (.cells #[.bool s1, .slice a1 l1 c1] 24)).heap.size = w.heap.size + 1 from by simp] at x2
   generalize ((w.alloc (.cells #[.bool s1, .slice a1 l1 c1] 24)).alloc (.cells #[.bool s2, .slice a2 l2 c2] 24)).alloc (.cells #[.bool false, .slice none 0 0] 24) = wb at *
   have hpr : w.heap.size < w.heap.size + 2 := by omega
   have hqr : w.heap.size + 1 < w.heap.size + 2 := by omega
   have hpq : w.heap.size < w.heap.size + 1 := by omega
   replace hm := hm.below b0
   replace hn := hn.below b0
   generalize hp : w.heap.size = p at *
   replace hp := hide hp
   generalize p + 2 = r at *
   generalize p + 1 = q at *
   have hrb := Nat.le_of_lt y.lt
   refine (rcmp_n hm hn).mono ?_
   rintro e w1 ⟨rfl, k1⟩
   generalize cmpI m n = cc at *
   have bb : Below p w w1 := b0.trans (k1.mono (Nat.le_of_lt (Nat.lt_of_lt_of_le hpr hrb)))
   replace x := x.below k1
   replace x2 := x2.below k1
   replace y := y.below k1
   replace hm := hm.below k1
   replace hn := hn.below k1
   replace hrb := Nat.le_of_lt y.lt
   replace b0 := bb
   clear k1 bb
   generalize w1 = wb at *
   go_wp2_with fail
   go_region_held3 (fun w' => w'.cell? ⟨p, 0, none⟩ = some (.bool s1) ∧ w'.cell? ⟨p, 1, none⟩ = some (.slice a1 l1 c1) ∧ w'.cell? ⟨q, 0, none⟩ = some (.bool s2) ∧ w'.cell? ⟨q, 1, none⟩ = some (.slice a2 l2 c2) ∧ Below r wb w')
    ((refine zs2 x x2 hpr hqr ?_; first | (refine Below.mono ?_ hrb; focus ((repeat' (first | with_reducible exact Below.refl _ _ | with_reducible assumption | with_reducible refine grow_step (by with_reducible assumption) ?_ | with_reducible refine grow_drew ?_ | with_reducible refine grow_alloc ?_ _ | with_reducible refine grow_drewN ?_ _)); done)) | (refine ((Below.mono ?_ hrb).setCell (Nat.le_refl _) _).setCell (Nat.le_refl _) _; focus ((repeat' (first | with_reducible exact Below.refl _ _ | with_reducible assumption | with_reducible refine grow_step (by with_reducible assumption) ?_ | with_reducible refine grow_drew ?_ | with_reducible refine grow_alloc ?_ _ | with_reducible refine grow_drewN ?_ _)); done))))
    (first | (go_at_call 104; with_reducible refine (rsub_n (Nm.below hn (by (repeat' (first | with_reducible exact Below.refl _ _ | with_reducible assumption | with_reducible refine grow_step (by with_reducible assumption) ?_ | with_reducible refine grow_drew ?_ | with_reducible refine grow_alloc ?_ _ | with_reducible refine grow_drewN ?_ _)))) (Nm.below hm (by (repeat' (first | with_reducible exact Below.refl _ _ | with_reducible assumption | with_reducible refine grow_step (by with_reducible assumption) ?_ | with_reducible refine grow_drew ?_ | with_reducible refine grow_alloc ?_ _ | with_reducible refine grow_drewN ?_ _)))) (by omega) (by omega)).mono ?_; rintro e w' ⟨ad, len, cap, rfl, hc, hg, hl'⟩) | (go_at_call 98; with_reducible refine (rnorm_n (zm_of (Nm.below (Cn.nm hc) (by (repeat' (first | with_reducible exact Below.refl _ _ | with_reducible assumption | with_reducible refine grow_step (by with_reducible assumption) ?_ | with_reducible refine grow_drew ?_ | with_reducible refine grow_alloc ?_ _ | with_reducible refine grow_drewN ?_ _))))) (by omega)).mono ?_; rintro e w' ⟨s', ad', len', cap', rfl, hz, hg, hl2'⟩; have y' : ZB w' r false none 0 0 := ZB.below y (by (repeat' (first | with_reducible exact Below.refl _ _ | with_reducible assumption | with_reducible refine grow_step (by with_reducible assumption) ?_ | with_reducible refine grow_drew ?_ | with_reducible refine grow_alloc ?_ _ | with_reducible refine grow_drewN ?_ _))); have y0 := y'.c0; have y1 := y'.c1; have y2 := y'.f 0; have y3 := y'.f 1))
   go_wp2
   rename_i hH
   refine bodyPost_ret (results_cell_row rfl _ _ r 24 _ (0, 0) _ rfl (zb_fin y' s' ad' len' cap') Tryz.underlying24 rfl (by kernel_rfl)) rfl ?_
   exact ⟨s', ad', len', cap', by simp, zb_zn y' hz _ _ _ _, hp.out.symm ▸ (b0.trans (hH.2.2.2.2.mono (Nat.le_of_lt hpr))), by omega⟩
  ·rw [← sg_sub1 hs]
   clear hs
   have hcc := hcm.2 hlt
   clear hcm
   go_enter Tryz.func56, Tryz.ntmps56
   go_wp2_with fail
   have x := (zb_new w s1 a1 l1 c1).below (below_alloc' (below_alloc _ (.cells #[.bool s2, .slice a2 l2 c2] 24)) (.cells #[.bool false, .slice none 0 0] 24))
   have x2 := (zb_new (w.alloc (.cells #[.bool s1, .slice a1 l1 c1] 24)) s2 a2 l2 c2).below (below_alloc _ (.cells #[.bool false, .slice none 0 0] 24))
   have y := zb_new ((w.alloc (.cells #[.bool s1, .slice a1 l1 c1] 24)).alloc (.cells #[.bool s2, .slice a2 l2 c2] 24)) false none 0 0
   have b0 : Below w.heap.size w (((w.alloc (.cells #[.bool s1, .slice a1 l1 c1] 24)).alloc (.cells #[.bool s2, .slice a2 l2 c2] 24)).alloc (.cells #[.bool false, .slice none 0 0] 24)) := below_alloc' (below_alloc' (below_alloc _ _) _) _
   rw [show ((w.alloc (.cells #[.bool s1, .slice a1 l1 c1] 24)).alloc (.cells #[.bool s2, .slice a2 l2 c2] 24)).heap.size = w.heap.size + 2 from by simp] at y
   rw [show (w.alloc (.cells #[.bool s1, .slice a1 l1 c1] 24)).heap.size = w.heap.size + 1 from by simp] at x2
   generalize ((w.alloc (.cells #[.bool s1, .slice a1 l1 c1] 24)).alloc (.cells #[.bool s2, .slice a2 l2 c2] 24)).alloc (.cells #[.bool false, .slice none 0 0] 24) = wb at *
   have hpr : w.heap.size < w.heap.size + 2 := by omega
   have hqr : w.heap.size + 1 < w.heap.size + 2 := by omega
   have hpq : w.heap.size < w.heap.size + 1 := by omega
   replace hm := hm.below b0
   replace hn := hn.below b0
   generalize hp : w.heap.size = p at *
   replace hp := hide hp
   generalize p + 2 = r at *
   generalize p + 1 = q at *
   have hrb := Nat.le_of_lt y.lt
   refine (rcmp_n hm hn).mono ?_
   rintro e w1 ⟨rfl, k1⟩
   generalize cmpI m n = cc at *
   have bb : Below p w w1 := b0.trans (k1.mono (Nat.le_of_lt (Nat.lt_of_lt_of_le hpr hrb)))
   replace x := x.below k1
   replace x2 := x2.below k1
   replace y := y.below k1
   replace hm := hm.below k1
   replace hn := hn.below k1
   replace hrb := Nat.le_of_lt y.lt
   replace b0 := bb
   clear k1 bb
   generalize w1 = wb at *
   go_wp2_with fail
   go_region_held3 (fun w' => w'.cell? ⟨p, 0, none⟩ = some (.bool s1) ∧ w'.cell? ⟨p, 1, none⟩ = some (.slice a1 l1 c1) ∧ w'.cell? ⟨q, 0, none⟩ = some (.bool s2) ∧ w'.cell? ⟨q, 1, none⟩ = some (.slice a2 l2 c2) ∧ Below r wb w')
    ((refine zs2 x x2 hpr hqr ?_; first | (refine Below.mono ?_ hrb; focus ((repeat' (first | with_reducible exact Below.refl _ _ | with_reducible assumption | with_reducible refine grow_step (by with_reducible assumption) ?_ | with_reducible refine grow_drew ?_ | with_reducible refine grow_alloc ?_ _ | with_reducible refine grow_drewN ?_ _)); done)) | (refine ((Below.mono ?_ hrb).setCell (Nat.le_refl _) _).setCell (Nat.le_refl _) _; focus ((repeat' (first | with_reducible exact Below.refl _ _ | with_reducible assumption | with_reducible refine grow_step (by with_reducible assumption) ?_ | with_reducible refine grow_drew ?_ | with_reducible refine grow_alloc ?_ _ | with_reducible refine grow_drewN ?_ _)); done))))
    (first | (go_at_call 104; with_reducible refine (rsub_n (Nm.below hm (by (repeat' (first | with_reducible exact Below.refl _ _ | with_reducible assumption | with_reducible refine grow_step (by with_reducible assumption) ?_ | with_reducible refine grow_drew ?_ | with_reducible refine grow_alloc ?_ _ | with_reducible refine grow_drewN ?_ _)))) (Nm.below hn (by (repeat' (first | with_reducible exact Below.refl _ _ | with_reducible assumption | with_reducible refine grow_step (by with_reducible assumption) ?_ | with_reducible refine grow_drew ?_ | with_reducible refine grow_alloc ?_ _ | with_reducible refine grow_drewN ?_ _)))) (by omega) (by omega)).mono ?_; rintro e w' ⟨ad, len, cap, rfl, hc, hg, hl'⟩) | (go_at_call 98; with_reducible refine (rnorm_n (zm_of (Nm.below (Cn.nm hc) (by (repeat' (first | with_reducible exact Below.refl _ _ | with_reducible assumption | with_reducible refine grow_step (by with_reducible assumption) ?_ | with_reducible refine grow_drew ?_ | with_reducible refine grow_alloc ?_ _ | with_reducible refine grow_drewN ?_ _))))) (by omega)).mono ?_; rintro e w' ⟨s', ad', len', cap', rfl, hz, hg, hl2'⟩; have y' : ZB w' r false none 0 0 := ZB.below y (by (repeat' (first | with_reducible exact Below.refl _ _ | with_reducible assumption | with_reducible refine grow_step (by with_reducible assumption) ?_ | with_reducible refine grow_drew ?_ | with_reducible refine grow_alloc ?_ _ | with_reducible refine grow_drewN ?_ _))); have y0 := y'.c0; have y1 := y'.c1; have y2 := y'.f 0; have y3 := y'.f 1))
   go_wp2
   rename_i hH
   refine bodyPost_ret (results_cell_row rfl _ _ r 24 _ (0, 0) _ rfl (zb_fin y' s' ad' len' cap') Tryz.underlying24 rfl (by kernel_rfl)) rfl ?_
   exact ⟨s', ad', len', cap', by simp, zb_zn y' hz _ _ _ _, hp.out.symm ▸ (b0.trans (hH.2.2.2.2.mono (Nat.le_of_lt hpr))), by omega⟩

set_option maxRecDepth 100000 in
set_option maxHeartbeats 1600000 in
theorem rsub2_n {s1 s2 : Bool} {a1 a2 : Option Addr} {l1 c1 l2 c2 : Nat} {z1 z2 : Int} {w : World} (h1 : Zm w s1 a1 l1 c1 z1) (h2 : Zm w s2 a2 l2 c2 z2) (hl1 : l1 ≤ 17179869184) (hl2 : l2 ≤ 17179869184) :
  Calls Tryz.prog 58 #[.agg #[.bool s1, .slice a1 l1 c1], .agg #[.bool s2, .slice a2 l2 c2]] w fun e w' => ∃ s' ad len cap, e = .returned (.agg #[.bool s', .slice ad len cap]) ∧ Zn w' s' ad len cap (z1 - z2) ∧ Below w.heap.size w w' ∧ len ≤ max l1 l2 + 1 := by
 have hm := h1
 have hn := h2
 rw [show z1 - z2 = z1 + -z2 from by omega]
 go_enter Tryz.func58, Tryz.ntmps58
 go_wp2_with fail
 have x := (zb_new w s1 a1 l1 c1).below (below_alloc' (below_alloc _ (.cells #[.bool s2, .slice a2 l2 c2] 24)) (.cells #[.bool false, .slice none 0 0] 24))
 have x2 := (zb_new (w.alloc (.cells #[.bool s1, .slice a1 l1 c1] 24)) s2 a2 l2 c2).below (below_alloc _ (.cells #[.bool false, .slice none 0 0] 24))
 have y := zb_new ((w.alloc (.cells #[.bool s1, .slice a1 l1 c1] 24)).alloc (.cells #[.bool s2, .slice a2 l2 c2] 24)) false none 0 0
 have b0 : Below w.heap.size w (((w.alloc (.cells #[.bool s1, .slice a1 l1 c1] 24)).alloc (.cells #[.bool s2, .slice a2 l2 c2] 24)).alloc (.cells #[.bool false, .slice none 0 0] 24)) := below_alloc' (below_alloc' (below_alloc _ _) _) _
 rw [show ((w.alloc (.cells #[.bool s1, .slice a1 l1 c1] 24)).alloc (.cells #[.bool s2, .slice a2 l2 c2] 24)).heap.size = w.heap.size + 2 from by simp] at y
 rw [show (w.alloc (.cells #[.bool s1, .slice a1 l1 c1] 24)).heap.size = w.heap.size + 1 from by simp] at x2
 generalize ((w.alloc (.cells #[.bool s1, .slice a1 l1 c1] 24)).alloc (.cells #[.bool s2, .slice a2 l2 c2] 24)).alloc (.cells #[.bool false, .slice none 0 0] 24) = wb at *
 have hpr : w.heap.size < w.heap.size + 2 := by omega
 have hqr : w.heap.size + 1 < w.heap.size + 2 := by omega
 have hpq : w.heap.size < w.heap.size + 1 := by omega
 replace hm := hm.below b0
 replace hn := hn.below b0
 generalize hp : w.heap.size = p at *
 replace hp := hide hp
 generalize p + 2 = r at *
 generalize p + 1 = q at *
 have hrb := Nat.le_of_lt y.lt
 go_region_held3 (fun w' => w'.cell? ⟨p, 0, none⟩ = some (.bool s1) ∧ w'.cell? ⟨p, 1, none⟩ = some (.slice a1 l1 c1) ∧ w'.cell? ⟨q, 0, none⟩ = some (.bool s2) ∧ w'.cell? ⟨q, 1, none⟩ = some (.slice a2 l2 c2) ∧ Below r wb w')
  ((refine zs2 x x2 hpr hqr ?_; first | (refine Below.mono ?_ hrb; focus ((repeat' (first | with_reducible exact Below.refl _ _ | with_reducible assumption | with_reducible refine grow_step (by with_reducible assumption) ?_ | with_reducible refine grow_drew ?_ | with_reducible refine grow_alloc ?_ _ | with_reducible refine grow_drewN ?_ _)); done)) | (refine ((Below.mono ?_ hrb).setCell (Nat.le_refl _) _).setCell (Nat.le_refl _) _; focus ((repeat' (first | with_reducible exact Below.refl _ _ | with_reducible assumption | with_reducible refine grow_step (by with_reducible assumption) ?_ | with_reducible refine grow_drew ?_ | with_reducible refine grow_alloc ?_ _ | with_reducible refine grow_drewN ?_ _)); done))))
  (first | (go_at_call 106; with_reducible refine (rneg_n (Zm.below hn (by (repeat' (first | with_reducible exact Below.refl _ _ | with_reducible assumption | with_reducible refine grow_step (by with_reducible assumption) ?_ | with_reducible refine grow_drew ?_ | with_reducible refine grow_alloc ?_ _ | with_reducible refine grow_drewN ?_ _)))) (by omega)).mono ?_; rintro e w' ⟨sn, an, ln, cn, rfl, hz2, hg, hl'⟩) | (go_at_call 56; with_reducible refine (radd2_n (Zm.below hm (by (repeat' (first | with_reducible exact Below.refl _ _ | with_reducible assumption | with_reducible refine grow_step (by with_reducible assumption) ?_ | with_reducible refine grow_drew ?_ | with_reducible refine grow_alloc ?_ _ | with_reducible refine grow_drewN ?_ _)))) (Zn.zm (Zn.below hz2 (by (repeat' (first | with_reducible exact Below.refl _ _ | with_reducible assumption | with_reducible refine grow_step (by with_reducible assumption) ?_ | with_reducible refine grow_drew ?_ | with_reducible refine grow_alloc ?_ _ | with_reducible refine grow_drewN ?_ _))))) (by omega) (by omega)).mono ?_; rintro e w' ⟨s', ad', len', cap', rfl, hz, hg, hl2'⟩; have y' : ZB w' r false none 0 0 := ZB.below y (by (repeat' (first | with_reducible exact Below.refl _ _ | with_reducible assumption | with_reducible refine grow_step (by with_reducible assumption) ?_ | with_reducible refine grow_drew ?_ | with_reducible refine grow_alloc ?_ _ | with_reducible refine grow_drewN ?_ _))); have y0 := y'.c0; have y1 := y'.c1; have y2 := y'.f 0; have y3 := y'.f 1))
 go_wp2
 rename_i hH
 refine bodyPost_ret (results_cell_row rfl _ _ r 24 _ (0, 0) _ rfl (zb_fin y' s' ad' len' cap') Tryz.underlying24 rfl (by kernel_rfl)) rfl ?_
 exact ⟨s', ad', len', cap', by simp, zb_zn y' hz _ _ _ _, hp.out.symm ▸ (b0.trans (hH.2.2.2.2.mono (Nat.le_of_lt hpr))), by omega⟩

end Go.Proofs.YtjhhknfnaobmiaaGreatDoor
