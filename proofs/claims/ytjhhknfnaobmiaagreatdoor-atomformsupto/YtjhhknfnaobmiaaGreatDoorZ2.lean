/-
 Layer 2: sums, differences, signs, orders, small numbers.
-/
import Derived.Test.YtjhhknfnaobmiaaGreatDoorZ1
namespace Go.Proofs.YtjhhknfnaobmiaaGreatDoor
open Go.RowKit

theorem ZB.only {w w' : World} {b b' : Nat} {s : Bool} {a : Option Addr} {l c : Nat} (h : ZB w b s a l c) (ho : Only b' w w') (hne : b ≠ b') : ZB w' b s a l c := (ho.block b hne).trans h
theorem zb_nm {w w' : World} {r l c : Nat} {s : Bool} {a : Option Addr} {ad : Option Addr} {len cap : Nat} {n : Int} (y : ZB w r s a l c) (ho : Only r w w') (h : Nm w ad len cap n) : Nm w' ad len cap n := by
 obtain ⟨zs, h1, h3⟩ := h
 exact ⟨zs, h1.only ho (zb_apart y h1), h3⟩
theorem only2 (b : Nat) (w : World) (v v' : Value) : Only b w ((w.setCell ⟨b, 0, none⟩ v).setCell ⟨b, 1, none⟩ v') := (Only.set b 0 w v).trans (Only.set b 1 _ v')

theorem sg_add (s : Bool) (m n : Int) : sg s (m + n) = sg s m + sg s n := by cases s <;> simp [sg] <;> omega
theorem sg_sub1 {s1 s2 : Bool} (h : s1 ≠ s2) (m n : Int) : sg s1 (m - n) = sg s1 m + sg s2 n := by cases s1 <;> cases s2 <;> simp [sg] at h ⊢ <;> omega
theorem sg_sub2 {s1 s2 : Bool} (h : s1 ≠ s2) (m n : Int) : sg s2 (n - m) = sg s1 m + sg s2 n := by cases s1 <;> cases s2 <;> simp [sg] at h ⊢ <;> omega

set_option maxRecDepth 100000 in
set_option maxHeartbeats 1600000 in
theorem zadd_n {s1 s2 : Bool} {a1 a2 : Option Addr} {l1 c1 l2 c2 : Nat} {z1 z2 : Int} {w : World} (h1 : Zm w s1 a1 l1 c1 z1) (h2 : Zm w s2 a2 l2 c2 z2) (hl1 : l1 ≤ 1099511627776) (hl2 : l2 ≤ 1099511627776) :
  Calls Tryz.prog 38 #[.agg #[.bool s1, .slice a1 l1 c1], .agg #[.bool s2, .slice a2 l2 c2]] w fun e w' => ∃ s' ad len cap, e = .returned (.agg #[.bool s', .slice ad len cap]) ∧ Zn w' s' ad len cap (z1 + z2) ∧ Below w.heap.size w w' ∧ len ≤ max l1 l2 + 1 := by
 obtain ⟨m, hm, rfl⟩ := h1
 obtain ⟨n, hn, rfl⟩ := h2
 by_cases hs : s1 = s2
 ·have hs' : (s1 == s2) = true := by simp [hs]
  rw [show sg s1 m + sg s2 n = sg s1 (m + n) from by rw [← hs, sg_add]]
  clear hs
  go_enter Tryz.func38, Tryz.ntmps38
  go_wp2_with fail
  have x := (zb_new w s1 a1 l1 c1).below (below_alloc' (below_alloc _ (.cells #[.bool s2, .slice a2 l2 c2] 24)) (.cells #[.bool false, .slice none 0 0] 24))
  have x2 := (zb_new (w.alloc (.cells #[.bool s1, .slice a1 l1 c1] 24)) s2 a2 l2 c2).below (below_alloc _ (.cells #[.bool false, .slice none 0 0] 24))
  have y := zb_new ((w.alloc (.cells #[.bool s1, .slice a1 l1 c1] 24)).alloc (.cells #[.bool s2, .slice a2 l2 c2] 24)) false none 0 0
  have b0 : Below w.heap.size w (((w.alloc (.cells #[.bool s1, .slice a1 l1 c1] 24)).alloc (.cells #[.bool s2, .slice a2 l2 c2] 24)).alloc (.cells #[.bool false, .slice none 0 0] 24)) := below_alloc' (below_alloc' (below_alloc _ _) _) _
  rw [show ((w.alloc (.cells #[.bool s1, .slice a1 l1 c1] 24)).alloc (.cells #[.bool s2, .slice a2 l2 c2] 24)).heap.size = w.heap.size + 2 from by simp] at y
  rw [show (w.alloc (.cells #[.bool s1, .slice a1 l1 c1] 24)).heap.size = w.heap.size + 1 from by simp] at x2
  generalize ((w.alloc (.cells #[.bool s1, .slice a1 l1 c1] 24)).alloc (.cells #[.bool s2, .slice a2 l2 c2] 24)).alloc (.cells #[.bool false, .slice none 0 0] 24) = wb at *
  have hpr : w.heap.size < w.heap.size + 2 := by omega
  have hqr : w.heap.size + 1 < w.heap.size + 2 := by omega
  have hpq : w.heap.size < w.heap.size + 1 := by omega
  replace hm := hm.below b0
  replace hn := hn.below b0
  generalize hp : w.heap.size = p at *
  replace hp := hide hp
  generalize p + 2 = r at *
  generalize p + 1 = q at *
  have hrb := Nat.le_of_lt y.lt
  go_region_held3 (fun w' => w'.cell? ⟨p, 0, none⟩ = some (.bool s1) ∧ w'.cell? ⟨p, 1, none⟩ = some (.slice a1 l1 c1) ∧ w'.cell? ⟨q, 0, none⟩ = some (.bool s2) ∧ w'.cell? ⟨q, 1, none⟩ = some (.slice a2 l2 c2) ∧ Below r wb w')
   ((refine zs2 x x2 hpr hqr ?_; first | (refine Below.mono ?_ hrb; focus ((repeat' (first | with_reducible exact Below.refl _ _ | with_reducible assumption | with_reducible refine grow_step (by with_reducible assumption) ?_ | with_reducible refine grow_drew ?_ | with_reducible refine grow_alloc ?_ _ | with_reducible refine grow_drewN ?_ _)); done)) | (refine ((Below.mono ?_ hrb).setCell (Nat.le_refl _) _).setCell (Nat.le_refl _) _; focus ((repeat' (first | with_reducible exact Below.refl _ _ | with_reducible assumption | with_reducible refine grow_step (by with_reducible assumption) ?_ | with_reducible refine grow_drew ?_ | with_reducible refine grow_alloc ?_ _ | with_reducible refine grow_drewN ?_ _)); done))))
   (first | (go_at_call 85; refine (add_n (Nm.below hm (by (repeat' (first | with_reducible exact Below.refl _ _ | with_reducible assumption | with_reducible refine grow_step (by with_reducible assumption) ?_ | with_reducible refine grow_drew ?_ | with_reducible refine grow_alloc ?_ _ | with_reducible refine grow_drewN ?_ _)))) (Nm.below hn (by (repeat' (first | with_reducible exact Below.refl _ _ | with_reducible assumption | with_reducible refine grow_step (by with_reducible assumption) ?_ | with_reducible refine grow_drew ?_ | with_reducible refine grow_alloc ?_ _ | with_reducible refine grow_drewN ?_ _)))) hl1 hl2).mono ?_; rintro e w' ⟨ad, len, cap, rfl, hc, hg, hl'⟩) | (go_at_call 77; refine (stand_n (Cn.below hc (by (repeat' (first | with_reducible exact Below.refl _ _ | with_reducible assumption | with_reducible refine grow_step (by with_reducible assumption) ?_ | with_reducible refine grow_drew ?_ | with_reducible refine grow_alloc ?_ _ | with_reducible refine grow_drewN ?_ _))))).mono ?_; rintro e w' ⟨s', rfl, hz, hg⟩; have y' : ZB w' r false none 0 0 := ZB.below y (by (repeat' (first | with_reducible exact Below.refl _ _ | with_reducible assumption | with_reducible refine grow_step (by with_reducible assumption) ?_ | with_reducible refine grow_drew ?_ | with_reducible refine grow_alloc ?_ _ | with_reducible refine grow_drewN ?_ _))); have y0 := y'.c0; have y1 := y'.c1; have y2 := y'.f 0; have y3 := y'.f 1))
  go_wp2
  rename_i hH
  refine bodyPost_ret (results_cell_row rfl _ _ r 24 _ (0, 0) _ rfl (zb_fin y' s' ad len cap) Tryz.underlying24 rfl (by kernel_rfl)) rfl ?_
  exact ⟨s', ad, len, cap, by simp, zb_zn y' hz _ _ _ _, hp.out.symm ▸ (b0.trans (hH.2.2.2.2.mono (Nat.le_of_lt hpr))), hl'⟩
 ·have hs' : (s1 == s2) = false := by simp [hs]
  by_cases hlt : m < n
  ·rw [← sg_sub2 hs]
   clear hs
   go_enter Tryz.func38, Tryz.ntmps38
   go_wp2_with fail
   have x := (zb_new w s1 a1 l1 c1).below (below_alloc' (below_alloc _ (.cells #[.bool s2, .slice a2 l2 c2] 24)) (.cells #[.bool false, .slice none 0 0] 24))
   have x2 := (zb_new (w.alloc (.cells #[.bool s1, .slice a1 l1 c1] 24)) s2 a2 l2 c2).below (below_alloc _ (.cells #[.bool false, .slice none 0 0] 24))
   have y := zb_new ((w.alloc (.cells #[.bool s1, .slice a1 l1 c1] 24)).alloc (.cells #[.bool s2, .slice a2 l2 c2] 24)) false none 0 0
   have b0 : Below w.heap.size w (((w.alloc (.cells #[.bool s1, .slice a1 l1 c1] 24)).alloc (.cells #[.bool s2, .slice a2 l2 c2] 24)).alloc (.cells #[.bool false, .slice none 0 0] 24)) := below_alloc' (below_alloc' (below_alloc _ _) _) _
   rw [show ((w.alloc (.cells #[.bool s1, .slice a1 l1 c1] 24)).alloc (.cells #[.bool s2, .slice a2 l2 c2] 24)).heap.size = w.heap.size + 2 from by simp] at y
   rw [show (w.alloc (.cells #[.bool s1, .slice a1 l1 c1] 24)).heap.size = w.heap.size + 1 from by simp] at x2
   generalize ((w.alloc (.cells #[.bool s1, .slice a1 l1 c1] 24)).alloc (.cells #[.bool s2, .slice a2 l2 c2] 24)).alloc (.cells #[.bool false, .slice none 0 0] 24) = wb at *
   have hpr : w.heap.size < w.heap.size + 2 := by omega
   have hqr : w.heap.size + 1 < w.heap.size + 2 := by omega
   have hpq : w.heap.size < w.heap.size + 1 := by omega
   replace hm := hm.below b0
   replace hn := hn.below b0
   generalize hp : w.heap.size = p at *
   replace hp := hide hp
   generalize p + 2 = r at *
   generalize p + 1 = q at *
   have hrb := Nat.le_of_lt y.lt
   refine (cmp_lt hm hn hlt).mono ?_
   rintro e w1 ⟨rfl, k1⟩
   replace x := x.below k1
   replace x2 := x2.below k1
   replace y := y.below k1
   replace hm := hm.below k1
   replace hn := hn.below k1
   replace b0 := b0.trans (k1.mono (Nat.le_of_lt (Nat.lt_of_lt_of_le hpr hrb)))
   clear hrb k1
   have u0 := x.c0
   have u1 := x.c1
   have u2 := x2.c0
   have u3 := x2.c1
   have v0 := x.f 0
   have v1 := x.f 1
   have v2 := x2.f 0
   have v3 := x2.f 1
   have hpq' : p ≠ q := by omega
   go_wp2_with fail
   have o1 := only2 p w1 (.bool s2) (.slice a2 l2 c2)
   replace hm := zb_nm x o1 hm
   replace hn := zb_nm x o1 hn
   replace x2 := x2.only o1 (Ne.symm hpq')
   replace y := y.only o1 (by omega)
   replace b0 := (b0.setCell (p := ⟨p, 0, none⟩) (Nat.le_refl _) (.bool s2)).setCell (p := ⟨p, 1, none⟩) (Nat.le_refl _) (.slice a2 l2 c2)
   replace x := zb_fin x s2 a2 l2 c2
   generalize (w1.setCell ⟨p, 0, none⟩ (.bool s2)).setCell ⟨p, 1, none⟩ (.slice a2 l2 c2) = w2 at *
   have o2 := only2 q w2 (.bool s1) (.slice a1 l1 c1)
   replace hm := zb_nm x2 o2 hm
   replace hn := zb_nm x2 o2 hn
   replace x := x.only o2 hpq'
   replace y := y.only o2 (by omega)
   replace b0 := (b0.setCell (p := ⟨q, 0, none⟩) (Nat.le_of_lt hpq) (.bool s1)).setCell (p := ⟨q, 1, none⟩) (Nat.le_of_lt hpq) (.slice a1 l1 c1)
   replace x2 := zb_fin x2 s1 a1 l1 c1
   generalize (w2.setCell ⟨q, 0, none⟩ (.bool s1)).setCell ⟨q, 1, none⟩ (.slice a1 l1 c1) = w3 at *
   clear o1 o2 u0 u1 u2 u3 v0 v1 v2 v3
   refine (sub_n hn hm hl2 (by omega)).mono ?_
   rintro e w4 ⟨ad, len, cap, rfl, hc, k2, hl'⟩
   have u0 := (x.below k2).c0
   go_wp2_with fail
   refine (stand_n hc).mono ?_
   rintro e w' ⟨s', rfl, hz, hg⟩
   have y' : ZB w' r false none 0 0 := ZB.below y (grow_step hg k2)
   have y0 := y'.c0
   have y1 := y'.c1
   have y2 := y'.f 0
   have y3 := y'.f 1
   have hB : Below p w w' := b0.trans ((grow_step hg k2).mono (Nat.le_of_lt x.lt))
   go_wp2
   refine bodyPost_ret (results_cell_row rfl _ _ r 24 _ (0, 0) _ rfl (zb_fin y' s' ad len cap) Tryz.underlying24 rfl (by kernel_rfl)) rfl ?_
   exact ⟨s', ad, len, cap, by simp, zb_zn y' hz _ _ _ _, hp.out.symm ▸ (hB.setCell (Nat.le_of_lt hpr) _).setCell (Nat.le_of_lt hpr) _, by omega⟩
  ·rw [← sg_sub1 hs]
   clear hs
   go_enter Tryz.func38, Tryz.ntmps38
   go_wp2_with fail
   have x := (zb_new w s1 a1 l1 c1).below (below_alloc' (below_alloc _ (.cells #[.bool s2, .slice a2 l2 c2] 24)) (.cells #[.bool false, .slice none 0 0] 24))
   have x2 := (zb_new (w.alloc (.cells #[.bool s1, .slice a1 l1 c1] 24)) s2 a2 l2 c2).below (below_alloc _ (.cells #[.bool false, .slice none 0 0] 24))
   have y := zb_new ((w.alloc (.cells #[.bool s1, .slice a1 l1 c1] 24)).alloc (.cells #[.bool s2, .slice a2 l2 c2] 24)) false none 0 0
   have b0 : Below w.heap.size w (((w.alloc (.cells #[.bool s1, .slice a1 l1 c1] 24)).alloc (.cells #[.bool s2, .slice a2 l2 c2] 24)).alloc (.cells #[.bool false, .slice none 0 0] 24)) := below_alloc' (below_alloc' (below_alloc _ _) _) _
   rw [show ((w.alloc (.cells #[.bool s1, .slice a1 l1 c1] 24)).alloc (.cells #[.bool s2, .slice a2 l2 c2] 24)).heap.size = w.heap.size + 2 from by simp] at y
   rw [show (w.alloc (.cells #[.bool s1, .slice a1 l1 c1] 24)).heap.size = w.heap.size + 1 from by simp] at x2
   generalize ((w.alloc (.cells #[.bool s1, .slice a1 l1 c1] 24)).alloc (.cells #[.bool s2, .slice a2 l2 c2] 24)).alloc (.cells #[.bool false, .slice none 0 0] 24) = wb at *
   have hpr : w.heap.size < w.heap.size + 2 := by omega
   have hqr : w.heap.size + 1 < w.heap.size + 2 := by omega
   have hpq : w.heap.size < w.heap.size + 1 := by omega
   replace hm := hm.below b0
   replace hn := hn.below b0
   generalize hp : w.heap.size = p at *
   replace hp := hide hp
   generalize p + 2 = r at *
   generalize p + 1 = q at *
   have hrb := Nat.le_of_lt y.lt
   refine (cmp_n hm hn).mono ?_
   rintro e w1 ⟨rfl, k1⟩
   have hcn : ¬ cmpI m n < 0 := by unfold cmpI; rw [if_neg (by omega)]; split <;> decide
   generalize cmpI m n = cc at *
   replace x := x.below k1
   replace x2 := x2.below k1
   replace y := y.below k1
   replace hm := hm.below k1
   replace hn := hn.below k1
   replace b0 := b0.trans (k1.mono (Nat.le_of_lt (Nat.lt_of_lt_of_le hpr hrb)))
   clear hrb k1
   have u0 := x.c0
   have u1 := x.c1
   have u2 := x2.c0
   have u3 := x2.c1
   go_wp2_with fail
   refine (sub_n hm hn hl1 hlt).mono ?_
   rintro e w4 ⟨ad, len, cap, rfl, hc, k2, hl'⟩
   clear u0 u1 u2 u3
   have u0 := (x.below k2).c0
   go_wp2_with fail
   refine (stand_n hc).mono ?_
   rintro e w' ⟨s', rfl, hz, hg⟩
   have y' : ZB w' r false none 0 0 := ZB.below y (grow_step hg k2)
   have y0 := y'.c0
   have y1 := y'.c1
   have y2 := y'.f 0
   have y3 := y'.f 1
   have hB : Below p w w' := b0.trans ((grow_step hg k2).mono (Nat.le_of_lt x.lt))
   go_wp2
   refine bodyPost_ret (results_cell_row rfl _ _ r 24 _ (0, 0) _ rfl (zb_fin y' s' ad len cap) Tryz.underlying24 rfl (by kernel_rfl)) rfl ?_
   exact ⟨s', ad, len, cap, by simp, zb_zn y' hz _ _ _ _, hp.out.symm ▸ (hB.setCell (Nat.le_of_lt hpr) _).setCell (Nat.le_of_lt hpr) _, by omega⟩

set_option maxRecDepth 100000 in
set_option maxHeartbeats 1600000 in
theorem zsub_n {s1 s2 : Bool} {a1 a2 : Option Addr} {l1 c1 l2 c2 : Nat} {z1 z2 : Int} {w : World} (h1 : Zm w s1 a1 l1 c1 z1) (h2 : Zm w s2 a2 l2 c2 z2) (hl1 : l1 ≤ 1099511627776) (hl2 : l2 ≤ 1099511627776) :
  Calls Tryz.prog 40 #[.agg #[.bool s1, .slice a1 l1 c1], .agg #[.bool s2, .slice a2 l2 c2]] w fun e w' => ∃ s' ad len cap, e = .returned (.agg #[.bool s', .slice ad len cap]) ∧ Zn w' s' ad len cap (z1 - z2) ∧ Below w.heap.size w w' ∧ len ≤ max l1 l2 + 1 := by
 obtain ⟨m, hm, rfl⟩ := h1
 obtain ⟨n, hn, rfl⟩ := h2
 rw [show sg s1 m - sg s2 n = sg s1 m + sg (!s2) n from by rw [sg_not]; omega]
 go_enter Tryz.func40, Tryz.ntmps40
 go_wp2_with fail
 have x := (zb_new w s1 a1 l1 c1).below (below_alloc' (below_alloc _ (.cells #[.bool !s2, .slice a2 l2 c2] 24)) (.cells #[.bool false, .slice none 0 0] 24))
 have x2 := (zb_new (w.alloc (.cells #[.bool s1, .slice a1 l1 c1] 24)) (!s2) a2 l2 c2).below (below_alloc _ (.cells #[.bool false, .slice none 0 0] 24))
 have y := zb_new ((w.alloc (.cells #[.bool s1, .slice a1 l1 c1] 24)).alloc (.cells #[.bool !s2, .slice a2 l2 c2] 24)) false none 0 0
 have b0 : Below w.heap.size w (((w.alloc (.cells #[.bool s1, .slice a1 l1 c1] 24)).alloc (.cells #[.bool !s2, .slice a2 l2 c2] 24)).alloc (.cells #[.bool false, .slice none 0 0] 24)) := below_alloc' (below_alloc' (below_alloc _ _) _) _
 rw [show ((w.alloc (.cells #[.bool s1, .slice a1 l1 c1] 24)).alloc (.cells #[.bool !s2, .slice a2 l2 c2] 24)).heap.size = w.heap.size + 2 from by simp] at y
 rw [show (w.alloc (.cells #[.bool s1, .slice a1 l1 c1] 24)).heap.size = w.heap.size + 1 from by simp] at x2
 generalize ((w.alloc (.cells #[.bool s1, .slice a1 l1 c1] 24)).alloc (.cells #[.bool !s2, .slice a2 l2 c2] 24)).alloc (.cells #[.bool false, .slice none 0 0] 24) = wb at *
 have hpr : w.heap.size < w.heap.size + 2 := by omega
 have hqr : w.heap.size + 1 < w.heap.size + 2 := by omega
 have hpq : w.heap.size < w.heap.size + 1 := by omega
 replace hm := hm.below b0
 replace hn := hn.below b0
 generalize hp : w.heap.size = p at *
 replace hp := hide hp
 generalize p + 2 = r at *
 generalize p + 1 = q at *
 have hrb := Nat.le_of_lt y.lt
 refine (zadd_n ⟨m, hm, rfl⟩ ⟨n, hn, rfl⟩ hl1 hl2).mono ?_
 rintro e w' ⟨s', ad, len, cap, rfl, hz, hg, hl'⟩
 have y' : ZB w' r false none 0 0 := ZB.below y (by (repeat' (first | with_reducible exact Below.refl _ _ | with_reducible assumption | with_reducible refine grow_step (by with_reducible assumption) ?_ | with_reducible refine grow_drew ?_ | with_reducible refine grow_alloc ?_ _ | with_reducible refine grow_drewN ?_ _))); have y0 := y'.c0; have y1 := y'.c1; have y2 := y'.f 0; have y3 := y'.f 1
 have hB : Below p w w' := b0.trans (hg.mono (Nat.le_of_lt (Nat.lt_of_lt_of_le hpr hrb)))
 go_wp2
 refine bodyPost_ret (results_cell_row rfl _ _ r 24 _ (0, 0) _ rfl (zb_fin y' s' ad len cap) Tryz.underlying24 rfl (by kernel_rfl)) rfl ?_
 exact ⟨s', ad, len, cap, by simp, zb_zn y' hz _ _ _ _, hp.out.symm ▸ (hB.setCell (Nat.le_of_lt hpr) _).setCell (Nat.le_of_lt hpr) _, hl'⟩

set_option maxRecDepth 100000 in
set_option maxHeartbeats 1600000 in
theorem zsign_n {s : Bool} {a : Option Addr} {l c : Nat} {z : Int} {w : World} (h : Zm w s a l c z) (hl : l ≤ 1099511627776) :
  Calls Tryz.prog 36 #[.agg #[.bool s, .slice a l c]] w fun e w' => e = .returned (.int .i64 (cmpI z 0)) ∧ Below w.heap.size w w' := by
 obtain ⟨n, hn, rfl⟩ := h
 have h0 := hn.nonneg
 go_enter Tryz.func36, Tryz.ntmps36
 go_wp2_with fail
 have x := zb_new w s a l c
 have b0 := below_alloc w (.cells #[.bool s, .slice a l c] 24)
 replace hn := hn.below b0
 generalize w.alloc (.cells #[.bool s, .slice a l c] 24) = wb at *
 generalize hp : w.heap.size = p at *
 replace hp := hide hp
 refine (bits_n hn hl).mono ?_
 rintro e w1 ⟨k, rfl, hk, k1⟩
 have u0 := (x.below k1).c0
 have hB : Below p w w1 := b0.trans (k1.mono (Nat.le_of_lt x.lt))
 by_cases hz : n = 0
 ·have hk0 : k = 0 := hk.2 hz
  subst hk0
  go_wp2
  go_ret
  exact ⟨ret_int (by rw [hz, cmpI_eq (by cases s <;> simp [sg])]), hp.out.symm ▸ hB⟩
 ·have hk0 : 0 < k := Nat.pos_of_ne_zero (fun h => hz (hk.1 h))
  cases s
  ·go_wp2
   go_ret
   exact ⟨ret_int (by rw [cmpI_gt (by simp [sg]; omega)]), hp.out.symm ▸ hB⟩
  ·go_wp2
   go_ret
   exact ⟨ret_int (by rw [cmpI_lt (by simp [sg]; omega)]), hp.out.symm ▸ hB⟩

set_option maxRecDepth 100000 in
set_option maxHeartbeats 1600000 in
theorem compare_n {x y : Int} {w : World} :
  Calls Tryz.prog 64 #[.int .i64 x, .int .i64 y] w fun e w' => e = .returned (.int .i64 (cmpI x y)) ∧ Below w.heap.size w w' := by
 have isnan : ∀ (v : Int) (u : World), Calls Tryz.prog 112 #[.int .i64 v] u fun e w' => e = .returned (.bool false) ∧ w' = u := by
  intro v u
  go_enter Tryz.func112, Tryz.ntmps112
  go_wp2
  go_ret
  exact ⟨ret_bool (by simp), rfl⟩
 go_enter Tryz.func64, Tryz.ntmps64
 go_wp2_with fail
 refine (isnan x w).mono ?_
 rintro e w1 ⟨rfl, rfl⟩
 go_wp2_with fail
 refine (isnan y _).mono ?_
 rintro e w1 ⟨rfl, rfl⟩
 by_cases h1 : x < y
 ·go_wp2
  go_ret
  exact ⟨ret_int (by rw [cmpI_lt h1]), Below.refl _ _⟩
 ·by_cases h2 : y < x
  ·go_wp2
   go_ret
   exact ⟨ret_int (by rw [cmpI_gt h2]), Below.refl _ _⟩
  ·go_wp2
   go_ret
   exact ⟨ret_int (by rw [cmpI_eq (by omega)]), Below.refl _ _⟩

theorem cmpI_sg (z : Int) : -1 ≤ cmpI z 0 ∧ cmpI z 0 ≤ 1 := by unfold cmpI; split <;> (try split) <;> decide
theorem cmp_both_neg {s1 s2 : Bool} {m n v : Int} (h0 : 0 ≤ m) (h0' : 0 ≤ n) (h1 : cmpI (sg s1 m) 0 = v) (h2 : cmpI (sg s2 n) 0 = v) (hv : v < 0) : cmpI n m = cmpI (sg s1 m) (sg s2 n) := by
 unfold cmpI at *
 cases s1 <;> cases s2 <;> simp only [sg, if_true, if_false, Bool.false_eq_true] at * <;> omega
theorem cmp_both_pos {s1 s2 : Bool} {m n v : Int} (h0 : 0 ≤ m) (h0' : 0 ≤ n) (h1 : cmpI (sg s1 m) 0 = v) (h2 : cmpI (sg s2 n) 0 = v) (hv : ¬ v < 0) : cmpI m n = cmpI (sg s1 m) (sg s2 n) := by
 unfold cmpI at *
 cases s1 <;> cases s2 <;> simp only [sg, if_true, if_false, Bool.false_eq_true] at * <;> omega
theorem cmp_apart {a b v1 v2 : Int} (h1 : cmpI a 0 = v1) (h2 : cmpI b 0 = v2) (hv : v1 ≠ v2) : cmpI v1 v2 = cmpI a b := by
 unfold cmpI at *
 omega

set_option maxRecDepth 100000 in
set_option maxHeartbeats 1600000 in
theorem zcmp_n {s1 s2 : Bool} {a1 a2 : Option Addr} {l1 c1 l2 c2 : Nat} {z1 z2 : Int} {w : World} (h1 : Zm w s1 a1 l1 c1 z1) (h2 : Zm w s2 a2 l2 c2 z2) (hl1 : l1 ≤ 1099511627776) (hl2 : l2 ≤ 1099511627776) :
  Calls Tryz.prog 65 #[.agg #[.bool s1, .slice a1 l1 c1], .agg #[.bool s2, .slice a2 l2 c2]] w fun e w' => e = .returned (.int .i64 (cmpI z1 z2)) ∧ Below w.heap.size w w' := by
 obtain ⟨m, hm, rfl⟩ := h1
 obtain ⟨n, hn, rfl⟩ := h2
 have h0 := hm.nonneg
 have h0' := hn.nonneg
 go_enter Tryz.func65, Tryz.ntmps65
 go_wp2_with fail
 have x := (zb_new w s1 a1 l1 c1).below (below_alloc _ (.cells #[.bool s2, .slice a2 l2 c2] 24))
 have x2 := zb_new (w.alloc (.cells #[.bool s1, .slice a1 l1 c1] 24)) s2 a2 l2 c2
 have b0 : Below w.heap.size w ((w.alloc (.cells #[.bool s1, .slice a1 l1 c1] 24)).alloc (.cells #[.bool s2, .slice a2 l2 c2] 24)) := below_alloc' (below_alloc _ _) _
 rw [show (w.alloc (.cells #[.bool s1, .slice a1 l1 c1] 24)).heap.size = w.heap.size + 1 from by simp] at x2
 replace hm := hm.below b0
 replace hn := hn.below b0
 generalize (w.alloc (.cells #[.bool s1, .slice a1 l1 c1] 24)).alloc (.cells #[.bool s2, .slice a2 l2 c2] 24) = wb at *
 generalize hp : w.heap.size = p at *
 replace hp := hide hp
 generalize p + 1 = q at *
 have hpb := Nat.le_of_lt x.lt
 refine (zsign_n ⟨m, hm, rfl⟩ hl1).mono ?_
 rintro e w1 ⟨rfl, k1⟩
 have u2 := (x2.below k1).c0
 have u3 := (x2.below k1).c1
 go_wp2_with fail
 refine (zsign_n ⟨n, hn.below k1, rfl⟩ hl2).mono ?_
 rintro e w2 ⟨rfl, k2⟩
 replace k2 := grow_step k2 k1
 clear u2 u3 k1
 go_wp2_with fail
 refine (compare_n (x := cmpI (sg s1 m) 0) (y := cmpI (sg s2 n) 0)).mono ?_
 rintro e w3 ⟨rfl, k3⟩
 replace k3 := grow_step k3 k2
 clear k2
 have u1 := (x.below k3).c1
 have u3 := (x2.below k3).c1
 replace hm := hm.below k3
 replace hn := hn.below k3
 replace b0 : Below p w w3 := b0.trans (k3.mono hpb)
 have hc1 := cmpI_sg (sg s1 m)
 have hc2 := cmpI_sg (sg s2 n)
 generalize hv1 : cmpI (sg s1 m) 0 = v1 at *
 generalize hv2 : cmpI (sg s2 n) 0 = v2 at *
 replace hv1 := hide hv1
 replace hv2 := hide hv2
 by_cases he : v1 = v2
 ·have e0 : cmpI v1 v2 = 0 := cmpI_eq he
  rw [e0]
  by_cases hneg : v1 < 0
  ·go_wp2_with fail
   refine (cmp_n hn hm).mono ?_
   rintro e w4 ⟨rfl, k4⟩
   go_wp2
   go_ret
   exact ⟨ret_int (cmp_both_neg h0 h0' (unhide hv1) (he ▸ unhide hv2) hneg), hp.out.symm ▸ b0.trans (k4.mono (Nat.le_trans hpb k3.size))⟩
  ·go_wp2_with fail
   refine (cmp_n hm hn).mono ?_
   rintro e w4 ⟨rfl, k4⟩
   go_wp2
   go_ret
   exact ⟨ret_int (cmp_both_pos h0 h0' (unhide hv1) (he ▸ unhide hv2) (by omega)), hp.out.symm ▸ b0.trans (k4.mono (Nat.le_trans hpb k3.size))⟩
 ·have e1 : cmpI v1 v2 ≠ 0 := by unfold cmpI; split <;> (try split) <;> omega
  have e2 := hide (cmp_apart (unhide hv1) (unhide hv2) he)
  generalize cmpI v1 v2 = v3 at *
  go_wp2
  go_ret
  exact ⟨ret_int (unhide e2), hp.out.symm ▸ b0⟩

theorem wrap_neg {n : Int} (h0 : -9223372036854775808 ≤ n) (hn : n < 0) : IntKind.u64.wrap (wrap64 (-n)) = -n := by
 rw [IntKind.wrap_u64]
 unfold wrap64
 omega

set_option maxRecDepth 100000 in
set_option maxHeartbeats 1600000 in
theorem zof_n (n : Int) (h0 : -9223372036854775808 ≤ n) (h1 : n ≤ 9223372036854775807) (w : World) :
  Calls Tryz.prog 29 #[.int .i64 n] w fun e w' => ∃ s' ad len cap, e = .returned (.agg #[.bool s', .slice ad len cap]) ∧ Zn w' s' ad len cap n ∧ Below w.heap.size w w' ∧ len ≤ 2 := by
 go_enter Tryz.func29, Tryz.ntmps29
 by_cases hn : n < 0
 ·go_wp2_with fail
  have y := zb_new w false none 0 0
  have b0 := below_alloc w (.cells #[.bool false, .slice none 0 0] 24)
  rw [wrap_neg h0 hn]
  generalize w.alloc (.cells #[.bool false, .slice none 0 0] 24) = wb at *
  generalize hp : w.heap.size = r at *
  replace hp := hide hp
  refine (of_n (-n) (by omega) (by omega) wb).mono ?_
  rintro e w1 ⟨ad, len, cap, rfl, hc, k1, hl'⟩
  go_wp2_with fail
  refine (stand_n hc).mono ?_
  rintro e w' ⟨s', rfl, hz, hg⟩
  have y' : ZB w' r false none 0 0 := ZB.below y (by (repeat' (first | with_reducible exact Below.refl _ _ | with_reducible assumption | with_reducible refine grow_step (by with_reducible assumption) ?_ | with_reducible refine grow_drew ?_ | with_reducible refine grow_alloc ?_ _ | with_reducible refine grow_drewN ?_ _))); have y0 := y'.c0; have y1 := y'.c1; have y2 := y'.f 0; have y3 := y'.f 1
  have hB : Below r w w' := b0.trans ((grow_step hg k1).mono (Nat.le_of_lt y.lt))
  go_wp2
  refine bodyPost_ret (results_cell_row rfl _ _ r 24 _ (0, 0) _ rfl (zb_fin y' s' ad len cap) Tryz.underlying24 rfl (by kernel_rfl)) rfl ?_
  rw [show sg true (-n) = n from by simp [sg]] at hz
  exact ⟨s', ad, len, cap, by simp, zb_zn y' hz _ _ _ _, hp.out.symm ▸ (hB.setCell (Nat.le_refl _) _).setCell (Nat.le_refl _) _, hl'⟩
 ·go_wp2_with fail
  have y := zb_new w false none 0 0
  have b0 := below_alloc w (.cells #[.bool false, .slice none 0 0] 24)
  generalize w.alloc (.cells #[.bool false, .slice none 0 0] 24) = wb at *
  generalize hp : w.heap.size = r at *
  replace hp := hide hp
  refine (of_n n (by omega) (by omega) wb).mono ?_
  rintro e w1 ⟨ad, len, cap, rfl, hc, k1, hl'⟩
  go_wp2_with fail
  refine (stand_n hc).mono ?_
  rintro e w' ⟨s', rfl, hz, hg⟩
  have y' : ZB w' r false none 0 0 := ZB.below y (by (repeat' (first | with_reducible exact Below.refl _ _ | with_reducible assumption | with_reducible refine grow_step (by with_reducible assumption) ?_ | with_reducible refine grow_drew ?_ | with_reducible refine grow_alloc ?_ _ | with_reducible refine grow_drewN ?_ _))); have y0 := y'.c0; have y1 := y'.c1; have y2 := y'.f 0; have y3 := y'.f 1
  have hB : Below r w w' := b0.trans ((grow_step hg k1).mono (Nat.le_of_lt y.lt))
  go_wp2
  refine bodyPost_ret (results_cell_row rfl _ _ r 24 _ (0, 0) _ rfl (zb_fin y' s' ad len cap) Tryz.underlying24 rfl (by kernel_rfl)) rfl ?_
  rw [show sg false n = n from by simp [sg]] at hz
  exact ⟨s', ad, len, cap, by simp, zb_zn y' hz _ _ _ _, hp.out.symm ▸ (hB.setCell (Nat.le_refl _) _).setCell (Nat.le_refl _) _, hl'⟩

end Go.Proofs.YtjhhknfnaobmiaaGreatDoor
