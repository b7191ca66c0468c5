/-
 Several texts in one: ZF2, ZG, ZH.
-/
import Derived.Test.YtmlephkmbkiofaaGreatDoorR11
import Derived.Test.YtmlephkmbkiofaaGreatDoorR08
import Derived.Deep.QuietTactic
import Derived.BigQuiet
namespace Go.Proofs.YtmlephkmbkiofaaGreatDoor.Fresh
open Go.RowKit

theorem Zn.below {B : Nat} {w w' : World} {s : Bool} {ad : Option Addr} {len cap : Nat} {z : Int} (h : Zn B w s ad len cap z) (hb : Below w.heap.size w w') : Zn B w' s ad len cap z := by
 obtain ⟨n, h1, h2⟩ := h
 exact ⟨n, h1.below hb, h2⟩
theorem fr_lt {B : Nat} {w : World} {ad : Option Addr} {cap b : Nat} (h : Fr B w ad cap) (e : blk ad = some b) : b < w.heap.size := by
 rcases h with ⟨rfl, _⟩ | ⟨x, xs, rfl, _, h3, _⟩
 ·cases e
 ·cases e
  exact row_lt h3

set_option maxRecDepth 100000 in
set_option maxHeartbeats 1600000 in
theorem zdivmod_n {B : Nat} {s1 s2 : Bool} {a1 a2 : Option Addr} {l1 c1 l2 c2 : Nat} {z1 z2 : Int} {w : World} (h1 : Zm B w s1 a1 l1 c1 z1) (h2 : Zm B w s2 a2 l2 c2 z2) (hl1 : l1 ≤ 1099511627776) (hl2 : l2 ≤ 1099511627776) (hz : z2 ≠ 0) :
  Calls Tryz.prog 20 #[.agg #[.bool s1, .slice a1 l1 c1], .agg #[.bool s2, .slice a2 l2 c2]] w fun e w' => ∃ sq aq lq cq sr ar lr cr qv rv, e = .returned (.tuple #[.agg #[.bool sq, .slice aq lq cq], .agg #[.bool sr, .slice ar lr cr], .int .i64 0]) ∧ Zn B w' sq aq lq cq qv ∧ Zn B w' sr ar lr cr rv ∧ FD z1 z2 qv rv ∧ Below w.heap.size w w' ∧ lq ≤ l1 + 3 ∧ lr ≤ l2 ∧ (∀ b, blk ar = some b → blk aq ≠ some b) := by
 obtain ⟨m, hm, rfl⟩ := h1
 obtain ⟨n, hn, rfl⟩ := h2
 have hn0 : 0 < n := by
  have := hn.nonneg
  have : n ≠ 0 := fun h => hz (by cases s2 <;> simp [sg, h])
  omega
 go_enter Tryz.func20, Tryz.ntmps20
 go_wp2_with fail
 have x := (zb_new w s1 a1 l1 c1).below (below_alloc' (below_alloc' (below_alloc _ (.cells #[.bool s2, .slice a2 l2 c2] 26)) (.cells #[.bool false, .slice none 0 0] 26)) (.cells #[.bool false, .slice none 0 0] 26))
 have x2 := (zb_new (w.alloc (.cells #[.bool s1, .slice a1 l1 c1] 26)) s2 a2 l2 c2).below (below_alloc' (below_alloc _ (.cells #[.bool false, .slice none 0 0] 26)) (.cells #[.bool false, .slice none 0 0] 26))
 have y := (zb_new ((w.alloc (.cells #[.bool s1, .slice a1 l1 c1] 26)).alloc (.cells #[.bool s2, .slice a2 l2 c2] 26)) false none 0 0).below (below_alloc _ (.cells #[.bool false, .slice none 0 0] 26))
 have yt := zb_new (((w.alloc (.cells #[.bool s1, .slice a1 l1 c1] 26)).alloc (.cells #[.bool s2, .slice a2 l2 c2] 26)).alloc (.cells #[.bool false, .slice none 0 0] 26)) false none 0 0
 have b0 : Below w.heap.size w ((((w.alloc (.cells #[.bool s1, .slice a1 l1 c1] 26)).alloc (.cells #[.bool s2, .slice a2 l2 c2] 26)).alloc (.cells #[.bool false, .slice none 0 0] 26)).alloc (.cells #[.bool false, .slice none 0 0] 26)) := below_alloc' (below_alloc' (below_alloc' (below_alloc _ _) _) _) _
 rw [show (((w.alloc (.cells #[.bool s1, .slice a1 l1 c1] 26)).alloc (.cells #[.bool s2, .slice a2 l2 c2] 26)).alloc (.cells #[.bool false, .slice none 0 0] 26)).heap.size = w.heap.size + 3 from by simp] at yt
 rw [show ((w.alloc (.cells #[.bool s1, .slice a1 l1 c1] 26)).alloc (.cells #[.bool s2, .slice a2 l2 c2] 26)).heap.size = w.heap.size + 2 from by simp] at y
 rw [show (w.alloc (.cells #[.bool s1, .slice a1 l1 c1] 26)).heap.size = w.heap.size + 1 from by simp] at x2
 generalize (((w.alloc (.cells #[.bool s1, .slice a1 l1 c1] 26)).alloc (.cells #[.bool s2, .slice a2 l2 c2] 26)).alloc (.cells #[.bool false, .slice none 0 0] 26)).alloc (.cells #[.bool false, .slice none 0 0] 26) = wb at *
 have hpr : w.heap.size < w.heap.size + 2 := by omega
 have hqr : w.heap.size + 1 < w.heap.size + 2 := by omega
 have hrt : w.heap.size + 2 < w.heap.size + 3 := by omega
 replace hm := hm.below b0
 replace hn := hn.below b0
 generalize hp : w.heap.size = p at *
 replace hp := hide hp
 generalize p + 3 = t at *
 generalize p + 2 = r at *
 generalize p + 1 = q at *
 have hrb := Nat.le_of_lt y.lt
 refine (divmod_n hm hn hl1 hn0).mono ?_
 rintro e w1 ⟨aq, lq, cq, ar, lr, cr, rfl, hcq, hcr, k1, hlq, hlr, hap⟩
 have u0 := (x.below k1).c0
 have u2 := (x2.below k1).c0
 have hr0 := hcr.len
 have hrt' : r ≠ t := by omega
 by_cases hs : s1 = s2
 ·have hs' : (s1 == s2) = true := by simp [hs]
  have HFD : FD (sg s1 m) (sg s2 n) (sg false (m / n)) (sg s2 (m % n)) := by
   subst hs; exact fd_same hn0
  clear hs
  go_wp2_with fail
  go_region_held3 (fun w' => w'.cell? ⟨p, 0, none⟩ = some (.bool s1) ∧ w'.cell? ⟨p, 1, none⟩ = some (.slice a1 l1 c1) ∧ w'.cell? ⟨q, 0, none⟩ = some (.bool s2) ∧ w'.cell? ⟨q, 1, none⟩ = some (.slice a2 l2 c2) ∧ Below r wb w')
   ((refine zs2 x x2 hpr hqr ?_; first | (refine Below.mono ?_ hrb; focus ((repeat' (first | with_reducible exact Below.refl _ _ | with_reducible assumption | with_reducible refine grow_step (by with_reducible assumption) ?_ | with_reducible refine grow_drew ?_ | with_reducible refine grow_alloc ?_ _ | with_reducible refine grow_drewN ?_ _)); done)) | (refine ((Below.mono ?_ hrb).setCell (Nat.le_refl _) _).setCell (Nat.le_refl _) _; focus ((repeat' (first | with_reducible exact Below.refl _ _ | with_reducible assumption | with_reducible refine grow_step (by with_reducible assumption) ?_ | with_reducible refine grow_drew ?_ | with_reducible refine grow_alloc ?_ _ | with_reducible refine grow_drewN ?_ _)); done)) | (refine Below.setCell (Below.setCell (((Below.mono ?_ hrb).setCell (Nat.le_refl _) _).setCell (Nat.le_refl _) _) (Nat.le_of_lt hrt) _) (Nat.le_of_lt hrt) _; focus ((repeat' (first | with_reducible exact Below.refl _ _ | with_reducible assumption | with_reducible refine grow_step (by with_reducible assumption) ?_ | with_reducible refine grow_drew ?_ | with_reducible refine grow_alloc ?_ _ | with_reducible refine grow_drewN ?_ _)); done))))
   (first | (go_at_call 37; with_reducible refine (stand_n (Cn.below hcq (by (repeat' (first | with_reducible exact Below.refl _ _ | with_reducible assumption | with_reducible refine grow_step (by with_reducible assumption) ?_ | with_reducible refine grow_drew ?_ | with_reducible refine grow_alloc ?_ _ | with_reducible refine grow_drewN ?_ _))))).mono ?_; rintro e w' ⟨sq, rfl, hzq, hg⟩) | (go_at_call 37; with_reducible refine (stand_n (Cn.below hcr (by (repeat' (first | with_reducible exact Below.refl _ _ | with_reducible assumption | with_reducible refine grow_step (by with_reducible assumption) ?_ | with_reducible refine grow_drew ?_ | with_reducible refine grow_alloc ?_ _ | with_reducible refine grow_drewN ?_ _))))).mono ?_; rintro e w' ⟨sr, rfl, hzr, hg⟩; have y' : ZB w' r false none 0 0 := ZB.below y (by (repeat' (first | with_reducible exact Below.refl _ _ | with_reducible assumption | with_reducible refine grow_step (by with_reducible assumption) ?_ | with_reducible refine grow_drew ?_ | with_reducible refine grow_alloc ?_ _ | with_reducible refine grow_drewN ?_ _))); have y0 := y'.c0; have y1 := y'.c1; have y2 := y'.f 0; have y3 := y'.f 1; have yt' : ZB w' t false none 0 0 := ZB.below yt (by (repeat' (first | with_reducible exact Below.refl _ _ | with_reducible assumption | with_reducible refine grow_step (by with_reducible assumption) ?_ | with_reducible refine grow_drew ?_ | with_reducible refine grow_alloc ?_ _ | with_reducible refine grow_drewN ?_ _))); have t0 := yt'.c0; have t1 := yt'.c1; have t2 := yt'.f 0; have t3 := yt'.f 1; have hzq' := Zn.below hzq hg))
  go_wp2
  rename_i hH
  have y4 := zb_fin y' sq aq lq cq
  have t4 := zb_fin (yt'.only (only2 r w' (.bool sq) (.slice aq lq cq)) (Ne.symm hrt')) sr ar lr cr
  refine bodyPost_ret (results_c2t rfl _ _ r t 26 _ _ (0, 0) _ rfl rfl (y4.only (only2 t _ _ _) hrt') t4 Tryz.underlying26 rfl (by kernel_rfl) (by kernel_rfl)) rfl ?_
  have zq := zb_zn (yt'.only (only2 r w' (.bool sq) (.slice aq lq cq)) (Ne.symm hrt')) (zb_zn y' hzq' sq aq lq cq) sr ar lr cr
  have zr := zb_zn (yt'.only (only2 r w' (.bool sq) (.slice aq lq cq)) (Ne.symm hrt')) (zb_zn y' hzr sq aq lq cq) sr ar lr cr
  exact ⟨sq, aq, lq, cq, sr, ar, lr, cr, _, _, by simp, zq, zr, HFD, hp.out.symm ▸ (b0.trans (hH.2.2.2.2.mono (Nat.le_of_lt hpr))), by omega, by omega, hap⟩
 ·have hs' : (s1 == s2) = false := by simp [hs]
  by_cases hz0 : m % n = 0
  ·obtain rfl : lr = 0 := hr0.1 hz0
   have HFD : FD (sg s1 m) (sg s2 n) (sg true (m / n)) (sg s2 (m % n)) := by
    exact fd_zero hs hn0 hz0
   clear hs
   go_wp2_with fail
   go_region_held3 (fun w' => w'.cell? ⟨p, 0, none⟩ = some (.bool s1) ∧ w'.cell? ⟨p, 1, none⟩ = some (.slice a1 l1 c1) ∧ w'.cell? ⟨q, 0, none⟩ = some (.bool s2) ∧ w'.cell? ⟨q, 1, none⟩ = some (.slice a2 l2 c2) ∧ Below r wb w')
    ((refine zs2 x x2 hpr hqr ?_; first | (refine Below.mono ?_ hrb; focus ((repeat' (first | with_reducible exact Below.refl _ _ | with_reducible assumption | with_reducible refine grow_step (by with_reducible assumption) ?_ | with_reducible refine grow_drew ?_ | with_reducible refine grow_alloc ?_ _ | with_reducible refine grow_drewN ?_ _)); done)) | (refine ((Below.mono ?_ hrb).setCell (Nat.le_refl _) _).setCell (Nat.le_refl _) _; focus ((repeat' (first | with_reducible exact Below.refl _ _ | with_reducible assumption | with_reducible refine grow_step (by with_reducible assumption) ?_ | with_reducible refine grow_drew ?_ | with_reducible refine grow_alloc ?_ _ | with_reducible refine grow_drewN ?_ _)); done)) | (refine Below.setCell (Below.setCell (((Below.mono ?_ hrb).setCell (Nat.le_refl _) _).setCell (Nat.le_refl _) _) (Nat.le_of_lt hrt) _) (Nat.le_of_lt hrt) _; focus ((repeat' (first | with_reducible exact Below.refl _ _ | with_reducible assumption | with_reducible refine grow_step (by with_reducible assumption) ?_ | with_reducible refine grow_drew ?_ | with_reducible refine grow_alloc ?_ _ | with_reducible refine grow_drewN ?_ _)); done))))
    (first | (go_at_call 37; with_reducible refine (stand_n (Cn.below hcq (by (repeat' (first | with_reducible exact Below.refl _ _ | with_reducible assumption | with_reducible refine grow_step (by with_reducible assumption) ?_ | with_reducible refine grow_drew ?_ | with_reducible refine grow_alloc ?_ _ | with_reducible refine grow_drewN ?_ _))))).mono ?_; rintro e w' ⟨sq, rfl, hzq, hg⟩) | (go_at_call 37; with_reducible refine (stand_n (Cn.below hcr (by (repeat' (first | with_reducible exact Below.refl _ _ | with_reducible assumption | with_reducible refine grow_step (by with_reducible assumption) ?_ | with_reducible refine grow_drew ?_ | with_reducible refine grow_alloc ?_ _ | with_reducible refine grow_drewN ?_ _))))).mono ?_; rintro e w' ⟨sr, rfl, hzr, hg⟩; have y' : ZB w' r false none 0 0 := ZB.below y (by (repeat' (first | with_reducible exact Below.refl _ _ | with_reducible assumption | with_reducible refine grow_step (by with_reducible assumption) ?_ | with_reducible refine grow_drew ?_ | with_reducible refine grow_alloc ?_ _ | with_reducible refine grow_drewN ?_ _))); have y0 := y'.c0; have y1 := y'.c1; have y2 := y'.f 0; have y3 := y'.f 1; have yt' : ZB w' t false none 0 0 := ZB.below yt (by (repeat' (first | with_reducible exact Below.refl _ _ | with_reducible assumption | with_reducible refine grow_step (by with_reducible assumption) ?_ | with_reducible refine grow_drew ?_ | with_reducible refine grow_alloc ?_ _ | with_reducible refine grow_drewN ?_ _))); have t0 := yt'.c0; have t1 := yt'.c1; have t2 := yt'.f 0; have t3 := yt'.f 1; have hzq' := Zn.below hzq hg))
   go_wp2
   rename_i hH
   have y4 := zb_fin y' sq aq lq cq
   have t4 := zb_fin (yt'.only (only2 r w' (.bool sq) (.slice aq lq cq)) (Ne.symm hrt')) sr ar 0 cr
   refine bodyPost_ret (results_c2t rfl _ _ r t 26 _ _ (0, 0) _ rfl rfl (y4.only (only2 t _ _ _) hrt') t4 Tryz.underlying26 rfl (by kernel_rfl) (by kernel_rfl)) rfl ?_
   have zq := zb_zn (yt'.only (only2 r w' (.bool sq) (.slice aq lq cq)) (Ne.symm hrt')) (zb_zn y' hzq' sq aq lq cq) sr ar 0 cr
   have zr := zb_zn (yt'.only (only2 r w' (.bool sq) (.slice aq lq cq)) (Ne.symm hrt')) (zb_zn y' hzr sq aq lq cq) sr ar 0 cr
   exact ⟨sq, aq, lq, cq, sr, ar, 0, cr, _, _, by simp, zq, zr, HFD, hp.out.symm ▸ (b0.trans (hH.2.2.2.2.mono (Nat.le_of_lt hpr))), by omega, by omega, hap⟩
  ·have hlr0 : 0 < lr := Nat.pos_of_ne_zero (fun h => hz0 (hr0.2 h))
   have HFD : FD (sg s1 m) (sg s2 n) (sg true (m / n + 1)) (sg s2 (n - m % n)) := by
    exact fd_up hs hn0 hz0
   clear hs
   go_wp2_with fail
   refine (of_n 1 (by decide) (by decide) w1 hcq.2.1).mono ?_
   rintro e w2 ⟨ao, lo, co, rfl, hco, k2, hlo⟩
   go_wp2_with fail
   refine (add_n (hcq.below k2).nm hco.nm (by omega) (by omega)).mono ?_
   rintro e w3 ⟨aq', lq', cq', rfl, hcq', k3, hlq'⟩
   have k4 := grow_step k3 (grow_step k2 k1)
   have u3 := (x2.below k4).c1
   clear u0 u2
   go_wp2_with fail
   refine (sub_new (hn.below k4) (hcr.below (grow_step k3 k2)).nm hl2 (by have := Int.emod_lt_of_pos m hn0; omega)).mono ?_
   rintro e w4 ⟨ar', lr', cr', rfl, hcr', k5, hlr', hnew⟩
   have hap' : ∀ b, blk ar' = some b → blk aq' ≠ some b := fun b hb e => absurd (fr_lt hcq'.2.2 e) (by have := hnew b hb; omega)
   replace hcq' := hcq'.below k5
   replace k5 := grow_step k5 k4
   replace hr0 := hcr'.len
   clear hcq hcr k1 k2 k3 k4 hco u3
   go_wp2_with fail
   go_region_held3 (fun w' => w'.cell? ⟨p, 0, none⟩ = some (.bool s1) ∧ w'.cell? ⟨p, 1, none⟩ = some (.slice a1 l1 c1) ∧ w'.cell? ⟨q, 0, none⟩ = some (.bool s2) ∧ w'.cell? ⟨q, 1, none⟩ = some (.slice a2 l2 c2) ∧ Below r wb w')
    ((refine zs2 x x2 hpr hqr ?_; first | (refine Below.mono ?_ hrb; focus ((repeat' (first | with_reducible exact Below.refl _ _ | with_reducible assumption | with_reducible refine grow_step (by with_reducible assumption) ?_ | with_reducible refine grow_drew ?_ | with_reducible refine grow_alloc ?_ _ | with_reducible refine grow_drewN ?_ _)); done)) | (refine ((Below.mono ?_ hrb).setCell (Nat.le_refl _) _).setCell (Nat.le_refl _) _; focus ((repeat' (first | with_reducible exact Below.refl _ _ | with_reducible assumption | with_reducible refine grow_step (by with_reducible assumption) ?_ | with_reducible refine grow_drew ?_ | with_reducible refine grow_alloc ?_ _ | with_reducible refine grow_drewN ?_ _)); done)) | (refine Below.setCell (Below.setCell (((Below.mono ?_ hrb).setCell (Nat.le_refl _) _).setCell (Nat.le_refl _) _) (Nat.le_of_lt hrt) _) (Nat.le_of_lt hrt) _; focus ((repeat' (first | with_reducible exact Below.refl _ _ | with_reducible assumption | with_reducible refine grow_step (by with_reducible assumption) ?_ | with_reducible refine grow_drew ?_ | with_reducible refine grow_alloc ?_ _ | with_reducible refine grow_drewN ?_ _)); done))))
    (first | (go_at_call 37; with_reducible refine (stand_n (Cn.below hcq' (by (repeat' (first | with_reducible exact Below.refl _ _ | with_reducible assumption | with_reducible refine grow_step (by with_reducible assumption) ?_ | with_reducible refine grow_drew ?_ | with_reducible refine grow_alloc ?_ _ | with_reducible refine grow_drewN ?_ _))))).mono ?_; rintro e w' ⟨sq, rfl, hzq, hg⟩) | (go_at_call 37; with_reducible refine (stand_n (Cn.below hcr' (by (repeat' (first | with_reducible exact Below.refl _ _ | with_reducible assumption | with_reducible refine grow_step (by with_reducible assumption) ?_ | with_reducible refine grow_drew ?_ | with_reducible refine grow_alloc ?_ _ | with_reducible refine grow_drewN ?_ _))))).mono ?_; rintro e w' ⟨sr, rfl, hzr, hg⟩; have y' : ZB w' r false none 0 0 := ZB.below y (by (repeat' (first | with_reducible exact Below.refl _ _ | with_reducible assumption | with_reducible refine grow_step (by with_reducible assumption) ?_ | with_reducible refine grow_drew ?_ | with_reducible refine grow_alloc ?_ _ | with_reducible refine grow_drewN ?_ _))); have y0 := y'.c0; have y1 := y'.c1; have y2 := y'.f 0; have y3 := y'.f 1; have yt' : ZB w' t false none 0 0 := ZB.below yt (by (repeat' (first | with_reducible exact Below.refl _ _ | with_reducible assumption | with_reducible refine grow_step (by with_reducible assumption) ?_ | with_reducible refine grow_drew ?_ | with_reducible refine grow_alloc ?_ _ | with_reducible refine grow_drewN ?_ _))); have t0 := yt'.c0; have t1 := yt'.c1; have t2 := yt'.f 0; have t3 := yt'.f 1; have hzq' := Zn.below hzq hg))
   go_wp2
   rename_i hH
   have y4 := zb_fin y' sq aq' lq' cq'
   have t4 := zb_fin (yt'.only (only2 r w' (.bool sq) (.slice aq' lq' cq')) (Ne.symm hrt')) sr ar' lr' cr'
   refine bodyPost_ret (results_c2t rfl _ _ r t 26 _ _ (0, 0) _ rfl rfl (y4.only (only2 t _ _ _) hrt') t4 Tryz.underlying26 rfl (by kernel_rfl) (by kernel_rfl)) rfl ?_
   have zq := zb_zn (yt'.only (only2 r w' (.bool sq) (.slice aq' lq' cq')) (Ne.symm hrt')) (zb_zn y' hzq' sq aq' lq' cq') sr ar' lr' cr'
   have zr := zb_zn (yt'.only (only2 r w' (.bool sq) (.slice aq' lq' cq')) (Ne.symm hrt')) (zb_zn y' hzr sq aq' lq' cq') sr ar' lr' cr'
   exact ⟨sq, aq', lq', cq', sr, ar', lr', cr', _, _, by simp, zq, zr, HFD, hp.out.symm ▸ (b0.trans (hH.2.2.2.2.mono (Nat.le_of_lt hpr))), by omega, by omega, hap'⟩
/-- the numbers of a list: n of them, each a sign, a slice that says a magnitude -/
structure ZL (B : Nat) (w : World) (b off n : Nat) (S : Nat → Bool) (A : Nat → Option Addr) (L C : Nat → Nat) (M : Nat → Int) : Prop where
 lt : b < w.heap.size
 c0 : ∀ i, i < n → w.cell? ⟨b, off + i * 2, none⟩ = some (.bool (S i))
 c1 : ∀ i, i < n → w.cell? ⟨b, off + i * 2 + 1, none⟩ = some (.slice (A i) (L i) (C i))
 nm : ∀ i, i < n → Nm B w (A i) (L i) (C i) (M i)
 le : ∀ i, i < n → L i ≤ 4294967296
theorem ZL.below {B : Nat} {w w' : World} {b off n : Nat} {S : Nat → Bool} {A : Nat → Option Addr} {L C : Nat → Nat} {M : Nat → Int} (h : ZL B w b off n S A L C M) (hb : Below w.heap.size w w') : ZL B w' b off n S A L C M :=
 ⟨Nat.lt_of_lt_of_le h.lt hb.size, fun i hi => (hb.cell (p := ⟨b, off + i * 2, none⟩) h.lt).trans (h.c0 i hi), fun i hi => (hb.cell (p := ⟨b, off + i * 2 + 1, none⟩) h.lt).trans (h.c1 i hi), fun i hi => (h.nm i hi).below hb, h.le⟩
set_option maxRecDepth 100000 in
set_option maxHeartbeats 1600000 in
theorem fold1_Gcd {B : Nat} {w : World} {b off n cap pN pJ : Nat} {S : Nat → Bool} {A : Nat → Option Addr} {L C : Nat → Nat} {M : Nat → Int} {a0 : Option Addr} {l0 c0 : Nat} {g : Int}
  (hl : ZL B w b off n S A L C M) (hb : foldL l0 L n ≤ 1099511627776) (h0 : Cn B w a0 l0 c0 g)
  (hN : w.heap[pN]? = some (.cells #[.slice a0 l0 c0] 24 (0, 0))) (hj : w.cell? ⟨pJ, 0, none⟩ = some (.func (.func 29) #[] #[])) (hjl : pJ < w.heap.size) (hn : n ≤ 1099511627776) :
  Calls Tryz.prog 49 #[.slice (some ⟨b, off, none⟩) n cap, .pointer (some ⟨pN, 0, none⟩), .pointer (some ⟨pJ, 0, none⟩)] w fun e w' => ∃ s' ad len cap, e = .returned (.agg #[.bool s', .slice ad len cap]) ∧ Zn B w' s' ad len cap (fold gcdI g M n) ∧ Below w.heap.size w w' ∧ len ≤ foldL l0 L n := by
 have hNc : w.cell? ⟨pN, 0, none⟩ = some (.slice a0 l0 c0) := cell_of_row w pN 0 _ _ (0, 0) hN
 have hNl : pN < w.heap.size := World.block_lt_of_cell? w ⟨pN, 0, none⟩ hNc
 go_enter Tryz.func49, Tryz.ntmps49
 go_wp2_with fail
 have y := zb_new w false none 0 0
 have b0 := below_alloc w (.cells #[.bool false, .slice none 0 0] 26)
 replace hl := hl.below b0
 replace h0 := h0.below b0
 replace hj := (b0.cell (p := ⟨pJ, 0, none⟩) hjl).trans hj
 clear hNc hNl hN
 replace hjl : pJ < (w.alloc (.cells #[.bool false, .slice none 0 0] 26)).heap.size := Nat.lt_of_lt_of_le hjl b0.size
 generalize w.alloc (.cells #[.bool false, .slice none 0 0] 26) = wb at *
 generalize hp : w.heap.size = r at *
 replace hp := hide hp
 have hmono : ∀ k, k < n → foldL l0 L k + L k ≤ foldL l0 L n := by
  intro k hk
  have key : ∀ d, foldL l0 L (k + 1) ≤ foldL l0 L (k + 1 + d) := by
   intro d
   induction d with
   | zero => exact Nat.le_refl _
   | succ d ih => exact Nat.le_trans ih (Nat.le_add_right _ _)
  have := key (n - (k + 1))
  rw [show k + 1 + (n - (k + 1)) = n from by omega] at this
  exact this
 replace hmono := hide hmono
 go_loopw [5, 11] (fun t i wr => ∃ (k : Nat) (at' : Option Addr) (lt ct : Nat), k ≤ n ∧ i = .int .i64 k ∧ t = .slice at' lt ct ∧ Cn B wr at' lt ct (fold gcdI g M k) ∧ lt ≤ foldL l0 L k ∧ Below wb.heap.size wb wr) (fun _ i _ => n - (intOf i).toNat)
 case atStart => exact ⟨0, a0, l0, c0, Nat.zero_le _, rfl, rfl, h0, Nat.le_refl _, Below.refl _ _⟩
 case round =>
  obtain ⟨k, at', lt, ct, hk, rfl, rfl, hct, hlt, kr⟩ := hrel
  by_cases hkN : k < n
  ·have q := hl.below kr
   have e0 := q.c0 k hkN
   have e1 := q.c1 k hkN
   have ej := (kr.cell (p := ⟨pJ, 0, none⟩) hjl).trans hj
   have hnm := q.nm k hkN
   have hle := hl.le k hkN
   have hmk := unhide hmono k hkN
   have hlb := q.lt
   have hjr : pJ < wr.heap.size := Nat.lt_of_lt_of_le hjl kr.size
   have ka := below_alloc wr (.cells #[.bool (S k), .slice (A k) (L k) (C k)] 26)
   go_wp2_with fail
   refine (gcd_n (hct.below ka).nm (hnm.below ka) (by omega) (by omega)).mono ?_
   rintro e w2 ⟨ad, len, cap', rfl, hc2, k2, hl2⟩
   go_wp2_with fail
   exact ⟨⟨k + 1, ad, len, cap', by omega, by go_num, rfl, hc2, by show len ≤ foldL l0 L k + L k; omega, grow_step k2 (grow_step ka kr)⟩, by simp [intOf]; omega⟩
  ·obtain rfl : k = n := by omega
   go_wp2_with fail
   refine (stand_n hct).mono ?_
   rintro e w' ⟨s', rfl, hz, hg⟩
   have y' : ZB w' r false none 0 0 := ZB.below y (grow_step hg kr)
   have y0 := y'.c0
   have y1 := y'.c1
   have y2 := y'.f 0
   have y3 := y'.f 1
   have hB : Below r w w' := b0.trans ((grow_step hg kr).mono (Nat.le_of_lt y.lt))
   go_wp2
   refine bodyPost_ret (results_cell_row rfl _ _ r 26 _ (0, 0) _ rfl (zb_fin y' s' at' lt ct) Tryz.underlying26 rfl (by kernel_rfl)) rfl ?_
   exact ⟨s', at', lt, ct, by simp, zb_zn y' hz _ _ _ _, hp.out.symm ▸ (hB.setCell (Nat.le_refl _) _).setCell (Nat.le_refl _) _, hlt⟩
set_option maxRecDepth 100000 in
set_option maxHeartbeats 1600000 in
theorem fold1_Lcm {B : Nat} {w : World} {b off n cap pN pJ : Nat} {S : Nat → Bool} {A : Nat → Option Addr} {L C : Nat → Nat} {M : Nat → Int} {a0 : Option Addr} {l0 c0 : Nat} {g : Int}
  (hl : ZL B w b off n S A L C M) (hb : foldL l0 L n ≤ 1099511627776) (h0 : Cn B w a0 l0 c0 g)
  (hN : w.heap[pN]? = some (.cells #[.slice a0 l0 c0] 24 (0, 0))) (hj : w.cell? ⟨pJ, 0, none⟩ = some (.func (.func 30) #[] #[])) (hjl : pJ < w.heap.size) (hn : n ≤ 1099511627776) :
  Calls Tryz.prog 49 #[.slice (some ⟨b, off, none⟩) n cap, .pointer (some ⟨pN, 0, none⟩), .pointer (some ⟨pJ, 0, none⟩)] w fun e w' => ∃ s' ad len cap, e = .returned (.agg #[.bool s', .slice ad len cap]) ∧ Zn B w' s' ad len cap (fold lcmI g M n) ∧ Below w.heap.size w w' ∧ len ≤ foldL l0 L n := by
 have hNc : w.cell? ⟨pN, 0, none⟩ = some (.slice a0 l0 c0) := cell_of_row w pN 0 _ _ (0, 0) hN
 have hNl : pN < w.heap.size := World.block_lt_of_cell? w ⟨pN, 0, none⟩ hNc
 go_enter Tryz.func49, Tryz.ntmps49
 go_wp2_with fail
 have y := zb_new w false none 0 0
 have b0 := below_alloc w (.cells #[.bool false, .slice none 0 0] 26)
 replace hl := hl.below b0
 replace h0 := h0.below b0
 replace hj := (b0.cell (p := ⟨pJ, 0, none⟩) hjl).trans hj
 clear hNc hNl hN
 replace hjl : pJ < (w.alloc (.cells #[.bool false, .slice none 0 0] 26)).heap.size := Nat.lt_of_lt_of_le hjl b0.size
 generalize w.alloc (.cells #[.bool false, .slice none 0 0] 26) = wb at *
 generalize hp : w.heap.size = r at *
 replace hp := hide hp
 have hmono : ∀ k, k < n → foldL l0 L k + L k ≤ foldL l0 L n := by
  intro k hk
  have key : ∀ d, foldL l0 L (k + 1) ≤ foldL l0 L (k + 1 + d) := by
   intro d
   induction d with
   | zero => exact Nat.le_refl _
   | succ d ih => exact Nat.le_trans ih (Nat.le_add_right _ _)
  have := key (n - (k + 1))
  rw [show k + 1 + (n - (k + 1)) = n from by omega] at this
  exact this
 replace hmono := hide hmono
 go_loopw [5, 11] (fun t i wr => ∃ (k : Nat) (at' : Option Addr) (lt ct : Nat), k ≤ n ∧ i = .int .i64 k ∧ t = .slice at' lt ct ∧ Cn B wr at' lt ct (fold lcmI g M k) ∧ lt ≤ foldL l0 L k ∧ Below wb.heap.size wb wr) (fun _ i _ => n - (intOf i).toNat)
 case atStart => exact ⟨0, a0, l0, c0, Nat.zero_le _, rfl, rfl, h0, Nat.le_refl _, Below.refl _ _⟩
 case round =>
  obtain ⟨k, at', lt, ct, hk, rfl, rfl, hct, hlt, kr⟩ := hrel
  by_cases hkN : k < n
  ·have q := hl.below kr
   have e0 := q.c0 k hkN
   have e1 := q.c1 k hkN
   have ej := (kr.cell (p := ⟨pJ, 0, none⟩) hjl).trans hj
   have hnm := q.nm k hkN
   have hle := hl.le k hkN
   have hmk := unhide hmono k hkN
   have hlb := q.lt
   have hjr : pJ < wr.heap.size := Nat.lt_of_lt_of_le hjl kr.size
   have ka := below_alloc wr (.cells #[.bool (S k), .slice (A k) (L k) (C k)] 26)
   go_wp2_with fail
   refine (lcm_n (hct.below ka).nm (hnm.below ka) (by omega) (by omega)).mono ?_
   rintro e w2 ⟨ad, len, cap', rfl, hc2, k2, hl2⟩
   go_wp2_with fail
   exact ⟨⟨k + 1, ad, len, cap', by omega, by go_num, rfl, hc2, by show len ≤ foldL l0 L k + L k; omega, grow_step k2 (grow_step ka kr)⟩, by simp [intOf]; omega⟩
  ·obtain rfl : k = n := by omega
   go_wp2_with fail
   refine (stand_n hct).mono ?_
   rintro e w' ⟨s', rfl, hz, hg⟩
   have y' : ZB w' r false none 0 0 := ZB.below y (grow_step hg kr)
   have y0 := y'.c0
   have y1 := y'.c1
   have y2 := y'.f 0
   have y3 := y'.f 1
   have hB : Below r w w' := b0.trans ((grow_step hg kr).mono (Nat.le_of_lt y.lt))
   go_wp2
   refine bodyPost_ret (results_cell_row rfl _ _ r 26 _ (0, 0) _ rfl (zb_fin y' s' at' lt ct) Tryz.underlying26 rfl (by kernel_rfl)) rfl ?_
   exact ⟨s', at', lt, ct, by simp, zb_zn y' hz _ _ _ _, hp.out.symm ▸ (hB.setCell (Nat.le_refl _) _).setCell (Nat.le_refl _) _, hlt⟩
set_option maxRecDepth 100000 in
set_option maxHeartbeats 1600000 in
theorem zgcd_any {B : Nat} {w : World} {b off n cap : Nat} {S : Nat → Bool} {A : Nat → Option Addr} {L C : Nat → Nat} {M : Nat → Int} (hl : ZL B w b off n S A L C M) (hb : foldL 2 L n ≤ 1099511627776) (hn : n ≤ 1099511627776) (hB0 : B ≤ w.heap.size) :
  Calls Tryz.prog 7 #[.slice (some ⟨b, off, none⟩) n cap] w fun e w' => ∃ s' ad len cap, e = .returned (.agg #[.bool s', .slice ad len cap]) ∧ Zn B w' s' ad len cap (fold gcdI 0 M n) ∧ Below w.heap.size w w' ∧ len ≤ foldL 2 L n := by
 go_enter Tryz.func7, Tryz.ntmps7
 go_wp2_with fail
 have y := zb_new w false none 0 0
 have b0 := below_alloc w (.cells #[.bool false, .slice none 0 0] 26)
 replace hl := hl.below b0
 generalize w.alloc (.cells #[.bool false, .slice none 0 0] 26) = wb at *
 generalize hp : w.heap.size = r at *
 replace hp := hide hp
 refine (of_n 0 (by decide) (by decide) _ (Nat.le_of_lt (Nat.lt_of_le_of_lt hB0 y.lt))).mono ?_
 rintro e w1 ⟨a0, l0, c0, rfl, hc, k1, hl0⟩
 go_wp2_with fail
 refine (folded_Gcd (ad := a0) (len := l0) (cap := c0)).mono ?_
 rintro e w2 ⟨pN, pJ, rfl, hN, hj, hjl, k2⟩
 go_wp2_with fail
 have hm : foldL l0 L n ≤ foldL 2 L n := foldL_mono hl0 L n
 refine (fold1_Gcd (hl.below (grow_step k2 k1)) (by omega) (hc.below k2) hN hj hjl hn).mono ?_
 rintro e w' ⟨s', ad, len, cap', rfl, hz, hg, hl'⟩
 have y' : ZB w' r false none 0 0 := ZB.below y (grow_step hg (grow_step k2 k1))
 have y0 := y'.c0
 have y1 := y'.c1
 have y2 := y'.f 0
 have y3 := y'.f 1
 have hB : Below r w w' := b0.trans ((grow_step hg (grow_step k2 k1)).mono (Nat.le_of_lt y.lt))
 go_wp2
 refine bodyPost_ret (results_cell_row rfl _ _ r 26 _ (0, 0) _ rfl (zb_fin y' s' ad len cap') Tryz.underlying26 rfl (by kernel_rfl)) rfl ?_
 exact ⟨s', ad, len, cap', by simp, zb_zn y' hz _ _ _ _, hp.out.symm ▸ (hB.setCell (Nat.le_refl _) _).setCell (Nat.le_refl _) _, by omega⟩
set_option maxRecDepth 100000 in
set_option maxHeartbeats 1600000 in
theorem zlcm_any {B : Nat} {w : World} {b off n cap : Nat} {S : Nat → Bool} {A : Nat → Option Addr} {L C : Nat → Nat} {M : Nat → Int} (hl : ZL B w b off n S A L C M) (hb : foldL 2 L n ≤ 1099511627776) (hn : n ≤ 1099511627776) (hB0 : B ≤ w.heap.size) :
  Calls Tryz.prog 8 #[.slice (some ⟨b, off, none⟩) n cap] w fun e w' => ∃ s' ad len cap, e = .returned (.agg #[.bool s', .slice ad len cap]) ∧ Zn B w' s' ad len cap (fold lcmI 1 M n) ∧ Below w.heap.size w w' ∧ len ≤ foldL 2 L n := by
 go_enter Tryz.func8, Tryz.ntmps8
 go_wp2_with fail
 have y := zb_new w false none 0 0
 have b0 := below_alloc w (.cells #[.bool false, .slice none 0 0] 26)
 replace hl := hl.below b0
 generalize w.alloc (.cells #[.bool false, .slice none 0 0] 26) = wb at *
 generalize hp : w.heap.size = r at *
 replace hp := hide hp
 refine (of_n 1 (by decide) (by decide) _ (Nat.le_of_lt (Nat.lt_of_le_of_lt hB0 y.lt))).mono ?_
 rintro e w1 ⟨a0, l0, c0, rfl, hc, k1, hl0⟩
 go_wp2_with fail
 refine (folded_Lcm (ad := a0) (len := l0) (cap := c0)).mono ?_
 rintro e w2 ⟨pN, pJ, rfl, hN, hj, hjl, k2⟩
 go_wp2_with fail
 have hm : foldL l0 L n ≤ foldL 2 L n := foldL_mono hl0 L n
 refine (fold1_Lcm (hl.below (grow_step k2 k1)) (by omega) (hc.below k2) hN hj hjl hn).mono ?_
 rintro e w' ⟨s', ad, len, cap', rfl, hz, hg, hl'⟩
 have y' : ZB w' r false none 0 0 := ZB.below y (grow_step hg (grow_step k2 k1))
 have y0 := y'.c0
 have y1 := y'.c1
 have y2 := y'.f 0
 have y3 := y'.f 1
 have hB : Below r w w' := b0.trans ((grow_step hg (grow_step k2 k1)).mono (Nat.le_of_lt y.lt))
 go_wp2
 refine bodyPost_ret (results_cell_row rfl _ _ r 26 _ (0, 0) _ rfl (zb_fin y' s' ad len cap') Tryz.underlying26 rfl (by kernel_rfl)) rfl ?_
 exact ⟨s', ad, len, cap', by simp, zb_zn y' hz _ _ _ _, hp.out.symm ▸ (hB.setCell (Nat.le_refl _) _).setCell (Nat.le_refl _) _, by omega⟩
/-- the list of two numbers, as a call gets it -/
theorem zl_two {B : Nat} {w : World} {s1 s2 : Bool} {a1 a2 : Option Addr} {l1 c1 l2 c2 : Nat} {m n : Int} (hm : Nm B w a1 l1 c1 m) (hn : Nm B w a2 l2 c2 n) (h1 : l1 ≤ 4294967296) (h2 : l2 ≤ 4294967296) :
  ZL B (w.alloc (.cells #[.bool s1, .slice a1 l1 c1, .bool s2, .slice a2 l2 c2] 26)) w.heap.size 0 2 (fun i => if i = 0 then s1 else s2) (fun i => if i = 0 then a1 else a2) (fun i => if i = 0 then l1 else l2) (fun i => if i = 0 then c1 else c2) (fun i => if i = 0 then m else n) := by
 have hg := heap_alloc_new w (.cells #[.bool s1, .slice a1 l1 c1, .bool s2, .slice a2 l2 c2] 26)
 have two : ∀ {p : Nat → Prop}, p 0 → p 1 → ∀ i, i < 2 → p i := by
  intro p h0 h1 i hi
  match i, hi with
  | 0, _ => exact h0
  | 1, _ => exact h1
 refine ⟨by simp, two ?_ ?_, two ?_ ?_, two ?_ ?_, two ?_ ?_⟩
 ·exact cell_of_row _ w.heap.size 0 _ _ (0, 0) hg
 ·exact cell_of_row _ w.heap.size 2 _ _ (0, 0) hg
 ·exact cell_of_row _ w.heap.size 1 _ _ (0, 0) hg
 ·exact cell_of_row _ w.heap.size 3 _ _ (0, 0) hg
 ·exact hm.below (below_alloc _ _)
 ·exact hn.below (below_alloc _ _)
 ·exact h1
 ·exact h2
theorem zl_one {B : Nat} {w : World} {s1 : Bool} {a1 : Option Addr} {l1 c1 : Nat} {m : Int} (hm : Nm B w a1 l1 c1 m) (h1 : l1 ≤ 4294967296) :
  ZL B (w.alloc (.cells #[.bool s1, .slice a1 l1 c1] 26)) w.heap.size 0 1 (fun _ => s1) (fun _ => a1) (fun _ => l1) (fun _ => c1) (fun _ => m) := by
 have hg := heap_alloc_new w (.cells #[.bool s1, .slice a1 l1 c1] 26)
 refine ⟨by simp, fun i hi => ?_, fun i hi => ?_, fun i hi => hm.below (below_alloc _ _), fun i hi => h1⟩
 ·obtain rfl : i = 0 := by omega
  exact cell_of_row _ w.heap.size 0 _ _ (0, 0) hg
 ·obtain rfl : i = 0 := by omega
  exact cell_of_row _ w.heap.size 1 _ _ (0, 0) hg
/-- of one: whatever it is, it is new -/
theorem zgcd1 {B : Nat} {s1 : Bool} {a1 : Option Addr} {l1 c1 : Nat} {z1 : Int} {w : World} (h1 : Zm B w s1 a1 l1 c1 z1) (hl1 : l1 ≤ 4294967296) :
  Calls Tryz.prog 7 #[.slice (some ⟨w.heap.size, 0, none⟩) 1 1] (w.alloc (.cells #[.bool s1, .slice a1 l1 c1] 26)) fun e w' => ∃ s' ad len cap z, e = .returned (.agg #[.bool s', .slice ad len cap]) ∧ Zn B w' s' ad len cap z ∧ Below w.heap.size w w' := by
 obtain ⟨m, hm, rfl⟩ := h1
 refine (zgcd_any (zl_one hm hl1) (by simp [foldL]; omega) (by decide) (Nat.le_trans hm.2 (below_alloc w _).size)).mono ?_
 rintro e w' ⟨s', ad, len, cap, rfl, hz, hb, _⟩
 exact ⟨s', ad, len, cap, _, rfl, hz, (below_alloc _ _).trans (hb.mono (below_alloc _ _).size)⟩
/-- of two: whatever it is, it is new -/
theorem zgcd2 {B : Nat} {s1 s2 : Bool} {a1 a2 : Option Addr} {l1 c1 l2 c2 : Nat} {z1 z2 : Int} {w : World} (h1 : Zm B w s1 a1 l1 c1 z1) (h2 : Zm B w s2 a2 l2 c2 z2) (hl1 : l1 ≤ 4294967296) (hl2 : l2 ≤ 4294967296) :
  Calls Tryz.prog 7 #[.slice (some ⟨w.heap.size, 0, none⟩) 2 2] (w.alloc (.cells #[.bool s1, .slice a1 l1 c1, .bool s2, .slice a2 l2 c2] 26)) fun e w' => ∃ s' ad len cap z, e = .returned (.agg #[.bool s', .slice ad len cap]) ∧ Zn B w' s' ad len cap z ∧ Below w.heap.size w w' := by
 obtain ⟨m, hm, rfl⟩ := h1
 obtain ⟨n, hn, rfl⟩ := h2
 refine (zgcd_any (zl_two hm hn hl1 hl2) (by simp [foldL]; omega) (by decide) (Nat.le_trans hm.2 (below_alloc w _).size)).mono ?_
 rintro e w' ⟨s', ad, len, cap, rfl, hz, hb, _⟩
 exact ⟨s', ad, len, cap, _, rfl, hz, (below_alloc _ _).trans (hb.mono (below_alloc _ _).size)⟩
/-- of one: whatever it is, it is new -/
theorem zlcm1 {B : Nat} {s1 : Bool} {a1 : Option Addr} {l1 c1 : Nat} {z1 : Int} {w : World} (h1 : Zm B w s1 a1 l1 c1 z1) (hl1 : l1 ≤ 4294967296) :
  Calls Tryz.prog 8 #[.slice (some ⟨w.heap.size, 0, none⟩) 1 1] (w.alloc (.cells #[.bool s1, .slice a1 l1 c1] 26)) fun e w' => ∃ s' ad len cap z, e = .returned (.agg #[.bool s', .slice ad len cap]) ∧ Zn B w' s' ad len cap z ∧ Below w.heap.size w w' := by
 obtain ⟨m, hm, rfl⟩ := h1
 refine (zlcm_any (zl_one hm hl1) (by simp [foldL]; omega) (by decide) (Nat.le_trans hm.2 (below_alloc w _).size)).mono ?_
 rintro e w' ⟨s', ad, len, cap, rfl, hz, hb, _⟩
 exact ⟨s', ad, len, cap, _, rfl, hz, (below_alloc _ _).trans (hb.mono (below_alloc _ _).size)⟩
/-- of two: whatever it is, it is new -/
theorem zlcm2 {B : Nat} {s1 s2 : Bool} {a1 a2 : Option Addr} {l1 c1 l2 c2 : Nat} {z1 z2 : Int} {w : World} (h1 : Zm B w s1 a1 l1 c1 z1) (h2 : Zm B w s2 a2 l2 c2 z2) (hl1 : l1 ≤ 4294967296) (hl2 : l2 ≤ 4294967296) :
  Calls Tryz.prog 8 #[.slice (some ⟨w.heap.size, 0, none⟩) 2 2] (w.alloc (.cells #[.bool s1, .slice a1 l1 c1, .bool s2, .slice a2 l2 c2] 26)) fun e w' => ∃ s' ad len cap z, e = .returned (.agg #[.bool s', .slice ad len cap]) ∧ Zn B w' s' ad len cap z ∧ Below w.heap.size w w' := by
 obtain ⟨m, hm, rfl⟩ := h1
 obtain ⟨n, hn, rfl⟩ := h2
 refine (zlcm_any (zl_two hm hn hl1 hl2) (by simp [foldL]; omega) (by decide) (Nat.le_trans hm.2 (below_alloc w _).size)).mono ?_
 rintro e w' ⟨s', ad, len, cap, rfl, hz, hb, _⟩
 exact ⟨s', ad, len, cap, _, rfl, hz, (below_alloc _ _).trans (hb.mono (below_alloc _ _).size)⟩
end Go.Proofs.YtmlephkmbkiofaaGreatDoor.Fresh

namespace Go.Proofs.YtmlephkmbkiofaaGreatDoor
open Go.RowKit

theorem run_mk0 (n : Nat) (hn : n ≤ 70368744177664) (u : World) : (Instr.makeSlice 24 (.int .i64 0) (.int .i64 (n : Int))).run Tryz.prog u =
      .ok (.slice (some ⟨u.heap.size, 0, none⟩) 0 n) (u.alloc (.cells (U (List.replicate n 0)) 42)) := by
  obtain ⟨i0, hi, hz0, hz1, hz2⟩ := info_parts info49
  have h := run_make (P := Tryz.prog) u 24 42 i0 (.int .u32 0) Tryz.underlying24 hi hz0 .i64 .i64 0 (n : Int) (by omega) (by omega) (by rw [hz2]; omega) (by omega)
  rw [Int.toNat_natCast] at h
  rw [← made_zero]
  simpa [hz1, Value.cells] using h

/-- append within the room of a row -/
theorem run_append_in {w : World} {b n cap : Nat} {zs : List Int} (hr : Row w b zs) (hzl : zs.length = cap) (ty : TypeId) {ad : Option Addr} {m c : Nat} {news : List Int} (hn : Rd w ad m c news) (hroom : n + m ≤ cap) :
    ∃ w', (Builtin.append_ #[24, 24] ty #[.slice (some ⟨b, 0, none⟩) n cap, .slice ad m c]).run Tryz.prog w = .ok (.slice (some ⟨b, 0, none⟩) (n + m) cap) w' ∧ Row w' b (zs.take n ++ news ++ zs.drop (n + m)) ∧ Only b w w' := by
  obtain ⟨i0, hi, hz0, hz1, hz2⟩ := info_parts info49a
  have hl : news.length = m := hn.1
  have hone : ∀ u ∈ news.map (Value.int .u32), u.oneCell' = true := fun u hu => by
    obtain ⟨z, _, rfl⟩ := List.mem_map.1 hu; rfl
  obtain ⟨_, _, _, _, ⟨rfl, rfl, rfl⟩ | ⟨a, rfl, h5⟩⟩ := hn
  · obtain rfl : news = [] := List.eq_nil_of_length_eq_zero hl
    refine ⟨w, ?_, by simpa using hr, Only.refl _ _⟩
    simp [Builtin.append_, run_underlying Tryz.underlying24, sizeOf, typeInfo, hi, Builtin.lenOf, Builtin.firstCells, loadCells, storeCells, show n ≤ cap by omega]
  · have hnv : ∀ j v, (news.map (Value.int .u32))[j]? = some v → w.cell? (a.add j) = some v := fun j v hv => by
      obtain ⟨h1, rfl⟩ := lz_map hv
      rcases h5 with h5 | ⟨x, off, rfl, _, hc⟩
      · omega
      · rw [Addr.add_lit]
        exact hc j (by omega)
    have hr' := run_append_room (P := Tryz.prog) w 24 ty 42 i0 Tryz.underlying24 hi b n cap (U zs) hr a m c (news.map (Value.int .u32)) (by rw [hz1]; simp [hl]) hnv hone hroom (by rw [hz1, U_size]; simp [hl]; omega)
    refine ⟨_, hr', ?_, ⟨rfl, rfl, rfl, by simp, fun k hk => setRow_other w b k _ hk⟩⟩
    have := setRow_heap w b (U zs) ((U zs).toList.take (n * i0.size) ++ news.map (Value.int .u32) ++ (U zs).toList.drop (n * i0.size + (news.map (Value.int .u32)).length)).toArray 42 (0, 0) hr
    rw [Row, this]
    simp [U, hz1, hl, List.map_take, List.map_drop]

set_option maxRecDepth 100000 in
set_option maxHeartbeats 1600000 in
/-- a number that is lent: its limbs, and two marks behind them -/
theorem zlent_any {s : Bool} {a : Option Addr} {l c : Nat} {xs : List Int} {w : World} (h : Rd w a l c xs) (hl : l ≤ 1099511627776) :
    Calls Tryz.prog 6 #[.agg #[.bool s, .slice a l c]] w fun e w' => ∃ b, e = .returned (.agg #[.bool s, .slice (some ⟨b, 0, none⟩) l (l + 2)]) ∧ Below w.heap.size w w' ∧ w.heap.size ≤ b ∧ Row w' b (xs ++ [77, 78]) := by
  have hxl := h.1
  have hlim := h.2.2.2.1
  have x := (zb_new w s a l c).below (below_alloc _ (.cells #[.bool false, .slice none 0 0] 26))
  have y := zb_new (w.alloc (.cells #[.bool s, .slice a l c] 26)) false none 0 0
  have b0 : Below w.heap.size w ((w.alloc (.cells #[.bool s, .slice a l c] 26)).alloc (.cells #[.bool false, .slice none 0 0] 26)) := below_alloc' (below_alloc _ _) _
  rw [show (w.alloc (.cells #[.bool s, .slice a l c] 26)).heap.size = w.heap.size + 1 from by simp] at y
  have hmk : ∀ u : World, (Instr.makeSlice 24 (.int .i64 0) (.int .i64 ((l : Int) + 2))).run Tryz.prog u =
      .ok (.slice (some ⟨u.heap.size, 0, none⟩) 0 (l + 2)) (u.alloc (.cells (U (List.replicate (l + 2) 0)) 42)) := run_mk0 (l + 2) (by omega)
  have r0 := row_alloc ((w.alloc (.cells #[.bool s, .slice a l c] 26)).alloc (.cells #[.bool false, .slice none 0 0] 26)) (List.replicate (l + 2) 0)
  rw [show ((w.alloc (.cells #[.bool s, .slice a l c] 26)).alloc (.cells #[.bool false, .slice none 0 0] 26)).heap.size = w.heap.size + 1 + 1 from by simp] at r0
  have hd := (h.below b0).below (below_alloc _ (.cells (U (List.replicate (l + 2) 0)) 42))
  obtain ⟨w1, hrun, hr1, ho1⟩ := run_append_in (n := 0) (cap := l + 2) r0 (by simp) 24 hd (by omega)
  rw [Nat.zero_add] at hrun hr1
  have hb1 : Below w.heap.size w w1 := (below_alloc' b0 _).trans (ho1.below (by omega))
  have x1 := (x.below (below_alloc _ (.cells (U (List.replicate (l + 2) 0)) 42))).only ho1 (by omega)
  have y1 := (y.below (below_alloc _ (.cells (U (List.replicate (l + 2) 0)) 42))).only ho1 (by omega)
  rw [show (List.replicate (l + 2) (0 : Int)).take 0 ++ xs ++ (List.replicate (l + 2) (0 : Int)).drop l = xs ++ [0, 0] by rw [List.take_zero, List.nil_append, List.drop_replicate, show l + 2 - l = 2 by omega]; rfl] at hr1
  have hrA := hr1.set l 77
  have hrB := hrA.set (l + 1) 78
  have cA := hr1.cell (i := l) (by simp [hxl])
  have fA := hr1.frozen l
  have cB := hrA.cell (i := l + 1) (by simp [hxl])
  have fB := hrA.frozen (l + 1)
  have u0 := x1.c0
  have u1 := x1.c1
  have xA := x1.only (Only.set (w.heap.size + 1 + 1) l w1 (.int .u32 77)) (by omega)
  have xB := xA.only (Only.set (w.heap.size + 1 + 1) (l + 1) _ (.int .u32 78)) (by omega)
  have yB := (y1.only (Only.set (w.heap.size + 1 + 1) l w1 (.int .u32 77)) (by omega)).only (Only.set (w.heap.size + 1 + 1) (l + 1) _ (.int .u32 78)) (by omega)
  have uA := xA.c1
  have uB := xB.c0
  have v0 := yB.c0
  have v1 := yB.c1
  have v2 := yB.f 0
  have v3 := yB.f 1
  clear hr1 hrA r0 hd x y x1 y1 xA xB
  go_enter Tryz.func6, Tryz.ntmps6
  go_wp2_with (at_builtin; refine wpList_append_run rfl _ _ 24 rfl _ _ rfl rfl (fun v' w' => v' = .slice (some ⟨w.heap.size + 1 + 1, 0, none⟩) l (l + 2) ∧ w1 = w') ⟨_, _, hrun, rfl, rfl⟩ ?_; rintro v' w' ⟨rfl, rfl⟩)
  refine bodyPost_ret (results_cell_row rfl _ _ (w.heap.size + 1) 26 _ (0, 0) _ rfl (zb_fin yB s (some ⟨w.heap.size + 1 + 1, 0, none⟩) l (l + 2)) Tryz.underlying26 rfl (by kernel_rfl)) rfl ?_
  have hle : ((xs ++ [0, 0]).set l 77).set (l + 1) 78 = xs ++ [77, 78] := by
    subst hxl
    simp
  rw [hle] at hrB
  refine ⟨w.heap.size + 1 + 1, by simp, ?_, by omega, ?_⟩
  · exact (((hb1.setCell (by show w.heap.size ≤ w.heap.size + 1 + 1; omega) _).setCell (by show w.heap.size ≤ w.heap.size + 1 + 1; omega) _).setCell (by show w.heap.size ≤ w.heap.size + 1; omega) _).setCell (by show w.heap.size ≤ w.heap.size + 1; omega) _
  · exact hrB.only (only2 (w.heap.size + 1) _ _ _) (by omega)

set_option maxRecDepth 100000 in
set_option maxHeartbeats 1600000 in
theorem zover_row {s : Bool} {b len cap : Nat} {ys : List Int} {w : World} (h : Row w b ys) (hy : ys.length = cap) (hc : cap ≤ 9223372036854775807) (hl : len ≤ cap) :
    Calls Tryz.prog 13 #[.agg #[.bool s, .slice (some ⟨b, 0, none⟩) len cap]] w fun e w' => (∃ v, e = .returned v) ∧ Below b w w' ∧ (∀ k, k < w.heap.size → k ≠ b → w'.heap[k]? = w.heap[k]?) := by
  have hlt := Fresh.row_lt h
  have x := zb_new w s (some ⟨b, 0, none⟩) len cap
  have b0 := below_alloc w (.cells #[.bool s, .slice (some ⟨b, 0, none⟩) len cap] 26)
  have h1 : Row (w.alloc (.cells #[.bool s, .slice (some ⟨b, 0, none⟩) len cap] 26)) b ys := (b0.block b hlt).trans h
  have u1 := x.c1
  go_enter Tryz.func13, Tryz.ntmps13
  go_wp2_with fail
  generalize w.alloc (.cells #[.bool s, .slice (some ⟨b, 0, none⟩) len cap] 26) = wb at *
  go_loopw [3] (fun i wr => ∃ (k : Nat) (zs : List Int), k ≤ cap ∧ i = .int .i64 k ∧ zs.length = cap ∧ Row wr b zs ∧ Only b wb wr) (fun i _ => cap - (intOf i).toNat)
  case atStart => exact ⟨0, ys, Nat.zero_le _, rfl, hy, h1, Only.refl _ _⟩
  case round =>
    obtain ⟨k, zs, hk, rfl, hzl, hrow, hon⟩ := hrel
    by_cases hkN : k < cap
    · have hcell := hrow.cell (i := k) (by omega)
      have hfr := hrow.frozen k
      go_wp2
      exact ⟨⟨k + 1, _, by omega, by go_num, by rw [List.length_set]; exact hzl, hrow.set k _, hon.trans (Only.set _ _ _ _)⟩, by simp [intOf]; omega⟩
    · obtain rfl : k = cap := by omega
      go_wp2
      exact ⟨rfl, _, results_none rfl _ _ _, ⟨_, rfl⟩, (b0.mono (Nat.le_of_lt hlt)).trans (hon.below (Nat.le_refl _)), fun j h1 h2 => (hon.block j h2).trans (b0.block j h1)⟩

set_option maxRecDepth 100000 in
set_option maxHeartbeats 1600000 in
theorem zover_nil {s : Bool} {w : World} :
    Calls Tryz.prog 13 #[.agg #[.bool s, .slice none 0 0]] w fun e w' => (∃ v, e = .returned v) ∧ Below w.heap.size w w' := by
  have b0 := below_alloc w (.cells #[.bool s, .slice none 0 0] 26)
  have u1 := (zb_new w s none 0 0).c1
  go_enter Tryz.func13, Tryz.ntmps13
  go_wp2
  generalize w.alloc (.cells #[.bool s, .slice none 0 0] 26) = wb at *
  go_loopw [3] (fun i wr => i = .int .i64 0 ∧ wb = wr) (fun _ _ => 0)
  case atStart => exact ⟨rfl, rfl⟩
  case round =>
    obtain ⟨rfl, rfl⟩ := hrel
    go_wp2
    exact ⟨rfl, _, results_none rfl _ _ _, ⟨_, rfl⟩, b0⟩

/-- an owner's writing into an answer: what lies elsewhere stays -/
theorem zover_any {B : Nat} {s : Bool} {ad : Option Addr} {len cap : Nat} {w : World} (h : Fresh.Fr B w ad cap) (hB : B ≤ w.heap.size) (hl : len ≤ cap) :
    Calls Tryz.prog 13 #[.agg #[.bool s, .slice ad len cap]] w fun e w' => (∃ v, e = .returned v) ∧ Below B w w' ∧ (∀ k, k < w.heap.size → blk ad ≠ some k → w'.heap[k]? = w.heap[k]?) := by
  rcases h with ⟨rfl, rfl⟩ | ⟨b, ys, rfl, h2, h3, h4, h5⟩
  · obtain rfl : len = 0 := by omega
    refine zover_nil.mono ?_
    rintro e w' ⟨hv, hb⟩
    exact ⟨hv, hb.mono hB, fun k h1 _ => hb.block k h1⟩
  · refine (zover_row h3 h4 h5 hl).mono ?_
    rintro e w' ⟨hv, hb, hk⟩
    exact ⟨hv, hb.mono h2, fun k h1 h2 => hk k h1 (fun e => h2 (by rw [e]; rfl))⟩

set_option maxRecDepth 100000 in
set_option maxHeartbeats 1600000 in
theorem zstays_t {s : Bool} {a : Option Addr} {b l c : Nat} {xs : List Int} {w : World} (hr : Row w b (xs ++ [77, 78])) (h : Rd w a l c xs) (hl : l ≤ 1099511627776) :
    Calls Tryz.prog 9 #[.agg #[.bool s, .slice (some ⟨b, 0, none⟩) l (l + 2)], .agg #[.bool s, .slice a l c]] w fun e w' => e = .returned (.bool true) ∧ Below w.heap.size w w' := by
  have hxl := h.1
  have hlt := Fresh.row_lt hr
  have b0 : Below w.heap.size w ((w.alloc (.cells #[.bool s, .slice (some ⟨b, 0, none⟩) l (l + 2)] 26)).alloc (.cells #[.bool s, .slice a l c] 26)) := below_alloc' (below_alloc _ _) _
  have x := (zb_new w s (some ⟨b, 0, none⟩) l (l + 2)).below (below_alloc _ (.cells #[.bool s, .slice a l c] 26))
  have x2 := zb_new (w.alloc (.cells #[.bool s, .slice (some ⟨b, 0, none⟩) l (l + 2)] 26)) s a l c
  rw [show (w.alloc (.cells #[.bool s, .slice (some ⟨b, 0, none⟩) l (l + 2)] 26)).heap.size = w.heap.size + 1 from by simp] at x2
  have h1 := h.below b0
  have hr1 : Row ((w.alloc (.cells #[.bool s, .slice (some ⟨b, 0, none⟩) l (l + 2)] 26)).alloc (.cells #[.bool s, .slice a l c] 26)) b (xs ++ [77, 78]) := (b0.block b hlt).trans hr
  go_enter Tryz.func9, Tryz.ntmps9
  generalize hp : w.heap.size = p at *
  have u0 := x.c0
  have u1 := x.c1
  have v0 := x2.c0
  have v1 := x2.c1
  go_wp2_with fail
  generalize (w.alloc (.cells #[.bool s, .slice (some ⟨b, 0, none⟩) l (l + 2)] 26)).alloc (.cells #[.bool s, .slice a l c] 26) = wb at *
  clear u0 u1 v0 v1
  go_loopw [5] (fun i wr => ∃ k : Nat, k ≤ l ∧ i = .int .i64 k ∧ Below wb.heap.size wb wr) (fun i _ => l - (intOf i).toNat)
  case atStart => exact ⟨0, Nat.zero_le _, rfl, Below.refl _ _⟩
  case round =>
    obtain ⟨k, hk, rfl, kr⟩ := hrel
    have u1 := (x.below kr).c1
    have v1 := (x2.below kr).c1
    have rowr : Row wr b (xs ++ [77, 78]) := (kr.block b (Fresh.row_lt hr1)).trans hr1
    by_cases hkN : k < l
    · obtain ⟨_, _, hcb, _, ⟨_, h6, _⟩ | ⟨a0, rfl, h5⟩⟩ := h1.below kr
      · omega
      rcases h5 with h5 | ⟨bb, off, rfl, _, hc⟩
      · omega
      have ca := rowr.cell (i := k) (by simp [hxl]; omega)
      rw [show lz (xs ++ [77, 78]) k = lz xs k by simp [lz, List.getD, List.getElem?_append_left (show k < xs.length by omega)]] at ca
      have cb := hc k hkN
      have hkb : (k : Int) < l := by omega
      have hk0 : (0 : Int) ≤ k := by omega
      generalize lz xs k = zk at *
      clear hc
      go_wp2_with fail
      go_quiet (fail)
      go_wp2_with fail
      exact ⟨⟨k + 1, by omega, by go_num, kr.trans (Go.Proofs.YtmlephkmbkiofaaGreatDoor.below_drewN _ _ _)⟩, by simp [intOf]; omega⟩
    · obtain rfl : k = l := by omega
      have c7 := rowr.cell (i := k) (by simp [hxl])
      have c8 := rowr.cell (i := k + 1) (by simp [hxl])
      rw [show lz (xs ++ [77, 78]) k = 77 by simp [lz, List.getD, ← hxl]] at c7
      rw [show lz (xs ++ [77, 78]) (k + 1) = 78 by simp [lz, List.getD, ← hxl]] at c8
      go_wp2_with fail
      go_ret
      exact ⟨rfl, b0.trans (kr.mono (hp ▸ b0.size))⟩
end Go.Proofs.YtmlephkmbkiofaaGreatDoor

namespace Go.Proofs.YtmlephkmbkiofaaGreatDoor
open Go.RowKit

/-- r is the rest of z1 by z2, or 0 where z2 is 0 -/
def RM (z1 z2 r : Int) : Prop := (z2 = 0 ∧ r = 0) ∨ (z2 ≠ 0 ∧ ∃ q, FD z1 z2 q r)
theorem rm_unique {z1 z2 r r' : Int} (h : RM z1 z2 r) (h' : RM z1 z2 r') : r = r' := by
 rcases h with ⟨h1, h2⟩ | ⟨h1, q, h2⟩ <;> rcases h' with ⟨k1, k2⟩ | ⟨k1, q', k2⟩
 ·rw [h2, k2]
 ·exact absurd h1 k1
 ·exact absurd k1 h1
 ·exact (fd_unique h2 k2).2
theorem zn_nilB {B : Nat} {w : World} (hB : B ≤ w.heap.size) : Fresh.Zn B w false none 0 0 0 := by
 obtain ⟨n, h1, h2, h3⟩ := zn_nil w
 exact ⟨n, ⟨h1, hB, .inl ⟨rfl, rfl⟩⟩, h2, h3⟩
theorem zdivmod_all {B : Nat} {s1 s2 : Bool} {a1 a2 : Option Addr} {l1 c1 l2 c2 : Nat} {z1 z2 : Int} {w : World} (h1 : Fresh.Zm B w s1 a1 l1 c1 z1) (h2 : Fresh.Zm B w s2 a2 l2 c2 z2) (hl1 : l1 ≤ 1099511627776) (hl2 : l2 ≤ 1099511627776) :
  Calls Tryz.prog 20 #[.agg #[.bool s1, .slice a1 l1 c1], .agg #[.bool s2, .slice a2 l2 c2]] w fun e w' => ∃ sq aq lq cq sr ar lr cr qv rv er, e = .returned (.tuple #[.agg #[.bool sq, .slice aq lq cq], .agg #[.bool sr, .slice ar lr cr], .int .i64 er]) ∧ Fresh.Zn B w' sq aq lq cq qv ∧ Fresh.Zn B w' sr ar lr cr rv ∧ RM z1 z2 rv ∧ Below w.heap.size w w' ∧ lr ≤ l2 ∧ (∀ b, blk ar = some b → blk aq ≠ some b) := by
 by_cases hz : z2 = 0
 ·have hB : B ≤ w.heap.size := by obtain ⟨n, h, _⟩ := h1; exact h.2
  have e1 : Zm w s1 a1 l1 c1 z1 := by obtain ⟨n, h, e⟩ := h1; exact ⟨n, h.1, e⟩
  have e2 : Zm w s2 a2 l2 c2 z2 := by obtain ⟨n, h, e⟩ := h2; exact ⟨n, h.1, e⟩
  refine (zdivmod0 e1 e2 hz).mono ?_
  rintro e w' ⟨rfl, hb⟩
  exact ⟨_, _, _, _, _, _, _, _, 0, 0, _, rfl, zn_nilB (Nat.le_trans hB hb.size), zn_nilB (Nat.le_trans hB hb.size), .inl ⟨hz, rfl⟩, hb, by omega, fun b hb => (by cases hb)⟩
 ·refine (Fresh.zdivmod_n h1 h2 hl1 hl2 hz).mono ?_
  rintro e w' ⟨sq, aq, lq, cq, sr, ar, lr, cr, qv, rv, rfl, hq, hr, hfd, hb, _, hlr, hap⟩
  exact ⟨_, _, _, _, _, _, _, _, _, _, _, rfl, hq, hr, .inr ⟨hz, _, hfd⟩, hb, hlr, hap⟩
theorem rdm_all {s1 s2 : Bool} {a1 a2 : Option Addr} {l1 c1 l2 c2 : Nat} {z1 z2 : Int} {w : World} (h1 : Zm w s1 a1 l1 c1 z1) (h2 : Zm w s2 a2 l2 c2 z2) (hl1 : l1 ≤ 4294967296) (hl2 : l2 ≤ 4294967296) :
  Calls Tryz.prog 44 #[.agg #[.bool s1, .slice a1 l1 c1], .agg #[.bool s2, .slice a2 l2 c2]] w fun e w' => ∃ sq aq lq cq sr ar lr cr rv er, e = .returned (.tuple #[.agg #[.bool sq, .slice aq lq cq], .agg #[.bool sr, .slice ar lr cr], .int .i64 er]) ∧ Zn w' sr ar lr cr rv ∧ RM z1 z2 rv ∧ Below w.heap.size w w' ∧ lr ≤ l1 + l2 + 5 := by
 by_cases hz : z2 = 0
 ·refine (rdivmod0z h1 h2 (by omega) hz).mono ?_
  rintro e w' ⟨sq, aq, lq, cq, sr, ar, lr, cr, rfl, _, hr, hb, _, hl⟩
  exact ⟨_, _, _, _, _, _, _, _, 0, _, rfl, hr, .inl ⟨hz, rfl⟩, hb, by omega⟩
 ·refine (rdivmod_n h1 h2 hl1 hl2 hz).mono ?_
  rintro e w' ⟨sq, aq, lq, cq, sr, ar, lr, cr, qv, rv, rfl, _, hr, hfd, hb, _, hl⟩
  exact ⟨_, _, _, _, _, _, _, _, _, _, rfl, hr, .inr ⟨hz, _, hfd⟩, hb, hl⟩

set_option maxRecDepth 100000 in
set_option maxHeartbeats 1600000 in
theorem rmod_all {s1 s2 : Bool} {a1 a2 : Option Addr} {l1 c1 l2 c2 : Nat} {z1 z2 : Int} {w : World} (h1 : Zm w s1 a1 l1 c1 z1) (h2 : Zm w s2 a2 l2 c2 z2) (hl1 : l1 ≤ 4294967296) (hl2 : l2 ≤ 4294967296) :
  Calls Tryz.prog 21 #[.agg #[.bool s1, .slice a1 l1 c1], .agg #[.bool s2, .slice a2 l2 c2]] w fun e w' => ∃ sr ar lr cr rv, e = .returned (.agg #[.bool sr, .slice ar lr cr]) ∧ Zn w' sr ar lr cr rv ∧ RM z1 z2 rv ∧ Below w.heap.size w w' ∧ lr ≤ l1 + l2 + 5 := by
 go_enter Tryz.func21, Tryz.ntmps21
 go_wp2_with fail
 have y := zb_new ((w.alloc (.cells #[.bool s1, .slice a1 l1 c1] 26)).alloc (.cells #[.bool s2, .slice a2 l2 c2] 26)) false none 0 0
 rw [show ((w.alloc (.cells #[.bool s1, .slice a1 l1 c1] 26)).alloc (.cells #[.bool s2, .slice a2 l2 c2] 26)).heap.size = w.heap.size + 1 + 1 from by simp] at y
 have b0 : Below w.heap.size w (((w.alloc (.cells #[.bool s1, .slice a1 l1 c1] 26)).alloc (.cells #[.bool s2, .slice a2 l2 c2] 26)).alloc (.cells #[.bool false, .slice none 0 0] 26)) := below_alloc' (below_alloc' (below_alloc _ _) _) _
 generalize ((w.alloc (.cells #[.bool s1, .slice a1 l1 c1] 26)).alloc (.cells #[.bool s2, .slice a2 l2 c2] 26)).alloc (.cells #[.bool false, .slice none 0 0] 26) = wb at *
 generalize hr : w.heap.size + 1 + 1 = r at *
 have hwr : w.heap.size ≤ r := by omega
 refine (rdm_all (h1.below b0) (h2.below b0) hl1 hl2).mono ?_
 rintro e w1 ⟨sq, aq, lq, cq, sr, ar, lr, cr, rv, er, rfl, hz, hrm, k1, hl⟩
 have b1 : Below w1.heap.size w1 ((w1.alloc (.cells #[.bool sq, .slice aq lq cq] 26)).alloc (.cells #[.bool sr, .slice ar lr cr] 26)) := below_alloc' (below_alloc _ _) _
 have y2 := (y.below k1).below b1
 have t2 := zb_new (w1.alloc (.cells #[.bool sq, .slice aq lq cq] 26)) sr ar lr cr
 rw [show (w1.alloc (.cells #[.bool sq, .slice aq lq cq] 26)).heap.size = w1.heap.size + 1 from by simp] at t2
 have y0 := y2.c0
 have y1 := y2.c1
 have f0 := y2.f 0
 have f1 := y2.f 1
 have t0 := t2.c0
 have t1 := t2.c1
 have z2 := hz.below b1
 have b2 : Below w.heap.size w ((w1.alloc (.cells #[.bool sq, .slice aq lq cq] 26)).alloc (.cells #[.bool sr, .slice ar lr cr] 26)) := (b0.trans (k1.mono b0.size)).trans (b1.mono (Nat.le_trans b0.size k1.size))
 clear y b0 k1 hz t2 b1
 go_wp2_with fail
 refine bodyPost_ret (results_cell_row rfl _ _ r 26 _ (0, 0) _ rfl (zb_fin y2 sr ar lr cr) Tryz.underlying26 rfl (by kernel_rfl)) rfl ?_
 exact ⟨sr, ar, lr, cr, rv, by simp, zb_zn y2 z2 _ _ _ _, hrm, (b2.setCell hwr _).setCell hwr _, hl⟩
end Go.Proofs.YtmlephkmbkiofaaGreatDoor
