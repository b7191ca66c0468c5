/-
  Layer 2: 'awake'.
-/
import Derived.Test.YtgkacepahfjeeaaGreatDoorZ5
namespace Go.Proofs.YtgkacepahfjeeaaGreatDoor
open Go.RowKit

theorem fd_le {a b q r q' r' : Int} (h : FD a b q r) (h' : FD a b q' r') : q ≤ q' := by
  obtain ⟨e, c⟩ := h
  obtain ⟨e', c'⟩ := h'
  by_cases hq : q ≤ q'
  · exact hq
  · exfalso
    have h1 : q' + 1 ≤ q := by omega
    rcases c with ⟨c1, c2⟩ | ⟨c1, c2⟩
    · have hb : 0 ≤ b := by omega
      have h2 := Int.mul_le_mul_of_nonneg_right h1 hb
      rw [Int.add_mul, Int.one_mul] at h2
      rcases c' with ⟨d1, d2⟩ | ⟨d1, d2⟩ <;> omega
    · have hb : b ≤ 0 := by omega
      have h2 := Int.mul_le_mul_of_nonpos_right h1 hb
      rw [Int.add_mul, Int.one_mul] at h2
      rcases c' with ⟨d1, d2⟩ | ⟨d1, d2⟩ <;> omega
theorem fd_unique {a b q r q' r' : Int} (h : FD a b q r) (h' : FD a b q' r') : q = q' ∧ r = r' := by
  have e := Int.le_antisymm (fd_le h h') (fd_le h' h)
  subst e
  exact ⟨rfl, by have := h.1; have := h'.1; omega⟩

def minusS : ByteArray := ⟨#[45, 52, 50, 57, 52, 57, 54, 55, 50, 57, 54]⟩
theorem minus_cut : cutB minusS = true := by kernel_rfl
theorem minus_ok : okText (minusS.extract 1 minusS.size) := by
  refine ⟨by decide, by decide, ?_⟩
  have : ∀ i, i < 10 → 48 ≤ bt (minusS.extract 1 minusS.size) i ∧ bt (minusS.extract 1 minusS.size) i ≤ 57 := by decide
  exact this
theorem minus_dr : dr (minusS.extract 1 minusS.size) 0 (minusS.extract 1 minusS.size).size = 4294967296 := by decide
theorem awake_text : zText 12884901888 = ⟨#[49, 50, 56, 56, 52, 57, 48, 49, 56, 56, 56]⟩ := by
  have h := dec_pad 9 12 884901888 (by decide) (by decide)
  rw [show 12 * 10 ^ 9 + 884901888 = 12884901888 from rfl, dec_step 12 (by decide), dec_small (12 / 10) (by decide)] at h
  unfold zText
  rw [if_neg (by decide), show (12884901888 : Int).toNat = 12884901888 from by decide, h]
  decide

set_option maxRecDepth 100000 in
set_option maxHeartbeats 1600000 in
theorem awake_any (w : World) (htab : Tab w) :
    Calls Tryz.prog 5 #[] w fun e w' => e = .returned (.bool true) ∧ Below w.heap.size w w' := by
  go_enter Tryz.func5, Tryz.ntmps5
  go_wp2_with fail
  refine (zof_n (-7) (by decide) (by decide) w).mono ?_
  rintro e w1 ⟨s1, a1, l1, c1, rfl, z1, k1, b1⟩
  go_wp2_with fail
  refine (zof_n 2 (by decide) (by decide) w1).mono ?_
  rintro e w2 ⟨s2, a2, l2, c2, rfl, z2, k2, b2⟩
  go_wp2_with fail
  refine (zdivmod_n (z1.below k2).zm z2.zm (by omega) (by omega) (by decide)).mono ?_
  rintro e w3 ⟨sq, aq, lq, cq, sr, ar, lr, cr, qv, rv, rfl, zq, zr, hfd, k3, bq, br⟩
  obtain ⟨rfl, rfl⟩ := fd_unique hfd (show FD (-7) 2 (-4) 1 from ⟨by decide, Or.inl (by decide)⟩)
  replace k3 := grow_step k3 (grow_step k2 k1)
  replace htab := htab.below k3
  clear hfd z1 z2 k1 k2
  go_wp2_with fail
  have xq := (zb_new w3 sq aq lq cq).below (below_alloc _ (.cells #[.bool sr, .slice ar lr cr] 26))
  have xr := zb_new (w3.alloc (.cells #[.bool sq, .slice aq lq cq] 26)) sr ar lr cr
  have b0 : Below w3.heap.size w3 ((w3.alloc (.cells #[.bool sq, .slice aq lq cq] 26)).alloc (.cells #[.bool sr, .slice ar lr cr] 26)) := below_alloc' (below_alloc _ _) _
  rw [show (w3.alloc (.cells #[.bool sq, .slice aq lq cq] 26)).heap.size = w3.heap.size + 1 from by simp] at xr
  generalize (w3.alloc (.cells #[.bool sq, .slice aq lq cq] 26)).alloc (.cells #[.bool sr, .slice ar lr cr] 26) = w4 at *
  generalize w3.heap.size + 1 = pr at *
  replace zq := zq.below b0
  replace zr := zr.below b0
  replace htab := htab.below b0
  replace k3 := grow_step b0 k3
  clear b0
  generalize w3.heap.size = pq at *
  refine (zparse_neg minusS w4 (by decide) minus_cut minus_ok (by rw [minus_dr]; decide)).mono ?_
  rintro e w5 ⟨sn, an, ln, cn, rfl, zn, k5, bn⟩
  rw [minus_dr] at zn
  replace bn : ln ≤ 11 := bn
  replace xq := xq.below k5
  replace xr := xr.below k5
  replace zq := zq.below k5
  replace zr := zr.below k5
  replace htab := htab.below k5
  replace k5 := grow_step k5 k3
  clear k3
  go_wp2_with fail
  have xn := zb_new w5 sn an ln cn
  have b0 := below_alloc w5 (.cells #[.bool sn, .slice an ln cn] 26)
  generalize w5.alloc (.cells #[.bool sn, .slice an ln cn] 26) = wb at *
  replace xq := xq.below b0
  replace xr := xr.below b0
  replace zq := zq.below b0
  replace zr := zr.below b0
  replace zn := zn.below b0
  replace htab := htab.below b0
  replace k5 := grow_step b0 k5
  clear b0
  generalize w5.heap.size = pn at *
  go_region_held3 (fun w' => w'.cell? ⟨pn, 0, none⟩ = some (.bool sn) ∧ w'.cell? ⟨pn, 1, none⟩ = some (.slice an ln cn) ∧ Below wb.heap.size wb w')
    ((refine zk1 xn ?_; (repeat' (first | with_reducible exact Below.refl _ _ | with_reducible assumption | with_reducible refine grow_step (by with_reducible assumption) ?_ | with_reducible refine grow_drew ?_ | with_reducible refine grow_alloc ?_ _ | with_reducible refine grow_drewN ?_ _))))
    (first | (go_at_call 22; refine (zof_n (-3) (by decide) (by decide) _).mono ?_; rintro e w' ⟨so, ao, lo, co, rfl, zo, hg, hlo⟩) | (go_at_call 19; refine (zmul_n (Zn.zm (Zn.below zo (by (repeat' (first | with_reducible exact Below.refl _ _ | with_reducible assumption | with_reducible refine grow_step (by with_reducible assumption) ?_ | with_reducible refine grow_drew ?_ | with_reducible refine grow_alloc ?_ _ | with_reducible refine grow_drewN ?_ _))))) (Zn.zm (Zn.below zn (by (repeat' (first | with_reducible exact Below.refl _ _ | with_reducible assumption | with_reducible refine grow_step (by with_reducible assumption) ?_ | with_reducible refine grow_drew ?_ | with_reducible refine grow_alloc ?_ _ | with_reducible refine grow_drewN ?_ _))))) (by omega) (by omega)).mono ?_; rintro e w' ⟨sm, am, lm, cm, rfl, zm, hg, hlm⟩) | (go_at_call 26; refine (ztext_n (Zn.zm (Zn.below zm (by (repeat' (first | with_reducible exact Below.refl _ _ | with_reducible assumption | with_reducible refine grow_step (by with_reducible assumption) ?_ | with_reducible refine grow_drew ?_ | with_reducible refine grow_alloc ?_ _ | with_reducible refine grow_drewN ?_ _))))) (by omega) (Tab.below htab (by (repeat' (first | with_reducible exact Below.refl _ _ | with_reducible assumption | with_reducible refine grow_step (by with_reducible assumption) ?_ | with_reducible refine grow_drew ?_ | with_reducible refine grow_alloc ?_ _ | with_reducible refine grow_drewN ?_ _))))).mono ?_; rintro e w' ⟨rfl, hg⟩))
  rw [awake_text]
  rename_i hH
  have kw := hH.2.2
  clear hH hg
  go_wp2_with fail
  go_region_held3 (fun w' => w'.cell? ⟨pq, 0, none⟩ = some (.bool sq) ∧ w'.cell? ⟨pq, 1, none⟩ = some (.slice aq lq cq) ∧ w'.cell? ⟨pr, 0, none⟩ = some (.bool sr) ∧ w'.cell? ⟨pr, 1, none⟩ = some (.slice ar lr cr) ∧ Below wb.heap.size wb w')
    ((refine zk2 xq xr ?_; (repeat' (first | with_reducible exact Below.refl _ _ | with_reducible assumption | with_reducible refine grow_step (by with_reducible assumption) ?_ | with_reducible refine grow_drew ?_ | with_reducible refine grow_alloc ?_ _ | with_reducible refine grow_drewN ?_ _))))
    (first | (go_at_call 24; with_reducible refine (rof_n (-4) (by decide) (by decide) _).mono ?_; rintro e w' ⟨s4, a4, l4, c4, rfl, z4, hg, hl4⟩) | (go_at_call 24; with_reducible refine (rof_n 1 (by decide) (by decide) _).mono ?_; rintro e w' ⟨s5, a5, l5, c5, rfl, z5, hg, hl5⟩) | (go_at_call 10; with_reducible refine (is_t (Zn.below zq (by (repeat' (first | with_reducible exact Below.refl _ _ | with_reducible assumption | with_reducible refine grow_step (by with_reducible assumption) ?_ | with_reducible refine grow_drew ?_ | with_reducible refine grow_alloc ?_ _ | with_reducible refine grow_drewN ?_ _)))) (Zn.zm (Zn.below z4 (by (repeat' (first | with_reducible exact Below.refl _ _ | with_reducible assumption | with_reducible refine grow_step (by with_reducible assumption) ?_ | with_reducible refine grow_drew ?_ | with_reducible refine grow_alloc ?_ _ | with_reducible refine grow_drewN ?_ _))))) (by omega) (by omega) rfl).mono ?_; rintro e w' ⟨rfl, hg⟩) | (go_at_call 10; with_reducible refine (is_t (Zn.below zr (by (repeat' (first | with_reducible exact Below.refl _ _ | with_reducible assumption | with_reducible refine grow_step (by with_reducible assumption) ?_ | with_reducible refine grow_drew ?_ | with_reducible refine grow_alloc ?_ _ | with_reducible refine grow_drewN ?_ _)))) (Zn.zm (Zn.below z5 (by (repeat' (first | with_reducible exact Below.refl _ _ | with_reducible assumption | with_reducible refine grow_step (by with_reducible assumption) ?_ | with_reducible refine grow_drew ?_ | with_reducible refine grow_alloc ?_ _ | with_reducible refine grow_drewN ?_ _))))) (by omega) (by omega) rfl).mono ?_; rintro e w' ⟨rfl, hg⟩))
  rename_i hH
  have kw' := hH.2.2.2.2
  go_wp2_with fail
  go_ret
  exact ⟨by simp, grow_step kw' k5⟩

end Go.Proofs.YtgkacepahfjeeaaGreatDoor
