/-
 Layer 6: what a raw atom says under values, as the law reckons it.
-/
import Derived.Test.YtjlkmjonadkkdaaGreatDoorP27
import Derived.Test.YtjlkmjonadkkdaaGreatDoorP07
namespace Go.Proofs.YtjlkmjonadkkdaaGreatDoor
open Go.RowKit Go.Sort Go.Shelf
open Tm At

theorem fd_dvd6 {a b q r : Int} (h : FD a b q r) : r = 0 ↔ b ∣ a := by
 obtain ⟨h1, h2⟩ := h
 constructor
 ·rintro rfl
  exact ⟨q, by rw [h1, Int.add_zero, Int.mul_comm]⟩
 ·rintro ⟨c, hc⟩
  have hr : b ∣ r := ⟨c - q, by rw [Int.mul_sub, ← hc, h1, Int.mul_comm b q]; omega⟩
  have h3 := Int.natAbs_dvd_natAbs.2 hr
  have h4 := Nat.eq_zero_of_dvd_of_lt h3 (by omega)
  omega
theorem mq3 {w w' : World} {p r : Nat} {kd : Int} {s : Bool} {a : Option Addr} {l c : Nat} {ad : Option Addr} {n cp : Nat} {t : Bool} {b : Option Addr} {m d : Nat} {s2 : Bool} {a2 : Option Addr} {l2 c2 : Nat} (x : AB w p kd s a l c ad n cp t b m d) (z : ZB w r s2 a2 l2 c2) (k : Below w.heap.size w w') :
  w'.cell? ⟨p, 0, none⟩ = some (.int .i64 kd) ∧ w'.cell? ⟨r, 0, none⟩ = some (.bool s2) ∧ w'.cell? ⟨r, 1, none⟩ = some (.slice a2 l2 c2) ∧ Below w.heap.size w w' := ⟨(x.below k).c0, (z.below k).c0, (z.below k).c1, k⟩
/-- what 'means' answers -/
def MN (b ok : Bool) (kd d k : Int) (ps vs : List (Int × Int)) : Prop := ok = true → (b = true ↔ Sat ⟨kd, d, ps, k⟩ (val1 vs)) ∧ (kd = 0 ∨ kd = 1 ∨ Tot ps vs)
theorem cmpI_nil (X : Int) : cmpI X 0 = 0 ↔ X = 0 := by
 unfold cmpI
 split <;> (try split) <;> omega

set_option maxRecDepth 100000 in
set_option maxHeartbeats 6400000 in
theorem means_n {w : World} {kd : Int} {sd : Bool} {ad : Option Addr} {ld cd : Nat} {ap : Option Addr} {np cp : Nat} {sk : Bool} {ak : Option Addr} {lk ck : Nat} {d k : Int} {ps : List (Int × Int)} {B : Nat} {ad2 : Option Addr} {n2 cp2 : Nat} {vs : List (Int × Int)}
  (hd : Zm w sd ad ld cd d) (hld : ld ≤ B) (hP : Pr w ap np ps B) (hk : Zm w sk ak lk ck k) (hlk : lk ≤ B) (hV : Pr w ad2 n2 vs B) (hB : B + np + n2 ≤ 268435456) :
  Calls Tryz.prog 33 #[.agg #[.int .i64 kd, .bool sd, .slice ad ld cd, .slice ap np cp, .bool sk, .slice ak lk ck], .slice ad2 n2 cp2] w fun e w' => ∃ b ok, e = .returned (.tuple #[.bool b, .bool ok]) ∧ MN b ok kd d k ps vs ∧ Below w.heap.size w w' := by
 have x := AB.new w kd sd ad ld cd ap np cp sk ak lk ck
 have b0 := below_alloc w (.cells #[.int .i64 kd, .bool sd, .slice ad ld cd, .slice ap np cp, .bool sk, .slice ak lk ck] 29)
 by_cases h0 : kd = 0
 ·subst h0
  replace b0 := hide b0
  clear x
  go_enter Tryz.func33, Tryz.ntmps33
  go_wp2
  refine bodyPost_ret (results_tmp2 rfl _ _ _) rfl ?_
  exact ⟨_, _, rfl, (fun _ => ⟨by simp [Sat], .inl rfl⟩), b0.out⟩
 by_cases h1 : kd = 1
 ·subst h1
  replace b0 := hide b0
  clear x
  go_enter Tryz.func33, Tryz.ntmps33
  go_wp2
  refine bodyPost_ret (results_tmp2 rfl _ _ _) rfl ?_
  exact ⟨_, _, rfl, (fun _ => ⟨by simp [Sat], .inr (.inl rfl)⟩), b0.out⟩
 have i0 : (kd == 0) = false := by rw [beq_eq_false_iff_ne]; exact h0
 have i1 : (kd == 1) = false := by rw [beq_eq_false_iff_ne]; exact h1
 replace hd := hd.below b0
 replace hP := hP.below b0
 replace hk := hk.below b0
 replace hV := hV.below b0
 have HH := hide (And.intro x (And.intro b0 (And.intro hd (And.intro hP (And.intro hk hV)))))
 clear x b0 hd hP hk hV
 replace h0 := hide h0
 replace h1 := hide h1
 go_enter Tryz.func33, Tryz.ntmps33
 go_wp2_with fail
 obtain ⟨x, b0, hd, hP, hk, hV⟩ := HH.out
 clear HH
 generalize w.alloc (.cells #[.int .i64 kd, .bool sd, .slice ad ld cd, .slice ap np cp, .bool sk, .slice ak lk ck] 29) = wb at *
 generalize hp : w.heap.size = p at *
 replace b0 : Hid (Below w.heap.size w wb) := hp ▸ b0
 clear hp
 refine (eval_n hP hk hlk hV hB).mono ?_
 rintro e w3 ⟨s3, a3, l3, c3, er, rfl, k3, hcase⟩
 have kz := below_alloc w3 (.cells #[.bool s3, .slice a3 l3 c3] 24)
 have z := zb_new w3 s3 a3 l3 c3
 replace x := (x.below k3).below kz
 replace hd := (hd.below k3).below kz
 have kw3 := hide (grow_step kz (grow_step k3 b0.out))
 clear k3 b0 hP hk hV
 have e0 := x.c0
 have e1 := x.c1
 have e2 := x.c2
 have z0 := z.c0
 have z1 := z.c1
 have hzl := z.lt
 rcases hcase with ⟨hT, rfl, rfl, rfl, rfl, rfl⟩ | ⟨hT, rfl, hzv, hlv⟩
 ·clear kz
  go_wp2
  refine bodyPost_ret (results_tmp2 rfl _ _ _) rfl ?_
  exact ⟨_, _, rfl, (fun h => by cases h), kw3.out⟩
 ·replace hzv := hzv.below kz
  clear kz
  generalize hX : k + ev ps (val1 vs) = X at *
  by_cases h2 : kd < 2
  ·go_wp2
   refine bodyPost_ret (results_tmp2 rfl _ _ _) rfl ?_
   exact ⟨_, _, rfl, (fun h => by cases h), kw3.out⟩
  by_cases h4 : 4 < kd
  ·go_wp2
   refine bodyPost_ret (results_tmp2 rfl _ _ _) rfl ?_
   exact ⟨_, _, rfl, (fun h => by cases h), kw3.out⟩
  by_cases h3 : kd = 2
  ·subst h3
   go_wp2_with fail
   generalize w3.alloc (.cells #[.bool s3, .slice a3 l3 c3] 24) = w4 at *
   refine (zsign_n hzv.zm (by omega)).mono ?_
   rintro e w5 ⟨rfl, k5⟩
   have kf := hide (grow_step k5 kw3.out)
   have hfin : Hid (MN (decide (0 < cmpI X 0)) true 2 d k ps vs) := fun _ => ⟨by simp [Sat, hX, cmpI_pos], .inr (.inr hT)⟩
   clear k5 kw3
   generalize cmpI X 0 = cz at *
   go_wp2
   refine bodyPost_ret (results_tmp2 rfl _ _ _) rfl ?_
   exact ⟨_, _, rfl, hfin.out, kf.out⟩
  ·have hk34 : kd = 3 ∨ kd = 4 := by have := h0.out; have := h1.out; omega
   clear h0 h1 h2 h3 h4 i0 i1
   rcases hk34 with rfl | rfl
   ·by_cases hd0 : d = 0
    ·go_wp2_with fail
     generalize w3.alloc (.cells #[.bool s3, .slice a3 l3 c3] 24) = w4 at *
     generalize w3.heap.size = q3 at *
     refine (zdivmod0 hzv.zm hd hd0).mono ?_
     rintro e w5 ⟨rfl, k5⟩
     replace x := x.below k5
     have ka := below_alloc w5 (.cells #[.bool false, .slice none 0 0] 24)
     have kb := below_alloc (w5.alloc (.cells #[.bool false, .slice none 0 0] 24)) (.cells #[.bool false, .slice none 0 0] 24)
     have kc := grow_step kb ka
     have kf := hide (grow_step kc (grow_step k5 kw3.out))
     have zr := zb_new (w5.alloc (.cells #[.bool false, .slice none 0 0] 24)) false none 0 0
     rw [show (w5.alloc (.cells #[.bool false, .slice none 0 0] 24)).heap.size = w5.heap.size + 1 from by simp] at zr
     have hzr2 := hide (zn_zero ((w5.alloc (.cells #[.bool false, .slice none 0 0] 24)).alloc (.cells #[.bool false, .slice none 0 0] 24)))
     clear e0 e1 e2 z0 z1 ka kb k5 kw3
     have e0 := x.c0
     have hxl := x.lt
     have HH := hide (And.intro (x.below kc) (And.intro zr kf.out))
     clear kc kf zr x
     go_wp2_with fail
     obtain ⟨x, zr, kf⟩ := HH.out
     clear HH e0 hxl
     generalize (w5.alloc (.cells #[.bool false, .slice none 0 0] 24)).alloc (.cells #[.bool false, .slice none 0 0] 24) = wz at *
     generalize w5.heap.size + 1 = rr at *
     obtain ⟨cm, hcm⟩ : ∃ cm, Hid (cmpI 0 0 = cm) := ⟨_, rfl⟩
     go_region_held3 (fun w' => w'.cell? ⟨p, 0, none⟩ = some (.int .i64 3) ∧ w'.cell? ⟨rr, 0, none⟩ = some (.bool false) ∧ w'.cell? ⟨rr, 1, none⟩ = some (.slice none 0 0) ∧ Below wz.heap.size wz w')
      ((refine mq3 x zr ?_; (repeat' (first | with_reducible exact Below.refl _ _ | with_reducible assumption | with_reducible refine grow_step (by with_reducible assumption) ?_ | with_reducible refine grow_drew ?_ | with_reducible refine grow_alloc ?_ _ | with_reducible refine grow_drewN ?_ _))))
      ((go_at_call 37; with_reducible refine (zsign_n (Zn.zm (Zn.below hzr2.out (by (repeat' (first | with_reducible exact Below.refl _ _ | with_reducible assumption | with_reducible refine grow_step (by with_reducible assumption) ?_ | with_reducible refine grow_drew ?_ | with_reducible refine grow_alloc ?_ _ | with_reducible refine grow_drewN ?_ _))))) (by omega)).mono ?_; rintro e w6 ⟨rfl, hg6⟩; rw [hcm.out]))
     rename_i hH
     have kff := hide (grow_step hH.2.2.2 kf)
     clear hH hg6 kf x zr
     go_wp2
     refine bodyPost_ret (results_tmp2 rfl _ _ _) rfl ?_
     exact ⟨_, _, rfl, (fun h => by cases h), kff.out⟩
    ·go_wp2_with fail
     generalize w3.alloc (.cells #[.bool s3, .slice a3 l3 c3] 24) = w4 at *
     generalize w3.heap.size = q3 at *
     refine (zdivmod_n hzv.zm hd (by omega) (by omega) hd0).mono ?_
     rintro e w5 ⟨sq, aq, lq, cq, sr, ar, lr, cr, qv, rv, rfl, hzq, hzr, hFD, k5, hlq, hlr⟩
     replace x := x.below k5
     have ka := below_alloc w5 (.cells #[.bool sq, .slice aq lq cq] 24)
     have kb := below_alloc (w5.alloc (.cells #[.bool sq, .slice aq lq cq] 24)) (.cells #[.bool sr, .slice ar lr cr] 24)
     have kc := grow_step kb ka
     have kf := hide (grow_step kc (grow_step k5 kw3.out))
     have hzr2 := hide (hzr.below kc)
     have hdv := hide ((cmpI_nil rv).trans (fd_dvd6 hFD))
     have zr := zb_new (w5.alloc (.cells #[.bool sq, .slice aq lq cq] 24)) sr ar lr cr
     rw [show (w5.alloc (.cells #[.bool sq, .slice aq lq cq] 24)).heap.size = w5.heap.size + 1 from by simp] at zr
     clear e0 e1 e2 z0 z1 ka kb k5 kw3 hzq hzr hFD
     have e0 := x.c0
     have hxl := x.lt
     have HH := hide (And.intro (x.below kc) (And.intro zr kf.out))
     clear kc kf zr x
     go_wp2_with fail
     obtain ⟨x, zr, kf⟩ := HH.out
     clear HH e0 hxl
     generalize (w5.alloc (.cells #[.bool sq, .slice aq lq cq] 24)).alloc (.cells #[.bool sr, .slice ar lr cr] 24) = wz at *
     generalize w5.heap.size + 1 = rr at *
     obtain ⟨cm, hcm⟩ : ∃ cm, Hid (cmpI rv 0 = cm) := ⟨_, rfl⟩
     go_region_held3 (fun w' => w'.cell? ⟨p, 0, none⟩ = some (.int .i64 3) ∧ w'.cell? ⟨rr, 0, none⟩ = some (.bool sr) ∧ w'.cell? ⟨rr, 1, none⟩ = some (.slice ar lr cr) ∧ Below wz.heap.size wz w')
      ((refine mq3 x zr ?_; (repeat' (first | with_reducible exact Below.refl _ _ | with_reducible assumption | with_reducible refine grow_step (by with_reducible assumption) ?_ | with_reducible refine grow_drew ?_ | with_reducible refine grow_alloc ?_ _ | with_reducible refine grow_drewN ?_ _))))
      ((go_at_call 37; with_reducible refine (zsign_n (Zn.zm (Zn.below hzr2.out (by (repeat' (first | with_reducible exact Below.refl _ _ | with_reducible assumption | with_reducible refine grow_step (by with_reducible assumption) ?_ | with_reducible refine grow_drew ?_ | with_reducible refine grow_alloc ?_ _ | with_reducible refine grow_drewN ?_ _))))) (by omega)).mono ?_; rintro e w6 ⟨rfl, hg6⟩; rw [hcm.out]))
     rename_i hH
     have kff := hide (grow_step hH.2.2.2 kf)
     clear hH hg6 kf x zr
     have hfin : Hid (MN ((cm == 0) == true) true 3 d k ps vs) := fun _ => ⟨by
      have h9 := hdv.out
      rw [hcm.out] at h9
      by_cases h8 : cm = 0
      ·simp [Sat, hX, h8, h9.1 h8]
      ·have h7 : ¬ d ∣ X := fun h => h8 (h9.2 h)
       simp [Sat, hX, h8, h7], .inr (.inr hT)⟩
     clear hdv hzr2 hcm
     go_wp2
     refine bodyPost_ret (results_tmp2 rfl _ _ _) rfl ?_
     exact ⟨_, _, rfl, by simpa using hfin.out, kff.out⟩
   ·by_cases hd0 : d = 0
    ·go_wp2_with fail
     generalize w3.alloc (.cells #[.bool s3, .slice a3 l3 c3] 24) = w4 at *
     generalize w3.heap.size = q3 at *
     refine (zdivmod0 hzv.zm hd hd0).mono ?_
     rintro e w5 ⟨rfl, k5⟩
     replace x := x.below k5
     have ka := below_alloc w5 (.cells #[.bool false, .slice none 0 0] 24)
     have kb := below_alloc (w5.alloc (.cells #[.bool false, .slice none 0 0] 24)) (.cells #[.bool false, .slice none 0 0] 24)
     have kc := grow_step kb ka
     have kf := hide (grow_step kc (grow_step k5 kw3.out))
     have zr := zb_new (w5.alloc (.cells #[.bool false, .slice none 0 0] 24)) false none 0 0
     rw [show (w5.alloc (.cells #[.bool false, .slice none 0 0] 24)).heap.size = w5.heap.size + 1 from by simp] at zr
     have hzr2 := hide (zn_zero ((w5.alloc (.cells #[.bool false, .slice none 0 0] 24)).alloc (.cells #[.bool false, .slice none 0 0] 24)))
     clear e0 e1 e2 z0 z1 ka kb k5 kw3
     have e0 := x.c0
     have hxl := x.lt
     have HH := hide (And.intro (x.below kc) (And.intro zr kf.out))
     clear kc kf zr x
     go_wp2_with fail
     obtain ⟨x, zr, kf⟩ := HH.out
     clear HH e0 hxl
     generalize (w5.alloc (.cells #[.bool false, .slice none 0 0] 24)).alloc (.cells #[.bool false, .slice none 0 0] 24) = wz at *
     generalize w5.heap.size + 1 = rr at *
     obtain ⟨cm, hcm⟩ : ∃ cm, Hid (cmpI 0 0 = cm) := ⟨_, rfl⟩
     go_region_held3 (fun w' => w'.cell? ⟨p, 0, none⟩ = some (.int .i64 4) ∧ w'.cell? ⟨rr, 0, none⟩ = some (.bool false) ∧ w'.cell? ⟨rr, 1, none⟩ = some (.slice none 0 0) ∧ Below wz.heap.size wz w')
      ((refine mq3 x zr ?_; (repeat' (first | with_reducible exact Below.refl _ _ | with_reducible assumption | with_reducible refine grow_step (by with_reducible assumption) ?_ | with_reducible refine grow_drew ?_ | with_reducible refine grow_alloc ?_ _ | with_reducible refine grow_drewN ?_ _))))
      ((go_at_call 37; with_reducible refine (zsign_n (Zn.zm (Zn.below hzr2.out (by (repeat' (first | with_reducible exact Below.refl _ _ | with_reducible assumption | with_reducible refine grow_step (by with_reducible assumption) ?_ | with_reducible refine grow_drew ?_ | with_reducible refine grow_alloc ?_ _ | with_reducible refine grow_drewN ?_ _))))) (by omega)).mono ?_; rintro e w6 ⟨rfl, hg6⟩; rw [hcm.out]))
     rename_i hH
     have kff := hide (grow_step hH.2.2.2 kf)
     clear hH hg6 kf x zr
     go_wp2
     refine bodyPost_ret (results_tmp2 rfl _ _ _) rfl ?_
     exact ⟨_, _, rfl, (fun h => by cases h), kff.out⟩
    ·go_wp2_with fail
     generalize w3.alloc (.cells #[.bool s3, .slice a3 l3 c3] 24) = w4 at *
     generalize w3.heap.size = q3 at *
     refine (zdivmod_n hzv.zm hd (by omega) (by omega) hd0).mono ?_
     rintro e w5 ⟨sq, aq, lq, cq, sr, ar, lr, cr, qv, rv, rfl, hzq, hzr, hFD, k5, hlq, hlr⟩
     replace x := x.below k5
     have ka := below_alloc w5 (.cells #[.bool sq, .slice aq lq cq] 24)
     have kb := below_alloc (w5.alloc (.cells #[.bool sq, .slice aq lq cq] 24)) (.cells #[.bool sr, .slice ar lr cr] 24)
     have kc := grow_step kb ka
     have kf := hide (grow_step kc (grow_step k5 kw3.out))
     have hzr2 := hide (hzr.below kc)
     have hdv := hide ((cmpI_nil rv).trans (fd_dvd6 hFD))
     have zr := zb_new (w5.alloc (.cells #[.bool sq, .slice aq lq cq] 24)) sr ar lr cr
     rw [show (w5.alloc (.cells #[.bool sq, .slice aq lq cq] 24)).heap.size = w5.heap.size + 1 from by simp] at zr
     clear e0 e1 e2 z0 z1 ka kb k5 kw3 hzq hzr hFD
     have e0 := x.c0
     have hxl := x.lt
     have HH := hide (And.intro (x.below kc) (And.intro zr kf.out))
     clear kc kf zr x
     go_wp2_with fail
     obtain ⟨x, zr, kf⟩ := HH.out
     clear HH e0 hxl
     generalize (w5.alloc (.cells #[.bool sq, .slice aq lq cq] 24)).alloc (.cells #[.bool sr, .slice ar lr cr] 24) = wz at *
     generalize w5.heap.size + 1 = rr at *
     obtain ⟨cm, hcm⟩ : ∃ cm, Hid (cmpI rv 0 = cm) := ⟨_, rfl⟩
     go_region_held3 (fun w' => w'.cell? ⟨p, 0, none⟩ = some (.int .i64 4) ∧ w'.cell? ⟨rr, 0, none⟩ = some (.bool sr) ∧ w'.cell? ⟨rr, 1, none⟩ = some (.slice ar lr cr) ∧ Below wz.heap.size wz w')
      ((refine mq3 x zr ?_; (repeat' (first | with_reducible exact Below.refl _ _ | with_reducible assumption | with_reducible refine grow_step (by with_reducible assumption) ?_ | with_reducible refine grow_drew ?_ | with_reducible refine grow_alloc ?_ _ | with_reducible refine grow_drewN ?_ _))))
      ((go_at_call 37; with_reducible refine (zsign_n (Zn.zm (Zn.below hzr2.out (by (repeat' (first | with_reducible exact Below.refl _ _ | with_reducible assumption | with_reducible refine grow_step (by with_reducible assumption) ?_ | with_reducible refine grow_drew ?_ | with_reducible refine grow_alloc ?_ _ | with_reducible refine grow_drewN ?_ _))))) (by omega)).mono ?_; rintro e w6 ⟨rfl, hg6⟩; rw [hcm.out]))
     rename_i hH
     have kff := hide (grow_step hH.2.2.2 kf)
     clear hH hg6 kf x zr
     have hfin : Hid (MN ((cm == 0) == false) true 4 d k ps vs) := fun _ => ⟨by
      have h9 := hdv.out
      rw [hcm.out] at h9
      by_cases h8 : cm = 0
      ·simp [Sat, hX, h8, h9.1 h8]
      ·have h7 : ¬ d ∣ X := fun h => h8 (h9.2 h)
       simp [Sat, hX, h8, h7], .inr (.inr hT)⟩
     clear hdv hzr2 hcm
     go_wp2
     refine bodyPost_ret (results_tmp2 rfl _ _ _) rfl ?_
     exact ⟨_, _, rfl, by simpa using hfin.out, kff.out⟩
end Go.Proofs.YtjlkmjonadkkdaaGreatDoor
