/-
 Layer 6: Holds: whether an atom is so under values.
-/
import Derived.Test.YtjlkmjonadkkdaaGreatDoorP26
import Derived.Test.YtjlkmjonadkkdaaGreatDoorP23
namespace Go.Proofs.YtjlkmjonadkkdaaGreatDoor
open Go.RowKit Go.Sort Go.Shelf
open Tm At

theorem formA_er {kd d : Int} {qs : List (Int × Int)} {k er : Int} (h : formA kd d qs k = .inr er) : er = 11 ∨ er = 1 := by
 unfold formA at h
 split at h
 ·cases h
 ·split at h
  ·cases h
  ·split at h
   ·split at h
    ·cases h; exact .inl rfl
    ·cases h
   ·cases h; exact .inr rfl
theorem cmpI_pos (X : Int) : 0 < cmpI X 0 ↔ 0 < X := by
 unfold cmpI
 split <;> (try split) <;> omega
theorem At.Fit.kind5 {a : Atm} (h : Fit a) : a.kind = 0 ∨ a.kind = 1 ∨ a.kind = 2 ∨ a.kind = 3 ∨ a.kind = 4 := by
 have := h.kinds
 omega
/-- what Holds answers -/
def HO (e : Ending) (f : Atm ⊕ Int) (vs : List (Int × Int)) : Prop := match f with
 | .inr er => e = .returned (.tuple #[.bool false, .int .i64 er])
 | .inl f => (¬ Tot f.ps vs ∧ e = .returned (.tuple #[.bool false, .int .i64 170])) ∨ (Tot f.ps vs ∧ ∃ b, e = .returned (.tuple #[.bool b, .int .i64 0]) ∧ (b = true ↔ Sat f (val1 vs)))

set_option maxRecDepth 100000 in
set_option maxHeartbeats 6400000 in
theorem aholds_n {w : World} {kd : Int} {sd : Bool} {ad : Option Addr} {ld cd : Nat} {ap : Option Addr} {np cp : Nat} {sk : Bool} {ak : Option Addr} {lk ck : Nat} {d k : Int} {ps : List (Int × Int)} {B : Nat} {ad2 : Option Addr} {n2 cp2 : Nat} {vs : List (Int × Int)} {B2 : Nat}
  (hd : Zm w sd ad ld cd d) (hld : ld ≤ B) (hP : Pr w ap np ps B) (hk : Zm w sk ak lk ck k) (hlk : lk ≤ B) (hn : np ≤ 262144) (hB : B + np + 1 ≤ 4194000) (hV : Pr w ad2 n2 vs B2) (hn2 : n2 ≤ 16777216) (hB2 : B2 ≤ 16777216) :
  Calls Tryz.prog 28 #[.agg #[.int .i64 kd, .bool sd, .slice ad ld cd, .slice ap np cp, .bool sk, .slice ak lk ck], .slice ad2 n2 cp2] w fun e w' => ∃ qs, Std qs ∧ (∀ v, csum qs v = csum ps v) ∧ HO e (formA kd d qs k) vs ∧ Below w.heap.size w w' := by
 go_enter Tryz.func28, Tryz.ntmps28
 go_wp2_with fail
 have x := AB.new w kd sd ad ld cd ap np cp sk ak lk ck
 have b0 := below_alloc w (.cells #[.int .i64 kd, .bool sd, .slice ad ld cd, .slice ap np cp, .bool sk, .slice ak lk ck] 29)
 replace hd := hd.below b0
 replace hP := hP.below b0
 replace hk := hk.below b0
 replace hV := hide hV
 generalize w.alloc (.cells #[.int .i64 kd, .bool sd, .slice ad ld cd, .slice ap np cp, .bool sk, .slice ak lk ck] 29) = wb at *
 generalize hp : w.heap.size = p at *
 replace b0 : Hid (Below w.heap.size w wb) := hp ▸ b0
 replace hp := hide hp
 have hnps := hP.1
 refine (anorm_n hd hld hP hk hlk hn hB).mono ?_
 rintro e w1 ⟨qs, hS, hc, hA, k1⟩
 have hpb := x.lt
 replace x := x.below k1
 have kk := hide (grow_step k1 b0.out)
 clear hd hP hk
 have e0 := x.c0
 have e1 := x.c1
 have e2 := x.c2
 have e3 := x.c3
 have e4 := x.c4
 have e5 := x.c5
 have f0 := x.f 0
 have f1 := x.f 1
 have f2 := x.f 2
 have f3 := x.f 3
 have f4 := x.f 4
 have f5 := x.f 5
 have hpl := x.lt
 cases hf : formA kd d qs k with
 | inr er =>
  rw [hf] at hA
  have her := formA_er hf
  have he : _ = _ := hA
  subst he
  have g6 := ab_set w1 p (.int .i64 0) (.bool false) (.slice none 0 0) (.slice none 0 0) (.bool false) (.slice none 0 0)
  have kf := hide (below_grown kk.out g6 (by have := hp.out; omega))
  have hres : Hid (∃ qs, Std qs ∧ (∀ v, csum qs v = csum ps v) ∧ HO (.returned (.tuple #[.bool false, .int .i64 er])) (formA kd d qs k) vs) := ⟨qs, hS, hc, by rw [hf]; rfl⟩
  clear hf hS hc hA g6 k1 kk
  rcases her with rfl | rfl
  ·go_wp2
   refine bodyPost_ret (results_tmp2 rfl _ _ _) rfl ?_
   obtain ⟨q, h1, h2, h3⟩ := hres.out
   exact ⟨q, h1, h2, h3, kf.out⟩
  ·go_wp2
   refine bodyPost_ret (results_tmp2 rfl _ _ _) rfl ?_
   obtain ⟨q, h1, h2, h3⟩ := hres.out
   exact ⟨q, h1, h2, h3, kf.out⟩
 | inl f =>
  rw [hf] at hA
  have hfit := formA_fit hS hf
  have hlen : f.ps.length ≤ np := by have h1 := (formA_prt hS hf).1; have h2 := std_len hS hc; omega
  obtain ⟨fk, fd, fps, fkk⟩ := f
  obtain ⟨sd1, ad1, ld1, cd1, ap1, np1, cp1, sk1, ak1, lk1, ck1, rfl, hz1, hlz1, hPn1, hnp1, hk1, hlk1, hnew1⟩ := hA
  dsimp only at hz1 hPn1 hk1 hlen
  have hnp2 : np1 ≤ 262144 := by have := hPn1.1; omega
  have g6 := ab_set w1 p (.int .i64 fk) (.bool sd1) (.slice ad1 ld1 cd1) (.slice ap1 np1 cp1) (.bool sk1) (.slice ak1 lk1 ck1)
  have hU := ab_noU x
  have hz2 := hz1.grownU g6 hU
  have hk2 := hk1.grownU g6 hU
  have hP2 := hPn1.away (fun b off e => by have h1 := hnew1 b off e; omega) g6 hU
  have x2 : AB _ p fk sd1 ad1 ld1 cd1 ap1 np1 cp1 sk1 ak1 lk1 ck1 := ab_fin x fk sd1 ad1 ld1 cd1 ap1 np1 cp1 sk1 ak1 lk1 ck1
  have kw2 := hide (below_grown kk.out g6 (by have := hp.out; omega))
  have HH := hide (And.intro hz2 (And.intro hk2 (And.intro hP2 (And.intro x2 (hV.out.below kw2.out)))))
  have hres : Hid (∀ e, HO e (.inl ⟨fk, fd, fps, fkk⟩) vs → ∃ qs, Std qs ∧ (∀ v, csum qs v = csum ps v) ∧ HO e (formA kd d qs k) vs) := fun e he => ⟨qs, hS, hc, by rw [hf]; exact he⟩
  clear hz1 hk1 hPn1 hnew1 hz2 hk2 hP2 x2 hU g6 hf hS hc k1 kk x hV
  go_wp2_with fail
  obtain ⟨hz2, hk2, hP2, x2, hV2⟩ := HH.out
  clear HH e0 e1 e2 e3 e4 e5 f0 f1 f2 f3 f4 f5
  generalize (((((w1.setCell ⟨p, 0, none⟩ (.int .i64 fk)).setCell ⟨p, 1, none⟩ (.bool sd1)).setCell ⟨p, 2, none⟩ (.slice ad1 ld1 cd1)).setCell ⟨p, 3, none⟩ (.slice ap1 np1 cp1)).setCell ⟨p, 4, none⟩ (.bool sk1)).setCell ⟨p, 5, none⟩ (.slice ak1 lk1 ck1) = w2 at *
  refine (eval_n (B := B + np + 16 + B2) (hP2.pr.mono (by omega)) hk2.zm (by omega) (hV2.mono (by omega)) (by omega)).mono ?_
  rintro e w3 ⟨s3, a3, l3, c3, er, rfl, k3, hcase⟩
  have kz := below_alloc w3 (.cells #[.bool s3, .slice a3 l3 c3] 24)
  have z := zb_new w3 s3 a3 l3 c3
  replace x2 := (x2.below k3).below kz
  replace hz2 := (hz2.below k3).below kz
  have kw3 := hide (grow_step kz (grow_step k3 kw2.out))
  clear k3 kw2 hP2 hk2 hV2
  rcases hcase with ⟨hT, rfl, rfl, rfl, rfl, rfl⟩ | ⟨hT, rfl, hzv, hlv⟩
  ·have hfin := hide (hres.out _ (.inl ⟨hT, rfl⟩))
   clear hres kz
   go_wp2
   refine bodyPost_ret (results_tmp2 rfl _ _ _) rfl ?_
   obtain ⟨q, h1, h2, h3⟩ := hfin.out
   exact ⟨q, h1, h2, h3, kw3.out⟩
  ·replace hzv := hzv.below kz
   have e0 := x2.c0
   have e1 := x2.c1
   have e2 := x2.c2
   have z0 := z.c0
   have z1 := z.c1
   have hzl := z.lt
   generalize hX : fkk + ev fps (val1 vs) = X at *
   rcases hfit.kind5 with hk5 | hk5 | hk5 | hk5 | hk5
   ·dsimp only at hk5
    subst hk5
    have hfin := hide (hres.out (.returned (.tuple #[.bool false, .int .i64 0])) (.inr ⟨hT, false, rfl, by simp [Sat]⟩))
    clear hres kz
    go_wp2
    refine bodyPost_ret (results_tmp2 rfl _ _ _) rfl ?_
    obtain ⟨q, h1, h2, h3⟩ := hfin.out
    exact ⟨q, h1, h2, h3, kw3.out⟩
   ·dsimp only at hk5
    subst hk5
    have hfin := hide (hres.out (.returned (.tuple #[.bool true, .int .i64 0])) (.inr ⟨hT, true, rfl, by simp [Sat]⟩))
    clear hres kz
    go_wp2
    refine bodyPost_ret (results_tmp2 rfl _ _ _) rfl ?_
    obtain ⟨q, h1, h2, h3⟩ := hfin.out
    exact ⟨q, h1, h2, h3, kw3.out⟩
   ·dsimp only at hk5
    subst hk5
    have hfin := hide (hres.out (.returned (.tuple #[.bool (decide (0 < cmpI X 0)), .int .i64 0])) (.inr ⟨hT, _, rfl, by simp [Sat, hX, cmpI_pos]⟩))
    clear hres kz
    go_wp2_with fail
    generalize w3.alloc (.cells #[.bool s3, .slice a3 l3 c3] 24) = w4 at *
    refine (zsign_n hzv.zm (by omega)).mono ?_
    rintro e w5 ⟨rfl, k5⟩
    have kf := hide (grow_step k5 kw3.out)
    clear k5 kw3
    generalize cmpI X 0 = cz at *
    go_wp2
    refine bodyPost_ret (results_tmp2 rfl _ _ _) rfl ?_
    obtain ⟨q, h1, h2, h3⟩ := hfin.out
    exact ⟨q, h1, h2, h3, kf.out⟩
   ·dsimp only at hk5
    subst hk5
    have hpos : 0 < fd := hfit.dpos (.inl rfl)
    have hfin := hide (hres.out (.returned (.tuple #[.bool (decide (fd ∣ X)), .int .i64 0])) (.inr ⟨hT, _, rfl, by simp [Sat, hX]⟩))
    clear hres kz
    go_wp2_with fail
    generalize w3.alloc (.cells #[.bool s3, .slice a3 l3 c3] 24) = w4 at *
    refine (divides_n hz2.zm hzv.zm (by omega) (by omega) hpos).mono ?_
    rintro e w5 ⟨rfl, k5⟩
    have kf := hide (grow_step k5 kw3.out)
    clear k5 kw3
    generalize decide (fd ∣ X) = cz at *
    go_wp2
    refine bodyPost_ret (results_tmp2 rfl _ _ _) rfl ?_
    obtain ⟨q, h1, h2, h3⟩ := hfin.out
    exact ⟨q, h1, h2, h3, kf.out⟩
   ·dsimp only at hk5
    subst hk5
    have hpos : 0 < fd := hfit.dpos (.inr rfl)
    have hfin := hide (hres.out (.returned (.tuple #[.bool (!decide (fd ∣ X)), .int .i64 0])) (.inr ⟨hT, _, rfl, by simp [Sat, hX]⟩))
    clear hres kz
    go_wp2_with fail
    generalize w3.alloc (.cells #[.bool s3, .slice a3 l3 c3] 24) = w4 at *
    refine (divides_n hz2.zm hzv.zm (by omega) (by omega) hpos).mono ?_
    rintro e w5 ⟨rfl, k5⟩
    have kf := hide (grow_step k5 kw3.out)
    clear k5 kw3
    generalize decide (fd ∣ X) = cz at *
    go_wp2
    refine bodyPost_ret (results_tmp2 rfl _ _ _) rfl ?_
    obtain ⟨q, h1, h2, h3⟩ := hfin.out
    exact ⟨q, h1, h2, h3, kf.out⟩
end Go.Proofs.YtjlkmjonadkkdaaGreatDoor
