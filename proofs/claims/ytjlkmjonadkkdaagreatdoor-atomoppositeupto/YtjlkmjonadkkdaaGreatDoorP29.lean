/-
 Layer 6: Order, Valid; Same of the reference.
-/
import Derived.Test.YtjlkmjonadkkdaaGreatDoorP27
import Derived.Test.YtjlkmjonadkkdaaGreatDoorP21
import Derived.Test.YtjlkmjonadkkdaaGreatDoorP14
import Derived.Test.YtjlkmjonadkkdaaGreatDoorP09
namespace Go.Proofs.YtjlkmjonadkkdaaGreatDoor
open Go.RowKit Go.Sort Go.Shelf
open Tm At

/-- the order of two atoms, field by field -/
def ordA (k1 k2 d1 d2 : Int) (ps qs : List (Int × Int)) (c1 c2 : Int) : Int := if cmpI k1 k2 ≠ 0 then cmpI k1 k2 else if cmpI d1 d2 ≠ 0 then cmpI d1 d2 else ordT ps qs c1 c2

theorem ordA_self (k d : Int) (ps : List (Int × Int)) (c : Int) : ordA k k d d ps ps c c = 0 := by simp [ordA, cmpI_self, ordT_self]

set_option maxRecDepth 100000 in
set_option maxHeartbeats 6400000 in
theorem aorder_n {w : World} {kd : Int} {sd : Bool} {ad : Option Addr} {ld cd : Nat} {ap : Option Addr} {np cp : Nat} {sk : Bool} {ak : Option Addr} {lk ck : Nat} {d k : Int} {ps : List (Int × Int)} {kd2 : Int} {sd2 : Bool} {ad2 : Option Addr} {ld2 cd2 : Nat} {ap2 : Option Addr} {np2 cp2 : Nat} {sk2 : Bool} {ak2 : Option Addr} {lk2 ck2 : Nat} {d2 k2 : Int} {qs : List (Int × Int)} {B : Nat}
  (hd : Zm w sd ad ld cd d) (hld : ld ≤ B) (hP : Pr w ap np ps B) (hk : Zm w sk ak lk ck k) (hlk : lk ≤ B) (hd2 : Zm w sd2 ad2 ld2 cd2 d2) (hld2 : ld2 ≤ B) (hP2 : Pr w ap2 np2 qs B) (hk2 : Zm w sk2 ak2 lk2 ck2 k2) (hlk2 : lk2 ≤ B) (hB : B + np ≤ 268435456) (hB2 : B + np2 ≤ 268435456) :
  Calls Tryz.prog 27 #[.agg #[.int .i64 kd, .bool sd, .slice ad ld cd, .slice ap np cp, .bool sk, .slice ak lk ck], .agg #[.int .i64 kd2, .bool sd2, .slice ad2 ld2 cd2, .slice ap2 np2 cp2, .bool sk2, .slice ak2 lk2 ck2]] w fun e w' => ∃ ps' qs', e = .returned (.int .i64 (ordA kd kd2 d d2 ps' qs' k k2)) ∧ Std ps' ∧ Std qs' ∧ (∀ v, csum ps' v = csum ps v) ∧ (∀ v, csum qs' v = csum qs v) ∧ Below w.heap.size w w' := by
 go_enter Tryz.func27, Tryz.ntmps27
 go_wp2_with fail
 have x := (AB.new w kd sd ad ld cd ap np cp sk ak lk ck).below (below_alloc _ (.cells #[.int .i64 kd2, .bool sd2, .slice ad2 ld2 cd2, .slice ap2 np2 cp2, .bool sk2, .slice ak2 lk2 ck2] 29))
 have y := AB.new (w.alloc (.cells #[.int .i64 kd, .bool sd, .slice ad ld cd, .slice ap np cp, .bool sk, .slice ak lk ck] 29)) kd2 sd2 ad2 ld2 cd2 ap2 np2 cp2 sk2 ak2 lk2 ck2
 have b0 : Below w.heap.size w ((w.alloc (.cells #[.int .i64 kd, .bool sd, .slice ad ld cd, .slice ap np cp, .bool sk, .slice ak lk ck] 29)).alloc (.cells #[.int .i64 kd2, .bool sd2, .slice ad2 ld2 cd2, .slice ap2 np2 cp2, .bool sk2, .slice ak2 lk2 ck2] 29)) := below_alloc' (below_alloc _ _) _
 rw [show (w.alloc (.cells #[.int .i64 kd, .bool sd, .slice ad ld cd, .slice ap np cp, .bool sk, .slice ak lk ck] 29)).heap.size = w.heap.size + 1 from by simp] at y
 generalize (w.alloc (.cells #[.int .i64 kd, .bool sd, .slice ad ld cd, .slice ap np cp, .bool sk, .slice ak lk ck] 29)).alloc (.cells #[.int .i64 kd2, .bool sd2, .slice ad2 ld2 cd2, .slice ap2 np2 cp2, .bool sk2, .slice ak2 lk2 ck2] 29) = wb at *
 replace hd := hd.below b0
 replace hP := hP.below b0
 replace hk := hk.below b0
 replace hd2 := hd2.below b0
 replace hP2 := hP2.below b0
 replace hk2 := hk2.below b0
 generalize hp : w.heap.size = p at *
 replace b0 : Hid (Below w.heap.size w wb) := hp ▸ b0
 clear hp
 generalize p + 1 = q at *
 refine (compare_n).mono ?_
 rintro e w1 ⟨rfl, k1⟩
 replace x := x.below k1
 replace y := y.below k1
 replace hd := hd.below k1
 replace hP := hP.below k1
 replace hk := hk.below k1
 replace hd2 := hd2.below k1
 replace hP2 := hP2.below k1
 replace hk2 := hk2.below k1
 have kk := hide (grow_step k1 b0.out)
 clear k1 b0
 by_cases hc1 : cmpI kd kd2 = 0
 ·rw [hc1]
  have e1 := x.c1
  have e2 := x.c2
  have f1 := y.c1
  have f2 := y.c2
  go_wp2_with fail
  refine (zcmp_n hd hd2 (by omega) (by omega)).mono ?_
  rintro e w2 ⟨rfl, k2⟩
  replace x := x.below k2
  replace y := y.below k2
  replace hP := hP.below k2
  replace hk := hk.below k2
  replace hP2 := hP2.below k2
  replace hk2 := hk2.below k2
  replace kk := hide (grow_step k2 kk.out)
  clear k2 e1 e2 f1 f2 hd hd2
  by_cases hc2 : cmpI d d2 = 0
  ·rw [hc2]
   have e3 := x.c3
   have e4 := x.c4
   have e5 := x.c5
   have f3 := y.c3
   have f4 := y.c4
   have f5 := y.c5
   go_wp2_with fail
   refine (torder_n hP hk hlk hP2 hk2 hlk2 hB hB2).mono ?_
   rintro e w3 ⟨ps', qs', rfl, h1, h2, h3, h4, k3⟩
   have hfin : Hid (ordT ps' qs' k k2 = ordA kd kd2 d d2 ps' qs' k k2) := (show _ = _ by unfold ordA; rw [if_neg (by simp [hc1]), if_neg (by simp [hc2])])
   replace kk := hide (grow_step k3 kk.out)
   generalize ordT ps' qs' k k2 = o at *
   replace h1 := hide h1
   replace h2 := hide h2
   replace h3 := hide h3
   replace h4 := hide h4
   clear k3 e3 e4 e5 f3 f4 f5
   go_wp2
   go_ret
   exact ⟨ps', qs', by rw [← hfin.out]; first | rfl | simp, h1.out, h2.out, h3.out, h4.out, kk.out⟩
  ·have hfin : Hid (cmpI d d2 = ordA kd kd2 d d2 (nz (lays [] ps)) (nz (lays [] qs)) k k2) := (show _ = _ by unfold ordA; rw [if_neg (by simp [hc1]), if_pos hc2])
   generalize cmpI d d2 = o at *
   have i0 : (o == 0) = false := by rw [beq_eq_false_iff_ne]; exact hc2
   go_wp2
   go_ret
   exact ⟨_, _, by rw [← hfin.out]; first | rfl | simp, std_lays ps, std_lays qs, fun v => csum_nzl ps v, fun v => csum_nzl qs v, kk.out⟩
 ·have hfin : Hid (cmpI kd kd2 = ordA kd kd2 d d2 (nz (lays [] ps)) (nz (lays [] qs)) k k2) := (show _ = _ by unfold ordA; rw [if_pos hc1])
  generalize cmpI kd kd2 = o at *
  have i0 : (o == 0) = false := by rw [beq_eq_false_iff_ne]; exact hc1
  go_wp2
  go_ret
  exact ⟨_, _, by rw [← hfin.out]; first | rfl | simp, std_lays ps, std_lays qs, fun v => csum_nzl ps v, fun v => csum_nzl qs v, kk.out⟩

set_option maxRecDepth 100000 in
set_option maxHeartbeats 6400000 in
/-- a form stands as it should -/
theorem avalid_t {w : World} {f : Atm} {sd : Bool} {ad : Option Addr} {ld cd : Nat} {ap : Option Addr} {np cp : Nat} {sk : Bool} {ak : Option Addr} {lk ck : Nat} {B : Nat}
  (hf : Fit f) (hd : Zn w sd ad ld cd f.d) (hld : ld ≤ B) (hP : Pn w ap np f.ps B) (hk : Zn w sk ak lk ck f.k) (hlk : lk ≤ B) (hn : np ≤ 262144) (hB : B + np + 1 ≤ 4194000) :
  Calls Tryz.prog 18 #[.agg #[.int .i64 f.kind, .bool sd, .slice ad ld cd, .slice ap np cp, .bool sk, .slice ak lk ck]] w fun e w' => e = .returned (.bool true) ∧ Below w.heap.size w w' := by
 obtain ⟨fk, fd, fps, fkk⟩ := f
 dsimp only at hd hP hk ⊢
 replace hf := hide hf
 go_enter Tryz.func18, Tryz.ntmps18
 go_wp2_with fail
 have x := AB.new w fk sd ad ld cd ap np cp sk ak lk ck
 have b0 := below_alloc w (.cells #[.int .i64 fk, .bool sd, .slice ad ld cd, .slice ap np cp, .bool sk, .slice ak lk ck] 29)
 replace hd := hd.below b0
 replace hP := hP.below b0
 replace hk := hk.below b0
 generalize w.alloc (.cells #[.int .i64 fk, .bool sd, .slice ad ld cd, .slice ap np cp, .bool sk, .slice ak lk ck] 29) = wb at *
 generalize hp : w.heap.size = p at *
 replace b0 : Hid (Below w.heap.size w wb) := hp ▸ b0
 clear hp
 refine (anorm_n hd.zm hld hP.pr hk.zm hlk hn hB).mono ?_
 rintro e w1 ⟨qs, hS, hc, hA, k1⟩
 obtain rfl : qs = fps := std_unique hS hf.out.std hc
 have hag : formA fk fd qs fkk = .inl ⟨fk, fd, qs, fkk⟩ := hf.out.again
 rw [hag] at hA
 obtain ⟨sd1, ad1, ld1, cd1, ap1, np1, cp1, sk1, ak1, lk1, ck1, rfl, hz1, hlz1, hPn1, hnp1, hk1, hlk1, -⟩ := hA
 dsimp only at hz1 hPn1 hk1
 obtain rfl : np1 = np := hPn1.1.symm.trans hP.1
 clear hag hc
 have y := AB.new w1 fk sd1 ad1 ld1 cd1 ap1 np1 cp1 sk1 ak1 lk1 ck1
 have ka := below_alloc w1 (.cells #[.int .i64 fk, .bool sd1, .slice ad1 ld1 cd1, .slice ap1 np1 cp1, .bool sk1, .slice ak1 lk1 ck1] 29)
 have x1 := x.below k1
 have e1 := x1.c1
 have e2 := x1.c2
 have e3 := x1.c3
 have e4 := x1.c4
 have e5 := x1.c5
 have hxl := x1.lt
 replace x := x1.below ka
 replace hd := (hd.below k1).below ka
 replace hP := (hP.below k1).below ka
 replace hk := (hk.below k1).below ka
 replace hz1 := hz1.below ka
 replace hPn1 := hPn1.below ka
 replace hk1 := hk1.below ka
 have kk := hide (grow_step ka (grow_step k1 b0.out))
 clear k1 b0
 have HH := hide (And.intro x (And.intro y (And.intro hd (And.intro hP (And.intro hk (And.intro hz1 (And.intro hPn1 hk1)))))))
 clear x y hd hP hk hz1 hPn1 hk1 ka x1
 go_wp2_with fail
 obtain ⟨x, y, hd, hP, hk, hz1, hPn1, hk1⟩ := HH.out
 clear HH e1 e2 e3 e4 e5
 generalize w1.alloc (.cells #[.int .i64 fk, .bool sd1, .slice ad1 ld1 cd1, .slice ap1 np1 cp1, .bool sk1, .slice ak1 lk1 ck1] 29) = wn at *
 generalize w1.heap.size = bn at *
 obtain ⟨xd, hrd, hsd, -⟩ := hd.stands
 refine (zvalid_n hrd).mono ?_
 rintro e w2 ⟨rfl, k2⟩
 rw [hsd]
 replace x := x.below k2
 replace y := y.below k2
 replace hd := hd.below k2
 replace hP := hP.below k2
 replace hk := hk.below k2
 replace hz1 := hz1.below k2
 replace hPn1 := hPn1.below k2
 replace hk1 := hk1.below k2
 replace kk := hide (grow_step k2 kk.out)
 clear k2 hrd hsd
 have e3 := x.c3
 have e4 := x.c4
 have e5 := x.c5
 go_wp2_with fail
 obtain ⟨X, hX, hVX⟩ := pn_px hP hS
 obtain ⟨xk, hrk, hsk, -⟩ := hk.stands
 refine (tvalid_n hX hrk (by omega) (by omega)).mono ?_
 rintro e w3 ⟨b3, rfl, hb3, k3⟩
 obtain rfl := hb3.2 ⟨hVX, hsk⟩
 replace x := x.below k3
 replace y := y.below k3
 replace hd := hd.below k3
 replace hP := hP.below k3
 replace hk := hk.below k3
 replace hz1 := hz1.below k3
 replace hPn1 := hPn1.below k3
 replace hk1 := hk1.below k3
 replace kk := hide (grow_step k3 kk.out)
 clear k3 hX hVX hrk hsk hb3 e3 e4 e5
 have e0 := x.c0
 have e1 := x.c1
 have e2 := x.c2
 have e3 := x.c3
 have e4 := x.c4
 have e5 := x.c5
 have f0 := y.c0
 have f1 := y.c1
 have f2 := y.c2
 have f3 := y.c3
 have f4 := y.c4
 have f5 := y.c5
 go_wp2_with fail
 refine (aorder_n (B := B + np1 + 16) hd.zm (by omega) (hP.pr.mono (by omega)) hk.zm (by omega) hz1.zm hlz1 hPn1.pr hk1.zm hlk1 (by omega) (by omega)).mono ?_
 rintro e w4 ⟨ps', qs', rfl, h1, h2, h3, h4, k4⟩
 obtain rfl : ps' = qs := std_unique h1 hS h3
 obtain rfl : qs' = ps' := std_unique h2 hS h4
 rw [ordA_self]
 have kf := hide (grow_step k4 kk.out)
 clear k4 kk h1 h2 h3 h4 e0 e1 e2 e3 e4 e5 f0 f1 f2 f3 f4 f5
 go_wp2
 go_ret
 exact ⟨rfl, kf.out⟩

set_option maxRecDepth 100000 in
set_option maxHeartbeats 6400000 in
/-- a form is the same as itself, wherever both lie -/
theorem same6_t {w : World} {f : Atm} {sd : Bool} {ad : Option Addr} {ld cd : Nat} {ap : Option Addr} {np cp : Nat} {sk : Bool} {ak : Option Addr} {lk ck : Nat} {sd2 : Bool} {ad2 : Option Addr} {ld2 cd2 : Nat} {ap2 : Option Addr} {np2 cp2 : Nat} {sk2 : Bool} {ak2 : Option Addr} {lk2 ck2 : Nat} {B : Nat}
  (hS : Std f.ps) (hd : Zn w sd ad ld cd f.d) (hld : ld ≤ B) (hP : Pn w ap np f.ps B) (hk : Zn w sk ak lk ck f.k) (hlk : lk ≤ B) (hd2 : Zn w sd2 ad2 ld2 cd2 f.d) (hld2 : ld2 ≤ B) (hP2 : Pn w ap2 np2 f.ps B) (hk2 : Zn w sk2 ak2 lk2 ck2 f.k) (hlk2 : lk2 ≤ B) (hB : B + np ≤ 268435456) (hB2 : B + np2 ≤ 268435456) :
  Calls Tryz.prog 19 #[.agg #[.int .i64 f.kind, .bool sd, .slice ad ld cd, .slice ap np cp, .bool sk, .slice ak lk ck], .agg #[.int .i64 f.kind, .bool sd2, .slice ad2 ld2 cd2, .slice ap2 np2 cp2, .bool sk2, .slice ak2 lk2 ck2]] w fun e w' => e = .returned (.bool true) ∧ Below w.heap.size w w' := by
 obtain ⟨fk, fd, fps, fkk⟩ := f
 dsimp only at hS hd hP hk hd2 hP2 hk2 ⊢
 go_enter Tryz.func19, Tryz.ntmps19
 go_wp2_with fail
 have x := (AB.new w fk sd ad ld cd ap np cp sk ak lk ck).below (below_alloc _ (.cells #[.int .i64 fk, .bool sd2, .slice ad2 ld2 cd2, .slice ap2 np2 cp2, .bool sk2, .slice ak2 lk2 ck2] 29))
 have y := AB.new (w.alloc (.cells #[.int .i64 fk, .bool sd, .slice ad ld cd, .slice ap np cp, .bool sk, .slice ak lk ck] 29)) fk sd2 ad2 ld2 cd2 ap2 np2 cp2 sk2 ak2 lk2 ck2
 have b0 : Below w.heap.size w ((w.alloc (.cells #[.int .i64 fk, .bool sd, .slice ad ld cd, .slice ap np cp, .bool sk, .slice ak lk ck] 29)).alloc (.cells #[.int .i64 fk, .bool sd2, .slice ad2 ld2 cd2, .slice ap2 np2 cp2, .bool sk2, .slice ak2 lk2 ck2] 29)) := below_alloc' (below_alloc _ _) _
 rw [show (w.alloc (.cells #[.int .i64 fk, .bool sd, .slice ad ld cd, .slice ap np cp, .bool sk, .slice ak lk ck] 29)).heap.size = w.heap.size + 1 from by simp] at y
 generalize (w.alloc (.cells #[.int .i64 fk, .bool sd, .slice ad ld cd, .slice ap np cp, .bool sk, .slice ak lk ck] 29)).alloc (.cells #[.int .i64 fk, .bool sd2, .slice ad2 ld2 cd2, .slice ap2 np2 cp2, .bool sk2, .slice ak2 lk2 ck2] 29) = wb at *
 replace hd := hd.below b0
 replace hP := hP.below b0
 replace hk := hk.below b0
 replace hd2 := hd2.below b0
 replace hP2 := hP2.below b0
 replace hk2 := hk2.below b0
 replace hS := hide hS
 generalize hp : w.heap.size = p at *
 replace b0 : Hid (Below w.heap.size w wb) := hp ▸ b0
 clear hp
 generalize p + 1 = q at *
 refine (ris_t hd hd2.zm (by omega) (by omega) rfl).mono ?_
 rintro e w1 ⟨rfl, k1⟩
 replace x := x.below k1
 replace y := y.below k1
 replace hd2 := hd2.below k1
 replace hP := hP.below k1
 replace hk := hk.below k1
 replace hP2 := hP2.below k1
 replace hk2 := hk2.below k1
 have kk := hide (grow_step k1 b0.out)
 clear k1 b0 hd
 have f1 := y.c1
 have f2 := y.c2
 go_wp2_with fail
 refine (rvalid_t hd2 (by omega)).mono ?_
 rintro e w2 ⟨rfl, k2⟩
 replace x := x.below k2
 replace y := y.below k2
 replace hP := hP.below k2
 replace hk := hk.below k2
 replace hP2 := hP2.below k2
 replace hk2 := hk2.below k2
 replace kk := hide (grow_step k2 kk.out)
 clear k2 hd2 f1 f2
 have e3 := x.c3
 have e4 := x.c4
 have e5 := x.c5
 have f3 := y.c3
 have f4 := y.c4
 have f5 := y.c5
 go_wp2_with fail
 refine (same5_t hS.out hP hk hlk hP2 hk2 hlk2 hB hB2).mono ?_
 rintro e w3 ⟨rfl, k3⟩
 replace x := x.below k3
 replace y := y.below k3
 replace kk := hide (grow_step k3 kk.out)
 clear k3 e3 e4 e5 f3 f4 f5
 have e0 := x.c0
 have f0 := y.c0
 go_wp2
 go_ret
 exact ⟨rfl, kk.out⟩
end Go.Proofs.YtjlkmjonadkkdaaGreatDoor
