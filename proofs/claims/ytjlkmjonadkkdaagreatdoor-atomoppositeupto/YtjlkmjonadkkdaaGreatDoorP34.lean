/-
 The law AtomOpposite: its walk.
-/
import Derived.Test.YtjlkmjonadkkdaaGreatDoorP30
import Derived.Test.YtjlkmjonadkkdaaGreatDoorP29
import Derived.Test.YtjlkmjonadkkdaaGreatDoorP32
namespace Go.Proofs.YtjlkmjonadkkdaaGreatDoor
open Go.RowKit Go.Sort Go.Shelf
open Tm At

set_option maxRecDepth 100000 in
set_option maxHeartbeats 6400000 in
theorem atomOpposite_walk {w : World} {kd : Int} {sd : Bool} {ad : Option Addr} {ld cd : Nat} {ap : Option Addr} {np cp : Nat} {sk : Bool} {ak : Option Addr} {lk ck : Nat} {d k : Int} {ps : List (Int × Int)} {B : Nat} {ad2 : Option Addr} {n2 cp2 : Nat} {vs : List (Int × Int)}
  (hd : Zm w sd ad ld cd d) (hld : ld ≤ B) (hP : Pr w ap np ps B) (hk : Zm w sk ak lk ck k) (hlk : lk ≤ B) (hn : np ≤ 209716) (hV : Pr w ad2 n2 vs B) (hn2 : n2 ≤ B) (hB : B ≤ 1048576) (htab : Tab w) :
  Calls Tryz.prog 7 #[.agg #[.int .i64 kd, .bool sd, .slice ad ld cd, .slice ap np cp, .bool sk, .slice ak lk ck], .slice ad2 n2 cp2] w fun x w' => x = .returned (.bool true) ∧ Below w.heap.size w w' := by
 go_enter Tryz.func7, Tryz.ntmps7
 go_wp2_with fail
 have x := AB.new w kd sd ad ld cd ap np cp sk ak lk ck
 have b0 := below_alloc w (.cells #[.int .i64 kd, .bool sd, .slice ad ld cd, .slice ap np cp, .bool sk, .slice ak lk ck] 29)
 replace hd := hd.below b0
 replace hP := hP.below b0
 replace hk := hk.below b0
 replace hV := hV.below b0
 replace htab := htab.below b0
 generalize w.alloc (.cells #[.int .i64 kd, .bool sd, .slice ad ld cd, .slice ap np cp, .bool sk, .slice ak lk ck] 29) = wb at *
 generalize hp : w.heap.size = p at *
 replace b0 : Hid (Below w.heap.size w wb) := hp ▸ b0
 clear hp
 have hnps := hP.1
 refine (awake6_n wb htab).mono ?_
 rintro e w1 ⟨rfl, k1⟩
 replace x := x.below k1
 replace hd := hd.below k1
 replace hP := hP.below k1
 replace hk := hk.below k1
 replace hV := hV.below k1
 replace k1 := hide (grow_step k1 b0.out)
 clear b0 htab
 have u0 := x.c0
 have u1 := x.c1
 have u2 := x.c2
 have u3 := x.c3
 have u4 := x.c4
 have u5 := x.c5
 go_wp2_with fail
 refine (anorm_n hd hld hP hk hlk (by omega) (by omega)).mono ?_
 rintro e w3 ⟨qs, hS, hc, hA, k3⟩
 replace hV := hV.below k3
 replace x := x.below k3
 replace hd := hd.below k3
 replace hP := hP.below k3
 replace hk := hk.below k3
 replace k3 := hide (grow_step k3 k1.out)
 clear u0 u1 u2 u3 u4 u5 k1
 cases hf : formA kd d qs k with
 | inr er =>
  rw [hf] at hA
  have her := formA_er hf
  have he : _ = _ := hA
  subst he
  have kf := hide (grow_step (below_alloc w3 (.cells #[.int .i64 0, .bool false, .slice none 0 0, .slice none 0 0, .bool false, .slice none 0 0] 29)) k3.out)
  clear hf hS hA k3 hc hV x hd hP hk
  rcases her with rfl | rfl
  ·go_wp2
   go_ret
   exact ⟨rfl, kf.out⟩
  ·go_wp2
   go_ret
   exact ⟨rfl, kf.out⟩
 | inl f =>
  rw [hf] at hA
  have hfit := formA_fit hS hf
  have hprt := formA_prt hS hf
  have hlen : f.ps.length ≤ np := by have h1 := hprt.1; have h2 := std_len hS hc; omega
  have hag : formA f.kind f.d f.ps f.k = .inl f := hfit.again
  have hag2 : formA (negA f).kind (negA f).d (negA f).ps (negA f).k = .inl (negA f) := hfit.neg.again
  have hnn := negA_neg hfit
  have hns := negA_sat hfit (val1 vs)
  have hnt := tot_neg (a := f) (vs := vs)
  have hnl := negA_len f
  have hnf := hfit.neg
  generalize hF : negA f = F at *
  obtain ⟨ok, od, ops, okk⟩ := F
  obtain ⟨fk, fd, fps, fkk⟩ := f
  obtain ⟨sd1, ad1, ld1, cd1, ap1, np1, cp1, sk1, ak1, lk1, ck1, rfl, hz1, hlz1, hPn1, hnp1, hk1, hlk1, -⟩ := hA
  dsimp only at hz1 hPn1 hk1 hlen hag hag2 hnt hnl
  have hnp2 : np1 ≤ np := by have := hPn1.1; omega
  have y := AB.new w3 fk sd1 ad1 ld1 cd1 ap1 np1 cp1 sk1 ak1 lk1 ck1
  have ka := below_alloc w3 (.cells #[.int .i64 fk, .bool sd1, .slice ad1 ld1 cd1, .slice ap1 np1 cp1, .bool sk1, .slice ak1 lk1 ck1] 29)
  replace hz1 := hz1.below ka
  replace hPn1 := hPn1.below ka
  replace hk1 := hk1.below ka
  replace hV := hV.below ka
  have hxl := x.lt
  have u0 := x.c0
  have u1 := x.c1
  have u2 := x.c2
  have u3 := x.c3
  have u4 := x.c4
  have u5 := x.c5
  replace x := x.below ka
  replace hd := hd.below ka
  replace hP := hP.below ka
  replace hk := hk.below ka
  replace k3 := hide (grow_step ka k3.out)
  replace hfit := hide hfit
  replace hnf := hide hnf
  replace hag := hide hag
  replace hag2 := hide hag2
  replace hns := hide hns
  replace hnn := hide hnn
  replace hnt := hide hnt
  replace hF := hide hF
  replace hf := hide hf
  replace hS := hide hS
  replace hc := hide hc
  have HH := hide (And.intro y (And.intro hz1 (And.intro hPn1 (And.intro hk1 (And.intro hV (And.intro hd (And.intro hP hk)))))))
  clear ka hprt y hz1 hPn1 hk1 hV hd hP hk x
  go_wp2_with fail
  obtain ⟨y, hz1, hPn1, hk1, hV, hd, hP, hk⟩ := HH.out
  clear HH u0 u1 u2 u3 u4 u5
  generalize w3.alloc (.cells #[.int .i64 fk, .bool sd1, .slice ad1 ld1 cd1, .slice ap1 np1 cp1, .bool sk1, .slice ak1 lk1 ck1] 29) = wn at *
  generalize w3.heap.size = bn at *
  refine (anegate_n hd hld hP hk hlk (by omega) (by omega)).mono ?_
  rintro e w4 ⟨q4, hS4, hc4, hN, k4⟩
  obtain rfl : q4 = qs := std_unique hS4 hS.out fun v => (hc4 v).trans (hc.out v).symm
  rw [hf.out] at hN
  dsimp only [NG] at hN
  rw [hF.out] at hN
  obtain ⟨sd4, ad4, ld4, cd4, ap4, np4, cp4, sk4, ak4, lk4, ck4, rfl, hz4, hlz4, hPn4, hnp4, hk4, hlk4, -⟩ := hN
  dsimp only at hz4 hPn4 hk4
  have hnp5 : np4 ≤ np := by have h1 := hPn4.1; have h2 := hPn1.1; omega
  have y4 := AB.new w4 ok sd4 ad4 ld4 cd4 ap4 np4 cp4 sk4 ak4 lk4 ck4
  have ka := below_alloc w4 (.cells #[.int .i64 ok, .bool sd4, .slice ad4 ld4 cd4, .slice ap4 np4 cp4, .bool sk4, .slice ak4 lk4 ck4] 29)
  replace y := (y.below k4).below ka
  replace hz1 := (hz1.below k4).below ka
  replace hPn1 := (hPn1.below k4).below ka
  replace hk1 := (hk1.below k4).below ka
  replace hV := (hV.below k4).below ka
  replace hz4 := hz4.below ka
  replace hPn4 := hPn4.below ka
  replace hk4 := hk4.below ka
  replace k3 := hide (grow_step ka (grow_step k4 k3.out))
  clear k4 ka hd hP hk hS4 hc4 hc hS hf
  have HH := hide (And.intro y (And.intro y4 (And.intro hz1 (And.intro hPn1 (And.intro hk1 (And.intro hV (And.intro hz4 (And.intro hPn4 hk4))))))))
  clear y y4 hz1 hPn1 hk1 hV hz4 hPn4 hk4
  go_wp2_with fail
  obtain ⟨y, y4, hz1, hPn1, hk1, hV, hz4, hPn4, hk4⟩ := HH.out
  clear HH
  generalize w4.alloc (.cells #[.int .i64 ok, .bool sd4, .slice ad4 ld4 cd4, .slice ap4 np4 cp4, .bool sk4, .slice ak4 lk4 ck4] 29) = wo4 at *
  generalize w4.heap.size = bo at *
  refine (anegate_n hz4.zm hlz4 hPn4.pr hk4.zm hlk4 (by omega) (by omega)).mono ?_
  rintro e w5 ⟨q5, hS5, hc5, hN, k5⟩
  obtain rfl : q5 = ops := std_unique hS5 hnf.out.std hc5
  rw [hag2.out] at hN
  dsimp only [NG] at hN
  rw [hnn.out] at hN
  obtain ⟨sd5, ad5, ld5, cd5, ap5, np5, cp5, sk5, ak5, lk5, ck5, rfl, hz5, hlz5, hPn5, hnp6, hk5, hlk5, -⟩ := hN
  dsimp only at hz5 hPn5 hk5
  obtain rfl : np5 = np1 := hPn5.1.symm.trans hPn1.1
  have y5 := AB.new w5 fk sd5 ad5 ld5 cd5 ap5 np5 cp5 sk5 ak5 lk5 ck5
  have ka := below_alloc w5 (.cells #[.int .i64 fk, .bool sd5, .slice ad5 ld5 cd5, .slice ap5 np5 cp5, .bool sk5, .slice ak5 lk5 ck5] 29)
  have y' := y.below k5
  have u0 := y'.c0
  have u1 := y'.c1
  have u2 := y'.c2
  have u3 := y'.c3
  have u4 := y'.c4
  have u5 := y'.c5
  have hyl := y'.lt
  replace y := y'.below ka
  replace y4 := (y4.below k5).below ka
  replace hz1 := (hz1.below k5).below ka
  replace hPn1 := (hPn1.below k5).below ka
  replace hk1 := (hk1.below k5).below ka
  replace hV := (hV.below k5).below ka
  replace hz4 := (hz4.below k5).below ka
  replace hPn4 := (hPn4.below k5).below ka
  replace hk4 := (hk4.below k5).below ka
  replace hz5 := hz5.below ka
  replace hPn5 := hPn5.below ka
  replace hk5 := hk5.below ka
  replace k3 := hide (grow_step ka (grow_step k5 k3.out))
  have HH := hide (And.intro y (And.intro y4 (And.intro y5 (And.intro hz1 (And.intro hPn1 (And.intro hk1 (And.intro hV (And.intro hz4 (And.intro hPn4 (And.intro hk4 (And.intro hz5 (And.intro hPn5 hk5))))))))))))
  clear k5 ka hS5 hc5 hnn y y4 y5 hz1 hPn1 hk1 hV hz4 hPn4 hk4 hz5 hPn5 hk5 y'
  go_wp2_with fail
  obtain ⟨y, y4, y5, hz1, hPn1, hk1, hV, hz4, hPn4, hk4, hz5, hPn5, hk5⟩ := HH.out
  clear HH u0 u1 u2 u3 u4 u5
  generalize w5.alloc (.cells #[.int .i64 fk, .bool sd5, .slice ad5 ld5 cd5, .slice ap5 np5 cp5, .bool sk5, .slice ak5 lk5 ck5] 29) = wb5 at *
  generalize w5.heap.size = bb at *
  refine (aholds_n hz1.zm hlz1 hPn1.pr hk1.zm hlk1 (by omega) (by omega) hV (by omega) (by omega)).mono ?_
  rintro e w6 ⟨q6, hS6, hc6, hO, k6⟩
  obtain rfl : q6 = fps := std_unique hS6 hfit.out.std hc6
  rw [hag.out] at hO
  replace y := y.below k6
  replace y4 := y4.below k6
  replace y5 := y5.below k6
  replace hz1 := hz1.below k6
  replace hPn1 := hPn1.below k6
  replace hk1 := hk1.below k6
  replace hV := hV.below k6
  replace hz4 := hz4.below k6
  replace hPn4 := hPn4.below k6
  replace hk4 := hk4.below k6
  replace hz5 := hz5.below k6
  replace hPn5 := hPn5.below k6
  replace hk5 := hk5.below k6
  replace k3 := hide (grow_step k6 k3.out)
  have hcase : ∃ b6 e6, e = .returned (.tuple #[.bool b6, .int .i64 e6]) ∧ Hid ((¬ Tot q6 vs ∧ e6 = 170) ∨ (Tot q6 vs ∧ e6 = 0 ∧ (b6 = true ↔ Sat ⟨fk, fd, q6, fkk⟩ (val1 vs)))) := by
   rcases hO with ⟨h1, h2⟩ | ⟨h1, b, h2, h3⟩
   ·exact ⟨false, 170, h2, .inl ⟨h1, rfl⟩⟩
   ·exact ⟨b, 0, h2, .inr ⟨h1, rfl, h3⟩⟩
  obtain ⟨b6, e6, rfl, hcase⟩ := hcase
  clear hO hS6 hc6 k6
  have u0 := y4.c0
  have u1 := y4.c1
  have u2 := y4.c2
  have u3 := y4.c3
  have u4 := y4.c4
  have u5 := y4.c5
  go_wp2_with fail
  refine (aholds_n hz4.zm hlz4 hPn4.pr hk4.zm hlk4 (by omega) (by omega) hV (by omega) (by omega)).mono ?_
  rintro e w7 ⟨q7, hS7, hc7, hO, k7⟩
  obtain rfl : q7 = q5 := std_unique hS7 hnf.out.std hc7
  rw [hag2.out] at hO
  replace y := y.below k7
  replace y5 := y5.below k7
  replace hz1 := hz1.below k7
  replace hPn1 := hPn1.below k7
  replace hk1 := hk1.below k7
  replace hz5 := hz5.below k7
  replace hPn5 := hPn5.below k7
  replace hk5 := hk5.below k7
  replace k3 := hide (grow_step k7 k3.out)
  have hboth : ∃ b7, e = .returned (.tuple #[.bool b7, .int .i64 e6]) ∧ (e6 = 0 ∨ e6 = 170) ∧ (e6 = 0 → b6 = !b7) := by
   have hnt' := hnt.out
   have hns' := hns.out
   rcases hO with ⟨h1, h2⟩ | ⟨h1, b, h2, h3⟩
   ·rcases hcase.out with ⟨h4, rfl⟩ | ⟨h4, -, -⟩
    ·exact ⟨false, h2, .inr rfl, fun h => by cases h⟩
    ·exact absurd (hnt'.2 h4) h1
   ·rcases hcase.out with ⟨h4, -⟩ | ⟨h4, rfl, h5⟩
    ·exact absurd (hnt'.1 h1) h4
    ·refine ⟨b, h2, .inl rfl, fun _ => ?_⟩
     have h6 := h3.trans hns'
     cases b <;> cases b6 <;> simp_all
  obtain ⟨b7, rfl, he6, hb67⟩ := hboth
  clear hO hS7 hc7 k7 hcase hnt hns hz4 hPn4 hk4 y4 hV u0 u1 u2 u3 u4 u5
  have u0 := y.c0
  have u1 := y.c1
  have u2 := y.c2
  have u3 := y.c3
  have u4 := y.c4
  have u5 := y.c5
  have v0 := y5.c0
  have v1 := y5.c1
  have v2 := y5.c2
  have v3 := y5.c3
  have v4 := y5.c4
  have v5 := y5.c5
  rcases he6 with rfl | rfl
  ·obtain rfl := hb67 rfl
   go_wp2_with fail
   refine (same6_t (f := ⟨fk, fd, q6, fkk⟩) (B := B + 5 * np + 64 + 5 * np4 + 64) hfit.out.std hz5 hlz5 hPn5 hk5 hlk5 hz1 (by omega) (hPn1.mono (by omega)) hk1 (by omega) (by omega) (by omega)).mono ?_
   rintro e w8 ⟨rfl, k8⟩
   have kf := hide (grow_step k8 k3.out)
   clear k8 k3
   cases b7
   ·go_wp2
    go_ret
    exact ⟨rfl, kf.out⟩
   ·go_wp2
    go_ret
    exact ⟨rfl, kf.out⟩
  ·go_wp2_with fail
   refine (same6_t (f := ⟨fk, fd, q6, fkk⟩) (B := B + 5 * np + 64 + 5 * np4 + 64) hfit.out.std hz5 hlz5 hPn5 hk5 hlk5 hz1 (by omega) (hPn1.mono (by omega)) hk1 (by omega) (by omega) (by omega)).mono ?_
   rintro e w8 ⟨rfl, k8⟩
   have kf := hide (grow_step k8 k3.out)
   clear k8 k3
   go_wp2
   go_ret
   exact ⟨rfl, kf.out⟩
end Go.Proofs.YtjlkmjonadkkdaaGreatDoor
