/-
 The law AtomMeans: its walk.
-/
import Derived.Test.YtjlkmjonadkkdaaGreatDoorP30
import Derived.Test.YtjlkmjonadkkdaaGreatDoorP29
import Derived.Test.YtjlkmjonadkkdaaGreatDoorP28
namespace Go.Proofs.YtjlkmjonadkkdaaGreatDoor
open Go.RowKit Go.Sort Go.Shelf
open Tm At

set_option maxRecDepth 100000 in
set_option maxHeartbeats 6400000 in
theorem atomMeans_walk {w : World} {kd : Int} {sd : Bool} {ad : Option Addr} {ld cd : Nat} {ap : Option Addr} {np cp : Nat} {sk : Bool} {ak : Option Addr} {lk ck : Nat} {d k : Int} {ps : List (Int × Int)} {B : Nat} {ad2 : Option Addr} {n2 cp2 : Nat} {vs : List (Int × Int)}
  (hd : Zm w sd ad ld cd d) (hld : ld ≤ B) (hP : Pr w ap np ps B) (hk : Zm w sk ak lk ck k) (hlk : lk ≤ B) (hn : np ≤ 209716) (hV : Pr w ad2 n2 vs B) (hn2 : n2 ≤ B) (hB : B ≤ 1048576) (htab : Tab w) :
  Calls Tryz.prog 6 #[.agg #[.int .i64 kd, .bool sd, .slice ad ld cd, .slice ap np cp, .bool sk, .slice ak lk ck], .slice ad2 n2 cp2] w fun x w' => x = .returned (.bool true) ∧ Below w.heap.size w w' := by
 go_enter Tryz.func6, Tryz.ntmps6
 go_wp2_with fail
 have x := AB.new w kd sd ad ld cd ap np cp sk ak lk ck
 have b0 := below_alloc w (.cells #[.int .i64 kd, .bool sd, .slice ad ld cd, .slice ap np cp, .bool sk, .slice ak lk ck] 29)
 replace hd := hd.below b0
 replace hP := hP.below b0
 replace hk := hk.below b0
 replace hV := hV.below b0
 replace htab := htab.below b0
 generalize w.alloc (.cells #[.int .i64 kd, .bool sd, .slice ad ld cd, .slice ap np cp, .bool sk, .slice ak lk ck] 29) = wb at *
 generalize hp : w.heap.size = p at *
 replace b0 : Hid (Below w.heap.size w wb) := hp ▸ b0
 clear hp
 have hnps := hP.1
 refine (awake6_n wb htab).mono ?_
 rintro e w1 ⟨rfl, k1⟩
 replace x := x.below k1
 replace hd := hd.below k1
 replace hP := hP.below k1
 replace hk := hk.below k1
 replace hV := hV.below k1
 replace k1 := hide (grow_step k1 b0.out)
 clear b0 htab
 have u0 := x.c0
 have u1 := x.c1
 have u2 := x.c2
 have u3 := x.c3
 have u4 := x.c4
 have u5 := x.c5
 go_wp2_with fail
 refine (means_n hd hld hP hk hlk hV (by omega)).mono ?_
 rintro e w2 ⟨bw, ok, rfl, hM, k2⟩
 replace x := x.below k2
 replace hd := hd.below k2
 replace hP := hP.below k2
 replace hk := hk.below k2
 replace hV := hV.below k2
 replace k2 := hide (grow_step k2 k1.out)
 clear u0 u1 u2 u3 u4 u5 k1
 have u0 := x.c0
 have u1 := x.c1
 have u2 := x.c2
 have u3 := x.c3
 have u4 := x.c4
 have u5 := x.c5
 go_wp2_with fail
 refine (anorm_n hd hld hP hk hlk (by omega) (by omega)).mono ?_
 rintro e w3 ⟨qs, hS, hc, hA, k3⟩
 replace hV := hV.below k3
 replace k3 := hide (grow_step k3 k2.out)
 clear u0 u1 u2 u3 u4 u5 x hd hP hk k2
 cases hf : formA kd d qs k with
 | inr er =>
  rw [hf] at hA
  have her := formA_er hf
  have he : _ = _ := hA
  subst he
  have kf := hide (grow_step (below_alloc w3 (.cells #[.int .i64 0, .bool false, .slice none 0 0, .slice none 0 0, .bool false, .slice none 0 0] 29)) k3.out)
  clear hf hS hA k3 hM hc hV
  rcases her with rfl | rfl
  ·cases ok
   ·go_wp2
    go_ret
    exact ⟨rfl, kf.out⟩
   ·go_wp2
    go_ret
    exact ⟨rfl, kf.out⟩
  ·cases ok
   ·go_wp2
    go_ret
    exact ⟨rfl, kf.out⟩
   ·go_wp2
    go_ret
    exact ⟨rfl, kf.out⟩
 | inl f =>
  rw [hf] at hA
  have hfit := formA_fit hS hf
  have hprt := formA_prt hS hf
  have hlen : f.ps.length ≤ np := by have h1 := hprt.1; have h2 := std_len hS hc; omega
  have hag : formA f.kind f.d f.ps f.k = .inl f := hfit.again
  have hsat := formA_sat hS hf (val1 vs)
  rw [sat_congr (ev_congr hc (val1 vs))] at hsat
  have htot : (kd = 0 ∨ kd = 1 ∨ Tot ps vs) → Tot f.ps vs := by
   intro h
   by_cases h01 : kd = 0 ∨ kd = 1
   ·unfold formA at hf
    rw [if_pos h01] at hf
    cases hf
    intro v hv
    exact absurd rfl hv
   ·rcases h with h | h | h
    ·exact absurd (.inl h) h01
    ·exact absurd (.inr h) h01
    ·exact hprt.tot (tot_congr hc h)
  obtain ⟨fk, fd, fps, fkk⟩ := f
  obtain ⟨sd1, ad1, ld1, cd1, ap1, np1, cp1, sk1, ak1, lk1, ck1, rfl, hz1, hlz1, hPn1, hnp1, hk1, hlk1, -⟩ := hA
  dsimp only at hz1 hPn1 hk1 hlen hag htot
  have hnp2 : np1 ≤ np := by have := hPn1.1; omega
  have y := AB.new w3 fk sd1 ad1 ld1 cd1 ap1 np1 cp1 sk1 ak1 lk1 ck1
  have ka := below_alloc w3 (.cells #[.int .i64 fk, .bool sd1, .slice ad1 ld1 cd1, .slice ap1 np1 cp1, .bool sk1, .slice ak1 lk1 ck1] 29)
  replace hz1 := hz1.below ka
  replace hPn1 := hPn1.below ka
  replace hk1 := hk1.below ka
  replace hV := hV.below ka
  replace k3 := hide (grow_step ka k3.out)
  replace hfit := hide hfit
  replace hag := hide hag
  clear ka hf hprt
  cases ok with
  | false =>
   clear hM hS hc hsat htot
   go_wp2
   go_ret
   exact ⟨rfl, k3.out⟩
  | true =>
   have hT : Tot fps vs := htot (hM rfl).2
   have hbw : Hid (bw = true ↔ Sat ⟨fk, fd, fps, fkk⟩ (val1 vs)) := (hM rfl).1.trans hsat.symm
   replace hT := hide hT
   clear hM hS hc hsat htot
   have u0 := y.c0
   have u1 := y.c1
   have u2 := y.c2
   have u3 := y.c3
   have u4 := y.c4
   have u5 := y.c5
   have hyl := y.lt
   go_wp2_with fail
   generalize w3.alloc (.cells #[.int .i64 fk, .bool sd1, .slice ad1 ld1 cd1, .slice ap1 np1 cp1, .bool sk1, .slice ak1 lk1 ck1] 29) = wn at *
   generalize w3.heap.size = bn at *
   refine (aholds_n hz1.zm hlz1 hPn1.pr hk1.zm hlk1 (by omega) (by omega) hV (by omega) (by omega)).mono ?_
   rintro e w4 ⟨q4, hS4, hc4, hO, k4⟩
   obtain rfl : q4 = fps := std_unique hS4 hfit.out.std hc4
   rw [hag.out] at hO
   rcases hO with ⟨hno, -⟩ | ⟨-, b4, rfl, hb4⟩
   ·exact absurd hT.out hno
   obtain rfl : b4 = bw := by
    have h9 : b4 = true ↔ bw = true := hb4.trans hbw.out.symm
    cases b4 <;> cases bw <;> simp_all
   clear hb4 hbw hT hS4 hc4 hV
   replace y := y.below k4
   replace hz1 := hz1.below k4
   replace hPn1 := hPn1.below k4
   replace hk1 := hk1.below k4
   replace k3 := hide (grow_step k4 k3.out)
   clear k4 u0 u1 u2 u3 u4 u5
   have u0 := y.c0
   have u1 := y.c1
   have u2 := y.c2
   have u3 := y.c3
   have u4 := y.c4
   have u5 := y.c5
   go_wp2_with fail
   refine (avalid_t (f := ⟨fk, fd, q4, fkk⟩) hfit.out hz1 hlz1 hPn1 hk1 hlk1 (by omega) (by omega)).mono ?_
   rintro e w5 ⟨rfl, k5⟩
   replace y := y.below k5
   replace hz1 := hz1.below k5
   replace hPn1 := hPn1.below k5
   replace hk1 := hk1.below k5
   replace k3 := hide (grow_step k5 k3.out)
   clear k5 u0 u1 u2 u3 u4 u5
   have u0 := y.c0
   have u1 := y.c1
   have u2 := y.c2
   have u3 := y.c3
   have u4 := y.c4
   have u5 := y.c5
   go_wp2_with fail
   refine (anorm_n hz1.zm hlz1 hPn1.pr hk1.zm hlk1 (by omega) (by omega)).mono ?_
   rintro e w6 ⟨q6, hS6, hc6, hA6, k6⟩
   obtain rfl : q6 = q4 := std_unique hS6 hfit.out.std hc6
   rw [hag.out] at hA6
   obtain ⟨sd2, ad3, ld2, cd2, ap2, np2, cp3, sk2, ak2, lk2, ck2, rfl, hz2, hlz2, hPn2, hnp3, hk2, hlk2, -⟩ := hA6
   dsimp only at hz2 hPn2 hk2
   obtain rfl : np2 = np1 := hPn2.1.symm.trans hPn1.1
   have y2 := AB.new w6 fk sd2 ad3 ld2 cd2 ap2 np2 cp3 sk2 ak2 lk2 ck2
   have ka := below_alloc w6 (.cells #[.int .i64 fk, .bool sd2, .slice ad3 ld2 cd2, .slice ap2 np2 cp3, .bool sk2, .slice ak2 lk2 ck2] 29)
   replace y := y.below k6
   replace hz1 := (hz1.below k6).below ka
   replace hPn1 := (hPn1.below k6).below ka
   replace hk1 := (hk1.below k6).below ka
   replace hz2 := hz2.below ka
   replace hPn2 := hPn2.below ka
   replace hk2 := hk2.below ka
   have yy := y.below ka
   have hstd := hide hfit.out.std
   replace k3 := hide (grow_step ka (grow_step k6 k3.out))
   clear k6 u0 u1 u2 u3 u4 u5 hS6 hc6 ka hag hfit
   have u0 := y.c0
   have u1 := y.c1
   have u2 := y.c2
   have u3 := y.c3
   have u4 := y.c4
   have u5 := y.c5
   have hyl2 := y.lt
   have HH := hide (And.intro hz1 (And.intro hPn1 (And.intro hk1 (And.intro hz2 (And.intro hPn2 hk2)))))
   clear hz1 hPn1 hk1 hz2 hPn2 hk2 y yy y2
   go_wp2_with fail
   obtain ⟨hz1, hPn1, hk1, hz2, hPn2, hk2⟩ := HH.out
   clear HH
   refine (same6_t (f := ⟨fk, fd, q6, fkk⟩) (B := B + np + 16 + np2 + 16) hstd.out hz2 hlz2 hPn2 hk2 hlk2 hz1 (by omega) (hPn1.mono (by omega)) hk1 (by omega) (by omega) (by omega)).mono ?_
   rintro e w7 ⟨rfl, k7⟩
   have kf := hide (grow_step k7 k3.out)
   clear k7 k3
   go_wp2
   go_ret
   exact ⟨rfl, kf.out⟩
end Go.Proofs.YtjlkmjonadkkdaaGreatDoor
