/-
 Several texts in one: BN, BO, BP, BQ, BR, BS, LAtomForms.
-/
import Derived.Test.YtjlkmjonadkkdaaGreatDoorQ31
import Derived.Test.YtjlkmjonadkkdaaGreatDoorQ29
namespace Go.Proofs.YtjlkmjonadkkdaaGreatDoor
open Go.RowKit Go.Sort Go.Shelf
open Tm At

set_option maxRecDepth 100000 in
set_option maxHeartbeats 6400000 in
theorem rnorm6_n {w : World} {kd : Int} {sd : Bool} {ad : Option Addr} {ld cd : Nat} {ap : Option Addr} {np cp : Nat} {sk : Bool} {ak : Option Addr} {lk ck : Nat} {d k : Int} {ps : List (Int × Int)} {B : Nat}
  (hd : Zm w sd ad ld cd d) (hld : ld ≤ B) (hP : Pr w ap np ps B) (hk : Zm w sk ak lk ck k) (hlk : lk ≤ B) (hn : np ≤ 262144) (hB : B + np ≤ 4194000) :
  Calls Tryz.prog 17 #[.agg #[.int .i64 kd, .bool sd, .slice ad ld cd, .slice ap np cp, .bool sk, .slice ak lk ck]] w fun e w' => AN w' e (formA kd d (nz (lays [] ps)) k) (8 * B + 16 * np + 100) w.heap.size ∧ Below w.heap.size w w' := by
 by_cases h0 : kd = 0
 ·subst h0
  have y := AB.new (w.alloc (.cells #[.int .i64 0, .bool sd, .slice ad ld cd, .slice ap np cp, .bool sk, .slice ak lk ck] 29)) 0 false none 0 0 none 0 0 false none 0 0
  rw [show (w.alloc (.cells #[.int .i64 0, .bool sd, .slice ad ld cd, .slice ap np cp, .bool sk, .slice ak lk ck] 29)).heap.size = w.heap.size + 1 from by simp] at y
  have b0 : Below w.heap.size w ((w.alloc (.cells #[.int .i64 0, .bool sd, .slice ad ld cd, .slice ap np cp, .bool sk, .slice ak lk ck] 29)).alloc (.cells #[.int .i64 0, .bool false, .slice none 0 0, .slice none 0 0, .bool false, .slice none 0 0] 29)) := below_alloc' (below_alloc _ _) _
  have HH := hide (And.intro y b0)
  clear y b0
  go_enter Tryz.func17, Tryz.ntmps17
  go_wp2
  obtain ⟨y, b0⟩ := HH.out
  refine bodyPost_ret (results_ct rfl _ _ (w.heap.size + 1) 29 _ (0, 0) _ rfl y Tryz.underlying29 rfl (by kernel_rfl)) rfl ?_
  exact ⟨⟨false, none, 0, 0, none, 0, 0, false, none, 0, 0, rfl, zn_zero _, by omega, pn_nil _ _ _, by omega, zn_zero _, by omega, fun _ _ h => by cases h⟩, b0⟩
 by_cases h1 : kd = 1
 ·subst h1
  have y := AB.new (w.alloc (.cells #[.int .i64 1, .bool sd, .slice ad ld cd, .slice ap np cp, .bool sk, .slice ak lk ck] 29)) 1 false none 0 0 none 0 0 false none 0 0
  rw [show (w.alloc (.cells #[.int .i64 1, .bool sd, .slice ad ld cd, .slice ap np cp, .bool sk, .slice ak lk ck] 29)).heap.size = w.heap.size + 1 from by simp] at y
  have b0 : Below w.heap.size w ((w.alloc (.cells #[.int .i64 1, .bool sd, .slice ad ld cd, .slice ap np cp, .bool sk, .slice ak lk ck] 29)).alloc (.cells #[.int .i64 1, .bool false, .slice none 0 0, .slice none 0 0, .bool false, .slice none 0 0] 29)) := below_alloc' (below_alloc _ _) _
  have HH := hide (And.intro y b0)
  clear y b0
  go_enter Tryz.func17, Tryz.ntmps17
  go_wp2
  obtain ⟨y, b0⟩ := HH.out
  refine bodyPost_ret (results_ct rfl _ _ (w.heap.size + 1) 29 _ (0, 0) _ rfl y Tryz.underlying29 rfl (by kernel_rfl)) rfl ?_
  exact ⟨⟨false, none, 0, 0, none, 0, 0, false, none, 0, 0, rfl, zn_zero _, by omega, pn_nil _ _ _, by omega, zn_zero _, by omega, fun _ _ h => by cases h⟩, b0⟩
 by_cases h2 : kd = 2
 ·subst h2
  clear h0 h1
  have x := (AB.new w 2 sd ad ld cd ap np cp sk ak lk ck).below (below_alloc _ (.cells #[.int .i64 0, .bool false, .slice none 0 0, .slice none 0 0, .bool false, .slice none 0 0] 29))
  have y := AB.new (w.alloc (.cells #[.int .i64 2, .bool sd, .slice ad ld cd, .slice ap np cp, .bool sk, .slice ak lk ck] 29)) 0 false none 0 0 none 0 0 false none 0 0
  rw [show (w.alloc (.cells #[.int .i64 2, .bool sd, .slice ad ld cd, .slice ap np cp, .bool sk, .slice ak lk ck] 29)).heap.size = w.heap.size + 1 from by simp] at y
  have b0 : Below w.heap.size w ((w.alloc (.cells #[.int .i64 2, .bool sd, .slice ad ld cd, .slice ap np cp, .bool sk, .slice ak lk ck] 29)).alloc (.cells #[.int .i64 0, .bool false, .slice none 0 0, .slice none 0 0, .bool false, .slice none 0 0] 29)) := below_alloc' (below_alloc _ _) _
  have HH := hide (And.intro x (And.intro y (And.intro b0 (And.intro (hP.below b0) (And.intro (hd.below b0) (hk.below b0))))))
  clear x y b0
  go_enter Tryz.func17, Tryz.ntmps17
  go_wp2_with fail
  obtain ⟨x, y, b0, hP, hd, hk⟩ := HH.out
  clear HH
  generalize (w.alloc (.cells #[.int .i64 2, .bool sd, .slice ad ld cd, .slice ap np cp, .bool sk, .slice ak lk ck] 29)).alloc (.cells #[.int .i64 0, .bool false, .slice none 0 0, .slice none 0 0, .bool false, .slice none 0 0] 29) = wb at *
  have hr : w.heap.size ≤ w.heap.size + 1 := by omega
  generalize w.heap.size + 1 = r at *
  generalize hp : w.heap.size = p at *
  replace hp := hide hp
  refine (rless6_n hP hk hlk (by omega) (by omega)).mono ?_
  rintro e w1 ⟨⟨sd1, ad1, ld1, cd1, ap1, np1, cp1, sk1, ak1, lk1, ck1, rfl, hz1, hlz1, hPn1, hnp1, hk1, hlk1, hnew1⟩, k1⟩
  have hfm : Hid (formA 2 d (nz (lays [] ps)) k = .inl (lessF (nz (lays [] ps)) k)) := (show _ = _ by unfold formA; rw [if_neg (by decide), if_pos rfl])
  generalize lessF (nz (lays [] ps)) k = ff at *
  have hrl := y.lt
  replace y := y.below k1
  have e0 := y.c0
  have e1 := y.c1
  have e2 := y.c2
  have e3 := y.c3
  have e4 := y.c4
  have e5 := y.c5
  have f0 := y.f 0
  have f1 := y.f 1
  have f2 := y.f 2
  have f3 := y.f 3
  have f4 := y.f 4
  have f5 := y.f 5
  have g6 := ab_set w1 r (.int .i64 ff.kind) (.bool sd1) (.slice ad1 ld1 cd1) (.slice ap1 np1 cp1) (.bool sk1) (.slice ak1 lk1 ck1)
  have hPf := hide (hPn1.away (fun b off e => by have := hnew1 b off e; omega) g6 (ab_noU y))
  have hzf := hide (hk1.grownU g6 (ab_noU y))
  have hdf := hide (hz1.grownU g6 (ab_noU y))
  have kf := hide (below_grown (grow_step k1 (show Below w.heap.size w wb from hp.out.symm ▸ b0)) g6 (by have := hp.out; omega))
  have hnw : Hid (∀ b off, ap1 = some ⟨b, off, none⟩ → w.heap.size ≤ b) := (fun b off e => by have h1 := hnew1 b off e; have h2 := hp.out; omega)
  clear g6 hPn1 hk1 hz1 hnew1 hP hd hk x b0 k1
  go_wp2
  refine bodyPost_ret (results_ct rfl _ _ r 29 _ (0, 0) _ rfl (ab_fin y ff.kind sd1 ad1 ld1 cd1 ap1 np1 cp1 sk1 ak1 lk1 ck1) Tryz.underlying29 rfl (by kernel_rfl)) rfl ?_
  refine ⟨?_, kf.out⟩
  rw [hfm.out]
  exact ⟨sd1, ad1, ld1, cd1, ap1, np1, cp1, sk1, ak1, lk1, ck1, by simp, hdf.out, by omega, hPf.out.mono (by omega), by omega, hzf.out, by omega, hnw.out⟩
 by_cases h3 : kd = 3
 ·subst h3
  clear h0 h1 h2
  have x := (AB.new w 3 sd ad ld cd ap np cp sk ak lk ck).below (below_alloc _ (.cells #[.int .i64 0, .bool false, .slice none 0 0, .slice none 0 0, .bool false, .slice none 0 0] 29))
  have y := AB.new (w.alloc (.cells #[.int .i64 3, .bool sd, .slice ad ld cd, .slice ap np cp, .bool sk, .slice ak lk ck] 29)) 0 false none 0 0 none 0 0 false none 0 0
  rw [show (w.alloc (.cells #[.int .i64 3, .bool sd, .slice ad ld cd, .slice ap np cp, .bool sk, .slice ak lk ck] 29)).heap.size = w.heap.size + 1 from by simp] at y
  have b0 : Below w.heap.size w ((w.alloc (.cells #[.int .i64 3, .bool sd, .slice ad ld cd, .slice ap np cp, .bool sk, .slice ak lk ck] 29)).alloc (.cells #[.int .i64 0, .bool false, .slice none 0 0, .slice none 0 0, .bool false, .slice none 0 0] 29)) := below_alloc' (below_alloc _ _) _
  have HH := hide (And.intro x (And.intro y (And.intro b0 (And.intro (hP.below b0) (And.intro (hd.below b0) (hk.below b0))))))
  clear x y b0
  go_enter Tryz.func17, Tryz.ntmps17
  go_wp2_with fail
  obtain ⟨x, y, b0, hP, hd, hk⟩ := HH.out
  clear HH
  generalize (w.alloc (.cells #[.int .i64 3, .bool sd, .slice ad ld cd, .slice ap np cp, .bool sk, .slice ak lk ck] 29)).alloc (.cells #[.int .i64 0, .bool false, .slice none 0 0, .slice none 0 0, .bool false, .slice none 0 0] 29) = wb at *
  have hr : w.heap.size ≤ w.heap.size + 1 := by omega
  generalize w.heap.size + 1 = r at *
  generalize hp : w.heap.size = p at *
  replace hp := hide hp
  by_cases hd0 : d = 0
  ·subst hd0
   have hfm : Hid (formA 3 0 (nz (lays [] ps)) k = .inr 11) := (show _ = _ by unfold formA; rw [if_neg (by decide), if_neg (by decide), if_pos (by decide), if_pos rfl])
   refine (rparted_false (B := B) hd hld hP hk hlk (by omega) (by omega)).mono ?_
   rintro e w1 ⟨hRP, k1⟩
   obtain ⟨-, hz⟩ : (0 : Int) = 0 ∧ AZ e 11 := by
    rcases hRP with h | ⟨h, -⟩
    ·exact h
    ·exact absurd rfl h
   unfold AZ at hz
   subst hz
   replace y := y.below k1
   have e0 := y.c0
   have e1 := y.c1
   have e2 := y.c2
   have e3 := y.c3
   have e4 := y.c4
   have e5 := y.c5
   have f0 := y.f 0
   have f1 := y.f 1
   have f2 := y.f 2
   have f3 := y.f 3
   have f4 := y.f 4
   have f5 := y.f 5
   have g6 := ab_set w1 r (.int .i64 0) (.bool false) (.slice none 0 0) (.slice none 0 0) (.bool false) (.slice none 0 0)
   have kf := hide (below_grown (grow_step k1 (show Below w.heap.size w wb from hp.out.symm ▸ b0)) g6 (by have := hp.out; omega))
   clear g6 hP hd hk x b0 k1
   go_wp2
   refine bodyPost_ret (results_ct rfl _ _ r 29 _ (0, 0) _ rfl (ab_fin y 0 false none 0 0 none 0 0 false none 0 0) Tryz.underlying29 rfl (by kernel_rfl)) rfl ?_
   exact ⟨by rw [hfm.out]; exact rfl, kf.out⟩
  ·refine (rparted_false (B := B) hd hld hP hk hlk (by omega) (by omega)).mono ?_
   rintro e w1 ⟨hRP, k1⟩
   rcases hRP with ⟨h, -⟩ | ⟨-, hAE⟩
   ·exact absurd h hd0
   obtain ⟨sd1, ad1, ld1, cd1, ap1, np1, cp1, sk1, ak1, lk1, ck1, rfl, hz1, hlz1, hPn1, hnp1, hk1, hlk1, hnew1⟩ := hAE
   have hfm : Hid (formA 3 d (nz (lays [] ps)) k = .inl (divF 3 d (nz (lays [] ps)) k)) := (show _ = _ by unfold formA; rw [if_neg (by decide), if_neg (by decide), if_pos (by decide), if_neg hd0])
   generalize divF 3 d (nz (lays [] ps)) k = ff at *
   have hrl := y.lt
   replace y := y.below k1
   have e0 := y.c0
   have e1 := y.c1
   have e2 := y.c2
   have e3 := y.c3
   have e4 := y.c4
   have e5 := y.c5
   have f0 := y.f 0
   have f1 := y.f 1
   have f2 := y.f 2
   have f3 := y.f 3
   have f4 := y.f 4
   have f5 := y.f 5
   have g6 := ab_set w1 r (.int .i64 ff.kind) (.bool sd1) (.slice ad1 ld1 cd1) (.slice ap1 np1 cp1) (.bool sk1) (.slice ak1 lk1 ck1)
   have hPf := hide (hPn1.away (fun b off e => by have := hnew1 b off e; omega) g6 (ab_noU y))
   have hzf := hide (hk1.grownU g6 (ab_noU y))
   have hdf := hide (hz1.grownU g6 (ab_noU y))
   have kf := hide (below_grown (grow_step k1 (show Below w.heap.size w wb from hp.out.symm ▸ b0)) g6 (by have := hp.out; omega))
   have hnw : Hid (∀ b off, ap1 = some ⟨b, off, none⟩ → w.heap.size ≤ b) := (fun b off e => by have h1 := hnew1 b off e; have h2 := hp.out; omega)
   clear g6 hPn1 hk1 hz1 hnew1 hP hd hk x b0 k1
   go_wp2
   refine bodyPost_ret (results_ct rfl _ _ r 29 _ (0, 0) _ rfl (ab_fin y ff.kind sd1 ad1 ld1 cd1 ap1 np1 cp1 sk1 ak1 lk1 ck1) Tryz.underlying29 rfl (by kernel_rfl)) rfl ?_
   refine ⟨?_, kf.out⟩
   rw [hfm.out]
   exact ⟨sd1, ad1, ld1, cd1, ap1, np1, cp1, sk1, ak1, lk1, ck1, by simp, hdf.out, by omega, hPf.out.mono (by omega), by omega, hzf.out, by omega, hnw.out⟩
 by_cases h4 : kd = 4
 ·subst h4
  clear h0 h1 h2 h3
  have x := (AB.new w 4 sd ad ld cd ap np cp sk ak lk ck).below (below_alloc _ (.cells #[.int .i64 0, .bool false, .slice none 0 0, .slice none 0 0, .bool false, .slice none 0 0] 29))
  have y := AB.new (w.alloc (.cells #[.int .i64 4, .bool sd, .slice ad ld cd, .slice ap np cp, .bool sk, .slice ak lk ck] 29)) 0 false none 0 0 none 0 0 false none 0 0
  rw [show (w.alloc (.cells #[.int .i64 4, .bool sd, .slice ad ld cd, .slice ap np cp, .bool sk, .slice ak lk ck] 29)).heap.size = w.heap.size + 1 from by simp] at y
  have b0 : Below w.heap.size w ((w.alloc (.cells #[.int .i64 4, .bool sd, .slice ad ld cd, .slice ap np cp, .bool sk, .slice ak lk ck] 29)).alloc (.cells #[.int .i64 0, .bool false, .slice none 0 0, .slice none 0 0, .bool false, .slice none 0 0] 29)) := below_alloc' (below_alloc _ _) _
  have HH := hide (And.intro x (And.intro y (And.intro b0 (And.intro (hP.below b0) (And.intro (hd.below b0) (hk.below b0))))))
  clear x y b0
  go_enter Tryz.func17, Tryz.ntmps17
  go_wp2_with fail
  obtain ⟨x, y, b0, hP, hd, hk⟩ := HH.out
  clear HH
  generalize (w.alloc (.cells #[.int .i64 4, .bool sd, .slice ad ld cd, .slice ap np cp, .bool sk, .slice ak lk ck] 29)).alloc (.cells #[.int .i64 0, .bool false, .slice none 0 0, .slice none 0 0, .bool false, .slice none 0 0] 29) = wb at *
  have hr : w.heap.size ≤ w.heap.size + 1 := by omega
  generalize w.heap.size + 1 = r at *
  generalize hp : w.heap.size = p at *
  replace hp := hide hp
  by_cases hd0 : d = 0
  ·subst hd0
   have hfm : Hid (formA 4 0 (nz (lays [] ps)) k = .inr 11) := (show _ = _ by unfold formA; rw [if_neg (by decide), if_neg (by decide), if_pos (by decide), if_pos rfl])
   refine (rparted_true (B := B) hd hld hP hk hlk (by omega) (by omega)).mono ?_
   rintro e w1 ⟨hRP, k1⟩
   obtain ⟨-, hz⟩ : (0 : Int) = 0 ∧ AZ e 11 := by
    rcases hRP with h | ⟨h, -⟩
    ·exact h
    ·exact absurd rfl h
   unfold AZ at hz
   subst hz
   replace y := y.below k1
   have e0 := y.c0
   have e1 := y.c1
   have e2 := y.c2
   have e3 := y.c3
   have e4 := y.c4
   have e5 := y.c5
   have f0 := y.f 0
   have f1 := y.f 1
   have f2 := y.f 2
   have f3 := y.f 3
   have f4 := y.f 4
   have f5 := y.f 5
   have g6 := ab_set w1 r (.int .i64 0) (.bool false) (.slice none 0 0) (.slice none 0 0) (.bool false) (.slice none 0 0)
   have kf := hide (below_grown (grow_step k1 (show Below w.heap.size w wb from hp.out.symm ▸ b0)) g6 (by have := hp.out; omega))
   clear g6 hP hd hk x b0 k1
   go_wp2
   refine bodyPost_ret (results_ct rfl _ _ r 29 _ (0, 0) _ rfl (ab_fin y 0 false none 0 0 none 0 0 false none 0 0) Tryz.underlying29 rfl (by kernel_rfl)) rfl ?_
   exact ⟨by rw [hfm.out]; exact rfl, kf.out⟩
  ·refine (rparted_true (B := B) hd hld hP hk hlk (by omega) (by omega)).mono ?_
   rintro e w1 ⟨hRP, k1⟩
   rcases hRP with ⟨h, -⟩ | ⟨-, hAE⟩
   ·exact absurd h hd0
   obtain ⟨sd1, ad1, ld1, cd1, ap1, np1, cp1, sk1, ak1, lk1, ck1, rfl, hz1, hlz1, hPn1, hnp1, hk1, hlk1, hnew1⟩ := hAE
   have hfm : Hid (formA 4 d (nz (lays [] ps)) k = .inl (divF 4 d (nz (lays [] ps)) k)) := (show _ = _ by unfold formA; rw [if_neg (by decide), if_neg (by decide), if_pos (by decide), if_neg hd0])
   generalize divF 4 d (nz (lays [] ps)) k = ff at *
   have hrl := y.lt
   replace y := y.below k1
   have e0 := y.c0
   have e1 := y.c1
   have e2 := y.c2
   have e3 := y.c3
   have e4 := y.c4
   have e5 := y.c5
   have f0 := y.f 0
   have f1 := y.f 1
   have f2 := y.f 2
   have f3 := y.f 3
   have f4 := y.f 4
   have f5 := y.f 5
   have g6 := ab_set w1 r (.int .i64 ff.kind) (.bool sd1) (.slice ad1 ld1 cd1) (.slice ap1 np1 cp1) (.bool sk1) (.slice ak1 lk1 ck1)
   have hPf := hide (hPn1.away (fun b off e => by have := hnew1 b off e; omega) g6 (ab_noU y))
   have hzf := hide (hk1.grownU g6 (ab_noU y))
   have hdf := hide (hz1.grownU g6 (ab_noU y))
   have kf := hide (below_grown (grow_step k1 (show Below w.heap.size w wb from hp.out.symm ▸ b0)) g6 (by have := hp.out; omega))
   have hnw : Hid (∀ b off, ap1 = some ⟨b, off, none⟩ → w.heap.size ≤ b) := (fun b off e => by have h1 := hnew1 b off e; have h2 := hp.out; omega)
   clear g6 hPn1 hk1 hz1 hnew1 hP hd hk x b0 k1
   go_wp2
   refine bodyPost_ret (results_ct rfl _ _ r 29 _ (0, 0) _ rfl (ab_fin y ff.kind sd1 ad1 ld1 cd1 ap1 np1 cp1 sk1 ak1 lk1 ck1) Tryz.underlying29 rfl (by kernel_rfl)) rfl ?_
   refine ⟨?_, kf.out⟩
   rw [hfm.out]
   exact ⟨sd1, ad1, ld1, cd1, ap1, np1, cp1, sk1, ak1, lk1, ck1, by simp, hdf.out, by omega, hPf.out.mono (by omega), by omega, hzf.out, by omega, hnw.out⟩
 ·have i0 : (kd == 0) = false := by rw [beq_eq_false_iff_ne]; exact h0
  have i1 : (kd == 1) = false := by rw [beq_eq_false_iff_ne]; exact h1
  have i2 : (kd == 2) = false := by rw [beq_eq_false_iff_ne]; exact h2
  have i3 : (kd == 3) = false := by rw [beq_eq_false_iff_ne]; exact h3
  have i4 : (kd == 4) = false := by rw [beq_eq_false_iff_ne]; exact h4
  have hfm : Hid (formA kd d (nz (lays [] ps)) k = .inr 1) := (show _ = _ by unfold formA; rw [if_neg (by omega), if_neg h2, if_neg (by omega)])
  clear h0 h1 h2 h3 h4
  have y := AB.new (w.alloc (.cells #[.int .i64 kd, .bool sd, .slice ad ld cd, .slice ap np cp, .bool sk, .slice ak lk ck] 29)) 0 false none 0 0 none 0 0 false none 0 0
  rw [show (w.alloc (.cells #[.int .i64 kd, .bool sd, .slice ad ld cd, .slice ap np cp, .bool sk, .slice ak lk ck] 29)).heap.size = w.heap.size + 1 from by simp] at y
  have b0 : Below w.heap.size w ((w.alloc (.cells #[.int .i64 kd, .bool sd, .slice ad ld cd, .slice ap np cp, .bool sk, .slice ak lk ck] 29)).alloc (.cells #[.int .i64 0, .bool false, .slice none 0 0, .slice none 0 0, .bool false, .slice none 0 0] 29)) := below_alloc' (below_alloc _ _) _
  have HH := hide (And.intro y b0)
  clear y b0
  go_enter Tryz.func17, Tryz.ntmps17
  go_wp2
  obtain ⟨y, b0⟩ := HH.out
  refine bodyPost_ret (results_ct rfl _ _ (w.heap.size + 1) 29 _ (0, 0) _ rfl y Tryz.underlying29 rfl (by kernel_rfl)) rfl ?_
  exact ⟨by rw [hfm.out]; rfl, b0⟩
end Go.Proofs.YtjlkmjonadkkdaaGreatDoor

namespace Go.Proofs.YtjlkmjonadkkdaaGreatDoor
open Go.RowKit Go.Sort Go.Shelf
open Tm At

set_option maxRecDepth 100000 in
set_option maxHeartbeats 1600000 in
theorem rsame7_n {s1 s2 : Bool} {a1 a2 : Option Addr} {l1 c1 l2 c2 : Nat} {z1 z2 : Int} {w : World} (h1 : Zm w s1 a1 l1 c1 z1) (h2 : Zm w s2 a2 l2 c2 z2) (hl1 : l1 ≤ 1099511627776) (hl2 : l2 ≤ 1099511627776) :
  Calls Tryz.prog 103 #[.agg #[.bool s1, .slice a1 l1 c1], .agg #[.bool s2, .slice a2 l2 c2]] w fun e w' => e = .returned (.bool (cmpI z1 z2 == 0)) ∧ Below w.heap.size w w' := by
 go_enter Tryz.func103, Tryz.ntmps103
 go_wp2_with fail
 have x := (zb_new w s1 a1 l1 c1).below (below_alloc _ (.cells #[.bool s2, .slice a2 l2 c2] 24))
 have x2 := zb_new (w.alloc (.cells #[.bool s1, .slice a1 l1 c1] 24)) s2 a2 l2 c2
 have b0 : Below w.heap.size w ((w.alloc (.cells #[.bool s1, .slice a1 l1 c1] 24)).alloc (.cells #[.bool s2, .slice a2 l2 c2] 24)) := below_alloc' (below_alloc _ _) _
 rw [show (w.alloc (.cells #[.bool s1, .slice a1 l1 c1] 24)).heap.size = w.heap.size + 1 from by simp] at x2
 replace h1 := h1.below b0
 replace h2 := h2.below b0
 generalize (w.alloc (.cells #[.bool s1, .slice a1 l1 c1] 24)).alloc (.cells #[.bool s2, .slice a2 l2 c2] 24) = wb at *
 generalize hp : w.heap.size = p at *
 replace hp := hide hp
 generalize p + 1 = q at *
 refine (rcmp2_n h1 h2 hl1 hl2).mono ?_
 rintro e w1 ⟨rfl, k1⟩
 generalize hcz : cmpI z1 z2 = cz at *
 replace hcz := hide hcz
 go_wp2
 go_ret
 exact ⟨by simp [hcz.out], hp.out.symm ▸ b0.trans (k1.mono (Nat.le_of_lt x.lt))⟩

set_option maxRecDepth 100000 in
set_option maxHeartbeats 1600000 in
theorem ris7_n {s1 s2 : Bool} {a1 a2 : Option Addr} {l1 c1 l2 c2 : Nat} {xs : List Int} {z2 : Int} {w : World} (h1 : Rd w a1 l1 c1 xs) (h2 : Zm w s2 a2 l2 c2 z2) (hl1 : l1 ≤ 1099511627776) (hl2 : l2 ≤ 1099511627776) :
  Calls Tryz.prog 57 #[.agg #[.bool s1, .slice a1 l1 c1], .agg #[.bool s2, .slice a2 l2 c2]] w fun e w' => e = .returned (.bool (StandsB s1 l1 xs && (cmpI (sg s1 (val xs)) z2 == 0))) ∧ Below w.heap.size w w' := by
 go_enter Tryz.func57, Tryz.ntmps57
 go_wp2_with fail
 have x := (zb_new w s1 a1 l1 c1).below (below_alloc _ (.cells #[.bool s2, .slice a2 l2 c2] 24))
 have x2 := zb_new (w.alloc (.cells #[.bool s1, .slice a1 l1 c1] 24)) s2 a2 l2 c2
 have b0 : Below w.heap.size w ((w.alloc (.cells #[.bool s1, .slice a1 l1 c1] 24)).alloc (.cells #[.bool s2, .slice a2 l2 c2] 24)) := below_alloc' (below_alloc _ _) _
 rw [show (w.alloc (.cells #[.bool s1, .slice a1 l1 c1] 24)).heap.size = w.heap.size + 1 from by simp] at x2
 replace h1 := h1.below b0
 replace h2 := h2.below b0
 generalize (w.alloc (.cells #[.bool s1, .slice a1 l1 c1] 24)).alloc (.cells #[.bool s2, .slice a2 l2 c2] 24) = wb at *
 generalize hp : w.heap.size = p at *
 replace hp := hide hp
 generalize p + 1 = q at *
 refine (rvalid_n h1 hl1).mono ?_
 rintro e w1 ⟨rfl, k1⟩
 generalize hst : StandsB s1 l1 xs = st at *
 replace hst := hide hst
 have u0 := (x.below k1).c0
 have u1 := (x.below k1).c1
 have u2 := (x2.below k1).c0
 have u3 := (x2.below k1).c1
 go_wp2_with fail
 refine (rsame7_n (zm_rd (s := s1) (h1.below k1)) (h2.below k1) hl1 hl2).mono ?_
 rintro e w2 ⟨rfl, k2⟩
 generalize hcz : (cmpI (sg s1 (val xs)) z2 == 0) = cz at *
 replace hcz := hide hcz
 clear u0 u1 u2 u3
 cases st <;> cases cz <;> (go_wp2; go_ret; exact ⟨by rw [hst.out, hcz.out]; rfl, hp.out.symm ▸ b0.trans ((grow_step k2 k1).mono (Nat.le_of_lt x.lt))⟩)


set_option maxRecDepth 100000 in
set_option maxHeartbeats 3200000 in
theorem same5_n {w : World} {ad : Option Addr} {n cp : Nat} {s : Bool} {a : Option Addr} {l c : Nat} {ps : List (Int × Int)} {k : Int} {X : List (Int × Bool × List Int)} {xs : List Int} {ad2 : Option Addr} {n2 cp2 : Nat} {s2 : Bool} {a2 : Option Addr} {l2 c2 : Nat} {qs : List (Int × Int)} {m2 : Int} {Y : List (Int × Bool × List Int)} {ys : List Int} {B : Nat} (hP : Pr w ad n ps B) (hX : PX w ad n X B) (hz : Zm w s a l c k) (hr : Rd w a l c xs) (hl : l ≤ B) (hP2 : Pr w ad2 n2 qs B) (hY : PX w ad2 n2 Y B) (hz2 : Zm w s2 a2 l2 c2 m2) (hr2 : Rd w a2 l2 c2 ys) (hl2 : l2 ≤ B) (hB : B + n ≤ 268435456) (hB2 : B + n2 ≤ 268435456) :
  Calls Tryz.prog 59 #[.agg #[.slice ad n cp, .bool s, .slice a l c], .agg #[.slice ad2 n2 cp2, .bool s2, .slice a2 l2 c2]] w fun e w' => ∃ b, e = .returned (.bool b) ∧ (b = true ↔ (VX X ∧ StandsB s l xs = true) ∧ (VX Y ∧ StandsB s2 l2 ys = true) ∧ ordT (nz (lays [] ps)) (nz (lays [] qs)) k m2 = 0) ∧ Below w.heap.size w w' := by
 go_enter Tryz.func59, Tryz.ntmps59
 go_wp2_with fail
 have x := (tb_new w ad n cp s a l c).below (below_alloc _ (.cells #[.slice ad2 n2 cp2, .bool s2, .slice a2 l2 c2] 27))
 have y := tb_new (w.alloc (.cells #[.slice ad n cp, .bool s, .slice a l c] 27)) ad2 n2 cp2 s2 a2 l2 c2
 have b0 : Below w.heap.size w ((w.alloc (.cells #[.slice ad n cp, .bool s, .slice a l c] 27)).alloc (.cells #[.slice ad2 n2 cp2, .bool s2, .slice a2 l2 c2] 27)) := below_alloc' (below_alloc _ _) _
 rw [show (w.alloc (.cells #[.slice ad n cp, .bool s, .slice a l c] 27)).heap.size = w.heap.size + 1 from by simp] at y
 generalize (w.alloc (.cells #[.slice ad n cp, .bool s, .slice a l c] 27)).alloc (.cells #[.slice ad2 n2 cp2, .bool s2, .slice a2 l2 c2] 27) = wb at *
 replace hP := hP.below b0
 replace hX := hX.below b0
 replace hz := hz.below b0
 replace hr := hr.below b0
 replace hP2 := hP2.below b0
 replace hY := hY.below b0
 replace hz2 := hz2.below b0
 replace hr2 := hr2.below b0
 generalize hp : w.heap.size = p at *
 replace b0 : Hid (Below w.heap.size w wb) := hp ▸ b0
 replace hp := hide hp
 generalize p + 1 = q at *
 refine (rvalid5_n hX hr hl (by omega) (by omega)).mono ?_
 rintro e w1 ⟨b1, rfl, hb1, k1⟩
 replace k1 := hide k1
 replace hb1 := hide hb1
 have y0 := (y.below k1.out).c0
 have y1 := (y.below k1.out).c1
 have y2 := (y.below k1.out).c2
 go_wp2_with fail
 refine (rvalid5_n (hY.below k1.out) (hr2.below k1.out) hl2 (by omega) (by omega)).mono ?_
 rintro e w2 ⟨b2, rfl, hb2, k2⟩
 replace hb2 := hide hb2
 clear y0 y1 y2
 replace k2 := hide (grow_step k2 k1.out)
 clear k1
 have x0 := (x.below k2.out).c0
 have x1 := (x.below k2.out).c1
 have x2 := (x.below k2.out).c2
 have y0 := (y.below k2.out).c0
 have y1 := (y.below k2.out).c1
 have y2 := (y.below k2.out).c2
 go_wp2_with fail
 refine (rorder5_n (hP.below k2.out) (hz.below k2.out) hl (hP2.below k2.out) (hz2.below k2.out) hl2 hB hB2).mono ?_
 rintro e w3 ⟨rfl, k3⟩
 have kf : Hid (Below w.heap.size w w3) := b0.out.trans ((grow_step k3 k2.out).mono b0.out.size)
 clear k3 x0 x1 x2 y0 y1 y2
 by_cases ho : ordT (nz (lays [] ps)) (nz (lays [] qs)) k m2 = 0
 ·rw [ho]
  replace ho := hide ho
  cases b1 <;> cases b2 <;> (go_wp2; go_ret; refine ⟨_, rfl, ⟨fun h => ?_, fun h => ?_⟩, kf.out⟩; (first | exact absurd h Bool.false_ne_true | exact ⟨hb1.out.1 (by trivial), hb2.out.1 (by trivial), ho.out⟩); (have e1 := hb1.out.2 h.1); (have e2 := hb2.out.2 h.2.1); (first | rfl | exact absurd e1 Bool.false_ne_true | exact absurd e2 Bool.false_ne_true))
 ·generalize hov : ordT (nz (lays [] ps)) (nz (lays [] qs)) k m2 = ov at *
  replace hov := hide hov
  have i0 : (ov == 0) = false := by rw [beq_eq_false_iff_ne]; exact ho
  replace ho := hide ho
  cases b1 <;> cases b2 <;> (go_wp2; go_ret; exact ⟨_, rfl, ⟨(fun h => by cases h), (fun h => absurd (hov.out.symm.trans h.2.2) ho.out)⟩, kf.out⟩)
end Go.Proofs.YtjlkmjonadkkdaaGreatDoor

namespace Go.Proofs.YtjlkmjonadkkdaaGreatDoor
open Go.RowKit Go.Sort Go.Shelf
open Tm At

/-- what a raw atom's numbers read as, limb by limb -/
structure AR (w : World) (sd : Bool) (ad : Option Addr) (ld cd : Nat) (ap : Option Addr) (np : Nat) (sk : Bool) (ak : Option Addr) (lk ck : Nat) (d : Int) (ps : List (Int × Int)) (k : Int) (xd : List Int) (X : List (Int × Bool × List Int)) (xk : List Int) (B : Nat) : Prop where
 hd : Rd w ad ld cd xd
 hv : d = sg sd (val xd)
 hld : ld ≤ B
 hP : Pr w ap np ps B
 hX : PX w ap np X B
 hz : Zm w sk ak lk ck k
 hr : Rd w ak lk ck xk
 hlk : lk ≤ B
theorem AR.below {w w' : World} {sd : Bool} {ad : Option Addr} {ld cd : Nat} {ap : Option Addr} {np : Nat} {sk : Bool} {ak : Option Addr} {lk ck : Nat} {d : Int} {ps : List (Int × Int)} {k : Int} {xd : List Int} {X : List (Int × Bool × List Int)} {xk : List Int} {B : Nat} (h : AR w sd ad ld cd ap np sk ak lk ck d ps k xd X xk B) (b : Below w.heap.size w w') : AR w' sd ad ld cd ap np sk ak lk ck d ps k xd X xk B :=
 ⟨h.hd.below b, h.hv, h.hld, h.hP.below b, h.hX.below b, h.hz.below b, h.hr.below b, h.hlk⟩
theorem AR.zd {w : World} {sd : Bool} {ad : Option Addr} {ld cd : Nat} {ap : Option Addr} {np : Nat} {sk : Bool} {ak : Option Addr} {lk ck : Nat} {d : Int} {ps : List (Int × Int)} {k : Int} {xd : List Int} {X : List (Int × Bool × List Int)} {xk : List Int} {B : Nat} (h : AR w sd ad ld cd ap np sk ak lk ck d ps k xd X xk B) : Zm w sd ad ld cd d := by
 rw [h.hv]
 exact zm_rd h.hd
theorem ar_of {w : World} {sd : Bool} {ad : Option Addr} {ld cd : Nat} {ap : Option Addr} {np : Nat} {sk : Bool} {ak : Option Addr} {lk ck : Nat} {d : Int} {ps : List (Int × Int)} {k : Int} {B : Nat} (hd : Zm w sd ad ld cd d) (hld : ld ≤ B) (hP : Pr w ap np ps B) (hk : Zm w sk ak lk ck k) (hlk : lk ≤ B) : ∃ xd X xk, AR w sd ad ld cd ap np sk ak lk ck d ps k xd X xk B := by
 obtain ⟨n, ⟨xd, h1, rfl⟩, h2⟩ := hd
 obtain ⟨X, hX⟩ := pr_px hP
 have hk' := hk
 obtain ⟨m, ⟨xk, g1, rfl⟩, g2⟩ := hk
 exact ⟨xd, X, xk, h1, h2, hld, hP, hX, hk', g1, hlk⟩

/-- a bool that tells whether something is so -/
def SB6 (e : Ending) (P : Prop) : Prop := ∃ b, e = .returned (.bool b) ∧ (b = true ↔ P)
/-- two atoms that are the same, and stand as they should -/
def CD6 (kd kd2 d d2 : Int) (sd : Bool) (ld : Nat) (xd : List Int) (sd2 : Bool) (ld2 : Nat) (yd : List Int) (X : List (Int × Bool × List Int)) (sk : Bool) (lk : Nat) (xk : List Int) (Y : List (Int × Bool × List Int)) (sk2 : Bool) (lk2 : Nat) (yk : List Int) (ps qs : List (Int × Int)) (k m2 : Int) : Prop :=
 kd = kd2 ∧ (StandsB sd ld xd = true ∧ d = d2) ∧ StandsB sd2 ld2 yd = true ∧ (VX X ∧ StandsB sk lk xk = true) ∧ (VX Y ∧ StandsB sk2 lk2 yk = true) ∧ ordT (nz (lays [] ps)) (nz (lays [] qs)) k m2 = 0

set_option maxRecDepth 100000 in
set_option maxHeartbeats 6400000 in
theorem same6_n {w : World} {kd : Int} {sd : Bool} {ad : Option Addr} {ld cd : Nat} {ap : Option Addr} {np cp : Nat} {sk : Bool} {ak : Option Addr} {lk ck : Nat} {d k : Int} {ps : List (Int × Int)} {xd : List Int} {X : List (Int × Bool × List Int)} {xk : List Int} {kd2 : Int} {sd2 : Bool} {ad2 : Option Addr} {ld2 cd2 : Nat} {ap2 : Option Addr} {np2 cp2 : Nat} {sk2 : Bool} {ak2 : Option Addr} {lk2 ck2 : Nat} {d2 m2 : Int} {qs : List (Int × Int)} {yd : List Int} {Y : List (Int × Bool × List Int)} {yk : List Int} {B : Nat}
  (h1 : AR w sd ad ld cd ap np sk ak lk ck d ps k xd X xk B) (h2 : AR w sd2 ad2 ld2 cd2 ap2 np2 sk2 ak2 lk2 ck2 d2 qs m2 yd Y yk B) (hB : B + np ≤ 268435456) (hB2 : B + np2 ≤ 268435456) :
  Calls Tryz.prog 19 #[.agg #[.int .i64 kd, .bool sd, .slice ad ld cd, .slice ap np cp, .bool sk, .slice ak lk ck], .agg #[.int .i64 kd2, .bool sd2, .slice ad2 ld2 cd2, .slice ap2 np2 cp2, .bool sk2, .slice ak2 lk2 ck2]] w fun e w' => SB6 e (CD6 kd kd2 d d2 sd ld xd sd2 ld2 yd X sk lk xk Y sk2 lk2 yk ps qs k m2) ∧ Below w.heap.size w w' := by
 go_enter Tryz.func19, Tryz.ntmps19
 go_wp2_with fail
 have x := (AB.new w kd sd ad ld cd ap np cp sk ak lk ck).below (below_alloc _ (.cells #[.int .i64 kd2, .bool sd2, .slice ad2 ld2 cd2, .slice ap2 np2 cp2, .bool sk2, .slice ak2 lk2 ck2] 29))
 have y := AB.new (w.alloc (.cells #[.int .i64 kd, .bool sd, .slice ad ld cd, .slice ap np cp, .bool sk, .slice ak lk ck] 29)) kd2 sd2 ad2 ld2 cd2 ap2 np2 cp2 sk2 ak2 lk2 ck2
 have b0 : Below w.heap.size w ((w.alloc (.cells #[.int .i64 kd, .bool sd, .slice ad ld cd, .slice ap np cp, .bool sk, .slice ak lk ck] 29)).alloc (.cells #[.int .i64 kd2, .bool sd2, .slice ad2 ld2 cd2, .slice ap2 np2 cp2, .bool sk2, .slice ak2 lk2 ck2] 29)) := below_alloc' (below_alloc _ _) _
 rw [show (w.alloc (.cells #[.int .i64 kd, .bool sd, .slice ad ld cd, .slice ap np cp, .bool sk, .slice ak lk ck] 29)).heap.size = w.heap.size + 1 from by simp] at y
 generalize (w.alloc (.cells #[.int .i64 kd, .bool sd, .slice ad ld cd, .slice ap np cp, .bool sk, .slice ak lk ck] 29)).alloc (.cells #[.int .i64 kd2, .bool sd2, .slice ad2 ld2 cd2, .slice ap2 np2 cp2, .bool sk2, .slice ak2 lk2 ck2] 29) = wb at *
 replace h1 := h1.below b0
 replace h2 := h2.below b0
 generalize hp : w.heap.size = p at *
 replace b0 : Hid (Below w.heap.size w wb) := hp ▸ b0
 clear hp
 generalize p + 1 = q at *
 have hle1 := h1.hld
 have hle2 := h2.hld
 refine (ris7_n (s1 := sd) h1.hd h2.zd (by omega) (by omega)).mono ?_
 rintro e w1 ⟨rfl, k1⟩
 have e1 : Hid ((StandsB sd ld xd && (cmpI (sg sd (val xd)) d2 == 0)) = true ↔ (StandsB sd ld xd = true ∧ d = d2)) := by
  rw [← h1.hv, Bool.and_eq_true, beq_iff_eq]
  refine and_congr Iff.rfl ?_
  unfold cmpI
  split <;> (try split) <;> omega
 generalize (StandsB sd ld xd && (cmpI (sg sd (val xd)) d2 == 0)) = c1 at *
 replace x := x.below k1
 replace y := y.below k1
 replace h1 := h1.below k1
 replace h2 := h2.below k1
 have kk := hide (grow_step k1 b0.out)
 clear k1 b0
 have f1 := y.c1
 have f2 := y.c2
 go_wp2_with fail
 refine (rvalid_n (s := sd2) h2.hd (by omega)).mono ?_
 rintro e w2 ⟨rfl, k2⟩
 generalize hc2 : StandsB sd2 ld2 yd = c2 at *
 replace hc2 := hide hc2
 replace x := x.below k2
 replace y := y.below k2
 replace h1 := h1.below k2
 replace h2 := h2.below k2
 replace kk := hide (grow_step k2 kk.out)
 clear k2 f1 f2
 have e3 := x.c3
 have e4 := x.c4
 have e5 := x.c5
 have f3 := y.c3
 have f4 := y.c4
 have f5 := y.c5
 go_wp2_with fail
 refine (same5_n h1.hP h1.hX h1.hz h1.hr h1.hlk h2.hP h2.hX h2.hz h2.hr h2.hlk hB hB2).mono ?_
 rintro e w3 ⟨c3, rfl, hc3, k3⟩
 replace hc3 := hide hc3
 replace x := x.below k3
 replace y := y.below k3
 replace kk := hide (grow_step k3 kk.out)
 clear k3 e3 e4 e5 f3 f4 f5 h1 h2
 have e0 := x.c0
 have f0 := y.c0
 clear x y
 by_cases hkk : kd = kd2
 ·have hiff : Hid (∀ b : Bool, b = (c1 && c2 && c3) → SB6 (.returned (.bool b)) (CD6 kd kd2 d d2 sd ld xd sd2 ld2 yd X sk lk xk Y sk2 lk2 yk ps qs k m2)) := fun b hb => by
   refine ⟨b, rfl, ?_⟩
   subst hb
   unfold CD6
   rw [Bool.and_eq_true, Bool.and_eq_true]
   constructor
   ·rintro ⟨⟨g1, g2⟩, g3⟩
    exact ⟨hkk, e1.out.1 g1, hc2.out.trans g2, hc3.out.1 g3⟩
   ·rintro ⟨-, g1, g2, g3⟩
    exact ⟨⟨e1.out.2 g1, hc2.out.symm.trans g2⟩, hc3.out.2 g3⟩
  have i0 : (kd == kd2) = true := by rw [beq_iff_eq]; exact hkk
  clear e1 hc2 hc3 hkk
  cases c1 <;> cases c2 <;> cases c3 <;> (go_wp2; go_ret; exact ⟨hiff.out _ rfl, kk.out⟩)
 ·have i0 : (kd == kd2) = false := by rw [beq_eq_false_iff_ne]; exact hkk
  have hiff : Hid (SB6 (.returned (.bool false)) (CD6 kd kd2 d d2 sd ld xd sd2 ld2 yd X sk lk xk Y sk2 lk2 yk ps qs k m2)) := ⟨false, rfl, (fun h => absurd h Bool.false_ne_true), (fun h => absurd h.1 hkk)⟩
  clear e1 hc2 hc3 hkk
  go_wp2
  go_ret
  exact ⟨hiff.out, kk.out⟩
end Go.Proofs.YtjlkmjonadkkdaaGreatDoor

namespace Go.Proofs.YtjlkmjonadkkdaaGreatDoor
open Go.RowKit Go.Sort Go.Shelf
open Tm At

/-- a raw atom that stands as it should -/
def CV6 (kd d : Int) (sd : Bool) (ld : Nat) (xd : List Int) (X : List (Int × Bool × List Int)) (sk : Bool) (lk : Nat) (xk : List Int) (ps : List (Int × Int)) (k : Int) : Prop :=
 ∃ f, formA kd d (nz (lays [] ps)) k = .inl f ∧ StandsB sd ld xd = true ∧ (VX X ∧ StandsB sk lk xk = true) ∧ kd = f.kind ∧ d = f.d ∧ ordT (nz (lays [] ps)) f.ps k f.k = 0
theorem cmpI_0 (a b : Int) : cmpI a b = 0 ↔ a = b := by
 unfold cmpI
 split <;> (try split) <;> omega
theorem ordA_nil (k1 k2 d1 d2 : Int) (ps qs : List (Int × Int)) (c1 c2 : Int) : ordA k1 k2 d1 d2 ps qs c1 c2 = 0 ↔ k1 = k2 ∧ d1 = d2 ∧ ordT ps qs c1 c2 = 0 := by
 unfold ordA
 by_cases h1 : cmpI k1 k2 = 0
 ·rw [if_neg (by simpa using h1)]
  by_cases h2 : cmpI d1 d2 = 0
  ·rw [if_neg (by simpa using h2)]
   exact ⟨fun h => ⟨(cmpI_0 _ _).1 h1, (cmpI_0 _ _).1 h2, h⟩, fun h => h.2.2⟩
  ·rw [if_pos h2]
   exact ⟨fun h => absurd h h2, fun h => absurd ((cmpI_0 _ _).2 h.2.1) h2⟩
 ·rw [if_pos h1]
  exact ⟨fun h => absurd h h1, fun h => absurd ((cmpI_0 _ _).2 h.1) h1⟩

set_option maxRecDepth 100000 in
set_option maxHeartbeats 6400000 in
theorem avalid_n {w : World} {kd : Int} {sd : Bool} {ad : Option Addr} {ld cd : Nat} {ap : Option Addr} {np cp : Nat} {sk : Bool} {ak : Option Addr} {lk ck : Nat} {d k : Int} {ps : List (Int × Int)} {xd : List Int} {X : List (Int × Bool × List Int)} {xk : List Int} {B : Nat}
  (h1 : AR w sd ad ld cd ap np sk ak lk ck d ps k xd X xk B) (hn : np ≤ 262144) (hB : B + np + 1 ≤ 4194000) :
  Calls Tryz.prog 18 #[.agg #[.int .i64 kd, .bool sd, .slice ad ld cd, .slice ap np cp, .bool sk, .slice ak lk ck]] w fun e w' => SB6 e (CV6 kd d sd ld xd X sk lk xk ps k) ∧ Below w.heap.size w w' := by
 go_enter Tryz.func18, Tryz.ntmps18
 go_wp2_with fail
 have x := AB.new w kd sd ad ld cd ap np cp sk ak lk ck
 have b0 := below_alloc w (.cells #[.int .i64 kd, .bool sd, .slice ad ld cd, .slice ap np cp, .bool sk, .slice ak lk ck] 29)
 replace h1 := h1.below b0
 generalize w.alloc (.cells #[.int .i64 kd, .bool sd, .slice ad ld cd, .slice ap np cp, .bool sk, .slice ak lk ck] 29) = wb at *
 generalize hp : w.heap.size = p at *
 replace b0 : Hid (Below w.heap.size w wb) := hp ▸ b0
 clear hp
 have hle1 := h1.hld
 have hle2 := h1.hlk
 refine (anorm_n h1.zd h1.hld h1.hP h1.hz h1.hlk hn hB).mono ?_
 rintro e w1 ⟨q1, hS1, hc1, hA, k1⟩
 obtain rfl : q1 = nz (lays [] ps) := lays_eq hS1 hc1
 replace x := x.below k1
 replace h1 := h1.below k1
 replace k1 := hide (grow_step k1 b0.out)
 clear b0 hc1
 cases hf : formA kd d (nz (lays [] ps)) k with
 | inr er =>
  rw [hf] at hA
  have her := formA_er hf
  have he : _ = _ := hA
  subst he
  have hiff : Hid (SB6 (.returned (.bool false)) (CV6 kd d sd ld xd X sk lk xk ps k)) := ⟨false, rfl, (fun h => absurd h Bool.false_ne_true), (fun ⟨f, h, _⟩ => by rw [hf] at h; cases h)⟩
  have kf := hide (grow_step (below_alloc w1 (.cells #[.int .i64 0, .bool false, .slice none 0 0, .slice none 0 0, .bool false, .slice none 0 0] 29)) k1.out)
  clear hf hS1 hA k1 h1 x
  rcases her with rfl | rfl
  ·go_wp2
   go_ret
   exact ⟨hiff.out, kf.out⟩
  ·go_wp2
   go_ret
   exact ⟨hiff.out, kf.out⟩
 | inl f =>
  rw [hf] at hA
  have hfit := formA_fit hS1 hf
  have hlen : f.ps.length ≤ np := by have g1 := (formA_prt hS1 hf).1; have g2 := std_len hS1 (fun v => csum_nzl ps v); have g3 := h1.hP.1; omega
  have hcv : Hid (∀ b : Bool, (b = true ↔ (StandsB sd ld xd = true ∧ (VX X ∧ StandsB sk lk xk = true) ∧ ordA kd f.kind d f.d (nz (lays [] ps)) f.ps k f.k = 0)) → SB6 (.returned (.bool b)) (CV6 kd d sd ld xd X sk lk xk ps k)) := fun b hb => by
   refine ⟨b, rfl, hb.trans ?_⟩
   rw [ordA_nil]
   constructor
   ·rintro ⟨g1, g2, g3⟩
    exact ⟨f, hf, g1, g2, g3⟩
   ·rintro ⟨f', g0, g1, g2, g3⟩
    rw [hf] at g0
    cases g0
    exact ⟨g1, g2, g3⟩
  clear hf
  obtain ⟨fk, fd, fps, fkk⟩ := f
  obtain ⟨sd1, ad1, ld1, cd1, ap1, np1, cp1, sk1, ak1, lk1, ck1, rfl, hz1, hlz1, hPn1, hnp1, hk1, hlk1, -⟩ := hA
  dsimp only at hz1 hPn1 hk1 hlen hcv
  have hnp2 : np1 ≤ np := by have := hPn1.1; omega
  have y := AB.new w1 fk sd1 ad1 ld1 cd1 ap1 np1 cp1 sk1 ak1 lk1 ck1
  have ka := below_alloc w1 (.cells #[.int .i64 fk, .bool sd1, .slice ad1 ld1 cd1, .slice ap1 np1 cp1, .bool sk1, .slice ak1 lk1 ck1] 29)
  have e1 := x.c1
  have e2 := x.c2
  have hxl := x.lt
  have x2 := x.below ka
  have h2 := h1.below ka
  have hz2 := hz1.below ka
  have hPn2 := hPn1.below ka
  have hk2 := hk1.below ka
  replace k1 := hide (grow_step ka k1.out)
  have HH := hide (And.intro x2 (And.intro y (And.intro h2 (And.intro hz2 (And.intro hPn2 hk2)))))
  clear x2 y h2 hz2 hPn2 hk2 ka x h1 hz1 hPn1 hk1
  go_wp2_with fail
  obtain ⟨x, y, h1, hz1, hPn1, hk1⟩ := HH.out
  clear HH e1 e2 hxl
  generalize w1.alloc (.cells #[.int .i64 fk, .bool sd1, .slice ad1 ld1 cd1, .slice ap1 np1 cp1, .bool sk1, .slice ak1 lk1 ck1] 29) = wn at *
  generalize w1.heap.size = bn at *
  refine (zvalid_n (s := sd) h1.hd).mono ?_
  rintro e w2 ⟨rfl, k2⟩
  generalize hc1 : StandsB sd ld xd = c1 at *
  replace hc1 := hide hc1
  replace x := x.below k2
  replace y := y.below k2
  replace h1 := h1.below k2
  replace hz1 := hz1.below k2
  replace hPn1 := hPn1.below k2
  replace hk1 := hk1.below k2
  replace k1 := hide (grow_step k2 k1.out)
  clear k2
  cases c1 with
  | false =>
   have hiff := hide (hcv.out false ⟨fun h => absurd h Bool.false_ne_true, fun h => absurd h.1 Bool.false_ne_true⟩)
   clear hcv x y h1 hz1 hPn1 hk1
   go_wp2
   go_ret
   exact ⟨hiff.out, k1.out⟩
  | true =>
   have e3 := x.c3
   have e4 := x.c4
   have e5 := x.c5
   go_wp2_with fail
   refine (tvalid_n h1.hX h1.hr (by omega) (by omega)).mono ?_
   rintro e w3 ⟨c2, rfl, hc2, k3⟩
   replace hc2 := hide hc2
   replace x := x.below k3
   replace y := y.below k3
   replace h1 := h1.below k3
   replace hz1 := hz1.below k3
   replace hPn1 := hPn1.below k3
   replace hk1 := hk1.below k3
   replace k1 := hide (grow_step k3 k1.out)
   clear k3 e3 e4 e5
   cases c2 with
   | false =>
    have hiff := hide (hcv.out false ⟨fun h => absurd h Bool.false_ne_true, fun h => absurd (hc2.out.2 h.2.1) Bool.false_ne_true⟩)
    clear hcv x y h1 hz1 hPn1 hk1 hc2
    go_wp2
    go_ret
    exact ⟨hiff.out, k1.out⟩
   | true =>
    have e0 := x.c0
    have e1 := x.c1
    have e2 := x.c2
    have e3 := x.c3
    have e4 := x.c4
    have e5 := x.c5
    have f0 := y.c0
    have f1 := y.c1
    have f2 := y.c2
    have f3 := y.c3
    have f4 := y.c4
    have f5 := y.c5
    go_wp2_with fail
    refine (aorder_n (B := B + np + 16) h1.zd (by omega) (h1.hP.mono (by omega)) h1.hz (by omega) hz1.zm hlz1 hPn1.pr hk1.zm hlk1 (by omega) (by omega)).mono ?_
    rintro e w4 ⟨ps', qs', rfl, g1, g2, g3, g4, k4⟩
    obtain rfl : ps' = nz (lays [] ps) := lays_eq g1 g3
    obtain rfl : qs' = fps := std_unique g2 hfit.std g4
    have hst := hc2.out.1 (by trivial)
    have kf := hide (grow_step k4 k1.out)
    by_cases ho : ordA kd fk d fd (nz (lays [] ps)) qs' k fkk = 0
    ·have hiff := hide (hcv.out true ⟨fun _ => ⟨by trivial, hst, ho⟩, fun _ => rfl⟩)
     rw [ho]
     clear k4 k1 g1 g2 g3 g4 e0 e1 e2 e3 e4 e5 f0 f1 f2 f3 f4 f5 hcv hst hc2 ho
     go_wp2
     go_ret
     exact ⟨hiff.out, kf.out⟩
    ·have hiff := hide (hcv.out false ⟨fun h => absurd h Bool.false_ne_true, fun h => absurd h.2.2 ho⟩)
     generalize ordA kd fk d fd (nz (lays [] ps)) qs' k fkk = ov at *
     have i0 : (ov == 0) = false := by rw [beq_eq_false_iff_ne]; exact ho
     clear k4 k1 g1 g2 g3 g4 e0 e1 e2 e3 e4 e5 f0 f1 f2 f3 f4 f5 hcv hst hc2 ho
     go_wp2
     go_ret
     exact ⟨hiff.out, kf.out⟩
end Go.Proofs.YtjlkmjonadkkdaaGreatDoor

namespace Go.Proofs.YtjlkmjonadkkdaaGreatDoor
open Go.RowKit Go.Sort Go.Shelf
open Tm At

theorem PX.mono {w : World} {ad : Option Addr} {n : Nat} {X : List (Int × Bool × List Int)} {B B' : Nat} (h : PX w ad n X B) (hB : B ≤ B') : PX w ad n X B' := by
 obtain ⟨h1, h2⟩ := h
 refine ⟨h1, ?_⟩
 rcases h2 with h2 | ⟨b, off, h2, h3, h4⟩
 ·exact .inl h2
 ·refine .inr ⟨b, off, h2, h3, fun i hi => ?_⟩
  obtain ⟨a, l, c, g0, g1, g2, g3, g4, g5⟩ := h4 i hi
  exact ⟨a, l, c, g0, g1, g2, g3, Nat.le_trans g4 hB, g5⟩
theorem AR.mono {w : World} {sd : Bool} {ad : Option Addr} {ld cd : Nat} {ap : Option Addr} {np : Nat} {sk : Bool} {ak : Option Addr} {lk ck : Nat} {d : Int} {ps : List (Int × Int)} {k : Int} {xd : List Int} {X : List (Int × Bool × List Int)} {xk : List Int} {B B' : Nat} (h : AR w sd ad ld cd ap np sk ak lk ck d ps k xd X xk B) (hB : B ≤ B') : AR w sd ad ld cd ap np sk ak lk ck d ps k xd X xk B' :=
 ⟨h.hd, h.hv, Nat.le_trans h.hld hB, h.hP.mono hB, h.hX.mono hB, h.hz, h.hr, Nat.le_trans h.hlk hB⟩
theorem nz_std {qs : List (Int × Int)} (h : Std qs) : nz (lays [] qs) = qs := (lays_eq h fun _ => rfl).symm

set_option maxRecDepth 100000 in
set_option maxHeartbeats 6400000 in
theorem rvalid6_n {w : World} {kd : Int} {sd : Bool} {ad : Option Addr} {ld cd : Nat} {ap : Option Addr} {np cp : Nat} {sk : Bool} {ak : Option Addr} {lk ck : Nat} {d k : Int} {ps : List (Int × Int)} {xd : List Int} {X : List (Int × Bool × List Int)} {xk : List Int} {B : Nat}
  (h1 : AR w sd ad ld cd ap np sk ak lk ck d ps k xd X xk B) (hn : np ≤ 262144) (hB : B + np ≤ 4194000) :
  Calls Tryz.prog 21 #[.agg #[.int .i64 kd, .bool sd, .slice ad ld cd, .slice ap np cp, .bool sk, .slice ak lk ck]] w fun e w' => SB6 e (CV6 kd d sd ld xd X sk lk xk ps k) ∧ Below w.heap.size w w' := by
 go_enter Tryz.func21, Tryz.ntmps21
 go_wp2_with fail
 have x := AB.new w kd sd ad ld cd ap np cp sk ak lk ck
 have b0 := below_alloc w (.cells #[.int .i64 kd, .bool sd, .slice ad ld cd, .slice ap np cp, .bool sk, .slice ak lk ck] 29)
 replace h1 := h1.below b0
 generalize w.alloc (.cells #[.int .i64 kd, .bool sd, .slice ad ld cd, .slice ap np cp, .bool sk, .slice ak lk ck] 29) = wb at *
 generalize hp : w.heap.size = p at *
 replace b0 : Hid (Below w.heap.size w wb) := hp ▸ b0
 clear hp
 have hle1 := h1.hld
 have hle2 := h1.hlk
 refine (rnorm6_n h1.zd h1.hld h1.hP h1.hz h1.hlk hn hB).mono ?_
 rintro e w1 ⟨hA, k1⟩
 have e0 := (x.below k1).c0
 have e1 := (x.below k1).c1
 have e2 := (x.below k1).c2
 have e3 := (x.below k1).c3
 have e4 := (x.below k1).c4
 have e5 := (x.below k1).c5
 have hxl := (x.below k1).lt
 replace h1 := (h1.below k1).mono (B' := 8 * B + 16 * np + 100) (by omega)
 replace k1 := hide (grow_step k1 b0.out)
 clear b0 x
 cases hf : formA kd d (nz (lays [] ps)) k with
 | inr er =>
  rw [hf] at hA
  have her := formA_er hf
  have he : _ = _ := hA
  subst he
  have hiff : Hid (SB6 (.returned (.bool false)) (CV6 kd d sd ld xd X sk lk xk ps k)) := ⟨false, rfl, (fun h => absurd h Bool.false_ne_true), (fun ⟨f, h, _⟩ => by rw [hf] at h; cases h)⟩
  have ka := below_alloc w1 (.cells #[.int .i64 0, .bool false, .slice none 0 0, .slice none 0 0, .bool false, .slice none 0 0] 29)
  have h2 := h1.below ka
  replace k1 := hide (grow_step ka k1.out)
  obtain ⟨yd, Y, yk, h3⟩ := ar_of (B := 8 * B + 16 * np + 100) (zn_zero (w1.alloc (.cells #[.int .i64 0, .bool false, .slice none 0 0, .slice none 0 0, .bool false, .slice none 0 0] 29))).zm (Nat.zero_le _) (pn_nil _ none _).pr (zn_zero _).zm (Nat.zero_le _)
  have HH := hide (And.intro h2 h3)
  clear hf hA h1 h2 h3 ka
  rcases her with rfl | rfl
  ·go_wp2_with fail
   obtain ⟨h2, h3⟩ := HH.out
   refine (same6_n h2 h3 (by omega) (by omega)).mono ?_
   rintro e w2 ⟨⟨b, rfl, -⟩, k2⟩
   have kf := hide (grow_step k2 k1.out)
   clear k2 k1 h2 h3 HH e0 e1 e2 e3 e4 e5
   go_wp2
   go_ret
   exact ⟨hiff.out, kf.out⟩
  ·go_wp2_with fail
   obtain ⟨h2, h3⟩ := HH.out
   refine (same6_n h2 h3 (by omega) (by omega)).mono ?_
   rintro e w2 ⟨⟨b, rfl, -⟩, k2⟩
   have kf := hide (grow_step k2 k1.out)
   clear k2 k1 h2 h3 HH e0 e1 e2 e3 e4 e5
   go_wp2
   go_ret
   exact ⟨hiff.out, kf.out⟩
 | inl f =>
  rw [hf] at hA
  have hfit := formA_fit (std_lays ps) hf
  have hlen : f.ps.length ≤ np := by have g1 := (formA_prt (std_lays ps) hf).1; have g2 := std_len (std_lays ps) (fun v => csum_nzl ps v); have g3 := h1.hP.1; omega
  have hcv : Hid (∀ b : Bool, (b = true ↔ (kd = f.kind ∧ (StandsB sd ld xd = true ∧ d = f.d) ∧ (VX X ∧ StandsB sk lk xk = true) ∧ ordT (nz (lays [] ps)) f.ps k f.k = 0)) → SB6 (.returned (.bool b)) (CV6 kd d sd ld xd X sk lk xk ps k)) := fun b hb => by
   refine ⟨b, rfl, hb.trans ?_⟩
   constructor
   ·rintro ⟨g1, ⟨g2, g3⟩, g4, g5⟩
    exact ⟨f, hf, g2, g4, g1, g3, g5⟩
   ·rintro ⟨f', g0, g2, g4, g1, g3, g5⟩
    rw [hf] at g0
    cases g0
    exact ⟨g1, ⟨g2, g3⟩, g4, g5⟩
  clear hf
  obtain ⟨fk, fd, fps, fkk⟩ := f
  obtain ⟨sd1, ad1, ld1, cd1, ap1, np1, cp1, sk1, ak1, lk1, ck1, rfl, hz1, hlz1, hPn1, hnp1, hk1, hlk1, -⟩ := hA
  dsimp only at hz1 hPn1 hk1 hlen hcv
  have hnp2 : np1 ≤ np := by have := hPn1.1; omega
  have ka := below_alloc w1 (.cells #[.int .i64 fk, .bool sd1, .slice ad1 ld1 cd1, .slice ap1 np1 cp1, .bool sk1, .slice ak1 lk1 ck1] 29)
  have h2 := h1.below ka
  replace hz1 := hz1.below ka
  replace hPn1 := hPn1.below ka
  replace hk1 := hk1.below ka
  replace k1 := hide (grow_step ka k1.out)
  obtain ⟨yd, hrd, hst, hsg⟩ := hz1.stands
  obtain ⟨yk, hrk, hsk, -⟩ := hk1.stands
  obtain ⟨Y, hY, hVY⟩ := pn_px hPn1 hfit.std
  have h3 : AR _ sd1 ad1 ld1 cd1 ap1 np1 sk1 ak1 lk1 ck1 fd fps fkk yd Y yk (8 * B + 16 * np + 100) := ⟨hrd, hsg.symm, hlz1, hPn1.pr, hY, hk1.zm, hrk, hlk1⟩
  have HH := hide (And.intro h2 (And.intro h3 (And.intro hst (And.intro hsk (And.intro hVY hfit.std)))))
  clear h1 h2 h3 hz1 hPn1 hk1 ka hrd hst hsg hrk hsk hY hVY hfit
  go_wp2_with fail
  obtain ⟨h2, h3, hst, hsk, hVY, hsf⟩ := HH.out
  refine (same6_n h2 h3 (by omega) (by omega)).mono ?_
  rintro e w2 ⟨⟨b, rfl, hb⟩, k2⟩
  have hiff := hide (hcv.out b (hb.trans (by
   unfold CD6
   rw [nz_std hsf]
   exact ⟨fun ⟨g1, g2, _, g3, _, g4⟩ => ⟨g1, g2, g3, g4⟩, fun ⟨g1, g2, g3, g4⟩ => ⟨g1, g2, hst, g3, ⟨hVY, hsk⟩, g4⟩⟩)))
  have kf := hide (grow_step k2 k1.out)
  clear k2 k1 h2 h3 HH e0 e1 e2 e3 e4 e5 hcv hb hst hsk hVY hsf
  cases b
  ·go_wp2
   go_ret
   exact ⟨hiff.out, kf.out⟩
  ·go_wp2
   go_ret
   exact ⟨hiff.out, kf.out⟩
end Go.Proofs.YtjlkmjonadkkdaaGreatDoor

namespace Go.Proofs.YtjlkmjonadkkdaaGreatDoor
open Go.RowKit Go.Sort Go.Shelf
open Tm At

theorem form_zero (kind : Int) (hk : kind = 3 ∨ kind = 4) {qs : List (Int × Int)} {k : Int} : formA kind 0 qs k = .inr 11 := by
 unfold formA
 rw [if_neg (by omega), if_neg (by omega), if_pos hk, if_pos rfl]
theorem form_div6 (kind : Int) (hk : kind = 3 ∨ kind = 4) {d : Int} (h0 : d ≠ 0) {qs : List (Int × Int)} {k : Int} : formA kind d qs k = .inl (divF kind d qs k) := by
 unfold formA
 rw [if_neg (by omega), if_neg (by omega), if_pos hk, if_neg h0]

set_option maxRecDepth 100000 in
set_option maxHeartbeats 6400000 in
theorem adiv6_n {w : World} {sd : Bool} {ad : Option Addr} {ld cd : Nat} {ap : Option Addr} {np cp : Nat} {sk : Bool} {ak : Option Addr} {lk ck : Nat} {d k : Int} {ps : List (Int × Int)} {B : Nat}
  (hd : Zm w sd ad ld cd d) (hld : ld ≤ B) (hP : Pr w ap np ps B) (hk : Zm w sk ak lk ck k) (hlk : lk ≤ B) (hn : np ≤ 262144) (hB : B + np + 1 ≤ 4194000) :
  Calls Tryz.prog 12 #[.agg #[.bool sd, .slice ad ld cd], .agg #[.slice ap np cp, .bool sk, .slice ak lk ck]] w fun e w' => AN w' e (formA 3 d (nz (lays [] ps)) k) (B + np + 16) w.heap.size ∧ Below w.heap.size w w' := by
 go_enter Tryz.func12, Tryz.ntmps12
 go_wp2_with fail
 have y := AB.new ((w.alloc (.cells #[.bool sd, .slice ad ld cd] 24)).alloc (.cells #[.slice ap np cp, .bool sk, .slice ak lk ck] 27)) 0 false none 0 0 none 0 0 false none 0 0
 rw [show ((w.alloc (.cells #[.bool sd, .slice ad ld cd] 24)).alloc (.cells #[.slice ap np cp, .bool sk, .slice ak lk ck] 27)).heap.size = w.heap.size + 1 + 1 from by simp] at y
 have b0 : Below w.heap.size w (((w.alloc (.cells #[.bool sd, .slice ad ld cd] 24)).alloc (.cells #[.slice ap np cp, .bool sk, .slice ak lk ck] 27)).alloc (.cells #[.int .i64 0, .bool false, .slice none 0 0, .slice none 0 0, .bool false, .slice none 0 0] 29)) := below_alloc' (below_alloc' (below_alloc _ _) _) _
 generalize ((w.alloc (.cells #[.bool sd, .slice ad ld cd] 24)).alloc (.cells #[.slice ap np cp, .bool sk, .slice ak lk ck] 27)).alloc (.cells #[.int .i64 0, .bool false, .slice none 0 0, .slice none 0 0, .bool false, .slice none 0 0] 29) = wb at *
 have hr : w.heap.size ≤ w.heap.size + 1 + 1 := by omega
 generalize w.heap.size + 1 + 1 = r at *
 refine (anorm_n (kd := 3) (hd.below b0) hld (hP.below b0) (hk.below b0) hlk hn hB).mono ?_
 rintro e w1 ⟨qs, hS, hc, hA, k1⟩
 obtain rfl : qs = nz (lays [] ps) := lays_eq hS hc
 clear hS hc
 replace hA : (d = 0 ∧ AZ e 11) ∨ (d ≠ 0 ∧ AE w1 e (divF 3 d (nz (lays [] ps)) k) (B + np + 16) wb.heap.size) := by
  by_cases h0 : d = 0
  ·subst h0
   exact .inl ⟨rfl, by rw [form_zero 3 (by decide)] at hA; exact hA⟩
  ·exact .inr ⟨h0, by rw [form_div6 3 (by decide) h0] at hA; exact hA⟩
 have hrl := y.lt
 have hbs := b0.size
 replace y := y.below k1
 rcases hA with ⟨h0, hz⟩ | ⟨h0, sd1, ad1, ld1, cd1, ap1, np1, cp1, sk1, ak1, lk1, ck1, rfl, hz1, hlz1, hPn1, hnp1, hk1, hlk1, hnew1⟩
 ·unfold AZ at hz
  subst hz
  have hF : Hid (formA 3 d (nz (lays [] ps)) k = .inr 11) := (show _ = _ by subst h0; exact form_zero 3 (by decide))
  have e0 := y.c0
  have e1 := y.c1
  have e2 := y.c2
  have e3 := y.c3
  have e4 := y.c4
  have e5 := y.c5
  have f0 := y.f 0
  have f1 := y.f 1
  have f2 := y.f 2
  have f3 := y.f 3
  have f4 := y.f 4
  have f5 := y.f 5
  have kf := hide (below_grown (grow_step k1 b0) (ab_set w1 r (.int .i64 0) (.bool false) (.slice none 0 0) (.slice none 0 0) (.bool false) (.slice none 0 0)) hr)
  clear hP hd hk b0 k1 h0
  go_wp2
  refine bodyPost_ret (results_ct rfl _ _ r 29 _ (0, 0) _ rfl (ab_fin y 0 false none 0 0 none 0 0 false none 0 0) Tryz.underlying29 rfl (by kernel_rfl)) rfl ?_
  refine ⟨?_, kf.out⟩
  rw [hF.out]
  exact rfl
 ·have hF : Hid (formA 3 d (nz (lays [] ps)) k = .inl (divF 3 d (nz (lays [] ps)) k)) := (show _ = _ from form_div6 3 (by decide) h0)
  generalize divF 3 d (nz (lays [] ps)) k = ff at *
  have e0 := y.c0
  have e1 := y.c1
  have e2 := y.c2
  have e3 := y.c3
  have e4 := y.c4
  have e5 := y.c5
  have f0 := y.f 0
  have f1 := y.f 1
  have f2 := y.f 2
  have f3 := y.f 3
  have f4 := y.f 4
  have f5 := y.f 5
  have g6 := ab_set w1 r (.int .i64 ff.kind) (.bool sd1) (.slice ad1 ld1 cd1) (.slice ap1 np1 cp1) (.bool sk1) (.slice ak1 lk1 ck1)
  have hPf := hide (hPn1.away (fun b off e => by have := hnew1 b off e; omega) g6 (ab_noU y))
  have hzf := hide (hk1.grownU g6 (ab_noU y))
  have hdf := hide (hz1.grownU g6 (ab_noU y))
  have kf := hide (below_grown (grow_step k1 b0) g6 hr)
  have hnw : Hid (∀ b off, ap1 = some ⟨b, off, none⟩ → w.heap.size ≤ b) := (fun b off e => by have h1 := hnew1 b off e; omega)
  clear g6 hPn1 hk1 hz1 hnew1 hP hd hk b0 k1
  go_wp2
  refine bodyPost_ret (results_ct rfl _ _ r 29 _ (0, 0) _ rfl (ab_fin y ff.kind sd1 ad1 ld1 cd1 ap1 np1 cp1 sk1 ak1 lk1 ck1) Tryz.underlying29 rfl (by kernel_rfl)) rfl ?_
  refine ⟨?_, kf.out⟩
  rw [hF.out]
  exact ⟨sd1, ad1, ld1, cd1, ap1, np1, cp1, sk1, ak1, lk1, ck1, by simp, hdf.out, hlz1, hPf.out, hnp1, hzf.out, hlk1, hnw.out⟩

set_option maxRecDepth 100000 in
set_option maxHeartbeats 6400000 in
theorem anot6_n {w : World} {sd : Bool} {ad : Option Addr} {ld cd : Nat} {ap : Option Addr} {np cp : Nat} {sk : Bool} {ak : Option Addr} {lk ck : Nat} {d k : Int} {ps : List (Int × Int)} {B : Nat}
  (hd : Zm w sd ad ld cd d) (hld : ld ≤ B) (hP : Pr w ap np ps B) (hk : Zm w sk ak lk ck k) (hlk : lk ≤ B) (hn : np ≤ 262144) (hB : B + np + 1 ≤ 4194000) :
  Calls Tryz.prog 14 #[.agg #[.bool sd, .slice ad ld cd], .agg #[.slice ap np cp, .bool sk, .slice ak lk ck]] w fun e w' => AN w' e (formA 4 d (nz (lays [] ps)) k) (B + np + 16) w.heap.size ∧ Below w.heap.size w w' := by
 go_enter Tryz.func14, Tryz.ntmps14
 go_wp2_with fail
 have y := AB.new ((w.alloc (.cells #[.bool sd, .slice ad ld cd] 24)).alloc (.cells #[.slice ap np cp, .bool sk, .slice ak lk ck] 27)) 0 false none 0 0 none 0 0 false none 0 0
 rw [show ((w.alloc (.cells #[.bool sd, .slice ad ld cd] 24)).alloc (.cells #[.slice ap np cp, .bool sk, .slice ak lk ck] 27)).heap.size = w.heap.size + 1 + 1 from by simp] at y
 have b0 : Below w.heap.size w (((w.alloc (.cells #[.bool sd, .slice ad ld cd] 24)).alloc (.cells #[.slice ap np cp, .bool sk, .slice ak lk ck] 27)).alloc (.cells #[.int .i64 0, .bool false, .slice none 0 0, .slice none 0 0, .bool false, .slice none 0 0] 29)) := below_alloc' (below_alloc' (below_alloc _ _) _) _
 generalize ((w.alloc (.cells #[.bool sd, .slice ad ld cd] 24)).alloc (.cells #[.slice ap np cp, .bool sk, .slice ak lk ck] 27)).alloc (.cells #[.int .i64 0, .bool false, .slice none 0 0, .slice none 0 0, .bool false, .slice none 0 0] 29) = wb at *
 have hr : w.heap.size ≤ w.heap.size + 1 + 1 := by omega
 generalize w.heap.size + 1 + 1 = r at *
 refine (anorm_n (kd := 4) (hd.below b0) hld (hP.below b0) (hk.below b0) hlk hn hB).mono ?_
 rintro e w1 ⟨qs, hS, hc, hA, k1⟩
 obtain rfl : qs = nz (lays [] ps) := lays_eq hS hc
 clear hS hc
 replace hA : (d = 0 ∧ AZ e 11) ∨ (d ≠ 0 ∧ AE w1 e (divF 4 d (nz (lays [] ps)) k) (B + np + 16) wb.heap.size) := by
  by_cases h0 : d = 0
  ·subst h0
   exact .inl ⟨rfl, by rw [form_zero 4 (by decide)] at hA; exact hA⟩
  ·exact .inr ⟨h0, by rw [form_div6 4 (by decide) h0] at hA; exact hA⟩
 have hrl := y.lt
 have hbs := b0.size
 replace y := y.below k1
 rcases hA with ⟨h0, hz⟩ | ⟨h0, sd1, ad1, ld1, cd1, ap1, np1, cp1, sk1, ak1, lk1, ck1, rfl, hz1, hlz1, hPn1, hnp1, hk1, hlk1, hnew1⟩
 ·unfold AZ at hz
  subst hz
  have hF : Hid (formA 4 d (nz (lays [] ps)) k = .inr 11) := (show _ = _ by subst h0; exact form_zero 4 (by decide))
  have e0 := y.c0
  have e1 := y.c1
  have e2 := y.c2
  have e3 := y.c3
  have e4 := y.c4
  have e5 := y.c5
  have f0 := y.f 0
  have f1 := y.f 1
  have f2 := y.f 2
  have f3 := y.f 3
  have f4 := y.f 4
  have f5 := y.f 5
  have kf := hide (below_grown (grow_step k1 b0) (ab_set w1 r (.int .i64 0) (.bool false) (.slice none 0 0) (.slice none 0 0) (.bool false) (.slice none 0 0)) hr)
  clear hP hd hk b0 k1 h0
  go_wp2
  refine bodyPost_ret (results_ct rfl _ _ r 29 _ (0, 0) _ rfl (ab_fin y 0 false none 0 0 none 0 0 false none 0 0) Tryz.underlying29 rfl (by kernel_rfl)) rfl ?_
  refine ⟨?_, kf.out⟩
  rw [hF.out]
  exact rfl
 ·have hF : Hid (formA 4 d (nz (lays [] ps)) k = .inl (divF 4 d (nz (lays [] ps)) k)) := (show _ = _ from form_div6 4 (by decide) h0)
  generalize divF 4 d (nz (lays [] ps)) k = ff at *
  have e0 := y.c0
  have e1 := y.c1
  have e2 := y.c2
  have e3 := y.c3
  have e4 := y.c4
  have e5 := y.c5
  have f0 := y.f 0
  have f1 := y.f 1
  have f2 := y.f 2
  have f3 := y.f 3
  have f4 := y.f 4
  have f5 := y.f 5
  have g6 := ab_set w1 r (.int .i64 ff.kind) (.bool sd1) (.slice ad1 ld1 cd1) (.slice ap1 np1 cp1) (.bool sk1) (.slice ak1 lk1 ck1)
  have hPf := hide (hPn1.away (fun b off e => by have := hnew1 b off e; omega) g6 (ab_noU y))
  have hzf := hide (hk1.grownU g6 (ab_noU y))
  have hdf := hide (hz1.grownU g6 (ab_noU y))
  have kf := hide (below_grown (grow_step k1 b0) g6 hr)
  have hnw : Hid (∀ b off, ap1 = some ⟨b, off, none⟩ → w.heap.size ≤ b) := (fun b off e => by have h1 := hnew1 b off e; omega)
  clear g6 hPn1 hk1 hz1 hnew1 hP hd hk b0 k1
  go_wp2
  refine bodyPost_ret (results_ct rfl _ _ r 29 _ (0, 0) _ rfl (ab_fin y ff.kind sd1 ad1 ld1 cd1 ap1 np1 cp1 sk1 ak1 lk1 ck1) Tryz.underlying29 rfl (by kernel_rfl)) rfl ?_
  refine ⟨?_, kf.out⟩
  rw [hF.out]
  exact ⟨sd1, ad1, ld1, cd1, ap1, np1, cp1, sk1, ak1, lk1, ck1, by simp, hdf.out, hlz1, hPf.out, hnp1, hzf.out, hlk1, hnw.out⟩

set_option maxRecDepth 100000 in
set_option maxHeartbeats 6400000 in
theorem rdiv6_n {w : World} {sd : Bool} {ad : Option Addr} {ld cd : Nat} {ap : Option Addr} {np cp : Nat} {sk : Bool} {ak : Option Addr} {lk ck : Nat} {d k : Int} {ps : List (Int × Int)} {B : Nat}
  (hd : Zm w sd ad ld cd d) (hld : ld ≤ B) (hP : Pr w ap np ps B) (hk : Zm w sk ak lk ck k) (hlk : lk ≤ B) (hn : np ≤ 262144) (hB : B + np + 1 ≤ 4194000) :
  Calls Tryz.prog 13 #[.agg #[.bool sd, .slice ad ld cd], .agg #[.slice ap np cp, .bool sk, .slice ak lk ck]] w fun e w' => AN w' e (formA 3 d (nz (lays [] ps)) k) (8 * B + 16 * np + 100) w.heap.size ∧ Below w.heap.size w w' := by
 go_enter Tryz.func13, Tryz.ntmps13
 go_wp2_with fail
 have y := AB.new ((w.alloc (.cells #[.bool sd, .slice ad ld cd] 24)).alloc (.cells #[.slice ap np cp, .bool sk, .slice ak lk ck] 27)) 0 false none 0 0 none 0 0 false none 0 0
 rw [show ((w.alloc (.cells #[.bool sd, .slice ad ld cd] 24)).alloc (.cells #[.slice ap np cp, .bool sk, .slice ak lk ck] 27)).heap.size = w.heap.size + 1 + 1 from by simp] at y
 have b0 : Below w.heap.size w (((w.alloc (.cells #[.bool sd, .slice ad ld cd] 24)).alloc (.cells #[.slice ap np cp, .bool sk, .slice ak lk ck] 27)).alloc (.cells #[.int .i64 0, .bool false, .slice none 0 0, .slice none 0 0, .bool false, .slice none 0 0] 29)) := below_alloc' (below_alloc' (below_alloc _ _) _) _
 generalize ((w.alloc (.cells #[.bool sd, .slice ad ld cd] 24)).alloc (.cells #[.slice ap np cp, .bool sk, .slice ak lk ck] 27)).alloc (.cells #[.int .i64 0, .bool false, .slice none 0 0, .slice none 0 0, .bool false, .slice none 0 0] 29) = wb at *
 have hr : w.heap.size ≤ w.heap.size + 1 + 1 := by omega
 generalize w.heap.size + 1 + 1 = r at *
 refine (rparted_false (B := B) (hd.below b0) hld (hP.below b0) (hk.below b0) hlk hn (by omega)).mono ?_
 rintro e w1 ⟨hA, k1⟩
 unfold RP at hA
 have hrl := y.lt
 have hbs := b0.size
 replace y := y.below k1
 rcases hA with ⟨h0, hz⟩ | ⟨h0, sd1, ad1, ld1, cd1, ap1, np1, cp1, sk1, ak1, lk1, ck1, rfl, hz1, hlz1, hPn1, hnp1, hk1, hlk1, hnew1⟩
 ·unfold AZ at hz
  subst hz
  have hF : Hid (formA 3 d (nz (lays [] ps)) k = .inr 11) := (show _ = _ by subst h0; exact form_zero 3 (by decide))
  have e0 := y.c0
  have e1 := y.c1
  have e2 := y.c2
  have e3 := y.c3
  have e4 := y.c4
  have e5 := y.c5
  have f0 := y.f 0
  have f1 := y.f 1
  have f2 := y.f 2
  have f3 := y.f 3
  have f4 := y.f 4
  have f5 := y.f 5
  have kf := hide (below_grown (grow_step k1 b0) (ab_set w1 r (.int .i64 0) (.bool false) (.slice none 0 0) (.slice none 0 0) (.bool false) (.slice none 0 0)) hr)
  clear hP hd hk b0 k1 h0
  go_wp2
  refine bodyPost_ret (results_ct rfl _ _ r 29 _ (0, 0) _ rfl (ab_fin y 0 false none 0 0 none 0 0 false none 0 0) Tryz.underlying29 rfl (by kernel_rfl)) rfl ?_
  refine ⟨?_, kf.out⟩
  rw [hF.out]
  exact rfl
 ·have hF : Hid (formA 3 d (nz (lays [] ps)) k = .inl (divF 3 d (nz (lays [] ps)) k)) := (show _ = _ from form_div6 3 (by decide) h0)
  generalize divF 3 d (nz (lays [] ps)) k = ff at *
  have e0 := y.c0
  have e1 := y.c1
  have e2 := y.c2
  have e3 := y.c3
  have e4 := y.c4
  have e5 := y.c5
  have f0 := y.f 0
  have f1 := y.f 1
  have f2 := y.f 2
  have f3 := y.f 3
  have f4 := y.f 4
  have f5 := y.f 5
  have g6 := ab_set w1 r (.int .i64 ff.kind) (.bool sd1) (.slice ad1 ld1 cd1) (.slice ap1 np1 cp1) (.bool sk1) (.slice ak1 lk1 ck1)
  have hPf := hide (hPn1.away (fun b off e => by have := hnew1 b off e; omega) g6 (ab_noU y))
  have hzf := hide (hk1.grownU g6 (ab_noU y))
  have hdf := hide (hz1.grownU g6 (ab_noU y))
  have kf := hide (below_grown (grow_step k1 b0) g6 hr)
  have hnw : Hid (∀ b off, ap1 = some ⟨b, off, none⟩ → w.heap.size ≤ b) := (fun b off e => by have h1 := hnew1 b off e; omega)
  clear g6 hPn1 hk1 hz1 hnew1 hP hd hk b0 k1
  go_wp2
  refine bodyPost_ret (results_ct rfl _ _ r 29 _ (0, 0) _ rfl (ab_fin y ff.kind sd1 ad1 ld1 cd1 ap1 np1 cp1 sk1 ak1 lk1 ck1) Tryz.underlying29 rfl (by kernel_rfl)) rfl ?_
  refine ⟨?_, kf.out⟩
  rw [hF.out]
  exact ⟨sd1, ad1, ld1, cd1, ap1, np1, cp1, sk1, ak1, lk1, ck1, by simp, hdf.out, hlz1, hPf.out, hnp1, hzf.out, hlk1, hnw.out⟩

set_option maxRecDepth 100000 in
set_option maxHeartbeats 6400000 in
theorem rnot6_n {w : World} {sd : Bool} {ad : Option Addr} {ld cd : Nat} {ap : Option Addr} {np cp : Nat} {sk : Bool} {ak : Option Addr} {lk ck : Nat} {d k : Int} {ps : List (Int × Int)} {B : Nat}
  (hd : Zm w sd ad ld cd d) (hld : ld ≤ B) (hP : Pr w ap np ps B) (hk : Zm w sk ak lk ck k) (hlk : lk ≤ B) (hn : np ≤ 262144) (hB : B + np + 1 ≤ 4194000) :
  Calls Tryz.prog 15 #[.agg #[.bool sd, .slice ad ld cd], .agg #[.slice ap np cp, .bool sk, .slice ak lk ck]] w fun e w' => AN w' e (formA 4 d (nz (lays [] ps)) k) (8 * B + 16 * np + 100) w.heap.size ∧ Below w.heap.size w w' := by
 go_enter Tryz.func15, Tryz.ntmps15
 go_wp2_with fail
 have y := AB.new ((w.alloc (.cells #[.bool sd, .slice ad ld cd] 24)).alloc (.cells #[.slice ap np cp, .bool sk, .slice ak lk ck] 27)) 0 false none 0 0 none 0 0 false none 0 0
 rw [show ((w.alloc (.cells #[.bool sd, .slice ad ld cd] 24)).alloc (.cells #[.slice ap np cp, .bool sk, .slice ak lk ck] 27)).heap.size = w.heap.size + 1 + 1 from by simp] at y
 have b0 : Below w.heap.size w (((w.alloc (.cells #[.bool sd, .slice ad ld cd] 24)).alloc (.cells #[.slice ap np cp, .bool sk, .slice ak lk ck] 27)).alloc (.cells #[.int .i64 0, .bool false, .slice none 0 0, .slice none 0 0, .bool false, .slice none 0 0] 29)) := below_alloc' (below_alloc' (below_alloc _ _) _) _
 generalize ((w.alloc (.cells #[.bool sd, .slice ad ld cd] 24)).alloc (.cells #[.slice ap np cp, .bool sk, .slice ak lk ck] 27)).alloc (.cells #[.int .i64 0, .bool false, .slice none 0 0, .slice none 0 0, .bool false, .slice none 0 0] 29) = wb at *
 have hr : w.heap.size ≤ w.heap.size + 1 + 1 := by omega
 generalize w.heap.size + 1 + 1 = r at *
 refine (rparted_true (B := B) (hd.below b0) hld (hP.below b0) (hk.below b0) hlk hn (by omega)).mono ?_
 rintro e w1 ⟨hA, k1⟩
 unfold RP at hA
 have hrl := y.lt
 have hbs := b0.size
 replace y := y.below k1
 rcases hA with ⟨h0, hz⟩ | ⟨h0, sd1, ad1, ld1, cd1, ap1, np1, cp1, sk1, ak1, lk1, ck1, rfl, hz1, hlz1, hPn1, hnp1, hk1, hlk1, hnew1⟩
 ·unfold AZ at hz
  subst hz
  have hF : Hid (formA 4 d (nz (lays [] ps)) k = .inr 11) := (show _ = _ by subst h0; exact form_zero 4 (by decide))
  have e0 := y.c0
  have e1 := y.c1
  have e2 := y.c2
  have e3 := y.c3
  have e4 := y.c4
  have e5 := y.c5
  have f0 := y.f 0
  have f1 := y.f 1
  have f2 := y.f 2
  have f3 := y.f 3
  have f4 := y.f 4
  have f5 := y.f 5
  have kf := hide (below_grown (grow_step k1 b0) (ab_set w1 r (.int .i64 0) (.bool false) (.slice none 0 0) (.slice none 0 0) (.bool false) (.slice none 0 0)) hr)
  clear hP hd hk b0 k1 h0
  go_wp2
  refine bodyPost_ret (results_ct rfl _ _ r 29 _ (0, 0) _ rfl (ab_fin y 0 false none 0 0 none 0 0 false none 0 0) Tryz.underlying29 rfl (by kernel_rfl)) rfl ?_
  refine ⟨?_, kf.out⟩
  rw [hF.out]
  exact rfl
 ·have hF : Hid (formA 4 d (nz (lays [] ps)) k = .inl (divF 4 d (nz (lays [] ps)) k)) := (show _ = _ from form_div6 4 (by decide) h0)
  generalize divF 4 d (nz (lays [] ps)) k = ff at *
  have e0 := y.c0
  have e1 := y.c1
  have e2 := y.c2
  have e3 := y.c3
  have e4 := y.c4
  have e5 := y.c5
  have f0 := y.f 0
  have f1 := y.f 1
  have f2 := y.f 2
  have f3 := y.f 3
  have f4 := y.f 4
  have f5 := y.f 5
  have g6 := ab_set w1 r (.int .i64 ff.kind) (.bool sd1) (.slice ad1 ld1 cd1) (.slice ap1 np1 cp1) (.bool sk1) (.slice ak1 lk1 ck1)
  have hPf := hide (hPn1.away (fun b off e => by have := hnew1 b off e; omega) g6 (ab_noU y))
  have hzf := hide (hk1.grownU g6 (ab_noU y))
  have hdf := hide (hz1.grownU g6 (ab_noU y))
  have kf := hide (below_grown (grow_step k1 b0) g6 hr)
  have hnw : Hid (∀ b off, ap1 = some ⟨b, off, none⟩ → w.heap.size ≤ b) := (fun b off e => by have h1 := hnew1 b off e; omega)
  clear g6 hPn1 hk1 hz1 hnew1 hP hd hk b0 k1
  go_wp2
  refine bodyPost_ret (results_ct rfl _ _ r 29 _ (0, 0) _ rfl (ab_fin y ff.kind sd1 ad1 ld1 cd1 ap1 np1 cp1 sk1 ak1 lk1 ck1) Tryz.underlying29 rfl (by kernel_rfl)) rfl ?_
  refine ⟨?_, kf.out⟩
  rw [hF.out]
  exact ⟨sd1, ad1, ld1, cd1, ap1, np1, cp1, sk1, ak1, lk1, ck1, by simp, hdf.out, hlz1, hPf.out, hnp1, hzf.out, hlk1, hnw.out⟩
end Go.Proofs.YtjlkmjonadkkdaaGreatDoor

namespace Go.Proofs.YtjlkmjonadkkdaaGreatDoor
open Go.RowKit Go.Sort Go.Shelf
open Tm At

/-- the atom of an answer; that of noughts beside an error -/
def fo (f : Atm ⊕ Int) : Atm := match f with
 | .inl f => f
 | .inr _ => ⟨0, 0, [], 0⟩
/-- the error of an answer -/
def fe (f : Atm ⊕ Int) : Int := match f with
 | .inl _ => 0
 | .inr e => e
theorem fo_std {kd d : Int} {qs : List (Int × Int)} {k : Int} (hS : Std qs) : Std (fo (formA kd d qs k)).ps := by
 cases hf : formA kd d qs k with
 | inl f => exact (formA_fit hS hf).std
 | inr e => exact std_nil
/-- an atom that was answered -/
structure AV (w : World) (f : Atm) (sd : Bool) (ad : Option Addr) (ld cd : Nat) (ap : Option Addr) (np : Nat) (sk : Bool) (ak : Option Addr) (lk ck : Nat) (B : Nat) : Prop where
 zd : Zn w sd ad ld cd f.d
 hld : ld ≤ B
 pn : Pn w ap np f.ps B
 hnp : np ≤ B
 zk : Zn w sk ak lk ck f.k
 hlk : lk ≤ B
theorem AV.below {w w' : World} {f : Atm} {sd : Bool} {ad : Option Addr} {ld cd : Nat} {ap : Option Addr} {np : Nat} {sk : Bool} {ak : Option Addr} {lk ck : Nat} {B : Nat} (h : AV w f sd ad ld cd ap np sk ak lk ck B) (b : Below w.heap.size w w') : AV w' f sd ad ld cd ap np sk ak lk ck B :=
 ⟨h.zd.below b, h.hld, h.pn.below b, h.hnp, h.zk.below b, h.hlk⟩
theorem AV.mono {w : World} {f : Atm} {sd : Bool} {ad : Option Addr} {ld cd : Nat} {ap : Option Addr} {np : Nat} {sk : Bool} {ak : Option Addr} {lk ck : Nat} {B B' : Nat} (h : AV w f sd ad ld cd ap np sk ak lk ck B) (b : B ≤ B') : AV w f sd ad ld cd ap np sk ak lk ck B' :=
 ⟨h.zd, Nat.le_trans h.hld b, h.pn.mono b, Nat.le_trans h.hnp b, h.zk, Nat.le_trans h.hlk b⟩
/-- and its block -/
structure AF (w : World) (p : Nat) (f : Atm) (sd : Bool) (ad : Option Addr) (ld cd : Nat) (ap : Option Addr) (np cp : Nat) (sk : Bool) (ak : Option Addr) (lk ck : Nat) (B : Nat) : Prop where
 ab : AB w p f.kind sd ad ld cd ap np cp sk ak lk ck
 av : AV w f sd ad ld cd ap np sk ak lk ck B
theorem AF.below {w w' : World} {p : Nat} {f : Atm} {sd : Bool} {ad : Option Addr} {ld cd : Nat} {ap : Option Addr} {np cp : Nat} {sk : Bool} {ak : Option Addr} {lk ck : Nat} {B : Nat} (h : AF w p f sd ad ld cd ap np cp sk ak lk ck B) (b : Below w.heap.size w w') : AF w' p f sd ad ld cd ap np cp sk ak lk ck B :=
 ⟨h.ab.below b, h.av.below b⟩
/-- an answer, and its block behind it -/
theorem an_af {w : World} {e : Ending} {f : Atm ⊕ Int} {B B0 : Nat} (h : AN w e f B B0) : ∃ sd ad ld cd ap np cp sk ak lk ck, e = .returned (.tuple #[.agg #[.int .i64 (fo f).kind, .bool sd, .slice ad ld cd, .slice ap np cp, .bool sk, .slice ak lk ck], .int .i64 (fe f)]) ∧ AF (w.alloc (.cells #[.int .i64 (fo f).kind, .bool sd, .slice ad ld cd, .slice ap np cp, .bool sk, .slice ak lk ck] 29)) w.heap.size (fo f) sd ad ld cd ap np cp sk ak lk ck B := by
 cases f with
 | inl f =>
  obtain ⟨sd, ad, ld, cd, ap, np, cp, sk, ak, lk, ck, rfl, h1, h2, h3, h4, h5, h6, -⟩ := h
  have ka := below_alloc w (.cells #[.int .i64 f.kind, .bool sd, .slice ad ld cd, .slice ap np cp, .bool sk, .slice ak lk ck] 29)
  exact ⟨sd, ad, ld, cd, ap, np, cp, sk, ak, lk, ck, rfl, AB.new w _ _ _ _ _ _ _ _ _ _ _ _, h1.below ka, h2, h3.below ka, h4, h5.below ka, h6⟩
 | inr e =>
  have he : _ = _ := h
  subst he
  exact ⟨_, _, _, _, _, _, _, _, _, _, _, rfl, AB.new w _ _ _ _ _ _ _ _ _ _ _ _, zn_zero _, Nat.zero_le _, pn_nil _ _ _, Nat.zero_le _, zn_zero _, Nat.zero_le _⟩
theorem aw_av {w : World} {e : Ending} {f : Atm} {B B0 : Nat} (h : AW w e f B B0) : ∃ sd ad ld cd ap np cp sk ak lk ck, e = .returned (.agg #[.int .i64 f.kind, .bool sd, .slice ad ld cd, .slice ap np cp, .bool sk, .slice ak lk ck]) ∧ AV w f sd ad ld cd ap np sk ak lk ck B := by
 obtain ⟨sd, ad, ld, cd, ap, np, cp, sk, ak, lk, ck, rfl, h1, h2, h3, h4, h5, h6, -⟩ := h
 exact ⟨sd, ad, ld, cd, ap, np, cp, sk, ak, lk, ck, rfl, h1, h2, h3, h4, h5, h6⟩
theorem aw_af {w : World} {e : Ending} {f : Atm} {B B0 : Nat} (h : AW w e f B B0) : ∃ sd ad ld cd ap np cp sk ak lk ck, e = .returned (.agg #[.int .i64 f.kind, .bool sd, .slice ad ld cd, .slice ap np cp, .bool sk, .slice ak lk ck]) ∧ AF (w.alloc (.cells #[.int .i64 f.kind, .bool sd, .slice ad ld cd, .slice ap np cp, .bool sk, .slice ak lk ck] 29)) w.heap.size f sd ad ld cd ap np cp sk ak lk ck B := by
 obtain ⟨sd, ad, ld, cd, ap, np, cp, sk, ak, lk, ck, rfl, h1⟩ := aw_av h
 exact ⟨sd, ad, ld, cd, ap, np, cp, sk, ak, lk, ck, rfl, AB.new w _ _ _ _ _ _ _ _ _ _ _ _, h1.below (below_alloc w (.cells #[.int .i64 f.kind, .bool sd, .slice ad ld cd, .slice ap np cp, .bool sk, .slice ak lk ck] 29))⟩
theorem av_same {w : World} {f : Atm} {sd : Bool} {ad : Option Addr} {ld cd : Nat} {ap : Option Addr} {np cp : Nat} {sk : Bool} {ak : Option Addr} {lk ck : Nat} {sd2 : Bool} {ad2 : Option Addr} {ld2 cd2 : Nat} {ap2 : Option Addr} {np2 cp2 : Nat} {sk2 : Bool} {ak2 : Option Addr} {lk2 ck2 : Nat} {B B' : Nat} (hS : Std f.ps) (h : AV w f sd ad ld cd ap np sk ak lk ck B) (h2 : AV w f sd2 ad2 ld2 cd2 ap2 np2 sk2 ak2 lk2 ck2 B') (hB : B ≤ 134217728) (hB2 : B' ≤ 134217728) :
  Calls Tryz.prog 19 #[.agg #[.int .i64 f.kind, .bool sd, .slice ad ld cd, .slice ap np cp, .bool sk, .slice ak lk ck], .agg #[.int .i64 f.kind, .bool sd2, .slice ad2 ld2 cd2, .slice ap2 np2 cp2, .bool sk2, .slice ak2 lk2 ck2]] w fun e w' => e = .returned (.bool true) ∧ Below w.heap.size w w' := by
 have g := h.mono hB
 have g2 := h2.mono hB2
 have b1 := h.hnp
 have b2 := h2.hnp
 exact same6_t hS g.zd g.hld g.pn g.zk g.hlk g2.zd g2.hld g2.pn g2.zk g2.hlk (by omega) (by omega)
theorem av_valid {w : World} {f : Atm} {sd : Bool} {ad : Option Addr} {ld cd : Nat} {ap : Option Addr} {np cp : Nat} {sk : Bool} {ak : Option Addr} {lk ck : Nat} {B : Nat} (hf : Fit f) (h : AV w f sd ad ld cd ap np sk ak lk ck B) (hn : np ≤ 262144) (hB : B + np + 1 ≤ 4194000) :
  Calls Tryz.prog 18 #[.agg #[.int .i64 f.kind, .bool sd, .slice ad ld cd, .slice ap np cp, .bool sk, .slice ak lk ck]] w fun e w' => e = .returned (.bool true) ∧ Below w.heap.size w w' := avalid_t hf h.zd h.hld h.pn h.zk h.hlk hn hB
/-- what the first drawn region holds -/
theorem fs_S {W w' : World} {p q : Nat} {kd : Int} {sd : Bool} {ad : Option Addr} {ld cd : Nat} {ap : Option Addr} {np cp : Nat} {sk : Bool} {ak : Option Addr} {lk ck : Nat} {a2 : Option Addr} {n2 c2 : Nat} {s2 : Bool} {b2 : Option Addr} {l2 d2 : Nat} (x : AB W p kd sd ad ld cd ap np cp sk ak lk ck) (t : TB W q a2 n2 c2 s2 b2 l2 d2) (k : Below W.heap.size W w') :
  w'.cell? ⟨p, 0, none⟩ = some (.int .i64 kd) ∧ w'.cell? ⟨p, 1, none⟩ = some (.bool sd) ∧ w'.cell? ⟨p, 2, none⟩ = some (.slice ad ld cd) ∧ w'.cell? ⟨p, 3, none⟩ = some (.slice ap np cp) ∧ w'.cell? ⟨p, 4, none⟩ = some (.bool sk) ∧ w'.cell? ⟨p, 5, none⟩ = some (.slice ak lk ck) ∧ w'.cell? ⟨q, 0, none⟩ = some (.slice a2 n2 c2) ∧ w'.cell? ⟨q, 1, none⟩ = some (.bool s2) ∧ w'.cell? ⟨q, 2, none⟩ = some (.slice b2 l2 d2) ∧ Below W.heap.size W w' :=
 ⟨(x.below k).c0, (x.below k).c1, (x.below k).c2, (x.below k).c3, (x.below k).c4, (x.below k).c5, (t.below k).c0, (t.below k).c1, (t.below k).c2, k⟩

set_option maxRecDepth 100000 in
set_option maxHeartbeats 6400000 in
theorem atomForms_walk {w : World} {s1 : Bool} {a1 : Option Addr} {l1 c1 : Nat} {m : Int} {a2 : Option Addr} {n2 c2 : Nat} {s2 : Bool} {b2 : Option Addr} {l2 d2 : Nat} {ts : List (Int × Int)} {tk : Int} {kd : Int} {sd : Bool} {ad : Option Addr} {ld cd : Nat} {ap : Option Addr} {np cp : Nat} {sk : Bool} {ak : Option Addr} {lk ck : Nat} {d k : Int} {ps : List (Int × Int)} {B : Nat}
  (hm : Zm w s1 a1 l1 c1 m) (hl1 : l1 ≤ B) (hT : Pr w a2 n2 ts B) (hK : Zm w s2 b2 l2 d2 tk) (hl2 : l2 ≤ B) (hn2 : n2 ≤ 209716) (hd : Zm w sd ad ld cd d) (hld : ld ≤ B) (hP : Pr w ap np ps B) (hk : Zm w sk ak lk ck k) (hlk : lk ≤ B) (hn : np ≤ 209716) (hB : B ≤ 1048576) (htab : Tab w) :
  Calls Tryz.prog 3 #[.agg #[.bool s1, .slice a1 l1 c1], .agg #[.slice a2 n2 c2, .bool s2, .slice b2 l2 d2], .agg #[.int .i64 kd, .bool sd, .slice ad ld cd, .slice ap np cp, .bool sk, .slice ak lk ck]] w fun x w' => x = .returned (.bool true) ∧ Below w.heap.size w w' := by
 go_enter Tryz.func3, Tryz.ntmps3
 go_wp2_with fail
 have z := ((zb_new w s1 a1 l1 c1).below (below_alloc _ (.cells #[.slice a2 n2 c2, .bool s2, .slice b2 l2 d2] 27))).below (below_alloc _ (.cells #[.int .i64 kd, .bool sd, .slice ad ld cd, .slice ap np cp, .bool sk, .slice ak lk ck] 29))
 have t := (tb_new (w.alloc (.cells #[.bool s1, .slice a1 l1 c1] 24)) a2 n2 c2 s2 b2 l2 d2).below (below_alloc _ (.cells #[.int .i64 kd, .bool sd, .slice ad ld cd, .slice ap np cp, .bool sk, .slice ak lk ck] 29))
 have r := AB.new ((w.alloc (.cells #[.bool s1, .slice a1 l1 c1] 24)).alloc (.cells #[.slice a2 n2 c2, .bool s2, .slice b2 l2 d2] 27)) kd sd ad ld cd ap np cp sk ak lk ck
 have b0 : Below w.heap.size w (((w.alloc (.cells #[.bool s1, .slice a1 l1 c1] 24)).alloc (.cells #[.slice a2 n2 c2, .bool s2, .slice b2 l2 d2] 27)).alloc (.cells #[.int .i64 kd, .bool sd, .slice ad ld cd, .slice ap np cp, .bool sk, .slice ak lk ck] 29)) := below_alloc' (below_alloc' (below_alloc _ _) _) _
 rw [show (w.alloc (.cells #[.bool s1, .slice a1 l1 c1] 24)).heap.size = w.heap.size + 1 from by simp] at t
 rw [show ((w.alloc (.cells #[.bool s1, .slice a1 l1 c1] 24)).alloc (.cells #[.slice a2 n2 c2, .bool s2, .slice b2 l2 d2] 27)).heap.size = w.heap.size + 1 + 1 from by simp] at r
 generalize ((w.alloc (.cells #[.bool s1, .slice a1 l1 c1] 24)).alloc (.cells #[.slice a2 n2 c2, .bool s2, .slice b2 l2 d2] 27)).alloc (.cells #[.int .i64 kd, .bool sd, .slice ad ld cd, .slice ap np cp, .bool sk, .slice ak lk ck] 29) = wb at *
 replace hm := hm.below b0
 replace hT := hT.below b0
 replace hK := hK.below b0
 replace hd := hd.below b0
 replace hP := hP.below b0
 replace hk := hk.below b0
 replace htab := htab.below b0
 generalize hp : w.heap.size = p at *
 replace b0 : Hid (Below w.heap.size w wb) := hp ▸ b0
 clear hp
 generalize p + 1 + 1 = pr at *
 generalize p + 1 = pt at *
 obtain ⟨xd, X, xk, hR⟩ := ar_of hd hld hP hk hlk
 have HS := hide (lessF_fit (std_lays ts) tk)
 have HL : (lessF (nz (lays [] ts)) tk).ps.length ≤ n2 := by
  have h1 := (formA_prt (kind := 2) (d := 0) (std_lays ts) (show formA 2 0 (nz (lays [] ts)) tk = .inl (lessF (nz (lays [] ts)) tk) from by unfold formA; simp)).1
  have h2 := std_len (std_lays ts) (csum_nzl ts)
  have h3 := hT.1
  omega
 have HS3 := hide (fo_std (kd := 3) (d := m) (k := tk) (std_lays ts))
 have HS4 := hide (fo_std (kd := 4) (d := m) (k := tk) (std_lays ts))
 have HSR := hide (fo_std (kd := kd) (d := d) (k := k) (std_lays ps))
 generalize hGL : lessF (nz (lays [] ts)) tk = GL at *
 generalize hG3 : formA 3 m (nz (lays [] ts)) tk = G3 at *
 generalize hG4 : formA 4 m (nz (lays [] ts)) tk = G4 at *
 generalize hGR : formA kd d (nz (lays [] ps)) k = GR at *
 replace hGL := hide hGL
 replace hG3 := hide hG3
 replace hG4 := hide hG4
 replace hGR := hide hGR
 refine (awake6_n wb htab).mono ?_
 rintro e w1 ⟨rfl, k1⟩
 replace k1 := hide k1
 clear htab
 have u0 := (t.below k1.out).c0
 have u1 := (t.below k1.out).c1
 have u2 := (t.below k1.out).c2
 go_wp2_with fail
 clear u0 u1 u2
 refine (less_n (hT.below k1.out) (hK.below k1.out) hl2 (by omega) (by omega)).mono ?_
 rintro e w2 ⟨qs, hS, hc, hA, kA⟩
 obtain rfl := lays_eq hS hc
 clear hS hc
 rw [hGL.out] at hA
 obtain ⟨sdL, adL, ldL, cdL, apL, npL, cpL, skL, akL, lkL, ckL, rfl, fL⟩ := aw_af hA
 have ka := grow_alloc kA (.cells #[.int .i64 GL.kind, .bool sdL, .slice adL ldL cdL, .slice apL npL cpL, .bool skL, .slice akL lkL ckL] 29)
 clear hA kA
 have k2 := hide (grow_step ka k1.out)
 replace fL := hide fL
 clear ka k1
 have x0 := (z.below k2.out).c0
 have x1 := (z.below k2.out).c1
 have u0 := (t.below k2.out).c0
 have u1 := (t.below k2.out).c1
 have u2 := (t.below k2.out).c2
 go_wp2_with fail
 generalize w2.alloc (.cells #[.int .i64 GL.kind, .bool sdL, .slice adL ldL cdL, .slice apL npL cpL, .bool skL, .slice akL lkL ckL] 29) = wn2 at *
 generalize w2.heap.size = pL at *
 clear x0 x1 u0 u1 u2
 refine (adiv6_n (hm.below k2.out) hl1 (hT.below k2.out) (hK.below k2.out) hl2 (by omega) (by omega)).mono ?_
 rintro e w3 ⟨hA, kA⟩
 rw [hG3.out] at hA
 obtain ⟨sdX, adX, ldX, cdX, apX, npX, cpX, skX, akX, lkX, ckX, rfl, fX⟩ := an_af hA
 have ka := grow_alloc kA (.cells #[.int .i64 (fo G3).kind, .bool sdX, .slice adX ldX cdX, .slice apX npX cpX, .bool skX, .slice akX lkX ckX] 29)
 clear hA kA
 replace fL := hide (fL.out.below ka)
 have k3 := hide (grow_step ka k2.out)
 replace fX := hide fX
 clear ka k2
 have x0 := (z.below k3.out).c0
 have x1 := (z.below k3.out).c1
 have u0 := (t.below k3.out).c0
 have u1 := (t.below k3.out).c1
 have u2 := (t.below k3.out).c2
 go_wp2_with fail
 generalize w3.alloc (.cells #[.int .i64 (fo G3).kind, .bool sdX, .slice adX ldX cdX, .slice apX npX cpX, .bool skX, .slice akX lkX ckX] 29) = wn3 at *
 generalize w3.heap.size = pX at *
 clear x0 x1 u0 u1 u2
 refine (rdiv6_n (hm.below k3.out) hl1 (hT.below k3.out) (hK.below k3.out) hl2 (by omega) (by omega)).mono ?_
 rintro e w4 ⟨hA, kA⟩
 rw [hG3.out] at hA
 obtain ⟨sdY, adY, ldY, cdY, apY, npY, cpY, skY, akY, lkY, ckY, rfl, fY⟩ := an_af hA
 have ka := grow_alloc kA (.cells #[.int .i64 (fo G3).kind, .bool sdY, .slice adY ldY cdY, .slice apY npY cpY, .bool skY, .slice akY lkY ckY] 29)
 clear hA kA
 replace fL := hide (fL.out.below ka)
 replace fX := hide (fX.out.below ka)
 have k4 := hide (grow_step ka k3.out)
 replace fY := hide fY
 clear ka k3
 have x0 := (z.below k4.out).c0
 have x1 := (z.below k4.out).c1
 have u0 := (t.below k4.out).c0
 have u1 := (t.below k4.out).c1
 have u2 := (t.below k4.out).c2
 go_wp2_with fail
 generalize w4.alloc (.cells #[.int .i64 (fo G3).kind, .bool sdY, .slice adY ldY cdY, .slice apY npY cpY, .bool skY, .slice akY lkY ckY] 29) = wn4 at *
 generalize w4.heap.size = pY at *
 clear x0 x1 u0 u1 u2
 refine (anot6_n (hm.below k4.out) hl1 (hT.below k4.out) (hK.below k4.out) hl2 (by omega) (by omega)).mono ?_
 rintro e w5 ⟨hA, kA⟩
 rw [hG4.out] at hA
 obtain ⟨sdZ, adZ, ldZ, cdZ, apZ, npZ, cpZ, skZ, akZ, lkZ, ckZ, rfl, fZ⟩ := an_af hA
 have ka := grow_alloc kA (.cells #[.int .i64 (fo G4).kind, .bool sdZ, .slice adZ ldZ cdZ, .slice apZ npZ cpZ, .bool skZ, .slice akZ lkZ ckZ] 29)
 clear hA kA
 replace fL := hide (fL.out.below ka)
 replace fX := hide (fX.out.below ka)
 replace fY := hide (fY.out.below ka)
 have k5 := hide (grow_step ka k4.out)
 replace fZ := hide fZ
 clear ka k4
 have x0 := (z.below k5.out).c0
 have x1 := (z.below k5.out).c1
 have u0 := (t.below k5.out).c0
 have u1 := (t.below k5.out).c1
 have u2 := (t.below k5.out).c2
 go_wp2_with fail
 generalize w5.alloc (.cells #[.int .i64 (fo G4).kind, .bool sdZ, .slice adZ ldZ cdZ, .slice apZ npZ cpZ, .bool skZ, .slice akZ lkZ ckZ] 29) = wn5 at *
 generalize w5.heap.size = pZ at *
 clear x0 x1 u0 u1 u2
 refine (rnot6_n (hm.below k5.out) hl1 (hT.below k5.out) (hK.below k5.out) hl2 (by omega) (by omega)).mono ?_
 rintro e w6 ⟨hA, kA⟩
 rw [hG4.out] at hA
 obtain ⟨sdW, adW, ldW, cdW, apW, npW, cpW, skW, akW, lkW, ckW, rfl, fW⟩ := an_af hA
 have ka := grow_alloc kA (.cells #[.int .i64 (fo G4).kind, .bool sdW, .slice adW ldW cdW, .slice apW npW cpW, .bool skW, .slice akW lkW ckW] 29)
 clear hA kA
 replace fL := hide (fL.out.below ka)
 replace fX := hide (fX.out.below ka)
 replace fY := hide (fY.out.below ka)
 replace fZ := hide (fZ.out.below ka)
 have k6 := hide (grow_step ka k5.out)
 replace fW := hide fW
 clear ka k5
 have v0 := (r.below k6.out).c0
 have v1 := (r.below k6.out).c1
 have v2 := (r.below k6.out).c2
 have v3 := (r.below k6.out).c3
 have v4 := (r.below k6.out).c4
 have v5 := (r.below k6.out).c5
 go_wp2_with fail
 generalize w6.alloc (.cells #[.int .i64 (fo G4).kind, .bool sdW, .slice adW ldW cdW, .slice apW npW cpW, .bool skW, .slice akW lkW ckW] 29) = wn6 at *
 generalize w6.heap.size = pW at *
 clear v0 v1 v2 v3 v4 v5
 refine (anorm_n (hd.below k6.out) hld (hP.below k6.out) (hk.below k6.out) hlk (by omega) (by omega)).mono ?_
 rintro e w7 ⟨qs, hS, hc, hA, kA⟩
 obtain rfl := lays_eq hS hc
 clear hS hc
 rw [hGR.out] at hA
 obtain ⟨sdN, adN, ldN, cdN, apN, npN, cpN, skN, akN, lkN, ckN, rfl, fN⟩ := an_af hA
 have ka := grow_alloc kA (.cells #[.int .i64 (fo GR).kind, .bool sdN, .slice adN ldN cdN, .slice apN npN cpN, .bool skN, .slice akN lkN ckN] 29)
 clear hA kA
 replace fL := hide (fL.out.below ka)
 replace fX := hide (fX.out.below ka)
 replace fY := hide (fY.out.below ka)
 replace fZ := hide (fZ.out.below ka)
 replace fW := hide (fW.out.below ka)
 have k7 := hide (grow_step ka k6.out)
 replace fN := hide fN
 clear ka k6
 have v0 := (r.below k7.out).c0
 have v1 := (r.below k7.out).c1
 have v2 := (r.below k7.out).c2
 have v3 := (r.below k7.out).c3
 have v4 := (r.below k7.out).c4
 have v5 := (r.below k7.out).c5
 go_wp2_with fail
 generalize w7.alloc (.cells #[.int .i64 (fo GR).kind, .bool sdN, .slice adN ldN cdN, .slice apN npN cpN, .bool skN, .slice akN lkN ckN] 29) = wn7 at *
 generalize w7.heap.size = pN at *
 clear v0 v1 v2 v3 v4 v5
 refine (rnorm6_n (hd.below k7.out) hld (hP.below k7.out) (hk.below k7.out) hlk (by omega) (by omega)).mono ?_
 rintro e w8 ⟨hA, kA⟩
 rw [hGR.out] at hA
 obtain ⟨sdM, adM, ldM, cdM, apM, npM, cpM, skM, akM, lkM, ckM, rfl, fM⟩ := an_af hA
 have ka := grow_alloc kA (.cells #[.int .i64 (fo GR).kind, .bool sdM, .slice adM ldM cdM, .slice apM npM cpM, .bool skM, .slice akM lkM ckM] 29)
 clear hA kA
 replace fL := hide (fL.out.below ka)
 replace fX := hide (fX.out.below ka)
 replace fY := hide (fY.out.below ka)
 replace fZ := hide (fZ.out.below ka)
 replace fW := hide (fW.out.below ka)
 replace fN := hide (fN.out.below ka)
 have k8 := hide (grow_step ka k7.out)
 replace fM := hide fM
 clear ka k7
 have v0 := (r.below k8.out).c0
 have v1 := (r.below k8.out).c1
 have v2 := (r.below k8.out).c2
 have v3 := (r.below k8.out).c3
 have v4 := (r.below k8.out).c4
 have v5 := (r.below k8.out).c5
 go_wp2_with fail
 generalize w8.alloc (.cells #[.int .i64 (fo GR).kind, .bool sdM, .slice adM ldM cdM, .slice apM npM cpM, .bool skM, .slice akM lkM ckM] 29) = wn8 at *
 generalize w8.heap.size = pM at *
 clear v0 v1 v2 v3 v4 v5
 refine (avalid_n (hR.below k8.out) (by omega) (by omega)).mono ?_
 rintro e w9 ⟨⟨bv, rfl, hbv⟩, kV⟩
 replace hbv := hide hbv
 replace fL := hide (fL.out.below kV)
 replace fX := hide (fX.out.below kV)
 replace fY := hide (fY.out.below kV)
 replace fZ := hide (fZ.out.below kV)
 replace fW := hide (fW.out.below kV)
 replace fN := hide (fN.out.below kV)
 replace fM := hide (fM.out.below kV)
 have k9 := hide (grow_step kV k8.out)
 clear kV k8
 have fL9 := fL.out
 have hT9 := hT.below k9.out
 have hK9 := hK.below k9.out
 have t9 := t.below k9.out
 have hnL : npL ≤ n2 := by have := fL9.av.pn.1; omega
 go_wp2_with fail
 go_region_held3 (fun w' => w'.cell? ⟨pL, 0, none⟩ = some (.int .i64 GL.kind) ∧ w'.cell? ⟨pL, 1, none⟩ = some (.bool sdL) ∧ w'.cell? ⟨pL, 2, none⟩ = some (.slice adL ldL cdL) ∧ w'.cell? ⟨pL, 3, none⟩ = some (.slice apL npL cpL) ∧ w'.cell? ⟨pL, 4, none⟩ = some (.bool skL) ∧ w'.cell? ⟨pL, 5, none⟩ = some (.slice akL lkL ckL) ∧ w'.cell? ⟨pt, 0, none⟩ = some (.slice a2 n2 c2) ∧ w'.cell? ⟨pt, 1, none⟩ = some (.bool s2) ∧ w'.cell? ⟨pt, 2, none⟩ = some (.slice b2 l2 d2) ∧ Below w9.heap.size w9 w')
  ((refine fs_S fL9.ab t9 ?_; (repeat' (first | with_reducible exact Below.refl _ _ | with_reducible assumption | with_reducible refine grow_step (by with_reducible assumption) ?_ | with_reducible refine grow_drew ?_ | with_reducible refine grow_alloc ?_ _ | with_reducible refine grow_drewN ?_ _))))
  (first | (go_at_call 18; refine Calls.mono (av_valid HS.out (AV.below fL9.av (by (repeat' (first | with_reducible exact Below.refl _ _ | with_reducible assumption | with_reducible refine grow_step (by with_reducible assumption) ?_ | with_reducible refine grow_drew ?_ | with_reducible refine grow_alloc ?_ _ | with_reducible refine grow_drewN ?_ _)))) (by omega) (by omega)) ?_; rintro e wA ⟨rfl, kA⟩) | (go_at_call 20; refine Calls.mono (rless6_n (Pr.below hT9 (by (repeat' (first | with_reducible exact Below.refl _ _ | with_reducible assumption | with_reducible refine grow_step (by with_reducible assumption) ?_ | with_reducible refine grow_drew ?_ | with_reducible refine grow_alloc ?_ _ | with_reducible refine grow_drewN ?_ _)))) (Zm.below hK9 (by (repeat' (first | with_reducible exact Below.refl _ _ | with_reducible assumption | with_reducible refine grow_step (by with_reducible assumption) ?_ | with_reducible refine grow_drew ?_ | with_reducible refine grow_alloc ?_ _ | with_reducible refine grow_drewN ?_ _)))) hl2 (by omega) (by omega)) ?_; rintro e wB ⟨hA, kB⟩; rw [hGL.out] at hA; obtain ⟨sdR, adR, ldR, cdR, apR, npR, cpR, skR, akR, lkR, ckR, rfl, fR⟩ := aw_av hA; clear hA) | (go_at_call 19; refine Calls.mono (av_same HS.out.std (AV.below fL9.av (by (repeat' (first | with_reducible exact Below.refl _ _ | with_reducible assumption | with_reducible refine grow_step (by with_reducible assumption) ?_ | with_reducible refine grow_drew ?_ | with_reducible refine grow_alloc ?_ _ | with_reducible refine grow_drewN ?_ _)))) (AV.below fR (by (repeat' (first | with_reducible exact Below.refl _ _ | with_reducible assumption | with_reducible refine grow_step (by with_reducible assumption) ?_ | with_reducible refine grow_drew ?_ | with_reducible refine grow_alloc ?_ _ | with_reducible refine grow_drewN ?_ _)))) (by omega) (by omega)) ?_; rintro e wC ⟨rfl, kC⟩))
 all_goals
  have kf : Hid (RowKit.Below w9.heap.size w9 wC) := (by (repeat' (first | with_reducible exact Below.refl _ _ | with_reducible assumption | (go_split_ands; with_reducible assumption) | with_reducible refine grow_step (by with_reducible assumption) ?_ | with_reducible refine grow_drew ?_ | with_reducible refine grow_alloc ?_ _ | with_reducible refine grow_drewN ?_ _)) : RowKit.Below w9.heap.size w9 wC)
  replace fX := hide (fX.out.below kf.out)
  replace fY := hide (fY.out.below kf.out)
  replace fZ := hide (fZ.out.below kf.out)
  replace fW := hide (fW.out.below kf.out)
  replace fN := hide (fN.out.below kf.out)
  replace fM := hide (fM.out.below kf.out)
  have kD := hide (grow_step kf.out k9.out)
  have r9 := hide (r.below kD.out)
  have hR9 := hide (hR.below kD.out)
  have kz : Hid (RowKit.Below w.heap.size w wC) := hide (grow_step kD.out b0.out)
  clear kf k9 kD fL fL9 hT9 hK9 t9 r hR
  have v0 := fX.out.ab.c0
  have v1 := fX.out.ab.c1
  have v2 := fX.out.ab.c2
  have v3 := fX.out.ab.c3
  have v4 := fX.out.ab.c4
  have v5 := fX.out.ab.c5
  have u0 := fY.out.ab.c0
  have u1 := fY.out.ab.c1
  have u2 := fY.out.ab.c2
  have u3 := fY.out.ab.c3
  have u4 := fY.out.ab.c4
  have u5 := fY.out.ab.c5
  go_wp2_with fail
  clear v0 v1 v2 v3 v4 v5 u0 u1 u2 u3 u4 u5
  refine (av_same HS3.out fX.out.av fY.out.av (by omega) (by omega)).mono ?_
  rintro e wE0 ⟨rfl, kE⟩
  replace fZ := hide (fZ.out.below kE)
  replace fW := hide (fW.out.below kE)
  replace fN := hide (fN.out.below kE)
  replace fM := hide (fM.out.below kE)
  replace r9 := hide (r9.out.below kE)
  replace hR9 := hide (hR9.out.below kE)
  replace kz := hide (grow_step kE kz.out)
  clear kE fX fY
  have v0 := fZ.out.ab.c0
  have v1 := fZ.out.ab.c1
  have v2 := fZ.out.ab.c2
  have v3 := fZ.out.ab.c3
  have v4 := fZ.out.ab.c4
  have v5 := fZ.out.ab.c5
  have u0 := fW.out.ab.c0
  have u1 := fW.out.ab.c1
  have u2 := fW.out.ab.c2
  have u3 := fW.out.ab.c3
  have u4 := fW.out.ab.c4
  have u5 := fW.out.ab.c5
  go_wp2_with fail
  clear v0 v1 v2 v3 v4 v5 u0 u1 u2 u3 u4 u5
  refine (av_same HS4.out fZ.out.av fW.out.av (by omega) (by omega)).mono ?_
  rintro e wE1 ⟨rfl, kE⟩
  replace fN := hide (fN.out.below kE)
  replace fM := hide (fM.out.below kE)
  replace r9 := hide (r9.out.below kE)
  replace hR9 := hide (hR9.out.below kE)
  replace kz := hide (grow_step kE kz.out)
  clear kE fZ fW
  have v0 := fN.out.ab.c0
  have v1 := fN.out.ab.c1
  have v2 := fN.out.ab.c2
  have v3 := fN.out.ab.c3
  have v4 := fN.out.ab.c4
  have v5 := fN.out.ab.c5
  have u0 := fM.out.ab.c0
  have u1 := fM.out.ab.c1
  have u2 := fM.out.ab.c2
  have u3 := fM.out.ab.c3
  have u4 := fM.out.ab.c4
  have u5 := fM.out.ab.c5
  go_wp2_with fail
  clear v0 v1 v2 v3 v4 v5 u0 u1 u2 u3 u4 u5
  refine (av_same HSR.out fN.out.av fM.out.av (by omega) (by omega)).mono ?_
  rintro e wE2 ⟨rfl, kE⟩
  replace r9 := hide (r9.out.below kE)
  replace hR9 := hide (hR9.out.below kE)
  replace kz := hide (grow_step kE kz.out)
  clear kE fN fM
  have v0 := r9.out.c0
  have v1 := r9.out.c1
  have v2 := r9.out.c2
  have v3 := r9.out.c3
  have v4 := r9.out.c4
  have v5 := r9.out.c5
  go_wp2_with fail
  clear v0 v1 v2 v3 v4 v5
  refine (rvalid6_n hR9.out (by omega) (by omega)).mono ?_
  rintro e wF ⟨⟨bw, rfl, hbw⟩, kF⟩
  obtain rfl : bw = bv := by
   have h9 : bw = true ↔ bv = true := hbw.trans hbv.out.symm
   cases bw <;> cases bv <;> simp_all
  replace kz := hide (grow_step kF kz.out)
  clear kF hbw hbv hR9 r9
  go_wp2
  go_ret
  exact ⟨rfl, kz.out⟩
end Go.Proofs.YtjlkmjonadkkdaaGreatDoor
