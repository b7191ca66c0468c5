/-
 Several texts in one: BN,BT.
-/
import Derived.Test.YtepdckgfolkjjaaGreatDoorR33
import Derived.Test.YtepdckgfolkjjaaGreatDoorR30
import Derived.Test.YtepdckgfolkjjaaGreatDoorR27
namespace Go.Proofs.YtepdckgfolkjjaaGreatDoor
open Go.RowKit Go.Sort Go.Shelf
open Tm At

set_option maxRecDepth 100000 in
set_option maxHeartbeats 6400000 in
theorem rnorm6_n {w : World} {kd : Int} {sd : Bool} {ad : Option Addr} {ld cd : Nat} {ap : Option Addr} {np cp : Nat} {sk : Bool} {ak : Option Addr} {lk ck : Nat} {d k : Int} {ps : List (Int × Int)} {B : Nat}
  (hd : Zm w sd ad ld cd d) (hld : ld≤B) (hP : Pr w ap np ps B) (hk : Zm w sk ak lk ck k) (hlk : lk≤B) (hn : np≤262144) (hB : B + np≤4194000) :
  Calls Tryz.prog 11 #[.agg #[.int .i64 kd,.bool sd,.slice ad ld cd,.slice ap np cp,.bool sk,.slice ak lk ck]] w fun e w' => AN w' e (formA kd d (nz (lays [] ps)) k) (8 * B + 16 * np + 100) w.heap.size∧Below w.heap.size w w':=by
 by_cases h0 : kd = 0
 ·subst h0
  have y:=AB.new (w.alloc (.cells #[.int .i64 0,.bool sd,.slice ad ld cd,.slice ap np cp,.bool sk,.slice ak lk ck] 29)) 0 false none 0 0 none 0 0 false none 0 0
  rw [show (w.alloc (.cells #[.int .i64 0,.bool sd,.slice ad ld cd,.slice ap np cp,.bool sk,.slice ak lk ck] 29)).heap.size = w.heap.size + 1 from by simp] at y
  have b0 : Below w.heap.size w ((w.alloc (.cells #[.int .i64 0,.bool sd,.slice ad ld cd,.slice ap np cp,.bool sk,.slice ak lk ck] 29)).alloc (.cells #[.int .i64 0,.bool false,.slice none 0 0,.slice none 0 0,.bool false,.slice none 0 0] 29)):=below_alloc' (below_alloc _ _) _
  have HH:=hide (And.intro y b0)
  clear y b0
  go_enter Tryz.func11,Tryz.ntmps11
  go_wp2
  obtain ⟨y,b0⟩:=HH.out
  refine bodyPost_ret (results_ct rfl _ _ (w.heap.size + 1) 29 _ (0,0) _ rfl y Tryz.underlying29 rfl (by kernel_rfl)) rfl ?_
  exact ⟨⟨false,none,0,0,none,0,0,false,none,0,0,rfl,zn_zero _,by omega,pn_nil _ _ _,by omega,zn_zero _,by omega,fun _ _ h => by cases h⟩,b0⟩
 by_cases h1 : kd = 1
 ·subst h1
  have y:=AB.new (w.alloc (.cells #[.int .i64 1,.bool sd,.slice ad ld cd,.slice ap np cp,.bool sk,.slice ak lk ck] 29)) 1 false none 0 0 none 0 0 false none 0 0
  rw [show (w.alloc (.cells #[.int .i64 1,.bool sd,.slice ad ld cd,.slice ap np cp,.bool sk,.slice ak lk ck] 29)).heap.size = w.heap.size + 1 from by simp] at y
  have b0 : Below w.heap.size w ((w.alloc (.cells #[.int .i64 1,.bool sd,.slice ad ld cd,.slice ap np cp,.bool sk,.slice ak lk ck] 29)).alloc (.cells #[.int .i64 1,.bool false,.slice none 0 0,.slice none 0 0,.bool false,.slice none 0 0] 29)):=below_alloc' (below_alloc _ _) _
  have HH:=hide (And.intro y b0)
  clear y b0
  go_enter Tryz.func11,Tryz.ntmps11
  go_wp2
  obtain ⟨y,b0⟩:=HH.out
  refine bodyPost_ret (results_ct rfl _ _ (w.heap.size + 1) 29 _ (0,0) _ rfl y Tryz.underlying29 rfl (by kernel_rfl)) rfl ?_
  exact ⟨⟨false,none,0,0,none,0,0,false,none,0,0,rfl,zn_zero _,by omega,pn_nil _ _ _,by omega,zn_zero _,by omega,fun _ _ h => by cases h⟩,b0⟩
 by_cases h2 : kd = 2
 ·subst h2
  clear h0 h1
  have x:=(AB.new w 2 sd ad ld cd ap np cp sk ak lk ck).below (below_alloc _ (.cells #[.int .i64 0,.bool false,.slice none 0 0,.slice none 0 0,.bool false,.slice none 0 0] 29))
  have y:=AB.new (w.alloc (.cells #[.int .i64 2,.bool sd,.slice ad ld cd,.slice ap np cp,.bool sk,.slice ak lk ck] 29)) 0 false none 0 0 none 0 0 false none 0 0
  rw [show (w.alloc (.cells #[.int .i64 2,.bool sd,.slice ad ld cd,.slice ap np cp,.bool sk,.slice ak lk ck] 29)).heap.size = w.heap.size + 1 from by simp] at y
  have b0 : Below w.heap.size w ((w.alloc (.cells #[.int .i64 2,.bool sd,.slice ad ld cd,.slice ap np cp,.bool sk,.slice ak lk ck] 29)).alloc (.cells #[.int .i64 0,.bool false,.slice none 0 0,.slice none 0 0,.bool false,.slice none 0 0] 29)):=below_alloc' (below_alloc _ _) _
  have HH:=hide (And.intro x (And.intro y (And.intro b0 (And.intro (hP.below b0) (And.intro (hd.below b0) (hk.below b0))))))
  clear x y b0
  go_enter Tryz.func11,Tryz.ntmps11
  go_wp2_with fail
  obtain ⟨x,y,b0,hP,hd,hk⟩:=HH.out
  clear HH
  generalize (w.alloc (.cells #[.int .i64 2,.bool sd,.slice ad ld cd,.slice ap np cp,.bool sk,.slice ak lk ck] 29)).alloc (.cells #[.int .i64 0,.bool false,.slice none 0 0,.slice none 0 0,.bool false,.slice none 0 0] 29) = wb at *
  have hr : w.heap.size≤w.heap.size + 1:=by omega
  generalize w.heap.size + 1 = r at *
  generalize hp : w.heap.size = p at *
  replace hp:=hide hp
  refine (rless6_n hP hk hlk (by omega) (by omega)).mono ?_
  rintro e w1 ⟨⟨sd1,ad1,ld1,cd1,ap1,np1,cp1,sk1,ak1,lk1,ck1,rfl,hz1,hlz1,hPn1,hnp1,hk1,hlk1,hnew1⟩,k1⟩
  have hfm : Hid (formA 2 d (nz (lays [] ps)) k = .inl (lessF (nz (lays [] ps)) k)):=(show _ = _ by unfold formA; rw [if_neg (by decide),if_pos rfl])
  generalize lessF (nz (lays [] ps)) k = ff at *
  have hrl:=y.lt
  replace y:=y.below k1
  have e0:=y.c0
  have e1:=y.c1
  have e2:=y.c2
  have e3:=y.c3
  have e4:=y.c4
  have e5:=y.c5
  have f0:=y.f 0
  have f1:=y.f 1
  have f2:=y.f 2
  have f3:=y.f 3
  have f4:=y.f 4
  have f5:=y.f 5
  have g6:=ab_set w1 r (.int .i64 ff.kind) (.bool sd1) (.slice ad1 ld1 cd1) (.slice ap1 np1 cp1) (.bool sk1) (.slice ak1 lk1 ck1)
  have hPf:=hide (hPn1.away (fun b off e => by have:=hnew1 b off e; omega) g6 (ab_noU y))
  have hzf:=hide (hk1.grownU g6 (ab_noU y))
  have hdf:=hide (hz1.grownU g6 (ab_noU y))
  have kf:=hide (below_grown (grow_step k1 (show Below w.heap.size w wb from hp.out.symm ▸ b0)) g6 (by have:=hp.out; omega))
  have hnw : Hid (∀ b off,ap1 = some ⟨b,off,none⟩→w.heap.size≤b):=(fun b off e => by have h1:=hnew1 b off e; have h2:=hp.out; omega)
  clear g6 hPn1 hk1 hz1 hnew1 hP hd hk x b0 k1
  go_wp2
  refine bodyPost_ret (results_ct rfl _ _ r 29 _ (0,0) _ rfl (ab_fin y ff.kind sd1 ad1 ld1 cd1 ap1 np1 cp1 sk1 ak1 lk1 ck1) Tryz.underlying29 rfl (by kernel_rfl)) rfl ?_
  refine ⟨?_,kf.out⟩
  rw [hfm.out]
  exact ⟨sd1,ad1,ld1,cd1,ap1,np1,cp1,sk1,ak1,lk1,ck1,by simp,hdf.out,by omega,hPf.out.mono (by omega),by omega,hzf.out,by omega,hnw.out⟩
 by_cases h3 : kd = 3
 ·subst h3
  clear h0 h1 h2
  have x:=(AB.new w 3 sd ad ld cd ap np cp sk ak lk ck).below (below_alloc _ (.cells #[.int .i64 0,.bool false,.slice none 0 0,.slice none 0 0,.bool false,.slice none 0 0] 29))
  have y:=AB.new (w.alloc (.cells #[.int .i64 3,.bool sd,.slice ad ld cd,.slice ap np cp,.bool sk,.slice ak lk ck] 29)) 0 false none 0 0 none 0 0 false none 0 0
  rw [show (w.alloc (.cells #[.int .i64 3,.bool sd,.slice ad ld cd,.slice ap np cp,.bool sk,.slice ak lk ck] 29)).heap.size = w.heap.size + 1 from by simp] at y
  have b0 : Below w.heap.size w ((w.alloc (.cells #[.int .i64 3,.bool sd,.slice ad ld cd,.slice ap np cp,.bool sk,.slice ak lk ck] 29)).alloc (.cells #[.int .i64 0,.bool false,.slice none 0 0,.slice none 0 0,.bool false,.slice none 0 0] 29)):=below_alloc' (below_alloc _ _) _
  have HH:=hide (And.intro x (And.intro y (And.intro b0 (And.intro (hP.below b0) (And.intro (hd.below b0) (hk.below b0))))))
  clear x y b0
  go_enter Tryz.func11,Tryz.ntmps11
  go_wp2_with fail
  obtain ⟨x,y,b0,hP,hd,hk⟩:=HH.out
  clear HH
  generalize (w.alloc (.cells #[.int .i64 3,.bool sd,.slice ad ld cd,.slice ap np cp,.bool sk,.slice ak lk ck] 29)).alloc (.cells #[.int .i64 0,.bool false,.slice none 0 0,.slice none 0 0,.bool false,.slice none 0 0] 29) = wb at *
  have hr : w.heap.size≤w.heap.size + 1:=by omega
  generalize w.heap.size + 1 = r at *
  generalize hp : w.heap.size = p at *
  replace hp:=hide hp
  by_cases hd0 : d = 0
  ·subst hd0
   have hfm : Hid (formA 3 0 (nz (lays [] ps)) k = .inr 11):=(show _ = _ by unfold formA; rw [if_neg (by decide),if_neg (by decide),if_pos (by decide),if_pos rfl])
   refine (rparted_false (B:=B) hd hld hP hk hlk (by omega) (by omega)).mono ?_
   rintro e w1 ⟨hRP,k1⟩
   obtain ⟨-,hz⟩ : (0 : Int) = 0∧AZ e 11:=by
    rcases hRP with h | ⟨h, -⟩
    ·exact h
    ·exact absurd rfl h
   unfold AZ at hz
   subst hz
   replace y:=y.below k1
   have e0:=y.c0
   have e1:=y.c1
   have e2:=y.c2
   have e3:=y.c3
   have e4:=y.c4
   have e5:=y.c5
   have f0:=y.f 0
   have f1:=y.f 1
   have f2:=y.f 2
   have f3:=y.f 3
   have f4:=y.f 4
   have f5:=y.f 5
   have g6:=ab_set w1 r (.int .i64 0) (.bool false) (.slice none 0 0) (.slice none 0 0) (.bool false) (.slice none 0 0)
   have kf:=hide (below_grown (grow_step k1 (show Below w.heap.size w wb from hp.out.symm ▸ b0)) g6 (by have:=hp.out; omega))
   clear g6 hP hd hk x b0 k1
   go_wp2
   refine bodyPost_ret (results_ct rfl _ _ r 29 _ (0,0) _ rfl (ab_fin y 0 false none 0 0 none 0 0 false none 0 0) Tryz.underlying29 rfl (by kernel_rfl)) rfl ?_
   exact ⟨by rw [hfm.out]; exact rfl,kf.out⟩
  ·refine (rparted_false (B:=B) hd hld hP hk hlk (by omega) (by omega)).mono ?_
   rintro e w1 ⟨hRP,k1⟩
   rcases hRP with ⟨h, -⟩ | ⟨-,hAE⟩
   ·exact absurd h hd0
   obtain ⟨sd1,ad1,ld1,cd1,ap1,np1,cp1,sk1,ak1,lk1,ck1,rfl,hz1,hlz1,hPn1,hnp1,hk1,hlk1,hnew1⟩:=hAE
   have hfm : Hid (formA 3 d (nz (lays [] ps)) k = .inl (divF 3 d (nz (lays [] ps)) k)):=(show _ = _ by unfold formA; rw [if_neg (by decide),if_neg (by decide),if_pos (by decide),if_neg hd0])
   generalize divF 3 d (nz (lays [] ps)) k = ff at *
   have hrl:=y.lt
   replace y:=y.below k1
   have e0:=y.c0
   have e1:=y.c1
   have e2:=y.c2
   have e3:=y.c3
   have e4:=y.c4
   have e5:=y.c5
   have f0:=y.f 0
   have f1:=y.f 1
   have f2:=y.f 2
   have f3:=y.f 3
   have f4:=y.f 4
   have f5:=y.f 5
   have g6:=ab_set w1 r (.int .i64 ff.kind) (.bool sd1) (.slice ad1 ld1 cd1) (.slice ap1 np1 cp1) (.bool sk1) (.slice ak1 lk1 ck1)
   have hPf:=hide (hPn1.away (fun b off e => by have:=hnew1 b off e; omega) g6 (ab_noU y))
   have hzf:=hide (hk1.grownU g6 (ab_noU y))
   have hdf:=hide (hz1.grownU g6 (ab_noU y))
   have kf:=hide (below_grown (grow_step k1 (show Below w.heap.size w wb from hp.out.symm ▸ b0)) g6 (by have:=hp.out; omega))
   have hnw : Hid (∀ b off,ap1 = some ⟨b,off,none⟩→w.heap.size≤b):=(fun b off e => by have h1:=hnew1 b off e; have h2:=hp.out; omega)
   clear g6 hPn1 hk1 hz1 hnew1 hP hd hk x b0 k1
   go_wp2
   refine bodyPost_ret (results_ct rfl _ _ r 29 _ (0,0) _ rfl (ab_fin y ff.kind sd1 ad1 ld1 cd1 ap1 np1 cp1 sk1 ak1 lk1 ck1) Tryz.underlying29 rfl (by kernel_rfl)) rfl ?_
   refine ⟨?_,kf.out⟩
   rw [hfm.out]
   exact ⟨sd1,ad1,ld1,cd1,ap1,np1,cp1,sk1,ak1,lk1,ck1,by simp,hdf.out,by omega,hPf.out.mono (by omega),by omega,hzf.out,by omega,hnw.out⟩
 by_cases h4 : kd = 4
 ·subst h4
  clear h0 h1 h2 h3
  have x:=(AB.new w 4 sd ad ld cd ap np cp sk ak lk ck).below (below_alloc _ (.cells #[.int .i64 0,.bool false,.slice none 0 0,.slice none 0 0,.bool false,.slice none 0 0] 29))
  have y:=AB.new (w.alloc (.cells #[.int .i64 4,.bool sd,.slice ad ld cd,.slice ap np cp,.bool sk,.slice ak lk ck] 29)) 0 false none 0 0 none 0 0 false none 0 0
  rw [show (w.alloc (.cells #[.int .i64 4,.bool sd,.slice ad ld cd,.slice ap np cp,.bool sk,.slice ak lk ck] 29)).heap.size = w.heap.size + 1 from by simp] at y
  have b0 : Below w.heap.size w ((w.alloc (.cells #[.int .i64 4,.bool sd,.slice ad ld cd,.slice ap np cp,.bool sk,.slice ak lk ck] 29)).alloc (.cells #[.int .i64 0,.bool false,.slice none 0 0,.slice none 0 0,.bool false,.slice none 0 0] 29)):=below_alloc' (below_alloc _ _) _
  have HH:=hide (And.intro x (And.intro y (And.intro b0 (And.intro (hP.below b0) (And.intro (hd.below b0) (hk.below b0))))))
  clear x y b0
  go_enter Tryz.func11,Tryz.ntmps11
  go_wp2_with fail
  obtain ⟨x,y,b0,hP,hd,hk⟩:=HH.out
  clear HH
  generalize (w.alloc (.cells #[.int .i64 4,.bool sd,.slice ad ld cd,.slice ap np cp,.bool sk,.slice ak lk ck] 29)).alloc (.cells #[.int .i64 0,.bool false,.slice none 0 0,.slice none 0 0,.bool false,.slice none 0 0] 29) = wb at *
  have hr : w.heap.size≤w.heap.size + 1:=by omega
  generalize w.heap.size + 1 = r at *
  generalize hp : w.heap.size = p at *
  replace hp:=hide hp
  by_cases hd0 : d = 0
  ·subst hd0
   have hfm : Hid (formA 4 0 (nz (lays [] ps)) k = .inr 11):=(show _ = _ by unfold formA; rw [if_neg (by decide),if_neg (by decide),if_pos (by decide),if_pos rfl])
   refine (rparted_true (B:=B) hd hld hP hk hlk (by omega) (by omega)).mono ?_
   rintro e w1 ⟨hRP,k1⟩
   obtain ⟨-,hz⟩ : (0 : Int) = 0∧AZ e 11:=by
    rcases hRP with h | ⟨h, -⟩
    ·exact h
    ·exact absurd rfl h
   unfold AZ at hz
   subst hz
   replace y:=y.below k1
   have e0:=y.c0
   have e1:=y.c1
   have e2:=y.c2
   have e3:=y.c3
   have e4:=y.c4
   have e5:=y.c5
   have f0:=y.f 0
   have f1:=y.f 1
   have f2:=y.f 2
   have f3:=y.f 3
   have f4:=y.f 4
   have f5:=y.f 5
   have g6:=ab_set w1 r (.int .i64 0) (.bool false) (.slice none 0 0) (.slice none 0 0) (.bool false) (.slice none 0 0)
   have kf:=hide (below_grown (grow_step k1 (show Below w.heap.size w wb from hp.out.symm ▸ b0)) g6 (by have:=hp.out; omega))
   clear g6 hP hd hk x b0 k1
   go_wp2
   refine bodyPost_ret (results_ct rfl _ _ r 29 _ (0,0) _ rfl (ab_fin y 0 false none 0 0 none 0 0 false none 0 0) Tryz.underlying29 rfl (by kernel_rfl)) rfl ?_
   exact ⟨by rw [hfm.out]; exact rfl,kf.out⟩
  ·refine (rparted_true (B:=B) hd hld hP hk hlk (by omega) (by omega)).mono ?_
   rintro e w1 ⟨hRP,k1⟩
   rcases hRP with ⟨h, -⟩ | ⟨-,hAE⟩
   ·exact absurd h hd0
   obtain ⟨sd1,ad1,ld1,cd1,ap1,np1,cp1,sk1,ak1,lk1,ck1,rfl,hz1,hlz1,hPn1,hnp1,hk1,hlk1,hnew1⟩:=hAE
   have hfm : Hid (formA 4 d (nz (lays [] ps)) k = .inl (divF 4 d (nz (lays [] ps)) k)):=(show _ = _ by unfold formA; rw [if_neg (by decide),if_neg (by decide),if_pos (by decide),if_neg hd0])
   generalize divF 4 d (nz (lays [] ps)) k = ff at *
   have hrl:=y.lt
   replace y:=y.below k1
   have e0:=y.c0
   have e1:=y.c1
   have e2:=y.c2
   have e3:=y.c3
   have e4:=y.c4
   have e5:=y.c5
   have f0:=y.f 0
   have f1:=y.f 1
   have f2:=y.f 2
   have f3:=y.f 3
   have f4:=y.f 4
   have f5:=y.f 5
   have g6:=ab_set w1 r (.int .i64 ff.kind) (.bool sd1) (.slice ad1 ld1 cd1) (.slice ap1 np1 cp1) (.bool sk1) (.slice ak1 lk1 ck1)
   have hPf:=hide (hPn1.away (fun b off e => by have:=hnew1 b off e; omega) g6 (ab_noU y))
   have hzf:=hide (hk1.grownU g6 (ab_noU y))
   have hdf:=hide (hz1.grownU g6 (ab_noU y))
   have kf:=hide (below_grown (grow_step k1 (show Below w.heap.size w wb from hp.out.symm ▸ b0)) g6 (by have:=hp.out; omega))
   have hnw : Hid (∀ b off,ap1 = some ⟨b,off,none⟩→w.heap.size≤b):=(fun b off e => by have h1:=hnew1 b off e; have h2:=hp.out; omega)
   clear g6 hPn1 hk1 hz1 hnew1 hP hd hk x b0 k1
   go_wp2
   refine bodyPost_ret (results_ct rfl _ _ r 29 _ (0,0) _ rfl (ab_fin y ff.kind sd1 ad1 ld1 cd1 ap1 np1 cp1 sk1 ak1 lk1 ck1) Tryz.underlying29 rfl (by kernel_rfl)) rfl ?_
   refine ⟨?_,kf.out⟩
   rw [hfm.out]
   exact ⟨sd1,ad1,ld1,cd1,ap1,np1,cp1,sk1,ak1,lk1,ck1,by simp,hdf.out,by omega,hPf.out.mono (by omega),by omega,hzf.out,by omega,hnw.out⟩
 ·have i0 : (kd == 0) = false:=by rw [beq_eq_false_iff_ne]; exact h0
  have i1 : (kd == 1) = false:=by rw [beq_eq_false_iff_ne]; exact h1
  have i2 : (kd == 2) = false:=by rw [beq_eq_false_iff_ne]; exact h2
  have i3 : (kd == 3) = false:=by rw [beq_eq_false_iff_ne]; exact h3
  have i4 : (kd == 4) = false:=by rw [beq_eq_false_iff_ne]; exact h4
  have hfm : Hid (formA kd d (nz (lays [] ps)) k = .inr 1):=(show _ = _ by unfold formA; rw [if_neg (by omega),if_neg h2,if_neg (by omega)])
  clear h0 h1 h2 h3 h4
  have y:=AB.new (w.alloc (.cells #[.int .i64 kd,.bool sd,.slice ad ld cd,.slice ap np cp,.bool sk,.slice ak lk ck] 29)) 0 false none 0 0 none 0 0 false none 0 0
  rw [show (w.alloc (.cells #[.int .i64 kd,.bool sd,.slice ad ld cd,.slice ap np cp,.bool sk,.slice ak lk ck] 29)).heap.size = w.heap.size + 1 from by simp] at y
  have b0 : Below w.heap.size w ((w.alloc (.cells #[.int .i64 kd,.bool sd,.slice ad ld cd,.slice ap np cp,.bool sk,.slice ak lk ck] 29)).alloc (.cells #[.int .i64 0,.bool false,.slice none 0 0,.slice none 0 0,.bool false,.slice none 0 0] 29)):=below_alloc' (below_alloc _ _) _
  have HH:=hide (And.intro y b0)
  clear y b0
  go_enter Tryz.func11,Tryz.ntmps11
  go_wp2
  obtain ⟨y,b0⟩:=HH.out
  refine bodyPost_ret (results_ct rfl _ _ (w.heap.size + 1) 29 _ (0,0) _ rfl y Tryz.underlying29 rfl (by kernel_rfl)) rfl ?_
  exact ⟨by rw [hfm.out]; rfl,b0⟩
end Go.Proofs.YtepdckgfolkjjaaGreatDoor

namespace Go.Proofs.YtepdckgfolkjjaaGreatDoor
open Go.RowKit Go.Sort Go.Shelf
open Tm At

set_option maxRecDepth 100000 in
set_option maxHeartbeats 6400000 in
theorem rorder6_n {w : World} {kd : Int} {sd : Bool} {ad : Option Addr} {ld cd : Nat} {ap : Option Addr} {np cp : Nat} {sk : Bool} {ak : Option Addr} {lk ck : Nat} {d k : Int} {ps : List (Int × Int)} {kd2 : Int} {sd2 : Bool} {ad2 : Option Addr} {ld2 cd2 : Nat} {ap2 : Option Addr} {np2 cp2 : Nat} {sk2 : Bool} {ak2 : Option Addr} {lk2 ck2 : Nat} {d2 k2 : Int} {qs : List (Int × Int)} {B : Nat}
  (hd : Zm w sd ad ld cd d) (hld : ld≤B) (hP : Pr w ap np ps B) (hk : Zm w sk ak lk ck k) (hlk : lk≤B) (hd2 : Zm w sd2 ad2 ld2 cd2 d2) (hld2 : ld2≤B) (hP2 : Pr w ap2 np2 qs B) (hk2 : Zm w sk2 ak2 lk2 ck2 k2) (hlk2 : lk2≤B) (hB : B + np≤268435456) (hB2 : B + np2≤268435456) :
  Calls Tryz.prog 18 #[.agg #[.int .i64 kd,.bool sd,.slice ad ld cd,.slice ap np cp,.bool sk,.slice ak lk ck],.agg #[.int .i64 kd2,.bool sd2,.slice ad2 ld2 cd2,.slice ap2 np2 cp2,.bool sk2,.slice ak2 lk2 ck2]] w fun e w' => e = .returned (.int .i64 (ordA kd kd2 d d2 (nz (lays [] ps)) (nz (lays [] qs)) k k2))∧Below w.heap.size w w':=by
 have x:=(AB.new w kd sd ad ld cd ap np cp sk ak lk ck).below (below_alloc _ (.cells #[.int .i64 kd2,.bool sd2,.slice ad2 ld2 cd2,.slice ap2 np2 cp2,.bool sk2,.slice ak2 lk2 ck2] 29))
 have y:=AB.new (w.alloc (.cells #[.int .i64 kd,.bool sd,.slice ad ld cd,.slice ap np cp,.bool sk,.slice ak lk ck] 29)) kd2 sd2 ad2 ld2 cd2 ap2 np2 cp2 sk2 ak2 lk2 ck2
 have b0 : Below w.heap.size w ((w.alloc (.cells #[.int .i64 kd,.bool sd,.slice ad ld cd,.slice ap np cp,.bool sk,.slice ak lk ck] 29)).alloc (.cells #[.int .i64 kd2,.bool sd2,.slice ad2 ld2 cd2,.slice ap2 np2 cp2,.bool sk2,.slice ak2 lk2 ck2] 29)):=below_alloc' (below_alloc _ _) _
 rw [show (w.alloc (.cells #[.int .i64 kd,.bool sd,.slice ad ld cd,.slice ap np cp,.bool sk,.slice ak lk ck] 29)).heap.size = w.heap.size + 1 from by simp] at y
 rcases Int.lt_trichotomy kd kd2 with hlt | rfl | hgt
 ·have hfin : Hid (ordA kd kd2 d d2 (nz (lays [] ps)) (nz (lays [] qs)) k k2 = -1):=(show _ = _ by unfold ordA; rw [cmpI_lt hlt]; rfl)
  have hne : (kd == kd2) = false:=by rw [beq_eq_false_iff_ne]; omega
  have i0:=x.c0
  have i1:=y.c0
  replace b0:=hide b0
  clear x y
  go_enter Tryz.func18,Tryz.ntmps18
  go_wp2
  go_ret
  exact ⟨ret_int hfin.out.symm,b0.out⟩
 ·have i0:=x.c1
  have i1:=x.c2
  have i2:=y.c1
  have i3:=y.c2
  have i4:=x.c0
  have i5:=y.c0
  replace b0:=hide b0
  replace x:=hide x
  replace y:=hide y
  go_enter Tryz.func18,Tryz.ntmps18
  go_wp2_with fail
  refine Calls.mono (rcmp2_n (hd.below b0.out) (hd2.below b0.out) (by omega) (by omega)) ?_
  rintro e w2 ⟨rfl,k2w⟩
  have j0:=(x.out.below k2w).c3
  have j1:=(x.out.below k2w).c4
  have j2:=(x.out.below k2w).c5
  have j3:=(y.out.below k2w).c3
  have j4:=(y.out.below k2w).c4
  have j5:=(y.out.below k2w).c5
  have kk:=hide (grow_step k2w b0.out)
  clear i0 i1 i2 i3 i4 i5 k2w x y b0
  by_cases hc2 : cmpI d d2 = 0
  ·have hfin : Hid (ordA kd kd d d2 (nz (lays [] ps)) (nz (lays [] qs)) k k2 = ordT (nz (lays [] ps)) (nz (lays [] qs)) k k2):=(show _ = _ by unfold ordA; rw [cmpI_self,if_neg (by simp),if_neg (by simp [hc2])])
   rw [hc2]
   go_wp2_with fail
   refine Calls.mono (rorder5_n (hP.below kk.out) (hk.below kk.out) hlk (hP2.below kk.out) (hk2.below kk.out) hlk2 hB hB2) ?_
   rintro e w3 ⟨rfl,k3⟩
   have kf:=hide (grow_step k3 kk.out)
   generalize ordT (nz (lays [] ps)) (nz (lays [] qs)) k k2 = o at *
   clear k3
   go_wp2
   go_ret
   exact ⟨ret_int hfin.out.symm,kf.out⟩
  ·have hfin : Hid (ordA kd kd d d2 (nz (lays [] ps)) (nz (lays [] qs)) k k2 = cmpI d d2):=(show _ = _ by unfold ordA; rw [cmpI_self,if_neg (by simp),if_pos hc2])
   generalize cmpI d d2 = o at *
   have i0 : (o == 0) = false:=by rw [beq_eq_false_iff_ne]; exact hc2
   go_wp2
   go_ret
   exact ⟨ret_int hfin.out.symm,kk.out⟩
 ·have hfin : Hid (ordA kd kd2 d d2 (nz (lays [] ps)) (nz (lays [] qs)) k k2 = 1):=(show _ = _ by unfold ordA; rw [cmpI_gt hgt]; rfl)
  have hne : (kd == kd2) = false:=by rw [beq_eq_false_iff_ne]; omega
  have hnl : ¬ kd < kd2:=by omega
  have i0:=x.c0
  have i1:=y.c0
  replace b0:=hide b0
  clear x y
  go_enter Tryz.func18,Tryz.ntmps18
  go_wp2
  go_ret
  exact ⟨ret_int hfin.out.symm,b0.out⟩

def isB (fk fd X : Int) : Bool:=if fk = 1 then true else if fk = 2 then decide (0 < X) else if fk = 3 then decide (X % fd = 0) else if fk = 4 then !decide (X % fd = 0) else false
theorem isB_sat {f : Atm} (hf : Fit f) (g : Int→Int) : isB f.kind f.d (f.k + ev f.ps g) = true ↔ Sat f g:=by
 unfold isB Sat
 rcases hf.kind5 with h | h | h | h | h <;> simp [h,Int.dvd_iff_emod_eq_zero]
theorem cz_pos (X : Int) : decide (0 < cmpI X 0) = decide (0 < X):=by rw [decide_eq_decide]; exact cmpI_pos X
theorem cz_zero (X : Int) : (cmpI X 0 == 0) = decide (X = 0):=by
 unfold cmpI
 by_cases h : X = 0
 ·simp [h]
 ·by_cases h2 : X < 0
  ·simp [h,h2]
  ·have : 0 < X:=by omega
   simp [h,h2,this]

set_option maxRecDepth 100000 in
set_option maxHeartbeats 6400000 in
theorem ris6_n {w : World} {kd : Int} {sd : Bool} {ad : Option Addr} {ld cd : Nat} {ap : Option Addr} {np cp : Nat} {sk : Bool} {ak : Option Addr} {lk ck : Nat} {d : Int} {s : Bool} {a : Option Addr} {l c : Nat} {X : Int}
  (h5 : kd = 0 ∨ kd = 1 ∨ kd = 2 ∨ kd = 3 ∨ kd = 4) (hd : Zm w sd ad ld cd d) (hld : ld≤4294967296) (hpos : kd = 3 ∨ kd = 4→0 < d) (hx : Zm w s a l c X) (hl : l≤1073741824) (hld2 : ld≤1073741824) :
  Calls Tryz.prog 46 #[.agg #[.int .i64 kd,.bool sd,.slice ad ld cd,.slice ap np cp,.bool sk,.slice ak lk ck],.agg #[.bool s,.slice a l c]] w fun e w' => e = .returned (.bool (isB kd d X))∧Below w.heap.size w w':=by
 have x:=(AB.new w kd sd ad ld cd ap np cp sk ak lk ck).below (below_alloc _ (.cells #[.bool s,.slice a l c] 24))
 have y:=zb_new (w.alloc (.cells #[.int .i64 kd,.bool sd,.slice ad ld cd,.slice ap np cp,.bool sk,.slice ak lk ck] 29)) s a l c
 have b0 : Below w.heap.size w ((w.alloc (.cells #[.int .i64 kd,.bool sd,.slice ad ld cd,.slice ap np cp,.bool sk,.slice ak lk ck] 29)).alloc (.cells #[.bool s,.slice a l c] 24)):=below_alloc' (below_alloc _ _) _
 rw [show (w.alloc (.cells #[.int .i64 kd,.bool sd,.slice ad ld cd,.slice ap np cp,.bool sk,.slice ak lk ck] 29)).heap.size = w.heap.size + 1 from by simp] at y
 have i0:=x.c0
 have i1:=x.c1
 have i2:=x.c2
 have j0:=y.c0
 have j1:=y.c1
 replace b0:=hide b0
 clear x y
 rcases h5 with rfl | rfl | rfl | rfl | rfl
 ·go_enter Tryz.func46,Tryz.ntmps46
  go_wp2
  go_ret
  exact ⟨rfl,b0.out⟩
 ·go_enter Tryz.func46,Tryz.ntmps46
  go_wp2
  go_ret
  exact ⟨rfl,b0.out⟩
 ·go_enter Tryz.func46,Tryz.ntmps46
  go_wp2_with fail
  refine Calls.mono (rsign_n (hx.below b0.out) (by omega)) ?_
  rintro e w2 ⟨rfl,k2⟩
  have kf:=hide (grow_step k2 b0.out)
  have hfin : Hid (decide (0 < cmpI X 0) = isB 2 d X):=(show _ = _ by rw [cz_pos]; rfl)
  generalize cmpI X 0 = cz at *
  clear k2 i0 i1 i2 j0 j1
  go_wp2
  go_ret
  exact ⟨ret_bool hfin.out,kf.out⟩
 ·have hq:=hide (hpos (by simp))
  clear hpos
  go_enter Tryz.func46,Tryz.ntmps46
  go_wp2_with fail
  refine Calls.mono (rmod6_n (hx.below b0.out) (hd.below b0.out) (by omega) (by omega) hq.out) ?_
  rintro e w2 ⟨sm,am,lm,cm,rfl,hm,k2,hlm⟩
  replace b0:=hide (grow_step k2 b0.out)
  clear k2 i0 i1 i2 j0 j1
  go_wp2_with fail
  refine Calls.mono (rsign_n hm.zm (by omega)) ?_
  rintro e w3 ⟨rfl,k3⟩
  have kf:=hide (grow_step k3 b0.out)
  have hfin : Hid ((cmpI (X % d) 0 == 0) = isB 3 d X):=(show _ = _ by rw [cz_zero]; rfl)
  generalize cmpI (X % d) 0 = cz at *
  clear k3
  go_wp2
  go_ret
  exact ⟨ret_bool hfin.out,kf.out⟩
 ·have hq:=hide (hpos (by simp))
  clear hpos
  go_enter Tryz.func46,Tryz.ntmps46
  go_wp2_with fail
  refine Calls.mono (rmod6_n (hx.below b0.out) (hd.below b0.out) (by omega) (by omega) hq.out) ?_
  rintro e w2 ⟨sm,am,lm,cm,rfl,hm,k2,hlm⟩
  replace b0:=hide (grow_step k2 b0.out)
  clear k2 i0 i1 i2 j0 j1
  go_wp2_with fail
  refine Calls.mono (rsign_n hm.zm (by omega)) ?_
  rintro e w3 ⟨rfl,k3⟩
  have kf:=hide (grow_step k3 b0.out)
  have hfin : Hid ((!(cmpI (X % d) 0 == 0)) = isB 4 d X):=(show _ = _ by rw [cz_zero]; rfl)
  generalize cmpI (X % d) 0 = cz at *
  clear k3
  go_wp2
  go_ret
  exact ⟨ret_bool hfin.out,kf.out⟩

set_option maxRecDepth 100000 in
set_option maxHeartbeats 6400000 in
theorem rholds6_n {w : World} {kd : Int} {sd : Bool} {ad : Option Addr} {ld cd : Nat} {ap : Option Addr} {np cp : Nat} {sk : Bool} {ak : Option Addr} {lk ck : Nat} {d k : Int} {ps : List (Int × Int)} {B : Nat} {ad2 : Option Addr} {n2 cp2 : Nat} {vs : List (Int × Int)} {B2 : Nat}
  (hd : Zm w sd ad ld cd d) (hld : ld≤B) (hP : Pr w ap np ps B) (hk : Zm w sk ak lk ck k) (hlk : lk≤B) (hn : np≤262144) (hB : B + np≤4194000) (hV : Pr w ad2 n2 vs B2) (hn2 : n2≤16777216) (hB2 : B2≤16777216) :
  Calls Tryz.prog 16 #[.agg #[.int .i64 kd,.bool sd,.slice ad ld cd,.slice ap np cp,.bool sk,.slice ak lk ck],.slice ad2 n2 cp2] w fun e w' => HO e (formA kd d (nz (lays [] ps)) k) vs∧Below w.heap.size w w':=by
 go_enter Tryz.func16,Tryz.ntmps16
 go_wp2_with fail
 have x:=AB.new w kd sd ad ld cd ap np cp sk ak lk ck
 have b0:=below_alloc w (.cells #[.int .i64 kd,.bool sd,.slice ad ld cd,.slice ap np cp,.bool sk,.slice ak lk ck] 29)
 replace hd:=hd.below b0
 replace hP:=hP.below b0
 replace hk:=hk.below b0
 replace hV:=hide hV
 generalize w.alloc (.cells #[.int .i64 kd,.bool sd,.slice ad ld cd,.slice ap np cp,.bool sk,.slice ak lk ck] 29) = wb at *
 generalize hp : w.heap.size = p at *
 replace b0 : Hid (Below w.heap.size w wb):=hp ▸ b0
 replace hp:=hide hp
 have hnps:=hP.1
 refine Calls.mono (rnorm6_n hd hld hP hk hlk hn hB) ?_
 rintro e w1 ⟨hA,k1⟩
 have kk:=hide (grow_step k1 b0.out)
 clear hd hP hk x k1
 have hS:=std_lays ps
 cases hf : formA kd d (nz (lays [] ps)) k with
 | inr er =>
  rw [hf] at hA
  have her:=formA_er hf
  have he : _ = _:=hA
  subst he
  have kf:=hide (grow_alloc kk.out (.cells #[.int .i64 0,.bool false,.slice none 0 0,.slice none 0 0,.bool false,.slice none 0 0] 29))
  replace hf:=hide hf
  clear hA kk hS
  rcases her with rfl | rfl
  ·go_wp2
   refine bodyPost_ret (results_tmp2 rfl _ _ _) rfl ?_
   exact ⟨by rw [hf.out]; rfl,kf.out⟩
  ·go_wp2
   refine bodyPost_ret (results_tmp2 rfl _ _ _) rfl ?_
   exact ⟨by rw [hf.out]; rfl,kf.out⟩
 | inl f =>
  rw [hf] at hA
  have hfit:=formA_fit hS hf
  have hlen : f.ps.length≤np:=by have h1:=(formA_prt hS hf).1; have h2:=std_len hS (fun v => csum_nzl ps v); omega
  obtain ⟨sd1,ad1,ld1,cd1,ap1,np1,cp1,sk1,ak1,lk1,ck1,rfl,hz1,hlz1,hPn1,hnp1,hk1,hlk1,hnew1⟩:=hA
  have hnp2 : np1≤262144:=by have:=hPn1.1; omega
  have sa:=below_alloc w1 (.cells #[.int .i64 f.kind,.bool sd1,.slice ad1 ld1 cd1,.slice ap1 np1 cp1,.bool sk1,.slice ak1 lk1 ck1] 29)
  have x2:=AB.new w1 f.kind sd1 ad1 ld1 cd1 ap1 np1 cp1 sk1 ak1 lk1 ck1
  have HH:=hide (And.intro (hz1.below sa) (And.intro (hk1.below sa) (And.intro (hPn1.below sa) (And.intro x2 (And.intro (hV.out.below (grow_step sa kk.out)) (grow_step sa kk.out))))))
  have i3:=x2.c3
  have i4:=x2.c4
  have i5:=x2.c5
  replace hf:=hide hf
  clear hz1 hk1 hPn1 hnew1 hV kk sa x2 hS
  go_wp2_with fail
  obtain ⟨hz2,hk2,hP2,x2,hV2,kw2⟩:=HH.out
  clear HH i3 i4 i5
  generalize w1.alloc (.cells #[.int .i64 f.kind,.bool sd1,.slice ad1 ld1 cd1,.slice ap1 np1 cp1,.bool sk1,.slice ak1 lk1 ck1] 29) = w2 at *
  generalize w1.heap.size = q at *
  refine Calls.mono (reval_n (B:=8 * B + 16 * np + 100 + B2) (hP2.pr.mono (by omega)) hk2.zm (by omega) (hV2.mono (by omega)) (by omega)) ?_
  rintro e w3 ⟨s3,a3,l3,c3,er,rfl,k3,hcase⟩
  have kz:=below_alloc w3 (.cells #[.bool s3,.slice a3 l3 c3] 24)
  have z:=zb_new w3 s3 a3 l3 c3
  replace x2:=(x2.below k3).below kz
  replace hz2:=(hz2.below k3).below kz
  have kw3:=hide (grow_step kz (grow_step k3 kw2))
  clear k3 kw2 hP2 hk2 hV2
  rcases hcase with ⟨hT,rfl,rfl,rfl,rfl,rfl⟩ | ⟨hT,rfl,hzv,hlv⟩
  ·clear kz z x2
   replace hT:=hide hT
   go_wp2
   refine bodyPost_ret (results_tmp2 rfl _ _ _) rfl ?_
   exact ⟨by rw [hf.out]; exact .inl ⟨hT.out,rfl⟩,kw3.out⟩
  ·replace hzv:=hzv.below kz
   have e0:=x2.c0
   have e1:=x2.c1
   have e2:=x2.c2
   have e3:=x2.c3
   have e4:=x2.c4
   have e5:=x2.c5
   have z0:=z.c0
   have z1:=z.c1
   have hsat:=hide (isB_sat hfit (val1 vs))
   have h5:=hfit.kind5
   have hpos : f.kind = 3 ∨ f.kind = 4→0 < f.d:=hfit.dpos
   generalize f.k + ev f.ps (val1 vs) = X at *
   replace hT:=hide hT
   have hcall:=hide (ris6_n (ap:=ap1) (np:=np1) (cp:=cp1) (sk:=sk1) (ak:=ak1) (lk:=lk1) (ck:=ck1) h5 hz2.zm (by omega) hpos hzv.zm (by omega) (by omega))
   clear h5 hpos hfit kz z x2 hz2 hzv
   go_wp2_with fail
   refine hcall.out.mono ?_
   rintro e w5 ⟨rfl,k5⟩
   have kf:=hide (grow_step k5 kw3.out)
   generalize isB f.kind f.d X = bb at *
   clear k5 hcall
   go_wp2
   refine bodyPost_ret (results_tmp2 rfl _ _ _) rfl ?_
   exact ⟨by rw [hf.out]; exact .inr ⟨hT.out,bb,rfl,hsat.out⟩,kf.out⟩
end Go.Proofs.YtepdckgfolkjjaaGreatDoor
