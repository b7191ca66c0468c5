/-
 Several texts in one: B7,BB,BD.
-/
import Derived.Test.YtllfelooahplhaaGreatDoorSor26
import Derived.Test.YtllfelooahplhaaGreatDoorSor22
set_option maxRecDepth 100000
set_option maxHeartbeats 6400000
namespace Go.Proofs.YtllfelooahplhaaGreatDoor
open Go.RowKit Go.Sort Go.Shelf
open Tm At

variable {w:World}{kd d k:Int}{sd sk:Bool}{ad ap ak:Option Addr}{ld cd np cp lk ck B p:Nat}{qs:List (Int × Int)}
def AZ (e:Ending)(er:Int):Prop:=e= .returned (.tuple #[.agg #[.int .i64 0,.bool false,.slice none 0 0,.slice none 0 0,.bool false,.slice none 0 0],.int .i64 er])
def AN (w:World)(e:Ending)(f:Atm ⊕ Int)(B B0:Nat):Prop:=match f with
 | .inl f=>AE w e f B B0
 | .inr er=>AZ e er

theorem divi_0 {al ne:Int}
  (hd:Zm w sd ad ld cd 0)(hld:ld≤1099511627776):
  Calls Tryz.prog 134 #[.agg #[.int .i64 kd,.bool sd,.slice ad ld cd,.slice ap np cp,.bool sk,.slice ak lk ck],.int .i64 al,.int .i64 ne] w fun e w'=>AZ e 11∧Below w.heap.size w w':=by
 go_enter Tryz.func134,Tryz.ntmps134
 go_wp2_with fail
 have y:=AB.new (w.alloc (.cells #[.int .i64 kd,.bool sd,.slice ad ld cd,.slice ap np cp,.bool sk,.slice ak lk ck] 69)) 0 false none 0 0 none 0 0 false none 0 0
 rw[show(w.alloc (.cells #[.int .i64 kd,.bool sd,.slice ad ld cd,.slice ap np cp,.bool sk,.slice ak lk ck] 69)).heap.size=w.heap.size+1 from by simp]at y
 have b0:Below w.heap.size w ((w.alloc (.cells #[.int .i64 kd,.bool sd,.slice ad ld cd,.slice ap np cp,.bool sk,.slice ak lk ck] 69)).alloc (.cells #[.int .i64 0,.bool false,.slice none 0 0,.slice none 0 0,.bool false,.slice none 0 0] 69)):=below_alloc' (below_alloc _ _) _
 generalize (w.alloc (.cells #[.int .i64 kd,.bool sd,.slice ad ld cd,.slice ap np cp,.bool sk,.slice ak lk ck] 69)).alloc (.cells #[.int .i64 0,.bool false,.slice none 0 0,.slice none 0 0,.bool false,.slice none 0 0] 69)=wb at*
 have hr:w.heap.size≤w.heap.size+1:=by omega
 generalize w.heap.size+1=r at*
 refine(zsign_n (hd.below b0) hld).mono ?_
 rintro e w1 ⟨rfl,k1⟩
 rw[show cmpI 0 0=0 from rfl]
 replace y:=y.below k1
 have K1:=grow_step k1 b0
 have e0:=y.c0
 have e1:=y.c1
 have e2:=y.c2
 have e3:=y.c3
 have e4:=y.c4
 have e5:=y.c5
 have f0:=y.f 0
 have f1:=y.f 1
 have f2:=y.f 2
 have f3:=y.f 3
 have f4:=y.f 4
 have f5:=y.f 5
 have g6:=ab_set w1 r (.int .i64 0) (.bool false) (.slice none 0 0) (.slice none 0 0) (.bool false) (.slice none 0 0)
 have kf:=hide (below_grown K1 g6 hr)
 clear g6 K1 k1 b0
 go_wp2
 refine bodyPost_ret (results_ct rfl _ _ r 69 _ (0,0) _ rfl (ab_fin y 0 false none 0 0 none 0 0 false none 0 0) Tryz.underlying69 rfl k_f) rfl ?_
 exact⟨rfl,kf.out⟩

theorem anorm_n {ps:List (Int × Int)}
  (hd:Zm w sd ad ld cd d)(hld:ld≤B)(hP:Pr w ap np ps B)(hk:Zm w sk ak lk ck k)(hlk:lk≤B)(hn:np≤262144)(hB:B+np+1≤4194000):
  Calls Tryz.prog 82 #[.agg #[.int .i64 kd,.bool sd,.slice ad ld cd,.slice ap np cp,.bool sk,.slice ak lk ck]] w fun e w'=> ∃qs,Std qs∧(∀v,csum qs v=csum ps v)∧AN w' e (formA kd d qs k) (B+np+16) w.heap.size∧Below w.heap.size w w':=by
 obtain⟨q0,hq0,hq1⟩: ∃qs,Std qs∧∀v,csum qs v=csum ps v:=⟨nz (lays [] ps),std_lays ps,fun v=>csum_nzl ps v⟩
 by_cases h0:kd=0
 ·subst h0
  have y:=AB.new (w.alloc (.cells #[.int .i64 0,.bool sd,.slice ad ld cd,.slice ap np cp,.bool sk,.slice ak lk ck] 69)) 0 false none 0 0 none 0 0 false none 0 0
  rw[show(w.alloc (.cells #[.int .i64 0,.bool sd,.slice ad ld cd,.slice ap np cp,.bool sk,.slice ak lk ck] 69)).heap.size=w.heap.size+1 from by simp]at y
  have b0:Below w.heap.size w ((w.alloc (.cells #[.int .i64 0,.bool sd,.slice ad ld cd,.slice ap np cp,.bool sk,.slice ak lk ck] 69)).alloc (.cells #[.int .i64 0,.bool false,.slice none 0 0,.slice none 0 0,.bool false,.slice none 0 0] 69)):=below_alloc' (below_alloc _ _) _
  have HH:=hide (And.intro y b0)
  clear y b0
  go_enter Tryz.func82,Tryz.ntmps82
  go_wp2
  obtain⟨y,b0⟩:=HH.out
  refine bodyPost_ret (results_ct rfl _ _ (w.heap.size+1) 69 _ (0,0) _ rfl y Tryz.underlying69 rfl k_f) rfl ?_
  exact⟨q0,hq0,hq1,⟨false,none,0,0,none,0,0,false,none,0,0,rfl,zn_zero _,by omega,pn_nil _ _ _,by omega,zn_zero _,by omega,fun _ _ h=>by cases h⟩,b0⟩
 by_cases h1:kd=1
 ·subst h1
  have y:=AB.new (w.alloc (.cells #[.int .i64 1,.bool sd,.slice ad ld cd,.slice ap np cp,.bool sk,.slice ak lk ck] 69)) 1 false none 0 0 none 0 0 false none 0 0
  rw[show(w.alloc (.cells #[.int .i64 1,.bool sd,.slice ad ld cd,.slice ap np cp,.bool sk,.slice ak lk ck] 69)).heap.size=w.heap.size+1 from by simp]at y
  have b0:Below w.heap.size w ((w.alloc (.cells #[.int .i64 1,.bool sd,.slice ad ld cd,.slice ap np cp,.bool sk,.slice ak lk ck] 69)).alloc (.cells #[.int .i64 1,.bool false,.slice none 0 0,.slice none 0 0,.bool false,.slice none 0 0] 69)):=below_alloc' (below_alloc _ _) _
  have HH:=hide (And.intro y b0)
  clear y b0
  go_enter Tryz.func82,Tryz.ntmps82
  go_wp2
  obtain⟨y,b0⟩:=HH.out
  refine bodyPost_ret (results_ct rfl _ _ (w.heap.size+1) 69 _ (0,0) _ rfl y Tryz.underlying69 rfl k_f) rfl ?_
  exact⟨q0,hq0,hq1,⟨false,none,0,0,none,0,0,false,none,0,0,rfl,zn_zero _,by omega,pn_nil _ _ _,by omega,zn_zero _,by omega,fun _ _ h=>by cases h⟩,b0⟩
 by_cases h2:kd=2
 ·subst h2
  clear h0 h1 q0 hq0 hq1
  have x:=(AB.new w 2 sd ad ld cd ap np cp sk ak lk ck).below (below_alloc _ (.cells #[.int .i64 0,.bool false,.slice none 0 0,.slice none 0 0,.bool false,.slice none 0 0] 69))
  have y:=AB.new (w.alloc (.cells #[.int .i64 2,.bool sd,.slice ad ld cd,.slice ap np cp,.bool sk,.slice ak lk ck] 69)) 0 false none 0 0 none 0 0 false none 0 0
  rw[show(w.alloc (.cells #[.int .i64 2,.bool sd,.slice ad ld cd,.slice ap np cp,.bool sk,.slice ak lk ck] 69)).heap.size=w.heap.size+1 from by simp]at y
  have b0:Below w.heap.size w ((w.alloc (.cells #[.int .i64 2,.bool sd,.slice ad ld cd,.slice ap np cp,.bool sk,.slice ak lk ck] 69)).alloc (.cells #[.int .i64 0,.bool false,.slice none 0 0,.slice none 0 0,.bool false,.slice none 0 0] 69)):=below_alloc' (below_alloc _ _) _
  have HH:=hide (And.intro x (And.intro y (And.intro b0 (And.intro (hP.below b0) (And.intro (hd.below b0) (hk.below b0))))))
  clear x y b0
  go_enter Tryz.func82,Tryz.ntmps82
  go_wp2_with fail
  obtain⟨x,y,b0,hP,hd,hk⟩:=HH.out
  clear HH
  generalize (w.alloc (.cells #[.int .i64 2,.bool sd,.slice ad ld cd,.slice ap np cp,.bool sk,.slice ak lk ck] 69)).alloc (.cells #[.int .i64 0,.bool false,.slice none 0 0,.slice none 0 0,.bool false,.slice none 0 0] 69)=wb at*
  have hr:w.heap.size≤w.heap.size+1:=by omega
  generalize w.heap.size+1=r at*
  generalize hp:w.heap.size=p at*
  replace hp:=hide hp
  refine(less_n hP hk hlk o_m o_m).mono ?_
  rintro e w1 ⟨qs,hS,hc,⟨sd1,ad1,ld1,cd1,ap1,np1,cp1,sk1,ak1,lk1,ck1,rfl,hz1,hlz1,hPn1,hnp1,hk1,hlk1,hnew1⟩,k1⟩
  have hfm:Hid (formA 2 d qs k= .inl (lessF qs k)):=(show _=_ by unfold formA;rw[if_neg (by decide),if_pos rfl])
  generalize lessF qs k=ff at*
  have hrl:=y.lt
  replace y:=y.below k1
  have e0:=y.c0
  have e1:=y.c1
  have e2:=y.c2
  have e3:=y.c3
  have e4:=y.c4
  have e5:=y.c5
  have f0:=y.f 0
  have f1:=y.f 1
  have f2:=y.f 2
  have f3:=y.f 3
  have f4:=y.f 4
  have f5:=y.f 5
  have g6:=ab_set w1 r (.int .i64 ff.kind) (.bool sd1) (.slice ad1 ld1 cd1) (.slice ap1 np1 cp1) (.bool sk1) (.slice ak1 lk1 ck1)
  have hPf:=hide (hPn1.away (fun b off e=>by have:=hnew1 b off e;omega) g6 (ab_noU y))
  have hzf:=hide (hk1.grownU g6 (ab_noU y))
  have hdf:=hide (hz1.grownU g6 (ab_noU y))
  have kf:=hide (below_grown (grow_step k1 (show Below w.heap.size w wb from hp.out.symm▸b0)) g6 (by have:=hp.out;omega))
  have hnw:Hid (∀b off,ap1=some ⟨b,off,none⟩→w.heap.size≤b):=(fun b off e=>by have h1:=hnew1 b off e;have h2:=hp.out;omega)
  replace hS:=hide hS
  replace hc:=hide hc
  clear g6 hPn1 hk1 hz1 hnew1 hP hd hk x b0 k1
  go_wp2
  refine bodyPost_ret (results_ct rfl _ _ r 69 _ (0,0) _ rfl (ab_fin y ff.kind sd1 ad1 ld1 cd1 ap1 np1 cp1 sk1 ak1 lk1 ck1) Tryz.underlying69 rfl k_f) rfl ?_
  refine⟨qs,hS.out,hc.out,?_,kf.out⟩
  rw[hfm.out]
  exact⟨sd1,ad1,ld1,cd1,ap1,np1,cp1,sk1,ak1,lk1,ck1,by simp,hdf.out,hlz1,hPf.out,hnp1,hzf.out,hlk1,hnw.out⟩
 by_cases h3:kd=3
 ·subst h3
  clear h0 h1 h2
  have x:=(AB.new w 3 sd ad ld cd ap np cp sk ak lk ck).below (below_alloc _ (.cells #[.int .i64 0,.bool false,.slice none 0 0,.slice none 0 0,.bool false,.slice none 0 0] 69))
  have y:=AB.new (w.alloc (.cells #[.int .i64 3,.bool sd,.slice ad ld cd,.slice ap np cp,.bool sk,.slice ak lk ck] 69)) 0 false none 0 0 none 0 0 false none 0 0
  rw[show(w.alloc (.cells #[.int .i64 3,.bool sd,.slice ad ld cd,.slice ap np cp,.bool sk,.slice ak lk ck] 69)).heap.size=w.heap.size+1 from by simp]at y
  have b0:Below w.heap.size w ((w.alloc (.cells #[.int .i64 3,.bool sd,.slice ad ld cd,.slice ap np cp,.bool sk,.slice ak lk ck] 69)).alloc (.cells #[.int .i64 0,.bool false,.slice none 0 0,.slice none 0 0,.bool false,.slice none 0 0] 69)):=below_alloc' (below_alloc _ _) _
  have HH:=hide (And.intro x (And.intro y (And.intro b0 (And.intro (hP.below b0) (And.intro (hd.below b0) (hk.below b0))))))
  clear x y b0
  go_enter Tryz.func82,Tryz.ntmps82
  go_wp2_with fail
  obtain⟨x,y,b0,hP,hd,hk⟩:=HH.out
  clear HH
  generalize (w.alloc (.cells #[.int .i64 3,.bool sd,.slice ad ld cd,.slice ap np cp,.bool sk,.slice ak lk ck] 69)).alloc (.cells #[.int .i64 0,.bool false,.slice none 0 0,.slice none 0 0,.bool false,.slice none 0 0] 69)=wb at*
  have hr:w.heap.size≤w.heap.size+1:=by omega
  generalize w.heap.size+1=r at*
  generalize hp:w.heap.size=p at*
  replace hp:=hide hp
  by_cases hd0:d=0
  ·subst hd0
   have hfm:Hid (formA 3 0 q0 k= .inr 11):=(show _=_ by unfold formA;rw[if_neg (by decide),if_neg (by decide),if_pos (by decide),if_pos rfl])
   refine(divi_0 hd o_m).mono ?_
   rintro e w1 ⟨hz,k1⟩
   unfold AZ at hz
   subst hz
   replace y:=y.below k1
   have e0:=y.c0
   have e1:=y.c1
   have e2:=y.c2
   have e3:=y.c3
   have e4:=y.c4
   have e5:=y.c5
   have f0:=y.f 0
   have f1:=y.f 1
   have f2:=y.f 2
   have f3:=y.f 3
   have f4:=y.f 4
   have f5:=y.f 5
   have g6:=ab_set w1 r (.int .i64 0) (.bool false) (.slice none 0 0) (.slice none 0 0) (.bool false) (.slice none 0 0)
   have kf:=hide (below_grown (grow_step k1 (show Below w.heap.size w wb from hp.out.symm▸b0)) g6 (by have:=hp.out;omega))
   replace hq0:=hide hq0
   replace hq1:=hide hq1
   clear g6 hP hd hk x b0 k1
   go_wp2
   refine bodyPost_ret (results_ct rfl _ _ r 69 _ (0,0) _ rfl (ab_fin y 0 false none 0 0 none 0 0 false none 0 0) Tryz.underlying69 rfl k_f) rfl ?_
   exact⟨q0,hq0.out,hq1.out,by rw[hfm.out];exact rfl,kf.out⟩
  refine(divi_n hd hld hP hk hlk hn hB (by decide) (by decide) hd0).mono ?_
  rintro e w1 ⟨qs,hS,hc,⟨sd1,ad1,ld1,cd1,ap1,np1,cp1,sk1,ak1,lk1,ck1,rfl,hz1,hlz1,hPn1,hnp1,hk1,hlk1,hnew1⟩,k1⟩
  have hfm:Hid (formA 3 d qs k= .inl (divF 3 d qs k)):=(show _=_ by unfold formA;rw[if_neg (by decide),if_neg (by decide),if_pos (by decide),if_neg hd0])
  generalize divF 3 d qs k=ff at*
  have hrl:=y.lt
  replace y:=y.below k1
  have e0:=y.c0
  have e1:=y.c1
  have e2:=y.c2
  have e3:=y.c3
  have e4:=y.c4
  have e5:=y.c5
  have f0:=y.f 0
  have f1:=y.f 1
  have f2:=y.f 2
  have f3:=y.f 3
  have f4:=y.f 4
  have f5:=y.f 5
  have g6:=ab_set w1 r (.int .i64 ff.kind) (.bool sd1) (.slice ad1 ld1 cd1) (.slice ap1 np1 cp1) (.bool sk1) (.slice ak1 lk1 ck1)
  have hPf:=hide (hPn1.away (fun b off e=>by have:=hnew1 b off e;omega) g6 (ab_noU y))
  have hzf:=hide (hk1.grownU g6 (ab_noU y))
  have hdf:=hide (hz1.grownU g6 (ab_noU y))
  have kf:=hide (below_grown (grow_step k1 (show Below w.heap.size w wb from hp.out.symm▸b0)) g6 (by have:=hp.out;omega))
  have hnw:Hid (∀b off,ap1=some ⟨b,off,none⟩→w.heap.size≤b):=(fun b off e=>by have h1:=hnew1 b off e;have h2:=hp.out;omega)
  replace hS:=hide hS
  replace hc:=hide hc
  clear g6 hPn1 hk1 hz1 hnew1 hP hd hk x b0 k1
  go_wp2
  refine bodyPost_ret (results_ct rfl _ _ r 69 _ (0,0) _ rfl (ab_fin y ff.kind sd1 ad1 ld1 cd1 ap1 np1 cp1 sk1 ak1 lk1 ck1) Tryz.underlying69 rfl k_f) rfl ?_
  refine⟨qs,hS.out,hc.out,?_,kf.out⟩
  rw[hfm.out]
  exact⟨sd1,ad1,ld1,cd1,ap1,np1,cp1,sk1,ak1,lk1,ck1,by simp,hdf.out,hlz1,hPf.out,hnp1,hzf.out,hlk1,hnw.out⟩
 by_cases h4:kd=4
 ·subst h4
  clear h0 h1 h2 h3
  have x:=(AB.new w 4 sd ad ld cd ap np cp sk ak lk ck).below (below_alloc _ (.cells #[.int .i64 0,.bool false,.slice none 0 0,.slice none 0 0,.bool false,.slice none 0 0] 69))
  have y:=AB.new (w.alloc (.cells #[.int .i64 4,.bool sd,.slice ad ld cd,.slice ap np cp,.bool sk,.slice ak lk ck] 69)) 0 false none 0 0 none 0 0 false none 0 0
  rw[show(w.alloc (.cells #[.int .i64 4,.bool sd,.slice ad ld cd,.slice ap np cp,.bool sk,.slice ak lk ck] 69)).heap.size=w.heap.size+1 from by simp]at y
  have b0:Below w.heap.size w ((w.alloc (.cells #[.int .i64 4,.bool sd,.slice ad ld cd,.slice ap np cp,.bool sk,.slice ak lk ck] 69)).alloc (.cells #[.int .i64 0,.bool false,.slice none 0 0,.slice none 0 0,.bool false,.slice none 0 0] 69)):=below_alloc' (below_alloc _ _) _
  have HH:=hide (And.intro x (And.intro y (And.intro b0 (And.intro (hP.below b0) (And.intro (hd.below b0) (hk.below b0))))))
  clear x y b0
  go_enter Tryz.func82,Tryz.ntmps82
  go_wp2_with fail
  obtain⟨x,y,b0,hP,hd,hk⟩:=HH.out
  clear HH
  generalize (w.alloc (.cells #[.int .i64 4,.bool sd,.slice ad ld cd,.slice ap np cp,.bool sk,.slice ak lk ck] 69)).alloc (.cells #[.int .i64 0,.bool false,.slice none 0 0,.slice none 0 0,.bool false,.slice none 0 0] 69)=wb at*
  have hr:w.heap.size≤w.heap.size+1:=by omega
  generalize w.heap.size+1=r at*
  generalize hp:w.heap.size=p at*
  replace hp:=hide hp
  by_cases hd0:d=0
  ·subst hd0
   have hfm:Hid (formA 4 0 q0 k= .inr 11):=(show _=_ by unfold formA;rw[if_neg (by decide),if_neg (by decide),if_pos (by decide),if_pos rfl])
   refine(divi_0 hd o_m).mono ?_
   rintro e w1 ⟨hz,k1⟩
   unfold AZ at hz
   subst hz
   replace y:=y.below k1
   have e0:=y.c0
   have e1:=y.c1
   have e2:=y.c2
   have e3:=y.c3
   have e4:=y.c4
   have e5:=y.c5
   have f0:=y.f 0
   have f1:=y.f 1
   have f2:=y.f 2
   have f3:=y.f 3
   have f4:=y.f 4
   have f5:=y.f 5
   have g6:=ab_set w1 r (.int .i64 0) (.bool false) (.slice none 0 0) (.slice none 0 0) (.bool false) (.slice none 0 0)
   have kf:=hide (below_grown (grow_step k1 (show Below w.heap.size w wb from hp.out.symm▸b0)) g6 (by have:=hp.out;omega))
   replace hq0:=hide hq0
   replace hq1:=hide hq1
   clear g6 hP hd hk x b0 k1
   go_wp2
   refine bodyPost_ret (results_ct rfl _ _ r 69 _ (0,0) _ rfl (ab_fin y 0 false none 0 0 none 0 0 false none 0 0) Tryz.underlying69 rfl k_f) rfl ?_
   exact⟨q0,hq0.out,hq1.out,by rw[hfm.out];exact rfl,kf.out⟩
  refine(divi_n hd hld hP hk hlk hn hB (by decide) (by decide) hd0).mono ?_
  rintro e w1 ⟨qs,hS,hc,⟨sd1,ad1,ld1,cd1,ap1,np1,cp1,sk1,ak1,lk1,ck1,rfl,hz1,hlz1,hPn1,hnp1,hk1,hlk1,hnew1⟩,k1⟩
  have hfm:Hid (formA 4 d qs k= .inl (divF 4 d qs k)):=(show _=_ by unfold formA;rw[if_neg (by decide),if_neg (by decide),if_pos (by decide),if_neg hd0])
  generalize divF 4 d qs k=ff at*
  have hrl:=y.lt
  replace y:=y.below k1
  have e0:=y.c0
  have e1:=y.c1
  have e2:=y.c2
  have e3:=y.c3
  have e4:=y.c4
  have e5:=y.c5
  have f0:=y.f 0
  have f1:=y.f 1
  have f2:=y.f 2
  have f3:=y.f 3
  have f4:=y.f 4
  have f5:=y.f 5
  have g6:=ab_set w1 r (.int .i64 ff.kind) (.bool sd1) (.slice ad1 ld1 cd1) (.slice ap1 np1 cp1) (.bool sk1) (.slice ak1 lk1 ck1)
  have hPf:=hide (hPn1.away (fun b off e=>by have:=hnew1 b off e;omega) g6 (ab_noU y))
  have hzf:=hide (hk1.grownU g6 (ab_noU y))
  have hdf:=hide (hz1.grownU g6 (ab_noU y))
  have kf:=hide (below_grown (grow_step k1 (show Below w.heap.size w wb from hp.out.symm▸b0)) g6 (by have:=hp.out;omega))
  have hnw:Hid (∀b off,ap1=some ⟨b,off,none⟩→w.heap.size≤b):=(fun b off e=>by have h1:=hnew1 b off e;have h2:=hp.out;omega)
  replace hS:=hide hS
  replace hc:=hide hc
  clear g6 hPn1 hk1 hz1 hnew1 hP hd hk x b0 k1
  go_wp2
  refine bodyPost_ret (results_ct rfl _ _ r 69 _ (0,0) _ rfl (ab_fin y ff.kind sd1 ad1 ld1 cd1 ap1 np1 cp1 sk1 ak1 lk1 ck1) Tryz.underlying69 rfl k_f) rfl ?_
  refine⟨qs,hS.out,hc.out,?_,kf.out⟩
  rw[hfm.out]
  exact⟨sd1,ad1,ld1,cd1,ap1,np1,cp1,sk1,ak1,lk1,ck1,by simp,hdf.out,hlz1,hPf.out,hnp1,hzf.out,hlk1,hnw.out⟩
 have i0:(kd==0)=false:=by rw[beq_eq_false_iff_ne];exact h0
 have i1:(kd==1)=false:=by rw[beq_eq_false_iff_ne];exact h1
 have i2:(kd==2)=false:=by rw[beq_eq_false_iff_ne];exact h2
 have i3:(kd==3)=false:=by rw[beq_eq_false_iff_ne];exact h3
 have i4:(kd==4)=false:=by rw[beq_eq_false_iff_ne];exact h4
 have hfm:Hid (formA kd d q0 k= .inr 1):=(show _=_ by unfold formA;rw[if_neg o_m,if_neg h2,if_neg o_m])
 clear h0 h1 h2 h3 h4
 have y:=AB.new (w.alloc (.cells #[.int .i64 kd,.bool sd,.slice ad ld cd,.slice ap np cp,.bool sk,.slice ak lk ck] 69)) 0 false none 0 0 none 0 0 false none 0 0
 rw[show(w.alloc (.cells #[.int .i64 kd,.bool sd,.slice ad ld cd,.slice ap np cp,.bool sk,.slice ak lk ck] 69)).heap.size=w.heap.size+1 from by simp]at y
 have b0:Below w.heap.size w ((w.alloc (.cells #[.int .i64 kd,.bool sd,.slice ad ld cd,.slice ap np cp,.bool sk,.slice ak lk ck] 69)).alloc (.cells #[.int .i64 0,.bool false,.slice none 0 0,.slice none 0 0,.bool false,.slice none 0 0] 69)):=below_alloc' (below_alloc _ _) _
 have HH:=hide (And.intro y b0)
 clear y b0
 go_enter Tryz.func82,Tryz.ntmps82
 go_wp2
 obtain⟨y,b0⟩:=HH.out
 refine bodyPost_ret (results_ct rfl _ _ (w.heap.size+1) 69 _ (0,0) _ rfl y Tryz.underlying69 rfl k_f) rfl ?_
 exact⟨q0,hq0,hq1,by rw[hfm.out];rfl,b0⟩

theorem formA_er {er:Int}(h:formA kd d qs k= .inr er):er=11∨er=1:=by
 unfold formA at h
 split at h
 ·cases h
 split at h
 ·cases h
 split at h
 ·split at h
  ·cases h;exact .inl rfl
  cases h
 cases h;exact .inr rfl
theorem At.Fit.kind5 {a:Atm}(h:Fit a):a.kind=0∨a.kind=1∨a.kind=2∨a.kind=3∨a.kind=4:=by
 have:=h.kinds
 omega

def A0v (e:Ending):Prop:=e= .returned (.agg #[.int .i64 0,.bool false,.slice none 0 0,.slice none 0 0,.bool false,.slice none 0 0])
theorem aq3r {w':World}{r:Nat}{s:Bool}{a:Option Addr}{l c:Nat}{n:Nat}{t:Bool}{b:Option Addr}{m d:Nat}(x:AB w p kd s a l c ad n cp t b m d)(hp:p<r)(k:Below r w w'):
  w'.cell? ⟨p,3,none⟩=some (.slice ad n cp)∧w'.cell? ⟨p,4,none⟩=some (.bool t)∧w'.cell? ⟨p,5,none⟩=some (.slice b m d)∧Below r w w':=by
 have x':AB w' p kd s a l c ad n cp t b m d:=(k.block p hp).trans x
 exact⟨x'.c3,x'.c4,x'.c5,k⟩
def NG (w:World)(e:Ending)(f:Atm ⊕ Int)(B B0:Nat):Prop:=match f with
 | .inl f=>AW w e (negA f) B B0
 | .inr _=>A0v e
theorem AB.neq {r:Nat}{s:Bool}{a:Option Addr}{l c:Nat}{n:Nat}{t:Bool}{b:Option Addr}{m d:Nat}{w':World}(h:AB w p kd s a l c ad n cp t b m d)(hg:w.grownBy w' (some r))(hne:p≠r):AB w' p kd s a l c ad n cp t b m d:=(hg.block p h.lt (by simpa using hne)).trans h
theorem ab_put {k0:Int}{s0:Bool}{a0:Option Addr}{l0 c0:Nat}{ad0:Option Addr}{n0 cp0:Nat}{t0:Bool}{b0:Option Addr}{m0 d0:Nat}{sd1:Bool}{ad1:Option Addr}{ld1 cd1:Nat}{ap1:Option Addr}{np1:Nat}{sk1:Bool}{ak1:Option Addr}{lk1 ck1:Nat}{zd zk:Int}
  (x:AB w p k0 s0 a0 l0 c0 ad0 n0 cp0 t0 b0 m0 d0)(hz:Zn w sd1 ad1 ld1 cd1 zd)(hP:Pn w ap1 np1 qs B)(hk:Zn w sk1 ak1 lk1 ck1 zk)(hb: ∀b off,ap1=some ⟨b,off,none⟩→b≠p)(fk:Int)(cp1:Nat):
  w.grownBy ((((((w.setCell ⟨p,0,none⟩ (.int .i64 fk)).setCell ⟨p,1,none⟩ (.bool sd1)).setCell ⟨p,2,none⟩ (.slice ad1 ld1 cd1)).setCell ⟨p,3,none⟩ (.slice ap1 np1 cp1)).setCell ⟨p,4,none⟩ (.bool sk1)).setCell ⟨p,5,none⟩ (.slice ak1 lk1 ck1)) (some p)∧AB ((((((w.setCell ⟨p,0,none⟩ (.int .i64 fk)).setCell ⟨p,1,none⟩ (.bool sd1)).setCell ⟨p,2,none⟩ (.slice ad1 ld1 cd1)).setCell ⟨p,3,none⟩ (.slice ap1 np1 cp1)).setCell ⟨p,4,none⟩ (.bool sk1)).setCell ⟨p,5,none⟩ (.slice ak1 lk1 ck1)) p fk sd1 ad1 ld1 cd1 ap1 np1 cp1 sk1 ak1 lk1 ck1∧Zn ((((((w.setCell ⟨p,0,none⟩ (.int .i64 fk)).setCell ⟨p,1,none⟩ (.bool sd1)).setCell ⟨p,2,none⟩ (.slice ad1 ld1 cd1)).setCell ⟨p,3,none⟩ (.slice ap1 np1 cp1)).setCell ⟨p,4,none⟩ (.bool sk1)).setCell ⟨p,5,none⟩ (.slice ak1 lk1 ck1)) sd1 ad1 ld1 cd1 zd∧Pn ((((((w.setCell ⟨p,0,none⟩ (.int .i64 fk)).setCell ⟨p,1,none⟩ (.bool sd1)).setCell ⟨p,2,none⟩ (.slice ad1 ld1 cd1)).setCell ⟨p,3,none⟩ (.slice ap1 np1 cp1)).setCell ⟨p,4,none⟩ (.bool sk1)).setCell ⟨p,5,none⟩ (.slice ak1 lk1 ck1)) ap1 np1 qs B∧Zn ((((((w.setCell ⟨p,0,none⟩ (.int .i64 fk)).setCell ⟨p,1,none⟩ (.bool sd1)).setCell ⟨p,2,none⟩ (.slice ad1 ld1 cd1)).setCell ⟨p,3,none⟩ (.slice ap1 np1 cp1)).setCell ⟨p,4,none⟩ (.bool sk1)).setCell ⟨p,5,none⟩ (.slice ak1 lk1 ck1)) sk1 ak1 lk1 ck1 zk:=by
 have g6:=ab_set w p (.int .i64 fk) (.bool sd1) (.slice ad1 ld1 cd1) (.slice ap1 np1 cp1) (.bool sk1) (.slice ak1 lk1 ck1)
 have hU:=ab_noU x
 exact⟨g6,ab_fin x fk sd1 ad1 ld1 cd1 ap1 np1 cp1 sk1 ak1 lk1 ck1,hz.grownU g6 hU,hP.away hb g6 hU,hk.grownU g6 hU⟩
theorem ab_kind {k0:Int}{sd1:Bool}{ad1:Option Addr}{ld1 cd1:Nat}{ap1:Option Addr}{np1 cp1:Nat}{sk1:Bool}{ak1:Option Addr}{lk1 ck1:Nat}{zd zk:Int}
  (x:AB w p k0 sd1 ad1 ld1 cd1 ap1 np1 cp1 sk1 ak1 lk1 ck1)(hz:Zn w sd1 ad1 ld1 cd1 zd)(hP:Pn w ap1 np1 qs B)(hk:Zn w sk1 ak1 lk1 ck1 zk)(hb: ∀b off,ap1=some ⟨b,off,none⟩→b≠p)(fk:Int):
  w.grownBy (w.setCell ⟨p,0,none⟩ (.int .i64 fk)) (some p)∧AB (w.setCell ⟨p,0,none⟩ (.int .i64 fk)) p fk sd1 ad1 ld1 cd1 ap1 np1 cp1 sk1 ak1 lk1 ck1∧Zn (w.setCell ⟨p,0,none⟩ (.int .i64 fk)) sd1 ad1 ld1 cd1 zd∧Pn (w.setCell ⟨p,0,none⟩ (.int .i64 fk)) ap1 np1 qs B∧Zn (w.setCell ⟨p,0,none⟩ (.int .i64 fk)) sk1 ak1 lk1 ck1 zk:=by
 have g:=gb_set w p 0 (.int .i64 fk)
 have hU:=ab_noU x
 exact⟨g,heap_setCell_same _ p 0 _ _ _ x,hz.grownU g hU,hP.away hb g hU,hk.grownU g hU⟩

theorem anegate_n {ps:List (Int × Int)}
  (hd:Zm w sd ad ld cd d)(hld:ld≤B)(hP:Pr w ap np ps B)(hk:Zm w sk ak lk ck k)(hlk:lk≤B)(hn:np≤262144)(hB:B+5*np+64≤4194000):
  Calls Tryz.prog 47 #[.agg #[.int .i64 kd,.bool sd,.slice ad ld cd,.slice ap np cp,.bool sk,.slice ak lk ck]] w fun e w'=> ∃qs,Std qs∧(∀v,csum qs v=csum ps v)∧NG w' e (formA kd d qs k) (B+5*np+64) w.heap.size∧Below w.heap.size w w':=by
 go_enter Tryz.func47,Tryz.ntmps47
 go_wp2_with fail
 have x:=(AB.new w kd sd ad ld cd ap np cp sk ak lk ck).below (below_alloc _ (.cells #[.int .i64 0,.bool false,.slice none 0 0,.slice none 0 0,.bool false,.slice none 0 0] 69))
 have y:=AB.new (w.alloc (.cells #[.int .i64 kd,.bool sd,.slice ad ld cd,.slice ap np cp,.bool sk,.slice ak lk ck] 69)) 0 false none 0 0 none 0 0 false none 0 0
 rw[show(w.alloc (.cells #[.int .i64 kd,.bool sd,.slice ad ld cd,.slice ap np cp,.bool sk,.slice ak lk ck] 69)).heap.size=w.heap.size+1 from by simp]at y
 have b0:Below w.heap.size w ((w.alloc (.cells #[.int .i64 kd,.bool sd,.slice ad ld cd,.slice ap np cp,.bool sk,.slice ak lk ck] 69)).alloc (.cells #[.int .i64 0,.bool false,.slice none 0 0,.slice none 0 0,.bool false,.slice none 0 0] 69)):=below_alloc' (below_alloc _ _) _
 generalize (w.alloc (.cells #[.int .i64 kd,.bool sd,.slice ad ld cd,.slice ap np cp,.bool sk,.slice ak lk ck] 69)).alloc (.cells #[.int .i64 0,.bool false,.slice none 0 0,.slice none 0 0,.bool false,.slice none 0 0] 69)=wb at*
 replace hd:=hd.below b0
 replace hP:=hP.below b0
 replace hk:=hk.below b0
 have hpr:w.heap.size<w.heap.size+1:=by omega
 generalize w.heap.size+1=r at*
 generalize hp:w.heap.size=p at*
 replace b0:Hid (Below w.heap.size w wb):=hp▸b0
 replace hp:=hide hp
 have hnps:=hP.1
 refine(anorm_n hd hld hP hk hlk hn o_m).mono ?_
 rintro e w1 ⟨qs,hS,hc,hA,k1⟩
 have hrb:=y.lt
 replace x:=x.below k1
 replace y:=y.below k1
 have kk:=hide (grow_step k1 b0.out)
 clear hd hP hk k1
 have hpl:=x.lt
 have hrl:=y.lt
 have hne1: ¬r=p:=by omega
 have hne2: ¬p=r:=by omega
 have hwp:w.heap.size≤p:=by have:=hp.out;omega
 have hwr:w.heap.size≤r:=by omega
 cases hf:formA kd d qs k with
 |inr er=>
  rw[hf]at hA
  have her:=formA_er hf
  have he:_=_:=hA
  subst he
  have g6:=ab_set w1 p (.int .i64 0) (.bool false) (.slice none 0 0) (.slice none 0 0) (.bool false) (.slice none 0 0)
  have y2:=y.neq g6 o_m
  have kf:=below_grown kk.out g6 hwp
  have hres:Hid (∃qs,Std qs∧(∀v,csum qs v=csum ps v)∧∀w',NG w' (.returned (.agg #[.int .i64 0,.bool false,.slice none 0 0,.slice none 0 0,.bool false,.slice none 0 0])) (formA kd d qs k) (B+5*np+64) w.heap.size):=⟨qs,hS,hc,fun w'=>by rw[hf];rfl⟩
  have HH:=hide (And.intro y2 kf)
  have e0:=x.c0
  have e1:=x.c1
  have e2:=x.c2
  have e3:=x.c3
  have e4:=x.c4
  have e5:=x.c5
  have f0:=x.f 0
  have f1:=x.f 1
  have f2:=x.f 2
  have f3:=x.f 3
  have f4:=x.f 4
  have f5:=x.f 5
  have g0:=y.c0
  have g1:=y.c1
  have g2:=y.c2
  have g3:=y.c3
  have g4:=y.c4
  have g5:=y.c5
  have h0:=y.f 0
  have h1:=y.f 1
  have h2:=y.f 2
  have h3:=y.f 3
  have h4:=y.f 4
  have h5:=y.f 5
  clear hf hS hc hA kk g6 y2 kf x y
  rcases her with rfl|rfl
  ·go_wp2
   refine bodyPost_ret (results_cell_row rfl _ _ r 69 _ (0,0) _ rfl (ab_fin HH.out.1 0 false none 0 0 none 0 0 false none 0 0) Tryz.underlying69 rfl k_f) rfl ?_
   obtain⟨q,h1,h2,h3⟩:=hres.out
   exact⟨q,h1,h2,by simpa using h3 _,below_grown HH.out.2 (ab_set _ _ _ _ _ _ _ _) hwr⟩
  go_wp2
  refine bodyPost_ret (results_cell_row rfl _ _ r 69 _ (0,0) _ rfl (ab_fin HH.out.1 0 false none 0 0 none 0 0 false none 0 0) Tryz.underlying69 rfl k_f) rfl ?_
  obtain⟨q,h1,h2,h3⟩:=hres.out
  exact⟨q,h1,h2,by simpa using h3 _,below_grown HH.out.2 (ab_set _ _ _ _ _ _ _ _) hwr⟩
 |inl f=>
  rw[hf]at hA
  have hfit:=formA_fit hS hf
  have hlen:f.ps.length≤np:=by have h1:=(formA_prt hS hf).1;have h2:=std_len hS hc;omega
  obtain⟨fk,fd,fps,fkk⟩:=f
  obtain⟨sd1,ad1,ld1,cd1,ap1,np1,cp1,sk1,ak1,lk1,ck1,rfl,hz1,hlz1,hPn1,hnp1,hk1,hlk1,hnew1⟩:=hA
  dsimp only at hz1 hPn1 hk1 hlen
  have hnp2:np1≤np:=by have:=hPn1.1;omega
  have hres:Hid (∀e w',AW w' e (negA ⟨fk,fd,fps,fkk⟩) (B+5*np+64) w.heap.size→∃qs,Std qs∧(∀v,csum qs v=csum ps v)∧NG w' e (formA kd d qs k) (B+5*np+64) w.heap.size):=fun e w' he=>⟨qs,hS,hc,by rw[hf];exact he⟩
  have hbp: ∀b off,ap1=some ⟨b,off,none⟩→b≠p:=fun b off e=>by have h1:=hnew1 b off e;omega
  have hbr: ∀b off,ap1=some ⟨b,off,none⟩→b≠r:=fun b off e=>by have h1:=hnew1 b off e;omega
  have hbw: ∀b off,ap1=some ⟨b,off,none⟩→w.heap.size≤b:=fun b off e=>by have h1:=hnew1 b off e;omega
  obtain⟨g6,x2,hz2,hP2,hk2⟩:=ab_put x hz1 hPn1 hk1 hbp fk cp1
  have y2:=y.neq g6 o_m
  have kf:=below_grown kk.out g6 hwp
  rcases hfit.kind5 with hk5|hk5|hk5|hk5|hk5
  ·dsimp only at hk5
   subst hk5
   have hneg:Hid (negA ⟨0,fd,fps,fkk⟩=⟨1,fd,fps,fkk⟩):=(show _=_ by simp[negA])
   obtain⟨gg1,x3,hz3,hP3,hk3⟩:=ab_kind x2 hz2 hP2 hk2 hbp 1
   have y3:=y2.neq gg1 hne1
   have kf3:=below_grown kf gg1 hwp
   obtain⟨g7,y4,hz4,hP4,hk4⟩:=ab_put y3 hz3 hP3 hk3 hbr 1 cp1
   have kf4:=below_grown kf3 g7 hwr
   have HH:=hide (And.intro y4 (And.intro hz4 (And.intro hP4 (And.intro hk4 (And.intro hbw kf4)))))
   have e0:=x.c0
   have e1:=x.c1
   have e2:=x.c2
   have e3:=x.c3
   have e4:=x.c4
   have e5:=x.c5
   have f0:=x.f 0
   have f1:=x.f 1
   have f2:=x.f 2
   have f3:=x.f 3
   have f4:=x.f 4
   have f5:=x.f 5
   have g0:=y.c0
   have g1:=y.c1
   have g2:=y.c2
   have g3:=y.c3
   have g4:=y.c4
   have g5:=y.c5
   have h0:=y.f 0
   have h1:=y.f 1
   have h2:=y.f 2
   have h3:=y.f 3
   have h4:=y.f 4
   have h5:=y.f 5
   clear hf hS hc kk g6 y2 kf x y x2 hz2 hP2 hk2 gg1 x3 hz3 hP3 hk3 y3 kf3 g7 y4 hz4 hP4 hk4 kf4 hz1 hPn1 hk1 hnew1 hbp hbr hbw hfit
   go_wp2
   obtain⟨y4,hz4,hP4,hk4,hbw,kf4⟩:=HH.out
   refine bodyPost_ret (results_cell_row rfl _ _ r 69 _ (0,0) _ rfl y4 Tryz.underlying69 rfl k_f) rfl ?_
   obtain⟨q,h1,h2,h3⟩:=hres.out (.returned (.agg #[.int .i64 1,.bool sd1,.slice ad1 ld1 cd1,.slice ap1 np1 cp1,.bool sk1,.slice ak1 lk1 ck1])) _ (by rw[hneg.out];exact⟨sd1,ad1,ld1,cd1,ap1,np1,cp1,sk1,ak1,lk1,ck1,rfl,hz4,by omega,hP4.mono o_m,by omega,hk4,by omega,hbw⟩)
   exact⟨q,h1,h2,by first|exact h3|simpa using h3,kf4⟩
  ·dsimp only at hk5
   subst hk5
   have hneg:Hid (negA ⟨1,fd,fps,fkk⟩=⟨0,fd,fps,fkk⟩):=(show _=_ by simp[negA])
   obtain⟨gg1,x3,hz3,hP3,hk3⟩:=ab_kind x2 hz2 hP2 hk2 hbp 0
   have y3:=y2.neq gg1 hne1
   have kf3:=below_grown kf gg1 hwp
   obtain⟨g7,y4,hz4,hP4,hk4⟩:=ab_put y3 hz3 hP3 hk3 hbr 0 cp1
   have kf4:=below_grown kf3 g7 hwr
   have HH:=hide (And.intro y4 (And.intro hz4 (And.intro hP4 (And.intro hk4 (And.intro hbw kf4)))))
   have e0:=x.c0
   have e1:=x.c1
   have e2:=x.c2
   have e3:=x.c3
   have e4:=x.c4
   have e5:=x.c5
   have f0:=x.f 0
   have f1:=x.f 1
   have f2:=x.f 2
   have f3:=x.f 3
   have f4:=x.f 4
   have f5:=x.f 5
   have g0:=y.c0
   have g1:=y.c1
   have g2:=y.c2
   have g3:=y.c3
   have g4:=y.c4
   have g5:=y.c5
   have h0:=y.f 0
   have h1:=y.f 1
   have h2:=y.f 2
   have h3:=y.f 3
   have h4:=y.f 4
   have h5:=y.f 5
   clear hf hS hc kk g6 y2 kf x y x2 hz2 hP2 hk2 gg1 x3 hz3 hP3 hk3 y3 kf3 g7 y4 hz4 hP4 hk4 kf4 hz1 hPn1 hk1 hnew1 hbp hbr hbw hfit
   go_wp2
   obtain⟨y4,hz4,hP4,hk4,hbw,kf4⟩:=HH.out
   refine bodyPost_ret (results_cell_row rfl _ _ r 69 _ (0,0) _ rfl y4 Tryz.underlying69 rfl k_f) rfl ?_
   obtain⟨q,h1,h2,h3⟩:=hres.out (.returned (.agg #[.int .i64 0,.bool sd1,.slice ad1 ld1 cd1,.slice ap1 np1 cp1,.bool sk1,.slice ak1 lk1 ck1])) _ (by rw[hneg.out];exact⟨sd1,ad1,ld1,cd1,ap1,np1,cp1,sk1,ak1,lk1,ck1,rfl,hz4,by omega,hP4.mono o_m,by omega,hk4,by omega,hbw⟩)
   exact⟨q,h1,h2,by first|exact h3|simpa using h3,kf4⟩
  ·dsimp only at hk5
   subst hk5
   have hneg:Hid (lessF (scl (-1) fps) (1-fkk)=negA ⟨2,fd,fps,fkk⟩):=lessF_neg hfit rfl
   have hstd:=hide (std_neg hfit.std)
   have HH:=hide (And.intro x2 (And.intro y2 (And.intro hP2 (And.intro hk2 kf))))
   have e0:=x.c0
   have e1:=x.c1
   have e2:=x.c2
   have e3:=x.c3
   have e4:=x.c4
   have e5:=x.c5
   have f0:=x.f 0
   have f1:=x.f 1
   have f2:=x.f 2
   have f3:=x.f 3
   have f4:=x.f 4
   have f5:=x.f 5
   have g0:=y.c0
   have g1:=y.c1
   have g2:=y.c2
   have g3:=y.c3
   have g4:=y.c4
   have g5:=y.c5
   have h0:=y.f 0
   have h1:=y.f 1
   have h2:=y.f 2
   have h3:=y.f 3
   have h4:=y.f 4
   have h5:=y.f 5
   clear hf hS hc kk g6 y2 kf x y x2 hz2 hP2 hk2 hz1 hPn1 hk1 hnew1 hbp hbr hbw hfit
   go_wp2_with fail
   obtain⟨x2,y2,hP2,hk2,kf⟩:=HH.out
   clear HH e0 e1 e2 e3 e4 e5 f0 f1 f2 f3 f4 f5 g0 g1 g2 g3 g4 g5 h0 h1 h2 h3 h4 h5
   generalize ((((((w1.setCell ⟨p,0,none⟩ (.int .i64 2)).setCell ⟨p,1,none⟩ (.bool sd1)).setCell ⟨p,2,none⟩ (.slice ad1 ld1 cd1)).setCell ⟨p,3,none⟩ (.slice ap1 np1 cp1)).setCell ⟨p,4,none⟩ (.bool sk1)).setCell ⟨p,5,none⟩ (.slice ak1 lk1 ck1))=w2 at*
   have hrb2:=Nat.le_of_lt y2.lt
   have hP2':=hP2.pr
   have hk2':=hk2.zm
   go_region_held3 (fun w'=>w'.cell? ⟨p,3,none⟩=some (.slice ap1 np1 cp1)∧w'.cell? ⟨p,4,none⟩=some (.bool sk1)∧w'.cell? ⟨p,5,none⟩=some (.slice ak1 lk1 ck1)∧Below r w2 w')
    ((refine aq3r x2 hpr ?_;first|(refine Below.mono ?_ hrb2;focus ((with_reducible repeat' first|exact Below.refl _ _|assumption|refine grow_step (by assumption) ?_|refine grow_drew ?_|refine grow_alloc ?_ _|refine grow_drewN ?_ _);done))|(refine((((((Below.mono ?_ hrb2).setCell (Nat.le_refl _) _).setCell (Nat.le_refl _) _).setCell (Nat.le_refl _) _).setCell (Nat.le_refl _) _).setCell (Nat.le_refl _) _).setCell (Nat.le_refl _) _;focus ((with_reducible repeat' first|exact Below.refl _ _|assumption|refine grow_step (by assumption) ?_|refine grow_drew ?_|refine grow_alloc ?_ _|refine grow_drewN ?_ _);done))))
    (first|(go_at_call 59;refine(zof_n 1 (by decide) (by decide) _).mono ?_;rintro e wA ⟨sA,aA,lA,cA,rfl,hzA,kA,hlA⟩)|(go_at_call 58;refine(tconst_n (B:=B+np+16) (Zn.zm (Zn.below hzA gw)) (by omega) (by omega)).mono ?_;rintro e wC ⟨sC,aC,lC,cC,rfl,hTC⟩;have kC:=hTC.below;have tC:=hTC.tw)|(go_at_call 56;refine(tsub_n (B:=B+np+16) (Pr.below tC.1 gw) (Zm.below tC.2.1 gw) tC.2.2 (Pr.below hP2' gw) (Zm.below hk2' gw) hlk1 (by omega)).mono ?_;rintro e wS ⟨ad3,n3,cp3,s3,a3,l3,c3,us,rfl,hTS,hnS,hStdS,hcsS⟩;have kS:=hTS.below;have tS:=hTS.tw)|(go_at_call 90;refine(less_n (B:=B+np+16+np1+3+(0+np1)+2) (Pr.below tS.1 gw) (Zm.below tS.2.1 gw) tS.2.2 (by omega) (by omega)).mono ?_;rintro e wL ⟨qsL,hSL,hcL,hAL,kL⟩;obtain⟨sdL,adL,ldL,cdL,apL,npL,cpL,skL,akL,lkL,ckL,rfl,hzL,hlzL,hPnL,hnpL,hkL,hlkL,hnewL⟩:=hAL;have kW:=mid kL (show Below w2.heap.size w2 _ from gw);have y1':=AB.below y2 kW;have y':=y1'.below kL;have i0:=y'.c0;have i1:=y'.c1;have i2:=y'.c2;have i3:=y'.c3;have i4:=y'.c4;have i5:=y'.c5;have j0:=y'.f 0;have j1:=y'.f 1;have j2:=y'.f 2;have j3:=y'.f 3;have j4:=y'.f 4;have j5:=y'.f 5))
   all_goals
    have hqs:qsL=scl (-1) fps:=std_unique hSL hstd.out (fun v=>by rw[hcL,hcsS,csum_append];simp[csum])
    generalize hF:lessF qsL (1-fkk)=F at*
    have hFn:Hid (F=negA ⟨2,fd,fps,fkk⟩):=(show _=_ by rw[←hF,hqs];exact hneg.out)
    have hs9:=kW.size
    have hs8:=y2.lt
    obtain⟨g7,y4,hz4,hP4,hk4⟩:=ab_put y' hzL hPnL hkL (fun b off e=>by have h9:=hnewL b off e;omega) F.kind cpL
    have kf4:=below_grown (grow_step (grow_step kL kW) kf) g7 hwr
    have hbw: ∀b off,apL=some ⟨b,off,none⟩→w.heap.size≤b:=fun b off e=>by have h9:=hnewL b off e;omega
    have HH:=hide (And.intro y4 (And.intro hz4 (And.intro hP4 (And.intro hk4 (And.intro hbw kf4)))))
    clear hF hqs hneg hstd g7 y4 hz4 hP4 hk4 kf4 hbw hzL hPnL hkL hnewL hSL hcL hStdS hcsS hTS hTC tS tC kS kC kL kW kf x2 y2 y1' y' hP2 hk2 hP2' hk2' hzA kA
    go_wp2
    obtain⟨y4,hz4,hP4,hk4,hbw,kf4⟩:=HH.out
    refine bodyPost_ret (results_cell_row rfl _ _ r 69 _ (0,0) _ rfl y4 Tryz.underlying69 rfl k_f) rfl ?_
    obtain⟨q,h1,h2,h3⟩:=hres.out (.returned (.agg #[.int .i64 F.kind,.bool sdL,.slice adL ldL cdL,.slice apL npL cpL,.bool skL,.slice akL lkL ckL])) _ (by rw[←hFn.out];exact⟨sdL,adL,ldL,cdL,apL,npL,cpL,skL,akL,lkL,ckL,rfl,hz4,by omega,hP4.mono o_m,by omega,hk4,by omega,hbw⟩)
    exact⟨q,h1,h2,by first|exact h3|simpa using h3,kf4⟩
  ·dsimp only at hk5
   subst hk5
   have hneg:Hid (negA ⟨3,fd,fps,fkk⟩=⟨4,fd,fps,fkk⟩):=(show _=_ by simp[negA])
   obtain⟨gg1,x3,hz3,hP3,hk3⟩:=ab_kind x2 hz2 hP2 hk2 hbp 4
   have y3:=y2.neq gg1 hne1
   have kf3:=below_grown kf gg1 hwp
   obtain⟨g7,y4,hz4,hP4,hk4⟩:=ab_put y3 hz3 hP3 hk3 hbr 4 cp1
   have kf4:=below_grown kf3 g7 hwr
   have HH:=hide (And.intro y4 (And.intro hz4 (And.intro hP4 (And.intro hk4 (And.intro hbw kf4)))))
   have e0:=x.c0
   have e1:=x.c1
   have e2:=x.c2
   have e3:=x.c3
   have e4:=x.c4
   have e5:=x.c5
   have f0:=x.f 0
   have f1:=x.f 1
   have f2:=x.f 2
   have f3:=x.f 3
   have f4:=x.f 4
   have f5:=x.f 5
   have g0:=y.c0
   have g1:=y.c1
   have g2:=y.c2
   have g3:=y.c3
   have g4:=y.c4
   have g5:=y.c5
   have h0:=y.f 0
   have h1:=y.f 1
   have h2:=y.f 2
   have h3:=y.f 3
   have h4:=y.f 4
   have h5:=y.f 5
   clear hf hS hc kk g6 y2 kf x y x2 hz2 hP2 hk2 gg1 x3 hz3 hP3 hk3 y3 kf3 g7 y4 hz4 hP4 hk4 kf4 hz1 hPn1 hk1 hnew1 hbp hbr hbw hfit
   go_wp2
   obtain⟨y4,hz4,hP4,hk4,hbw,kf4⟩:=HH.out
   refine bodyPost_ret (results_cell_row rfl _ _ r 69 _ (0,0) _ rfl y4 Tryz.underlying69 rfl k_f) rfl ?_
   obtain⟨q,h1,h2,h3⟩:=hres.out (.returned (.agg #[.int .i64 4,.bool sd1,.slice ad1 ld1 cd1,.slice ap1 np1 cp1,.bool sk1,.slice ak1 lk1 ck1])) _ (by rw[hneg.out];exact⟨sd1,ad1,ld1,cd1,ap1,np1,cp1,sk1,ak1,lk1,ck1,rfl,hz4,by omega,hP4.mono o_m,by omega,hk4,by omega,hbw⟩)
   exact⟨q,h1,h2,by first|exact h3|simpa using h3,kf4⟩
  dsimp only at hk5
  subst hk5
  have hneg:Hid (negA ⟨4,fd,fps,fkk⟩=⟨3,fd,fps,fkk⟩):=(show _=_ by simp[negA])
  obtain⟨gg1,x3,hz3,hP3,hk3⟩:=ab_kind x2 hz2 hP2 hk2 hbp 3
  have y3:=y2.neq gg1 hne1
  have kf3:=below_grown kf gg1 hwp
  obtain⟨g7,y4,hz4,hP4,hk4⟩:=ab_put y3 hz3 hP3 hk3 hbr 3 cp1
  have kf4:=below_grown kf3 g7 hwr
  have HH:=hide (And.intro y4 (And.intro hz4 (And.intro hP4 (And.intro hk4 (And.intro hbw kf4)))))
  have e0:=x.c0
  have e1:=x.c1
  have e2:=x.c2
  have e3:=x.c3
  have e4:=x.c4
  have e5:=x.c5
  have f0:=x.f 0
  have f1:=x.f 1
  have f2:=x.f 2
  have f3:=x.f 3
  have f4:=x.f 4
  have f5:=x.f 5
  have g0:=y.c0
  have g1:=y.c1
  have g2:=y.c2
  have g3:=y.c3
  have g4:=y.c4
  have g5:=y.c5
  have h0:=y.f 0
  have h1:=y.f 1
  have h2:=y.f 2
  have h3:=y.f 3
  have h4:=y.f 4
  have h5:=y.f 5
  clear hf hS hc kk g6 y2 kf x y x2 hz2 hP2 hk2 gg1 x3 hz3 hP3 hk3 y3 kf3 g7 y4 hz4 hP4 hk4 kf4 hz1 hPn1 hk1 hnew1 hbp hbr hbw hfit
  go_wp2
  obtain⟨y4,hz4,hP4,hk4,hbw,kf4⟩:=HH.out
  refine bodyPost_ret (results_cell_row rfl _ _ r 69 _ (0,0) _ rfl y4 Tryz.underlying69 rfl k_f) rfl ?_
  obtain⟨q,h1,h2,h3⟩:=hres.out (.returned (.agg #[.int .i64 3,.bool sd1,.slice ad1 ld1 cd1,.slice ap1 np1 cp1,.bool sk1,.slice ak1 lk1 ck1])) _ (by rw[hneg.out];exact⟨sd1,ad1,ld1,cd1,ap1,np1,cp1,sk1,ak1,lk1,ck1,rfl,hz4,by omega,hP4.mono o_m,by omega,hk4,by omega,hbw⟩)
  exact⟨q,h1,h2,by first|exact h3|simpa using h3,kf4⟩

end Go.Proofs.YtllfelooahplhaaGreatDoor
