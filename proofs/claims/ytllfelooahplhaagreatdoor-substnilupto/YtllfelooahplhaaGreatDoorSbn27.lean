/-
 Several texts in one: B7,BB,BD,BG.
-/
import Derived.Test.YtllfelooahplhaaGreatDoorSbn26
import Derived.Test.YtllfelooahplhaaGreatDoorSbn22
set_option maxRecDepth 100000
set_option maxHeartbeats 6400000
namespace Go.Proofs.YtllfelooahplhaaGreatDoor
open Go.RowKit Go.Sort Go.Shelf
open Tm At

variable {w w':World}{kd d k:Int}{sd sk s:Bool}{ad ap ak a:Option Addr}{ld cd np cp lk ck B p l c n:Nat}
def AZ (e:Ending)(er:Int):Prop:=e= .returned (.tuple #[.agg #[.int .i64 0,.bool false,.slice none 0 0,.slice none 0 0,.bool false,.slice none 0 0],.int .i64 er])
def AN (w:World)(e:Ending)(f:Atm ⊕ Int)(B B0:Nat):Prop:=match f with
 | .inl f=>AE w e f B B0
 | .inr er=>AZ e er

theorem divi_0 {al ne:Int}
  (hd:Zm w sd ad ld cd 0)(hld:ld≤1099511627776):
  Calls Tryz.prog 134 #[.agg #[.int .i64 kd,.bool sd,.slice ad ld cd,.slice ap np cp,.bool sk,.slice ak lk ck],.int .i64 al,.int .i64 ne] w fun e w'=>AZ e 11∧Below w.heap.size w w':=by
 go_enter Tryz.func134,Tryz.ntmps134
 go_wp2_with fail
 have y:=AB.new (w.alloc (.cells #[.int .i64 kd,.bool sd,.slice ad ld cd,.slice ap np cp,.bool sk,.slice ak lk ck] 69)) 0 false none 0 0 none 0 0 false none 0 0
 rw[show(w.alloc (.cells #[.int .i64 kd,.bool sd,.slice ad ld cd,.slice ap np cp,.bool sk,.slice ak lk ck] 69)).heap.size=w.heap.size+1 from by simp]at y
 have b0:Below w.heap.size w ((w.alloc (.cells #[.int .i64 kd,.bool sd,.slice ad ld cd,.slice ap np cp,.bool sk,.slice ak lk ck] 69)).alloc (.cells #[.int .i64 0,.bool false,.slice none 0 0,.slice none 0 0,.bool false,.slice none 0 0] 69)):=below_alloc' (below_alloc _ _) _
 generalize (w.alloc (.cells #[.int .i64 kd,.bool sd,.slice ad ld cd,.slice ap np cp,.bool sk,.slice ak lk ck] 69)).alloc (.cells #[.int .i64 0,.bool false,.slice none 0 0,.slice none 0 0,.bool false,.slice none 0 0] 69)=wb at*
 have hr:w.heap.size≤w.heap.size+1:=by omega
 generalize w.heap.size+1=r at*
 refine(zsign_n (hd.below b0) hld).mono ?_
 rintro e w1 ⟨rfl,k1⟩
 rw[show cmpI 0 0=0 from rfl]
 replace y:=y.below k1
 have K1:=grow_step k1 b0
 have e0:=y.c0
 have e1:=y.c1
 have e2:=y.c2
 have e3:=y.c3
 have e4:=y.c4
 have e5:=y.c5
 have f0:=y.f 0
 have f1:=y.f 1
 have f2:=y.f 2
 have f3:=y.f 3
 have f4:=y.f 4
 have f5:=y.f 5
 have g6:=ab_set w1 r (.int .i64 0) (.bool false) (.slice none 0 0) (.slice none 0 0) (.bool false) (.slice none 0 0)
 have kf:=hide (below_grown K1 g6 hr)
 clear g6 K1 k1 b0
 go_wp2
 refine bodyPost_ret (results_ct rfl _ _ r 69 _ (0,0) _ rfl (ab_fin y 0 false none 0 0 none 0 0 false none 0 0) Tryz.underlying69 rfl k_f) rfl ?_
 exact⟨rfl,kf.out⟩

theorem anorm_n {ps:List (Int × Int)}
  (hd:Zm w sd ad ld cd d)(hld:ld≤B)(hP:Pr w ap np ps B)(hk:Zm w sk ak lk ck k)(hlk:lk≤B)(hn:np≤262144)(hB:B+np+1≤4194000):
  Calls Tryz.prog 82 #[.agg #[.int .i64 kd,.bool sd,.slice ad ld cd,.slice ap np cp,.bool sk,.slice ak lk ck]] w fun e w'=> ∃qs,Std qs∧(∀v,csum qs v=csum ps v)∧AN w' e (formA kd d qs k) (B+np+16) w.heap.size∧Below w.heap.size w w':=by
 obtain⟨q0,hq0,hq1⟩: ∃qs,Std qs∧∀v,csum qs v=csum ps v:=⟨nz (lays [] ps),std_lays ps,fun v=>csum_nzl ps v⟩
 by_cases h0:kd=0
 ·subst h0
  have y:=AB.new (w.alloc (.cells #[.int .i64 0,.bool sd,.slice ad ld cd,.slice ap np cp,.bool sk,.slice ak lk ck] 69)) 0 false none 0 0 none 0 0 false none 0 0
  rw[show(w.alloc (.cells #[.int .i64 0,.bool sd,.slice ad ld cd,.slice ap np cp,.bool sk,.slice ak lk ck] 69)).heap.size=w.heap.size+1 from by simp]at y
  have b0:Below w.heap.size w ((w.alloc (.cells #[.int .i64 0,.bool sd,.slice ad ld cd,.slice ap np cp,.bool sk,.slice ak lk ck] 69)).alloc (.cells #[.int .i64 0,.bool false,.slice none 0 0,.slice none 0 0,.bool false,.slice none 0 0] 69)):=below_alloc' (below_alloc _ _) _
  have HH:=hide (And.intro y b0)
  clear y b0
  go_enter Tryz.func82,Tryz.ntmps82
  go_wp2
  obtain⟨y,b0⟩:=HH.out
  refine bodyPost_ret (results_ct rfl _ _ (w.heap.size+1) 69 _ (0,0) _ rfl y Tryz.underlying69 rfl k_f) rfl ?_
  exact⟨q0,hq0,hq1,⟨false,none,0,0,none,0,0,false,none,0,0,rfl,zn_zero _,by omega,pn_nil _ _ _,by omega,zn_zero _,by omega,fun _ _ h=>by cases h⟩,b0⟩
 by_cases h1:kd=1
 ·subst h1
  have y:=AB.new (w.alloc (.cells #[.int .i64 1,.bool sd,.slice ad ld cd,.slice ap np cp,.bool sk,.slice ak lk ck] 69)) 1 false none 0 0 none 0 0 false none 0 0
  rw[show(w.alloc (.cells #[.int .i64 1,.bool sd,.slice ad ld cd,.slice ap np cp,.bool sk,.slice ak lk ck] 69)).heap.size=w.heap.size+1 from by simp]at y
  have b0:Below w.heap.size w ((w.alloc (.cells #[.int .i64 1,.bool sd,.slice ad ld cd,.slice ap np cp,.bool sk,.slice ak lk ck] 69)).alloc (.cells #[.int .i64 1,.bool false,.slice none 0 0,.slice none 0 0,.bool false,.slice none 0 0] 69)):=below_alloc' (below_alloc _ _) _
  have HH:=hide (And.intro y b0)
  clear y b0
  go_enter Tryz.func82,Tryz.ntmps82
  go_wp2
  obtain⟨y,b0⟩:=HH.out
  refine bodyPost_ret (results_ct rfl _ _ (w.heap.size+1) 69 _ (0,0) _ rfl y Tryz.underlying69 rfl k_f) rfl ?_
  exact⟨q0,hq0,hq1,⟨false,none,0,0,none,0,0,false,none,0,0,rfl,zn_zero _,by omega,pn_nil _ _ _,by omega,zn_zero _,by omega,fun _ _ h=>by cases h⟩,b0⟩
 by_cases h2:kd=2
 ·subst h2
  clear h0 h1 q0 hq0 hq1
  have x:=(AB.new w 2 sd ad ld cd ap np cp sk ak lk ck).below (below_alloc _ (.cells #[.int .i64 0,.bool false,.slice none 0 0,.slice none 0 0,.bool false,.slice none 0 0] 69))
  have y:=AB.new (w.alloc (.cells #[.int .i64 2,.bool sd,.slice ad ld cd,.slice ap np cp,.bool sk,.slice ak lk ck] 69)) 0 false none 0 0 none 0 0 false none 0 0
  rw[show(w.alloc (.cells #[.int .i64 2,.bool sd,.slice ad ld cd,.slice ap np cp,.bool sk,.slice ak lk ck] 69)).heap.size=w.heap.size+1 from by simp]at y
  have b0:Below w.heap.size w ((w.alloc (.cells #[.int .i64 2,.bool sd,.slice ad ld cd,.slice ap np cp,.bool sk,.slice ak lk ck] 69)).alloc (.cells #[.int .i64 0,.bool false,.slice none 0 0,.slice none 0 0,.bool false,.slice none 0 0] 69)):=below_alloc' (below_alloc _ _) _
  have HH:=hide (And.intro x (And.intro y (And.intro b0 (And.intro (hP.below b0) (And.intro (hd.below b0) (hk.below b0))))))
  clear x y b0
  go_enter Tryz.func82,Tryz.ntmps82
  go_wp2_with fail
  obtain⟨x,y,b0,hP,hd,hk⟩:=HH.out
  clear HH
  generalize (w.alloc (.cells #[.int .i64 2,.bool sd,.slice ad ld cd,.slice ap np cp,.bool sk,.slice ak lk ck] 69)).alloc (.cells #[.int .i64 0,.bool false,.slice none 0 0,.slice none 0 0,.bool false,.slice none 0 0] 69)=wb at*
  have hr:w.heap.size≤w.heap.size+1:=by omega
  generalize w.heap.size+1=r at*
  generalize hp:w.heap.size=p at*
  replace hp:=hide hp
  refine(less_n hP hk hlk o_m o_m).mono ?_
  rintro e w1 ⟨qs,hS,hc,⟨sd1,ad1,ld1,cd1,ap1,np1,cp1,sk1,ak1,lk1,ck1,rfl,hz1,hlz1,hPn1,hnp1,hk1,hlk1,hnew1⟩,k1⟩
  have hfm:Hid (formA 2 d qs k= .inl (lessF qs k)):=(show _=_ by unfold formA;rw[if_neg (by decide),if_pos rfl])
  generalize lessF qs k=ff at*
  have hrl:=y.lt
  replace y:=y.below k1
  have e0:=y.c0
  have e1:=y.c1
  have e2:=y.c2
  have e3:=y.c3
  have e4:=y.c4
  have e5:=y.c5
  have f0:=y.f 0
  have f1:=y.f 1
  have f2:=y.f 2
  have f3:=y.f 3
  have f4:=y.f 4
  have f5:=y.f 5
  have g6:=ab_set w1 r (.int .i64 ff.kind) (.bool sd1) (.slice ad1 ld1 cd1) (.slice ap1 np1 cp1) (.bool sk1) (.slice ak1 lk1 ck1)
  have hPf:=hide (hPn1.away (fun b off e=>by have:=hnew1 b off e;omega) g6 (ab_noU y))
  have hzf:=hide (hk1.grownU g6 (ab_noU y))
  have hdf:=hide (hz1.grownU g6 (ab_noU y))
  have kf:=hide (below_grown (grow_step k1 (show Below w.heap.size w wb from hp.out.symm▸b0)) g6 (by have:=hp.out;omega))
  have hnw:Hid (∀b off,ap1=some ⟨b,off,none⟩→w.heap.size≤b):=(fun b off e=>by have h1:=hnew1 b off e;have h2:=hp.out;omega)
  replace hS:=hide hS
  replace hc:=hide hc
  clear g6 hPn1 hk1 hz1 hnew1 hP hd hk x b0 k1
  go_wp2
  refine bodyPost_ret (results_ct rfl _ _ r 69 _ (0,0) _ rfl (ab_fin y ff.kind sd1 ad1 ld1 cd1 ap1 np1 cp1 sk1 ak1 lk1 ck1) Tryz.underlying69 rfl k_f) rfl ?_
  refine⟨qs,hS.out,hc.out,?_,kf.out⟩
  rw[hfm.out]
  exact⟨sd1,ad1,ld1,cd1,ap1,np1,cp1,sk1,ak1,lk1,ck1,by simp,hdf.out,hlz1,hPf.out,hnp1,hzf.out,hlk1,hnw.out⟩
 by_cases h3:kd=3
 ·subst h3
  clear h0 h1 h2
  have x:=(AB.new w 3 sd ad ld cd ap np cp sk ak lk ck).below (below_alloc _ (.cells #[.int .i64 0,.bool false,.slice none 0 0,.slice none 0 0,.bool false,.slice none 0 0] 69))
  have y:=AB.new (w.alloc (.cells #[.int .i64 3,.bool sd,.slice ad ld cd,.slice ap np cp,.bool sk,.slice ak lk ck] 69)) 0 false none 0 0 none 0 0 false none 0 0
  rw[show(w.alloc (.cells #[.int .i64 3,.bool sd,.slice ad ld cd,.slice ap np cp,.bool sk,.slice ak lk ck] 69)).heap.size=w.heap.size+1 from by simp]at y
  have b0:Below w.heap.size w ((w.alloc (.cells #[.int .i64 3,.bool sd,.slice ad ld cd,.slice ap np cp,.bool sk,.slice ak lk ck] 69)).alloc (.cells #[.int .i64 0,.bool false,.slice none 0 0,.slice none 0 0,.bool false,.slice none 0 0] 69)):=below_alloc' (below_alloc _ _) _
  have HH:=hide (And.intro x (And.intro y (And.intro b0 (And.intro (hP.below b0) (And.intro (hd.below b0) (hk.below b0))))))
  clear x y b0
  go_enter Tryz.func82,Tryz.ntmps82
  go_wp2_with fail
  obtain⟨x,y,b0,hP,hd,hk⟩:=HH.out
  clear HH
  generalize (w.alloc (.cells #[.int .i64 3,.bool sd,.slice ad ld cd,.slice ap np cp,.bool sk,.slice ak lk ck] 69)).alloc (.cells #[.int .i64 0,.bool false,.slice none 0 0,.slice none 0 0,.bool false,.slice none 0 0] 69)=wb at*
  have hr:w.heap.size≤w.heap.size+1:=by omega
  generalize w.heap.size+1=r at*
  generalize hp:w.heap.size=p at*
  replace hp:=hide hp
  by_cases hd0:d=0
  ·subst hd0
   have hfm:Hid (formA 3 0 q0 k= .inr 11):=(show _=_ by unfold formA;rw[if_neg (by decide),if_neg (by decide),if_pos (by decide),if_pos rfl])
   refine(divi_0 hd o_m).mono ?_
   rintro e w1 ⟨hz,k1⟩
   unfold AZ at hz
   subst hz
   replace y:=y.below k1
   have e0:=y.c0
   have e1:=y.c1
   have e2:=y.c2
   have e3:=y.c3
   have e4:=y.c4
   have e5:=y.c5
   have f0:=y.f 0
   have f1:=y.f 1
   have f2:=y.f 2
   have f3:=y.f 3
   have f4:=y.f 4
   have f5:=y.f 5
   have g6:=ab_set w1 r (.int .i64 0) (.bool false) (.slice none 0 0) (.slice none 0 0) (.bool false) (.slice none 0 0)
   have kf:=hide (below_grown (grow_step k1 (show Below w.heap.size w wb from hp.out.symm▸b0)) g6 (by have:=hp.out;omega))
   replace hq0:=hide hq0
   replace hq1:=hide hq1
   clear g6 hP hd hk x b0 k1
   go_wp2
   refine bodyPost_ret (results_ct rfl _ _ r 69 _ (0,0) _ rfl (ab_fin y 0 false none 0 0 none 0 0 false none 0 0) Tryz.underlying69 rfl k_f) rfl ?_
   exact⟨q0,hq0.out,hq1.out,by rw[hfm.out];exact rfl,kf.out⟩
  refine(divi_n hd hld hP hk hlk hn hB (by decide) (by decide) hd0).mono ?_
  rintro e w1 ⟨qs,hS,hc,⟨sd1,ad1,ld1,cd1,ap1,np1,cp1,sk1,ak1,lk1,ck1,rfl,hz1,hlz1,hPn1,hnp1,hk1,hlk1,hnew1⟩,k1⟩
  have hfm:Hid (formA 3 d qs k= .inl (divF 3 d qs k)):=(show _=_ by unfold formA;rw[if_neg (by decide),if_neg (by decide),if_pos (by decide),if_neg hd0])
  generalize divF 3 d qs k=ff at*
  have hrl:=y.lt
  replace y:=y.below k1
  have e0:=y.c0
  have e1:=y.c1
  have e2:=y.c2
  have e3:=y.c3
  have e4:=y.c4
  have e5:=y.c5
  have f0:=y.f 0
  have f1:=y.f 1
  have f2:=y.f 2
  have f3:=y.f 3
  have f4:=y.f 4
  have f5:=y.f 5
  have g6:=ab_set w1 r (.int .i64 ff.kind) (.bool sd1) (.slice ad1 ld1 cd1) (.slice ap1 np1 cp1) (.bool sk1) (.slice ak1 lk1 ck1)
  have hPf:=hide (hPn1.away (fun b off e=>by have:=hnew1 b off e;omega) g6 (ab_noU y))
  have hzf:=hide (hk1.grownU g6 (ab_noU y))
  have hdf:=hide (hz1.grownU g6 (ab_noU y))
  have kf:=hide (below_grown (grow_step k1 (show Below w.heap.size w wb from hp.out.symm▸b0)) g6 (by have:=hp.out;omega))
  have hnw:Hid (∀b off,ap1=some ⟨b,off,none⟩→w.heap.size≤b):=(fun b off e=>by have h1:=hnew1 b off e;have h2:=hp.out;omega)
  replace hS:=hide hS
  replace hc:=hide hc
  clear g6 hPn1 hk1 hz1 hnew1 hP hd hk x b0 k1
  go_wp2
  refine bodyPost_ret (results_ct rfl _ _ r 69 _ (0,0) _ rfl (ab_fin y ff.kind sd1 ad1 ld1 cd1 ap1 np1 cp1 sk1 ak1 lk1 ck1) Tryz.underlying69 rfl k_f) rfl ?_
  refine⟨qs,hS.out,hc.out,?_,kf.out⟩
  rw[hfm.out]
  exact⟨sd1,ad1,ld1,cd1,ap1,np1,cp1,sk1,ak1,lk1,ck1,by simp,hdf.out,hlz1,hPf.out,hnp1,hzf.out,hlk1,hnw.out⟩
 by_cases h4:kd=4
 ·subst h4
  clear h0 h1 h2 h3
  have x:=(AB.new w 4 sd ad ld cd ap np cp sk ak lk ck).below (below_alloc _ (.cells #[.int .i64 0,.bool false,.slice none 0 0,.slice none 0 0,.bool false,.slice none 0 0] 69))
  have y:=AB.new (w.alloc (.cells #[.int .i64 4,.bool sd,.slice ad ld cd,.slice ap np cp,.bool sk,.slice ak lk ck] 69)) 0 false none 0 0 none 0 0 false none 0 0
  rw[show(w.alloc (.cells #[.int .i64 4,.bool sd,.slice ad ld cd,.slice ap np cp,.bool sk,.slice ak lk ck] 69)).heap.size=w.heap.size+1 from by simp]at y
  have b0:Below w.heap.size w ((w.alloc (.cells #[.int .i64 4,.bool sd,.slice ad ld cd,.slice ap np cp,.bool sk,.slice ak lk ck] 69)).alloc (.cells #[.int .i64 0,.bool false,.slice none 0 0,.slice none 0 0,.bool false,.slice none 0 0] 69)):=below_alloc' (below_alloc _ _) _
  have HH:=hide (And.intro x (And.intro y (And.intro b0 (And.intro (hP.below b0) (And.intro (hd.below b0) (hk.below b0))))))
  clear x y b0
  go_enter Tryz.func82,Tryz.ntmps82
  go_wp2_with fail
  obtain⟨x,y,b0,hP,hd,hk⟩:=HH.out
  clear HH
  generalize (w.alloc (.cells #[.int .i64 4,.bool sd,.slice ad ld cd,.slice ap np cp,.bool sk,.slice ak lk ck] 69)).alloc (.cells #[.int .i64 0,.bool false,.slice none 0 0,.slice none 0 0,.bool false,.slice none 0 0] 69)=wb at*
  have hr:w.heap.size≤w.heap.size+1:=by omega
  generalize w.heap.size+1=r at*
  generalize hp:w.heap.size=p at*
  replace hp:=hide hp
  by_cases hd0:d=0
  ·subst hd0
   have hfm:Hid (formA 4 0 q0 k= .inr 11):=(show _=_ by unfold formA;rw[if_neg (by decide),if_neg (by decide),if_pos (by decide),if_pos rfl])
   refine(divi_0 hd o_m).mono ?_
   rintro e w1 ⟨hz,k1⟩
   unfold AZ at hz
   subst hz
   replace y:=y.below k1
   have e0:=y.c0
   have e1:=y.c1
   have e2:=y.c2
   have e3:=y.c3
   have e4:=y.c4
   have e5:=y.c5
   have f0:=y.f 0
   have f1:=y.f 1
   have f2:=y.f 2
   have f3:=y.f 3
   have f4:=y.f 4
   have f5:=y.f 5
   have g6:=ab_set w1 r (.int .i64 0) (.bool false) (.slice none 0 0) (.slice none 0 0) (.bool false) (.slice none 0 0)
   have kf:=hide (below_grown (grow_step k1 (show Below w.heap.size w wb from hp.out.symm▸b0)) g6 (by have:=hp.out;omega))
   replace hq0:=hide hq0
   replace hq1:=hide hq1
   clear g6 hP hd hk x b0 k1
   go_wp2
   refine bodyPost_ret (results_ct rfl _ _ r 69 _ (0,0) _ rfl (ab_fin y 0 false none 0 0 none 0 0 false none 0 0) Tryz.underlying69 rfl k_f) rfl ?_
   exact⟨q0,hq0.out,hq1.out,by rw[hfm.out];exact rfl,kf.out⟩
  refine(divi_n hd hld hP hk hlk hn hB (by decide) (by decide) hd0).mono ?_
  rintro e w1 ⟨qs,hS,hc,⟨sd1,ad1,ld1,cd1,ap1,np1,cp1,sk1,ak1,lk1,ck1,rfl,hz1,hlz1,hPn1,hnp1,hk1,hlk1,hnew1⟩,k1⟩
  have hfm:Hid (formA 4 d qs k= .inl (divF 4 d qs k)):=(show _=_ by unfold formA;rw[if_neg (by decide),if_neg (by decide),if_pos (by decide),if_neg hd0])
  generalize divF 4 d qs k=ff at*
  have hrl:=y.lt
  replace y:=y.below k1
  have e0:=y.c0
  have e1:=y.c1
  have e2:=y.c2
  have e3:=y.c3
  have e4:=y.c4
  have e5:=y.c5
  have f0:=y.f 0
  have f1:=y.f 1
  have f2:=y.f 2
  have f3:=y.f 3
  have f4:=y.f 4
  have f5:=y.f 5
  have g6:=ab_set w1 r (.int .i64 ff.kind) (.bool sd1) (.slice ad1 ld1 cd1) (.slice ap1 np1 cp1) (.bool sk1) (.slice ak1 lk1 ck1)
  have hPf:=hide (hPn1.away (fun b off e=>by have:=hnew1 b off e;omega) g6 (ab_noU y))
  have hzf:=hide (hk1.grownU g6 (ab_noU y))
  have hdf:=hide (hz1.grownU g6 (ab_noU y))
  have kf:=hide (below_grown (grow_step k1 (show Below w.heap.size w wb from hp.out.symm▸b0)) g6 (by have:=hp.out;omega))
  have hnw:Hid (∀b off,ap1=some ⟨b,off,none⟩→w.heap.size≤b):=(fun b off e=>by have h1:=hnew1 b off e;have h2:=hp.out;omega)
  replace hS:=hide hS
  replace hc:=hide hc
  clear g6 hPn1 hk1 hz1 hnew1 hP hd hk x b0 k1
  go_wp2
  refine bodyPost_ret (results_ct rfl _ _ r 69 _ (0,0) _ rfl (ab_fin y ff.kind sd1 ad1 ld1 cd1 ap1 np1 cp1 sk1 ak1 lk1 ck1) Tryz.underlying69 rfl k_f) rfl ?_
  refine⟨qs,hS.out,hc.out,?_,kf.out⟩
  rw[hfm.out]
  exact⟨sd1,ad1,ld1,cd1,ap1,np1,cp1,sk1,ak1,lk1,ck1,by simp,hdf.out,hlz1,hPf.out,hnp1,hzf.out,hlk1,hnw.out⟩
 have i0:(kd==0)=false:=by rw[beq_eq_false_iff_ne];exact h0
 have i1:(kd==1)=false:=by rw[beq_eq_false_iff_ne];exact h1
 have i2:(kd==2)=false:=by rw[beq_eq_false_iff_ne];exact h2
 have i3:(kd==3)=false:=by rw[beq_eq_false_iff_ne];exact h3
 have i4:(kd==4)=false:=by rw[beq_eq_false_iff_ne];exact h4
 have hfm:Hid (formA kd d q0 k= .inr 1):=(show _=_ by unfold formA;rw[if_neg o_m,if_neg h2,if_neg o_m])
 clear h0 h1 h2 h3 h4
 have y:=AB.new (w.alloc (.cells #[.int .i64 kd,.bool sd,.slice ad ld cd,.slice ap np cp,.bool sk,.slice ak lk ck] 69)) 0 false none 0 0 none 0 0 false none 0 0
 rw[show(w.alloc (.cells #[.int .i64 kd,.bool sd,.slice ad ld cd,.slice ap np cp,.bool sk,.slice ak lk ck] 69)).heap.size=w.heap.size+1 from by simp]at y
 have b0:Below w.heap.size w ((w.alloc (.cells #[.int .i64 kd,.bool sd,.slice ad ld cd,.slice ap np cp,.bool sk,.slice ak lk ck] 69)).alloc (.cells #[.int .i64 0,.bool false,.slice none 0 0,.slice none 0 0,.bool false,.slice none 0 0] 69)):=below_alloc' (below_alloc _ _) _
 have HH:=hide (And.intro y b0)
 clear y b0
 go_enter Tryz.func82,Tryz.ntmps82
 go_wp2
 obtain⟨y,b0⟩:=HH.out
 refine bodyPost_ret (results_ct rfl _ _ (w.heap.size+1) 69 _ (0,0) _ rfl y Tryz.underlying69 rfl k_f) rfl ?_
 exact⟨q0,hq0,hq1,by rw[hfm.out];rfl,b0⟩

theorem formA_er {qs:List (Int × Int)}{er:Int}(h:formA kd d qs k= .inr er):er=11∨er=1:=by
 unfold formA at h
 split at h
 ·cases h
 split at h
 ·cases h
 split at h
 ·split at h
  ·cases h;exact .inl rfl
  cases h
 cases h;exact .inr rfl

def A0v (e:Ending):Prop:=e= .returned (.agg #[.int .i64 0,.bool false,.slice none 0 0,.slice none 0 0,.bool false,.slice none 0 0])
theorem AB.neq {r:Nat}{t:Bool}{b:Option Addr}{m d:Nat}(h:AB w p kd s a l c ad n cp t b m d)(hg:w.grownBy w' (some r))(hne:p≠r):AB w' p kd s a l c ad n cp t b m d:=(hg.block p h.lt (by simpa using hne)).trans h
theorem TB.neq {r:Nat}(h:TB w p ad n cp s a l c)(hg:w.grownBy w' (some r))(hne:p≠r):TB w' p ad n cp s a l c:=(hg.block p h.lt (by simpa using hne)).trans h
theorem ab_put {k0:Int}{s0:Bool}{a0:Option Addr}{l0 c0:Nat}{ad0:Option Addr}{n0 cp0:Nat}{t0:Bool}{b0:Option Addr}{m0 d0:Nat}{sd1:Bool}{ad1:Option Addr}{ld1 cd1:Nat}{ap1:Option Addr}{np1:Nat}{sk1:Bool}{ak1:Option Addr}{lk1 ck1:Nat}{zd zk:Int}{qs:List (Int × Int)}
  (x:AB w p k0 s0 a0 l0 c0 ad0 n0 cp0 t0 b0 m0 d0)(hz:Zn w sd1 ad1 ld1 cd1 zd)(hP:Pn w ap1 np1 qs B)(hk:Zn w sk1 ak1 lk1 ck1 zk)(hb: ∀b off,ap1=some ⟨b,off,none⟩→b≠p)(fk:Int)(cp1:Nat):
  w.grownBy ((((((w.setCell ⟨p,0,none⟩ (.int .i64 fk)).setCell ⟨p,1,none⟩ (.bool sd1)).setCell ⟨p,2,none⟩ (.slice ad1 ld1 cd1)).setCell ⟨p,3,none⟩ (.slice ap1 np1 cp1)).setCell ⟨p,4,none⟩ (.bool sk1)).setCell ⟨p,5,none⟩ (.slice ak1 lk1 ck1)) (some p)∧AB ((((((w.setCell ⟨p,0,none⟩ (.int .i64 fk)).setCell ⟨p,1,none⟩ (.bool sd1)).setCell ⟨p,2,none⟩ (.slice ad1 ld1 cd1)).setCell ⟨p,3,none⟩ (.slice ap1 np1 cp1)).setCell ⟨p,4,none⟩ (.bool sk1)).setCell ⟨p,5,none⟩ (.slice ak1 lk1 ck1)) p fk sd1 ad1 ld1 cd1 ap1 np1 cp1 sk1 ak1 lk1 ck1∧Zn ((((((w.setCell ⟨p,0,none⟩ (.int .i64 fk)).setCell ⟨p,1,none⟩ (.bool sd1)).setCell ⟨p,2,none⟩ (.slice ad1 ld1 cd1)).setCell ⟨p,3,none⟩ (.slice ap1 np1 cp1)).setCell ⟨p,4,none⟩ (.bool sk1)).setCell ⟨p,5,none⟩ (.slice ak1 lk1 ck1)) sd1 ad1 ld1 cd1 zd∧Pn ((((((w.setCell ⟨p,0,none⟩ (.int .i64 fk)).setCell ⟨p,1,none⟩ (.bool sd1)).setCell ⟨p,2,none⟩ (.slice ad1 ld1 cd1)).setCell ⟨p,3,none⟩ (.slice ap1 np1 cp1)).setCell ⟨p,4,none⟩ (.bool sk1)).setCell ⟨p,5,none⟩ (.slice ak1 lk1 ck1)) ap1 np1 qs B∧Zn ((((((w.setCell ⟨p,0,none⟩ (.int .i64 fk)).setCell ⟨p,1,none⟩ (.bool sd1)).setCell ⟨p,2,none⟩ (.slice ad1 ld1 cd1)).setCell ⟨p,3,none⟩ (.slice ap1 np1 cp1)).setCell ⟨p,4,none⟩ (.bool sk1)).setCell ⟨p,5,none⟩ (.slice ak1 lk1 ck1)) sk1 ak1 lk1 ck1 zk:=by
 have g6:=ab_set w p (.int .i64 fk) (.bool sd1) (.slice ad1 ld1 cd1) (.slice ap1 np1 cp1) (.bool sk1) (.slice ak1 lk1 ck1)
 have hU:=ab_noU x
 exact⟨g6,ab_fin x fk sd1 ad1 ld1 cd1 ap1 np1 cp1 sk1 ak1 lk1 ck1,hz.grownU g6 hU,hP.away hb g6 hU,hk.grownU g6 hU⟩

theorem TN.new {rs:List Raw}(h:TN w w' ad n s a l c rs k B): ∀b off,ad=some ⟨b,off,none⟩→w.heap.size≤b:=by
 intro b off e
 obtain⟨w1,h1,h2,⟨h3,h4⟩,_⟩:=h
 rcases h4 with⟨h5,_⟩|⟨g,h5,hg,_⟩
 ·rw[h5]at e;cases e
 rw[h5]at e
 simp at e
 have:=h1.size
 omega

def PT (w:World)(e:Ending)(f:Atm ⊕ Int)(v:Int)(us:List (Int × Int))(uk:Int)(B B0:Nat):Prop:=match f with
 | .inl f=> ∃rs f',Std rs∧(∀u,csum rs u=csum (wo v f.ps++scl (csum f.ps v) us) u)∧formA f.kind f.d rs (f.k+csum f.ps v*uk)= .inl f'∧AW w e f' B B0
 | .inr _=>A0v e
theorem tb3_put {k0:Int}{sd1:Bool}{ad1:Option Addr}{ld1 cd1:Nat}{ap0:Option Addr}{np0 cp0:Nat}{sk0:Bool}{ak0:Option Addr}{lk0 ck0:Nat}(x:AB w p k0 sd1 ad1 ld1 cd1 ap0 np0 cp0 sk0 ak0 lk0 ck0)(ap1:Option Addr)(np1 cp1:Nat)(sk1:Bool)(ak1:Option Addr)(lk1 ck1:Nat):
  w.grownBy (((w.setCell ⟨p,3,none⟩ (.slice ap1 np1 cp1)).setCell ⟨p,4,none⟩ (.bool sk1)).setCell ⟨p,5,none⟩ (.slice ak1 lk1 ck1)) (some p)∧AB (((w.setCell ⟨p,3,none⟩ (.slice ap1 np1 cp1)).setCell ⟨p,4,none⟩ (.bool sk1)).setCell ⟨p,5,none⟩ (.slice ak1 lk1 ck1)) p k0 sd1 ad1 ld1 cd1 ap1 np1 cp1 sk1 ak1 lk1 ck1:=
 ⟨gb_trans (gb_trans (gb_set _ _ _ _) (gb_set _ _ _ _)) (gb_set _ _ _ _),heap_setCell_same _ p 5 _ _ _ (heap_setCell_same _ p 4 _ _ _ (heap_setCell_same _ p 3 _ _ _ x))⟩

theorem aput_n {ps:List (Int × Int)}{v:Int}{apu:Option Addr}{nu cpu:Nat}{su:Bool}{au:Option Addr}{lu cu:Nat}{us:List (Int × Int)}{uk:Int}
  (hd:Zm w sd ad ld cd d)(hld:ld≤B)(hP:Pr w ap np ps B)(hk:Zm w sk ak lk ck k)(hlk:lk≤B)(hv:I64 v)(hPu:Pr w apu nu us B)(hku:Zm w su au lu cu uk)(hlu:lu≤B)(hn:np+nu≤262144)(hB:2*B+6*(np+nu)+128≤4194000):
  Calls Tryz.prog 121 #[.agg #[.int .i64 kd,.bool sd,.slice ad ld cd,.slice ap np cp,.bool sk,.slice ak lk ck],.int .i64 v,.agg #[.slice apu nu cpu,.bool su,.slice au lu cu]] w fun e w'=> ∃qs,Std qs∧(∀v,csum qs v=csum ps v)∧PT w' e (formA kd d qs k) v us uk (2*B+6*(np+nu)+128) w.heap.size∧Below w.heap.size w w':=by
 go_enter Tryz.func121,Tryz.ntmps121
 go_wp2_with fail
 have x:=((AB.new w kd sd ad ld cd ap np cp sk ak lk ck).below (below_alloc _ (.cells #[.slice apu nu cpu,.bool su,.slice au lu cu] 47))).below (below_alloc _ (.cells #[.int .i64 0,.bool false,.slice none 0 0,.slice none 0 0,.bool false,.slice none 0 0] 69))
 have t:=(tb_new (w.alloc (.cells #[.int .i64 kd,.bool sd,.slice ad ld cd,.slice ap np cp,.bool sk,.slice ak lk ck] 69)) apu nu cpu su au lu cu).below (below_alloc _ (.cells #[.int .i64 0,.bool false,.slice none 0 0,.slice none 0 0,.bool false,.slice none 0 0] 69))
 have y:=AB.new ((w.alloc (.cells #[.int .i64 kd,.bool sd,.slice ad ld cd,.slice ap np cp,.bool sk,.slice ak lk ck] 69)).alloc (.cells #[.slice apu nu cpu,.bool su,.slice au lu cu] 47)) 0 false none 0 0 none 0 0 false none 0 0
 rw[show(w.alloc (.cells #[.int .i64 kd,.bool sd,.slice ad ld cd,.slice ap np cp,.bool sk,.slice ak lk ck] 69)).heap.size=w.heap.size+1 from by simp]at t
 rw[show((w.alloc (.cells #[.int .i64 kd,.bool sd,.slice ad ld cd,.slice ap np cp,.bool sk,.slice ak lk ck] 69)).alloc (.cells #[.slice apu nu cpu,.bool su,.slice au lu cu] 47)).heap.size=w.heap.size+1+1 from by simp]at y
 have b0:Below w.heap.size w (((w.alloc (.cells #[.int .i64 kd,.bool sd,.slice ad ld cd,.slice ap np cp,.bool sk,.slice ak lk ck] 69)).alloc (.cells #[.slice apu nu cpu,.bool su,.slice au lu cu] 47)).alloc (.cells #[.int .i64 0,.bool false,.slice none 0 0,.slice none 0 0,.bool false,.slice none 0 0] 69)):=below_alloc' (below_alloc' (below_alloc _ _) _) _
 generalize ((w.alloc (.cells #[.int .i64 kd,.bool sd,.slice ad ld cd,.slice ap np cp,.bool sk,.slice ak lk ck] 69)).alloc (.cells #[.slice apu nu cpu,.bool su,.slice au lu cu] 47)).alloc (.cells #[.int .i64 0,.bool false,.slice none 0 0,.slice none 0 0,.bool false,.slice none 0 0] 69)=wb at*
 have hPu0:=hide hPu
 have hku0:=hide hku
 replace hd:=hd.below b0
 replace hP:=hP.below b0
 replace hk:=hk.below b0
 clear hPu hku
 have hpq:w.heap.size<w.heap.size+1:=by omega
 have hqr:w.heap.size+1<w.heap.size+1+1:=by omega
 generalize w.heap.size+1+1=r at*
 generalize w.heap.size+1=q at*
 generalize hp:w.heap.size=p at*
 replace b0:Hid (Below w.heap.size w wb):=hp▸b0
 replace hp:=hide hp
 have hnps:=hP.1
 refine(anorm_n hd hld hP hk hlk o_m o_m).mono ?_
 rintro e w1 ⟨qs,hS,hc,hA,k1⟩
 have hrb:=y.lt
 replace x:=x.below k1
 replace y:=y.below k1
 replace t:=t.below k1
 have kk:=hide (grow_step k1 b0.out)
 clear hd hP hk k1
 have hpl:=x.lt
 have hql:=t.lt
 have hrl:=y.lt
 have hne1: ¬r=p:=by omega
 have hne2: ¬p=r:=by omega
 have hne3: ¬q=p:=by omega
 have hne4: ¬p=q:=by omega
 have hne5: ¬q=r:=by omega
 have hne6: ¬r=q:=by omega
 have hwp:w.heap.size≤p:=by have:=hp.out;omega
 have hwr:w.heap.size≤r:=by omega
 cases hf:formA kd d qs k with
 |inr er=>
  rw[hf]at hA
  have her:=formA_er hf
  have he:_=_:=hA
  subst he
  have g6:=ab_set w1 p (.int .i64 0) (.bool false) (.slice none 0 0) (.slice none 0 0) (.bool false) (.slice none 0 0)
  have y2:=y.neq g6 o_m
  have kf:=below_grown kk.out g6 hwp
  have hres:Hid (∃qs,Std qs∧(∀v,csum qs v=csum ps v)∧∀w',PT w' (.returned (.agg #[.int .i64 0,.bool false,.slice none 0 0,.slice none 0 0,.bool false,.slice none 0 0])) (formA kd d qs k) v us uk (2*B+6*(np+nu)+128) w.heap.size):=⟨qs,hS,hc,fun w'=>by rw[hf];rfl⟩
  have HH:=hide (And.intro y2 kf)
  have e0:=x.c0
  have e1:=x.c1
  have e2:=x.c2
  have e3:=x.c3
  have e4:=x.c4
  have e5:=x.c5
  have f0:=x.f 0
  have f1:=x.f 1
  have f2:=x.f 2
  have f3:=x.f 3
  have f4:=x.f 4
  have f5:=x.f 5
  have g0:=y.c0
  have g1:=y.c1
  have g2:=y.c2
  have g3:=y.c3
  have g4:=y.c4
  have g5:=y.c5
  have h0:=y.f 0
  have h1:=y.f 1
  have h2:=y.f 2
  have h3:=y.f 3
  have h4:=y.f 4
  have h5:=y.f 5
  clear hf hS hc hA kk g6 y2 kf x y t
  rcases her with rfl|rfl
  ·go_wp2
   refine bodyPost_ret (results_cell_row rfl _ _ r 69 _ (0,0) _ rfl (ab_fin HH.out.1 0 false none 0 0 none 0 0 false none 0 0) Tryz.underlying69 rfl k_f) rfl ?_
   obtain⟨q,h1,h2,h3⟩:=hres.out
   exact⟨q,h1,h2,by simpa using h3 _,below_grown HH.out.2 (ab_set _ _ _ _ _ _ _ _) hwr⟩
  go_wp2
  refine bodyPost_ret (results_cell_row rfl _ _ r 69 _ (0,0) _ rfl (ab_fin HH.out.1 0 false none 0 0 none 0 0 false none 0 0) Tryz.underlying69 rfl k_f) rfl ?_
  obtain⟨q,h1,h2,h3⟩:=hres.out
  exact⟨q,h1,h2,by simpa using h3 _,below_grown HH.out.2 (ab_set _ _ _ _ _ _ _ _) hwr⟩
 |inl f=>
  rw[hf]at hA
  have hfit:=formA_fit hS hf
  have hlen:f.ps.length≤np:=by have h1:=(formA_prt hS hf).1;have h2:=std_len hS hc;omega
  have hform:=fun qs k=>hfit.form qs k
  obtain⟨fk,fd,fps,fkk⟩:=f
  obtain⟨sd1,ad1,ld1,cd1,ap1,np1,cp1,sk1,ak1,lk1,ck1,rfl,hz1,hlz1,hPn1,hnp1,hk1,hlk1,hnew1⟩:=hA
  dsimp only at hz1 hPn1 hk1 hlen hform
  have hnp2:np1≤np:=by have:=hPn1.1;omega
  have hres:Hid (∀e w' rs f',Std rs→(∀u,csum rs u=csum (wo v fps++scl (csum fps v) us) u)→formA fk fd rs (fkk+csum fps v*uk)= .inl f'→AW w' e f' (2*B+6*(np+nu)+128) w.heap.size→∃qs,Std qs∧(∀v,csum qs v=csum ps v)∧PT w' e (formA kd d qs k) v us uk (2*B+6*(np+nu)+128) w.heap.size):=fun e w' rs f' h1 h2 h3 h4=>⟨qs,hS,hc,by rw[hf];exact⟨rs,f',h1,h2,h3,h4⟩⟩
  have hbp: ∀b off,ap1=some ⟨b,off,none⟩→b≠p:=fun b off e=>by have h1:=hnew1 b off e;omega
  obtain⟨g6,x2,hz2,hP2,hk2⟩:=ab_put x hz1 hPn1 hk1 hbp fk cp1
  have y2:=y.neq g6 o_m
  have t2:=t.neq g6 o_m
  have kf:=below_grown kk.out g6 hwp
  have u0:=t.c0
  have u1:=t.c1
  have u2:=t.c2
  have HH:=hide (And.intro x2 (And.intro y2 (And.intro t2 (And.intro hz2 (And.intro hP2 (And.intro hk2 kf))))))
  replace hform:=hide hform
  have e0:=x.c0
  have e1:=x.c1
  have e2:=x.c2
  have e3:=x.c3
  have e4:=x.c4
  have e5:=x.c5
  have f0:=x.f 0
  have f1:=x.f 1
  have f2:=x.f 2
  have f3:=x.f 3
  have f4:=x.f 4
  have f5:=x.f 5
  clear hf hS hc kk g6 y2 kf x y t t2 x2 hz2 hP2 hk2 hz1 hPn1 hk1 hnew1 hbp hfit
  go_wp2_with fail
  obtain⟨x2,y2,t2,hz2,hP2,hk2,kf⟩:=HH.out
  clear HH e0 e1 e2 e3 e4 e5 f0 f1 f2 f3 f4 f5 u0 u1 u2
  generalize ((((((w1.setCell ⟨p,0,none⟩ (.int .i64 fk)).setCell ⟨p,1,none⟩ (.bool sd1)).setCell ⟨p,2,none⟩ (.slice ad1 ld1 cd1)).setCell ⟨p,3,none⟩ (.slice ap1 np1 cp1)).setCell ⟨p,4,none⟩ (.bool sk1)).setCell ⟨p,5,none⟩ (.slice ak1 lk1 ck1))=w2 at*
  refine(tput_n (B:=B+np+16) hv hP2.pr hk2.zm hlk1 ((hPu0.out.below kf).mono o_m) (hku0.out.below kf) o_m o_m).mono ?_
  rintro e w3 ⟨ad3,n3,cp3,s3,a3,l3,c3,rs,rfl,hT,hn3,hStd,hcs⟩
  have k3:=hT.below
  have hs2:=x2.lt
  have hs3:=y2.lt
  have hnewT:=hT.new
  have x3:=x2.below k3
  have y3:=y2.below k3
  obtain⟨g3,x4⟩:=tb3_put x3 ad3 n3 cp3 s3 a3 l3 c3
  have hU:=ab_noU x3
  have hz4:=(hz2.below k3).grownU g3 hU
  have hP4:=hT.pn.away (fun b off e=>by have h9:=hnewT b off e;omega) g3 hU
  have hk4:=hT.zn.grownU g3 hU
  have hl4:=hT.le
  have y4:=y3.neq g3 o_m
  have kf4:=below_grown (grow_step k3 kf) g3 hwp
  have e0:=x3.c0
  have e1:=x3.c1
  have e2:=x3.c2
  have e3:=x3.c3
  have e4:=x3.c4
  have e5:=x3.c5
  have f3:=x3.f 3
  have f4:=x3.f 4
  have f5:=x3.f 5
  have HH:=hide (And.intro x4 (And.intro y4 (And.intro hz4 (And.intro hP4 (And.intro hk4 kf4)))))
  replace hStd:=hide hStd
  replace hcs:=hide hcs
  clear x2 y2 t2 hz2 hP2 hk2 kf hT k3 hnewT x3 y3 g3 x4 hU hz4 hP4 hk4 y4 kf4
  go_wp2_with fail
  obtain⟨x4,y4,hz4,hP4,hk4,kf4⟩:=HH.out
  clear HH e0 e1 e2 e3 e4 e5 f3 f4 f5
  generalize ((w3.setCell ⟨p,3,none⟩ (.slice ad3 n3 cp3)).setCell ⟨p,4,none⟩ (.bool s3)).setCell ⟨p,5,none⟩ (.slice a3 l3 c3)=w4 at*
  refine(anorm_n (B:=B+np+16+np1+(B+np+16+nu+1)+(np1+nu)+2) hz4.zm o_m hP4.pr hk4.zm hl4 o_m o_m).mono ?_
  rintro e w5 ⟨q5,hS5,hc5,hA5,k5⟩
  obtain⟨f',hf'⟩:=hform.out q5 (fkk+csum fps v*uk)
  rw[hf']at hA5
  have hdone:=hide (fun e w'=>hres.out e w' q5 f' hS5 (fun u=>(hc5 u).trans (hcs.out u)) hf')
  clear hres hform hf' hS5 hc5 hcs hStd
  obtain⟨sdL,adL,ldL,cdL,apL,npL,cpL,skL,akL,lkL,ckL,rfl,hzL,hlzL,hPnL,hnpL,hkL,hlkL,hnewL⟩:=hA5
  have hs4:=x4.lt
  have hs5:=y4.lt
  replace x4:=x4.below k5
  replace y4:=y4.below k5
  obtain⟨g5,x6,hz6,hP6,hk6⟩:=ab_put x4 hzL hPnL hkL (fun b off e=>by have h9:=hnewL b off e;omega) f'.kind cpL
  have y6:=y4.neq g5 o_m
  have kf6:=below_grown (grow_step k5 kf4) g5 hwp
  obtain⟨g7,y7,hz7,hP7,hk7⟩:=ab_put y6 hz6 hP6 hk6 (fun b off e=>by have h9:=hnewL b off e;omega) f'.kind cpL
  have kf7:=below_grown kf6 g7 hwr
  have hbw: ∀b off,apL=some ⟨b,off,none⟩→w.heap.size≤b:=fun b off e=>by have h9:=hnewL b off e;omega
  have hbd:ldL≤2*B+6*(np+nu)+128∧npL≤2*B+6*(np+nu)+128∧lkL≤2*B+6*(np+nu)+128∧B+np+16+np1+(B+np+16+nu+1)+(np1+nu)+2+n3+16≤2*B+6*(np+nu)+128:=by omega
  have HI:=hide (And.intro x6 y6)
  have HH:=hide (And.intro y7 (And.intro hz7 (And.intro hP7 (And.intro hk7 (And.intro hbw (And.intro kf7 hbd))))))
  have e0:=x4.c0
  have e1:=x4.c1
  have e2:=x4.c2
  have e3:=x4.c3
  have e4:=x4.c4
  have e5:=x4.c5
  have f0:=x4.f 0
  have f1:=x4.f 1
  have f2:=x4.f 2
  have f3:=x4.f 3
  have f4:=x4.f 4
  have f5:=x4.f 5
  have g0:=y4.c0
  have g1:=y4.c1
  have g2:=y4.c2
  have g3:=y4.c3
  have g4:=y4.c4
  have g5:=y4.c5
  have h0:=y4.f 0
  have h1:=y4.f 1
  have h2:=y4.f 2
  have h3:=y4.f 3
  have h4:=y4.f 4
  have h5:=y4.f 5
  clear x4 y4 hz4 hP4 hk4 kf4 hzL hPnL hkL hnewL k5 g5 x6 hz6 hP6 hk6 y6 kf6 g7 y7 hz7 hP7 hk7 kf7 hbw hbd hld hlk hlu hn hB hlz1 hnp1 hlk1 hnp2 hlen hn3 hl4 hlzL hnpL hlkL hs2 hs3 hs4 hs5 hnps hrb hpl hql hrl hpq hqr hwp hwr hp b0 hPu0 hku0 hv
  iterate 19 (first|go_skip|go_guarded|go_step|go_upon|go_simp)
  obtain⟨x6,y6⟩:=HI.out
  clear HI e0 e1 e2 e3 e4 e5 f0 f1 f2 f3 f4 f5 g0 g1 g2 g3 g4 g5 h0 h1 h2 h3 h4 h5
  generalize ((((((w5.setCell ⟨p,0,none⟩ (.int .i64 f'.kind)).setCell ⟨p,1,none⟩ (.bool sdL)).setCell ⟨p,2,none⟩ (.slice adL ldL cdL)).setCell ⟨p,3,none⟩ (.slice apL npL cpL)).setCell ⟨p,4,none⟩ (.bool skL)).setCell ⟨p,5,none⟩ (.slice akL lkL ckL))=w6 at*
  have e0:=x6.c0
  have e1:=x6.c1
  have e2:=x6.c2
  have e3:=x6.c3
  have e4:=x6.c4
  have e5:=x6.c5
  have g0:=y6.c0
  have g1:=y6.c1
  have g2:=y6.c2
  have g3:=y6.c3
  have g4:=y6.c4
  have g5:=y6.c5
  have h0:=y6.f 0
  have h1:=y6.f 1
  have h2:=y6.f 2
  have h3:=y6.f 3
  have h4:=y6.f 4
  have h5:=y6.f 5
  clear x6 y6
  go_wp2
  obtain⟨y4,hz4,hP4,hk4,hbw,kf4,hb1,hb2,hb3,hb4⟩:=HH.out
  refine bodyPost_ret (results_cell_row rfl _ _ r 69 _ (0,0) _ rfl y4 Tryz.underlying69 rfl k_f) rfl ?_
  obtain⟨q,h1,h2,h3⟩:=hdone.out (.returned (.agg #[.int .i64 f'.kind,.bool sdL,.slice adL ldL cdL,.slice apL npL cpL,.bool skL,.slice akL lkL ckL])) _ ⟨sdL,adL,ldL,cdL,apL,npL,cpL,skL,akL,lkL,ckL,rfl,hz4,hb1,hP4.mono hb4,hb2,hk4,hb3,hbw⟩
  exact⟨q,h1,h2,by first|exact h3|simpa using h3,kf4⟩
end Go.Proofs.YtllfelooahplhaaGreatDoor
