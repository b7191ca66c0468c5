/-
 Layer 2: the reference's DivMod.
-/
import Derived.Test.YtaafoppaepcaeaaGreatCd09
import Derived.Test.YtaafoppaepcaeaaGreatCd12
import Derived.Deep.DeepCutAuto
namespace Go.Proofs.YtaafoppaepcaeaaGreat
open Go.RowKit

variable {a1 a2 a3:Option Addr}{l1 c1 l2 c2 p1 p2 p3 l3 c3:Nat}{wb w':World}{s1 s2 s3:Bool}
theorem fd_rest {a b q r:Int}(h:FD a b q r):FD a b q (a-q*b):=by
 have e:a-q*b=r:=by have:=h.1;omega
 rw[e];exact h
theorem rdm_n {m n:Int}{w:World}(h1:Nm w a1 l1 c1 m)(h2:Nm w a2 l2 c2 n)(hl1:l1≤17179869184)(hl2:l2≤17179869184)(hn:0<n):
  Calls Tryz.prog 150 #[.slice a1 l1 c1,.slice a2 l2 c2] w fun e w'=> ∃aq lq cq ar lr cr,e= .returned (.tuple #[.slice aq lq cq,.slice ar lr cr])∧Cn w' aq lq cq (m / n)∧Cn w' ar lr cr (m%n)∧Below w.heap.size w w'∧lq≤l1∧lr≤l2:=by
 obtain⟨xs,h1,rfl⟩:=h1
 obtain⟨ys,h2,rfl⟩:=h2
 exact refdivmod_any h1 h2 hl1 hl2 hn

theorem zc3 (x1:ZB wb p1 s1 a1 l1 c1)(x2:ZB wb p2 s2 a2 l2 c2)(x3:ZB wb p3 s3 a3 l3 c3)(k:Below wb.heap.size wb w'):
  w'.cell? ⟨p1,0,none⟩=some (.bool s1)∧w'.cell? ⟨p1,1,none⟩=some (.slice a1 l1 c1)∧w'.cell? ⟨p2,0,none⟩=some (.bool s2)∧w'.cell? ⟨p2,1,none⟩=some (.slice a2 l2 c2)∧w'.cell? ⟨p3,0,none⟩=some (.bool s3)∧w'.cell? ⟨p3,1,none⟩=some (.slice a3 l3 c3):=
 ⟨(x1.below k).c0,(x1.below k).c1,(x2.below k).c0,(x2.below k).c1,(x3.below k).c0,(x3.below k).c1⟩
theorem zc3r {r:Nat}{v v':Value}(x1:ZB wb p1 s1 a1 l1 c1)(x2:ZB wb p2 s2 a2 l2 c2)(x3:ZB wb p3 s3 a3 l3 c3)(h1:p1≠r)(h2:p2≠r)(h3:p3≠r)(k:Below wb.heap.size wb w'):
  ((w'.setCell ⟨r,0,none⟩ v).setCell ⟨r,1,none⟩ v').cell? ⟨p1,0,none⟩=some (.bool s1)∧((w'.setCell ⟨r,0,none⟩ v).setCell ⟨r,1,none⟩ v').cell? ⟨p1,1,none⟩=some (.slice a1 l1 c1)∧((w'.setCell ⟨r,0,none⟩ v).setCell ⟨r,1,none⟩ v').cell? ⟨p2,0,none⟩=some (.bool s2)∧((w'.setCell ⟨r,0,none⟩ v).setCell ⟨r,1,none⟩ v').cell? ⟨p2,1,none⟩=some (.slice a2 l2 c2)∧((w'.setCell ⟨r,0,none⟩ v).setCell ⟨r,1,none⟩ v').cell? ⟨p3,0,none⟩=some (.bool s3)∧((w'.setCell ⟨r,0,none⟩ v).setCell ⟨r,1,none⟩ v').cell? ⟨p3,1,none⟩=some (.slice a3 l3 c3):=by
 have y1:=(x1.below k).only (only2 r w' v v') h1
 have y2:=(x2.below k).only (only2 r w' v v') h2
 have y3:=(x3.below k).only (only2 r w' v v') h3
 exact⟨y1.c0,y1.c1,y2.c0,y2.c1,y3.c0,y3.c1⟩
theorem zc3t {r t:Nat}{v v' u u':Value}(x1:ZB wb p1 s1 a1 l1 c1)(x2:ZB wb p2 s2 a2 l2 c2)(x3:ZB wb p3 s3 a3 l3 c3)(h1:p1≠r)(h2:p2≠r)(h3:p3≠r)(g1:p1≠t)(g2:p2≠t)(g3:p3≠t)(k:Below wb.heap.size wb w'):
  ((((w'.setCell ⟨r,0,none⟩ v).setCell ⟨r,1,none⟩ v').setCell ⟨t,0,none⟩ u).setCell ⟨t,1,none⟩ u').cell? ⟨p1,0,none⟩=some (.bool s1)∧((((w'.setCell ⟨r,0,none⟩ v).setCell ⟨r,1,none⟩ v').setCell ⟨t,0,none⟩ u).setCell ⟨t,1,none⟩ u').cell? ⟨p1,1,none⟩=some (.slice a1 l1 c1)∧((((w'.setCell ⟨r,0,none⟩ v).setCell ⟨r,1,none⟩ v').setCell ⟨t,0,none⟩ u).setCell ⟨t,1,none⟩ u').cell? ⟨p2,0,none⟩=some (.bool s2)∧((((w'.setCell ⟨r,0,none⟩ v).setCell ⟨r,1,none⟩ v').setCell ⟨t,0,none⟩ u).setCell ⟨t,1,none⟩ u').cell? ⟨p2,1,none⟩=some (.slice a2 l2 c2)∧((((w'.setCell ⟨r,0,none⟩ v).setCell ⟨r,1,none⟩ v').setCell ⟨t,0,none⟩ u).setCell ⟨t,1,none⟩ u').cell? ⟨p3,0,none⟩=some (.bool s3)∧((((w'.setCell ⟨r,0,none⟩ v).setCell ⟨r,1,none⟩ v').setCell ⟨t,0,none⟩ u).setCell ⟨t,1,none⟩ u').cell? ⟨p3,1,none⟩=some (.slice a3 l3 c3):=by
 have y1:=((x1.below k).only (only2 r w' v v') h1).only (only2 t _ u u') g1
 have y2:=((x2.below k).only (only2 r w' v v') h2).only (only2 t _ u u') g2
 have y3:=((x3.below k).only (only2 r w' v v') h3).only (only2 t _ u u') g3
 exact⟨y1.c0,y1.c1,y2.c0,y2.c1,y3.c0,y3.c1⟩

set_option maxRecDepth 100000 in
set_option maxHeartbeats 1600000 in
theorem rdivmod_n {z1 z2:Int}{w:World}(h1:Zm w s1 a1 l1 c1 z1)(h2:Zm w s2 a2 l2 c2 z2)(hl1:l1≤4294967296)(hl2:l2≤4294967296)(hz:z2≠0):
  Calls Tryz.prog 133 #[.agg #[.bool s1,.slice a1 l1 c1],.agg #[.bool s2,.slice a2 l2 c2]] w fun e w'=> ∃sq aq lq cq sr ar lr cr qv rv,e= .returned (.tuple #[.agg #[.bool sq,.slice aq lq cq],.agg #[.bool sr,.slice ar lr cr],.int .i64 0])∧Zn w' sq aq lq cq qv∧Zn w' sr ar lr cr rv∧FD z1 z2 qv rv∧Below w.heap.size w w'∧lq≤l1+3∧lr≤l1+l2+5:=by
 have hm:=h1
 have hn:=h2
 clear h1 h2
 go_enter Tryz.func133,Tryz.ntmps133
 go_wp2_with fail
 have x:=(zb_new w s1 a1 l1 c1).below (below_alloc' (below_alloc' (below_alloc _ (.cells #[.bool s2,.slice a2 l2 c2] 38)) (.cells #[.bool false,.slice none 0 0] 38)) (.cells #[.bool false,.slice none 0 0] 38))
 have x2:=(zb_new (w.alloc (.cells #[.bool s1,.slice a1 l1 c1] 38)) s2 a2 l2 c2).below (below_alloc' (below_alloc _ (.cells #[.bool false,.slice none 0 0] 38)) (.cells #[.bool false,.slice none 0 0] 38))
 have y:=(zb_new ((w.alloc (.cells #[.bool s1,.slice a1 l1 c1] 38)).alloc (.cells #[.bool s2,.slice a2 l2 c2] 38)) false none 0 0).below (below_alloc _ (.cells #[.bool false,.slice none 0 0] 38))
 have yt:=zb_new (((w.alloc (.cells #[.bool s1,.slice a1 l1 c1] 38)).alloc (.cells #[.bool s2,.slice a2 l2 c2] 38)).alloc (.cells #[.bool false,.slice none 0 0] 38)) false none 0 0
 have b0:Below w.heap.size w ((((w.alloc (.cells #[.bool s1,.slice a1 l1 c1] 38)).alloc (.cells #[.bool s2,.slice a2 l2 c2] 38)).alloc (.cells #[.bool false,.slice none 0 0] 38)).alloc (.cells #[.bool false,.slice none 0 0] 38)):=below_alloc' (below_alloc' (below_alloc' (below_alloc _ _) _) _) _
 rw[show(((w.alloc (.cells #[.bool s1,.slice a1 l1 c1] 38)).alloc (.cells #[.bool s2,.slice a2 l2 c2] 38)).alloc (.cells #[.bool false,.slice none 0 0] 38)).heap.size=w.heap.size+3 from by simp]at yt
 rw[show((w.alloc (.cells #[.bool s1,.slice a1 l1 c1] 38)).alloc (.cells #[.bool s2,.slice a2 l2 c2] 38)).heap.size=w.heap.size+2 from by simp]at y
 rw[show(w.alloc (.cells #[.bool s1,.slice a1 l1 c1] 38)).heap.size=w.heap.size+1 from by simp]at x2
 generalize (((w.alloc (.cells #[.bool s1,.slice a1 l1 c1] 38)).alloc (.cells #[.bool s2,.slice a2 l2 c2] 38)).alloc (.cells #[.bool false,.slice none 0 0] 38)).alloc (.cells #[.bool false,.slice none 0 0] 38)=wb at*
 have hpr:w.heap.size<w.heap.size+2:=by omega
 have hqr:w.heap.size+1<w.heap.size+2:=by omega
 have hrt:w.heap.size+2<w.heap.size+3:=by omega
 replace hm:=hm.below b0
 replace hn:=hn.below b0
 generalize hp:w.heap.size=p at*
 replace hp:=hide hp
 generalize p+3=t at*
 generalize p+2=r at*
 generalize p+1=q at*
 have hrb:=Nat.le_of_lt y.lt
 refine(rsign_n hn o_m).mono ?_
 rintro e w1 ⟨rfl,k1⟩
 have hv7:=cmpI_ne hz
 have hb7:=cmpI_bd z2 0
 generalize cmpI z2 0=v7 at*
 replace b0:=b0.trans (k1.mono (Nat.le_of_lt x.lt))
 replace x:=x.below k1
 replace x2:=x2.below k1
 replace y:=y.below k1
 replace yt:=yt.below k1
 replace hm:=hm.below k1
 replace hn:=hn.below k1
 go_upto_region 4 with(fail)
 have u0:=x.c0
 have u1:=x.c1
 go_wp2_with fail
 refine(rnorm_n hm o_m).mono ?_
 rintro e w2 ⟨sx,ax,lx,cx,rfl,nx,k2,hlx⟩
 replace b0:=b0.trans (k2.mono (Nat.le_of_lt x.lt))
 clear u0 u1
 replace x:=x.below k2
 replace x2:=x2.below k2
 replace y:=y.below k2
 replace yt:=yt.below k2
 replace hn:=hn.below k2
 clear hm
 go_upto_region 5 with(fail)
 have x8:=zb_new w2 sx ax lx cx
 have k3:=below_alloc w2 (.cells #[.bool sx,.slice ax lx cx] 38)
 replace b0:=b0.trans (k3.mono (Nat.le_of_lt x.lt))
 have g1:r≠w2.heap.size:=Nat.ne_of_lt y.lt
 have g2:t≠w2.heap.size:=Nat.ne_of_lt yt.lt
 replace x:=x.below k3
 replace x2:=x2.below k3
 replace y:=y.below k3
 replace yt:=yt.below k3
 replace hn:=hn.below k3
 replace nx:=nx.below k3
 generalize w2.alloc (.cells #[.bool sx,.slice ax lx cx] 38)=w3 at*
 generalize w2.heap.size=p8 at*
 clear k3
 have u0:=x2.c0
 have u1:=x2.c1
 go_wp2_with fail
 refine(rnorm_n hn o_m).mono ?_
 rintro e w4 ⟨sy,ay,ly,cy,rfl,ny,k4,hly⟩
 replace b0:=b0.trans (k4.mono (Nat.le_of_lt x.lt))
 clear u0 u1
 replace x:=x.below k4
 replace y:=y.below k4
 replace yt:=yt.below k4
 replace x8:=x8.below k4
 replace nx:=nx.below k4
 clear hn x2
 go_upto_region 6 with(fail)
 have x9:=zb_new w4 sy ay ly cy
 have k5:=below_alloc w4 (.cells #[.bool sy,.slice ay ly cy] 38)
 replace b0:=b0.trans (k5.mono (Nat.le_of_lt x.lt))
 have g3:r≠w4.heap.size:=Nat.ne_of_lt y.lt
 have g4:t≠w4.heap.size:=Nat.ne_of_lt yt.lt
 replace x:=x.below k5
 replace y:=y.below k5
 replace yt:=yt.below k5
 replace x8:=x8.below k5
 replace nx:=nx.below k5
 replace ny:=ny.below k5
 generalize w4.alloc (.cells #[.bool sy,.slice ay ly cy] 38)=w5 at*
 generalize w4.heap.size=p9 at*
 clear k5
 have nx':=nx
 have ny':=ny
 obtain⟨M,hcM,e1,hs1⟩:=nx'
 obtain⟨N,hcN,e2,hs2⟩:=ny'
 have hN0:0<N:=by
  have:=hcN.nm.nonneg
  have:N≠0:=fun h=>hz (by rw[e2,h];cases sy <;> simp[sg])
  omega
 have u1:=x8.c1
 have u3:=x9.c1
 go_wp2_with fail
 refine(rdm_n hcM.nm hcN.nm o_m o_m hN0).mono ?_
 rintro e w6 ⟨am,lm,cm,an,ln,cn,rfl,hcm,hcn,k6,hlm,hln⟩
 replace b0:=b0.trans (k6.mono (Nat.le_of_lt x.lt))
 clear u1 u3 hcM hcN
 replace x:=x.below k6
 replace y:=y.below k6
 replace yt:=yt.below k6
 replace x8:=x8.below k6
 replace x9:=x9.below k6
 replace nx:=nx.below k6
 replace ny:=ny.below k6
 clear k6
 go_upto_region 7 with(fail)
 have u0:=x8.c0
 have u2:=x9.c0
 go_wp2_with fail
 refine(rnorm_n (zm_of hcm.nm) o_m).mono ?_
 rintro e w7 ⟨sq,aq,lq,cq,rfl,nq,k7,hlq⟩
 replace b0:=b0.trans (k7.mono (Nat.le_of_lt x.lt))
 clear u0 u2 hcm
 replace x:=x.below k7
 replace y:=y.below k7
 replace yt:=yt.below k7
 replace x8:=x8.below k7
 replace x9:=x9.below k7
 replace nx:=nx.below k7
 replace ny:=ny.below k7
 replace hcn:=hcn.below k7
 clear k7
 go_upto_region 8 with(fail)
 have x12:=zb_new w7 sq aq lq cq
 have k8:=below_alloc w7 (.cells #[.bool sq,.slice aq lq cq] 38)
 replace b0:=b0.trans (k8.mono (Nat.le_of_lt x.lt))
 have g5:r≠w7.heap.size:=Nat.ne_of_lt y.lt
 have g6:t≠w7.heap.size:=Nat.ne_of_lt yt.lt
 have g7:p8≠w7.heap.size:=Nat.ne_of_lt x8.lt
 have g8:p9≠w7.heap.size:=Nat.ne_of_lt x9.lt
 have g9:p<w7.heap.size:=x.lt
 have hrt':r≠t:=by omega
 replace x:=x.below k8
 replace y:=y.below k8
 replace yt:=yt.below k8
 replace x8:=x8.below k8
 replace x9:=x9.below k8
 replace nx:=nx.below k8
 replace ny:=ny.below k8
 replace nq:=nq.below k8
 replace hcn:=hcn.below k8
 generalize w7.alloc (.cells #[.bool sq,.slice aq lq cq] 38)=w8 at*
 generalize w7.heap.size=p12 at*
 clear k8
 have u0:=x8.c0
 have u2:=x9.c0
 by_cases hs:sx=sy
 ·have hs':(sx==sy)=true:=by simp[hs]
  have HF:FD z1 z2 (M / N) (sg sy (M%N)):=by rw[e1,e2,hs];exact fd_same hN0
  rw[hs',show sg (!true) (M / N)=M / N from rfl]at nq
  clear hs hcn
  go_wp2_with fail
  clear u0 u2
  have HFD:=fd_rest HF
  go_region_held3 (fun w'=>w'.cell? ⟨p8,0,none⟩=some (.bool sx)∧w'.cell? ⟨p8,1,none⟩=some (.slice ax lx cx)∧w'.cell? ⟨p9,0,none⟩=some (.bool sy)∧w'.cell? ⟨p9,1,none⟩=some (.slice ay ly cy)∧w'.cell? ⟨p12,0,none⟩=some (.bool sq)∧w'.cell? ⟨p12,1,none⟩=some (.slice aq lq cq))
   (first|(refine zc3 x8 x9 x12 ?_;focus ((with_reducible repeat' first|exact Below.refl _ _|assumption|refine grow_step (by assumption) ?_|refine grow_drew ?_|refine grow_alloc ?_ _|refine grow_drewN ?_ _);done))|(refine zc3r x8 x9 x12 (Ne.symm g1) (Ne.symm g3) (Ne.symm g5) ?_;focus ((with_reducible repeat' first|exact Below.refl _ _|assumption|refine grow_step (by assumption) ?_|refine grow_drew ?_|refine grow_alloc ?_ _|refine grow_drewN ?_ _);done))|(refine zc3t x8 x9 x12 (Ne.symm g1) (Ne.symm g3) (Ne.symm g5) (Ne.symm g2) (Ne.symm g4) (Ne.symm g6) ?_;focus ((with_reducible repeat' first|exact Below.refl _ _|assumption|refine grow_step (by assumption) ?_|refine grow_drew ?_|refine grow_alloc ?_ _|refine grow_drewN ?_ _);done)))
   (first|(go_at_call 116;with_reducible refine(rmul2_n (Zn.zm (Zn.below nq gw)) (Zn.zm (Zn.below ny gw)) (by omega) (by omega)).mono ?_;rintro e wA ⟨sM,aM,lM,cM,rfl,nM,hg,hlM⟩)|(go_at_call 53;with_reducible refine(rsub2_n (Zn.zm (Zn.below nx gw)) (Zn.zm (Zn.below nM gw)) (by omega) (by omega)).mono ?_;rintro e w' ⟨sr,ar,lr,cr,rfl,nr,hg',hlr⟩;have y':ZB w' r false none 0 0:=ZB.below y gw;have y0:=y'.c0;have y1:=y'.c1;have y2:=y'.f 0;have y3:=y'.f 1;have yt':ZB w' t false none 0 0:=ZB.below yt gw;have t0:=yt'.c0;have t1:=yt'.c1;have t2:=yt'.f 0;have t3:=yt'.f 1;have nq':=Zn.below nq (show Below _ _ w' from gw);have kB:=show Below w8.heap.size w8 w' from gw))
  have hB:Below p w w':=b0.trans (kB.mono (Nat.le_of_lt x.lt))
  go_wp2
  have y4:=zb_fin y' sq aq lq cq
  have t4:=zb_fin (yt'.only (only2 r w' (.bool sq) (.slice aq lq cq)) (Ne.symm hrt')) sr ar lr cr
  refine bodyPost_ret (results_c2t rfl _ _ r t 38 _ _ (0,0) _ rfl rfl (y4.only (only2 t _ _ _) hrt') t4 Tryz.underlying38 rfl k_f k_f) rfl ?_
  have zq:=zb_zn (yt'.only (only2 r w' (.bool sq) (.slice aq lq cq)) (Ne.symm hrt')) (zb_zn y' nq' sq aq lq cq) sr ar lr cr
  have zr:=zb_zn (yt'.only (only2 r w' (.bool sq) (.slice aq lq cq)) (Ne.symm hrt')) (zb_zn y' nr sq aq lq cq) sr ar lr cr
  exact⟨sq,aq,lq,cq,sr,ar,lr,cr,_,_,by simp,zq,zr,HFD,hp.out.symm▸(((hB.setCell (Nat.le_of_lt hpr) _).setCell (Nat.le_of_lt hpr) _).setCell (by show p≤t;omega) _).setCell (by show p≤t;omega) _,by omega,by omega⟩
 have hs':(sx==sy)=false:=by simp[hs]
 rw[hs',show sg (!false) (M / N)=sg true (M / N) from rfl]at nq
 go_wp2_with fail
 refine(trim_n hcn.nm o_m).mono ?_
 rintro e w9 ⟨aT,lT,cT,rfl,hcT,k9,-⟩
 have hT:=hcT.len
 replace b0:=b0.trans (k9.mono (Nat.le_of_lt x.lt))
 clear u0 u2 hcT hcn
 replace x:=x.below k9
 replace y:=y.below k9
 replace yt:=yt.below k9
 replace x8:=x8.below k9
 replace x9:=x9.below k9
 replace x12:=x12.below k9
 replace nx:=nx.below k9
 replace ny:=ny.below k9
 replace nq:=nq.below k9
 clear k9
 by_cases hr0:M%N=0
 ·obtain rfl:lT=0:=hT.1 hr0
  have HF:FD z1 z2 (sg true (M / N)) (sg sy (M%N)):=by rw[e1,e2];exact fd_zero hs hN0 hr0
  clear hs
  go_wp2_with fail
  have HFD:=fd_rest HF
  go_region_held3 (fun w'=>w'.cell? ⟨p8,0,none⟩=some (.bool sx)∧w'.cell? ⟨p8,1,none⟩=some (.slice ax lx cx)∧w'.cell? ⟨p9,0,none⟩=some (.bool sy)∧w'.cell? ⟨p9,1,none⟩=some (.slice ay ly cy)∧w'.cell? ⟨p12,0,none⟩=some (.bool sq)∧w'.cell? ⟨p12,1,none⟩=some (.slice aq lq cq))
   (first|(refine zc3 x8 x9 x12 ?_;focus ((with_reducible repeat' first|exact Below.refl _ _|assumption|refine grow_step (by assumption) ?_|refine grow_drew ?_|refine grow_alloc ?_ _|refine grow_drewN ?_ _);done))|(refine zc3r x8 x9 x12 (Ne.symm g1) (Ne.symm g3) (Ne.symm g5) ?_;focus ((with_reducible repeat' first|exact Below.refl _ _|assumption|refine grow_step (by assumption) ?_|refine grow_drew ?_|refine grow_alloc ?_ _|refine grow_drewN ?_ _);done))|(refine zc3t x8 x9 x12 (Ne.symm g1) (Ne.symm g3) (Ne.symm g5) (Ne.symm g2) (Ne.symm g4) (Ne.symm g6) ?_;focus ((with_reducible repeat' first|exact Below.refl _ _|assumption|refine grow_step (by assumption) ?_|refine grow_drew ?_|refine grow_alloc ?_ _|refine grow_drewN ?_ _);done)))
   (first|(go_at_call 116;with_reducible refine(rmul2_n (Zn.zm (Zn.below nq gw)) (Zn.zm (Zn.below ny gw)) (by omega) (by omega)).mono ?_;rintro e wA ⟨sM,aM,lM,cM,rfl,nM,hg,hlM⟩)|(go_at_call 53;with_reducible refine(rsub2_n (Zn.zm (Zn.below nx gw)) (Zn.zm (Zn.below nM gw)) (by omega) (by omega)).mono ?_;rintro e w' ⟨sr,ar,lr,cr,rfl,nr,hg',hlr⟩;have y':ZB w' r false none 0 0:=ZB.below y gw;have y0:=y'.c0;have y1:=y'.c1;have y2:=y'.f 0;have y3:=y'.f 1;have yt':ZB w' t false none 0 0:=ZB.below yt gw;have t0:=yt'.c0;have t1:=yt'.c1;have t2:=yt'.f 0;have t3:=yt'.f 1;have nq':=Zn.below nq (show Below _ _ w' from gw);have kB:=show Below w9.heap.size w9 w' from gw))
  have hB:Below p w w':=b0.trans (kB.mono (Nat.le_of_lt x.lt))
  go_wp2
  have y4:=zb_fin y' sq aq lq cq
  have t4:=zb_fin (yt'.only (only2 r w' (.bool sq) (.slice aq lq cq)) (Ne.symm hrt')) sr ar lr cr
  refine bodyPost_ret (results_c2t rfl _ _ r t 38 _ _ (0,0) _ rfl rfl (y4.only (only2 t _ _ _) hrt') t4 Tryz.underlying38 rfl k_f k_f) rfl ?_
  have zq:=zb_zn (yt'.only (only2 r w' (.bool sq) (.slice aq lq cq)) (Ne.symm hrt')) (zb_zn y' nq' sq aq lq cq) sr ar lr cr
  have zr:=zb_zn (yt'.only (only2 r w' (.bool sq) (.slice aq lq cq)) (Ne.symm hrt')) (zb_zn y' nr sq aq lq cq) sr ar lr cr
  exact⟨sq,aq,lq,cq,sr,ar,lr,cr,_,_,by simp,zq,zr,HFD,hp.out.symm▸(((hB.setCell (Nat.le_of_lt hpr) _).setCell (Nat.le_of_lt hpr) _).setCell (by show p≤t;omega) _).setCell (by show p≤t;omega) _,by omega,by omega⟩
 have hT0:0<lT:=Nat.pos_of_ne_zero (fun h=>hr0 (hT.2 h))
 have HF:FD z1 z2 (sg true (M / N)-1) (sg sy (N-M%N)):=by
  rw[e1,e2,show sg true (M / N)-1=sg true (M / N+1) from by show -(M / N)-1= -(M / N+1);omega]
  exact fd_up hs hN0 hr0
 clear hs hr0 hT
 have u0:=x12.c0
 have u1:=x12.c1
 have HL:lq≤17179869184:=by omega
 go_wp2_with fail
 go_region_with (first|(go_at_call 33;with_reducible refine(rof_n 1 (by decide) (by decide) _).mono ?_;rintro e wA ⟨s5,a5,l5,c5,rfl,z5,hg,hl5⟩;have K9:=(show Below w9.heap.size w9 wA from gw);have HL5:l5≤17179869184:=(by omega);have v0:=(ZB.below x12 K9).c0;have v1:=(ZB.below x12 K9).c1)|(go_at_call 53;refine(rsub2_n (Zn.zm (Zn.below nq K9)) (Zn.zm z5) HL HL5).mono ?_;rintro e wB ⟨sQ,aQ,lQ,cQ,rfl,nQ,hg',hlQ⟩;have kB:=grow_step hg' K9;have xB:=ZB.below x12 kB;have y0:=xB.c0;have y1:=xB.c1;have y2:=xB.f 0;have y3:=xB.f 1))
 all_goals (
  have o:=only2 p12 wB (.bool sQ) (.slice aQ lQ cQ)
  have b1:=b0.trans (kB.mono (Nat.le_of_lt x.lt))
  have b2:=(b1.setCell (p:=⟨p12,0,none⟩) (Nat.le_of_lt g9) (.bool sQ)).setCell (p:=⟨p12,1,none⟩) (Nat.le_of_lt g9) (.slice aQ lQ cQ)
  have X:=(x.below kB).only o (Nat.ne_of_lt g9)
  have Y:=(y.below kB).only o g5
  have YT:=(yt.below kB).only o g6
  have X8:=(x8.below kB).only o g7
  have X9:=(x9.below kB).only o g8
  have NX:=zb_zn xB (nx.below kB) sQ aQ lQ cQ
  have NY:=zb_zn xB (ny.below kB) sQ aQ lQ cQ
  have NQ:=zb_zn xB nQ sQ aQ lQ cQ
  have X12:=zb_fin xB sQ aQ lQ cQ
  generalize (wB.setCell ⟨p12,0,none⟩ (.bool sQ)).setCell ⟨p12,1,none⟩ (.slice aQ lQ cQ)=wQ at*
  clear b0 b1 x y yt x8 x9 x12 nx ny nq nQ u0 u1 v0 v1 y0 y1 y2 y3 o xB
  have b0:=b2
  have x:=X
  have y:=Y
  have yt:=YT
  have x8:=X8
  have x9:=X9
  have x12:=X12
  have nx:=NX
  have ny:=NY
  have nq:=NQ
  clear b2 X Y YT X8 X9 X12 NX NY NQ
  go_wp2_with fail
  have HFD:=fd_rest HF
  go_region_held3 (fun w'=>w'.cell? ⟨p8,0,none⟩=some (.bool sx)∧w'.cell? ⟨p8,1,none⟩=some (.slice ax lx cx)∧w'.cell? ⟨p9,0,none⟩=some (.bool sy)∧w'.cell? ⟨p9,1,none⟩=some (.slice ay ly cy)∧w'.cell? ⟨p12,0,none⟩=some (.bool sQ)∧w'.cell? ⟨p12,1,none⟩=some (.slice aQ lQ cQ))
   (first|(refine zc3 x8 x9 x12 ?_;focus ((with_reducible repeat' first|exact Below.refl _ _|assumption|refine grow_step (by assumption) ?_|refine grow_drew ?_|refine grow_alloc ?_ _|refine grow_drewN ?_ _);done))|(refine zc3r x8 x9 x12 (Ne.symm g1) (Ne.symm g3) (Ne.symm g5) ?_;focus ((with_reducible repeat' first|exact Below.refl _ _|assumption|refine grow_step (by assumption) ?_|refine grow_drew ?_|refine grow_alloc ?_ _|refine grow_drewN ?_ _);done))|(refine zc3t x8 x9 x12 (Ne.symm g1) (Ne.symm g3) (Ne.symm g5) (Ne.symm g2) (Ne.symm g4) (Ne.symm g6) ?_;focus ((with_reducible repeat' first|exact Below.refl _ _|assumption|refine grow_step (by assumption) ?_|refine grow_drew ?_|refine grow_alloc ?_ _|refine grow_drewN ?_ _);done)))
   (first|(go_at_call 116;with_reducible refine(rmul2_n (Zn.zm (Zn.below nq gw)) (Zn.zm (Zn.below ny gw)) (by omega) (by omega)).mono ?_;rintro e wA ⟨sM,aM,lM,cM,rfl,nM,hg,hlM⟩)|(go_at_call 53;with_reducible refine(rsub2_n (Zn.zm (Zn.below nx gw)) (Zn.zm (Zn.below nM gw)) (by omega) (by omega)).mono ?_;rintro e w' ⟨sr,ar,lr,cr,rfl,nr,hg',hlr⟩;have y':ZB w' r false none 0 0:=ZB.below y gw;have y0:=y'.c0;have y1:=y'.c1;have y2:=y'.f 0;have y3:=y'.f 1;have yt':ZB w' t false none 0 0:=ZB.below yt gw;have t0:=yt'.c0;have t1:=yt'.c1;have t2:=yt'.f 0;have t3:=yt'.f 1;have nq':=Zn.below nq (show Below _ _ w' from gw);have kB:=show Below wQ.heap.size wQ w' from gw))
  have hB:Below p w w':=b0.trans (kB.mono (Nat.le_of_lt x.lt))
  go_wp2
  have y4:=zb_fin y' sQ aQ lQ cQ
  have t4:=zb_fin (yt'.only (only2 r w' (.bool sQ) (.slice aQ lQ cQ)) (Ne.symm hrt')) sr ar lr cr
  refine bodyPost_ret (results_c2t rfl _ _ r t 38 _ _ (0,0) _ rfl rfl (y4.only (only2 t _ _ _) hrt') t4 Tryz.underlying38 rfl k_f k_f) rfl ?_
  have zq:=zb_zn (yt'.only (only2 r w' (.bool sQ) (.slice aQ lQ cQ)) (Ne.symm hrt')) (zb_zn y' nq' sQ aQ lQ cQ) sr ar lr cr
  have zr:=zb_zn (yt'.only (only2 r w' (.bool sQ) (.slice aQ lQ cQ)) (Ne.symm hrt')) (zb_zn y' nr sQ aQ lQ cQ) sr ar lr cr
  exact⟨sQ,aQ,lQ,cQ,sr,ar,lr,cr,_,_,by simp,zq,zr,HFD,hp.out.symm▸(((hB.setCell (Nat.le_of_lt hpr) _).setCell (Nat.le_of_lt hpr) _).setCell (by show p≤t;omega) _).setCell (by show p≤t;omega) _,by omega,by omega⟩)

end Go.Proofs.YtaafoppaepcaeaaGreat
