/-
 Several texts in one: J5,J6.
-/
import Derived.Test.YtllfelooahplhaaGreatDoorSbnT
import Derived.Test.YtllfelooahplhaaGreatDoorSbn35
import Derived.Test.YtllfelooahplhaaGreatDoorSbn02
import Derived.Lib.QuietBelow
set_option maxRecDepth 100000
set_option maxHeartbeats 1600000
namespace Go.Proofs.YtllfelooahplhaaGreatDoor
open Go.RowKit Go.Sort Go.Shelf
open Tm At
namespace Nt

def ordD (n m:Nd):Int:=if cmpI n.d m.d≠0 then cmpI n.d m.d else if ordL (lnP n.ps) (lnP m.ps)≠0 then ordL (lnP n.ps) (lnP m.ps)else cmpI n.k m.k
theorem divs_g {F G:Nat→Prop}{w:World}{i j:Int}{x y:NR}{n m:Nd}{B:Nat}(hx:NC F w x n B)(h0:n.ps≠ [])(hy:NC G w y m B)(h02:m.ps≠ [])(hB:B≤2097152):
  Calls Tryz.prog 159 #[.agg (mE i x),.agg (mE j y)] w fun e w'=>e= .returned (.int .i64 (ordD n m))∧Gr w w':=by
 have b0:=(gr_alloc w (.cells (mE i x) 155)).trans (gr_alloc _ (.cells (mE j y) 155))
 have zx:M9B _ w.heap.size i x:=M9B.below (heap_alloc_new w (.cells (mE i x) 155)) (below_alloc _ (.cells (mE j y) 155))
 have zy:M9B ((w.alloc (.cells (mE i x) 155)).alloc (.cells (mE j y) 155)) (w.alloc (.cells (mE i x) 155)).heap.size j y:=heap_alloc_new _ _
 rw[show(w.alloc (.cells (mE i x) 155)).heap.size=w.heap.size+1 from by simp]at zy
 have hn:=hx.hnp
 have hlin:Hid (∀w',Gr ((w.alloc (.cells (mE i x) 155)).alloc (.cells (mE j y) 155)) w'→Calls Tryz.prog 153 #[.agg (mE i x),.agg (mE j y)] w' fun e w''=>e= .returned (.int .i64 (ordL (lnP n.ps) (lnP m.ps)))∧Gr w' w''):=hide fun w' k=>lines_g (hx.pn.pn.below (b0.trans k).b) h0 (hy.pn.pn.below (b0.trans k).b) h02 o_m o_m
 have hZd:=hide (zcmp_g (hx.zd.below b0.b).zm (hy.zd.below b0.b).zm (by have:=hx.hld;omega) (by have:=hy.hld;omega))
 have hZk:Hid (∀w',Gr ((w.alloc (.cells (mE i x) 155)).alloc (.cells (mE j y) 155)) w'→Calls Tryz.prog 49 #[.agg #[.bool x.sk,.slice x.ak x.lk x.ck],.agg #[.bool y.sk,.slice y.ak y.lk y.ck]] w' fun e w''=>e= .returned (.int .i64 (cmpI n.k m.k))∧Gr w' w''):=hide fun w' k=>zcmp_g (hx.zk.below (b0.trans k).b).zm (hy.zk.below (b0.trans k).b).zm (by have:=hx.hlk;omega) (by have:=hy.hlk;omega)
 replace b0:=hide b0
 have hres:Hid (ordD n m=if cmpI n.d m.d≠0 then cmpI n.d m.d else if ordL (lnP n.ps) (lnP m.ps)≠0 then ordL (lnP n.ps) (lnP m.ps)else cmpI n.k m.k):=hide rfl
 clear hn
 clear hx hy
 obtain⟨kd1,sd1,ad1,ld1,cd1,ap1,np1,cp1,sk1,ak1,lk1,ck1,vr1,ka1,kn1,kc1⟩:=x
 obtain⟨kd2,sd2,ad2,ld2,cd2,ap2,np2,cp2,sk2,ak2,lk2,ck2,vr2,ka2,kn2,kc2⟩:=y
 simp only[mE]at*
 go_enter Tryz.func159,Tryz.ntmps159
 go_wp2_with fail
 generalize (w.alloc (.cells #[.int .i64 i,.int .i64 kd1,.bool sd1,.slice ad1 ld1 cd1,.slice ap1 np1 cp1,.bool sk1,.slice ak1 lk1 ck1,.int .i64 vr1,.slice ka1 kn1 kc1] 155)).alloc (.cells #[.int .i64 j,.int .i64 kd2,.bool sd2,.slice ad2 ld2 cd2,.slice ap2 np2 cp2,.bool sk2,.slice ak2 lk2 ck2,.int .i64 vr2,.slice ka2 kn2 kc2] 155)=wB0 at*
 generalize w.heap.size=p at*
 generalize p+1=q at*
 have u0:=zx.c 0
 have u1:=zx.c 1
 have u2:=zx.c 2
 have u3:=zx.c 3
 have u4:=zx.c 4
 have u5:=zx.c 5
 have u6:=zx.c 6
 have u7:=zx.c 7
 have u8:=zx.c 8
 have v0:=zy.c 0
 have v1:=zy.c 1
 have v2:=zy.c 2
 have v3:=zy.c 3
 have v4:=zy.c 4
 have v5:=zy.c 5
 have v6:=zy.c 6
 have v7:=zy.c 7
 have v8:=zy.c 8
 generalize cmpI n.d m.d=od at*
 generalize ordL (lnP n.ps) (lnP m.ps)=ol at*
 generalize cmpI n.k m.k=ok at*
 refine hZd.out.mono ?_
 rintro e w1 ⟨rfl,k1⟩
 have hS:Hid (∀w',Gr wB0 w'→w'.cell? ⟨p,0,none⟩=some (.int .i64 i)∧w'.cell? ⟨p,1,none⟩=some (.int .i64 kd1)∧w'.cell? ⟨p,2,none⟩=some (.bool sd1)∧w'.cell? ⟨p,3,none⟩=some (.slice ad1 ld1 cd1)∧w'.cell? ⟨p,4,none⟩=some (.slice ap1 np1 cp1)∧w'.cell? ⟨p,5,none⟩=some (.bool sk1)∧w'.cell? ⟨p,6,none⟩=some (.slice ak1 lk1 ck1)∧w'.cell? ⟨p,7,none⟩=some (.int .i64 vr1)∧w'.cell? ⟨p,8,none⟩=some (.slice ka1 kn1 kc1)∧w'.cell? ⟨q,0,none⟩=some (.int .i64 j)∧w'.cell? ⟨q,1,none⟩=some (.int .i64 kd2)∧w'.cell? ⟨q,2,none⟩=some (.bool sd2)∧w'.cell? ⟨q,3,none⟩=some (.slice ad2 ld2 cd2)∧w'.cell? ⟨q,4,none⟩=some (.slice ap2 np2 cp2)∧w'.cell? ⟨q,5,none⟩=some (.bool sk2)∧w'.cell? ⟨q,6,none⟩=some (.slice ak2 lk2 ck2)∧w'.cell? ⟨q,7,none⟩=some (.int .i64 vr2)∧w'.cell? ⟨q,8,none⟩=some (.slice ka2 kn2 kc2)):=hide fun w' k=>⟨(k.b.cell (p:=⟨p,0,none⟩) zx.lt).trans (zx.c 0),(k.b.cell (p:=⟨p,1,none⟩) zx.lt).trans (zx.c 1),(k.b.cell (p:=⟨p,2,none⟩) zx.lt).trans (zx.c 2),(k.b.cell (p:=⟨p,3,none⟩) zx.lt).trans (zx.c 3),(k.b.cell (p:=⟨p,4,none⟩) zx.lt).trans (zx.c 4),(k.b.cell (p:=⟨p,5,none⟩) zx.lt).trans (zx.c 5),(k.b.cell (p:=⟨p,6,none⟩) zx.lt).trans (zx.c 6),(k.b.cell (p:=⟨p,7,none⟩) zx.lt).trans (zx.c 7),(k.b.cell (p:=⟨p,8,none⟩) zx.lt).trans (zx.c 8),(k.b.cell (p:=⟨q,0,none⟩) zy.lt).trans (zy.c 0),(k.b.cell (p:=⟨q,1,none⟩) zy.lt).trans (zy.c 1),(k.b.cell (p:=⟨q,2,none⟩) zy.lt).trans (zy.c 2),(k.b.cell (p:=⟨q,3,none⟩) zy.lt).trans (zy.c 3),(k.b.cell (p:=⟨q,4,none⟩) zy.lt).trans (zy.c 4),(k.b.cell (p:=⟨q,5,none⟩) zy.lt).trans (zy.c 5),(k.b.cell (p:=⟨q,6,none⟩) zy.lt).trans (zy.c 6),(k.b.cell (p:=⟨q,7,none⟩) zy.lt).trans (zy.c 7),(k.b.cell (p:=⟨q,8,none⟩) zy.lt).trans (zy.c 8)⟩
 clear hZd u0 u1 u2 u3 u4 u5 u6 u7 u8 v0 v1 v2 v3 v4 v5 v6 v7 v8
 by_cases h1:od=0
 ·rw[if_neg (fun h=>h h1)]at hres
  subst h1
  obtain⟨u0,u1,u2,u3,u4,u5,u6,u7,u8,v0,v1,v2,v3,v4,v5,v6,v7,v8⟩:=hS.out w1 k1
  go_wp2_with fail
  refine(hlin.out _ k1).mono ?_
  rintro e w2 ⟨rfl,k2⟩
  replace k2:=k1.trans k2
  clear u0 u1 u2 u3 u4 u5 u6 u7 u8 v0 v1 v2 v3 v4 v5 v6 v7 v8
  by_cases h2:ol=0
  ·rw[if_neg (fun h=>h h2)]at hres
   subst h2
   obtain⟨u0,u1,u2,u3,u4,u5,u6,u7,u8,v0,v1,v2,v3,v4,v5,v6,v7,v8⟩:=hS.out w2 k2
   go_wp2_with fail
   refine(hZk.out _ k2).mono ?_
   rintro e w3 ⟨rfl,k3⟩
   replace k3:=hide (b0.out.trans (k2.trans k3))
   clear u0 u1 u2 u3 u4 u5 u6 u7 u8 v0 v1 v2 v3 v4 v5 v6 v7 v8 hS hZk hlin k1 k2
   go_wp2
   go_ret
   exact⟨ret_int hres.out.symm,k3.out⟩
  rw[if_pos h2]at hres
  replace k2:=hide (b0.out.trans k2)
  clear hS hZk hlin k1
  go_wp2
  go_ret
  exact⟨ret_int hres.out.symm,k2.out⟩
 rw[if_pos h1]at hres
 replace k1:=hide (b0.out.trans k1)
 clear hS hZk hlin
 go_wp2
 go_ret
 exact⟨ret_int hres.out.symm,k1.out⟩

theorem kinds_g {F G:Nat→Prop}{w:World}{i j:Int}{x y:NR}{n m:Nd}{B:Nat}(hx:NC F w x n B)(hy:NC G w y m B):
  Calls Tryz.prog 160 #[.agg (mE i x),.agg (mE j y)] w fun e w'=>e= .returned (.bool (!(n.kind==m.kind)))∧Gr w w':=by
 have b0:=(gr_alloc w (.cells (mE i x) 155)).trans (gr_alloc _ (.cells (mE j y) 155))
 have zx:M9B _ w.heap.size i x:=M9B.below (heap_alloc_new w (.cells (mE i x) 155)) (below_alloc _ (.cells (mE j y) 155))
 have zy:M9B ((w.alloc (.cells (mE i x) 155)).alloc (.cells (mE j y) 155)) (w.alloc (.cells (mE i x) 155)).heap.size j y:=heap_alloc_new _ _
 rw[show(w.alloc (.cells (mE i x) 155)).heap.size=w.heap.size+1 from by simp]at zy
 have hk1:=hx.kd
 have hk2:=hy.kd
 replace b0:=hide b0
 clear hx hy
 obtain⟨kd1,sd1,ad1,ld1,cd1,ap1,np1,cp1,sk1,ak1,lk1,ck1,vr1,ka1,kn1,kc1⟩:=x
 obtain⟨kd2,sd2,ad2,ld2,cd2,ap2,np2,cp2,sk2,ak2,lk2,ck2,vr2,ka2,kn2,kc2⟩:=y
 simp only[mE]at*
 go_enter Tryz.func160,Tryz.ntmps160
 have u0:=zx.c 0
 have u1:=zx.c 1
 have u2:=zx.c 2
 have u3:=zx.c 3
 have u4:=zx.c 4
 have u5:=zx.c 5
 have u6:=zx.c 6
 have u7:=zx.c 7
 have u8:=zx.c 8
 have v0:=zy.c 0
 have v1:=zy.c 1
 have v2:=zy.c 2
 have v3:=zy.c 3
 have v4:=zy.c 4
 have v5:=zy.c 5
 have v6:=zy.c 6
 have v7:=zy.c 7
 have v8:=zy.c 8
 go_wp2_with fail
 subst hk1 hk2
 go_ret
 exact⟨rfl,b0.out⟩

theorem stay2_g {F G:Nat→Prop}{w:World}{i j:Int}{x y:NR}{n m:Nd}{B:Nat}(hx:NC F w x n B)(h0:n.ps≠ [])(hy:NC G w y m B)(h02:m.ps≠ [])(hB:B≤2097152):
  Calls Tryz.prog 156 #[.agg (mE i x),.agg (mE j y)] w fun e w'=>e= .returned (.bool (neg1 n.ps==neg1 m.ps&&ordL (lnP n.ps) (lnP m.ps)==0))∧Gr w w':=by
 have b0:=(gr_alloc w (.cells (mE i x) 155)).trans (gr_alloc _ (.cells (mE j y) 155))
 have zx:M9B _ w.heap.size i x:=M9B.below (heap_alloc_new w (.cells (mE i x) 155)) (below_alloc _ (.cells (mE j y) 155))
 have zy:M9B ((w.alloc (.cells (mE i x) 155)).alloc (.cells (mE j y) 155)) (w.alloc (.cells (mE i x) 155)).heap.size j y:=heap_alloc_new _ _
 rw[show(w.alloc (.cells (mE i x) 155)).heap.size=w.heap.size+1 from by simp]at zy
 have hn:=hx.hnp
 have hlin:Hid (∀w',Gr ((w.alloc (.cells (mE i x) 155)).alloc (.cells (mE j y) 155)) w'→Calls Tryz.prog 153 #[.agg (mE i x),.agg (mE j y)] w' fun e w''=>e= .returned (.int .i64 (ordL (lnP n.ps) (lnP m.ps)))∧Gr w' w''):=hide fun w' k=>lines_g (hx.pn.pn.below (b0.trans k).b) h0 (hy.pn.pn.below (b0.trans k).b) h02 o_m o_m
 have hF1:Hid (∀w',Gr ((w.alloc (.cells (mE i x) 155)).alloc (.cells (mE j y) 155)) w'→Calls Tryz.prog 154 #[.agg (mE i x)] w' fun e w''=>e= .returned (.bool (neg1 n.ps))∧Gr w' w''):=hide fun w' k=>falls_g (hx.pn.pn.below (b0.trans k).b) h0
 have hF2:Hid (∀w',Gr ((w.alloc (.cells (mE i x) 155)).alloc (.cells (mE j y) 155)) w'→Calls Tryz.prog 154 #[.agg (mE j y)] w' fun e w''=>e= .returned (.bool (neg1 m.ps))∧Gr w' w''):=hide fun w' k=>falls_g (hy.pn.pn.below (b0.trans k).b) h02
 replace b0:=hide b0
 clear hn
 generalize hrb:(neg1 n.ps==neg1 m.ps&&ordL (lnP n.ps) (lnP m.ps)==0)=rb
 replace hrb:=hide hrb
 clear hx hy
 obtain⟨kd1,sd1,ad1,ld1,cd1,ap1,np1,cp1,sk1,ak1,lk1,ck1,vr1,ka1,kn1,kc1⟩:=x
 obtain⟨kd2,sd2,ad2,ld2,cd2,ap2,np2,cp2,sk2,ak2,lk2,ck2,vr2,ka2,kn2,kc2⟩:=y
 simp only[mE]at*
 go_enter Tryz.func156,Tryz.ntmps156
 go_wp2_with fail
 generalize (w.alloc (.cells #[.int .i64 i,.int .i64 kd1,.bool sd1,.slice ad1 ld1 cd1,.slice ap1 np1 cp1,.bool sk1,.slice ak1 lk1 ck1,.int .i64 vr1,.slice ka1 kn1 kc1] 155)).alloc (.cells #[.int .i64 j,.int .i64 kd2,.bool sd2,.slice ad2 ld2 cd2,.slice ap2 np2 cp2,.bool sk2,.slice ak2 lk2 ck2,.int .i64 vr2,.slice ka2 kn2 kc2] 155)=wB0 at*
 generalize w.heap.size=p at*
 generalize p+1=q at*
 have hS:Hid (∀w',Gr wB0 w'→w'.cell? ⟨p,0,none⟩=some (.int .i64 i)∧w'.cell? ⟨p,1,none⟩=some (.int .i64 kd1)∧w'.cell? ⟨p,2,none⟩=some (.bool sd1)∧w'.cell? ⟨p,3,none⟩=some (.slice ad1 ld1 cd1)∧w'.cell? ⟨p,4,none⟩=some (.slice ap1 np1 cp1)∧w'.cell? ⟨p,5,none⟩=some (.bool sk1)∧w'.cell? ⟨p,6,none⟩=some (.slice ak1 lk1 ck1)∧w'.cell? ⟨p,7,none⟩=some (.int .i64 vr1)∧w'.cell? ⟨p,8,none⟩=some (.slice ka1 kn1 kc1)∧w'.cell? ⟨q,0,none⟩=some (.int .i64 j)∧w'.cell? ⟨q,1,none⟩=some (.int .i64 kd2)∧w'.cell? ⟨q,2,none⟩=some (.bool sd2)∧w'.cell? ⟨q,3,none⟩=some (.slice ad2 ld2 cd2)∧w'.cell? ⟨q,4,none⟩=some (.slice ap2 np2 cp2)∧w'.cell? ⟨q,5,none⟩=some (.bool sk2)∧w'.cell? ⟨q,6,none⟩=some (.slice ak2 lk2 ck2)∧w'.cell? ⟨q,7,none⟩=some (.int .i64 vr2)∧w'.cell? ⟨q,8,none⟩=some (.slice ka2 kn2 kc2)∧Gr wB0 w'):=hide fun w' k=>⟨(k.b.cell (p:=⟨p,0,none⟩) zx.lt).trans (zx.c 0),(k.b.cell (p:=⟨p,1,none⟩) zx.lt).trans (zx.c 1),(k.b.cell (p:=⟨p,2,none⟩) zx.lt).trans (zx.c 2),(k.b.cell (p:=⟨p,3,none⟩) zx.lt).trans (zx.c 3),(k.b.cell (p:=⟨p,4,none⟩) zx.lt).trans (zx.c 4),(k.b.cell (p:=⟨p,5,none⟩) zx.lt).trans (zx.c 5),(k.b.cell (p:=⟨p,6,none⟩) zx.lt).trans (zx.c 6),(k.b.cell (p:=⟨p,7,none⟩) zx.lt).trans (zx.c 7),(k.b.cell (p:=⟨p,8,none⟩) zx.lt).trans (zx.c 8),(k.b.cell (p:=⟨q,0,none⟩) zy.lt).trans (zy.c 0),(k.b.cell (p:=⟨q,1,none⟩) zy.lt).trans (zy.c 1),(k.b.cell (p:=⟨q,2,none⟩) zy.lt).trans (zy.c 2),(k.b.cell (p:=⟨q,3,none⟩) zy.lt).trans (zy.c 3),(k.b.cell (p:=⟨q,4,none⟩) zy.lt).trans (zy.c 4),(k.b.cell (p:=⟨q,5,none⟩) zy.lt).trans (zy.c 5),(k.b.cell (p:=⟨q,6,none⟩) zy.lt).trans (zy.c 6),(k.b.cell (p:=⟨q,7,none⟩) zy.lt).trans (zy.c 7),(k.b.cell (p:=⟨q,8,none⟩) zy.lt).trans (zy.c 8),k⟩
 clear zx zy
 generalize ordL (lnP n.ps) (lnP m.ps)=ol at*
 generalize neg1 n.ps=g1 at*
 generalize neg1 m.ps=g2 at*
 by_cases hg:g1=g2
 ·have hb:(g1==g2)=true:=by simpa using hg
  have hrb2:Hid ((ol==0)=rb):=hide (by rw[←hrb.out,hb];rfl)
  refine wp_region_held_drew (S:=fun w'=>w'.cell? ⟨p,0,none⟩=some (.int .i64 i)∧w'.cell? ⟨p,1,none⟩=some (.int .i64 kd1)∧w'.cell? ⟨p,2,none⟩=some (.bool sd1)∧w'.cell? ⟨p,3,none⟩=some (.slice ad1 ld1 cd1)∧w'.cell? ⟨p,4,none⟩=some (.slice ap1 np1 cp1)∧w'.cell? ⟨p,5,none⟩=some (.bool sk1)∧w'.cell? ⟨p,6,none⟩=some (.slice ak1 lk1 ck1)∧w'.cell? ⟨p,7,none⟩=some (.int .i64 vr1)∧w'.cell? ⟨p,8,none⟩=some (.slice ka1 kn1 kc1)∧w'.cell? ⟨q,0,none⟩=some (.int .i64 j)∧w'.cell? ⟨q,1,none⟩=some (.int .i64 kd2)∧w'.cell? ⟨q,2,none⟩=some (.bool sd2)∧w'.cell? ⟨q,3,none⟩=some (.slice ad2 ld2 cd2)∧w'.cell? ⟨q,4,none⟩=some (.slice ap2 np2 cp2)∧w'.cell? ⟨q,5,none⟩=some (.bool sk2)∧w'.cell? ⟨q,6,none⟩=some (.slice ak2 lk2 ck2)∧w'.cell? ⟨q,7,none⟩=some (.int .i64 vr2)∧w'.cell? ⟨q,8,none⟩=some (.slice ka2 kn2 kc2)∧Gr wB0 w') k_f (hS.out _ (gr_drew (Gr.refl _))) (fun hHeld=> ?_)
  show wpAnyH _ _ _ _ _ 12 _ _ _
  refine tkz 0 5 ?_
  (try simp only[pz])
  refine tkz 2 7 ?_
  (try simp only[pz])
  refine ryz 1 (some 6) (fun K hK=> ?_) AllReadyH.nil
  go_simp
  refine Calls.mono (hF1.out _ (gr_drew (Gr.refl _))) ?_
  rintro e w3 ⟨rfl,hg3⟩
  have k3:=(gr_drew (Gr.refl wB0)).trans hg3
  (try go_wp2_with fail)
  refine hK.out _ _ ?_ ?_
  ·(try dsimp only);exact hS.out _ k3
  clear hK K hHeld;intro hHeld
  (try simp only[pz])
  refine ryz 3 (some 8) (fun K hK=> ?_) AllReadyH.nil
  go_simp
  refine Calls.mono (hF2.out _ k3) ?_
  rintro e w4 ⟨rfl,hg4⟩
  have k4:=k3.trans hg4
  (try go_wp2_with fail)
  refine hK.out _ _ ?_ ?_
  ·(try dsimp only);exact hS.out _ k4
  clear hK K hHeld;intro hHeld
  (try simp only[pz])
  refine tkz 4 9 ?_
  (try simp only[pz])
  (try rw[hb])
  refine tkz 5 10 ?_
  (try simp only[pz])
  refine tkz 6 11 ?_
  (try simp only[pz])
  refine tkz 7 12 ?_
  (try simp only[pz])
  refine ryz 8 (some 13) (fun K hK=> ?_) AllReadyH.nil
  go_simp
  refine Calls.mono (hlin.out _ k4) ?_
  rintro e w5 ⟨rfl,hg5⟩
  have k4:=k4.trans hg5
  (try go_wp2_with fail)
  refine hK.out _ _ ?_ ?_
  ·(try dsimp only);exact hS.out _ k4
  clear hK K hHeld;intro hHeld
  (try simp only[pz])
  refine tkz 9 14 ?_
  (try simp only[pz])
  refine tkz 10 15 ?_
  (try simp only[pz])
  refine ryz 11 (some 4) (fun K hK=> ?_) AllReadyH.nil
  go_simp
  refine hK.out _ _ ?_ ?_
  ·(try dsimp only);exact hS.out _ k4
  clear hK K hHeld;intro hHeld
  (try simp only[pz])
  refine wpAnyH_done k_f ?_ _
  have kf:=hide (b0.out.trans k4)
  clear hHeld hS hF1 hF2 hlin k3 k4 hg3 hg4 hg5
  go_wp2
  go_ret
  exact⟨ret_bool hrb2.out,kf.out⟩
 have hb:(g1==g2)=false:=by simpa using hg
 have hrb2:Hid (false=rb):=hide (by rw[←hrb.out,hb];rfl)
 refine wp_region_held_drew (S:=fun w'=>w'.cell? ⟨p,0,none⟩=some (.int .i64 i)∧w'.cell? ⟨p,1,none⟩=some (.int .i64 kd1)∧w'.cell? ⟨p,2,none⟩=some (.bool sd1)∧w'.cell? ⟨p,3,none⟩=some (.slice ad1 ld1 cd1)∧w'.cell? ⟨p,4,none⟩=some (.slice ap1 np1 cp1)∧w'.cell? ⟨p,5,none⟩=some (.bool sk1)∧w'.cell? ⟨p,6,none⟩=some (.slice ak1 lk1 ck1)∧w'.cell? ⟨p,7,none⟩=some (.int .i64 vr1)∧w'.cell? ⟨p,8,none⟩=some (.slice ka1 kn1 kc1)∧w'.cell? ⟨q,0,none⟩=some (.int .i64 j)∧w'.cell? ⟨q,1,none⟩=some (.int .i64 kd2)∧w'.cell? ⟨q,2,none⟩=some (.bool sd2)∧w'.cell? ⟨q,3,none⟩=some (.slice ad2 ld2 cd2)∧w'.cell? ⟨q,4,none⟩=some (.slice ap2 np2 cp2)∧w'.cell? ⟨q,5,none⟩=some (.bool sk2)∧w'.cell? ⟨q,6,none⟩=some (.slice ak2 lk2 ck2)∧w'.cell? ⟨q,7,none⟩=some (.int .i64 vr2)∧w'.cell? ⟨q,8,none⟩=some (.slice ka2 kn2 kc2)∧Gr wB0 w') k_f (hS.out _ (gr_drew (Gr.refl _))) (fun hHeld=> ?_)
 show wpAnyH _ _ _ _ _ 12 _ _ _
 refine tkz 0 5 ?_
 (try simp only[pz])
 refine tkz 2 7 ?_
 (try simp only[pz])
 refine ryz 1 (some 6) (fun K hK=> ?_) AllReadyH.nil
 go_simp
 refine Calls.mono (hF1.out _ (gr_drew (Gr.refl _))) ?_
 rintro e w3 ⟨rfl,hg3⟩
 have k3:=(gr_drew (Gr.refl wB0)).trans hg3
 (try go_wp2_with fail)
 refine hK.out _ _ ?_ ?_
 ·(try dsimp only);exact hS.out _ k3
 clear hK K hHeld;intro hHeld
 (try simp only[pz])
 refine ryz 3 (some 8) (fun K hK=> ?_) AllReadyH.nil
 go_simp
 refine Calls.mono (hF2.out _ k3) ?_
 rintro e w4 ⟨rfl,hg4⟩
 have k4:=k3.trans hg4
 (try go_wp2_with fail)
 refine hK.out _ _ ?_ ?_
 ·(try dsimp only);exact hS.out _ k4
 clear hK K hHeld;intro hHeld
 (try simp only[pz])
 refine tkz 4 9 ?_
 (try simp only[pz])
 (try rw[hb])
 refine tkz 5 10 ?_
 (try simp only[pz])
 refine wpAnyH_take (i:=6) (oi:=⟨some 11,_,_,_,_,_⟩) (v:=undef) rfl k_f k_f k_f (fun _ _ _ h=>h) (Or.inr ⟨by rfl,rfl⟩) (by assumption) ?_
 (try simp only[pz])
 refine wpAnyH_take (i:=7) (oi:=⟨some 12,_,_,_,_,_⟩) (v:=undef) rfl k_f k_f k_f (fun _ _ _ h=>h) (Or.inr ⟨by rfl,rfl⟩) (by assumption) ?_
 (try simp only[pz])
 refine wpAnyH_take (i:=8) (oi:=⟨some 13,_,_,_,_,_⟩) (v:=undef) rfl k_f k_f k_f (fun _ _ _ h=>h) (Or.inr ⟨by rfl,rfl⟩) (by assumption) ?_
 (try simp only[pz])
 refine wpAnyH_take (i:=9) (oi:=⟨some 14,_,_,_,_,_⟩) (v:=undef) rfl k_f k_f k_f (fun _ _ _ h=>h) (Or.inr ⟨by rfl,rfl⟩) (by assumption) ?_
 (try simp only[pz])
 refine tkz 10 15 ?_
 (try simp only[pz])
 refine ryz 11 (some 4) (fun K hK=> ?_) AllReadyH.nil
 go_simp
 refine hK.out _ _ ?_ ?_
 ·(try dsimp only);exact hS.out _ k4
 clear hK K hHeld;intro hHeld
 (try simp only[pz])
 refine wpAnyH_done k_f ?_ _
 have kf:=hide (b0.out.trans k4)
 clear hHeld hS hF1 hF2 hlin k3 k4 hg3 hg4
 go_wp2
 go_ret
 exact⟨ret_bool hrb2.out,kf.out⟩
end Nt
namespace Nt

structure Mr where
 id:Int
 x:NR
 n:Nd
def Mr.enc (m:Mr):List Value:=(mE m.id m.x).toList
def Mr.ok (w:World)(B:Nat)(m:Mr):Prop:=NC (fun _=>True) w m.x m.n B∧m.n.ps≠ []
theorem NC.below {F:Nat→Prop}{w w':World}{x:NR}{n:Nd}{B:Nat}(h:NC F w x n B)(k:Below w.heap.size w w'):NC F w' x n B:=h.move k.size (fun b _ hl=>k.block b hl) (fun _ hb _=>hb)
abbrev MrI (rs:List Mr):={m:Mr // m∈rs}
def encM {rs:List Mr}(m:MrI rs):List Value:=m.1.enc
def flat9 (rs:List Mr):List Value:=rs.flatMap Mr.enc
theorem enc9_len (m:Mr):m.enc.length=9:=rfl
theorem flat9_length (rs:List Mr):(flat9 rs).length=rs.length*9:=by
 induction rs with
 |nil=>rfl
 |cons m rs ih=>
  have h:(flat9 (m::rs)).length=9+(flat9 rs).length:=by simp[flat9,enc9_len]
  rw[h,ih,List.length_cons]
  omega
theorem flat9_get (rs:List Mr): ∀(i c:Nat) (h:i<rs.length),c<9→(flat9 rs)[i*9+c]? =(rs[i]).enc[c]?:=by
 induction rs with
 |nil=>intro i c h;cases h
 |cons m rs ih=>
  intro i c h hc
  have e:flat9 (m::rs)=m.enc++flat9 rs:=by simp[flat9]
  have hl:=enc9_len m
  rw[e]
  cases i with
  |zero=>rw[List.getElem?_append_left o_m];simp
  |succ i=>
   rw[List.getElem?_append_right o_m,hl,show(i+1)*9+c-9=i*9+c from by omega]
   exact ih i c (by simpa using h) hc
theorem sortW9_grown {α:Type} [Inhabited α] (enc:α→List Value)(w:World)(g m:Nat)(dk:Array α)(os:Array Obj):w.grownBy (sortWorldK enc 9 w g 0 m dk os) (some g):=by
 refine⟨rfl,rfl,rfl,?_,fun k hk hne=> ?_⟩
 ·simp[sortWorldK,size_grow,size_putRowK,Sort.ahead]
 have hkg:k≠g:=fun e=>hne (by rw[e])
 simp only[sortWorldK,grow,putRowK,putRow,mapBlock,Sort.ahead]
 rw[Array.getElem?_append_left (by simpa using hk),Array.getElem?_modify,if_neg (fun e=>hkg e.symm)]
theorem sortW9_block {α:Type} [Inhabited α] (enc:α→List Value)(w:World)(g m:Nat)(dk:Array α)(os:Array Obj){cur:Array Value}{t:TypeId}(h:w.heap[g]? =some (.cells cur t (0,0))): ∃cur',(sortWorldK enc 9 w g 0 m dk os).heap[g]? =some (.cells cur' t (0,0))∧cur'.size=cur.size:=by
 have hg:g<w.heap.size:=lt_of_block h
 simp only[sortWorldK,grow,putRowK,putRow,mapBlock,Sort.ahead]
 rw[Array.getElem?_append_left (by simpa using hg),Array.getElem?_modify,if_pos rfl,h]
 exact⟨_,rfl,by simp[putCells]⟩
theorem inhM {rs:List Mr}{m:Mr}(h:m∈rs):Nonempty (Inhabited (MrI rs)):=⟨⟨⟨m,h⟩⟩⟩
theorem cmp9_lays {w:World}{rs:List Mr}{g n K:Nat}{cb:Array Value}{ord:Mr→Mr→Int} [Inhabited (MrI rs)]
  (hcmp: ∀w' (x y:Mr),x∈rs→y∈rs→w.grownBy w' (some g)→Calls Tryz.prog K (#[.agg (mE x.id x.x),.agg (mE y.id y.x)]++cb) w' fun e w''=>e= .returned (.int .i64 (ord x y))∧Gr w' w''):
  CmpLays Tryz.prog K cb (encM (rs:=rs)) 9 (fun x y=>ord x.1 y.1) g 0 n w:=by
 intro m os dk _ x y
 refine(hcmp _ x.1 y.1 x.2 y.2 (sortW9_grown _ _ _ _ _ _)).mono ?_
 rintro e w' ⟨rfl,h⟩
 exact⟨rfl,gr_grow h⟩

theorem sort9_n {w:World}{g cap n K:Nat}{cb cur:Array Value}{rs:List Mr}{ord:Mr→Mr→Int}(hn:rs.length=n)(h0:rs≠ [])
  (hcur:w.heap[g]? =some (.cells cur 155 (0,0)))(hrow:cur.toList.take (n*9)=flat9 rs)(hnb:n≤1099511627776)
  (eg: ∀args w,(callFunc K args).run Tryz.prog w= .ok (.enter K args) w)(hswo:SWO (ltOf (fun(x y:MrI rs)=>ord x.1 y.1)))
  (hcmp: ∀w' (x y:Mr),x∈rs→y∈rs→w.grownBy w' (some g)→Calls Tryz.prog K (#[.agg (mE x.id x.x),.agg (mE y.id y.x)]++cb) w' fun e w''=>e= .returned (.int .i64 (ord x y))∧Gr w' w''):
  Calls Tryz.prog 151 #[.slice (some ⟨g,0,none⟩) n cap,.func (.func K) #[] cb] w fun e w'=>e= .returned (.tuple #[])∧∃rs' cur',rs'.Perm rs∧rs'.Pairwise (fun x y=> ¬ord y x<0)∧w'.heap[g]? =some (.cells cur' 155 (0,0))∧cur'.size=cur.size∧cur'.toList.take (n*9)=flat9 rs'∧w.grownBy w' (some g):=by
 obtain⟨_⟩:Nonempty (Inhabited (MrI rs)):=by
  obtain⟨m,hm⟩:=List.exists_mem_of_ne_nil rs h0
  exact inhM hm
 have hgl:g<w.heap.size:=lt_of_block hcur
 let d:Array (MrI rs):=(rs.pmap (fun x h=>(⟨x,h⟩:MrI rs)) fun _ h=>h).toArray
 have hds:d.size=n:=by simp[d,hn]
 have hdm:d.toList.map Subtype.val=rs:=by
  simp only[d,List.map_pmap]
  simp
 have hget: ∀i (h:i<rs.length),(d[i]!).1=rs[i]:=by
  intro i h
  have h':i<d.size:=by omega
  rw[getElem!_pos d i h']
  simp[d]
 have hH:HoldsK (encM (rs:=rs)) 9 w g 0 d:=by
  intro j hj
  rw[size_flatK]at hj
  have hi:j / 9<rs.length:=by omega
  rw[get_flatK _ _ _ _ hj]
  refine⟨?_,frozen_of_row w g _ _ _ hcur⟩
  have hc:(flat9 rs)[j]? =some ((rs[j / 9]).enc[j%9]!):=by
   have:=flat9_get rs (j / 9) (j%9) hi (Nat.mod_lt _ (by decide))
   rw[show j / 9*9+j%9=j from by omega]at this
   rw[this]
   have hl:=enc9_len rs[j / 9]
   rw[List.getElem!_eq_getElem?_getD,List.getElem?_eq_getElem o_m]
   rfl
  rw[Nat.zero_add,show(d[j / 9]!)=d[j / 9]! from rfl]
  show w.cell? ⟨g,j,none⟩=some ((d[j / 9]!).1.enc[j%9]!)
  rw[hget _ hi]
  have h2:cur[j]? =some ((rs[j / 9]).enc[j%9]!):=by
   rw[←hc,←hrow,List.getElem?_take,if_pos o_m]
   simp
  exact(cell_of_row w g j _ _ (0,0) hcur).trans h2
 have hcon:=AnyQ.slices_SortFunc Tryz.sortM 9 Tryz.isAgg155 Tryz.sizeOf155 (encM (rs:=rs)) (fun _=>rfl) (fun x v hv=>by simp[encM,Mr.enc,mE]at hv;rcases hv with rfl|rfl|rfl|rfl|rfl|rfl|rfl|rfl|rfl <;> rfl) (fun x y=>ord x.1 y.1) hswo K cb g 0 cap d w eg (cmp9_lays hcmp) hH hgl o_m
 rw[hds]at hcon
 change Calls Tryz.prog 151 _ _ _ at hcon
 refine hcon.mono ?_
 rintro e w' ⟨rfl,d',m,os,hp,hs,rfl⟩
 have hsz:d'.size=n:=by rw[hp.1,hds]
 have hperm:(d'.toList.map Subtype.val).Perm rs:=by
  have:=hp.2.2
  rw[←hds]at this
  have e1:d.extract 0 d.size=d:=by simp
  have e2:d'.extract 0 d.size=d':=by rw[←hp.1];simp
  rw[e1,e2]at this
  have h2:=this.map Subtype.val
  rw[hdm]at h2
  exact h2
 obtain⟨cur',hc1,hc2⟩:=sortW9_block (encM (rs:=rs)) w g m d' os hcur
 refine⟨rfl,d'.toList.map Subtype.val,cur',hperm,?_,hc1,hc2,?_,sortW9_grown _ _ _ _ _ _⟩
 ·rw[List.pairwise_iff_getElem]
  intro i j hi hj hij
  have hi':i<d'.size:=by simpa using hi
  have hj':j<d'.size:=by simpa using hj
  have h1:=hs i j (Nat.zero_le _) hij o_m
  unfold ltOf at h1
  rw[decide_eq_false_iff_not,getElem!_pos d' i hi',getElem!_pos d' j hj']at h1
  simpa using h1
 have hK:=holdsK_sortWorldK_c (encM (rs:=rs)) 9 w g 0 d d' m os hH hgl (by rw[hsz,hds])
 have hl:(flat9 (d'.toList.map Subtype.val)).length=n*9:=by rw[flat9_length];simp[hsz]
 have hcl:n*9≤cur'.size:=by
  have h9:=congrArg List.length hrow
  rw[flat9_length,hn,List.length_take]at h9
  simp at h9
  omega
 apply List.ext_getElem?
 intro j
 by_cases hj:j<n*9
 ·rw[List.getElem?_take,if_pos hj]
  have hi:j / 9<d'.size:=by omega
  have k0:=(hK.cell (i:=j / 9) (c:=j%9) hi (Nat.mod_lt _ (by decide))).1
  rw[Nat.zero_add,show j / 9*9+j%9=j by omega,cell_of_row _ g j _ _ (0,0) hc1]at k0
  have h2:=flat9_get (d'.toList.map Subtype.val) (j / 9) (j%9) (by simpa using hi) (Nat.mod_lt _ (by decide))
  rw[show j / 9*9+j%9=j by omega]at h2
  rw[h2]
  have e:(d'.toList.map Subtype.val)[j / 9]'(by simpa using hi)=(d'[j / 9]!).1:=by rw[getElem!_pos d' (j / 9) hi];simp
  rw[e]
  have hl9:=enc9_len (d'[j / 9]!).1
  rw[Array.getElem?_toList,k0,List.getElem?_eq_getElem (show j%9<(d'[j / 9]!).1.enc.length by omega)]
  congr 1
  show(encM (d'[j / 9]!))[j%9]! =_
  rw[List.getElem!_eq_getElem?_getD]
  unfold encM
  rw[List.getElem?_eq_getElem o_m]
  rfl
 rw[List.getElem?_take,if_neg hj,List.getElem?_eq_none o_m]
end Nt
end Go.Proofs.YtllfelooahplhaaGreatDoor
