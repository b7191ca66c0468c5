/-
 Layer 6: Less.
-/
import Derived.Test.YtllfelooahplhaaGreatDoorSimT
import Derived.Test.YtllfelooahplhaaGreatDoorSim27
namespace Go.Proofs.YtllfelooahplhaaGreatDoor
open Go.RowKit Go.Sort Go.Shelf
open Tm At

variable {w w':World}{r n cp l c:Nat}{ad a:Option Addr}{s:Bool}
def AW (w:World)(e:Ending)(f:Atm)(B B0:Nat):Prop:=
 ∃sd ad ld cd ap np cp sk ak lk ck,e= .returned (.agg #[.int .i64 f.kind,.bool sd,.slice ad ld cd,.slice ap np cp,.bool sk,.slice ak lk ck])∧Zn w sd ad ld cd f.d∧ld≤B∧Pn w ap np f.ps B∧np≤B∧Zn w sk ak lk ck f.k∧lk≤B∧∀b off,ap=some ⟨b,off,none⟩→B0≤b

theorem ab_fin {k0:Int}{s0:Bool}{a0:Option Addr}{l0 c0:Nat}{ad0:Option Addr}{n0 cp0:Nat}{t0:Bool}{b0:Option Addr}{m0 d0:Nat}(h:w.heap[r]? =some (.cells #[.int .i64 k0,.bool s0,.slice a0 l0 c0,.slice ad0 n0 cp0,.bool t0,.slice b0 m0 d0] 69 (0,0)))(k:Int)(s:Bool)(a:Option Addr)(l c:Nat)(ad:Option Addr)(n cp:Nat)(t:Bool)(b:Option Addr)(m d:Nat):
  ((((((w.setCell ⟨r,0,none⟩ (.int .i64 k)).setCell ⟨r,1,none⟩ (.bool s)).setCell ⟨r,2,none⟩ (.slice a l c)).setCell ⟨r,3,none⟩ (.slice ad n cp)).setCell ⟨r,4,none⟩ (.bool t)).setCell ⟨r,5,none⟩ (.slice b m d)).heap[r]? =some (.cells #[.int .i64 k,.bool s,.slice a l c,.slice ad n cp,.bool t,.slice b m d] 69 (0,0)):=
 heap_setCell_same _ r 5 _ _ _ (heap_setCell_same _ r 4 _ _ _ (heap_setCell_same _ r 3 _ _ _ (heap_setCell_same _ r 2 _ _ _ (heap_setCell_same _ r 1 _ _ _ (heap_setCell_same w r 0 _ _ _ h)))))
theorem ab_noU {k0:Int}{s0:Bool}{a0:Option Addr}{l0 c0:Nat}{ad0:Option Addr}{n0 cp0:Nat}{t0:Bool}{b0:Option Addr}{m0 d0:Nat}(h:w.heap[r]? =some (.cells #[.int .i64 k0,.bool s0,.slice a0 l0 c0,.slice ad0 n0 cp0,.bool t0,.slice b0 m0 d0] 69 (0,0))):NoU w r:=by
 intro off x
 rw[cell_of_row w r off _ _ (0,0) h]
 match off with
 |0=>simp
 |1=>simp
 |2=>simp
 |3=>simp
 |4=>simp
 |5=>simp
 |k+6=>simp
theorem ab_set (w:World)(r:Nat)(v0 v1 v2 v3 v4 v5:Value):w.grownBy ((((((w.setCell ⟨r,0,none⟩ v0).setCell ⟨r,1,none⟩ v1).setCell ⟨r,2,none⟩ v2).setCell ⟨r,3,none⟩ v3).setCell ⟨r,4,none⟩ v4).setCell ⟨r,5,none⟩ v5) (some r):=
 gb_trans (gb_trans (gb_trans (gb_trans (gb_trans (gb_set w r 0 v0) (gb_set _ r 1 v1)) (gb_set _ r 2 v2)) (gb_set _ r 3 v3)) (gb_set _ r 4 v4)) (gb_set _ r 5 v5)
theorem Pn.away {ps:List (Int × Int)}{B:Nat}(h:Pn w ad n ps B)(hr: ∀b off,ad=some ⟨b,off,none⟩→b≠r)(hg:w.grownBy w' (some r))(hU:NoU w r):Pn w' ad n ps B:=by
 refine⟨h.1,?_⟩
 rcases h.2 with h2|⟨b,off,e,hb,h2⟩
 ·exact .inl h2
 refine .inr ⟨b,off,e,Nat.lt_of_lt_of_le hb hg.size,fun i hi=> ?_⟩
 obtain⟨s,a,l,c,e0,e1,e2,hz,hl⟩:=h2 i hi
 have eb:w'.heap[b]? =w.heap[b]?:=hg.block b hb (by simpa using hr b off e)
 exact⟨s,a,l,c,(World.cell?_of_block (a:=⟨b,off+i*3,none⟩) eb).trans e0,(World.cell?_of_block (a:=⟨b,off+i*3+1,none⟩) eb).trans e1,(World.cell?_of_block (a:=⟨b,off+i*3+2,none⟩) eb).trans e2,hz.grownU hg hU,hl⟩
theorem tq3 {p:Nat}(x:TB w p ad n cp s a l c)(k:Below w.heap.size w w'):w'.cell? ⟨p,0,none⟩=some (.slice ad n cp)∧w'.cell? ⟨p,1,none⟩=some (.bool s)∧w'.cell? ⟨p,2,none⟩=some (.slice a l c)∧Below w.heap.size w w':=
 ⟨(x.below k).c0,(x.below k).c1,(x.below k).c2,k⟩

theorem tq7 {p b3 b4:Nat}{s3:Bool}{a3:Option Addr}{l3 c3:Nat}{s4:Bool}{a4:Option Addr}{l4 c4:Nat}(x:TB w p ad n cp s a l c)(z3:ZB w b3 s3 a3 l3 c3)(z4:ZB w b4 s4 a4 l4 c4)(k:Below w.heap.size w w'):
  w'.cell? ⟨p,1,none⟩=some (.bool s)∧w'.cell? ⟨p,2,none⟩=some (.slice a l c)∧w'.cell? ⟨b3,0,none⟩=some (.bool s3)∧w'.cell? ⟨b3,1,none⟩=some (.slice a3 l3 c3)∧w'.cell? ⟨b4,0,none⟩=some (.bool s4)∧w'.cell? ⟨b4,1,none⟩=some (.slice a4 l4 c4)∧Below w.heap.size w w':=
 ⟨(x.below k).c1,(x.below k).c2,(z3.below k).c0,(z3.below k).c1,(z4.below k).c0,(z4.below k).c1,k⟩

set_option maxRecDepth 100000 in
set_option maxHeartbeats 3200000 in
theorem less_n {ps:List (Int × Int)}{k:Int}{B:Nat}(hP:Pr w ad n ps B)(hz:Zm w s a l c k)(hl:l≤B)(hn:n≤262144)(hB:B+n+1≤4194000):
  Calls Tryz.prog 90 #[.agg #[.slice ad n cp,.bool s,.slice a l c]] w fun e w'=> ∃qs,Std qs∧(∀v,csum qs v=csum ps v)∧AW w' e (lessF qs k) (B+n+16) w.heap.size∧Below w.heap.size w w':=by
 have eg: ∀args w,(callFunc 147 args).run Tryz.prog w= .ok (.enter 147 args) w:=enters_of Tryz.func147 k_f rfl
 go_enter Tryz.func90,Tryz.ntmps90
 go_wp2_with fail
 have x:=(tb_new w ad n cp s a l c).below (below_alloc _ (.cells #[.int .i64 0,.bool false,.slice none 0 0,.slice none 0 0,.bool false,.slice none 0 0] 69))
 have yr:((w.alloc (.cells #[.slice ad n cp,.bool s,.slice a l c] 47)).alloc (.cells #[.int .i64 0,.bool false,.slice none 0 0,.slice none 0 0,.bool false,.slice none 0 0] 69)).heap[w.heap.size+1]? =some (.cells #[.int .i64 0,.bool false,.slice none 0 0,.slice none 0 0,.bool false,.slice none 0 0] 69 (0,0)):=by
  have h:=heap_alloc_new (w.alloc (.cells #[.slice ad n cp,.bool s,.slice a l c] 47)) (.cells #[.int .i64 0,.bool false,.slice none 0 0,.slice none 0 0,.bool false,.slice none 0 0] 69)
  rwa [show(w.alloc (.cells #[.slice ad n cp,.bool s,.slice a l c] 47)).heap.size=w.heap.size+1 from by simp]at h
 have b0:Below w.heap.size w ((w.alloc (.cells #[.slice ad n cp,.bool s,.slice a l c] 47)).alloc (.cells #[.int .i64 0,.bool false,.slice none 0 0,.slice none 0 0,.bool false,.slice none 0 0] 69)):=below_alloc' (below_alloc _ _) _
 generalize (w.alloc (.cells #[.slice ad n cp,.bool s,.slice a l c] 47)).alloc (.cells #[.int .i64 0,.bool false,.slice none 0 0,.slice none 0 0,.bool false,.slice none 0 0] 69)=wb at*
 replace hP:=hP.below b0
 replace hz:=hz.below b0
 generalize hp:w.heap.size=p at*
 replace b0:Hid (Below w.heap.size w wb):=hp▸b0
 have hpr:Hid (w.heap.size=p∧p<p+1):=⟨hp,by omega⟩
 clear hp
 generalize p+1=r at*
 refine(tnorm_n hP hz hl o_m).mono ?_
 rintro e w1 ⟨ad1,n1,cp1,s1,a1,l1,c1,rs,rfl,hTN,hn1,hStd,hcs⟩
 have hrl:r<wb.heap.size:=(Array.getElem?_eq_some_iff.1 yr).1
 have yr1:w1.heap[r]? =_:=(hTN.below.block r hrl).trans yr
 have hPn:=hTN.pn
 have hZn:=hTN.zn
 have hle:=hTN.le
 have x1:=x.below hTN.below
 have k1:=hide (grow_step hTN.below b0.out)
 generalize rs.map Raw.p=qs at*
 have g1:=tb_set w1 p (.slice ad1 n1 cp1) (.bool s1) (.slice a1 l1 c1)
 have x2:=tb_fin x1 ad1 n1 cp1 s1 a1 l1 c1
 replace hPn:=hPn.tb x1 g1
 replace hZn:=hZn.grownU g1 (tb_noU x1)
 have k2:=hide (below_grown k1.out g1 (by have:=hpr.out;omega))
 have yr2:=(g1.block r (Array.getElem?_eq_some_iff.1 yr1).1 (by have:=hpr.out.2;simp;omega)).trans yr1
 have v0:=x1.c0
 have v1:=x1.c1
 have v2:=x1.c2
 have v3:=x1.f 0
 have v4:=x1.f 1
 have v5:=x1.f 2
 clear hTN hP hz g1 x b0 k1 yr yr1
 by_cases hn0:n1=0
 ·subst hn0
  obtain rfl:qs= []:=List.length_eq_zero_iff.1 hPn.1
  go_wp2_with fail
  generalize ((w1.setCell ⟨p,0,none⟩ (.slice ad1 0 cp1)).setCell ⟨p,1,none⟩ (.bool s1)).setCell ⟨p,2,none⟩ (.slice a1 l1 c1)=w2 at*
  have hr2:r<w2.heap.size:=(Array.getElem?_eq_some_iff.1 yr2).1
  refine(zsign_n hZn.zm o_m).mono ?_
  rintro e w3 ⟨rfl,k3⟩
  have yr3:w3.heap[r]? =_:=(k3.block r hr2).trans yr2
  have hr3:r<w3.heap.size:=(Array.getElem?_eq_some_iff.1 yr3).1
  have kk3:=hide (grow_step k3 k2.out)
  have hsg:Hid ((0<cmpI k 0)↔0<k):=(by unfold cmpI;split <;> (try split) <;> omega:(0<cmpI k 0)↔0<k)
  clear k3 k2 v0 v1 v2 v3 v4 v5 hZn hPn x1 x2
  generalize cmpI k 0=cz at*
  go_wp2_with fail
  refine truth_n.mono ?_
  rintro e w4 ⟨rfl,k4⟩
  have yr4:w4.heap[r]? =_:=(k4.block r hr3).trans yr3
  have kk4:=hide (grow_step k4 kk3.out)
  have hval:Hid ((if decide (0<cz)=true then(1:Int)else 0)=(lessF [] k).kind):=(show _=_ by simp[lessF,tru,hsg.out])
  generalize (if decide (0<cz)=true then(1:Int)else 0)=kv at*
  have c0:=cell_of_row w4 r 0 _ _ (0,0) yr4
  have c1':=cell_of_row w4 r 1 _ _ (0,0) yr4
  have c2:=cell_of_row w4 r 2 _ _ (0,0) yr4
  have c3:=cell_of_row w4 r 3 _ _ (0,0) yr4
  have c4:=cell_of_row w4 r 4 _ _ (0,0) yr4
  have c5:=cell_of_row w4 r 5 _ _ (0,0) yr4
  have f0:=frozen_of_row w4 r 0 _ _ yr4
  have f1:=frozen_of_row w4 r 1 _ _ yr4
  have f2:=frozen_of_row w4 r 2 _ _ yr4
  have f3:=frozen_of_row w4 r 3 _ _ yr4
  have f4:=frozen_of_row w4 r 4 _ _ yr4
  have f5:=frozen_of_row w4 r 5 _ _ yr4
  clear k4
  have hwr:w.heap.size≤r:=by have:=hpr.out;omega
  have kf:=hide ((((((kk4.out.setCell (p:=⟨r,0,none⟩) hwr (.int .i64 kv)).setCell (p:=⟨r,1,none⟩) hwr (.bool false)).setCell (p:=⟨r,2,none⟩) hwr (.slice none 0 0)).setCell (p:=⟨r,3,none⟩) hwr (.slice none 0 0)).setCell (p:=⟨r,4,none⟩) hwr (.bool false)).setCell (p:=⟨r,5,none⟩) hwr (.slice none 0 0))
  have hfin:=hide (ab_fin yr4 kv false none 0 0 none 0 0 false none 0 0)
  go_wp2
  refine bodyPost_ret (results_cell_row rfl _ _ r 69 _ (0,0) _ rfl hfin.out Tryz.underlying69 rfl k_f) rfl ?_
  refine⟨[],std_nil,hcs,⟨false,none,0,0,none,0,0,false,none,0,0,?_,?_,by omega,?_,by omega,?_,by omega,fun _ _ h=>by cases h⟩,kf.out⟩
  ·rw[hval.out]
  ·exact zn_zero _
  ·exact pn_nil _ _ _
  exact zn_zero _
 go_wp2_with fail
 generalize ((w1.setCell ⟨p,0,none⟩ (.slice ad1 n1 cp1)).setCell ⟨p,1,none⟩ (.bool s1)).setCell ⟨p,2,none⟩ (.slice a1 l1 c1)=w2 at*
 replace hPn:=hide hPn
 replace hZn:=hide hZn
 have hq1:qs.length=n1:=hPn.out.1
 refine Code.wp_mono (Q:=fun e a' W'=>e= .normal∧∃b3 b4 sA aA lA cA sB aB lB cB,a'=⟨List.toArray ((.agg #[.slice ad n cp,.bool s,.slice a l c]:Value)::(.pointer (some ⟨p,0,none⟩):Value)::(.pointer (some ⟨r,0,none⟩):Value)::(.pointer (some ⟨b3,0,none⟩):Value)::(.pointer (some ⟨b4,0,none⟩):Value)::undef::(.agg #[.slice ad n cp,.bool s,.slice a l c]:Value)::(.agg #[.slice ad1 n1 cp1,.bool s1,.slice a1 l1 c1]:Value)::(.pointer (some ⟨p,0,none⟩):Value)::(.slice ad1 n1 cp1:Value)::(.int .i64 n1:Value)::(.bool false:Value)::undef::undef::undef::undef::undef::(.agg #[.bool sA,.slice aA lA cA]:Value)::(.agg #[.slice ad1 n1 cp1,.bool s1,.slice a1 l1 c1]:Value)::(.agg #[.bool sB,.slice aB lB cB]:Value)::undef::undef::undef::undef::undef::undef::undef::undef::undef::undef::undef::undef::undef::undef::undef::undef:: []),[]⟩∧ZB W' b3 sA aA lA cA∧ZB W' b4 sB aB lB cB∧Zn W' sA aA lA cA 1∧lA≤2∧Zn W' sB aB lB cB (gcdL 0 qs)∧lB≤(0+n1)*(B+n+1)+2∧b3≠b4∧w2.heap.size≤b3∧w2.heap.size≤b4∧Below w2.heap.size w2 W') ?_ ?_
 ·rintro e a' W' ⟨rfl,b3,b4,sA,aA,lA,cA,sB,aB,lB,cB,rfl,z3,z4,hzA,hlA,hzB,hlB,hne,hb3,hb4,kW⟩
  have x3:=x2.below kW
  have p1:=x3.c1
  have p2:=x3.c2
  have q0:=z3.c0
  have q1:=z3.c1
  have q2:=z4.c0
  have q3:=z4.c1
  go_wp2_with fail
  clear p1 p2 q0 q1 q2 q3
  have hZk:=hide (hZn.out.below kW)
  have hOne:=hide hzA
  have hGcd:=hide hzB
  have hgp:(0:Int)<(gcdL 0 qs:Nat):=by
   have:0<gcdL 0 qs:=gcdL_pos (.inr (std_some hStd (fun e=>hn0 (by rw[←hq1,e];rfl))))
   omega
  have hmul:n1*(B+n+1)≤262144*4194000:=Nat.mul_le_mul o_m o_m
  have hlB9:lB≤1099511627776:=by rw[Nat.zero_add]at hlB;omega
  clear hlB hmul
  refine Code.wp_mono (Q:=fun e a' W2=>e= .normal∧∃b5 sC aC lC cC sD aD lD cD sE aE lE cE,a'=⟨List.toArray ((.agg #[.slice ad n cp,.bool s,.slice a l c]:Value)::(.pointer (some ⟨p,0,none⟩):Value)::(.pointer (some ⟨r,0,none⟩):Value)::(.pointer (some ⟨b3,0,none⟩):Value)::(.pointer (some ⟨b4,0,none⟩):Value)::(.pointer (some ⟨b5,0,none⟩):Value)::(.agg #[.slice ad n cp,.bool s,.slice a l c]:Value)::(.agg #[.slice ad1 n1 cp1,.bool s1,.slice a1 l1 c1]:Value)::(.pointer (some ⟨p,0,none⟩):Value)::(.slice ad1 n1 cp1:Value)::(.int .i64 n1:Value)::(.bool false:Value)::undef::undef::undef::undef::undef::(.agg #[.bool sA,.slice aA lA cA]:Value)::(.agg #[.slice ad1 n1 cp1,.bool s1,.slice a1 l1 c1]:Value)::(.agg #[.bool sB,.slice aB lB cB]:Value)::(.pointer (some ⟨p,1,none⟩):Value)::(.agg #[.bool s1,.slice a1 l1 c1]:Value)::(.agg #[.bool sA,.slice aA lA cA]:Value)::(.agg #[.bool sC,.slice aC lC cC]:Value)::(.agg #[.bool sB,.slice aB lB cB]:Value)::(.agg #[.bool sD,.slice aD lD cD]:Value)::(.agg #[.bool sA,.slice aA lA cA]:Value)::(.agg #[.bool sE,.slice aE lE cE]:Value)::undef::undef::undef::undef::undef::undef::undef::undef:: []),[]⟩∧ZB W2 b5 sE aE lE cE∧Zn W2 sE aE lE cE ((k-1) / (gcdL 0 qs:Nat)+1)∧lE≤max lD lA+1∧lD≤lC+3∧lC≤max l1 lA+1∧W'.heap.size≤b5∧Below W'.heap.size W' W2) ?_ ?_
  ·rintro e a' W2 ⟨rfl,b5,sC,aC,lC,cC,sD,aD,lD,cD,sE,aE,lE,cE,rfl,z5,hzE,hlE,hlD,hlC,hb5,kX⟩
   have x4:=x3.below kX
   have zg:=z4.below kX
   have hG2:=hide (hGcd.out.below kX)
   have hP2:=hide ((hPn.out.below kW).below kX)
   have hZ2:=hide (hZk.out.below kX)
   have p0:=x4.c0
   have p1:=x4.c1
   have p2:=x4.c2
   go_wp2_with fail
   refine(each_n (F:=fun x=>x / ((gcdL 0 qs:Nat):Int)) (C:=B+n+4) (B:=B+n+1) eg (fun w' s9 a9 l9 c9 z9 hb9 hz9 hl9=>(less1_n (zg.below hb9) hz9 (hG2.out.zm.below hb9) o_m hlB9 hgp).mono fun _ _ ⟨s',a',l',c',he,h1,h2,h3⟩=>⟨s',a',l',c',he,h1,h2,by omega⟩) (hP2.out.pr.mono o_m) hZ2.out.zm o_m o_m o_m).mono ?_
   rintro e w5 ⟨ad5,n5,cp5,s5,a5,l5,c5,rfl,hP5,hz5,hl5,hn5,hnew,k5⟩
   have hrl2:r<w2.heap.size:=(Array.getElem?_eq_some_iff.1 yr2).1
   have hrlW:=Nat.lt_of_lt_of_le hrl2 kW.size
   have hrlX:=Nat.lt_of_lt_of_le hrlW kX.size
   have hrl5:=Nat.lt_of_lt_of_le hrlX k5.size
   have yr5:=(k5.block r hrlX).trans ((kX.block r hrlW).trans ((kW.block r hrl2).trans yr2))
   have x5:=x4.below k5
   have z55:=z5.below k5
   have hzE5:=hzE.below k5
   have kk5:=hide (grow_step k5 (grow_step kX (grow_step kW k2.out)))
   have g5:=tb_set w5 p (.slice ad5 n5 cp5) (.bool s5) (.slice a5 l5 c5)
   have x6:=tb_fin x5 ad5 n5 cp5 s5 a5 l5 c5
   have hP6:=hP5.tb x5 g5
   have hpb:p≠b5:=by have h1:=x2.lt;have h2:=kW.size;omega
   have hb5l:b5<w5.heap.size:=z55.lt
   have z6:ZB _ b5 sE aE lE cE:=(g5.block b5 hb5l (by simp;omega)).trans z55
   have hzE6:=hzE5.grownU g5 (tb_noU x5)
   have yr6:=(g5.block r hrl5 (by have:=hpr.out.2;simp;omega)).trans yr5
   have kk6:=hide (below_grown kk5.out g5 (by have:=hpr.out;omega))
   have u0:=x5.c0
   have u1:=x5.c1
   have u2:=x5.c2
   have u3:=x5.f 0
   have u4:=x5.f 1
   have u5:=x5.f 2
   have t0:=x6.c0
   have t1:=z6.c0
   have t2:=z6.c1
   have e0:=cell_of_row _ r 0 _ _ (0,0) yr6
   have e1:=cell_of_row _ r 1 _ _ (0,0) yr6
   have e2:=cell_of_row _ r 2 _ _ (0,0) yr6
   have e3:=cell_of_row _ r 3 _ _ (0,0) yr6
   have e4:=cell_of_row _ r 4 _ _ (0,0) yr6
   have e5:=cell_of_row _ r 5 _ _ (0,0) yr6
   have f0:=frozen_of_row _ r 0 _ _ yr6
   have f1:=frozen_of_row _ r 1 _ _ yr6
   have f2:=frozen_of_row _ r 2 _ _ yr6
   have f3:=frozen_of_row _ r 3 _ _ yr6
   have f4:=frozen_of_row _ r 4 _ _ yr6
   have f5:=frozen_of_row _ r 5 _ _ yr6
   have hnr: ∀b off,ad5=some ⟨b,off,none⟩→b≠r:=fun b off e=>by have:=hnew b off e;omega
   have g6:=ab_set (((w5.setCell ⟨p,0,none⟩ (.slice ad5 n5 cp5)).setCell ⟨p,1,none⟩ (.bool s5)).setCell ⟨p,2,none⟩ (.slice a5 l5 c5)) r (.int .i64 2) (.bool false) (.slice none 0 0) (.slice ad5 n5 cp5) (.bool sE) (.slice aE lE cE)
   have hPf:=hide (hP6.away hnr g6 (ab_noU yr6))
   have hzf:=hide (hzE6.grownU g6 (ab_noU yr6))
   have kf:=hide (below_grown kk6.out g6 (by have:=hpr.out;omega))
   have hfin:=hide (ab_fin yr6 2 false none 0 0 ad5 n5 cp5 sE aE lE cE)
   have hqs:Hid (lessF qs k=⟨2,0,eachP (fun x=>x / ((gcdL 0 qs:Nat):Int)) qs,(k-1) / ((gcdL 0 qs:Nat):Int)+1⟩):=(show _=_ by unfold lessF;rw[if_neg (fun e=>hn0 (by rw[←hq1,e];rfl))])
   have hnw:Hid (∀b off,ad5=some ⟨b,off,none⟩→w.heap.size≤b):=(fun b off e=>Nat.le_trans (grow_step kX (grow_step kW k2.out)).size (hnew b off e))
   replace hStd:=hide hStd
   replace hcs:=hide hcs
   clear p0 p1 p2 k5 g5 kX kW yr5 yr2 eg hnew hnr g6 hP6 hzE6
   go_wp2
   refine bodyPost_ret (results_cell_row rfl _ _ r 69 _ (0,0) _ rfl hfin.out Tryz.underlying69 rfl k_f) rfl ?_
   refine⟨qs,hStd.out,hcs.out,?_,kf.out⟩
   rw[hqs.out]
   exact⟨false,none,0,0,ad5,n5,cp5,sE,aE,lE,cE,by simp,zn_zero _,by omega,hPf.out.mono o_m,by omega,hzf.out,by omega,hnw.out⟩
  refine wp_region_held_drew (S:=(fun w'=>w'.cell? ⟨p,1,none⟩=some (.bool s1)∧w'.cell? ⟨p,2,none⟩=some (.slice a1 l1 c1)∧w'.cell? ⟨b3,0,none⟩=some (.bool sA)∧w'.cell? ⟨b3,1,none⟩=some (.slice aA lA cA)∧w'.cell? ⟨b4,0,none⟩=some (.bool sB)∧w'.cell? ⟨b4,1,none⟩=some (.slice aB lB cB)∧Below W'.heap.size W' w')) k_f (tq7 x3 z3 z4 (grow_drew (Below.refl _ _))) (fun hHeld=> ?_)
  show wpAnyH _ _ _ _ _ 10 _ _ _
  have kW:=grow_drew (Below.refl W'.heap.size W')
  generalize W'.drew=wD at*
  refine wpAnyH_take (i:=0) (oi:=⟨some 20,_,_,_,_,_⟩) (v:=?_) rfl k_f k_f k_f (fun _ _ _ h=>by cases h.1) (Or.inl ⟨by rfl,?_⟩) (by assumption) ?_
  rotate_left
  ·intro wq hSw;(try dsimp only at hSw);go_simp;(try with_reducible rfl)
  (try simp only[pz])
  refine wpAnyH_take (i:=1) (oi:=⟨some 21,_,_,_,_,_⟩) (v:=?_) rfl k_f k_f k_f (fun _ _ _ h=>by cases h.1) (Or.inl ⟨by rfl,?_⟩) (by assumption) ?_
  rotate_left
  ·intro wq hSw;(try dsimp only at hSw);go_simp;(try with_reducible rfl)
  (try simp only[pz])
  refine wpAnyH_take (i:=2) (oi:=⟨some 22,_,_,_,_,_⟩) (v:=?_) rfl k_f k_f k_f (fun _ _ _ h=>by cases h.1) (Or.inl ⟨by rfl,?_⟩) (by assumption) ?_
  rotate_left
  ·intro wq hSw;(try dsimp only at hSw);go_simp;(try with_reducible rfl)
  (try simp only[pz])
  refine wpAnyH_take (i:=4) (oi:=⟨some 24,_,_,_,_,_⟩) (v:=?_) rfl k_f k_f k_f (fun _ _ _ h=>by cases h.1) (Or.inl ⟨by rfl,?_⟩) (by assumption) ?_
  rotate_left
  ·intro wq hSw;(try dsimp only at hSw);go_simp;(try with_reducible rfl)
  (try simp only[pz])
  refine wpAnyH_take (i:=6) (oi:=⟨some 26,_,_,_,_,_⟩) (v:=?_) rfl k_f k_f k_f (fun _ _ _ h=>by cases h.1) (Or.inl ⟨by rfl,?_⟩) (by assumption) ?_
  rotate_left
  ·intro wq hSw;(try dsimp only at hSw);go_simp;(try with_reducible rfl)
  (try simp only[pz])
  refine wpAnyH_ready (rs:=[3,8]) k_f (by simp) ?_
  refine AllReadyH.cons (o:=⟨some 23,_,_,_,_,_⟩) rfl (fun K hK=> ?_) ?_
  ·go_simp
   go_at_call 145;refine Calls.mono (zsub_n (hZk.out.zm.below kW) (hOne.out.zm.below kW) o_m o_m) ?_;rintro e wC ⟨sC,aC,lC,cC,rfl,hzC,kC,hlC⟩
   have kW:=grow_step kC kW
   (try go_wp2_with fail)
   refine hK.out _ _ ?_ ?_
   ·(try dsimp only);exact tq7 x3 z3 z4 kW
   clear hK K hHeld;intro hHeld
   (try simp only[pz])
   refine wpAnyH_ready (rs:=[5,8]) k_f (by simp) ?_
   refine AllReadyH.cons (o:=⟨some 25,_,_,_,_,_⟩) rfl (fun K hK=> ?_) ?_
   ·go_simp
    go_at_call 144;refine Calls.mono (quotient_n hzC.zm (hGcd.out.zm.below kW) o_m o_m hgp) ?_;rintro e wDq ⟨sD,aD,lD,cD,rfl,hzD,kD,hlD⟩
    have hzC:=hzC.below kD
    have kW:=grow_step kD kW
    (try go_wp2_with fail)
    refine hK.out _ _ ?_ ?_
    ·(try dsimp only);exact tq7 x3 z3 z4 kW
    clear hK K hHeld;intro hHeld
    (try simp only[pz])
    refine wpAnyH_ready (rs:=[7,8]) k_f (by simp) ?_
    refine AllReadyH.cons (o:=⟨some 27,_,_,_,_,_⟩) rfl (fun K hK=> ?_) ?_
    ·go_simp
     go_at_call 64;refine Calls.mono (zadd_n hzD.zm (hOne.out.zm.below kW) o_m o_m) ?_;rintro e wE ⟨sE,aE,lE,cE,rfl,hzE,kE,hlE⟩
     have hzC:=hzC.below kE
     have hzD:=hzD.below kE
     have kW:=grow_step kE kW
     (try go_wp2_with fail)
     refine hK.out _ _ ?_ ?_
     ·(try dsimp only);exact tq7 x3 z3 z4 kW
     clear hK K hHeld;intro hHeld
     (try simp only[pz])
     refine ryz 8 (some 5) (fun K hK=> ?_) ?_
     ·have kL:=below_alloc (wE) (.cells #[.bool false,.slice none 0 0] 45)
      have hzC:=hzC.below kL
      have hzD:=hzD.below kL
      have hzE:=hzE.below kL
      have z5:ZB ((wE).alloc (.cells #[.bool false,.slice none 0 0] 45)) (wE.heap.size) false none 0 0:=zb_new _ _ _ _ _
      have hb5:W'.heap.size≤wE.heap.size:=kW.size
      have kW:=grow_step kL kW
      go_simp
      refine hK.out _ _ ?_ ?_
      ·(try dsimp only);exact tq7 x3 z3 z4 kW
      clear hK K hHeld;intro hHeld
      (try simp only[pz])
      generalize (wE).alloc (.cells #[.bool false,.slice none 0 0] 45)=wL5 at*
      refine ryz 9 none (fun K hK=> ?_) ?_
      ·have f0:=z5.c0
       have f1:=z5.c1
       have f2:=z5.f 0
       have f3:=z5.f 1
       go_simp
       have hzC:=zb_zn z5 hzC sE aE lE cE
       have hzD:=zb_zn z5 hzD sE aE lE cE
       have hzE:=zb_zn z5 hzE sE aE lE cE
       have z5:=zb_fin z5 sE aE lE cE
       have kW:=(kW.setCell (p:=⟨wE.heap.size,0,none⟩) hb5 (.bool sE)).setCell (p:=⟨wE.heap.size,1,none⟩) hb5 (.slice aE lE cE)
       refine hK.out _ _ ?_ ?_
       ·(try dsimp only);exact tq7 x3 z3 z4 kW
       clear hK K hHeld;intro hHeld
       (try simp only[pz])
       refine wpAnyH_done k_f ?_ _
       exact⟨rfl,_,sC,aC,lC,cC,sD,aD,lD,cD,sE,aE,lE,cE,rfl,z5,hzE,hlE,hlD,hlC,hb5,kW⟩
      exact AllReadyH.nil
     exact AllReadyH.nil
    refine AllReadyH.cons (o:=⟨some 5,_,_,_,_,_⟩) rfl (fun K hK=> ?_) ?_
    ·have kL:=below_alloc (wDq) (.cells #[.bool false,.slice none 0 0] 45)
     have hzC:=hzC.below kL
     have hzD:=hzD.below kL
     have z5:ZB ((wDq).alloc (.cells #[.bool false,.slice none 0 0] 45)) (wDq.heap.size) false none 0 0:=zb_new _ _ _ _ _
     have hb5:W'.heap.size≤wDq.heap.size:=kW.size
     have kW:=grow_step kL kW
     go_simp
     refine hK.out _ _ ?_ ?_
     ·(try dsimp only);exact tq7 x3 z3 z4 kW
     clear hK K hHeld;intro hHeld
     (try simp only[pz])
     generalize (wDq).alloc (.cells #[.bool false,.slice none 0 0] 45)=wL5 at*
     refine ryz 7 (some 27) (fun K hK=> ?_) ?_
     ·go_simp
      go_at_call 64;refine Calls.mono (zadd_n hzD.zm (hOne.out.zm.below kW) o_m o_m) ?_;rintro e wE ⟨sE,aE,lE,cE,rfl,hzE,kE,hlE⟩
      have z5:=z5.below kE
      have hzC:=hzC.below kE
      have hzD:=hzD.below kE
      have kW:=grow_step kE kW
      (try go_wp2_with fail)
      refine hK.out _ _ ?_ ?_
      ·(try dsimp only);exact tq7 x3 z3 z4 kW
      clear hK K hHeld;intro hHeld
      (try simp only[pz])
      refine ryz 9 none (fun K hK=> ?_) ?_
      ·have f0:=z5.c0
       have f1:=z5.c1
       have f2:=z5.f 0
       have f3:=z5.f 1
       go_simp
       have hzC:=zb_zn z5 hzC sE aE lE cE
       have hzD:=zb_zn z5 hzD sE aE lE cE
       have hzE:=zb_zn z5 hzE sE aE lE cE
       have z5:=zb_fin z5 sE aE lE cE
       have kW:=(kW.setCell (p:=⟨wDq.heap.size,0,none⟩) hb5 (.bool sE)).setCell (p:=⟨wDq.heap.size,1,none⟩) hb5 (.slice aE lE cE)
       refine hK.out _ _ ?_ ?_
       ·(try dsimp only);exact tq7 x3 z3 z4 kW
       clear hK K hHeld;intro hHeld
       (try simp only[pz])
       refine wpAnyH_done k_f ?_ _
       exact⟨rfl,_,sC,aC,lC,cC,sD,aD,lD,cD,sE,aE,lE,cE,rfl,z5,hzE,hlE,hlD,hlC,hb5,kW⟩
      exact AllReadyH.nil
     exact AllReadyH.nil
    exact AllReadyH.nil
   refine AllReadyH.cons (o:=⟨some 5,_,_,_,_,_⟩) rfl (fun K hK=> ?_) ?_
   ·have kL:=below_alloc (wC) (.cells #[.bool false,.slice none 0 0] 45)
    have hzC:=hzC.below kL
    have z5:ZB ((wC).alloc (.cells #[.bool false,.slice none 0 0] 45)) (wC.heap.size) false none 0 0:=zb_new _ _ _ _ _
    have hb5:W'.heap.size≤wC.heap.size:=kW.size
    have kW:=grow_step kL kW
    go_simp
    refine hK.out _ _ ?_ ?_
    ·(try dsimp only);exact tq7 x3 z3 z4 kW
    clear hK K hHeld;intro hHeld
    (try simp only[pz])
    generalize (wC).alloc (.cells #[.bool false,.slice none 0 0] 45)=wL5 at*
    refine ryz 5 (some 25) (fun K hK=> ?_) ?_
    ·go_simp
     go_at_call 144;refine Calls.mono (quotient_n hzC.zm (hGcd.out.zm.below kW) o_m o_m hgp) ?_;rintro e wDq ⟨sD,aD,lD,cD,rfl,hzD,kD,hlD⟩
     have z5:=z5.below kD
     have hzC:=hzC.below kD
     have kW:=grow_step kD kW
     (try go_wp2_with fail)
     refine hK.out _ _ ?_ ?_
     ·(try dsimp only);exact tq7 x3 z3 z4 kW
     clear hK K hHeld;intro hHeld
     (try simp only[pz])
     refine ryz 7 (some 27) (fun K hK=> ?_) ?_
     ·go_simp
      go_at_call 64;refine Calls.mono (zadd_n hzD.zm (hOne.out.zm.below kW) o_m o_m) ?_;rintro e wE ⟨sE,aE,lE,cE,rfl,hzE,kE,hlE⟩
      have z5:=z5.below kE
      have hzC:=hzC.below kE
      have hzD:=hzD.below kE
      have kW:=grow_step kE kW
      (try go_wp2_with fail)
      refine hK.out _ _ ?_ ?_
      ·(try dsimp only);exact tq7 x3 z3 z4 kW
      clear hK K hHeld;intro hHeld
      (try simp only[pz])
      refine ryz 9 none (fun K hK=> ?_) ?_
      ·have f0:=z5.c0
       have f1:=z5.c1
       have f2:=z5.f 0
       have f3:=z5.f 1
       go_simp
       have hzC:=zb_zn z5 hzC sE aE lE cE
       have hzD:=zb_zn z5 hzD sE aE lE cE
       have hzE:=zb_zn z5 hzE sE aE lE cE
       have z5:=zb_fin z5 sE aE lE cE
       have kW:=(kW.setCell (p:=⟨wC.heap.size,0,none⟩) hb5 (.bool sE)).setCell (p:=⟨wC.heap.size,1,none⟩) hb5 (.slice aE lE cE)
       refine hK.out _ _ ?_ ?_
       ·(try dsimp only);exact tq7 x3 z3 z4 kW
       clear hK K hHeld;intro hHeld
       (try simp only[pz])
       refine wpAnyH_done k_f ?_ _
       exact⟨rfl,_,sC,aC,lC,cC,sD,aD,lD,cD,sE,aE,lE,cE,rfl,z5,hzE,hlE,hlD,hlC,hb5,kW⟩
      exact AllReadyH.nil
     exact AllReadyH.nil
    exact AllReadyH.nil
   exact AllReadyH.nil
  refine AllReadyH.cons (o:=⟨some 5,_,_,_,_,_⟩) rfl (fun K hK=> ?_) ?_
  ·have kL:=below_alloc (wD) (.cells #[.bool false,.slice none 0 0] 45)
   have z5:ZB ((wD).alloc (.cells #[.bool false,.slice none 0 0] 45)) (wD.heap.size) false none 0 0:=zb_new _ _ _ _ _
   have hb5:W'.heap.size≤wD.heap.size:=kW.size
   have kW:=grow_step kL kW
   go_simp
   refine hK.out _ _ ?_ ?_
   ·(try dsimp only);exact tq7 x3 z3 z4 kW
   clear hK K hHeld;intro hHeld
   (try simp only[pz])
   generalize (wD).alloc (.cells #[.bool false,.slice none 0 0] 45)=wL5 at*
   refine ryz 3 (some 23) (fun K hK=> ?_) ?_
   ·go_simp
    go_at_call 145;refine Calls.mono (zsub_n (hZk.out.zm.below kW) (hOne.out.zm.below kW) o_m o_m) ?_;rintro e wC ⟨sC,aC,lC,cC,rfl,hzC,kC,hlC⟩
    have z5:=z5.below kC
    have kW:=grow_step kC kW
    (try go_wp2_with fail)
    refine hK.out _ _ ?_ ?_
    ·(try dsimp only);exact tq7 x3 z3 z4 kW
    clear hK K hHeld;intro hHeld
    (try simp only[pz])
    refine ryz 5 (some 25) (fun K hK=> ?_) ?_
    ·go_simp
     go_at_call 144;refine Calls.mono (quotient_n hzC.zm (hGcd.out.zm.below kW) o_m o_m hgp) ?_;rintro e wDq ⟨sD,aD,lD,cD,rfl,hzD,kD,hlD⟩
     have z5:=z5.below kD
     have hzC:=hzC.below kD
     have kW:=grow_step kD kW
     (try go_wp2_with fail)
     refine hK.out _ _ ?_ ?_
     ·(try dsimp only);exact tq7 x3 z3 z4 kW
     clear hK K hHeld;intro hHeld
     (try simp only[pz])
     refine ryz 7 (some 27) (fun K hK=> ?_) ?_
     ·go_simp
      go_at_call 64;refine Calls.mono (zadd_n hzD.zm (hOne.out.zm.below kW) o_m o_m) ?_;rintro e wE ⟨sE,aE,lE,cE,rfl,hzE,kE,hlE⟩
      have z5:=z5.below kE
      have hzC:=hzC.below kE
      have hzD:=hzD.below kE
      have kW:=grow_step kE kW
      (try go_wp2_with fail)
      refine hK.out _ _ ?_ ?_
      ·(try dsimp only);exact tq7 x3 z3 z4 kW
      clear hK K hHeld;intro hHeld
      (try simp only[pz])
      refine ryz 9 none (fun K hK=> ?_) ?_
      ·have f0:=z5.c0
       have f1:=z5.c1
       have f2:=z5.f 0
       have f3:=z5.f 1
       go_simp
       have hzC:=zb_zn z5 hzC sE aE lE cE
       have hzD:=zb_zn z5 hzD sE aE lE cE
       have hzE:=zb_zn z5 hzE sE aE lE cE
       have z5:=zb_fin z5 sE aE lE cE
       have kW:=(kW.setCell (p:=⟨wD.heap.size,0,none⟩) hb5 (.bool sE)).setCell (p:=⟨wD.heap.size,1,none⟩) hb5 (.slice aE lE cE)
       refine hK.out _ _ ?_ ?_
       ·(try dsimp only);exact tq7 x3 z3 z4 kW
       clear hK K hHeld;intro hHeld
       (try simp only[pz])
       refine wpAnyH_done k_f ?_ _
       exact⟨rfl,_,sC,aC,lC,cC,sD,aD,lD,cD,sE,aE,lE,cE,rfl,z5,hzE,hlE,hlD,hlC,hb5,kW⟩
      exact AllReadyH.nil
     exact AllReadyH.nil
    exact AllReadyH.nil
   exact AllReadyH.nil
  exact AllReadyH.nil
 refine wp_region_held_drew (S:=(fun w'=>w'.cell? ⟨p,0,none⟩=some (.slice ad1 n1 cp1)∧w'.cell? ⟨p,1,none⟩=some (.bool s1)∧w'.cell? ⟨p,2,none⟩=some (.slice a1 l1 c1)∧Below w2.heap.size w2 w')) k_f (tq3 x2 (grow_drew (Below.refl _ _))) (fun hHeld=> ?_)
 show wpAnyH _ _ _ _ _ 7 _ _ _
 have kW:=grow_drew (Below.refl w2.heap.size w2)
 generalize w2.drew=wD at*
 refine wpAnyH_take (i:=1) (oi:=⟨some 18,_,_,_,_,_⟩) (v:=?_) rfl k_f k_f k_f (fun _ _ _ h=>by cases h.1) (Or.inl ⟨by rfl,?_⟩) (by assumption) ?_
 rotate_left
 ·intro wq hSw;(try dsimp only at hSw);go_simp;(try with_reducible rfl)
 (try simp only[pz])
 refine wpAnyH_ready (rs:=[0,3,4]) k_f (by simp) ?_
 refine AllReadyH.cons (o:=⟨some 17,_,_,_,_,_⟩) rfl (fun K hK=> ?_) ?_
 ·go_simp
  go_at_call 59;refine Calls.mono (zof_n 1 (by decide) (by decide) _) ?_;rintro e wA ⟨sA,aA,lA,cA,rfl,hzA,kA,hlA⟩
  have kW:=grow_step kA kW
  (try go_wp2_with fail)
  refine hK.out _ _ ?_ ?_
  ·(try dsimp only);exact tq3 x2 kW
  clear hK K hHeld;intro hHeld
  (try simp only[pz])
  refine wpAnyH_ready (rs:=[2,3,4]) k_f (by simp) ?_
  refine AllReadyH.cons (o:=⟨some 19,_,_,_,_,_⟩) rfl (fun K hK=> ?_) ?_
  ·go_simp
   go_at_call 143;refine Calls.mono (common_n (N0:=[]) (m:=0) (B:=B+n+1) (Below.refl _ _) (Pr.below (hPn.out.pr.mono o_m) kW) (World.ownsRow_nil _ _ _ _) rfl (fun x hx=>by cases hx) o_m o_m o_m) ?_;rintro e wB ⟨sB,aB,lB,cB,rfl,hzB,hlB,kB⟩
   have hzA:=hzA.below kB
   have kW:=grow_step kB kW
   (try go_wp2_with fail)
   refine hK.out _ _ ?_ ?_
   ·(try dsimp only);exact tq3 x2 kW
   clear hK K hHeld;intro hHeld
   (try simp only[pz])
   refine wpAnyH_ready (rs:=[3,4]) k_f (by simp) ?_
   refine AllReadyH.cons (o:=⟨some 3,_,_,_,_,_⟩) rfl (fun K hK=> ?_) ?_
   ·have kL:=below_alloc (wB) (.cells #[.bool false,.slice none 0 0] 45)
    have hzA:=hzA.below kL
    have hzB:=hzB.below kL
    have z3:ZB ((wB).alloc (.cells #[.bool false,.slice none 0 0] 45)) (wB.heap.size) false none 0 0:=(by simpa using zb_new (wB) false none 0 0)
    have hb3:w2.heap.size≤wB.heap.size:=by have h9:=kW.size;first|exact h9|(simp at h9 ⊢;omega)|simp
    have kW:=grow_step kL kW
    go_simp
    refine hK.out _ _ ?_ ?_
    ·(try dsimp only);exact tq3 x2 kW
    clear hK K hHeld;intro hHeld
    (try simp only[pz])
    generalize (wB).alloc (.cells #[.bool false,.slice none 0 0] 45)=wL3 at*
    refine ryz 4 (some 4) (fun K hK=> ?_) ?_
    ·have kL:=below_alloc (wL3) (.cells #[.bool false,.slice none 0 0] 45)
     have hne:wB.heap.size≠wL3.heap.size:=by have h9:=z3.lt;first|omega|(simp at h9 ⊢;omega)|(simp at h9 ⊢)
     have z3:=z3.below kL
     have hzA:=hzA.below kL
     have hzB:=hzB.below kL
     have z4:ZB ((wL3).alloc (.cells #[.bool false,.slice none 0 0] 45)) (wL3.heap.size) false none 0 0:=(by simpa using zb_new (wL3) false none 0 0)
     have hb4:w2.heap.size≤wL3.heap.size:=by have h9:=kW.size;first|exact h9|(simp at h9 ⊢;omega)|simp
     have kW:=grow_step kL kW
     go_simp
     refine hK.out _ _ ?_ ?_
     ·(try dsimp only);exact tq3 x2 kW
     clear hK K hHeld;intro hHeld
     (try simp only[pz])
     generalize (wL3).alloc (.cells #[.bool false,.slice none 0 0] 45)=wL4 at*
     refine ryz 5 none (fun K hK=> ?_) ?_
     ·have f0:=z3.c0
      have f1:=z3.c1
      have f2:=z3.f 0
      have f3:=z3.f 1
      go_simp
      have hzA:=zb_zn z3 hzA sA aA lA cA
      have hzB:=zb_zn z3 hzB sA aA lA cA
      have z4:=z4.only (only2 _ _ (.bool sA) (.slice aA lA cA)) hne.symm
      have z3:=zb_fin z3 sA aA lA cA
      have kW:=(kW.setCell (p:=⟨wB.heap.size,0,none⟩) hb3 (.bool sA)).setCell (p:=⟨wB.heap.size,1,none⟩) hb3 (.slice aA lA cA)
      refine hK.out _ _ ?_ ?_
      ·(try dsimp only);exact tq3 x2 kW
      clear hK K hHeld;intro hHeld
      (try simp only[pz])
      refine ryz 6 none (fun K hK=> ?_) ?_
      ·have f0:=z4.c0
       have f1:=z4.c1
       have f2:=z4.f 0
       have f3:=z4.f 1
       go_simp
       have hzA:=zb_zn z4 hzA sB aB lB cB
       have hzB:=zb_zn z4 hzB sB aB lB cB
       have z3:=z3.only (only2 _ _ (.bool sB) (.slice aB lB cB)) hne
       have z4:=zb_fin z4 sB aB lB cB
       have kW:=(kW.setCell (p:=⟨wL3.heap.size,0,none⟩) hb4 (.bool sB)).setCell (p:=⟨wL3.heap.size,1,none⟩) hb4 (.slice aB lB cB)
       refine hK.out _ _ ?_ ?_
       ·(try dsimp only);exact tq3 x2 kW
       clear hK K hHeld;intro hHeld
       (try simp only[pz])
       refine wpAnyH_done k_f ?_ _
       exact⟨rfl,_,_,sA,aA,lA,cA,sB,aB,lB,cB,rfl,z3,z4,hzA,hlA,hzB,hlB,hne,hb3,hb4,kW⟩
      exact AllReadyH.nil
     exact AllReadyH.nil
    exact AllReadyH.nil
   refine AllReadyH.cons (o:=⟨some 4,_,_,_,_,_⟩) rfl (fun K hK=> ?_) ?_
   ·have kL:=below_alloc (wB) (.cells #[.bool false,.slice none 0 0] 45)
    have hzA:=hzA.below kL
    have hzB:=hzB.below kL
    have z4:ZB ((wB).alloc (.cells #[.bool false,.slice none 0 0] 45)) (wB.heap.size) false none 0 0:=(by simpa using zb_new (wB) false none 0 0)
    have hb4:w2.heap.size≤wB.heap.size:=by have h9:=kW.size;first|exact h9|(simp at h9 ⊢;omega)|simp
    have kW:=grow_step kL kW
    go_simp
    refine hK.out _ _ ?_ ?_
    ·(try dsimp only);exact tq3 x2 kW
    clear hK K hHeld;intro hHeld
    (try simp only[pz])
    generalize (wB).alloc (.cells #[.bool false,.slice none 0 0] 45)=wL4 at*
    refine ryz 3 (some 3) (fun K hK=> ?_) ?_
    ·have kL:=below_alloc (wL4) (.cells #[.bool false,.slice none 0 0] 45)
     have hne:wL4.heap.size≠wB.heap.size:=by have h9:=z4.lt;first|omega|(simp at h9 ⊢;omega)|(simp at h9 ⊢)
     have z4:=z4.below kL
     have hzA:=hzA.below kL
     have hzB:=hzB.below kL
     have z3:ZB ((wL4).alloc (.cells #[.bool false,.slice none 0 0] 45)) (wL4.heap.size) false none 0 0:=(by simpa using zb_new (wL4) false none 0 0)
     have hb3:w2.heap.size≤wL4.heap.size:=by have h9:=kW.size;first|exact h9|(simp at h9 ⊢;omega)|simp
     have kW:=grow_step kL kW
     go_simp
     refine hK.out _ _ ?_ ?_
     ·(try dsimp only);exact tq3 x2 kW
     clear hK K hHeld;intro hHeld
     (try simp only[pz])
     generalize (wL4).alloc (.cells #[.bool false,.slice none 0 0] 45)=wL3 at*
     refine ryz 5 none (fun K hK=> ?_) ?_
     ·have f0:=z3.c0
      have f1:=z3.c1
      have f2:=z3.f 0
      have f3:=z3.f 1
      go_simp
      have hzA:=zb_zn z3 hzA sA aA lA cA
      have hzB:=zb_zn z3 hzB sA aA lA cA
      have z4:=z4.only (only2 _ _ (.bool sA) (.slice aA lA cA)) hne.symm
      have z3:=zb_fin z3 sA aA lA cA
      have kW:=(kW.setCell (p:=⟨wL4.heap.size,0,none⟩) hb3 (.bool sA)).setCell (p:=⟨wL4.heap.size,1,none⟩) hb3 (.slice aA lA cA)
      refine hK.out _ _ ?_ ?_
      ·(try dsimp only);exact tq3 x2 kW
      clear hK K hHeld;intro hHeld
      (try simp only[pz])
      refine ryz 6 none (fun K hK=> ?_) ?_
      ·have f0:=z4.c0
       have f1:=z4.c1
       have f2:=z4.f 0
       have f3:=z4.f 1
       go_simp
       have hzA:=zb_zn z4 hzA sB aB lB cB
       have hzB:=zb_zn z4 hzB sB aB lB cB
       have z3:=z3.only (only2 _ _ (.bool sB) (.slice aB lB cB)) hne
       have z4:=zb_fin z4 sB aB lB cB
       have kW:=(kW.setCell (p:=⟨wB.heap.size,0,none⟩) hb4 (.bool sB)).setCell (p:=⟨wB.heap.size,1,none⟩) hb4 (.slice aB lB cB)
       refine hK.out _ _ ?_ ?_
       ·(try dsimp only);exact tq3 x2 kW
       clear hK K hHeld;intro hHeld
       (try simp only[pz])
       refine wpAnyH_done k_f ?_ _
       exact⟨rfl,_,_,sA,aA,lA,cA,sB,aB,lB,cB,rfl,z3,z4,hzA,hlA,hzB,hlB,hne,hb3,hb4,kW⟩
      exact AllReadyH.nil
     exact AllReadyH.nil
    exact AllReadyH.nil
   exact AllReadyH.nil
  refine AllReadyH.cons (o:=⟨some 3,_,_,_,_,_⟩) rfl (fun K hK=> ?_) ?_
  ·have kL:=below_alloc (wA) (.cells #[.bool false,.slice none 0 0] 45)
   have hzA:=hzA.below kL
   have z3:ZB ((wA).alloc (.cells #[.bool false,.slice none 0 0] 45)) (wA.heap.size) false none 0 0:=(by simpa using zb_new (wA) false none 0 0)
   have hb3:w2.heap.size≤wA.heap.size:=by have h9:=kW.size;first|exact h9|(simp at h9 ⊢;omega)|simp
   have kW:=grow_step kL kW
   go_simp
   refine hK.out _ _ ?_ ?_
   ·(try dsimp only);exact tq3 x2 kW
   clear hK K hHeld;intro hHeld
   (try simp only[pz])
   generalize (wA).alloc (.cells #[.bool false,.slice none 0 0] 45)=wL3 at*
   refine wpAnyH_ready (rs:=[2,4]) k_f (by simp) ?_
   refine AllReadyH.cons (o:=⟨some 19,_,_,_,_,_⟩) rfl (fun K hK=> ?_) ?_
   ·go_simp
    go_at_call 143;refine Calls.mono (common_n (N0:=[]) (m:=0) (B:=B+n+1) (Below.refl _ _) (Pr.below (hPn.out.pr.mono o_m) kW) (World.ownsRow_nil _ _ _ _) rfl (fun x hx=>by cases hx) o_m o_m o_m) ?_;rintro e wB ⟨sB,aB,lB,cB,rfl,hzB,hlB,kB⟩
    have z3:=z3.below kB
    have hzA:=hzA.below kB
    have kW:=grow_step kB kW
    (try go_wp2_with fail)
    refine hK.out _ _ ?_ ?_
    ·(try dsimp only);exact tq3 x2 kW
    clear hK K hHeld;intro hHeld
    (try simp only[pz])
    refine ryz 4 (some 4) (fun K hK=> ?_) ?_
    ·have kL:=below_alloc (wB) (.cells #[.bool false,.slice none 0 0] 45)
     have hne:wA.heap.size≠wB.heap.size:=by have h9:=z3.lt;first|omega|(simp at h9 ⊢;omega)|(simp at h9 ⊢)
     have z3:=z3.below kL
     have hzA:=hzA.below kL
     have hzB:=hzB.below kL
     have z4:ZB ((wB).alloc (.cells #[.bool false,.slice none 0 0] 45)) (wB.heap.size) false none 0 0:=(by simpa using zb_new (wB) false none 0 0)
     have hb4:w2.heap.size≤wB.heap.size:=by have h9:=kW.size;first|exact h9|(simp at h9 ⊢;omega)|simp
     have kW:=grow_step kL kW
     go_simp
     refine hK.out _ _ ?_ ?_
     ·(try dsimp only);exact tq3 x2 kW
     clear hK K hHeld;intro hHeld
     (try simp only[pz])
     generalize (wB).alloc (.cells #[.bool false,.slice none 0 0] 45)=wL4 at*
     refine ryz 5 none (fun K hK=> ?_) ?_
     ·have f0:=z3.c0
      have f1:=z3.c1
      have f2:=z3.f 0
      have f3:=z3.f 1
      go_simp
      have hzA:=zb_zn z3 hzA sA aA lA cA
      have hzB:=zb_zn z3 hzB sA aA lA cA
      have z4:=z4.only (only2 _ _ (.bool sA) (.slice aA lA cA)) hne.symm
      have z3:=zb_fin z3 sA aA lA cA
      have kW:=(kW.setCell (p:=⟨wA.heap.size,0,none⟩) hb3 (.bool sA)).setCell (p:=⟨wA.heap.size,1,none⟩) hb3 (.slice aA lA cA)
      refine hK.out _ _ ?_ ?_
      ·(try dsimp only);exact tq3 x2 kW
      clear hK K hHeld;intro hHeld
      (try simp only[pz])
      refine ryz 6 none (fun K hK=> ?_) ?_
      ·have f0:=z4.c0
       have f1:=z4.c1
       have f2:=z4.f 0
       have f3:=z4.f 1
       go_simp
       have hzA:=zb_zn z4 hzA sB aB lB cB
       have hzB:=zb_zn z4 hzB sB aB lB cB
       have z3:=z3.only (only2 _ _ (.bool sB) (.slice aB lB cB)) hne
       have z4:=zb_fin z4 sB aB lB cB
       have kW:=(kW.setCell (p:=⟨wB.heap.size,0,none⟩) hb4 (.bool sB)).setCell (p:=⟨wB.heap.size,1,none⟩) hb4 (.slice aB lB cB)
       refine hK.out _ _ ?_ ?_
       ·(try dsimp only);exact tq3 x2 kW
       clear hK K hHeld;intro hHeld
       (try simp only[pz])
       refine wpAnyH_done k_f ?_ _
       exact⟨rfl,_,_,sA,aA,lA,cA,sB,aB,lB,cB,rfl,z3,z4,hzA,hlA,hzB,hlB,hne,hb3,hb4,kW⟩
      exact AllReadyH.nil
     exact AllReadyH.nil
    exact AllReadyH.nil
   refine AllReadyH.cons (o:=⟨some 4,_,_,_,_,_⟩) rfl (fun K hK=> ?_) ?_
   ·have kL:=below_alloc (wL3) (.cells #[.bool false,.slice none 0 0] 45)
    have hne:wA.heap.size≠wL3.heap.size:=by have h9:=z3.lt;first|omega|(simp at h9 ⊢;omega)|(simp at h9 ⊢)
    have z3:=z3.below kL
    have hzA:=hzA.below kL
    have z4:ZB ((wL3).alloc (.cells #[.bool false,.slice none 0 0] 45)) (wL3.heap.size) false none 0 0:=(by simpa using zb_new (wL3) false none 0 0)
    have hb4:w2.heap.size≤wL3.heap.size:=by have h9:=kW.size;first|exact h9|(simp at h9 ⊢;omega)|simp
    have kW:=grow_step kL kW
    go_simp
    refine hK.out _ _ ?_ ?_
    ·(try dsimp only);exact tq3 x2 kW
    clear hK K hHeld;intro hHeld
    (try simp only[pz])
    generalize (wL3).alloc (.cells #[.bool false,.slice none 0 0] 45)=wL4 at*
    refine ryz 2 (some 19) (fun K hK=> ?_) ?_
    ·go_simp
     go_at_call 143;refine Calls.mono (common_n (N0:=[]) (m:=0) (B:=B+n+1) (Below.refl _ _) (Pr.below (hPn.out.pr.mono o_m) kW) (World.ownsRow_nil _ _ _ _) rfl (fun x hx=>by cases hx) o_m o_m o_m) ?_;rintro e wB ⟨sB,aB,lB,cB,rfl,hzB,hlB,kB⟩
     have z3:=z3.below kB
     have z4:=z4.below kB
     have hzA:=hzA.below kB
     have kW:=grow_step kB kW
     (try go_wp2_with fail)
     refine hK.out _ _ ?_ ?_
     ·(try dsimp only);exact tq3 x2 kW
     clear hK K hHeld;intro hHeld
     (try simp only[pz])
     refine ryz 5 none (fun K hK=> ?_) ?_
     ·have f0:=z3.c0
      have f1:=z3.c1
      have f2:=z3.f 0
      have f3:=z3.f 1
      go_simp
      have hzA:=zb_zn z3 hzA sA aA lA cA
      have hzB:=zb_zn z3 hzB sA aA lA cA
      have z4:=z4.only (only2 _ _ (.bool sA) (.slice aA lA cA)) hne.symm
      have z3:=zb_fin z3 sA aA lA cA
      have kW:=(kW.setCell (p:=⟨wA.heap.size,0,none⟩) hb3 (.bool sA)).setCell (p:=⟨wA.heap.size,1,none⟩) hb3 (.slice aA lA cA)
      refine hK.out _ _ ?_ ?_
      ·(try dsimp only);exact tq3 x2 kW
      clear hK K hHeld;intro hHeld
      (try simp only[pz])
      refine ryz 6 none (fun K hK=> ?_) ?_
      ·have f0:=z4.c0
       have f1:=z4.c1
       have f2:=z4.f 0
       have f3:=z4.f 1
       go_simp
       have hzA:=zb_zn z4 hzA sB aB lB cB
       have hzB:=zb_zn z4 hzB sB aB lB cB
       have z3:=z3.only (only2 _ _ (.bool sB) (.slice aB lB cB)) hne
       have z4:=zb_fin z4 sB aB lB cB
       have kW:=(kW.setCell (p:=⟨wL3.heap.size,0,none⟩) hb4 (.bool sB)).setCell (p:=⟨wL3.heap.size,1,none⟩) hb4 (.slice aB lB cB)
       refine hK.out _ _ ?_ ?_
       ·(try dsimp only);exact tq3 x2 kW
       clear hK K hHeld;intro hHeld
       (try simp only[pz])
       refine wpAnyH_done k_f ?_ _
       exact⟨rfl,_,_,sA,aA,lA,cA,sB,aB,lB,cB,rfl,z3,z4,hzA,hlA,hzB,hlB,hne,hb3,hb4,kW⟩
      exact AllReadyH.nil
     exact AllReadyH.nil
    exact AllReadyH.nil
   exact AllReadyH.nil
  refine AllReadyH.cons (o:=⟨some 4,_,_,_,_,_⟩) rfl (fun K hK=> ?_) ?_
  ·have kL:=below_alloc (wA) (.cells #[.bool false,.slice none 0 0] 45)
   have hzA:=hzA.below kL
   have z4:ZB ((wA).alloc (.cells #[.bool false,.slice none 0 0] 45)) (wA.heap.size) false none 0 0:=(by simpa using zb_new (wA) false none 0 0)
   have hb4:w2.heap.size≤wA.heap.size:=by have h9:=kW.size;first|exact h9|(simp at h9 ⊢;omega)|simp
   have kW:=grow_step kL kW
   go_simp
   refine hK.out _ _ ?_ ?_
   ·(try dsimp only);exact tq3 x2 kW
   clear hK K hHeld;intro hHeld
   (try simp only[pz])
   generalize (wA).alloc (.cells #[.bool false,.slice none 0 0] 45)=wL4 at*
   refine wpAnyH_ready (rs:=[2,3]) k_f (by simp) ?_
   refine AllReadyH.cons (o:=⟨some 19,_,_,_,_,_⟩) rfl (fun K hK=> ?_) ?_
   ·go_simp
    go_at_call 143;refine Calls.mono (common_n (N0:=[]) (m:=0) (B:=B+n+1) (Below.refl _ _) (Pr.below (hPn.out.pr.mono o_m) kW) (World.ownsRow_nil _ _ _ _) rfl (fun x hx=>by cases hx) o_m o_m o_m) ?_;rintro e wB ⟨sB,aB,lB,cB,rfl,hzB,hlB,kB⟩
    have z4:=z4.below kB
    have hzA:=hzA.below kB
    have kW:=grow_step kB kW
    (try go_wp2_with fail)
    refine hK.out _ _ ?_ ?_
    ·(try dsimp only);exact tq3 x2 kW
    clear hK K hHeld;intro hHeld
    (try simp only[pz])
    refine ryz 3 (some 3) (fun K hK=> ?_) ?_
    ·have kL:=below_alloc (wB) (.cells #[.bool false,.slice none 0 0] 45)
     have hne:wB.heap.size≠wA.heap.size:=by have h9:=z4.lt;first|omega|(simp at h9 ⊢;omega)|(simp at h9 ⊢)
     have z4:=z4.below kL
     have hzA:=hzA.below kL
     have hzB:=hzB.below kL
     have z3:ZB ((wB).alloc (.cells #[.bool false,.slice none 0 0] 45)) (wB.heap.size) false none 0 0:=(by simpa using zb_new (wB) false none 0 0)
     have hb3:w2.heap.size≤wB.heap.size:=by have h9:=kW.size;first|exact h9|(simp at h9 ⊢;omega)|simp
     have kW:=grow_step kL kW
     go_simp
     refine hK.out _ _ ?_ ?_
     ·(try dsimp only);exact tq3 x2 kW
     clear hK K hHeld;intro hHeld
     (try simp only[pz])
     generalize (wB).alloc (.cells #[.bool false,.slice none 0 0] 45)=wL3 at*
     refine ryz 5 none (fun K hK=> ?_) ?_
     ·have f0:=z3.c0
      have f1:=z3.c1
      have f2:=z3.f 0
      have f3:=z3.f 1
      go_simp
      have hzA:=zb_zn z3 hzA sA aA lA cA
      have hzB:=zb_zn z3 hzB sA aA lA cA
      have z4:=z4.only (only2 _ _ (.bool sA) (.slice aA lA cA)) hne.symm
      have z3:=zb_fin z3 sA aA lA cA
      have kW:=(kW.setCell (p:=⟨wB.heap.size,0,none⟩) hb3 (.bool sA)).setCell (p:=⟨wB.heap.size,1,none⟩) hb3 (.slice aA lA cA)
      refine hK.out _ _ ?_ ?_
      ·(try dsimp only);exact tq3 x2 kW
      clear hK K hHeld;intro hHeld
      (try simp only[pz])
      refine ryz 6 none (fun K hK=> ?_) ?_
      ·have f0:=z4.c0
       have f1:=z4.c1
       have f2:=z4.f 0
       have f3:=z4.f 1
       go_simp
       have hzA:=zb_zn z4 hzA sB aB lB cB
       have hzB:=zb_zn z4 hzB sB aB lB cB
       have z3:=z3.only (only2 _ _ (.bool sB) (.slice aB lB cB)) hne
       have z4:=zb_fin z4 sB aB lB cB
       have kW:=(kW.setCell (p:=⟨wA.heap.size,0,none⟩) hb4 (.bool sB)).setCell (p:=⟨wA.heap.size,1,none⟩) hb4 (.slice aB lB cB)
       refine hK.out _ _ ?_ ?_
       ·(try dsimp only);exact tq3 x2 kW
       clear hK K hHeld;intro hHeld
       (try simp only[pz])
       refine wpAnyH_done k_f ?_ _
       exact⟨rfl,_,_,sA,aA,lA,cA,sB,aB,lB,cB,rfl,z3,z4,hzA,hlA,hzB,hlB,hne,hb3,hb4,kW⟩
      exact AllReadyH.nil
     exact AllReadyH.nil
    exact AllReadyH.nil
   refine AllReadyH.cons (o:=⟨some 3,_,_,_,_,_⟩) rfl (fun K hK=> ?_) ?_
   ·have kL:=below_alloc (wL4) (.cells #[.bool false,.slice none 0 0] 45)
    have hne:wL4.heap.size≠wA.heap.size:=by have h9:=z4.lt;first|omega|(simp at h9 ⊢;omega)|(simp at h9 ⊢)
    have z4:=z4.below kL
    have hzA:=hzA.below kL
    have z3:ZB ((wL4).alloc (.cells #[.bool false,.slice none 0 0] 45)) (wL4.heap.size) false none 0 0:=(by simpa using zb_new (wL4) false none 0 0)
    have hb3:w2.heap.size≤wL4.heap.size:=by have h9:=kW.size;first|exact h9|(simp at h9 ⊢;omega)|simp
    have kW:=grow_step kL kW
    go_simp
    refine hK.out _ _ ?_ ?_
    ·(try dsimp only);exact tq3 x2 kW
    clear hK K hHeld;intro hHeld
    (try simp only[pz])
    generalize (wL4).alloc (.cells #[.bool false,.slice none 0 0] 45)=wL3 at*
    refine ryz 2 (some 19) (fun K hK=> ?_) ?_
    ·go_simp
     go_at_call 143;refine Calls.mono (common_n (N0:=[]) (m:=0) (B:=B+n+1) (Below.refl _ _) (Pr.below (hPn.out.pr.mono o_m) kW) (World.ownsRow_nil _ _ _ _) rfl (fun x hx=>by cases hx) o_m o_m o_m) ?_;rintro e wB ⟨sB,aB,lB,cB,rfl,hzB,hlB,kB⟩
     have z3:=z3.below kB
     have z4:=z4.below kB
     have hzA:=hzA.below kB
     have kW:=grow_step kB kW
     (try go_wp2_with fail)
     refine hK.out _ _ ?_ ?_
     ·(try dsimp only);exact tq3 x2 kW
     clear hK K hHeld;intro hHeld
     (try simp only[pz])
     refine ryz 5 none (fun K hK=> ?_) ?_
     ·have f0:=z3.c0
      have f1:=z3.c1
      have f2:=z3.f 0
      have f3:=z3.f 1
      go_simp
      have hzA:=zb_zn z3 hzA sA aA lA cA
      have hzB:=zb_zn z3 hzB sA aA lA cA
      have z4:=z4.only (only2 _ _ (.bool sA) (.slice aA lA cA)) hne.symm
      have z3:=zb_fin z3 sA aA lA cA
      have kW:=(kW.setCell (p:=⟨wL4.heap.size,0,none⟩) hb3 (.bool sA)).setCell (p:=⟨wL4.heap.size,1,none⟩) hb3 (.slice aA lA cA)
      refine hK.out _ _ ?_ ?_
      ·(try dsimp only);exact tq3 x2 kW
      clear hK K hHeld;intro hHeld
      (try simp only[pz])
      refine ryz 6 none (fun K hK=> ?_) ?_
      ·have f0:=z4.c0
       have f1:=z4.c1
       have f2:=z4.f 0
       have f3:=z4.f 1
       go_simp
       have hzA:=zb_zn z4 hzA sB aB lB cB
       have hzB:=zb_zn z4 hzB sB aB lB cB
       have z3:=z3.only (only2 _ _ (.bool sB) (.slice aB lB cB)) hne
       have z4:=zb_fin z4 sB aB lB cB
       have kW:=(kW.setCell (p:=⟨wA.heap.size,0,none⟩) hb4 (.bool sB)).setCell (p:=⟨wA.heap.size,1,none⟩) hb4 (.slice aB lB cB)
       refine hK.out _ _ ?_ ?_
       ·(try dsimp only);exact tq3 x2 kW
       clear hK K hHeld;intro hHeld
       (try simp only[pz])
       refine wpAnyH_done k_f ?_ _
       exact⟨rfl,_,_,sA,aA,lA,cA,sB,aB,lB,cB,rfl,z3,z4,hzA,hlA,hzB,hlB,hne,hb3,hb4,kW⟩
      exact AllReadyH.nil
     exact AllReadyH.nil
    exact AllReadyH.nil
   exact AllReadyH.nil
  exact AllReadyH.nil
 refine AllReadyH.cons (o:=⟨some 3,_,_,_,_,_⟩) rfl (fun K hK=> ?_) ?_
 ·have kL:=below_alloc (wD) (.cells #[.bool false,.slice none 0 0] 45)
  have z3:ZB ((wD).alloc (.cells #[.bool false,.slice none 0 0] 45)) (wD.heap.size) false none 0 0:=(by simpa using zb_new (wD) false none 0 0)
  have hb3:w2.heap.size≤wD.heap.size:=by have h9:=kW.size;first|exact h9|(simp at h9 ⊢;omega)|simp
  have kW:=grow_step kL kW
  go_simp
  refine hK.out _ _ ?_ ?_
  ·(try dsimp only);exact tq3 x2 kW
  clear hK K hHeld;intro hHeld
  (try simp only[pz])
  generalize (wD).alloc (.cells #[.bool false,.slice none 0 0] 45)=wL3 at*
  refine wpAnyH_ready (rs:=[0,4]) k_f (by simp) ?_
  refine AllReadyH.cons (o:=⟨some 17,_,_,_,_,_⟩) rfl (fun K hK=> ?_) ?_
  ·go_simp
   go_at_call 59;refine Calls.mono (zof_n 1 (by decide) (by decide) _) ?_;rintro e wA ⟨sA,aA,lA,cA,rfl,hzA,kA,hlA⟩
   have z3:=z3.below kA
   have kW:=grow_step kA kW
   (try go_wp2_with fail)
   refine hK.out _ _ ?_ ?_
   ·(try dsimp only);exact tq3 x2 kW
   clear hK K hHeld;intro hHeld
   (try simp only[pz])
   refine wpAnyH_ready (rs:=[2,4]) k_f (by simp) ?_
   refine AllReadyH.cons (o:=⟨some 19,_,_,_,_,_⟩) rfl (fun K hK=> ?_) ?_
   ·go_simp
    go_at_call 143;refine Calls.mono (common_n (N0:=[]) (m:=0) (B:=B+n+1) (Below.refl _ _) (Pr.below (hPn.out.pr.mono o_m) kW) (World.ownsRow_nil _ _ _ _) rfl (fun x hx=>by cases hx) o_m o_m o_m) ?_;rintro e wB ⟨sB,aB,lB,cB,rfl,hzB,hlB,kB⟩
    have z3:=z3.below kB
    have hzA:=hzA.below kB
    have kW:=grow_step kB kW
    (try go_wp2_with fail)
    refine hK.out _ _ ?_ ?_
    ·(try dsimp only);exact tq3 x2 kW
    clear hK K hHeld;intro hHeld
    (try simp only[pz])
    refine ryz 4 (some 4) (fun K hK=> ?_) ?_
    ·have kL:=below_alloc (wB) (.cells #[.bool false,.slice none 0 0] 45)
     have hne:wD.heap.size≠wB.heap.size:=by have h9:=z3.lt;first|omega|(simp at h9 ⊢;omega)|(simp at h9 ⊢)
     have z3:=z3.below kL
     have hzA:=hzA.below kL
     have hzB:=hzB.below kL
     have z4:ZB ((wB).alloc (.cells #[.bool false,.slice none 0 0] 45)) (wB.heap.size) false none 0 0:=(by simpa using zb_new (wB) false none 0 0)
     have hb4:w2.heap.size≤wB.heap.size:=by have h9:=kW.size;first|exact h9|(simp at h9 ⊢;omega)|simp
     have kW:=grow_step kL kW
     go_simp
     refine hK.out _ _ ?_ ?_
     ·(try dsimp only);exact tq3 x2 kW
     clear hK K hHeld;intro hHeld
     (try simp only[pz])
     generalize (wB).alloc (.cells #[.bool false,.slice none 0 0] 45)=wL4 at*
     refine ryz 5 none (fun K hK=> ?_) ?_
     ·have f0:=z3.c0
      have f1:=z3.c1
      have f2:=z3.f 0
      have f3:=z3.f 1
      go_simp
      have hzA:=zb_zn z3 hzA sA aA lA cA
      have hzB:=zb_zn z3 hzB sA aA lA cA
      have z4:=z4.only (only2 _ _ (.bool sA) (.slice aA lA cA)) hne.symm
      have z3:=zb_fin z3 sA aA lA cA
      have kW:=(kW.setCell (p:=⟨wD.heap.size,0,none⟩) hb3 (.bool sA)).setCell (p:=⟨wD.heap.size,1,none⟩) hb3 (.slice aA lA cA)
      refine hK.out _ _ ?_ ?_
      ·(try dsimp only);exact tq3 x2 kW
      clear hK K hHeld;intro hHeld
      (try simp only[pz])
      refine ryz 6 none (fun K hK=> ?_) ?_
      ·have f0:=z4.c0
       have f1:=z4.c1
       have f2:=z4.f 0
       have f3:=z4.f 1
       go_simp
       have hzA:=zb_zn z4 hzA sB aB lB cB
       have hzB:=zb_zn z4 hzB sB aB lB cB
       have z3:=z3.only (only2 _ _ (.bool sB) (.slice aB lB cB)) hne
       have z4:=zb_fin z4 sB aB lB cB
       have kW:=(kW.setCell (p:=⟨wB.heap.size,0,none⟩) hb4 (.bool sB)).setCell (p:=⟨wB.heap.size,1,none⟩) hb4 (.slice aB lB cB)
       refine hK.out _ _ ?_ ?_
       ·(try dsimp only);exact tq3 x2 kW
       clear hK K hHeld;intro hHeld
       (try simp only[pz])
       refine wpAnyH_done k_f ?_ _
       exact⟨rfl,_,_,sA,aA,lA,cA,sB,aB,lB,cB,rfl,z3,z4,hzA,hlA,hzB,hlB,hne,hb3,hb4,kW⟩
      exact AllReadyH.nil
     exact AllReadyH.nil
    exact AllReadyH.nil
   refine AllReadyH.cons (o:=⟨some 4,_,_,_,_,_⟩) rfl (fun K hK=> ?_) ?_
   ·have kL:=below_alloc (wA) (.cells #[.bool false,.slice none 0 0] 45)
    have hne:wD.heap.size≠wA.heap.size:=by have h9:=z3.lt;first|omega|(simp at h9 ⊢;omega)|(simp at h9 ⊢)
    have z3:=z3.below kL
    have hzA:=hzA.below kL
    have z4:ZB ((wA).alloc (.cells #[.bool false,.slice none 0 0] 45)) (wA.heap.size) false none 0 0:=(by simpa using zb_new (wA) false none 0 0)
    have hb4:w2.heap.size≤wA.heap.size:=by have h9:=kW.size;first|exact h9|(simp at h9 ⊢;omega)|simp
    have kW:=grow_step kL kW
    go_simp
    refine hK.out _ _ ?_ ?_
    ·(try dsimp only);exact tq3 x2 kW
    clear hK K hHeld;intro hHeld
    (try simp only[pz])
    generalize (wA).alloc (.cells #[.bool false,.slice none 0 0] 45)=wL4 at*
    refine ryz 2 (some 19) (fun K hK=> ?_) ?_
    ·go_simp
     go_at_call 143;refine Calls.mono (common_n (N0:=[]) (m:=0) (B:=B+n+1) (Below.refl _ _) (Pr.below (hPn.out.pr.mono o_m) kW) (World.ownsRow_nil _ _ _ _) rfl (fun x hx=>by cases hx) o_m o_m o_m) ?_;rintro e wB ⟨sB,aB,lB,cB,rfl,hzB,hlB,kB⟩
     have z3:=z3.below kB
     have z4:=z4.below kB
     have hzA:=hzA.below kB
     have kW:=grow_step kB kW
     (try go_wp2_with fail)
     refine hK.out _ _ ?_ ?_
     ·(try dsimp only);exact tq3 x2 kW
     clear hK K hHeld;intro hHeld
     (try simp only[pz])
     refine ryz 5 none (fun K hK=> ?_) ?_
     ·have f0:=z3.c0
      have f1:=z3.c1
      have f2:=z3.f 0
      have f3:=z3.f 1
      go_simp
      have hzA:=zb_zn z3 hzA sA aA lA cA
      have hzB:=zb_zn z3 hzB sA aA lA cA
      have z4:=z4.only (only2 _ _ (.bool sA) (.slice aA lA cA)) hne.symm
      have z3:=zb_fin z3 sA aA lA cA
      have kW:=(kW.setCell (p:=⟨wD.heap.size,0,none⟩) hb3 (.bool sA)).setCell (p:=⟨wD.heap.size,1,none⟩) hb3 (.slice aA lA cA)
      refine hK.out _ _ ?_ ?_
      ·(try dsimp only);exact tq3 x2 kW
      clear hK K hHeld;intro hHeld
      (try simp only[pz])
      refine ryz 6 none (fun K hK=> ?_) ?_
      ·have f0:=z4.c0
       have f1:=z4.c1
       have f2:=z4.f 0
       have f3:=z4.f 1
       go_simp
       have hzA:=zb_zn z4 hzA sB aB lB cB
       have hzB:=zb_zn z4 hzB sB aB lB cB
       have z3:=z3.only (only2 _ _ (.bool sB) (.slice aB lB cB)) hne
       have z4:=zb_fin z4 sB aB lB cB
       have kW:=(kW.setCell (p:=⟨wA.heap.size,0,none⟩) hb4 (.bool sB)).setCell (p:=⟨wA.heap.size,1,none⟩) hb4 (.slice aB lB cB)
       refine hK.out _ _ ?_ ?_
       ·(try dsimp only);exact tq3 x2 kW
       clear hK K hHeld;intro hHeld
       (try simp only[pz])
       refine wpAnyH_done k_f ?_ _
       exact⟨rfl,_,_,sA,aA,lA,cA,sB,aB,lB,cB,rfl,z3,z4,hzA,hlA,hzB,hlB,hne,hb3,hb4,kW⟩
      exact AllReadyH.nil
     exact AllReadyH.nil
    exact AllReadyH.nil
   exact AllReadyH.nil
  refine AllReadyH.cons (o:=⟨some 4,_,_,_,_,_⟩) rfl (fun K hK=> ?_) ?_
  ·have kL:=below_alloc (wL3) (.cells #[.bool false,.slice none 0 0] 45)
   have hne:wD.heap.size≠wL3.heap.size:=by have h9:=z3.lt;first|omega|(simp at h9 ⊢;omega)|(simp at h9 ⊢)
   have z3:=z3.below kL
   have z4:ZB ((wL3).alloc (.cells #[.bool false,.slice none 0 0] 45)) (wL3.heap.size) false none 0 0:=(by simpa using zb_new (wL3) false none 0 0)
   have hb4:w2.heap.size≤wL3.heap.size:=by have h9:=kW.size;first|exact h9|(simp at h9 ⊢;omega)|simp
   have kW:=grow_step kL kW
   go_simp
   refine hK.out _ _ ?_ ?_
   ·(try dsimp only);exact tq3 x2 kW
   clear hK K hHeld;intro hHeld
   (try simp only[pz])
   generalize (wL3).alloc (.cells #[.bool false,.slice none 0 0] 45)=wL4 at*
   refine ryz 0 (some 17) (fun K hK=> ?_) ?_
   ·go_simp
    go_at_call 59;refine Calls.mono (zof_n 1 (by decide) (by decide) _) ?_;rintro e wA ⟨sA,aA,lA,cA,rfl,hzA,kA,hlA⟩
    have z3:=z3.below kA
    have z4:=z4.below kA
    have kW:=grow_step kA kW
    (try go_wp2_with fail)
    refine hK.out _ _ ?_ ?_
    ·(try dsimp only);exact tq3 x2 kW
    clear hK K hHeld;intro hHeld
    (try simp only[pz])
    refine ryz 2 (some 19) (fun K hK=> ?_) ?_
    ·go_simp
     go_at_call 143;refine Calls.mono (common_n (N0:=[]) (m:=0) (B:=B+n+1) (Below.refl _ _) (Pr.below (hPn.out.pr.mono o_m) kW) (World.ownsRow_nil _ _ _ _) rfl (fun x hx=>by cases hx) o_m o_m o_m) ?_;rintro e wB ⟨sB,aB,lB,cB,rfl,hzB,hlB,kB⟩
     have z3:=z3.below kB
     have z4:=z4.below kB
     have hzA:=hzA.below kB
     have kW:=grow_step kB kW
     (try go_wp2_with fail)
     refine hK.out _ _ ?_ ?_
     ·(try dsimp only);exact tq3 x2 kW
     clear hK K hHeld;intro hHeld
     (try simp only[pz])
     refine ryz 5 none (fun K hK=> ?_) ?_
     ·have f0:=z3.c0
      have f1:=z3.c1
      have f2:=z3.f 0
      have f3:=z3.f 1
      go_simp
      have hzA:=zb_zn z3 hzA sA aA lA cA
      have hzB:=zb_zn z3 hzB sA aA lA cA
      have z4:=z4.only (only2 _ _ (.bool sA) (.slice aA lA cA)) hne.symm
      have z3:=zb_fin z3 sA aA lA cA
      have kW:=(kW.setCell (p:=⟨wD.heap.size,0,none⟩) hb3 (.bool sA)).setCell (p:=⟨wD.heap.size,1,none⟩) hb3 (.slice aA lA cA)
      refine hK.out _ _ ?_ ?_
      ·(try dsimp only);exact tq3 x2 kW
      clear hK K hHeld;intro hHeld
      (try simp only[pz])
      refine ryz 6 none (fun K hK=> ?_) ?_
      ·have f0:=z4.c0
       have f1:=z4.c1
       have f2:=z4.f 0
       have f3:=z4.f 1
       go_simp
       have hzA:=zb_zn z4 hzA sB aB lB cB
       have hzB:=zb_zn z4 hzB sB aB lB cB
       have z3:=z3.only (only2 _ _ (.bool sB) (.slice aB lB cB)) hne
       have z4:=zb_fin z4 sB aB lB cB
       have kW:=(kW.setCell (p:=⟨wL3.heap.size,0,none⟩) hb4 (.bool sB)).setCell (p:=⟨wL3.heap.size,1,none⟩) hb4 (.slice aB lB cB)
       refine hK.out _ _ ?_ ?_
       ·(try dsimp only);exact tq3 x2 kW
       clear hK K hHeld;intro hHeld
       (try simp only[pz])
       refine wpAnyH_done k_f ?_ _
       exact⟨rfl,_,_,sA,aA,lA,cA,sB,aB,lB,cB,rfl,z3,z4,hzA,hlA,hzB,hlB,hne,hb3,hb4,kW⟩
      exact AllReadyH.nil
     exact AllReadyH.nil
    exact AllReadyH.nil
   exact AllReadyH.nil
  exact AllReadyH.nil
 refine AllReadyH.cons (o:=⟨some 4,_,_,_,_,_⟩) rfl (fun K hK=> ?_) ?_
 ·have kL:=below_alloc (wD) (.cells #[.bool false,.slice none 0 0] 45)
  have z4:ZB ((wD).alloc (.cells #[.bool false,.slice none 0 0] 45)) (wD.heap.size) false none 0 0:=(by simpa using zb_new (wD) false none 0 0)
  have hb4:w2.heap.size≤wD.heap.size:=by have h9:=kW.size;first|exact h9|(simp at h9 ⊢;omega)|simp
  have kW:=grow_step kL kW
  go_simp
  refine hK.out _ _ ?_ ?_
  ·(try dsimp only);exact tq3 x2 kW
  clear hK K hHeld;intro hHeld
  (try simp only[pz])
  generalize (wD).alloc (.cells #[.bool false,.slice none 0 0] 45)=wL4 at*
  refine wpAnyH_ready (rs:=[0,3]) k_f (by simp) ?_
  refine AllReadyH.cons (o:=⟨some 17,_,_,_,_,_⟩) rfl (fun K hK=> ?_) ?_
  ·go_simp
   go_at_call 59;refine Calls.mono (zof_n 1 (by decide) (by decide) _) ?_;rintro e wA ⟨sA,aA,lA,cA,rfl,hzA,kA,hlA⟩
   have z4:=z4.below kA
   have kW:=grow_step kA kW
   (try go_wp2_with fail)
   refine hK.out _ _ ?_ ?_
   ·(try dsimp only);exact tq3 x2 kW
   clear hK K hHeld;intro hHeld
   (try simp only[pz])
   refine wpAnyH_ready (rs:=[2,3]) k_f (by simp) ?_
   refine AllReadyH.cons (o:=⟨some 19,_,_,_,_,_⟩) rfl (fun K hK=> ?_) ?_
   ·go_simp
    go_at_call 143;refine Calls.mono (common_n (N0:=[]) (m:=0) (B:=B+n+1) (Below.refl _ _) (Pr.below (hPn.out.pr.mono o_m) kW) (World.ownsRow_nil _ _ _ _) rfl (fun x hx=>by cases hx) o_m o_m o_m) ?_;rintro e wB ⟨sB,aB,lB,cB,rfl,hzB,hlB,kB⟩
    have z4:=z4.below kB
    have hzA:=hzA.below kB
    have kW:=grow_step kB kW
    (try go_wp2_with fail)
    refine hK.out _ _ ?_ ?_
    ·(try dsimp only);exact tq3 x2 kW
    clear hK K hHeld;intro hHeld
    (try simp only[pz])
    refine ryz 3 (some 3) (fun K hK=> ?_) ?_
    ·have kL:=below_alloc (wB) (.cells #[.bool false,.slice none 0 0] 45)
     have hne:wB.heap.size≠wD.heap.size:=by have h9:=z4.lt;first|omega|(simp at h9 ⊢;omega)|(simp at h9 ⊢)
     have z4:=z4.below kL
     have hzA:=hzA.below kL
     have hzB:=hzB.below kL
     have z3:ZB ((wB).alloc (.cells #[.bool false,.slice none 0 0] 45)) (wB.heap.size) false none 0 0:=(by simpa using zb_new (wB) false none 0 0)
     have hb3:w2.heap.size≤wB.heap.size:=by have h9:=kW.size;first|exact h9|(simp at h9 ⊢;omega)|simp
     have kW:=grow_step kL kW
     go_simp
     refine hK.out _ _ ?_ ?_
     ·(try dsimp only);exact tq3 x2 kW
     clear hK K hHeld;intro hHeld
     (try simp only[pz])
     generalize (wB).alloc (.cells #[.bool false,.slice none 0 0] 45)=wL3 at*
     refine ryz 5 none (fun K hK=> ?_) ?_
     ·have f0:=z3.c0
      have f1:=z3.c1
      have f2:=z3.f 0
      have f3:=z3.f 1
      go_simp
      have hzA:=zb_zn z3 hzA sA aA lA cA
      have hzB:=zb_zn z3 hzB sA aA lA cA
      have z4:=z4.only (only2 _ _ (.bool sA) (.slice aA lA cA)) hne.symm
      have z3:=zb_fin z3 sA aA lA cA
      have kW:=(kW.setCell (p:=⟨wB.heap.size,0,none⟩) hb3 (.bool sA)).setCell (p:=⟨wB.heap.size,1,none⟩) hb3 (.slice aA lA cA)
      refine hK.out _ _ ?_ ?_
      ·(try dsimp only);exact tq3 x2 kW
      clear hK K hHeld;intro hHeld
      (try simp only[pz])
      refine ryz 6 none (fun K hK=> ?_) ?_
      ·have f0:=z4.c0
       have f1:=z4.c1
       have f2:=z4.f 0
       have f3:=z4.f 1
       go_simp
       have hzA:=zb_zn z4 hzA sB aB lB cB
       have hzB:=zb_zn z4 hzB sB aB lB cB
       have z3:=z3.only (only2 _ _ (.bool sB) (.slice aB lB cB)) hne
       have z4:=zb_fin z4 sB aB lB cB
       have kW:=(kW.setCell (p:=⟨wD.heap.size,0,none⟩) hb4 (.bool sB)).setCell (p:=⟨wD.heap.size,1,none⟩) hb4 (.slice aB lB cB)
       refine hK.out _ _ ?_ ?_
       ·(try dsimp only);exact tq3 x2 kW
       clear hK K hHeld;intro hHeld
       (try simp only[pz])
       refine wpAnyH_done k_f ?_ _
       exact⟨rfl,_,_,sA,aA,lA,cA,sB,aB,lB,cB,rfl,z3,z4,hzA,hlA,hzB,hlB,hne,hb3,hb4,kW⟩
      exact AllReadyH.nil
     exact AllReadyH.nil
    exact AllReadyH.nil
   refine AllReadyH.cons (o:=⟨some 3,_,_,_,_,_⟩) rfl (fun K hK=> ?_) ?_
   ·have kL:=below_alloc (wA) (.cells #[.bool false,.slice none 0 0] 45)
    have hne:wA.heap.size≠wD.heap.size:=by have h9:=z4.lt;first|omega|(simp at h9 ⊢;omega)|(simp at h9 ⊢)
    have z4:=z4.below kL
    have hzA:=hzA.below kL
    have z3:ZB ((wA).alloc (.cells #[.bool false,.slice none 0 0] 45)) (wA.heap.size) false none 0 0:=(by simpa using zb_new (wA) false none 0 0)
    have hb3:w2.heap.size≤wA.heap.size:=by have h9:=kW.size;first|exact h9|(simp at h9 ⊢;omega)|simp
    have kW:=grow_step kL kW
    go_simp
    refine hK.out _ _ ?_ ?_
    ·(try dsimp only);exact tq3 x2 kW
    clear hK K hHeld;intro hHeld
    (try simp only[pz])
    generalize (wA).alloc (.cells #[.bool false,.slice none 0 0] 45)=wL3 at*
    refine ryz 2 (some 19) (fun K hK=> ?_) ?_
    ·go_simp
     go_at_call 143;refine Calls.mono (common_n (N0:=[]) (m:=0) (B:=B+n+1) (Below.refl _ _) (Pr.below (hPn.out.pr.mono o_m) kW) (World.ownsRow_nil _ _ _ _) rfl (fun x hx=>by cases hx) o_m o_m o_m) ?_;rintro e wB ⟨sB,aB,lB,cB,rfl,hzB,hlB,kB⟩
     have z3:=z3.below kB
     have z4:=z4.below kB
     have hzA:=hzA.below kB
     have kW:=grow_step kB kW
     (try go_wp2_with fail)
     refine hK.out _ _ ?_ ?_
     ·(try dsimp only);exact tq3 x2 kW
     clear hK K hHeld;intro hHeld
     (try simp only[pz])
     refine ryz 5 none (fun K hK=> ?_) ?_
     ·have f0:=z3.c0
      have f1:=z3.c1
      have f2:=z3.f 0
      have f3:=z3.f 1
      go_simp
      have hzA:=zb_zn z3 hzA sA aA lA cA
      have hzB:=zb_zn z3 hzB sA aA lA cA
      have z4:=z4.only (only2 _ _ (.bool sA) (.slice aA lA cA)) hne.symm
      have z3:=zb_fin z3 sA aA lA cA
      have kW:=(kW.setCell (p:=⟨wA.heap.size,0,none⟩) hb3 (.bool sA)).setCell (p:=⟨wA.heap.size,1,none⟩) hb3 (.slice aA lA cA)
      refine hK.out _ _ ?_ ?_
      ·(try dsimp only);exact tq3 x2 kW
      clear hK K hHeld;intro hHeld
      (try simp only[pz])
      refine ryz 6 none (fun K hK=> ?_) ?_
      ·have f0:=z4.c0
       have f1:=z4.c1
       have f2:=z4.f 0
       have f3:=z4.f 1
       go_simp
       have hzA:=zb_zn z4 hzA sB aB lB cB
       have hzB:=zb_zn z4 hzB sB aB lB cB
       have z3:=z3.only (only2 _ _ (.bool sB) (.slice aB lB cB)) hne
       have z4:=zb_fin z4 sB aB lB cB
       have kW:=(kW.setCell (p:=⟨wD.heap.size,0,none⟩) hb4 (.bool sB)).setCell (p:=⟨wD.heap.size,1,none⟩) hb4 (.slice aB lB cB)
       refine hK.out _ _ ?_ ?_
       ·(try dsimp only);exact tq3 x2 kW
       clear hK K hHeld;intro hHeld
       (try simp only[pz])
       refine wpAnyH_done k_f ?_ _
       exact⟨rfl,_,_,sA,aA,lA,cA,sB,aB,lB,cB,rfl,z3,z4,hzA,hlA,hzB,hlB,hne,hb3,hb4,kW⟩
      exact AllReadyH.nil
     exact AllReadyH.nil
    exact AllReadyH.nil
   exact AllReadyH.nil
  refine AllReadyH.cons (o:=⟨some 3,_,_,_,_,_⟩) rfl (fun K hK=> ?_) ?_
  ·have kL:=below_alloc (wL4) (.cells #[.bool false,.slice none 0 0] 45)
   have hne:wL4.heap.size≠wD.heap.size:=by have h9:=z4.lt;first|omega|(simp at h9 ⊢;omega)|(simp at h9 ⊢)
   have z4:=z4.below kL
   have z3:ZB ((wL4).alloc (.cells #[.bool false,.slice none 0 0] 45)) (wL4.heap.size) false none 0 0:=(by simpa using zb_new (wL4) false none 0 0)
   have hb3:w2.heap.size≤wL4.heap.size:=by have h9:=kW.size;first|exact h9|(simp at h9 ⊢;omega)|simp
   have kW:=grow_step kL kW
   go_simp
   refine hK.out _ _ ?_ ?_
   ·(try dsimp only);exact tq3 x2 kW
   clear hK K hHeld;intro hHeld
   (try simp only[pz])
   generalize (wL4).alloc (.cells #[.bool false,.slice none 0 0] 45)=wL3 at*
   refine ryz 0 (some 17) (fun K hK=> ?_) ?_
   ·go_simp
    go_at_call 59;refine Calls.mono (zof_n 1 (by decide) (by decide) _) ?_;rintro e wA ⟨sA,aA,lA,cA,rfl,hzA,kA,hlA⟩
    have z3:=z3.below kA
    have z4:=z4.below kA
    have kW:=grow_step kA kW
    (try go_wp2_with fail)
    refine hK.out _ _ ?_ ?_
    ·(try dsimp only);exact tq3 x2 kW
    clear hK K hHeld;intro hHeld
    (try simp only[pz])
    refine ryz 2 (some 19) (fun K hK=> ?_) ?_
    ·go_simp
     go_at_call 143;refine Calls.mono (common_n (N0:=[]) (m:=0) (B:=B+n+1) (Below.refl _ _) (Pr.below (hPn.out.pr.mono o_m) kW) (World.ownsRow_nil _ _ _ _) rfl (fun x hx=>by cases hx) o_m o_m o_m) ?_;rintro e wB ⟨sB,aB,lB,cB,rfl,hzB,hlB,kB⟩
     have z3:=z3.below kB
     have z4:=z4.below kB
     have hzA:=hzA.below kB
     have kW:=grow_step kB kW
     (try go_wp2_with fail)
     refine hK.out _ _ ?_ ?_
     ·(try dsimp only);exact tq3 x2 kW
     clear hK K hHeld;intro hHeld
     (try simp only[pz])
     refine ryz 5 none (fun K hK=> ?_) ?_
     ·have f0:=z3.c0
      have f1:=z3.c1
      have f2:=z3.f 0
      have f3:=z3.f 1
      go_simp
      have hzA:=zb_zn z3 hzA sA aA lA cA
      have hzB:=zb_zn z3 hzB sA aA lA cA
      have z4:=z4.only (only2 _ _ (.bool sA) (.slice aA lA cA)) hne.symm
      have z3:=zb_fin z3 sA aA lA cA
      have kW:=(kW.setCell (p:=⟨wL4.heap.size,0,none⟩) hb3 (.bool sA)).setCell (p:=⟨wL4.heap.size,1,none⟩) hb3 (.slice aA lA cA)
      refine hK.out _ _ ?_ ?_
      ·(try dsimp only);exact tq3 x2 kW
      clear hK K hHeld;intro hHeld
      (try simp only[pz])
      refine ryz 6 none (fun K hK=> ?_) ?_
      ·have f0:=z4.c0
       have f1:=z4.c1
       have f2:=z4.f 0
       have f3:=z4.f 1
       go_simp
       have hzA:=zb_zn z4 hzA sB aB lB cB
       have hzB:=zb_zn z4 hzB sB aB lB cB
       have z3:=z3.only (only2 _ _ (.bool sB) (.slice aB lB cB)) hne
       have z4:=zb_fin z4 sB aB lB cB
       have kW:=(kW.setCell (p:=⟨wD.heap.size,0,none⟩) hb4 (.bool sB)).setCell (p:=⟨wD.heap.size,1,none⟩) hb4 (.slice aB lB cB)
       refine hK.out _ _ ?_ ?_
       ·(try dsimp only);exact tq3 x2 kW
       clear hK K hHeld;intro hHeld
       (try simp only[pz])
       refine wpAnyH_done k_f ?_ _
       exact⟨rfl,_,_,sA,aA,lA,cA,sB,aB,lB,cB,rfl,z3,z4,hzA,hlA,hzB,hlB,hne,hb3,hb4,kW⟩
      exact AllReadyH.nil
     exact AllReadyH.nil
    exact AllReadyH.nil
   exact AllReadyH.nil
  exact AllReadyH.nil
 exact AllReadyH.nil
end Go.Proofs.YtllfelooahplhaaGreatDoor
