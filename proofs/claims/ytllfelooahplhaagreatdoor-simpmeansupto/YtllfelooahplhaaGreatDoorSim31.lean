/-
 Several texts in one: B6,B7,BB.
-/
import Derived.Test.YtllfelooahplhaaGreatDoorSimT
import Derived.Test.YtllfelooahplhaaGreatDoorSim30
import Derived.Test.YtllfelooahplhaaGreatDoorSim23
set_option maxRecDepth 100000
set_option maxHeartbeats 6400000
namespace Go.Proofs.YtllfelooahplhaaGreatDoor
open Go.RowKit Go.Sort Go.Shelf
open Tm At

def AB (w:World)(r:Nat)(kd:Int)(s:Bool)(a:Option Addr)(l c:Nat)(ad:Option Addr)(n cp:Nat)(t:Bool)(b:Option Addr)(m d:Nat):Prop:=
 w.heap[r]? =some (.cells #[.int .i64 kd,.bool s,.slice a l c,.slice ad n cp,.bool t,.slice b m d] 69 (0,0))
namespace AB
variable {w w':World}{r:Nat}{kd:Int}{s:Bool}{a:Option Addr}{l c:Nat}{ad:Option Addr}{n cp:Nat}{t:Bool}{b:Option Addr}{m d:Nat}
theorem lt (h:AB w r kd s a l c ad n cp t b m d):r<w.heap.size:=(Array.getElem?_eq_some_iff.1 h).1
theorem c0 (h:AB w r kd s a l c ad n cp t b m d):w.cell? ⟨r,0,none⟩=some (.int .i64 kd):=cell_of_row w r 0 _ _ (0,0) h
theorem c1 (h:AB w r kd s a l c ad n cp t b m d):w.cell? ⟨r,1,none⟩=some (.bool s):=cell_of_row w r 1 _ _ (0,0) h
theorem c2 (h:AB w r kd s a l c ad n cp t b m d):w.cell? ⟨r,2,none⟩=some (.slice a l c):=cell_of_row w r 2 _ _ (0,0) h
theorem c3 (h:AB w r kd s a l c ad n cp t b m d):w.cell? ⟨r,3,none⟩=some (.slice ad n cp):=cell_of_row w r 3 _ _ (0,0) h
theorem c4 (h:AB w r kd s a l c ad n cp t b m d):w.cell? ⟨r,4,none⟩=some (.bool t):=cell_of_row w r 4 _ _ (0,0) h
theorem c5 (h:AB w r kd s a l c ad n cp t b m d):w.cell? ⟨r,5,none⟩=some (.slice b m d):=cell_of_row w r 5 _ _ (0,0) h
theorem f (h:AB w r kd s a l c ad n cp t b m d)(i:Nat):w.frozen? ⟨r,i,none⟩=false:=frozen_of_row w r i _ _ h
theorem below (h:AB w r kd s a l c ad n cp t b m d)(hb:Below w.heap.size w w'):AB w' r kd s a l c ad n cp t b m d:=(hb.block r h.lt).trans h
theorem new (w:World)(kd:Int)(s:Bool)(a:Option Addr)(l c:Nat)(ad:Option Addr)(n cp:Nat)(t:Bool)(b:Option Addr)(m d:Nat):AB (w.alloc (.cells #[.int .i64 kd,.bool s,.slice a l c,.slice ad n cp,.bool t,.slice b m d] 69)) w.heap.size kd s a l c ad n cp t b m d:=heap_alloc_new w _
end AB

theorem aq5 {w w':World}{p b:Nat}{kd:Int}{s:Bool}{a:Option Addr}{l c:Nat}{ad:Option Addr}{n cp:Nat}{t:Bool}{a5:Option Addr}{m d:Nat}{s2:Bool}{a2:Option Addr}{l2 c2:Nat}(x:AB w p kd s a l c ad n cp t a5 m d)(z:ZB w b s2 a2 l2 c2)(k:Below w.heap.size w w'):
  w'.cell? ⟨p,3,none⟩=some (.slice ad n cp)∧w'.cell? ⟨p,4,none⟩=some (.bool t)∧w'.cell? ⟨p,5,none⟩=some (.slice a5 m d)∧w'.cell? ⟨b,0,none⟩=some (.bool s2)∧w'.cell? ⟨b,1,none⟩=some (.slice a2 l2 c2)∧Below w.heap.size w w':=
 ⟨(x.below k).c3,(x.below k).c4,(x.below k).c5,(z.below k).c0,(z.below k).c1,k⟩

theorem zb2_set (w:World)(b:Nat)(v0 v1:Value):w.grownBy ((w.setCell ⟨b,0,none⟩ v0).setCell ⟨b,1,none⟩ v1) (some b):=gb_trans (gb_set w b 0 v0) (gb_set _ b 1 v1)
theorem zb2_noU {w:World}{b:Nat}{s:Bool}{a:Option Addr}{l c:Nat}(y:ZB w b s a l c):NoU w b:=by
 intro off x
 rw[cell_of_row w b off _ _ (0,0) y]
 match off with
 |0=>simp
 |1=>simp
 |k+2=>simp

theorem zq2 {w w':World}{b:Nat}{s:Bool}{a:Option Addr}{l c:Nat}(z:ZB w b s a l c)(k:Below w.heap.size w w'):w'.cell? ⟨b,0,none⟩=some (.bool s)∧w'.cell? ⟨b,1,none⟩=some (.slice a l c)∧Below w.heap.size w w':=⟨(z.below k).c0,(z.below k).c1,k⟩
theorem tq5 {w w':World}{p b:Nat}{ad:Option Addr}{n cp:Nat}{s:Bool}{a:Option Addr}{l c:Nat}{s2:Bool}{a2:Option Addr}{l2 c2:Nat}(x:TB w p ad n cp s a l c)(z:ZB w b s2 a2 l2 c2)(k:Below w.heap.size w w'):
  w'.cell? ⟨p,0,none⟩=some (.slice ad n cp)∧w'.cell? ⟨p,1,none⟩=some (.bool s)∧w'.cell? ⟨p,2,none⟩=some (.slice a l c)∧w'.cell? ⟨b,0,none⟩=some (.bool s2)∧w'.cell? ⟨b,1,none⟩=some (.slice a2 l2 c2)∧Below w.heap.size w w':=
 ⟨(x.below k).c0,(x.below k).c1,(x.below k).c2,(z.below k).c0,(z.below k).c1,k⟩
def AE (w:World)(e:Ending)(f:Atm)(B B0:Nat):Prop:=
 ∃sd ad ld cd ap np cp sk ak lk ck,e= .returned (.tuple #[.agg #[.int .i64 f.kind,.bool sd,.slice ad ld cd,.slice ap np cp,.bool sk,.slice ak lk ck],.int .i64 0])∧Zn w sd ad ld cd f.d∧ld≤B∧Pn w ap np f.ps B∧np≤B∧Zn w sk ak lk ck f.k∧lk≤B∧∀b off,ap=some ⟨b,off,none⟩→B0≤b

theorem divi_n {w:World}{kd:Int}{sd:Bool}{ad:Option Addr}{ld cd:Nat}{ap:Option Addr}{np cp:Nat}{sk:Bool}{ak:Option Addr}{lk ck:Nat}{d k:Int}{ps:List (Int × Int)}{B:Nat}{al ne:Int}
  (hd:Zm w sd ad ld cd d)(hld:ld≤B)(hP:Pr w ap np ps B)(hk:Zm w sk ak lk ck k)(hlk:lk≤B)(hn:np≤262144)(hB:B+np+1≤4194000)(hal:al=if kd=3 then 1 else 0)(hne:ne=if kd=3 then 0 else 1)(hd0:d≠0):
  Calls Tryz.prog 134 #[.agg #[.int .i64 kd,.bool sd,.slice ad ld cd,.slice ap np cp,.bool sk,.slice ak lk ck],.int .i64 al,.int .i64 ne] w fun e w'=> ∃qs,Std qs∧(∀v,csum qs v=csum ps v)∧AE w' e (divF kd d qs k) (B+np+16) w.heap.size∧Below w.heap.size w w':=by
 have eg: ∀args w,(callFunc 175 args).run Tryz.prog w= .ok (.enter 175 args) w:=enters_of Tryz.func175 k_f rfl
 have eg2: ∀args w,(callFunc 176 args).run Tryz.prog w= .ok (.enter 176 args) w:=enters_of Tryz.func176 k_f rfl
 replace eg:=hide eg
 replace eg2:=hide eg2
 replace hal:=hide hal
 replace hne:=hide hne
 go_enter Tryz.func134,Tryz.ntmps134
 go_wp2_with fail
 have x:=(AB.new w kd sd ad ld cd ap np cp sk ak lk ck).below (below_alloc _ (.cells #[.int .i64 0,.bool false,.slice none 0 0,.slice none 0 0,.bool false,.slice none 0 0] 69))
 have y:=AB.new (w.alloc (.cells #[.int .i64 kd,.bool sd,.slice ad ld cd,.slice ap np cp,.bool sk,.slice ak lk ck] 69)) 0 false none 0 0 none 0 0 false none 0 0
 rw[show(w.alloc (.cells #[.int .i64 kd,.bool sd,.slice ad ld cd,.slice ap np cp,.bool sk,.slice ak lk ck] 69)).heap.size=w.heap.size+1 from by simp]at y
 have b0:Below w.heap.size w ((w.alloc (.cells #[.int .i64 kd,.bool sd,.slice ad ld cd,.slice ap np cp,.bool sk,.slice ak lk ck] 69)).alloc (.cells #[.int .i64 0,.bool false,.slice none 0 0,.slice none 0 0,.bool false,.slice none 0 0] 69)):=below_alloc' (below_alloc _ _) _
 generalize (w.alloc (.cells #[.int .i64 kd,.bool sd,.slice ad ld cd,.slice ap np cp,.bool sk,.slice ak lk ck] 69)).alloc (.cells #[.int .i64 0,.bool false,.slice none 0 0,.slice none 0 0,.bool false,.slice none 0 0] 69)=wb at*
 replace hP:=hP.below b0
 replace hd:=hd.below b0
 replace hk:=hk.below b0
 generalize hp:w.heap.size=p at*
 replace b0:Hid (Below w.heap.size w wb):=hp▸b0
 have hpr:Hid (w.heap.size=p∧p<p+1):=⟨hp,by omega⟩
 clear hp
 generalize p+1=r at*
 refine(zsign_n hd o_m).mono ?_
 rintro e w1 ⟨rfl,k1⟩
 have hsg:(cmpI d 0==0)=false:=by rw[beq_eq_false_iff_ne];unfold cmpI;split <;> (try split) <;> omega
 generalize cmpI d 0=cz at*
 replace x:=x.below k1
 replace y:=y.below k1
 replace hP:=hP.below k1
 replace hd:=hd.below k1
 replace hk:=hk.below k1
 replace k1:=hide (grow_step k1 b0.out)
 clear b0
 have u1:=x.c1
 have u2:=x.c2
 go_wp2_with fail
 refine(abs_n hd o_m).mono ?_
 rintro e w2 ⟨s2,a2,l2,c2,rfl,hd2,k2,hl2⟩
 have hpb:p<w2.heap.size:=(x.below k2).lt
 have hrb:r<w2.heap.size:=(y.below k2).lt
 have z2:=zb_new w2 s2 a2 l2 c2
 have kz:=below_alloc w2 (.cells #[.bool s2,.slice a2 l2 c2] 45)
 replace x:=(x.below k2).below kz
 replace y:=(y.below k2).below kz
 replace hP:=(hP.below k2).below kz
 replace hk:=(hk.below k2).below kz
 replace hd2:=hd2.below kz
 replace k2:=hide (grow_step kz (grow_step k2 k1.out))
 clear u1 u2 hd k1 kz hsg
 generalize hb2:w2.heap.size=b2 at*
 go_wp2_with fail
 generalize w2.alloc (.cells #[.bool s2,.slice a2 l2 c2] 45)=wD at*
 have hb2D:=z2.lt
 have hD0:(0:Int)<((d.natAbs:Nat):Int):=by omega
 refine Code.wp_mono (Q:=fun e a' W'=>e= .normal∧∃b9 adA nA cpA sA aA lA cA adB nB cpB sB aB lB cB qs,a'=⟨List.toArray ((.agg #[.int .i64 kd,.bool sd,.slice ad ld cd,.slice ap np cp,.bool sk,.slice ak lk ck]:Value)::(.int .i64 al:Value)::(.int .i64 ne:Value)::(.pointer (some ⟨p,0,none⟩):Value)::undef::undef::(.pointer (some ⟨r,0,none⟩):Value)::(.int .i64 0:Value)::(.pointer (some ⟨b2,0,none⟩):Value)::(.pointer (some ⟨b9,0,none⟩):Value)::undef::undef::(.pointer (some ⟨p,1,none⟩):Value)::(.agg #[.bool sd,.slice ad ld cd]:Value)::(.int .i64 cz:Value)::(.bool false:Value)::undef::(.pointer (some ⟨p,1,none⟩):Value)::(.agg #[.bool sd,.slice ad ld cd]:Value)::(.agg #[.bool s2,.slice a2 l2 c2]:Value)::(.pointer (some ⟨p,3,none⟩):Value)::(.agg #[.slice ap np cp,.bool sk,.slice ak lk ck]:Value)::(.agg #[.slice adA nA cpA,.bool sA,.slice aA lA cA]:Value)::(.agg #[.bool s2,.slice a2 l2 c2]:Value)::(.agg #[.slice adB nB cpB,.bool sB,.slice aB lB cB]:Value)::undef::undef::undef::undef::undef::undef::undef::undef::undef::undef::undef::undef::undef::undef::undef::undef::undef::undef::undef::undef::undef::undef::undef::undef::undef::undef::undef::undef::undef::undef::undef::undef::undef::undef::undef::undef::undef:: []),[]⟩∧TB W' b9 adB nB cpB sB aB lB cB∧Pn W' adB nB (eachP (fun x=>x%((d.natAbs:Nat):Int)) qs) l2∧Zn W' sB aB lB cB (k%((d.natAbs:Nat):Int))∧lB≤l2∧nB≤np∧(∀b off,adB=some ⟨b,off,none⟩→wD.heap.size≤b)∧Std qs∧(∀v,csum qs v=csum ps v)∧wD.heap.size≤b9∧Below wD.heap.size wD W') ?_ ?_
 rotate_left
 ·refine wp_region_held_drew (S:=(fun w'=>w'.cell? ⟨p,3,none⟩=some (.slice ap np cp)∧w'.cell? ⟨p,4,none⟩=some (.bool sk)∧w'.cell? ⟨p,5,none⟩=some (.slice ak lk ck)∧w'.cell? ⟨b2,0,none⟩=some (.bool s2)∧w'.cell? ⟨b2,1,none⟩=some (.slice a2 l2 c2)∧Below wD.heap.size wD w')) k_f (aq5 x z2 (grow_drew (Below.refl _ _))) (fun hHeld=> ?_)
  show wpAnyH _ _ _ _ _ 7 _ _ _
  have kW:=grow_drew (Below.refl wD.heap.size wD)
  generalize wD.drew=wQ at*
  refine wpAnyH_take (i:=0) (oi:=⟨some 20,_,_,_,_,_⟩) (v:=?_) rfl k_f k_f k_f (fun _ _ _ h=>by cases h.1) (Or.inl ⟨by rfl,?_⟩) (by assumption) ?_
  rotate_left
  ·intro wq hSw;(try dsimp only at hSw);go_simp;(try with_reducible rfl)
  (try simp only[pz])
  refine wpAnyH_take (i:=1) (oi:=⟨some 21,_,_,_,_,_⟩) (v:=?_) rfl k_f k_f k_f (fun _ _ _ h=>by cases h.1) (Or.inl ⟨by rfl,?_⟩) (by assumption) ?_
  rotate_left
  ·intro wq hSw;(try dsimp only at hSw);go_simp;(try with_reducible rfl)
  (try simp only[pz])
  refine wpAnyH_take (i:=3) (oi:=⟨some 23,_,_,_,_,_⟩) (v:=?_) rfl k_f k_f k_f (fun _ _ _ h=>by cases h.1) (Or.inl ⟨by rfl,?_⟩) (by assumption) ?_
  rotate_left
  ·intro wq hSw;(try dsimp only at hSw);go_simp;(try with_reducible rfl)
  (try simp only[pz])
  refine wpAnyH_ready (rs:=[2,5]) k_f (by simp) ?_
  refine AllReadyH.cons (o:=⟨some 22,_,_,_,_,_⟩) rfl (fun K hK=> ?_) ?_
  ·go_simp
   go_at_call 69;refine Calls.mono (tnorm_n (hP.below kW) (hk.below kW) hlk o_m) ?_;rintro e wA ⟨adA,nA,cpA,sA,aA,lA,cA,rs,rfl,hTN,hnA,hStd,hcs⟩;have kA:=hTN.below;have hPA:=hTN.pn;have hZA:=hTN.zn;have hlA:=hTN.le;clear hTN;generalize rs.map Raw.p=qs at*
   have kW:=grow_step kA kW
   (try go_wp2_with fail)
   refine hK.out _ _ ?_ ?_
   ·(try dsimp only);exact aq5 x z2 kW
   clear hK K hHeld;intro hHeld
   (try simp only[pz])
   refine wpAnyH_ready (rs:=[4,5]) k_f (by simp) ?_
   refine AllReadyH.cons (o:=⟨some 24,_,_,_,_,_⟩) rfl (fun K hK=> ?_) ?_
   ·go_simp
    go_at_call 174;refine Calls.mono (modulo_n (B:=B+np+1) hPA.pr hZA.zm hlA (hd2.zm.below kW) hD0 o_m o_m o_m) ?_;rintro e wB ⟨adB,nB,cpB,sB,aB,lB,cB,rfl,hPB,hZB,hlB,hnB,hnewB,kB⟩;have hnew: ∀b off,adB=some ⟨b,off,none⟩→wD.heap.size≤b:=fun b off e=>Nat.le_trans kW.size (hnewB b off e)
    have hPA:=hPA.below kB
    have hZA:=hZA.below kB
    have kW:=grow_step kB kW
    (try go_wp2_with fail)
    refine hK.out _ _ ?_ ?_
    ·(try dsimp only);exact aq5 x z2 kW
    clear hK K hHeld;intro hHeld
    (try simp only[pz])
    refine ryz 5 (some 9) (fun K hK=> ?_) ?_
    ·have kL:=below_alloc (wB) (.cells #[.slice none 0 0,.bool false,.slice none 0 0] 47)
     have hPA:=hPA.below kL
     have hZA:=hZA.below kL
     have hPB:=hPB.below kL
     have hZB:=hZB.below kL
     have z9:TB ((wB).alloc (.cells #[.slice none 0 0,.bool false,.slice none 0 0] 47)) (wB.heap.size) none 0 0 false none 0 0:=tb_new _ _ _ _ _ _ _ _
     have hbz9:wD.heap.size≤wB.heap.size:=kW.size
     have kW:=grow_step kL kW
     go_simp
     refine hK.out _ _ ?_ ?_
     ·(try dsimp only);exact aq5 x z2 kW
     clear hK K hHeld;intro hHeld
     (try simp only[pz])
     generalize (wB).alloc (.cells #[.slice none 0 0,.bool false,.slice none 0 0] 47)=wLz9 at*
     refine ryz 6 none (fun K hK=> ?_) ?_
     ·skip
      have f0:=z9.c0
      have f1:=z9.c1
      have f2:=z9.c2
      have f3:=z9.f 0
      have f4:=z9.f 1
      have f5:=z9.f 2
      go_simp
      have gS:=tb_set wLz9 (wB.heap.size) (.slice adB nB cpB) (.bool sB) (.slice aB lB cB)
      have hPB:=hPB.tb z9 gS
      have hZB:=hZB.grownU gS (tb_noU z9)
      have z9:=tb_fin z9 adB nB cpB sB aB lB cB
      have kW:=((kW.setCell (p:=⟨wB.heap.size,0,none⟩) hbz9 (.slice adB nB cpB)).setCell (p:=⟨wB.heap.size,1,none⟩) hbz9 (.bool sB)).setCell (p:=⟨wB.heap.size,2,none⟩) hbz9 (.slice aB lB cB)
      refine hK.out _ _ ?_ ?_
      ·(try dsimp only);exact aq5 x z2 kW
      clear hK K hHeld;intro hHeld
      (try simp only[pz])
      refine wpAnyH_done k_f ?_ _
      exact⟨rfl,_,adA,nA,cpA,sA,aA,lA,cA,adB,nB,cpB,sB,aB,lB,cB,qs,rfl,z9,hPB,hZB,hlB,Nat.le_trans hnB hnA,hnew,hStd,hcs,hbz9,kW⟩
     exact AllReadyH.nil
    exact AllReadyH.nil
   refine AllReadyH.cons (o:=⟨some 9,_,_,_,_,_⟩) rfl (fun K hK=> ?_) ?_
   ·have kL:=below_alloc (wA) (.cells #[.slice none 0 0,.bool false,.slice none 0 0] 47)
    have hPA:=hPA.below kL
    have hZA:=hZA.below kL
    have z9:TB ((wA).alloc (.cells #[.slice none 0 0,.bool false,.slice none 0 0] 47)) (wA.heap.size) none 0 0 false none 0 0:=tb_new _ _ _ _ _ _ _ _
    have hbz9:wD.heap.size≤wA.heap.size:=kW.size
    have kW:=grow_step kL kW
    go_simp
    refine hK.out _ _ ?_ ?_
    ·(try dsimp only);exact aq5 x z2 kW
    clear hK K hHeld;intro hHeld
    (try simp only[pz])
    generalize (wA).alloc (.cells #[.slice none 0 0,.bool false,.slice none 0 0] 47)=wLz9 at*
    refine ryz 4 (some 24) (fun K hK=> ?_) ?_
    ·go_simp
     go_at_call 174;refine Calls.mono (modulo_n (B:=B+np+1) hPA.pr hZA.zm hlA (hd2.zm.below kW) hD0 o_m o_m o_m) ?_;rintro e wB ⟨adB,nB,cpB,sB,aB,lB,cB,rfl,hPB,hZB,hlB,hnB,hnewB,kB⟩;have hnew: ∀b off,adB=some ⟨b,off,none⟩→wD.heap.size≤b:=fun b off e=>Nat.le_trans kW.size (hnewB b off e)
     have hPA:=hPA.below kB
     have hZA:=hZA.below kB
     have z9:=z9.below kB
     have kW:=grow_step kB kW
     (try go_wp2_with fail)
     refine hK.out _ _ ?_ ?_
     ·(try dsimp only);exact aq5 x z2 kW
     clear hK K hHeld;intro hHeld
     (try simp only[pz])
     refine ryz 6 none (fun K hK=> ?_) ?_
     ·skip
      have f0:=z9.c0
      have f1:=z9.c1
      have f2:=z9.c2
      have f3:=z9.f 0
      have f4:=z9.f 1
      have f5:=z9.f 2
      go_simp
      have gS:=tb_set wB (wA.heap.size) (.slice adB nB cpB) (.bool sB) (.slice aB lB cB)
      have hPB:=hPB.tb z9 gS
      have hZB:=hZB.grownU gS (tb_noU z9)
      have z9:=tb_fin z9 adB nB cpB sB aB lB cB
      have kW:=((kW.setCell (p:=⟨wA.heap.size,0,none⟩) hbz9 (.slice adB nB cpB)).setCell (p:=⟨wA.heap.size,1,none⟩) hbz9 (.bool sB)).setCell (p:=⟨wA.heap.size,2,none⟩) hbz9 (.slice aB lB cB)
      refine hK.out _ _ ?_ ?_
      ·(try dsimp only);exact aq5 x z2 kW
      clear hK K hHeld;intro hHeld
      (try simp only[pz])
      refine wpAnyH_done k_f ?_ _
      exact⟨rfl,_,adA,nA,cpA,sA,aA,lA,cA,adB,nB,cpB,sB,aB,lB,cB,qs,rfl,z9,hPB,hZB,hlB,Nat.le_trans hnB hnA,hnew,hStd,hcs,hbz9,kW⟩
     exact AllReadyH.nil
    exact AllReadyH.nil
   exact AllReadyH.nil
  refine AllReadyH.cons (o:=⟨some 9,_,_,_,_,_⟩) rfl (fun K hK=> ?_) ?_
  ·have kL:=below_alloc (wQ) (.cells #[.slice none 0 0,.bool false,.slice none 0 0] 47)
   have z9:TB ((wQ).alloc (.cells #[.slice none 0 0,.bool false,.slice none 0 0] 47)) (wQ.heap.size) none 0 0 false none 0 0:=tb_new _ _ _ _ _ _ _ _
   have hbz9:wD.heap.size≤wQ.heap.size:=kW.size
   have kW:=grow_step kL kW
   go_simp
   refine hK.out _ _ ?_ ?_
   ·(try dsimp only);exact aq5 x z2 kW
   clear hK K hHeld;intro hHeld
   (try simp only[pz])
   generalize (wQ).alloc (.cells #[.slice none 0 0,.bool false,.slice none 0 0] 47)=wLz9 at*
   refine ryz 2 (some 22) (fun K hK=> ?_) ?_
   ·go_simp
    go_at_call 69;refine Calls.mono (tnorm_n (hP.below kW) (hk.below kW) hlk o_m) ?_;rintro e wA ⟨adA,nA,cpA,sA,aA,lA,cA,rs,rfl,hTN,hnA,hStd,hcs⟩;have kA:=hTN.below;have hPA:=hTN.pn;have hZA:=hTN.zn;have hlA:=hTN.le;clear hTN;generalize rs.map Raw.p=qs at*
    have z9:=z9.below kA
    have kW:=grow_step kA kW
    (try go_wp2_with fail)
    refine hK.out _ _ ?_ ?_
    ·(try dsimp only);exact aq5 x z2 kW
    clear hK K hHeld;intro hHeld
    (try simp only[pz])
    refine ryz 4 (some 24) (fun K hK=> ?_) ?_
    ·go_simp
     go_at_call 174;refine Calls.mono (modulo_n (B:=B+np+1) hPA.pr hZA.zm hlA (hd2.zm.below kW) hD0 o_m o_m o_m) ?_;rintro e wB ⟨adB,nB,cpB,sB,aB,lB,cB,rfl,hPB,hZB,hlB,hnB,hnewB,kB⟩;have hnew: ∀b off,adB=some ⟨b,off,none⟩→wD.heap.size≤b:=fun b off e=>Nat.le_trans kW.size (hnewB b off e)
     have z9:=z9.below kB
     have hPA:=hPA.below kB
     have hZA:=hZA.below kB
     have kW:=grow_step kB kW
     (try go_wp2_with fail)
     refine hK.out _ _ ?_ ?_
     ·(try dsimp only);exact aq5 x z2 kW
     clear hK K hHeld;intro hHeld
     (try simp only[pz])
     refine ryz 6 none (fun K hK=> ?_) ?_
     ·skip
      have f0:=z9.c0
      have f1:=z9.c1
      have f2:=z9.c2
      have f3:=z9.f 0
      have f4:=z9.f 1
      have f5:=z9.f 2
      go_simp
      have gS:=tb_set wB (wQ.heap.size) (.slice adB nB cpB) (.bool sB) (.slice aB lB cB)
      have hPB:=hPB.tb z9 gS
      have hZB:=hZB.grownU gS (tb_noU z9)
      have z9:=tb_fin z9 adB nB cpB sB aB lB cB
      have kW:=((kW.setCell (p:=⟨wQ.heap.size,0,none⟩) hbz9 (.slice adB nB cpB)).setCell (p:=⟨wQ.heap.size,1,none⟩) hbz9 (.bool sB)).setCell (p:=⟨wQ.heap.size,2,none⟩) hbz9 (.slice aB lB cB)
      refine hK.out _ _ ?_ ?_
      ·(try dsimp only);exact aq5 x z2 kW
      clear hK K hHeld;intro hHeld
      (try simp only[pz])
      refine wpAnyH_done k_f ?_ _
      exact⟨rfl,_,adA,nA,cpA,sA,aA,lA,cA,adB,nB,cpB,sB,aB,lB,cB,qs,rfl,z9,hPB,hZB,hlB,Nat.le_trans hnB hnA,hnew,hStd,hcs,hbz9,kW⟩
     exact AllReadyH.nil
    exact AllReadyH.nil
   exact AllReadyH.nil
  exact AllReadyH.nil
 rintro e a' W4 ⟨rfl,b9,adA,nA,cpA,sA,aA,lA,cA,adB,nB,cpB,sB,aB,lB,cB,qs,rfl,z9,hPB,hZB,hlB,hnB,hnew,hStd,hcs,hb9,k4⟩
 replace x:=x.below k4
 replace y:=y.below k4
 replace z2:=z2.below k4
 replace hd2:=hd2.below k4
 have K4:=hide (grow_step k4 k2.out)
 have hb29:b2<b9:=by have h1:=hb9;have h2:=(show b2<wD.heap.size from hb2D);omega
 clear hP hk k2 k4
 have u0:=z9.c0
 have u1:=z9.c1
 have u2:=z9.c2
 have u3:=z2.c0
 have u4:=z2.c1
 go_wp2_with fail
 have hrow:(W4.alloc (.cells #[.bool s2,.slice a2 l2 c2] 45)).ownsRow W4.heap.size 45 2 (.slice (some ⟨W4.heap.size,0,none⟩) 1 1) 1 ([(⟨0,s2,a2,l2,c2,((d.natAbs:Nat):Int)⟩:Raw)].flatMap encN):=
  ⟨rfl,.inr ⟨W4.heap.size,1,_,rfl,Nat.le_refl _,heap_alloc_new W4 _,Nat.le_refl _,by decide,rfl,rfl⟩⟩
 refine(common_n (w0:=W4) (below_alloc W4 _) hPB.pr hrow rfl (fun x hx=>by rw[List.mem_singleton.1 hx];exact⟨hd2.zm,Nat.le_refl _⟩) o_m o_m o_m).mono ?_
 rintro e W5 ⟨sG,aG,lG,cG,rfl,hG,hlG,k5⟩
 rw[show gcdZ ([(⟨0,s2,a2,l2,c2,((d.natAbs:Nat):Int)⟩:Raw)].map Raw.z)=d.natAbs from by simp[gcdZ]]at hG
 have zG:=zb_new W5 sG aG lG cG
 have kz:=below_alloc W5 (.cells #[.bool sG,.slice aG lG cG] 45)
 have kk:=grow_step kz k5
 have hb9W:b9<W5.heap.size:=(z9.below k5).lt
 replace x:=x.below kk
 replace y:=y.below kk
 replace z2:=z2.below kk
 replace z9:=z9.below kk
 replace hd2:=hd2.below kk
 replace hPB:=hPB.below kk
 replace hZB:=hZB.below kk
 replace hG:=hG.below kz
 replace K4:=hide (grow_step kk K4.out)
 clear u0 u1 u2 u3 u4 hrow k5 kz kk
 have u1:=z9.c1
 have u2:=z9.c2
 have u3:=zG.c0
 have u4:=zG.c1
 go_wp2_with fail
 generalize W5.alloc (.cells #[.bool sG,.slice aG lG cG] 45)=W6 at*
 generalize W5.heap.size=bG at*
 generalize hts:eachP (fun x=>x%((d.natAbs:Nat):Int)) qs=ts at*
 generalize hkD:k%((d.natAbs:Nat):Int)=kD at*
 have hGp:0<gcdL d.natAbs ts:=gcdL_pos (.inl o_m)
 generalize hGG:gcdL d.natAbs ts=G at*
 have hdF:Hid (divF kd d qs k=divG kd d.natAbs ts kD):=(show _=_ by unfold divF;rw[hts,hkD])
 replace hts:=hide hts
 replace hkD:=hide hkD
 replace hGG:=hide hGG
 have hlG9:lG≤1099511627776:=by
  have h1:(1+nB)*l2≤262145*4194000:=Nat.mul_le_mul o_m o_m
  omega
 clear hlG
 refine(divides_n hG.zm hZB.zm hlG9 o_m o_m).mono ?_
 rintro e W7 ⟨rfl,k7⟩
 replace x:=x.below k7
 replace y:=y.below k7
 replace z2:=z2.below k7
 replace z9:=z9.below k7
 replace zG:=zG.below k7
 replace hd2:=hd2.below k7
 replace hPB:=hPB.below k7
 replace hZB:=hZB.below k7
 replace hG:=hG.below k7
 replace K4:=hide (grow_step k7 K4.out)
 clear u1 u2 u3 u4 k7
 by_cases hdv:((G:Nat):Int)∣kD
 ·rw[show decide (((G:Nat):Int)∣kD)=true from by simp[hdv]]
  replace hdv:=hide hdv
  have u1:=z2.c0
  have u2:=z2.c1
  have u3:=zG.c0
  have u4:=zG.c1
  go_wp2_with fail
  refine(quotient_n hd2.zm hG.zm o_m hlG9 o_m).mono ?_
  rintro e W8 ⟨s3,a3,l3,c3,rfl,hd3,k8,hl3⟩
  replace x:=x.below k8
  replace y:=y.below k8
  replace z2:=z2.below k8
  replace z9:=z9.below k8
  replace zG:=zG.below k8
  replace hPB:=hPB.below k8
  replace hZB:=hZB.below k8
  replace hG:=hG.below k8
  replace K4:=hide (grow_step k8 K4.out)
  clear u1 u2 u3 u4 k8 hd2
  have v1:=z2.c0
  have v2:=z2.c1
  have v3:=z2.f 0
  have v4:=z2.f 1
  have g8:=zb2_set W8 b2 (.bool s3) (.slice a3 l3 c3)
  have hU:=zb2_noU z2
  have x8:AB _ p kd sd ad ld cd ap np cp sk ak lk ck:=(g8.block p x.lt (by simp;omega)).trans x
  have y8:AB _ r 0 false none 0 0 none 0 0 false none 0 0:=(g8.block r y.lt (by simp;omega)).trans y
  have z98:TB _ b9 adB nB cpB sB aB lB cB:=(g8.block b9 z9.lt (by simp;omega)).trans z9
  have zG8:ZB _ bG sG aG lG cG:=(g8.block bG zG.lt (by simp;omega)).trans zG
  have hd38:=zb_zn z2 hd3 s3 a3 l3 c3
  have z28:=zb_fin z2 s3 a3 l3 c3
  have hPB8:=hPB.away (fun b off e=>by have:=hnew b off e;omega) g8 hU
  have hZB8:=hZB.grownU g8 hU
  have hG8:=hG.grownU g8 hU
  have hwb2:w.heap.size≤b2:=by have:=hpr.out;omega
  have K8:=hide (below_grown K4.out g8 hwb2)
  clear x y z2 z9 zG hd3 hPB hZB hG K4 hU g8
  have HH:=hide (And.intro x8 (And.intro y8 (And.intro z98 (And.intro zG8 (And.intro hd38 (And.intro z28 (And.intro hPB8 (And.intro hZB8 hG8))))))))
  have u1:=z28.c0
  have u2:=z28.c1
  clear x8 y8 z98 zG8 hd38 z28 hPB8 hZB8 hG8
  go_wp2_with fail
  obtain⟨x,y,z9,zG,hd3,z2,hPB,hZB,hG⟩:=HH.out
  clear HH u1 u2
  generalize (W8.setCell ⟨b2,0,none⟩ (.bool s3)).setCell ⟨b2,1,none⟩ (.slice a3 l3 c3)=W9 at*
  generalize hDD:((d.natAbs:Nat):Int) / ((G:Nat):Int)=D1 at*
  replace hDD:=hide hDD
  by_cases hD1:D1=1
  ·have hcm:Hid (cmpI D1 1=0):=(show _=_ by unfold cmpI;rw[if_neg o_m,if_neg o_m])
   go_region_held3 (fun w'=>w'.cell? ⟨b2,0,none⟩=some (.bool s3)∧w'.cell? ⟨b2,1,none⟩=some (.slice a3 l3 c3)∧Below W9.heap.size W9 w')
    ((refine zq2 z2 ?_;(with_reducible repeat' first|exact Below.refl _ _|assumption|refine grow_step (by assumption) ?_|refine grow_drew ?_|refine grow_alloc ?_ _|refine grow_drewN ?_ _)))
    (first|(go_at_call 59;with_reducible refine(zof_n 1 (by decide) (by decide) _).mono ?_;rintro e w' ⟨s4,a4,l4,c4,rfl,z4,hg,hl4⟩)|(go_at_call 49;with_reducible refine(zcmp_n (Zn.zm (Zn.below hd3 gw)) (Zn.zm (Zn.below z4 gw)) (by omega) (by omega)).mono ?_;rintro e w'' ⟨rfl,hg2⟩;rw[hcm.out]))
   rename_i hH
   have kH:=hH.2.2
   have hfm:Hid (divF kd d qs k=⟨al,0,[],0⟩):=(show _=_ by rw[hdF.out];unfold divG;rw[hGG.out,if_neg (not_not_intro hdv.out),if_pos (hDD.out.trans hD1),hal.out])
   replace y:=y.below kH
   have K9:=hide (grow_step kH K8.out)
   clear hH kH hg hg2 hd3 hPB hZB hG x z9 zG z2 K8
   have e0:=y.c0
   have e1:=y.c1
   have e2:=y.c2
   have e3:=y.c3
   have e4:=y.c4
   have e5:=y.c5
   have f0:=y.f 0
   have f1:=y.f 1
   have f2:=y.f 2
   have f3:=y.f 3
   have f4:=y.f 4
   have f5:=y.f 5
   have g6:=ab_set w'' r (.int .i64 al) (.bool false) (.slice none 0 0) (.slice none 0 0) (.bool false) (.slice none 0 0)
   have kf:=hide (below_grown K9.out g6 (by have:=hpr.out;omega))
   have hfin:=hide (ab_fin y al false none 0 0 none 0 0 false none 0 0)
   replace hStd:=hide hStd
   replace hcs:=hide hcs
   go_wp2
   refine bodyPost_ret (results_ct rfl _ _ r 69 _ (0,0) _ rfl hfin.out Tryz.underlying69 rfl k_f) rfl ?_
   refine⟨qs,hStd.out,hcs.out,?_,kf.out⟩
   rw[hfm.out]
   exact⟨false,none,0,0,none,0,0,false,none,0,0,by simp,zn_zero _,by omega,pn_nil _ _ _,by omega,zn_zero _,by omega,fun _ _ h=>by cases h⟩
  obtain⟨cc,hcm,hc0⟩: ∃cc,Hid (cmpI D1 1=cc)∧(cc==0)=false:=⟨_,rfl,by rw[beq_eq_false_iff_ne];unfold cmpI;split <;> (try split) <;> omega⟩
  go_region_held3 (fun w'=>w'.cell? ⟨b2,0,none⟩=some (.bool s3)∧w'.cell? ⟨b2,1,none⟩=some (.slice a3 l3 c3)∧Below W9.heap.size W9 w')
   ((refine zq2 z2 ?_;(with_reducible repeat' first|exact Below.refl _ _|assumption|refine grow_step (by assumption) ?_|refine grow_drew ?_|refine grow_alloc ?_ _|refine grow_drewN ?_ _)))
   (first|(go_at_call 59;with_reducible refine(zof_n 1 (by decide) (by decide) _).mono ?_;rintro e w' ⟨s4,a4,l4,c4,rfl,z4,hg,hl4⟩)|(go_at_call 49;with_reducible refine(zcmp_n (Zn.zm (Zn.below hd3 gw)) (Zn.zm (Zn.below z4 gw)) (by omega) (by omega)).mono ?_;rintro e w'' ⟨rfl,hg2⟩;rw[hcm.out]))
  rename_i hH
  have kH:=hH.2.2
  have hfm:Hid (divF kd d qs k=fstF kd D1 (eachP (fun x=>x / ((G:Nat):Int)) ts) (kD / ((G:Nat):Int))):=(show _=_ by rw[hdF.out];unfold divG;rw[hGG.out,if_neg (not_not_intro hdv.out),hDD.out,if_neg hD1])
  replace x:=x.below kH
  replace y:=y.below kH
  replace z2:=z2.below kH
  replace z9:=z9.below kH
  replace zG:=zG.below kH
  replace hd3:=hd3.below kH
  replace hPB:=hPB.below kH
  replace hZB:=hZB.below kH
  replace hG:=hG.below kH
  have K9:=hide (grow_step kH K8.out)
  clear hH kH hg hg2 K8
  have u0:=z9.c0
  have u1:=z9.c1
  have u2:=z9.c2
  go_wp2_with fail
  generalize w''=WA at*
  refine(each_n (F:=fun x=>x / ((G:Nat):Int)) (C:=l2+3) (B:=l2) eg.out (fun w' s9 a9 l9 c9 z9 hb9 hz9 hl9=>(divi1_n (zG.below hb9) hz9 (hG.zm.below hb9) o_m hlG9 o_m).mono fun _ _ ⟨s',a',l',c',he,h1,h2,h3⟩=>⟨s',a',l',c',he,h1,h2,by omega⟩) hPB.pr hZB.zm hlB o_m o_m).mono ?_
  rintro e WB ⟨ad5,n5,cp5,s5,a5,l5,c5,rfl,hP5,hz5,hl5,hn5,hnew5,k5⟩
  have hWAs:b9<WA.heap.size:=z9.lt
  have hrA:r<WA.heap.size:=y.lt
  have hbGA:bG<WA.heap.size:=zG.lt
  replace x:=x.below k5
  replace y:=y.below k5
  replace z2:=z2.below k5
  replace z9:=z9.below k5
  replace hd3:=hd3.below k5
  have KB:=hide (grow_step k5 K9.out)
  clear u0 u1 u2 k5 K9 hPB hZB hG zG
  have v0:=z9.c0
  have v1:=z9.c1
  have v2:=z9.c2
  have v3:=z9.f 0
  have v4:=z9.f 1
  have v5:=z9.f 2
  have g8:=tb_set WB b9 (.slice ad5 n5 cp5) (.bool s5) (.slice a5 l5 c5)
  have x8:AB _ p kd sd ad ld cd ap np cp sk ak lk ck:=(g8.block p x.lt (by simp;omega)).trans x
  have y8:AB _ r 0 false none 0 0 none 0 0 false none 0 0:=(g8.block r y.lt (by simp;omega)).trans y
  have z28:ZB _ b2 s3 a3 l3 c3:=(g8.block b2 z2.lt (by simp;omega)).trans z2
  have hP8:=hP5.tb z9 g8
  have hz8:=hz5.grownU g8 (tb_noU z9)
  have hd8:=hd3.grownU g8 (tb_noU z9)
  have z98:=tb_fin z9 ad5 n5 cp5 s5 a5 l5 c5
  have hwb9:w.heap.size≤b9:=by have:=hpr.out;omega
  have KC:=hide (below_grown KB.out g8 hwb9)
  have HH:=hide (And.intro x8 (And.intro y8 (And.intro z28 (And.intro hP8 (And.intro hz8 (And.intro hd8 z98))))))
  clear x y z2 z9 hd3 hP5 hz5 KB g8 x8 y8 z28 hP8 hz8 hd8 z98
  go_wp2_with fail
  obtain⟨x,y,z2,hP5,hz5,hd3,z9⟩:=HH.out
  clear HH v0 v1 v2 v3 v4 v5
  generalize ((WB.setCell ⟨b9,0,none⟩ (.slice ad5 n5 cp5)).setCell ⟨b9,1,none⟩ (.bool s5)).setCell ⟨b9,2,none⟩ (.slice a5 l5 c5)=WC at*
  have hD1p:0<D1:=by
   have h1:G∣d.natAbs:=by have:=(gcdL_dvd d.natAbs ts).1;rwa [hGG.out]at this
   have h2:=Nat.div_pos (Nat.le_of_dvd o_m h1) hGp
   rw[←hDD.out]
   exact_mod_cast h2
  generalize hus:eachP (fun x=>x / ((G:Nat):Int)) ts=us at*
  generalize hkG:kD / ((G:Nat):Int)=kG at*
  refine Code.wp_mono (Q:=fun e a' W'=>e= .normal∧∃bO adN nN cpN sN aN lN cN adO nO cpO sO aO lO cO,a'=⟨List.toArray ((.agg #[.int .i64 kd,.bool sd,.slice ad ld cd,.slice ap np cp,.bool sk,.slice ak lk ck]:Value)::(.int .i64 al:Value)::(.int .i64 ne:Value)::(.pointer (some ⟨p,0,none⟩):Value)::undef::undef::(.pointer (some ⟨r,0,none⟩):Value)::(.int .i64 0:Value)::(.pointer (some ⟨b2,0,none⟩):Value)::(.pointer (some ⟨b9,0,none⟩):Value)::(.pointer (some ⟨bG,0,none⟩):Value)::(.pointer (some ⟨bO,0,none⟩):Value)::(.pointer (some ⟨p,1,none⟩):Value)::(.agg #[.bool sd,.slice ad ld cd]:Value)::(.int .i64 cz:Value)::(.bool false:Value)::undef::(.pointer (some ⟨p,1,none⟩):Value)::(.agg #[.bool sd,.slice ad ld cd]:Value)::(.agg #[.bool s2,.slice a2 l2 c2]:Value)::(.pointer (some ⟨p,3,none⟩):Value)::(.agg #[.slice ap np cp,.bool sk,.slice ak lk ck]:Value)::(.agg #[.slice adA nA cpA,.bool sA,.slice aA lA cA]:Value)::(.agg #[.bool s2,.slice a2 l2 c2]:Value)::(.agg #[.slice adB nB cpB,.bool sB,.slice aB lB cB]:Value)::(.agg #[.slice adB nB cpB,.bool sB,.slice aB lB cB]:Value)::(.agg #[.bool s2,.slice a2 l2 c2]:Value)::(.slice (some ⟨W4.heap.size,0,none⟩) 1 1:Value)::(.agg #[.bool sG,.slice aG lG cG]:Value)::(.agg #[.bool sG,.slice aG lG cG]:Value)::(.pointer (some ⟨b9,1,none⟩):Value)::(.agg #[.bool sB,.slice aB lB cB]:Value)::(.bool true:Value)::(.bool false:Value)::undef::undef::(.agg #[.bool s2,.slice a2 l2 c2]:Value)::(.agg #[.bool sG,.slice aG lG cG]:Value)::(.agg #[.bool s3,.slice a3 l3 c3]:Value)::(.agg #[.bool s3,.slice a3 l3 c3]:Value)::(.agg #[.bool s4,.slice a4 l4 c4]:Value)::(.int .i64 cc:Value)::(.bool false:Value)::undef::undef::(.agg #[.slice adB nB cpB,.bool sB,.slice aB lB cB]:Value)::(.func (.func 175) #[] #[.pointer (some ⟨bG,0,none⟩)]:Value)::(.agg #[.slice ad5 n5 cp5,.bool s5,.slice a5 l5 c5]:Value)::(.agg #[.slice ad5 n5 cp5,.bool s5,.slice a5 l5 c5]:Value)::(.agg #[.slice adN nN cpN,.bool sN,.slice aN lN cN]:Value)::(.agg #[.bool s3,.slice a3 l3 c3]:Value)::(.agg #[.slice adO nO cpO,.bool sO,.slice aO lO cO]:Value)::undef::undef::undef::undef::undef::undef::undef::undef::undef::undef:: []),[]⟩∧TB W' bO adO nO cpO sO aO lO cO∧Pn W' adO nO (oppP D1 us) l3∧Zn W' sO aO lO cO ((-kG)%D1)∧lO≤l3∧nO≤n5∧(∀b off,adO=some ⟨b,off,none⟩→WC.heap.size≤b)∧WC.heap.size≤bO∧Below WC.heap.size WC W') ?_ ?_
  rotate_left
  ·refine wp_region_held_drew (S:=(fun w'=>w'.cell? ⟨b9,0,none⟩=some (.slice ad5 n5 cp5)∧w'.cell? ⟨b9,1,none⟩=some (.bool s5)∧w'.cell? ⟨b9,2,none⟩=some (.slice a5 l5 c5)∧w'.cell? ⟨b2,0,none⟩=some (.bool s3)∧w'.cell? ⟨b2,1,none⟩=some (.slice a3 l3 c3)∧Below WC.heap.size WC w')) k_f (tq5 z9 z2 (grow_drew (Below.refl _ _))) (fun hHeld=> ?_)
   show wpAnyH _ _ _ _ _ 6 _ _ _
   have kW:=grow_drew (Below.refl WC.heap.size WC)
   generalize WC.drew=wQ at*
   refine wpAnyH_take (i:=0) (oi:=⟨some 48,_,_,_,_,_⟩) (v:=?_) rfl k_f k_f k_f (fun _ _ _ h=>by cases h.1) (Or.inl ⟨by rfl,?_⟩) (by assumption) ?_
   rotate_left
   ·intro wq hSw;(try dsimp only at hSw);go_simp;(try with_reducible rfl)
   (try simp only[pz])
   refine wpAnyH_take (i:=2) (oi:=⟨some 50,_,_,_,_,_⟩) (v:=?_) rfl k_f k_f k_f (fun _ _ _ h=>by cases h.1) (Or.inl ⟨by rfl,?_⟩) (by assumption) ?_
   rotate_left
   ·intro wq hSw;(try dsimp only at hSw);go_simp;(try with_reducible rfl)
   (try simp only[pz])
   refine wpAnyH_ready (rs:=[1,4]) k_f (by simp) ?_
   refine AllReadyH.cons (o:=⟨some 49,_,_,_,_,_⟩) rfl (fun K hK=> ?_) ?_
   ·go_simp
    go_at_call 146;refine Calls.mono (each_n (F:=fun x=> -x) (C:=l2+4) (B:=l2+3) eg2.out (fun w' s9 a9 l9 c9 z9 hb9 hz9 hl9=>(neg_n hz9 o_m).mono fun _ _ ⟨s',a',l',c',he,h1,h2,h3⟩=>⟨s',a',l',c',he,h1,h2,by omega⟩) (hP5.pr.below kW) (hz5.zm.below kW) hl5 o_m o_m) ?_;rintro e wA ⟨adN,nN,cpN,sN,aN,lN,cN,rfl,hPA,hZA,hlA,hnA,-,kA⟩
    have kW:=grow_step kA kW
    (try go_wp2_with fail)
    refine hK.out _ _ ?_ ?_
    ·(try dsimp only);exact tq5 z9 z2 kW
    clear hK K hHeld;intro hHeld
    (try simp only[pz])
    refine wpAnyH_ready (rs:=[3,4]) k_f (by simp) ?_
    refine AllReadyH.cons (o:=⟨some 51,_,_,_,_,_⟩) rfl (fun K hK=> ?_) ?_
    ·go_simp
     go_at_call 174;refine Calls.mono (modulo_n (B:=l2+4) hPA.pr hZA.zm hlA (hd3.zm.below kW) hD1p o_m o_m o_m) ?_;rintro e wB ⟨adO,nO,cpO,sO,aO,lO,cO,rfl,hPB,hZB,hlB2,hnB2,hnewB,kB⟩;have hnewO: ∀b off,adO=some ⟨b,off,none⟩→WC.heap.size≤b:=fun b off e=>Nat.le_trans kW.size (hnewB b off e)
     have hPA:=hPA.below kB
     have hZA:=hZA.below kB
     have kW:=grow_step kB kW
     (try go_wp2_with fail)
     refine hK.out _ _ ?_ ?_
     ·(try dsimp only);exact tq5 z9 z2 kW
     clear hK K hHeld;intro hHeld
     (try simp only[pz])
     refine ryz 4 (some 11) (fun K hK=> ?_) ?_
     ·have kL:=below_alloc (wB) (.cells #[.slice none 0 0,.bool false,.slice none 0 0] 47)
      have hPA:=hPA.below kL
      have hZA:=hZA.below kL
      have hPB:=hPB.below kL
      have hZB:=hZB.below kL
      have zO:TB ((wB).alloc (.cells #[.slice none 0 0,.bool false,.slice none 0 0] 47)) (wB.heap.size) none 0 0 false none 0 0:=tb_new _ _ _ _ _ _ _ _
      have hbzO:WC.heap.size≤wB.heap.size:=kW.size
      have kW:=grow_step kL kW
      go_simp
      refine hK.out _ _ ?_ ?_
      ·(try dsimp only);exact tq5 z9 z2 kW
      clear hK K hHeld;intro hHeld
      (try simp only[pz])
      generalize (wB).alloc (.cells #[.slice none 0 0,.bool false,.slice none 0 0] 47)=wLzO at*
      refine ryz 5 none (fun K hK=> ?_) ?_
      ·skip
       have f0:=zO.c0
       have f1:=zO.c1
       have f2:=zO.c2
       have f3:=zO.f 0
       have f4:=zO.f 1
       have f5:=zO.f 2
       go_simp
       have gS:=tb_set wLzO (wB.heap.size) (.slice adO nO cpO) (.bool sO) (.slice aO lO cO)
       have hPB:=hPB.tb zO gS
       have hZB:=hZB.grownU gS (tb_noU zO)
       have zO:=tb_fin zO adO nO cpO sO aO lO cO
       have kW:=((kW.setCell (p:=⟨wB.heap.size,0,none⟩) hbzO (.slice adO nO cpO)).setCell (p:=⟨wB.heap.size,1,none⟩) hbzO (.bool sO)).setCell (p:=⟨wB.heap.size,2,none⟩) hbzO (.slice aO lO cO)
       refine hK.out _ _ ?_ ?_
       ·(try dsimp only);exact tq5 z9 z2 kW
       clear hK K hHeld;intro hHeld
       (try simp only[pz])
       refine wpAnyH_done k_f ?_ _
       exact⟨rfl,_,adN,nN,cpN,sN,aN,lN,cN,adO,nO,cpO,sO,aO,lO,cO,rfl,zO,hPB,hZB,hlB2,Nat.le_trans hnB2 hnA,hnewO,hbzO,kW⟩
      exact AllReadyH.nil
     exact AllReadyH.nil
    refine AllReadyH.cons (o:=⟨some 11,_,_,_,_,_⟩) rfl (fun K hK=> ?_) ?_
    ·have kL:=below_alloc (wA) (.cells #[.slice none 0 0,.bool false,.slice none 0 0] 47)
     have hPA:=hPA.below kL
     have hZA:=hZA.below kL
     have zO:TB ((wA).alloc (.cells #[.slice none 0 0,.bool false,.slice none 0 0] 47)) (wA.heap.size) none 0 0 false none 0 0:=tb_new _ _ _ _ _ _ _ _
     have hbzO:WC.heap.size≤wA.heap.size:=kW.size
     have kW:=grow_step kL kW
     go_simp
     refine hK.out _ _ ?_ ?_
     ·(try dsimp only);exact tq5 z9 z2 kW
     clear hK K hHeld;intro hHeld
     (try simp only[pz])
     generalize (wA).alloc (.cells #[.slice none 0 0,.bool false,.slice none 0 0] 47)=wLzO at*
     refine ryz 3 (some 51) (fun K hK=> ?_) ?_
     ·go_simp
      go_at_call 174;refine Calls.mono (modulo_n (B:=l2+4) hPA.pr hZA.zm hlA (hd3.zm.below kW) hD1p o_m o_m o_m) ?_;rintro e wB ⟨adO,nO,cpO,sO,aO,lO,cO,rfl,hPB,hZB,hlB2,hnB2,hnewB,kB⟩;have hnewO: ∀b off,adO=some ⟨b,off,none⟩→WC.heap.size≤b:=fun b off e=>Nat.le_trans kW.size (hnewB b off e)
      have hPA:=hPA.below kB
      have hZA:=hZA.below kB
      have zO:=zO.below kB
      have kW:=grow_step kB kW
      (try go_wp2_with fail)
      refine hK.out _ _ ?_ ?_
      ·(try dsimp only);exact tq5 z9 z2 kW
      clear hK K hHeld;intro hHeld
      (try simp only[pz])
      refine ryz 5 none (fun K hK=> ?_) ?_
      ·skip
       have f0:=zO.c0
       have f1:=zO.c1
       have f2:=zO.c2
       have f3:=zO.f 0
       have f4:=zO.f 1
       have f5:=zO.f 2
       go_simp
       have gS:=tb_set wB (wA.heap.size) (.slice adO nO cpO) (.bool sO) (.slice aO lO cO)
       have hPB:=hPB.tb zO gS
       have hZB:=hZB.grownU gS (tb_noU zO)
       have zO:=tb_fin zO adO nO cpO sO aO lO cO
       have kW:=((kW.setCell (p:=⟨wA.heap.size,0,none⟩) hbzO (.slice adO nO cpO)).setCell (p:=⟨wA.heap.size,1,none⟩) hbzO (.bool sO)).setCell (p:=⟨wA.heap.size,2,none⟩) hbzO (.slice aO lO cO)
       refine hK.out _ _ ?_ ?_
       ·(try dsimp only);exact tq5 z9 z2 kW
       clear hK K hHeld;intro hHeld
       (try simp only[pz])
       refine wpAnyH_done k_f ?_ _
       exact⟨rfl,_,adN,nN,cpN,sN,aN,lN,cN,adO,nO,cpO,sO,aO,lO,cO,rfl,zO,hPB,hZB,hlB2,Nat.le_trans hnB2 hnA,hnewO,hbzO,kW⟩
      exact AllReadyH.nil
     exact AllReadyH.nil
    exact AllReadyH.nil
   refine AllReadyH.cons (o:=⟨some 11,_,_,_,_,_⟩) rfl (fun K hK=> ?_) ?_
   ·have kL:=below_alloc (wQ) (.cells #[.slice none 0 0,.bool false,.slice none 0 0] 47)
    have zO:TB ((wQ).alloc (.cells #[.slice none 0 0,.bool false,.slice none 0 0] 47)) (wQ.heap.size) none 0 0 false none 0 0:=tb_new _ _ _ _ _ _ _ _
    have hbzO:WC.heap.size≤wQ.heap.size:=kW.size
    have kW:=grow_step kL kW
    go_simp
    refine hK.out _ _ ?_ ?_
    ·(try dsimp only);exact tq5 z9 z2 kW
    clear hK K hHeld;intro hHeld
    (try simp only[pz])
    generalize (wQ).alloc (.cells #[.slice none 0 0,.bool false,.slice none 0 0] 47)=wLzO at*
    refine ryz 1 (some 49) (fun K hK=> ?_) ?_
    ·go_simp
     go_at_call 146;refine Calls.mono (each_n (F:=fun x=> -x) (C:=l2+4) (B:=l2+3) eg2.out (fun w' s9 a9 l9 c9 z9 hb9 hz9 hl9=>(neg_n hz9 o_m).mono fun _ _ ⟨s',a',l',c',he,h1,h2,h3⟩=>⟨s',a',l',c',he,h1,h2,by omega⟩) (hP5.pr.below kW) (hz5.zm.below kW) hl5 o_m o_m) ?_;rintro e wA ⟨adN,nN,cpN,sN,aN,lN,cN,rfl,hPA,hZA,hlA,hnA,-,kA⟩
     have zO:=zO.below kA
     have kW:=grow_step kA kW
     (try go_wp2_with fail)
     refine hK.out _ _ ?_ ?_
     ·(try dsimp only);exact tq5 z9 z2 kW
     clear hK K hHeld;intro hHeld
     (try simp only[pz])
     refine ryz 3 (some 51) (fun K hK=> ?_) ?_
     ·go_simp
      go_at_call 174;refine Calls.mono (modulo_n (B:=l2+4) hPA.pr hZA.zm hlA (hd3.zm.below kW) hD1p o_m o_m o_m) ?_;rintro e wB ⟨adO,nO,cpO,sO,aO,lO,cO,rfl,hPB,hZB,hlB2,hnB2,hnewB,kB⟩;have hnewO: ∀b off,adO=some ⟨b,off,none⟩→WC.heap.size≤b:=fun b off e=>Nat.le_trans kW.size (hnewB b off e)
      have zO:=zO.below kB
      have hPA:=hPA.below kB
      have hZA:=hZA.below kB
      have kW:=grow_step kB kW
      (try go_wp2_with fail)
      refine hK.out _ _ ?_ ?_
      ·(try dsimp only);exact tq5 z9 z2 kW
      clear hK K hHeld;intro hHeld
      (try simp only[pz])
      refine ryz 5 none (fun K hK=> ?_) ?_
      ·skip
       have f0:=zO.c0
       have f1:=zO.c1
       have f2:=zO.c2
       have f3:=zO.f 0
       have f4:=zO.f 1
       have f5:=zO.f 2
       go_simp
       have gS:=tb_set wB (wQ.heap.size) (.slice adO nO cpO) (.bool sO) (.slice aO lO cO)
       have hPB:=hPB.tb zO gS
       have hZB:=hZB.grownU gS (tb_noU zO)
       have zO:=tb_fin zO adO nO cpO sO aO lO cO
       have kW:=((kW.setCell (p:=⟨wQ.heap.size,0,none⟩) hbzO (.slice adO nO cpO)).setCell (p:=⟨wQ.heap.size,1,none⟩) hbzO (.bool sO)).setCell (p:=⟨wQ.heap.size,2,none⟩) hbzO (.slice aO lO cO)
       refine hK.out _ _ ?_ ?_
       ·(try dsimp only);exact tq5 z9 z2 kW
       clear hK K hHeld;intro hHeld
       (try simp only[pz])
       refine wpAnyH_done k_f ?_ _
       exact⟨rfl,_,adN,nN,cpN,sN,aN,lN,cN,adO,nO,cpO,sO,aO,lO,cO,rfl,zO,hPB,hZB,hlB2,Nat.le_trans hnB2 hnA,hnewO,hbzO,kW⟩
      exact AllReadyH.nil
     exact AllReadyH.nil
    exact AllReadyH.nil
   exact AllReadyH.nil
  rintro e a' WE ⟨rfl,bO,adN,nN,cpN,sN,aN,lN,cN,adO,nO,cpO,sO,aO,lO,cO,rfl,zO,hPO,hZO,hlO,hnO,hnewO,hbO,kE⟩
  have hbO9:b9<bO:=by have h1:=z9.lt;omega
  have hrC:r<WC.heap.size:=y.lt
  replace x:=x.below kE
  replace y:=y.below kE
  replace z2:=z2.below kE
  replace z9:=z9.below kE
  replace hd3:=hd3.below kE
  replace hP5:=hP5.below kE
  replace hz5:=hz5.below kE
  have KE:=hide (grow_step kE KC.out)
  have hStdU:Std us:=by rw[←hus,←hts.out];exact eachP_std (eachP_std hStd)
  have hStdO:Std (oppP D1 us):=eachP_std (eachP_std hStdU)
  clear kE KC
  have u0:=z9.c0
  have u1:=z9.c1
  have u2:=z9.c2
  have u3:=zO.c0
  have u4:=zO.c1
  have u5:=zO.c2
  go_wp2_with fail
  refine(torder_n (B:=l2+4) (hPO.pr.mono o_m) hZO.zm o_m (hP5.pr.mono o_m) hz5.zm o_m o_m o_m).mono ?_
  rintro e WF ⟨ps',qs',rfl,hSp,hSq,hcp,hcq,kF⟩
  obtain rfl:ps'=oppP D1 us:=std_unique hSp hStdO hcp
  obtain rfl:qs'=us:=std_unique hSq hStdU hcq
  replace x:=x.below kF
  replace y:=y.below kF
  replace z2:=z2.below kF
  replace z9:=z9.below kF
  replace zO:=zO.below kF
  replace hd3:=hd3.below kF
  replace hP5:=hP5.below kF
  replace hz5:=hz5.below kF
  replace hPO:=hPO.below kF
  replace hZO:=hZO.below kF
  replace KE:=hide (grow_step kF KE.out)
  clear u0 u1 u2 u3 u4 u5 kF hSp hSq hcp hcq
  by_cases hor:ordT (oppP D1 qs') qs' ((-kG)%D1) kG<0
  ·have hfm2:Hid (divF kd d qs k=⟨kd,D1,oppP D1 qs',(-kG)%D1⟩):=(show _=_ by rw[hfm.out];unfold fstF;rw[if_pos hor])
   generalize ordT (oppP D1 qs') qs' ((-kG)%D1) kG=oo at*
   have u0:=zO.c0
   have u1:=zO.c1
   have u2:=zO.c2
   have v0:=z9.c0
   have v1:=z9.c1
   have v2:=z9.c2
   have v3:=z9.f 0
   have v4:=z9.f 1
   have v5:=z9.f 2
   have g8:=tb_set WF b9 (.slice adO nO cpO) (.bool sO) (.slice aO lO cO)
   have x8:AB _ p kd sd ad ld cd ap np cp sk ak lk ck:=(g8.block p x.lt (by simp;omega)).trans x
   have y8:AB _ r 0 false none 0 0 none 0 0 false none 0 0:=(g8.block r y.lt (by simp;omega)).trans y
   have z28:ZB _ b2 s3 a3 l3 c3:=(g8.block b2 z2.lt (by simp;omega)).trans z2
   have hP8:=hPO.tb z9 g8
   have hz8:=hZO.grownU g8 (tb_noU z9)
   have hd8:=hd3.grownU g8 (tb_noU z9)
   have z98:=tb_fin z9 adO nO cpO sO aO lO cO
   have KG:=hide (below_grown KE.out g8 hwb9)
   have p0:=x8.c0
   have t0:=z98.c0
   have t1:=z98.c1
   have t2:=z98.c2
   have q0:=z28.c0
   have q1:=z28.c1
   have e0:=y8.c0
   have e1:=y8.c1
   have e2:=y8.c2
   have e3:=y8.c3
   have e4:=y8.c4
   have e5:=y8.c5
   have f0:=y8.f 0
   have f1:=y8.f 1
   have f2:=y8.f 2
   have f3:=y8.f 3
   have f4:=y8.f 4
   have f5:=y8.f 5
   have g6:=ab_set (((WF.setCell ⟨b9,0,none⟩ (.slice adO nO cpO)).setCell ⟨b9,1,none⟩ (.bool sO)).setCell ⟨b9,2,none⟩ (.slice aO lO cO)) r (.int .i64 kd) (.bool s3) (.slice a3 l3 c3) (.slice adO nO cpO) (.bool sO) (.slice aO lO cO)
   have hPf:=hide (hP8.away (fun b off e=>by have:=hnewO b off e;omega) g6 (ab_noU y8))
   have hzf:=hide (hz8.grownU g6 (ab_noU y8))
   have hdf:=hide (hd8.grownU g6 (ab_noU y8))
   have kf:=hide (below_grown KG.out g6 (by have:=hpr.out;omega))
   replace hStd:=hide hStd
   replace hcs:=hide hcs
   have hnw:Hid (∀b off,adO=some ⟨b,off,none⟩→w.heap.size≤b):=(fun b off e=>by have h1:=hnewO b off e;have h2:=hpr.out;omega)
   clear g6 hnew hnew5 hnewO
   clear x y z2 z9 zO hd3 hP5 hz5 hPO hZO KE g8 x8 z28 hP8 hz8 hd8 z98
   go_wp2
   refine bodyPost_ret (results_ct rfl _ _ r 69 _ (0,0) _ rfl (ab_fin y8 kd s3 a3 l3 c3 adO nO cpO sO aO lO cO) Tryz.underlying69 rfl k_f) rfl ?_
   refine⟨qs,hStd.out,hcs.out,?_,kf.out⟩
   rw[hfm2.out]
   exact⟨s3,a3,l3,c3,adO,nO,cpO,sO,aO,lO,cO,by simp,hdf.out,by omega,hPf.out.mono o_m,by omega,hzf.out,by omega,hnw.out⟩
  have hfm2:Hid (divF kd d qs k=⟨kd,D1,qs',kG⟩):=(show _=_ by rw[hfm.out];unfold fstF;rw[if_neg hor])
  generalize ordT (oppP D1 qs') qs' ((-kG)%D1) kG=oo at*
  have p0:=x.c0
  have t0:=z9.c0
  have t1:=z9.c1
  have t2:=z9.c2
  have q0:=z2.c0
  have q1:=z2.c1
  have e0:=y.c0
  have e1:=y.c1
  have e2:=y.c2
  have e3:=y.c3
  have e4:=y.c4
  have e5:=y.c5
  have f0:=y.f 0
  have f1:=y.f 1
  have f2:=y.f 2
  have f3:=y.f 3
  have f4:=y.f 4
  have f5:=y.f 5
  have g6:=ab_set WF r (.int .i64 kd) (.bool s3) (.slice a3 l3 c3) (.slice ad5 n5 cp5) (.bool s5) (.slice a5 l5 c5)
  have hPf:=hide (hP5.away (fun b off e=>by have:=hnew5 b off e;omega) g6 (ab_noU y))
  have hzf:=hide (hz5.grownU g6 (ab_noU y))
  have hdf:=hide (hd3.grownU g6 (ab_noU y))
  have kf:=hide (below_grown KE.out g6 (by have:=hpr.out;omega))
  replace hStd:=hide hStd
  replace hcs:=hide hcs
  have hnw:Hid (∀b off,ad5=some ⟨b,off,none⟩→w.heap.size≤b):=(fun b off e=>by have h1:=hnew5 b off e;have h2:=hpr.out;omega)
  clear g6 hnew hnew5 hnewO
  clear x z2 z9 zO hd3 hP5 hz5 hPO hZO KE
  go_wp2
  refine bodyPost_ret (results_ct rfl _ _ r 69 _ (0,0) _ rfl (ab_fin y kd s3 a3 l3 c3 ad5 n5 cp5 s5 a5 l5 c5) Tryz.underlying69 rfl k_f) rfl ?_
  refine⟨qs,hStd.out,hcs.out,?_,kf.out⟩
  rw[hfm2.out]
  exact⟨s3,a3,l3,c3,ad5,n5,cp5,s5,a5,l5,c5,by simp,hdf.out,by omega,hPf.out.mono o_m,by omega,hzf.out,by omega,hnw.out⟩
 rw[show decide (((G:Nat):Int)∣kD)=false from by simp[hdv]]
 have hfm:Hid (divF kd d qs k=⟨ne,0,[],0⟩):=(show _=_ by rw[hdF.out];unfold divG;rw[hGG.out,if_pos hdv,hne.out])
 clear hdv
 have e0:=y.c0
 have e1:=y.c1
 have e2:=y.c2
 have e3:=y.c3
 have e4:=y.c4
 have e5:=y.c5
 have f0:=y.f 0
 have f1:=y.f 1
 have f2:=y.f 2
 have f3:=y.f 3
 have f4:=y.f 4
 have f5:=y.f 5
 have g6:=ab_set W7 r (.int .i64 ne) (.bool false) (.slice none 0 0) (.slice none 0 0) (.bool false) (.slice none 0 0)
 have kf:=hide (below_grown K4.out g6 (by have:=hpr.out;omega))
 have hfin:=hide (ab_fin y ne false none 0 0 none 0 0 false none 0 0)
 replace hStd:=hide hStd
 replace hcs:=hide hcs
 go_wp2
 refine bodyPost_ret (results_ct rfl _ _ r 69 _ (0,0) _ rfl hfin.out Tryz.underlying69 rfl k_f) rfl ?_
 refine⟨qs,hStd.out,hcs.out,?_,kf.out⟩
 rw[hfm.out]
 exact⟨false,none,0,0,none,0,0,false,none,0,0,by simp,zn_zero _,by omega,pn_nil _ _ _,by omega,zn_zero _,by omega,fun _ _ h=>by cases h⟩

def AZ (e:Ending)(er:Int):Prop:=e= .returned (.tuple #[.agg #[.int .i64 0,.bool false,.slice none 0 0,.slice none 0 0,.bool false,.slice none 0 0],.int .i64 er])
def AN (w:World)(e:Ending)(f:Atm ⊕ Int)(B B0:Nat):Prop:=match f with
 | .inl f=>AE w e f B B0
 | .inr er=>AZ e er

theorem divi_0 {w:World}{kd:Int}{sd:Bool}{ad:Option Addr}{ld cd:Nat}{ap:Option Addr}{np cp:Nat}{sk:Bool}{ak:Option Addr}{lk ck:Nat}{al ne:Int}
  (hd:Zm w sd ad ld cd 0)(hld:ld≤1099511627776):
  Calls Tryz.prog 134 #[.agg #[.int .i64 kd,.bool sd,.slice ad ld cd,.slice ap np cp,.bool sk,.slice ak lk ck],.int .i64 al,.int .i64 ne] w fun e w'=>AZ e 11∧Below w.heap.size w w':=by
 go_enter Tryz.func134,Tryz.ntmps134
 go_wp2_with fail
 have y:=AB.new (w.alloc (.cells #[.int .i64 kd,.bool sd,.slice ad ld cd,.slice ap np cp,.bool sk,.slice ak lk ck] 69)) 0 false none 0 0 none 0 0 false none 0 0
 rw[show(w.alloc (.cells #[.int .i64 kd,.bool sd,.slice ad ld cd,.slice ap np cp,.bool sk,.slice ak lk ck] 69)).heap.size=w.heap.size+1 from by simp]at y
 have b0:Below w.heap.size w ((w.alloc (.cells #[.int .i64 kd,.bool sd,.slice ad ld cd,.slice ap np cp,.bool sk,.slice ak lk ck] 69)).alloc (.cells #[.int .i64 0,.bool false,.slice none 0 0,.slice none 0 0,.bool false,.slice none 0 0] 69)):=below_alloc' (below_alloc _ _) _
 generalize (w.alloc (.cells #[.int .i64 kd,.bool sd,.slice ad ld cd,.slice ap np cp,.bool sk,.slice ak lk ck] 69)).alloc (.cells #[.int .i64 0,.bool false,.slice none 0 0,.slice none 0 0,.bool false,.slice none 0 0] 69)=wb at*
 have hr:w.heap.size≤w.heap.size+1:=by omega
 generalize w.heap.size+1=r at*
 refine(zsign_n (hd.below b0) hld).mono ?_
 rintro e w1 ⟨rfl,k1⟩
 rw[show cmpI 0 0=0 from rfl]
 replace y:=y.below k1
 have K1:=grow_step k1 b0
 have e0:=y.c0
 have e1:=y.c1
 have e2:=y.c2
 have e3:=y.c3
 have e4:=y.c4
 have e5:=y.c5
 have f0:=y.f 0
 have f1:=y.f 1
 have f2:=y.f 2
 have f3:=y.f 3
 have f4:=y.f 4
 have f5:=y.f 5
 have g6:=ab_set w1 r (.int .i64 0) (.bool false) (.slice none 0 0) (.slice none 0 0) (.bool false) (.slice none 0 0)
 have kf:=hide (below_grown K1 g6 hr)
 clear g6 K1 k1 b0
 go_wp2
 refine bodyPost_ret (results_ct rfl _ _ r 69 _ (0,0) _ rfl (ab_fin y 0 false none 0 0 none 0 0 false none 0 0) Tryz.underlying69 rfl k_f) rfl ?_
 exact⟨rfl,kf.out⟩

theorem anorm_n {w:World}{kd:Int}{sd:Bool}{ad:Option Addr}{ld cd:Nat}{ap:Option Addr}{np cp:Nat}{sk:Bool}{ak:Option Addr}{lk ck:Nat}{d k:Int}{ps:List (Int × Int)}{B:Nat}
  (hd:Zm w sd ad ld cd d)(hld:ld≤B)(hP:Pr w ap np ps B)(hk:Zm w sk ak lk ck k)(hlk:lk≤B)(hn:np≤262144)(hB:B+np+1≤4194000):
  Calls Tryz.prog 82 #[.agg #[.int .i64 kd,.bool sd,.slice ad ld cd,.slice ap np cp,.bool sk,.slice ak lk ck]] w fun e w'=> ∃qs,Std qs∧(∀v,csum qs v=csum ps v)∧AN w' e (formA kd d qs k) (B+np+16) w.heap.size∧Below w.heap.size w w':=by
 obtain⟨q0,hq0,hq1⟩: ∃qs,Std qs∧∀v,csum qs v=csum ps v:=⟨nz (lays [] ps),std_lays ps,fun v=>csum_nzl ps v⟩
 by_cases h0:kd=0
 ·subst h0
  have y:=AB.new (w.alloc (.cells #[.int .i64 0,.bool sd,.slice ad ld cd,.slice ap np cp,.bool sk,.slice ak lk ck] 69)) 0 false none 0 0 none 0 0 false none 0 0
  rw[show(w.alloc (.cells #[.int .i64 0,.bool sd,.slice ad ld cd,.slice ap np cp,.bool sk,.slice ak lk ck] 69)).heap.size=w.heap.size+1 from by simp]at y
  have b0:Below w.heap.size w ((w.alloc (.cells #[.int .i64 0,.bool sd,.slice ad ld cd,.slice ap np cp,.bool sk,.slice ak lk ck] 69)).alloc (.cells #[.int .i64 0,.bool false,.slice none 0 0,.slice none 0 0,.bool false,.slice none 0 0] 69)):=below_alloc' (below_alloc _ _) _
  have HH:=hide (And.intro y b0)
  clear y b0
  go_enter Tryz.func82,Tryz.ntmps82
  go_wp2
  obtain⟨y,b0⟩:=HH.out
  refine bodyPost_ret (results_ct rfl _ _ (w.heap.size+1) 69 _ (0,0) _ rfl y Tryz.underlying69 rfl k_f) rfl ?_
  exact⟨q0,hq0,hq1,⟨false,none,0,0,none,0,0,false,none,0,0,rfl,zn_zero _,by omega,pn_nil _ _ _,by omega,zn_zero _,by omega,fun _ _ h=>by cases h⟩,b0⟩
 by_cases h1:kd=1
 ·subst h1
  have y:=AB.new (w.alloc (.cells #[.int .i64 1,.bool sd,.slice ad ld cd,.slice ap np cp,.bool sk,.slice ak lk ck] 69)) 1 false none 0 0 none 0 0 false none 0 0
  rw[show(w.alloc (.cells #[.int .i64 1,.bool sd,.slice ad ld cd,.slice ap np cp,.bool sk,.slice ak lk ck] 69)).heap.size=w.heap.size+1 from by simp]at y
  have b0:Below w.heap.size w ((w.alloc (.cells #[.int .i64 1,.bool sd,.slice ad ld cd,.slice ap np cp,.bool sk,.slice ak lk ck] 69)).alloc (.cells #[.int .i64 1,.bool false,.slice none 0 0,.slice none 0 0,.bool false,.slice none 0 0] 69)):=below_alloc' (below_alloc _ _) _
  have HH:=hide (And.intro y b0)
  clear y b0
  go_enter Tryz.func82,Tryz.ntmps82
  go_wp2
  obtain⟨y,b0⟩:=HH.out
  refine bodyPost_ret (results_ct rfl _ _ (w.heap.size+1) 69 _ (0,0) _ rfl y Tryz.underlying69 rfl k_f) rfl ?_
  exact⟨q0,hq0,hq1,⟨false,none,0,0,none,0,0,false,none,0,0,rfl,zn_zero _,by omega,pn_nil _ _ _,by omega,zn_zero _,by omega,fun _ _ h=>by cases h⟩,b0⟩
 by_cases h2:kd=2
 ·subst h2
  clear h0 h1 q0 hq0 hq1
  have x:=(AB.new w 2 sd ad ld cd ap np cp sk ak lk ck).below (below_alloc _ (.cells #[.int .i64 0,.bool false,.slice none 0 0,.slice none 0 0,.bool false,.slice none 0 0] 69))
  have y:=AB.new (w.alloc (.cells #[.int .i64 2,.bool sd,.slice ad ld cd,.slice ap np cp,.bool sk,.slice ak lk ck] 69)) 0 false none 0 0 none 0 0 false none 0 0
  rw[show(w.alloc (.cells #[.int .i64 2,.bool sd,.slice ad ld cd,.slice ap np cp,.bool sk,.slice ak lk ck] 69)).heap.size=w.heap.size+1 from by simp]at y
  have b0:Below w.heap.size w ((w.alloc (.cells #[.int .i64 2,.bool sd,.slice ad ld cd,.slice ap np cp,.bool sk,.slice ak lk ck] 69)).alloc (.cells #[.int .i64 0,.bool false,.slice none 0 0,.slice none 0 0,.bool false,.slice none 0 0] 69)):=below_alloc' (below_alloc _ _) _
  have HH:=hide (And.intro x (And.intro y (And.intro b0 (And.intro (hP.below b0) (And.intro (hd.below b0) (hk.below b0))))))
  clear x y b0
  go_enter Tryz.func82,Tryz.ntmps82
  go_wp2_with fail
  obtain⟨x,y,b0,hP,hd,hk⟩:=HH.out
  clear HH
  generalize (w.alloc (.cells #[.int .i64 2,.bool sd,.slice ad ld cd,.slice ap np cp,.bool sk,.slice ak lk ck] 69)).alloc (.cells #[.int .i64 0,.bool false,.slice none 0 0,.slice none 0 0,.bool false,.slice none 0 0] 69)=wb at*
  have hr:w.heap.size≤w.heap.size+1:=by omega
  generalize w.heap.size+1=r at*
  generalize hp:w.heap.size=p at*
  replace hp:=hide hp
  refine(less_n hP hk hlk o_m o_m).mono ?_
  rintro e w1 ⟨qs,hS,hc,⟨sd1,ad1,ld1,cd1,ap1,np1,cp1,sk1,ak1,lk1,ck1,rfl,hz1,hlz1,hPn1,hnp1,hk1,hlk1,hnew1⟩,k1⟩
  have hfm:Hid (formA 2 d qs k= .inl (lessF qs k)):=(show _=_ by unfold formA;rw[if_neg (by decide),if_pos rfl])
  generalize lessF qs k=ff at*
  have hrl:=y.lt
  replace y:=y.below k1
  have e0:=y.c0
  have e1:=y.c1
  have e2:=y.c2
  have e3:=y.c3
  have e4:=y.c4
  have e5:=y.c5
  have f0:=y.f 0
  have f1:=y.f 1
  have f2:=y.f 2
  have f3:=y.f 3
  have f4:=y.f 4
  have f5:=y.f 5
  have g6:=ab_set w1 r (.int .i64 ff.kind) (.bool sd1) (.slice ad1 ld1 cd1) (.slice ap1 np1 cp1) (.bool sk1) (.slice ak1 lk1 ck1)
  have hPf:=hide (hPn1.away (fun b off e=>by have:=hnew1 b off e;omega) g6 (ab_noU y))
  have hzf:=hide (hk1.grownU g6 (ab_noU y))
  have hdf:=hide (hz1.grownU g6 (ab_noU y))
  have kf:=hide (below_grown (grow_step k1 (show Below w.heap.size w wb from hp.out.symm▸b0)) g6 (by have:=hp.out;omega))
  have hnw:Hid (∀b off,ap1=some ⟨b,off,none⟩→w.heap.size≤b):=(fun b off e=>by have h1:=hnew1 b off e;have h2:=hp.out;omega)
  replace hS:=hide hS
  replace hc:=hide hc
  clear g6 hPn1 hk1 hz1 hnew1 hP hd hk x b0 k1
  go_wp2
  refine bodyPost_ret (results_ct rfl _ _ r 69 _ (0,0) _ rfl (ab_fin y ff.kind sd1 ad1 ld1 cd1 ap1 np1 cp1 sk1 ak1 lk1 ck1) Tryz.underlying69 rfl k_f) rfl ?_
  refine⟨qs,hS.out,hc.out,?_,kf.out⟩
  rw[hfm.out]
  exact⟨sd1,ad1,ld1,cd1,ap1,np1,cp1,sk1,ak1,lk1,ck1,by simp,hdf.out,hlz1,hPf.out,hnp1,hzf.out,hlk1,hnw.out⟩
 by_cases h3:kd=3
 ·subst h3
  clear h0 h1 h2
  have x:=(AB.new w 3 sd ad ld cd ap np cp sk ak lk ck).below (below_alloc _ (.cells #[.int .i64 0,.bool false,.slice none 0 0,.slice none 0 0,.bool false,.slice none 0 0] 69))
  have y:=AB.new (w.alloc (.cells #[.int .i64 3,.bool sd,.slice ad ld cd,.slice ap np cp,.bool sk,.slice ak lk ck] 69)) 0 false none 0 0 none 0 0 false none 0 0
  rw[show(w.alloc (.cells #[.int .i64 3,.bool sd,.slice ad ld cd,.slice ap np cp,.bool sk,.slice ak lk ck] 69)).heap.size=w.heap.size+1 from by simp]at y
  have b0:Below w.heap.size w ((w.alloc (.cells #[.int .i64 3,.bool sd,.slice ad ld cd,.slice ap np cp,.bool sk,.slice ak lk ck] 69)).alloc (.cells #[.int .i64 0,.bool false,.slice none 0 0,.slice none 0 0,.bool false,.slice none 0 0] 69)):=below_alloc' (below_alloc _ _) _
  have HH:=hide (And.intro x (And.intro y (And.intro b0 (And.intro (hP.below b0) (And.intro (hd.below b0) (hk.below b0))))))
  clear x y b0
  go_enter Tryz.func82,Tryz.ntmps82
  go_wp2_with fail
  obtain⟨x,y,b0,hP,hd,hk⟩:=HH.out
  clear HH
  generalize (w.alloc (.cells #[.int .i64 3,.bool sd,.slice ad ld cd,.slice ap np cp,.bool sk,.slice ak lk ck] 69)).alloc (.cells #[.int .i64 0,.bool false,.slice none 0 0,.slice none 0 0,.bool false,.slice none 0 0] 69)=wb at*
  have hr:w.heap.size≤w.heap.size+1:=by omega
  generalize w.heap.size+1=r at*
  generalize hp:w.heap.size=p at*
  replace hp:=hide hp
  by_cases hd0:d=0
  ·subst hd0
   have hfm:Hid (formA 3 0 q0 k= .inr 11):=(show _=_ by unfold formA;rw[if_neg (by decide),if_neg (by decide),if_pos (by decide),if_pos rfl])
   refine(divi_0 hd o_m).mono ?_
   rintro e w1 ⟨hz,k1⟩
   unfold AZ at hz
   subst hz
   replace y:=y.below k1
   have e0:=y.c0
   have e1:=y.c1
   have e2:=y.c2
   have e3:=y.c3
   have e4:=y.c4
   have e5:=y.c5
   have f0:=y.f 0
   have f1:=y.f 1
   have f2:=y.f 2
   have f3:=y.f 3
   have f4:=y.f 4
   have f5:=y.f 5
   have g6:=ab_set w1 r (.int .i64 0) (.bool false) (.slice none 0 0) (.slice none 0 0) (.bool false) (.slice none 0 0)
   have kf:=hide (below_grown (grow_step k1 (show Below w.heap.size w wb from hp.out.symm▸b0)) g6 (by have:=hp.out;omega))
   replace hq0:=hide hq0
   replace hq1:=hide hq1
   clear g6 hP hd hk x b0 k1
   go_wp2
   refine bodyPost_ret (results_ct rfl _ _ r 69 _ (0,0) _ rfl (ab_fin y 0 false none 0 0 none 0 0 false none 0 0) Tryz.underlying69 rfl k_f) rfl ?_
   exact⟨q0,hq0.out,hq1.out,by rw[hfm.out];exact rfl,kf.out⟩
  refine(divi_n hd hld hP hk hlk hn hB (by decide) (by decide) hd0).mono ?_
  rintro e w1 ⟨qs,hS,hc,⟨sd1,ad1,ld1,cd1,ap1,np1,cp1,sk1,ak1,lk1,ck1,rfl,hz1,hlz1,hPn1,hnp1,hk1,hlk1,hnew1⟩,k1⟩
  have hfm:Hid (formA 3 d qs k= .inl (divF 3 d qs k)):=(show _=_ by unfold formA;rw[if_neg (by decide),if_neg (by decide),if_pos (by decide),if_neg hd0])
  generalize divF 3 d qs k=ff at*
  have hrl:=y.lt
  replace y:=y.below k1
  have e0:=y.c0
  have e1:=y.c1
  have e2:=y.c2
  have e3:=y.c3
  have e4:=y.c4
  have e5:=y.c5
  have f0:=y.f 0
  have f1:=y.f 1
  have f2:=y.f 2
  have f3:=y.f 3
  have f4:=y.f 4
  have f5:=y.f 5
  have g6:=ab_set w1 r (.int .i64 ff.kind) (.bool sd1) (.slice ad1 ld1 cd1) (.slice ap1 np1 cp1) (.bool sk1) (.slice ak1 lk1 ck1)
  have hPf:=hide (hPn1.away (fun b off e=>by have:=hnew1 b off e;omega) g6 (ab_noU y))
  have hzf:=hide (hk1.grownU g6 (ab_noU y))
  have hdf:=hide (hz1.grownU g6 (ab_noU y))
  have kf:=hide (below_grown (grow_step k1 (show Below w.heap.size w wb from hp.out.symm▸b0)) g6 (by have:=hp.out;omega))
  have hnw:Hid (∀b off,ap1=some ⟨b,off,none⟩→w.heap.size≤b):=(fun b off e=>by have h1:=hnew1 b off e;have h2:=hp.out;omega)
  replace hS:=hide hS
  replace hc:=hide hc
  clear g6 hPn1 hk1 hz1 hnew1 hP hd hk x b0 k1
  go_wp2
  refine bodyPost_ret (results_ct rfl _ _ r 69 _ (0,0) _ rfl (ab_fin y ff.kind sd1 ad1 ld1 cd1 ap1 np1 cp1 sk1 ak1 lk1 ck1) Tryz.underlying69 rfl k_f) rfl ?_
  refine⟨qs,hS.out,hc.out,?_,kf.out⟩
  rw[hfm.out]
  exact⟨sd1,ad1,ld1,cd1,ap1,np1,cp1,sk1,ak1,lk1,ck1,by simp,hdf.out,hlz1,hPf.out,hnp1,hzf.out,hlk1,hnw.out⟩
 by_cases h4:kd=4
 ·subst h4
  clear h0 h1 h2 h3
  have x:=(AB.new w 4 sd ad ld cd ap np cp sk ak lk ck).below (below_alloc _ (.cells #[.int .i64 0,.bool false,.slice none 0 0,.slice none 0 0,.bool false,.slice none 0 0] 69))
  have y:=AB.new (w.alloc (.cells #[.int .i64 4,.bool sd,.slice ad ld cd,.slice ap np cp,.bool sk,.slice ak lk ck] 69)) 0 false none 0 0 none 0 0 false none 0 0
  rw[show(w.alloc (.cells #[.int .i64 4,.bool sd,.slice ad ld cd,.slice ap np cp,.bool sk,.slice ak lk ck] 69)).heap.size=w.heap.size+1 from by simp]at y
  have b0:Below w.heap.size w ((w.alloc (.cells #[.int .i64 4,.bool sd,.slice ad ld cd,.slice ap np cp,.bool sk,.slice ak lk ck] 69)).alloc (.cells #[.int .i64 0,.bool false,.slice none 0 0,.slice none 0 0,.bool false,.slice none 0 0] 69)):=below_alloc' (below_alloc _ _) _
  have HH:=hide (And.intro x (And.intro y (And.intro b0 (And.intro (hP.below b0) (And.intro (hd.below b0) (hk.below b0))))))
  clear x y b0
  go_enter Tryz.func82,Tryz.ntmps82
  go_wp2_with fail
  obtain⟨x,y,b0,hP,hd,hk⟩:=HH.out
  clear HH
  generalize (w.alloc (.cells #[.int .i64 4,.bool sd,.slice ad ld cd,.slice ap np cp,.bool sk,.slice ak lk ck] 69)).alloc (.cells #[.int .i64 0,.bool false,.slice none 0 0,.slice none 0 0,.bool false,.slice none 0 0] 69)=wb at*
  have hr:w.heap.size≤w.heap.size+1:=by omega
  generalize w.heap.size+1=r at*
  generalize hp:w.heap.size=p at*
  replace hp:=hide hp
  by_cases hd0:d=0
  ·subst hd0
   have hfm:Hid (formA 4 0 q0 k= .inr 11):=(show _=_ by unfold formA;rw[if_neg (by decide),if_neg (by decide),if_pos (by decide),if_pos rfl])
   refine(divi_0 hd o_m).mono ?_
   rintro e w1 ⟨hz,k1⟩
   unfold AZ at hz
   subst hz
   replace y:=y.below k1
   have e0:=y.c0
   have e1:=y.c1
   have e2:=y.c2
   have e3:=y.c3
   have e4:=y.c4
   have e5:=y.c5
   have f0:=y.f 0
   have f1:=y.f 1
   have f2:=y.f 2
   have f3:=y.f 3
   have f4:=y.f 4
   have f5:=y.f 5
   have g6:=ab_set w1 r (.int .i64 0) (.bool false) (.slice none 0 0) (.slice none 0 0) (.bool false) (.slice none 0 0)
   have kf:=hide (below_grown (grow_step k1 (show Below w.heap.size w wb from hp.out.symm▸b0)) g6 (by have:=hp.out;omega))
   replace hq0:=hide hq0
   replace hq1:=hide hq1
   clear g6 hP hd hk x b0 k1
   go_wp2
   refine bodyPost_ret (results_ct rfl _ _ r 69 _ (0,0) _ rfl (ab_fin y 0 false none 0 0 none 0 0 false none 0 0) Tryz.underlying69 rfl k_f) rfl ?_
   exact⟨q0,hq0.out,hq1.out,by rw[hfm.out];exact rfl,kf.out⟩
  refine(divi_n hd hld hP hk hlk hn hB (by decide) (by decide) hd0).mono ?_
  rintro e w1 ⟨qs,hS,hc,⟨sd1,ad1,ld1,cd1,ap1,np1,cp1,sk1,ak1,lk1,ck1,rfl,hz1,hlz1,hPn1,hnp1,hk1,hlk1,hnew1⟩,k1⟩
  have hfm:Hid (formA 4 d qs k= .inl (divF 4 d qs k)):=(show _=_ by unfold formA;rw[if_neg (by decide),if_neg (by decide),if_pos (by decide),if_neg hd0])
  generalize divF 4 d qs k=ff at*
  have hrl:=y.lt
  replace y:=y.below k1
  have e0:=y.c0
  have e1:=y.c1
  have e2:=y.c2
  have e3:=y.c3
  have e4:=y.c4
  have e5:=y.c5
  have f0:=y.f 0
  have f1:=y.f 1
  have f2:=y.f 2
  have f3:=y.f 3
  have f4:=y.f 4
  have f5:=y.f 5
  have g6:=ab_set w1 r (.int .i64 ff.kind) (.bool sd1) (.slice ad1 ld1 cd1) (.slice ap1 np1 cp1) (.bool sk1) (.slice ak1 lk1 ck1)
  have hPf:=hide (hPn1.away (fun b off e=>by have:=hnew1 b off e;omega) g6 (ab_noU y))
  have hzf:=hide (hk1.grownU g6 (ab_noU y))
  have hdf:=hide (hz1.grownU g6 (ab_noU y))
  have kf:=hide (below_grown (grow_step k1 (show Below w.heap.size w wb from hp.out.symm▸b0)) g6 (by have:=hp.out;omega))
  have hnw:Hid (∀b off,ap1=some ⟨b,off,none⟩→w.heap.size≤b):=(fun b off e=>by have h1:=hnew1 b off e;have h2:=hp.out;omega)
  replace hS:=hide hS
  replace hc:=hide hc
  clear g6 hPn1 hk1 hz1 hnew1 hP hd hk x b0 k1
  go_wp2
  refine bodyPost_ret (results_ct rfl _ _ r 69 _ (0,0) _ rfl (ab_fin y ff.kind sd1 ad1 ld1 cd1 ap1 np1 cp1 sk1 ak1 lk1 ck1) Tryz.underlying69 rfl k_f) rfl ?_
  refine⟨qs,hS.out,hc.out,?_,kf.out⟩
  rw[hfm.out]
  exact⟨sd1,ad1,ld1,cd1,ap1,np1,cp1,sk1,ak1,lk1,ck1,by simp,hdf.out,hlz1,hPf.out,hnp1,hzf.out,hlk1,hnw.out⟩
 have i0:(kd==0)=false:=by rw[beq_eq_false_iff_ne];exact h0
 have i1:(kd==1)=false:=by rw[beq_eq_false_iff_ne];exact h1
 have i2:(kd==2)=false:=by rw[beq_eq_false_iff_ne];exact h2
 have i3:(kd==3)=false:=by rw[beq_eq_false_iff_ne];exact h3
 have i4:(kd==4)=false:=by rw[beq_eq_false_iff_ne];exact h4
 have hfm:Hid (formA kd d q0 k= .inr 1):=(show _=_ by unfold formA;rw[if_neg o_m,if_neg h2,if_neg o_m])
 clear h0 h1 h2 h3 h4
 have y:=AB.new (w.alloc (.cells #[.int .i64 kd,.bool sd,.slice ad ld cd,.slice ap np cp,.bool sk,.slice ak lk ck] 69)) 0 false none 0 0 none 0 0 false none 0 0
 rw[show(w.alloc (.cells #[.int .i64 kd,.bool sd,.slice ad ld cd,.slice ap np cp,.bool sk,.slice ak lk ck] 69)).heap.size=w.heap.size+1 from by simp]at y
 have b0:Below w.heap.size w ((w.alloc (.cells #[.int .i64 kd,.bool sd,.slice ad ld cd,.slice ap np cp,.bool sk,.slice ak lk ck] 69)).alloc (.cells #[.int .i64 0,.bool false,.slice none 0 0,.slice none 0 0,.bool false,.slice none 0 0] 69)):=below_alloc' (below_alloc _ _) _
 have HH:=hide (And.intro y b0)
 clear y b0
 go_enter Tryz.func82,Tryz.ntmps82
 go_wp2
 obtain⟨y,b0⟩:=HH.out
 refine bodyPost_ret (results_ct rfl _ _ (w.heap.size+1) 69 _ (0,0) _ rfl y Tryz.underlying69 rfl k_f) rfl ?_
 exact⟨q0,hq0,hq1,by rw[hfm.out];rfl,b0⟩

theorem formA_er {kd d:Int}{qs:List (Int × Int)}{k er:Int}(h:formA kd d qs k= .inr er):er=11∨er=1:=by
 unfold formA at h
 split at h
 ·cases h
 split at h
 ·cases h
 split at h
 ·split at h
  ·cases h;exact .inl rfl
  cases h
 cases h;exact .inr rfl
theorem cmpI_pos (X:Int):0<cmpI X 0↔0<X:=by
 unfold cmpI
 split <;> (try split) <;> omega
theorem At.Fit.kind5 {a:Atm}(h:Fit a):a.kind=0∨a.kind=1∨a.kind=2∨a.kind=3∨a.kind=4:=by
 have:=h.kinds
 omega
def HO (e:Ending)(f:Atm ⊕ Int)(vs:List (Int × Int)):Prop:=match f with
 | .inr er=>e= .returned (.tuple #[.bool false,.int .i64 er])
 | .inl f=>(¬Tot f.ps vs∧e= .returned (.tuple #[.bool false,.int .i64 170]))∨(Tot f.ps vs∧∃b,e= .returned (.tuple #[.bool b,.int .i64 0])∧(b=true↔Sat f (val1 vs)))

theorem aholds_n {w:World}{kd:Int}{sd:Bool}{ad:Option Addr}{ld cd:Nat}{ap:Option Addr}{np cp:Nat}{sk:Bool}{ak:Option Addr}{lk ck:Nat}{d k:Int}{ps:List (Int × Int)}{B:Nat}{ad2:Option Addr}{n2 cp2:Nat}{vs:List (Int × Int)}{B2:Nat}
  (hd:Zm w sd ad ld cd d)(hld:ld≤B)(hP:Pr w ap np ps B)(hk:Zm w sk ak lk ck k)(hlk:lk≤B)(hn:np≤262144)(hB:B+np+1≤4194000)(hV:Pr w ad2 n2 vs B2)(hn2:n2≤16777216)(hB2:B2≤16777216):
  Calls Tryz.prog 44 #[.agg #[.int .i64 kd,.bool sd,.slice ad ld cd,.slice ap np cp,.bool sk,.slice ak lk ck],.slice ad2 n2 cp2] w fun e w'=> ∃qs,Std qs∧(∀v,csum qs v=csum ps v)∧HO e (formA kd d qs k) vs∧Below w.heap.size w w':=by
 go_enter Tryz.func44,Tryz.ntmps44
 go_wp2_with fail
 have x:=AB.new w kd sd ad ld cd ap np cp sk ak lk ck
 have b0:=below_alloc w (.cells #[.int .i64 kd,.bool sd,.slice ad ld cd,.slice ap np cp,.bool sk,.slice ak lk ck] 69)
 replace hd:=hd.below b0
 replace hP:=hP.below b0
 replace hk:=hk.below b0
 replace hV:=hide hV
 generalize w.alloc (.cells #[.int .i64 kd,.bool sd,.slice ad ld cd,.slice ap np cp,.bool sk,.slice ak lk ck] 69)=wb at*
 generalize hp:w.heap.size=p at*
 replace b0:Hid (Below w.heap.size w wb):=hp▸b0
 replace hp:=hide hp
 have hnps:=hP.1
 refine(anorm_n hd hld hP hk hlk hn hB).mono ?_
 rintro e w1 ⟨qs,hS,hc,hA,k1⟩
 have hpb:=x.lt
 replace x:=x.below k1
 have kk:=hide (grow_step k1 b0.out)
 clear hd hP hk
 have e0:=x.c0
 have e1:=x.c1
 have e2:=x.c2
 have e3:=x.c3
 have e4:=x.c4
 have e5:=x.c5
 have f0:=x.f 0
 have f1:=x.f 1
 have f2:=x.f 2
 have f3:=x.f 3
 have f4:=x.f 4
 have f5:=x.f 5
 have hpl:=x.lt
 cases hf:formA kd d qs k with
 |inr er=>
  rw[hf]at hA
  have her:=formA_er hf
  have he:_=_:=hA
  subst he
  have g6:=ab_set w1 p (.int .i64 0) (.bool false) (.slice none 0 0) (.slice none 0 0) (.bool false) (.slice none 0 0)
  have kf:=hide (below_grown kk.out g6 (by have:=hp.out;omega))
  have hres:Hid (∃qs,Std qs∧(∀v,csum qs v=csum ps v)∧HO (.returned (.tuple #[.bool false,.int .i64 er])) (formA kd d qs k) vs):=⟨qs,hS,hc,by rw[hf];rfl⟩
  clear hf hS hc hA g6 k1 kk
  rcases her with rfl|rfl
  ·go_wp2
   refine bodyPost_ret (results_tmp2 rfl _ _ _) rfl ?_
   obtain⟨q,h1,h2,h3⟩:=hres.out
   exact⟨q,h1,h2,h3,kf.out⟩
  go_wp2
  refine bodyPost_ret (results_tmp2 rfl _ _ _) rfl ?_
  obtain⟨q,h1,h2,h3⟩:=hres.out
  exact⟨q,h1,h2,h3,kf.out⟩
 |inl f=>
  rw[hf]at hA
  have hfit:=formA_fit hS hf
  have hlen:f.ps.length≤np:=by have h1:=(formA_prt hS hf).1;have h2:=std_len hS hc;omega
  obtain⟨fk,fd,fps,fkk⟩:=f
  obtain⟨sd1,ad1,ld1,cd1,ap1,np1,cp1,sk1,ak1,lk1,ck1,rfl,hz1,hlz1,hPn1,hnp1,hk1,hlk1,hnew1⟩:=hA
  dsimp only at hz1 hPn1 hk1 hlen
  have hnp2:np1≤262144:=by have:=hPn1.1;omega
  have g6:=ab_set w1 p (.int .i64 fk) (.bool sd1) (.slice ad1 ld1 cd1) (.slice ap1 np1 cp1) (.bool sk1) (.slice ak1 lk1 ck1)
  have hU:=ab_noU x
  have hz2:=hz1.grownU g6 hU
  have hk2:=hk1.grownU g6 hU
  have hP2:=hPn1.away (fun b off e=>by have h1:=hnew1 b off e;omega) g6 hU
  have x2:AB _ p fk sd1 ad1 ld1 cd1 ap1 np1 cp1 sk1 ak1 lk1 ck1:=ab_fin x fk sd1 ad1 ld1 cd1 ap1 np1 cp1 sk1 ak1 lk1 ck1
  have kw2:=hide (below_grown kk.out g6 (by have:=hp.out;omega))
  have HH:=hide (And.intro hz2 (And.intro hk2 (And.intro hP2 (And.intro x2 (hV.out.below kw2.out)))))
  have hres:Hid (∀e,HO e (.inl ⟨fk,fd,fps,fkk⟩) vs→∃qs,Std qs∧(∀v,csum qs v=csum ps v)∧HO e (formA kd d qs k) vs):=fun e he=>⟨qs,hS,hc,by rw[hf];exact he⟩
  clear hz1 hk1 hPn1 hnew1 hz2 hk2 hP2 x2 hU g6 hf hS hc k1 kk x hV
  go_wp2_with fail
  obtain⟨hz2,hk2,hP2,x2,hV2⟩:=HH.out
  clear HH e0 e1 e2 e3 e4 e5 f0 f1 f2 f3 f4 f5
  generalize (((((w1.setCell ⟨p,0,none⟩ (.int .i64 fk)).setCell ⟨p,1,none⟩ (.bool sd1)).setCell ⟨p,2,none⟩ (.slice ad1 ld1 cd1)).setCell ⟨p,3,none⟩ (.slice ap1 np1 cp1)).setCell ⟨p,4,none⟩ (.bool sk1)).setCell ⟨p,5,none⟩ (.slice ak1 lk1 ck1)=w2 at*
  refine(eval_n (B:=B+np+16+B2) (hP2.pr.mono o_m) hk2.zm o_m (hV2.mono o_m) o_m).mono ?_
  rintro e w3 ⟨s3,a3,l3,c3,er,rfl,k3,hcase⟩
  have kz:=below_alloc w3 (.cells #[.bool s3,.slice a3 l3 c3] 45)
  have z:=zb_new w3 s3 a3 l3 c3
  replace x2:=(x2.below k3).below kz
  replace hz2:=(hz2.below k3).below kz
  have kw3:=hide (grow_step kz (grow_step k3 kw2.out))
  clear k3 kw2 hP2 hk2 hV2
  rcases hcase with⟨hT,rfl,rfl,rfl,rfl,rfl⟩|⟨hT,rfl,hzv,hlv⟩
  ·have hfin:=hide (hres.out _ (.inl ⟨hT,rfl⟩))
   clear hres kz
   go_wp2
   refine bodyPost_ret (results_tmp2 rfl _ _ _) rfl ?_
   obtain⟨q,h1,h2,h3⟩:=hfin.out
   exact⟨q,h1,h2,h3,kw3.out⟩
  replace hzv:=hzv.below kz
  have e0:=x2.c0
  have e1:=x2.c1
  have e2:=x2.c2
  have z0:=z.c0
  have z1:=z.c1
  have hzl:=z.lt
  generalize hX:fkk+ev fps (val1 vs)=X at*
  rcases hfit.kind5 with hk5|hk5|hk5|hk5|hk5
  ·dsimp only at hk5
   subst hk5
   have hfin:=hide (hres.out (.returned (.tuple #[.bool false,.int .i64 0])) (.inr ⟨hT,false,rfl,by simp[Sat]⟩))
   clear hres kz
   go_wp2
   refine bodyPost_ret (results_tmp2 rfl _ _ _) rfl ?_
   obtain⟨q,h1,h2,h3⟩:=hfin.out
   exact⟨q,h1,h2,h3,kw3.out⟩
  ·dsimp only at hk5
   subst hk5
   have hfin:=hide (hres.out (.returned (.tuple #[.bool true,.int .i64 0])) (.inr ⟨hT,true,rfl,by simp[Sat]⟩))
   clear hres kz
   go_wp2
   refine bodyPost_ret (results_tmp2 rfl _ _ _) rfl ?_
   obtain⟨q,h1,h2,h3⟩:=hfin.out
   exact⟨q,h1,h2,h3,kw3.out⟩
  ·dsimp only at hk5
   subst hk5
   have hfin:=hide (hres.out (.returned (.tuple #[.bool (decide (0<cmpI X 0)),.int .i64 0])) (.inr ⟨hT,_,rfl,by simp[Sat,hX,cmpI_pos]⟩))
   clear hres kz
   go_wp2_with fail
   generalize w3.alloc (.cells #[.bool s3,.slice a3 l3 c3] 45)=w4 at*
   refine(zsign_n hzv.zm o_m).mono ?_
   rintro e w5 ⟨rfl,k5⟩
   have kf:=hide (grow_step k5 kw3.out)
   clear k5 kw3
   generalize cmpI X 0=cz at*
   go_wp2
   refine bodyPost_ret (results_tmp2 rfl _ _ _) rfl ?_
   obtain⟨q,h1,h2,h3⟩:=hfin.out
   exact⟨q,h1,h2,h3,kf.out⟩
  ·dsimp only at hk5
   subst hk5
   have hpos:0<fd:=hfit.dpos (.inl rfl)
   have hfin:=hide (hres.out (.returned (.tuple #[.bool (decide (fd∣X)),.int .i64 0])) (.inr ⟨hT,_,rfl,by simp[Sat,hX]⟩))
   clear hres kz
   go_wp2_with fail
   generalize w3.alloc (.cells #[.bool s3,.slice a3 l3 c3] 45)=w4 at*
   refine(divides_n hz2.zm hzv.zm o_m o_m hpos).mono ?_
   rintro e w5 ⟨rfl,k5⟩
   have kf:=hide (grow_step k5 kw3.out)
   clear k5 kw3
   generalize decide (fd∣X)=cz at*
   go_wp2
   refine bodyPost_ret (results_tmp2 rfl _ _ _) rfl ?_
   obtain⟨q,h1,h2,h3⟩:=hfin.out
   exact⟨q,h1,h2,h3,kf.out⟩
  dsimp only at hk5
  subst hk5
  have hpos:0<fd:=hfit.dpos (.inr rfl)
  have hfin:=hide (hres.out (.returned (.tuple #[.bool (!decide (fd∣X)),.int .i64 0])) (.inr ⟨hT,_,rfl,by simp[Sat,hX]⟩))
  clear hres kz
  go_wp2_with fail
  generalize w3.alloc (.cells #[.bool s3,.slice a3 l3 c3] 45)=w4 at*
  refine(divides_n hz2.zm hzv.zm o_m o_m hpos).mono ?_
  rintro e w5 ⟨rfl,k5⟩
  have kf:=hide (grow_step k5 kw3.out)
  clear k5 kw3
  generalize decide (fd∣X)=cz at*
  go_wp2
  refine bodyPost_ret (results_tmp2 rfl _ _ _) rfl ?_
  obtain⟨q,h1,h2,h3⟩:=hfin.out
  exact⟨q,h1,h2,h3,kf.out⟩
end Go.Proofs.YtllfelooahplhaaGreatDoor
