/-
 Several texts in one: YE,YF,YG,YH,YI,A0,BA.
-/
import Derived.Test.YtllfelooahplhaaGreatDoorSimT
import Derived.Test.YtllfelooahplhaaGreatDoorSim22
import Derived.Test.YtllfelooahplhaaGreatDoorSim14
set_option maxRecDepth 100000
set_option maxHeartbeats 6400000
namespace Go.Proofs.YtllfelooahplhaaGreatDoor
open Go.RowKit Go.Sort Go.Shelf
open Tm

variable {w w':World}{b l c n B p cp n2 cp2 t n0 cp0 l0 c0:Nat}{s s0:Bool}{a ad ad2 ad0 a0:Option Addr}{vs ps qs:List (Int × Int)}{k z:Int}
def val1 (vs:List (Int × Int))(v:Int):Int:=(fv vs v).getD 0
def Tot (ps vs:List (Int × Int)):Prop:=∀v,csum ps v≠0→fv vs v≠none

theorem noU_nocell (h: ∀off,w.cell? ⟨b,off,none⟩=none):NoU w b:=fun off x=>by rw[h];simp
theorem zb_noU (h:ZB w b s a l c):NoU w b:=by
 intro off x
 rw[cell_of_row w b off _ _ (0,0) h]
 match off with
 |0=>simp
 |1=>simp
 |k+2=>simp
theorem rng_noU {r:Nat}{D:DataW Value}{left:Lit→Bool}{cnt:Nat}(h:w.ranges Tryz.prog 3 elemR b r n D left cnt):NoU w r:=by
 obtain⟨_,_,_,_,_,_,_,_,_,hit,_⟩:=h
 refine noU_nocell fun off=> ?_
 simp[World.cell?,hit]
theorem FM.grownU {m:Nat}(h:FM w m n vs B)(hg:w.grownBy w' (some b))(hb:NoU w b)(hm:m≠b):FM w' m n vs B:=by
 obtain⟨D,h1,h2⟩:=h
 refine⟨D,h1.kept hg (by simpa using hm),fun v hv=> ?_⟩
 rcases h2 v hv with h3|⟨s,a,l,c,z,h3,h4,h5⟩
 ·exact .inl h3
 exact .inr ⟨s,a,l,c,z,h3,h4.grownU hg hb,h5⟩
theorem GA.grownU {D:DataW Value}{f:Int→Int}(h:GA w D f B)(hg:w.grownBy w' (some b))(hb:NoU w b):GA w' D f B:=h.kept fun _ _ _ _ _ hz=>hz.grownU hg hb
theorem GA.below {D:DataW Value}{f:Int→Int}(h:GA w D f B)(hb:Below w.heap.size w w'):GA w' D f B:=h.kept fun _ _ _ _ _ hz=>hz.below hb

def keep (left:Lit→Bool)(ps:List (Int × Int)):List (Int × Int):=ps.filter fun p=>left (.int .i64 p.1)
theorem csum_keep (left:Lit→Bool)(ps:List (Int × Int))(v:Int):csum (keep left ps) v=if left (.int .i64 v)=true then csum ps v else 0:=by
 induction ps with
 |nil=>simp[keep,csum]
 |cons p ps ih=>
  unfold keep at*
  by_cases h:left (.int .i64 p.1)=true
  ·rw[List.filter_cons_of_pos (by simpa using h)]
   simp only[csum,ih]
   by_cases e:p.1=v
   ·subst e;simp[h]
   simp[e]
  rw[List.filter_cons_of_neg (by simpa using h),ih]
  by_cases e:p.1=v
  ·subst e;simp[h]
  simp[csum,e]
theorem keep_step (left:Lit→Bool)(ps:List (Int × Int))(v:Int)(hv:left (.int .i64 v)=true)(f:Int→Int):
  ev (keep left ps) f=csum ps v*f v+ev (keep (fun z=>left z&& !z.sameKey (.int .i64 v)) ps) f:=by
 rw[ev_split v (keep left ps),csum_keep,if_pos hv]
 congr 2
 unfold keep wo
 rw[List.filter_filter]
 congr 1
 funext p
 dsimp only
 rw[sameKey_i,Bool.and_comm]
theorem keep_start {D:DataW Value}(h:GA w D (csum ps) B)(hi: ∀p∈ps,I64 p.1)(f:Int→Int):ev (keep (Maps.has D) ps) f=ev ps f:=by
 refine ev_congr (fun v=> ?_) f
 rw[csum_keep]
 split
 ·rfl
 rename_i hh
 by_cases hv:I64 v
 ·rcases h v hv with⟨_,h2⟩|⟨s,a,l,c,h2,_⟩
  ·exact h2.symm
  exact absurd (Maps.has_true_of_atKey h2) hh
 exact(csum_i64 hi hv).symm
theorem keep_end {left:Lit→Bool}(h: ∀kl,left kl=false)(ps:List (Int × Int))(f:Int→Int):ev (keep left ps) f=0:=by
 have:keep left ps= []:=by
  unfold keep
  rw[List.filter_eq_nil_iff]
  intro p _
  simp[h]
 rw[this];rfl

def Ev (ps vs:List (Int × Int))(k:Int)(left:Lit→Bool)(z:Int):Prop:=z+ev (keep left ps) (val1 vs)=k+ev ps (val1 vs)∧∀v,I64 v→left (.int .i64 v)=false→csum ps v≠0→fv vs v≠none
theorem ev_begin {D:DataW Value}(h:GA w D (csum ps) B)(hi: ∀p∈ps,I64 p.1)(k:Int):Ev ps vs k (Maps.has D) k:=by
 refine⟨by rw[keep_start h hi],fun v hv hl hc=> ?_⟩
 rcases h v hv with⟨_,h2⟩|⟨s,a,l,c,h2,_⟩
 ·exact absurd h2 hc
 rw[Maps.has_true_of_atKey h2]at hl;cases hl
theorem ev_skip {left:Lit→Bool}{v:Int}(h:Ev ps vs k left z)(hl:left (.int .i64 v)=true)(hc:csum ps v=0):Ev ps vs k (fun z=>left z&& !z.sameKey (.int .i64 v)) z:=by
 refine⟨?_,fun u hu hlu hcu=> ?_⟩
 ·have:=h.1
  rw[keep_step left ps v hl,hc,Int.zero_mul,Int.zero_add]at this
  exact this
 by_cases e:u=v
 ·subst e;exact absurd hc hcu
 dsimp only at hlu
 rw[sameKey_i]at hlu
 simp[e]at hlu
 exact h.2 u hu hlu hcu
theorem ev_add {left:Lit→Bool}{v y:Int}(h:Ev ps vs k left z)(hl:left (.int .i64 v)=true)(hf:fv vs v=some y):Ev ps vs k (fun z=>left z&& !z.sameKey (.int .i64 v)) (z+csum ps v*y):=by
 refine⟨?_,fun u hu hlu hcu=> ?_⟩
 ·have:=h.1
  rw[keep_step left ps v hl]at this
  have e:val1 vs v=y:=by simp[val1,hf]
  rw[e]at this
  omega
 by_cases e:u=v
 ·subst e;rw[hf];simp
 dsimp only at hlu
 rw[sameKey_i]at hlu
 simp[e]at hlu
 exact h.2 u hu hlu hcu
theorem ev_finish {left:Lit→Bool}(h:Ev ps vs k left z)(hl: ∀kl,left kl=false)(hi: ∀p∈ps,I64 p.1):Tot ps vs∧z=k+ev ps (val1 vs):=by
 refine⟨fun v hc=> ?_,?_⟩
 ·by_cases hv:I64 v
  ·exact h.2 v hv (hl _) hc
  exact absurd (csum_i64 hi hv) hc
 have:=h.1
 rw[keep_end hl,Int.add_zero]at this
 exact this

theorem zg2 {wb:World}{q u l1 c1 l2 c2:Nat}{s1 s2:Bool}{a1 a2:Option Addr}(x:ZB wb p s1 a1 l1 c1)(x2:ZB wb q s2 a2 l2 c2)(hp:u≠p)(hq:u≠q)(k:wb.grownBy w' (some u)):
  w'.cell? ⟨p,0,none⟩=some (.bool s1)∧w'.cell? ⟨p,1,none⟩=some (.slice a1 l1 c1)∧w'.cell? ⟨q,0,none⟩=some (.bool s2)∧w'.cell? ⟨q,1,none⟩=some (.slice a2 l2 c2)∧wb.grownBy w' (some u):=by
 have x':=x.grown k (Ne.symm hp)
 have x2':=x2.grown k (Ne.symm hq)
 exact⟨x'.c0,x'.c1,x2'.c0,x2'.c1,k⟩
theorem zb_set (w:World)(b:Nat)(v0 v1:Value):w.grownBy ((w.setCell ⟨b,0,none⟩ v0).setCell ⟨b,1,none⟩ v1) (some b):=gb_trans (gb_set _ _ _ _) (gb_set _ _ _ _)

theorem eval_n (hP:Pr w ad n ps B)(hz:Zm w s a l c k)(hl:l≤B)(hV:Pr w ad2 n2 vs B)(hB:B+n+n2≤268435456):
  Calls Tryz.prog 23 #[.agg #[.slice ad n cp,.bool s,.slice a l c],.slice ad2 n2 cp2] w fun e w'=> ∃s' a' l' c' er,e= .returned (.tuple #[.agg #[.bool s',.slice a' l' c'],.int .i64 er])∧Below w.heap.size w w'∧((¬Tot ps vs∧er=170∧s'=false∧a'=none∧l'=0∧c'=0)∨(Tot ps vs∧er=0∧Zn w' s' a' l' c' (k+ev ps (val1 vs))∧l'≤2*B+2*n+1)):=by
 have hi:=hP.i64
 go_enter Tryz.func23,Tryz.ntmps23
 go_wp2_with fail
 have x:=(tb_new w ad n cp s a l c).below (below_alloc _ (.cells #[.bool false,.slice none 0 0] 45))
 have y:=zb_new (w.alloc (.cells #[.slice ad n cp,.bool s,.slice a l c] 47)) false none 0 0
 have b0:Below w.heap.size w ((w.alloc (.cells #[.slice ad n cp,.bool s,.slice a l c] 47)).alloc (.cells #[.bool false,.slice none 0 0] 45)):=below_alloc' (below_alloc _ _) _
 rw[show(w.alloc (.cells #[.slice ad n cp,.bool s,.slice a l c] 47)).heap.size=w.heap.size+1 from by simp]at y
 generalize (w.alloc (.cells #[.slice ad n cp,.bool s,.slice a l c] 47)).alloc (.cells #[.bool false,.slice none 0 0] 45)=wb at*
 have hpr:w.heap.size<w.heap.size+1:=by omega
 replace hP:=hP.below b0
 replace hz:=hz.below b0
 replace hV:=hV.below b0
 generalize hp:w.heap.size=p at*
 replace b0:Hid (Below w.heap.size w wb):=hp▸b0
 replace hp:=hide hp
 generalize p+1=r at*
 refine(first_n hV (by omega)).mono ?_
 rintro e w1 ⟨m1,rfl,hF,k1,hm1⟩
 have x1:=x.below k1
 have y1:=y.below k1
 have hrm:r<m1:=Nat.lt_of_lt_of_le y.lt hm1
 replace hP:=hP.below k1
 replace hz:=hz.below k1
 replace b0:=hide (grow_step k1 b0.out)
 have t0:=x1.c0
 have t1:=x1.c1
 have t2:=x1.c2
 clear k1 x y hV hm1
 go_wp2_with fail
 refine(norm_n hz o_m).mono ?_
 rintro e w2 ⟨s2,a2,l2,c2,rfl,hz2,k2,hl2⟩
 have x2:=x1.below k2
 have y2:=y1.below k2
 have z2:=zb_new w2 s2 a2 l2 c2
 have ka:=below_alloc w2 (.cells #[.bool s2,.slice a2 l2 c2] 45)
 have k2a:=grow_step ka k2
 have t3:=x2.c0
 have hxl:=x2.lt
 clear t0 t1 t2
 go_wp2_with fail
 have kb:=below_alloc (w2.alloc (.cells #[.bool s2,.slice a2 l2 c2] 45)) (.cells #[.slice ad n cp] 42)
 refine(gather1 (b:=w2.heap.size+1) (by simpa using heap_alloc_new (w2.alloc (.cells #[.bool s2,.slice a2 l2 c2] 45)) (.cells #[.slice ad n cp] 42)) ((hP.below k2a).below kb) o_m).mono ?_
 rintro e w3 ⟨m2,rfl,⟨D,hown,hGA⟩,k3,hm2⟩
 replace k3:=grow_step k3 kb
 have hm2':w2.heap.size<m2:=by simp at hm2;omega
 have y3:=((y2.below ka).below k3)
 have z3:=z2.below k3
 have hF3:=((hF.below k2).below ka).below k3
 have hz3:=(hz2.below ka).below k3
 have hrel0:r<m1∧m1<w2.heap.size∧w2.heap.size<m2∧m2<w3.heap.size:=⟨hrm,Nat.lt_of_lt_of_le hF.lt k2.size,hm2',hown.lt⟩
 have b3:=hide (grow_step k3 (grow_step ka (grow_step k2 b0.out)))
 clear hP hz b0 hF x1 y1 k2 x2 y2 z2 ka k2a hz2 kb k3 hm2 hm2' t3 hxl hrm
 go_wp2_with(at_range;refine wpList_range_own _ rfl _ 100 rfl 3 45 tk Tryz.underlying100 _ m2 n D rfl hown ?_;intro w4 hrg0 hg0 hs0)
 go_frame
 have k4:=gb_none hg0
 have y4:=y3.below k4
 have z4:=z3.below k4
 have hF4:=hF3.below k4
 have hz4:=hz3.below k4
 have hGA4:=hGA.below k4
 have hsz0:=hrg0.owns.size_le
 replace b3:=hide (grow_step k4 b3.out)
 clear hg0 k4 y3 z3 hF3 hz3 hGA hown hs0
 generalize w2.heap.size=u at*
 generalize w3.heap.size=rI at*
 replace hrel0:=hide hrel0
 go_loopw [8] (fun _ wr=> ∃(s1:Bool) (a1:Option Addr) (l1 c1:Nat) (z:Int) (left:Lit→Bool) (cnt:Nat),wr.ranges Tryz.prog 3 elemR m2 rI n D left cnt∧ZB wr u s1 a1 l1 c1∧Zn wr s1 a1 l1 c1 z∧l1+cnt≤2*B+2*n+1∧ZB wr r false none 0 0∧FM wr m1 n2 vs B∧GA wr D (csum ps) (B+n)∧Hid (Ev ps vs k left z)∧Hid (Below w.heap.size w wr)∧cnt≤n) (fun _ wr=>wr.rangeLeft m2 rI)
 case atStart=>exact⟨s2,a2,l2,c2,k,_,_,hrg0,z4,hz4,by omega,y4,hF4,hGA4,ev_begin hGA4 hi k,b3,hsz0⟩
 case round=>
  obtain⟨s1,a1,l1,c1,z,left,cnt,hrg,hu,hzr,hlr,hy,hFr,hGr,hE,kr,hcn⟩:=hrel
  have u0:=hu.c0
  have u1:=hu.c1
  have v0:=hy.c0
  have v1:=hy.c1
  have v2:=hy.f 0
  have v3:=hy.f 1
  go_wp2_with(at_next;refine wpList_next_z rfl _ rfl m2 rI n D left cnt rfl hrg (fun hl0=> ?_) (fun v s3 a3 l3 c3 w5 cnt2 hv hlk hat hrg2 hlt hgr hen=> ?_))
  ·refine bodyPost_ret (results_ct rfl _ _ r 45 _ (0,0) _ rfl (zb_fin hy s1 a1 l1 c1) Tryz.underlying45 rfl k_f) rfl ?_
   obtain⟨hT,rfl⟩:=ev_finish hE.out hl0 hi
   have hrw:w.heap.size≤r:=by have:=hp.out;omega
   exact⟨s1,a1,l1,c1,0,by simp,(kr.out.setCell hrw _).setCell hrw _,.inr ⟨hT,rfl,zb_zn hy hzr _ _ _ _,by omega⟩⟩
  have hwI:w.heap.size≤rI:=by have:=hp.out;have:=hrel0.out;omega
  have hnI:=rng_noU hrg
  have hu5:=hu.grown hgr (by have:=hrel0.out;omega)
  have hzr5:=hzr.grownU hgr hnI
  have hy5:=hy.grown hgr (by have:=hrel0.out;omega)
  have hF5:=hFr.grownU hgr hnI (by have:=hrel0.out;omega)
  have hG5:=hGr.grownU hgr hnI
  have hB5:=hide (below_grown kr.out hgr hwI)
  have hZ:Zn w5 s3 a3 l3 c3 (csum ps v)∧l3≤B+n:=by
   rcases hG5 v hv with⟨h1,_⟩|⟨s',a',l',c',h1,h2,h3⟩
   ·rw[Maps.has_true_of_atKey hat]at h1;cases h1
   have:=(hat (.held (.bool true))).symm.trans (h1 _)
   simp at this
   obtain⟨rfl,rfl,rfl,rfl⟩:=this
   exact⟨h2,h3⟩
  obtain⟨hZ,hl3⟩:=hZ
  have kb:=below_alloc w5 (.cells #[.bool s3,.slice a3 l3 c3] 45)
  have xc:=zb_new w5 s3 a3 l3 c3
  clear hu hy u0 u1 v0 v1 v2 v3 kr hFr hGr hzr hgr hnI hen
  refine(zsign_n (hZ.below kb).zm o_m).mono ?_
  rintro e w6 ⟨rfl,k6⟩
  replace xc:=xc.below k6
  replace k6:=grow_step k6 kb
  have hrg6:=hrg2.kept (bg k6) (by simp) (by simp)
  have hu6:=hu5.below k6
  have hzr6:=hzr5.below k6
  have hy6:=hy5.below k6
  have hF6:=hF5.below k6
  have hG6:=hG5.below k6
  have hB6:=hide (grow_step k6 hB5.out)
  have hZ6:=hZ.below k6
  have huq:u≠w5.heap.size:=Nat.ne_of_lt hu5.lt
  clear hu5 hzr5 hy5 hF5 hG5 hB5 hZ kb k6 hrg2
  generalize w5.heap.size=q3 at*
  by_cases hc0:csum ps v=0
  ·have e0:cmpI (csum ps v) 0=0:=cmpI_eq hc0
   rw[e0]
   go_wp2_with fail
   exact⟨⟨s1,a1,l1,c1,z,_,cnt2,hrg6,hu6,hzr6,by omega,hy6,hF6,hG6,ev_skip hE.out hlk hc0,hB6,by omega⟩,by rw[hrg6.left_eq,hrg.left_eq];exact hlt⟩
  have e0:cmpI (csum ps v) 0≠0:=by unfold cmpI;split <;> (try split) <;> omega
  generalize cmpI (csum ps v) 0=sgn at*
  obtain⟨s4,a4,l4,c4,ok,hlook,hok⟩:=hF6.look hv
  rcases hok with⟨rfl,hf⟩|⟨rfl,y,hzy,hf,hl4⟩
  ·have v0:=hy6.c0
   have v1:=hy6.c1
   have v2:=hy6.f 0
   have v3:=hy6.f 1
   have hrl:=hy6.lt
   go_wp2
   refine bodyPost_ret (results_ct rfl _ _ r 45 _ (0,0) _ rfl ((zb_fin hy6 false none 0 0).below (below_alloc _ (.cells #[.bool s4,.slice a4 l4 c4] 45))) Tryz.underlying45 rfl k_f) rfl ?_
   have hrw:w.heap.size≤r:=by have:=hp.out;omega
   exact⟨false,none,0,0,170,by simp,below_alloc' ((hB6.out.setCell hrw _).setCell hrw _) _,.inl ⟨fun hT=>hT v hc0 hf,rfl,rfl,rfl,rfl,rfl⟩⟩
  have kc:=below_alloc w6 (.cells #[.bool s4,.slice a4 l4 c4] 45)
  have xv:=zb_new w6 s4 a4 l4 c4
  have xc7:=xc.below kc
  have hrg7:=hrg6.kept (bg kc) (by simp) (by simp)
  have hu7:=hu6.below kc
  have hzr7:=hzr6.below kc
  have hy7:=hy6.below kc
  have hF7:=hF6.below kc
  have hG7:=hG6.below kc
  have hB7:=hide (grow_step kc hB6.out)
  have hZ7:=hZ6.below kc
  have hzy7:=hzy.below kc
  have huv:u≠w6.heap.size:=Nat.ne_of_lt hu6.lt
  clear hF6 hG6 hB6 hy6 hzr6 hrg6 kc hu6 hZ6 hzy xc
  go_wp2_with fail
  generalize w6.alloc (.cells #[.bool s4,.slice a4 l4 c4] 45)=wb at*
  generalize w6.heap.size=q4 at*
  have kd:=grow_drew (Below.refl wb.heap.size wb)
  have hd:wb.grownBy wb.drew (some u):=⟨rfl,rfl,rfl,Nat.le_refl _,fun _ _ _=>rfl⟩
  have u0:=hu7.c0
  have u1:=hu7.c1
  refine wp_region_held_drew (S:=(fun w'=>w'.cell? ⟨q3,0,none⟩=some (.bool s3)∧w'.cell? ⟨q3,1,none⟩=some (.slice a3 l3 c3)∧w'.cell? ⟨q4,0,none⟩=some (.bool s4)∧w'.cell? ⟨q4,1,none⟩=some (.slice a4 l4 c4)∧wb.grownBy w' (some u))) k_f (zg2 xc7 xv huq huv hd) (fun hHeld=> ?_)
  show wpAnyH _ _ _ _ _ 6 _ _ _
  refine tkz 1 40 ?_
  (try simp only[pz])
  refine tkz 2 41 ?_
  (try simp only[pz])
  refine wpAnyH_ready (rs:=[0,3]) k_f (by simp) ?_
  refine AllReadyH.cons (o:=⟨some 39,_,_,_,_,_⟩) rfl (fun K hK=> ?_) ?_
  ·go_simp
   refine hK.out _ _ ?_ ?_
   ·(try dsimp only);(refine zg2 xc7 xv huq huv ?_;assumption)
   clear hK K hHeld;intro hHeld
   (try simp only[pz])
   refine ryz 3 (some 42) (fun K hK=> ?_) ?_
   ·go_simp
    go_at_call 65;refine(zmul_n (Zm.below hZ7.zm kd) (Zm.below hzy7 kd) o_m o_m).mono ?_;rintro e wM ⟨sM,aM,lM,cM,rfl,hzM,kM,hlM⟩;have hgM:=gb_below hd kM;have kM':=grow_step kM kd;have uM:=hu7.below kM';have uM0:=uM.c0;have uM1:=uM.c1
    (try go_wp2_with fail)
    refine hK.out _ _ ?_ ?_
    ·(try dsimp only);(refine zg2 xc7 xv huq huv ?_;assumption)
    clear hK K hHeld;intro hHeld
    (try simp only[pz])
    refine ryz 4 (some 43) (fun K hK=> ?_) ?_
    ·go_simp
     go_at_call 64;refine(zadd_n (Zm.below hzr7.zm kM') hzM.zm o_m o_m).mono ?_;rintro e wA ⟨sA,aA,lA,cA,rfl,hzA,kA,hlA⟩;have hgA:=gb_below hgM kA;have uA:=uM.below kA;have uA0:=uA.c0;have uA1:=uA.c1;have uA2:=uA.f 0;have uA3:=uA.f 1;have hg2:=gb_trans hgA (zb_set wA u (.bool sA) (.slice aA lA cA))
     (try go_wp2_with fail)
     refine hK.out _ _ ?_ ?_
     ·(try dsimp only);(refine zg2 xc7 xv huq huv ?_;assumption)
     clear hK K hHeld;intro hHeld
     (try simp only[pz])
     refine ryz 5 none (fun K hK=> ?_) ?_
     ·go_simp
      refine hK.out _ _ ?_ ?_
      ·(try dsimp only);(refine zg2 xc7 xv huq huv ?_;assumption)
      clear hK K hHeld;intro hHeld
      (try simp only[pz])
      refine wpAnyH_done k_f ?_ _
      (have hnu:=zb_noU hu7;have hrg8:=hrg7.kept hg2 (by have:=hrel0.out;simp;omega) (by have:=hrel0.out;simp;omega);have hy8:=hy7.grown hg2 (by have:=hrel0.out;omega);have hF8:=hF7.grownU hg2 hnu (by have:=hrel0.out;omega);have hG8:=hG7.grownU hg2 hnu;have hB8:=hide (below_grown hB7.out hg2 (by have:=hp.out;have:=hrel0.out;omega));have hu8:=zb_fin uA sA aA lA cA;have hz8:=zb_zn uA hzA sA aA lA cA;clear hg2 hgA hgM hd kd kM kM' kA uA0 uA1 uA2 uA3 uM0 uM1 uA uM u0 u1 hzA hzM hF7 hG7 hB7 hy7 hzr7 hrg7 hu7 hnu;go_wp2_with fail;exact⟨⟨sA,aA,lA,cA,_,_,cnt2,hrg8,hu8,hz8,by omega,hy8,hF8,hG8,ev_add hE.out hlk hf,hB8,by omega⟩,by rw[hrg8.left_eq,hrg.left_eq];exact hlt⟩)
     exact AllReadyH.nil
    exact AllReadyH.nil
   exact AllReadyH.nil
  refine AllReadyH.cons (o:=⟨some 42,_,_,_,_,_⟩) rfl (fun K hK=> ?_) ?_
  ·go_simp
   go_at_call 65;refine(zmul_n (Zm.below hZ7.zm kd) (Zm.below hzy7 kd) o_m o_m).mono ?_;rintro e wM ⟨sM,aM,lM,cM,rfl,hzM,kM,hlM⟩;have hgM:=gb_below hd kM;have kM':=grow_step kM kd;have uM:=hu7.below kM';have uM0:=uM.c0;have uM1:=uM.c1
   (try go_wp2_with fail)
   refine hK.out _ _ ?_ ?_
   ·(try dsimp only);(refine zg2 xc7 xv huq huv ?_;assumption)
   clear hK K hHeld;intro hHeld
   (try simp only[pz])
   refine ryz 0 (some 39) (fun K hK=> ?_) ?_
   ·go_simp
    refine hK.out _ _ ?_ ?_
    ·(try dsimp only);(refine zg2 xc7 xv huq huv ?_;assumption)
    clear hK K hHeld;intro hHeld
    (try simp only[pz])
    refine ryz 4 (some 43) (fun K hK=> ?_) ?_
    ·go_simp
     go_at_call 64;refine(zadd_n (Zm.below hzr7.zm kM') hzM.zm o_m o_m).mono ?_;rintro e wA ⟨sA,aA,lA,cA,rfl,hzA,kA,hlA⟩;have hgA:=gb_below hgM kA;have uA:=uM.below kA;have uA0:=uA.c0;have uA1:=uA.c1;have uA2:=uA.f 0;have uA3:=uA.f 1;have hg2:=gb_trans hgA (zb_set wA u (.bool sA) (.slice aA lA cA))
     (try go_wp2_with fail)
     refine hK.out _ _ ?_ ?_
     ·(try dsimp only);(refine zg2 xc7 xv huq huv ?_;assumption)
     clear hK K hHeld;intro hHeld
     (try simp only[pz])
     refine ryz 5 none (fun K hK=> ?_) ?_
     ·go_simp
      refine hK.out _ _ ?_ ?_
      ·(try dsimp only);(refine zg2 xc7 xv huq huv ?_;assumption)
      clear hK K hHeld;intro hHeld
      (try simp only[pz])
      refine wpAnyH_done k_f ?_ _
      (have hnu:=zb_noU hu7;have hrg8:=hrg7.kept hg2 (by have:=hrel0.out;simp;omega) (by have:=hrel0.out;simp;omega);have hy8:=hy7.grown hg2 (by have:=hrel0.out;omega);have hF8:=hF7.grownU hg2 hnu (by have:=hrel0.out;omega);have hG8:=hG7.grownU hg2 hnu;have hB8:=hide (below_grown hB7.out hg2 (by have:=hp.out;have:=hrel0.out;omega));have hu8:=zb_fin uA sA aA lA cA;have hz8:=zb_zn uA hzA sA aA lA cA;clear hg2 hgA hgM hd kd kM kM' kA uA0 uA1 uA2 uA3 uM0 uM1 uA uM u0 u1 hzA hzM hF7 hG7 hB7 hy7 hzr7 hrg7 hu7 hnu;go_wp2_with fail;exact⟨⟨sA,aA,lA,cA,_,_,cnt2,hrg8,hu8,hz8,by omega,hy8,hF8,hG8,ev_add hE.out hlk hf,hB8,by omega⟩,by rw[hrg8.left_eq,hrg.left_eq];exact hlt⟩)
     exact AllReadyH.nil
    exact AllReadyH.nil
   exact AllReadyH.nil
  exact AllReadyH.nil

theorem infoI :(Tryz.prog.info? 3).map (fun i=>(i.zero,i.size,i.bytes))=some (some (.int .i64 0),1,8):=by kernel_rfl




def ordL :List (Int × Int)→List (Int × Int)→Int
 | [],[]=>0
 | [],_::_=> -1
 |_::_,[]=>1
 |p::ps,q::qs=>if ordQ p q≠0 then ordQ p q else ordL ps qs
def ordT (ps qs:List (Int × Int))(k k2:Int):Int:=if ordL ps qs≠0 then ordL ps qs else cmpI k k2

theorem ordL_drop (h1:t<ps.length)(h2:t<qs.length):ordL (ps.drop t) (qs.drop t)=if ordQ ps[t] qs[t]≠0 then ordQ ps[t] qs[t]else ordL (ps.drop (t+1)) (qs.drop (t+1)):=by
 rw[List.drop_eq_getElem_cons h1,List.drop_eq_getElem_cons h2]
 rfl
theorem ordL_left (h1:t<ps.length)(h2:qs.length≤t):ordL (ps.drop t) (qs.drop t)=1:=by
 rw[List.drop_eq_getElem_cons h1,List.drop_eq_nil_of_le h2]
 rfl
theorem ordL_right (h1:ps.length≤t)(h2:t<qs.length):ordL (ps.drop t) (qs.drop t)= -1:=by
 rw[List.drop_eq_getElem_cons h2,List.drop_eq_nil_of_le h1]
 rfl
theorem ordL_both (h1:ps.length≤t)(h2:qs.length≤t):ordL (ps.drop t) (qs.drop t)=0:=by
 rw[List.drop_eq_nil_of_le h1,List.drop_eq_nil_of_le h2]
 rfl

theorem compareF_n (hP:Pr w ad n ps B)(hP2:Pr w ad2 n2 qs B)(hn:n≤536870912)(hB:B≤1099511627776):
  Calls Tryz.prog 189 #[.slice ad n cp,.slice ad2 n2 cp2,.func (.func 164) #[] #[]] w fun e w'=>e= .returned (.int .i64 (ordL ps qs))∧Below w.heap.size w w':=by
 obtain⟨h1,hP⟩:=hP
 obtain⟨h2,hP2⟩:=hP2
 have eg: ∀args w,(callFunc 164 args).run Tryz.prog w= .ok (.enter 164 args) w:=enters_of Tryz.func164 k_f rfl
 go_enter Tryz.func189,Tryz.ntmps189
 go_wp2_with fail
 go_loopw [13] (fun i wr=> ∃t:Nat,t≤n∧i= .int .i64 t∧Hid (ordL ps qs=ordL (ps.drop t) (qs.drop t))∧t≤n2∧Below w.heap.size w wr) (fun i _=>n-(intOf i).toNat)
 case atStart=>exact⟨0,Nat.zero_le _,rfl,by show _=_;simp,Nat.zero_le _,Below.refl _ _⟩
 case round=>
  obtain⟨t,ht,rfl,hord,ht2,kr⟩:=hrel
  by_cases htn:t<n
  ·rcases hP with hP|⟨b1,o1,rfl,hP⟩
   ·omega
   obtain⟨s1,a1,l1,c1,e0,e1,e2,hz,hl1,hv⟩:=(hP.below kr).2 t o_m
   have ka:=below_alloc wr (.cells #[.int .i64 ps[t].1,.bool s1,.slice a1 l1 c1] 134)
   by_cases htn2:t<n2
   ·rcases hP2 with hP2|⟨b2,o2,rfl,hP2⟩
    ·omega
    obtain⟨s2,a2,l2,c2,e3,e4,e5,hz2,hl2,hv2⟩:=(hP2.below kr).2 t o_m
    have hb2:=hP2.1
    have hlt:b2<wr.heap.size:=Nat.lt_of_lt_of_le hb2 kr.size
    have hdrop:=hide (ordL_drop (ps:=ps) (qs:=qs) (t:=t) o_m o_m)
    generalize hpp:ps[t]=pp at*
    generalize hqq:qs[t]=qq at*
    have kb:=below_alloc (wr.alloc (.cells #[.int .i64 pp.1,.bool s1,.slice a1 l1 c1] 134)) (.cells #[.int .i64 qq.1,.bool s2,.slice a2 l2 c2] 134)
    have kab:=hide (grow_step kb ka)
    have hcall:=order_g (v1:=pp.1) (v2:=qq.1) (hz.below kab.out) (hz2.below kab.out) o_m o_m
    replace hpp:=hide hpp
    replace hqq:=hide hqq
    clear ka kb
    go_wp2_with fail
    refine hcall.mono ?_
    rintro e w3 ⟨rfl,k3⟩
    replace k3:=hide (grow_step k3.b (grow_step kab.out kr))
    clear hcall kab
    rw[show ordQ (pp.1,pp.2) (qq.1,qq.2)=ordQ pp qq from rfl]
    by_cases ho:ordQ pp qq=0
    ·have hnext:=hide (hord.out.trans (hdrop.out.trans (by rw[if_neg (by simp[ho])])))
     rw[ho]
     go_wp2_with fail
     exact⟨⟨t+1,by omega,by go_num,hnext,by omega,k3.out⟩,by simp[intOf];omega⟩
    have hval:=hide (hord.out.trans (hdrop.out.trans (by rw[if_pos ho])))
    generalize ordQ pp qq=oo at*
    go_wp2
    go_ret
    exact⟨ret_int hval.out.symm,k3.out⟩
   have hval:=hide (hord.out.trans (ordL_left (ps:=ps) (qs:=qs) (t:=t) o_m o_m))
   have kf:=hide (grow_step ka kr)
   clear ka
   go_wp2
   go_ret
   exact⟨ret_int hval.out.symm,kf.out⟩
  obtain rfl:t=n:=by omega
  by_cases htn2:t<n2
  ·have hval:=hide (hord.out.trans (ordL_right (ps:=ps) (qs:=qs) (t:=t) o_m o_m))
   go_wp2
   go_ret
   exact⟨ret_int hval.out.symm,kr⟩
  have hval:=hide (hord.out.trans (ordL_both (ps:=ps) (qs:=qs) (t:=t) o_m o_m))
  go_wp2
  go_ret
  exact⟨ret_int hval.out.symm,kr⟩

theorem Pr.tb (h:Pr w ad n ps B)(y:TB w p ad0 n0 cp0 s0 a0 l0 c0)(hg:w.grownBy w' (some p)):Pr w' ad n ps B:=by
 refine⟨h.1,?_⟩
 rcases h.2 with h2|⟨b,off,e,hb,h2⟩
 ·exact .inl h2
 by_cases h0:ps.length=0
 ·exact .inl (h.1.symm.trans h0)
 refine .inr ⟨b,off,e,Nat.lt_of_lt_of_le hb hg.size,fun i hi=> ?_⟩
 obtain⟨s,a,l,c,e0,e1,e2,hz,hl⟩:=h2 i hi
 have hne:b≠p:=by
  intro e
  subst e
  rw[cell_of_row w b _ _ _ (0,0) y]at e0
  match hk:off+i*3,e0 with
  |0,e0=>simp at e0
  |1,e0=>simp at e0
  |2,e0=>simp at e0
  |k+3,e0=>simp at e0
 have eb:w'.heap[b]? =w.heap[b]?:=hg.block b hb (by simpa using hne)
 exact⟨s,a,l,c,(World.cell?_of_block (a:=⟨b,off+i*3,none⟩) eb).trans e0,(World.cell?_of_block (a:=⟨b,off+i*3+1,none⟩) eb).trans e1,(World.cell?_of_block (a:=⟨b,off+i*3+2,none⟩) eb).trans e2,hz.grownU hg (tb_noU y),hl⟩
theorem TW.tb (h:TW w ad n s a l c ps k B)(y:TB w p ad0 n0 cp0 s0 a0 l0 c0)(hg:w.grownBy w' (some p)):TW w' ad n s a l c ps k B:=
 ⟨h.1.tb y hg,h.2.1.grownU hg (tb_noU y),h.2.2⟩

def OrdF (w W':World)(p q:Nat)(ad1:Option Addr)(n1 cp1:Nat)(s1:Bool)(a1:Option Addr)(l1 c1:Nat)(rs:List (Int × Int))(ad3:Option Addr)(n3 cp3:Nat)(s3:Bool)(a3:Option Addr)(l3 c3:Nat)(rt:List (Int × Int))(k k2:Int)(B1 B2 n n2:Nat)(ps qs:List (Int × Int)):Prop:=
 TB W' p ad1 n1 cp1 s1 a1 l1 c1∧TB W' q ad3 n3 cp3 s3 a3 l3 c3∧TW W' ad1 n1 s1 a1 l1 c1 rs k B1∧TW W' ad3 n3 s3 a3 l3 c3 rt k2 B2∧n1≤n∧n3≤n2∧Std rs∧Std rt∧(∀v,csum rs v=csum ps v)∧(∀v,csum rt v=csum qs v)∧Below w.heap.size w W'
theorem ord_end {W:World}{q:Nat}{ad9:Option Addr}{n9 cp9:Nat}{s9:Bool}{a9:Option Addr}{l9 c9:Nat}{ad1:Option Addr}{n1 cp1:Nat}{s1:Bool}{a1:Option Addr}{l1 c1:Nat}{rs:List (Int × Int)}{ad3:Option Addr}{n3 cp3:Nat}{s3:Bool}{a3:Option Addr}{l3 c3:Nat}{rt:List (Int × Int)}{k2:Int}{B1 B2:Nat}
  (x:TB W p ad0 n0 cp0 s0 a0 l0 c0)(y:TB W q ad9 n9 cp9 s9 a9 l9 c9)(t1:TW W ad1 n1 s1 a1 l1 c1 rs k B1)(t3:TW W ad3 n3 s3 a3 l3 c3 rt k2 B2)(kb:Below w.heap.size w W)(hpq:p≠q)(h1:w.heap.size≤p)(h2:w.heap.size≤q)(hn1:n1≤n)(hn3:n3≤n2)(hS1:Std rs)(hS3:Std rt)(hc1: ∀v,csum rs v=csum ps v)(hc3: ∀v,csum rt v=csum qs v):
  OrdF w ((((((W.setCell ⟨p,0,none⟩ (.slice ad1 n1 cp1)).setCell ⟨p,1,none⟩ (.bool s1)).setCell ⟨p,2,none⟩ (.slice a1 l1 c1)).setCell ⟨q,0,none⟩ (.slice ad3 n3 cp3)).setCell ⟨q,1,none⟩ (.bool s3)).setCell ⟨q,2,none⟩ (.slice a3 l3 c3)) p q ad1 n1 cp1 s1 a1 l1 c1 rs ad3 n3 cp3 s3 a3 l3 c3 rt k k2 B1 B2 n n2 ps qs:=by
 have g1:=tb_set W p (.slice ad1 n1 cp1) (.bool s1) (.slice a1 l1 c1)
 have x':=tb_fin x ad1 n1 cp1 s1 a1 l1 c1
 have y1:=y.grown g1 (Ne.symm hpq)
 have g2:=tb_set (((W.setCell ⟨p,0,none⟩ (.slice ad1 n1 cp1)).setCell ⟨p,1,none⟩ (.bool s1)).setCell ⟨p,2,none⟩ (.slice a1 l1 c1)) q (.slice ad3 n3 cp3) (.bool s3) (.slice a3 l3 c3)
 exact⟨x'.grown g2 hpq,tb_fin y1 ad3 n3 cp3 s3 a3 l3 c3,(t1.tb x g1).tb y1 g2,(t3.tb x g1).tb y1 g2,hn1,hn3,hS1,hS3,hc1,hc3,below_grown (below_grown kb g1 h1) g2 h2⟩
theorem torder_n {s2:Bool}{a2:Option Addr}{l2 c2:Nat}{k2:Int}(hP:Pr w ad n ps B)(hz:Zm w s a l c k)(hl:l≤B)(hP2:Pr w ad2 n2 qs B)(hz2:Zm w s2 a2 l2 c2 k2)(hl2:l2≤B)(hB:B+n≤268435456)(hB2:B+n2≤268435456):
  Calls Tryz.prog 177 #[.agg #[.slice ad n cp,.bool s,.slice a l c],.agg #[.slice ad2 n2 cp2,.bool s2,.slice a2 l2 c2]] w fun e w'=> ∃ps' qs',e= .returned (.int .i64 (ordT ps' qs' k k2))∧Std ps'∧Std qs'∧(∀v,csum ps' v=csum ps v)∧(∀v,csum qs' v=csum qs v)∧Below w.heap.size w w':=by
 go_enter Tryz.func177,Tryz.ntmps177
 go_wp2_with fail
 have x:=(tb_new w ad n cp s a l c).below (below_alloc _ (.cells #[.slice ad2 n2 cp2,.bool s2,.slice a2 l2 c2] 47))
 have y:=tb_new (w.alloc (.cells #[.slice ad n cp,.bool s,.slice a l c] 47)) ad2 n2 cp2 s2 a2 l2 c2
 have b0:Below w.heap.size w ((w.alloc (.cells #[.slice ad n cp,.bool s,.slice a l c] 47)).alloc (.cells #[.slice ad2 n2 cp2,.bool s2,.slice a2 l2 c2] 47)):=below_alloc' (below_alloc _ _) _
 rw[show(w.alloc (.cells #[.slice ad n cp,.bool s,.slice a l c] 47)).heap.size=w.heap.size+1 from by simp]at y
 generalize (w.alloc (.cells #[.slice ad n cp,.bool s,.slice a l c] 47)).alloc (.cells #[.slice ad2 n2 cp2,.bool s2,.slice a2 l2 c2] 47)=wb at*
 have hpr:w.heap.size<w.heap.size+1:=by omega
 replace hP:=hP.below b0
 replace hz:=hz.below b0
 replace hP2:=hP2.below b0
 replace hz2:=hz2.below b0
 generalize hp:w.heap.size=p at*
 replace b0:Hid (Below w.heap.size w wb):=hp▸b0
 replace hp:=hide hp
 generalize p+1=q at*
 have hpq:p≠q:=by omega
 have hqp:q≠p:=by omega
 have x0:=x.c0
 have x1:=x.c1
 have x2:=x.c2
 have y0:=y.c0
 have y1:=y.c1
 have y2:=y.c2
 refine Code.wp_mono (Q:=fun e a' W'=>e= .normal∧∃ad1 n1 cp1 s1 a1 l1 c1 rs ad3 n3 cp3 s3 a3 l3 c3 rt,a'=⟨#[.agg #[.slice ad n cp,.bool s,.slice a l c],.agg #[.slice ad2 n2 cp2,.bool s2,.slice a2 l2 c2],.pointer (some ⟨p,0,none⟩),.pointer (some ⟨q,0,none⟩),.int .i64 0,undef,.agg #[.slice ad n cp,.bool s,.slice a l c],.agg #[.slice ad1 n1 cp1,.bool s1,.slice a1 l1 c1],.agg #[.slice ad2 n2 cp2,.bool s2,.slice a2 l2 c2],.agg #[.slice ad3 n3 cp3,.bool s3,.slice a3 l3 c3],undef,undef,undef,undef,undef,undef,undef,undef,undef,undef,undef,undef,undef],[]⟩∧OrdF w W' p q ad1 n1 cp1 s1 a1 l1 c1 rs ad3 n3 cp3 s3 a3 l3 c3 rt k k2 (B+n+1) (B+n2+1) n n2 ps qs) ?_ ?_
 ·rintro e a' W' ⟨rfl,ad1,n1,cp1,s1,a1,l1,c1,rs,ad3,n3,cp3,s3,a3,l3,c3,rt,rfl,hF⟩
  obtain⟨hx,hy,ht1,ht3,hn1,hn3,hS1,hS3,hc1,hc3,kF⟩:=id hF
  have f0:=hx.c0
  have f1:=hx.c1
  have f2:=hx.c2
  have g0:=hy.c0
  have g1:=hy.c1
  have g2:=hy.c2
  replace kF:=hide kF
  clear hF x0 x1 x2 y0 y1 y2 b0
  go_wp2_with fail
  refine(compareF_n (B:=B+n+n2+1) (ht1.1.mono o_m) (ht3.1.mono o_m) o_m o_m).mono ?_
  rintro e w5 ⟨rfl,k5⟩
  have f3:=(hx.below k5).c1
  have f4:=(hx.below k5).c2
  have g3:=(hy.below k5).c1
  have g4:=(hy.below k5).c2
  by_cases ho:ordL rs rt=0
  ·have hval:=hide (show ordT rs rt k k2=cmpI k k2 by simp[ordT,ho])
   rw[ho]
   replace ht1:=hide (ht1.below k5)
   replace ht3:=hide (ht3.below k5)
   replace k5:=hide (grow_step k5 kF.out)
   clear f0 f1 f2 g0 g1 g2
   go_wp2_with fail
   refine(zcmp_n ht1.out.2.1 ht3.out.2.1 (by have:=ht1.out.2.2;omega) (by have:=ht3.out.2.2;omega)).mono ?_
   rintro e w6 ⟨rfl,k6⟩
   replace k6:=hide (grow_step k6 k5.out)
   clear k5
   go_wp2
   go_ret
   exact⟨rs,rt,ret_int hval.out.symm,hS1,hS3,hc1,hc3,k6.out⟩
  have hval:=hide (show ordT rs rt k k2=ordL rs rt by simp[ordT,ho])
  replace k5:=hide (grow_step k5 kF.out)
  clear f0 f1 f2 g0 g1 g2 f3 f4 g3 g4
  generalize ordL rs rt=oo at*
  go_wp2
  go_ret
  exact⟨rs,rt,ret_int hval.out.symm,hS1,hS3,hc1,hc3,k5.out⟩
 refine wp_region_held_drew (S:=fun _=>True) k_f trivial (fun hHeld=> ?_)
 show wpAnyH _ _ _ _ _ 6 _ _ _
 refine wpAnyH_ready (rs:=[0,2]) k_f (by simp) ?_
 refine AllReadyH.cons (o:=⟨some 6,_,_,_,_,_⟩) rfl (fun K hK=> ?_) ?_
 ·go_simp
  refine hK.out _ _ ?_ ?_
  ·(try dsimp only);(try trivial)
  clear hK K hHeld;intro hHeld
  (try simp only[pz])
  refine wpAnyH_ready (rs:=[1,2]) k_f (by simp) ?_
  refine AllReadyH.cons (o:=⟨some 7,_,_,_,_,_⟩) rfl (fun K hK=> ?_) ?_
  ·go_simp
   go_at_call 69;refine(tnorm_n (Pr.below hP gw) (Zm.below hz gw) hl o_m).mono ?_;rintro e wA ⟨ad1,n1,cp1,s1,a1,l1,c1,rs,rfl,hTA,hn1,hS1,hc1⟩;have kA:=hTA.below;have tA:=hTA.tw;have kkA:Below wb.heap.size wb wA:=gw;have xA:=x.below kkA;have yA:=y.below kkA;have xA0:=xA.c0;have xAf0:=xA.f 0;have xA1:=xA.c1;have xAf1:=xA.f 1;have xA2:=xA.c2;have xAf2:=xA.f 2;have yA0:=yA.c0;have yAf0:=yA.f 0;have yA1:=yA.c1;have yAf1:=yA.f 1;have yA2:=yA.c2;have yAf2:=yA.f 2
   (try go_wp2_with fail)
   refine hK.out _ _ ?_ ?_
   ·(try dsimp only);(try trivial)
   clear hK K hHeld;intro hHeld
   (try simp only[pz])
   refine ryz 2 (some 8) (fun K hK=> ?_) ?_
   ·go_simp
    refine hK.out _ _ ?_ ?_
    ·(try dsimp only);(try trivial)
    clear hK K hHeld;intro hHeld
    (try simp only[pz])
    refine ryz 3 (some 9) (fun K hK=> ?_) ?_
    ·go_simp
     go_at_call 69;refine(tnorm_n (Pr.below hP2 gw) (Zm.below hz2 gw) hl2 o_m).mono ?_;rintro e wB ⟨ad3,n3,cp3,s3,a3,l3,c3,rt,rfl,hTB,hn3,hS3,hc3⟩;have kB:=hTB.below;have tB:=hTB.tw;have kkB:Below wb.heap.size wb wB:=gw;have xB:=x.below kkB;have yB:=y.below kkB;have xB0:=xB.c0;have xBf0:=xB.f 0;have xB1:=xB.c1;have xBf1:=xB.f 1;have xB2:=xB.c2;have xBf2:=xB.f 2;have yB0:=yB.c0;have yBf0:=yB.f 0;have yB1:=yB.c1;have yBf1:=yB.f 1;have yB2:=yB.c2;have yBf2:=yB.f 2
     (try go_wp2_with fail)
     refine hK.out _ _ ?_ ?_
     ·(try dsimp only);(try trivial)
     clear hK K hHeld;intro hHeld
     (try simp only[pz])
     refine ryz 4 none (fun K hK=> ?_) ?_
     ·go_simp
      refine hK.out _ _ ?_ ?_
      ·(try dsimp only);(try trivial)
      clear hK K hHeld;intro hHeld
      (try simp only[pz])
      refine ryz 5 none (fun K hK=> ?_) ?_
      ·go_simp
       refine hK.out _ _ ?_ ?_
       ·(try dsimp only);(try trivial)
       clear hK K hHeld;intro hHeld
       (try simp only[pz])
       refine wpAnyH_done k_f ?_ _
       (refine⟨rfl,ad1,n1,cp1,s1,a1,l1,c1,rs.map Raw.p,ad3,n3,cp3,s3,a3,l3,c3,rt.map Raw.p,rfl,?_⟩;first|exact ord_end xB yB (tA.below kB) tB (grow_step kkB b0.out) hpq (by have:=hp.out;omega) (by have:=hp.out;omega) hn1 hn3 hS1 hS3 hc1 hc3|exact ord_end xA yA tA (tB.below kA) (grow_step kkA b0.out) hpq (by have:=hp.out;omega) (by have:=hp.out;omega) hn1 hn3 hS1 hS3 hc1 hc3|exact ord_end' xB yB (tA.below kB) tB (grow_step kkB b0.out) hpq (by have:=hp.out;omega) (by have:=hp.out;omega) hn1 hn3 hS1 hS3 hc1 hc3|exact ord_end' xA yA tA (tB.below kA) (grow_step kkA b0.out) hpq (by have:=hp.out;omega) (by have:=hp.out;omega) hn1 hn3 hS1 hS3 hc1 hc3)
      exact AllReadyH.nil
     exact AllReadyH.nil
    exact AllReadyH.nil
   exact AllReadyH.nil
  refine AllReadyH.cons (o:=⟨some 8,_,_,_,_,_⟩) rfl (fun K hK=> ?_) ?_
  ·go_simp
   refine hK.out _ _ ?_ ?_
   ·(try dsimp only);(try trivial)
   clear hK K hHeld;intro hHeld
   (try simp only[pz])
   refine ryz 1 (some 7) (fun K hK=> ?_) ?_
   ·go_simp
    go_at_call 69;refine(tnorm_n (Pr.below hP gw) (Zm.below hz gw) hl o_m).mono ?_;rintro e wA ⟨ad1,n1,cp1,s1,a1,l1,c1,rs,rfl,hTA,hn1,hS1,hc1⟩;have kA:=hTA.below;have tA:=hTA.tw;have kkA:Below wb.heap.size wb wA:=gw;have xA:=x.below kkA;have yA:=y.below kkA;have xA0:=xA.c0;have xAf0:=xA.f 0;have xA1:=xA.c1;have xAf1:=xA.f 1;have xA2:=xA.c2;have xAf2:=xA.f 2;have yA0:=yA.c0;have yAf0:=yA.f 0;have yA1:=yA.c1;have yAf1:=yA.f 1;have yA2:=yA.c2;have yAf2:=yA.f 2
    (try go_wp2_with fail)
    refine hK.out _ _ ?_ ?_
    ·(try dsimp only);(try trivial)
    clear hK K hHeld;intro hHeld
    (try simp only[pz])
    refine ryz 3 (some 9) (fun K hK=> ?_) ?_
    ·go_simp
     go_at_call 69;refine(tnorm_n (Pr.below hP2 gw) (Zm.below hz2 gw) hl2 o_m).mono ?_;rintro e wB ⟨ad3,n3,cp3,s3,a3,l3,c3,rt,rfl,hTB,hn3,hS3,hc3⟩;have kB:=hTB.below;have tB:=hTB.tw;have kkB:Below wb.heap.size wb wB:=gw;have xB:=x.below kkB;have yB:=y.below kkB;have xB0:=xB.c0;have xBf0:=xB.f 0;have xB1:=xB.c1;have xBf1:=xB.f 1;have xB2:=xB.c2;have xBf2:=xB.f 2;have yB0:=yB.c0;have yBf0:=yB.f 0;have yB1:=yB.c1;have yBf1:=yB.f 1;have yB2:=yB.c2;have yBf2:=yB.f 2
     (try go_wp2_with fail)
     refine hK.out _ _ ?_ ?_
     ·(try dsimp only);(try trivial)
     clear hK K hHeld;intro hHeld
     (try simp only[pz])
     refine ryz 4 none (fun K hK=> ?_) ?_
     ·go_simp
      refine hK.out _ _ ?_ ?_
      ·(try dsimp only);(try trivial)
      clear hK K hHeld;intro hHeld
      (try simp only[pz])
      refine ryz 5 none (fun K hK=> ?_) ?_
      ·go_simp
       refine hK.out _ _ ?_ ?_
       ·(try dsimp only);(try trivial)
       clear hK K hHeld;intro hHeld
       (try simp only[pz])
       refine wpAnyH_done k_f ?_ _
       (refine⟨rfl,ad1,n1,cp1,s1,a1,l1,c1,rs.map Raw.p,ad3,n3,cp3,s3,a3,l3,c3,rt.map Raw.p,rfl,?_⟩;first|exact ord_end xB yB (tA.below kB) tB (grow_step kkB b0.out) hpq (by have:=hp.out;omega) (by have:=hp.out;omega) hn1 hn3 hS1 hS3 hc1 hc3|exact ord_end xA yA tA (tB.below kA) (grow_step kkA b0.out) hpq (by have:=hp.out;omega) (by have:=hp.out;omega) hn1 hn3 hS1 hS3 hc1 hc3|exact ord_end' xB yB (tA.below kB) tB (grow_step kkB b0.out) hpq (by have:=hp.out;omega) (by have:=hp.out;omega) hn1 hn3 hS1 hS3 hc1 hc3|exact ord_end' xA yA tA (tB.below kA) (grow_step kkA b0.out) hpq (by have:=hp.out;omega) (by have:=hp.out;omega) hn1 hn3 hS1 hS3 hc1 hc3)
      exact AllReadyH.nil
     exact AllReadyH.nil
    exact AllReadyH.nil
   exact AllReadyH.nil
  exact AllReadyH.nil
 refine AllReadyH.cons (o:=⟨some 8,_,_,_,_,_⟩) rfl (fun K hK=> ?_) ?_
 ·go_simp
  refine hK.out _ _ ?_ ?_
  ·(try dsimp only);(try trivial)
  clear hK K hHeld;intro hHeld
  (try simp only[pz])
  refine ryz 0 (some 6) (fun K hK=> ?_) ?_
  ·go_simp
   refine hK.out _ _ ?_ ?_
   ·(try dsimp only);(try trivial)
   clear hK K hHeld;intro hHeld
   (try simp only[pz])
   refine ryz 1 (some 7) (fun K hK=> ?_) ?_
   ·go_simp
    go_at_call 69;refine(tnorm_n (Pr.below hP gw) (Zm.below hz gw) hl o_m).mono ?_;rintro e wA ⟨ad1,n1,cp1,s1,a1,l1,c1,rs,rfl,hTA,hn1,hS1,hc1⟩;have kA:=hTA.below;have tA:=hTA.tw;have kkA:Below wb.heap.size wb wA:=gw;have xA:=x.below kkA;have yA:=y.below kkA;have xA0:=xA.c0;have xAf0:=xA.f 0;have xA1:=xA.c1;have xAf1:=xA.f 1;have xA2:=xA.c2;have xAf2:=xA.f 2;have yA0:=yA.c0;have yAf0:=yA.f 0;have yA1:=yA.c1;have yAf1:=yA.f 1;have yA2:=yA.c2;have yAf2:=yA.f 2
    (try go_wp2_with fail)
    refine hK.out _ _ ?_ ?_
    ·(try dsimp only);(try trivial)
    clear hK K hHeld;intro hHeld
    (try simp only[pz])
    refine ryz 3 (some 9) (fun K hK=> ?_) ?_
    ·go_simp
     go_at_call 69;refine(tnorm_n (Pr.below hP2 gw) (Zm.below hz2 gw) hl2 o_m).mono ?_;rintro e wB ⟨ad3,n3,cp3,s3,a3,l3,c3,rt,rfl,hTB,hn3,hS3,hc3⟩;have kB:=hTB.below;have tB:=hTB.tw;have kkB:Below wb.heap.size wb wB:=gw;have xB:=x.below kkB;have yB:=y.below kkB;have xB0:=xB.c0;have xBf0:=xB.f 0;have xB1:=xB.c1;have xBf1:=xB.f 1;have xB2:=xB.c2;have xBf2:=xB.f 2;have yB0:=yB.c0;have yBf0:=yB.f 0;have yB1:=yB.c1;have yBf1:=yB.f 1;have yB2:=yB.c2;have yBf2:=yB.f 2
     (try go_wp2_with fail)
     refine hK.out _ _ ?_ ?_
     ·(try dsimp only);(try trivial)
     clear hK K hHeld;intro hHeld
     (try simp only[pz])
     refine ryz 4 none (fun K hK=> ?_) ?_
     ·go_simp
      refine hK.out _ _ ?_ ?_
      ·(try dsimp only);(try trivial)
      clear hK K hHeld;intro hHeld
      (try simp only[pz])
      refine ryz 5 none (fun K hK=> ?_) ?_
      ·go_simp
       refine hK.out _ _ ?_ ?_
       ·(try dsimp only);(try trivial)
       clear hK K hHeld;intro hHeld
       (try simp only[pz])
       refine wpAnyH_done k_f ?_ _
       (refine⟨rfl,ad1,n1,cp1,s1,a1,l1,c1,rs.map Raw.p,ad3,n3,cp3,s3,a3,l3,c3,rt.map Raw.p,rfl,?_⟩;first|exact ord_end xB yB (tA.below kB) tB (grow_step kkB b0.out) hpq (by have:=hp.out;omega) (by have:=hp.out;omega) hn1 hn3 hS1 hS3 hc1 hc3|exact ord_end xA yA tA (tB.below kA) (grow_step kkA b0.out) hpq (by have:=hp.out;omega) (by have:=hp.out;omega) hn1 hn3 hS1 hS3 hc1 hc3|exact ord_end' xB yB (tA.below kB) tB (grow_step kkB b0.out) hpq (by have:=hp.out;omega) (by have:=hp.out;omega) hn1 hn3 hS1 hS3 hc1 hc3|exact ord_end' xA yA tA (tB.below kA) (grow_step kkA b0.out) hpq (by have:=hp.out;omega) (by have:=hp.out;omega) hn1 hn3 hS1 hS3 hc1 hc3)
      exact AllReadyH.nil
     exact AllReadyH.nil
    exact AllReadyH.nil
   exact AllReadyH.nil
  exact AllReadyH.nil
 exact AllReadyH.nil
end Go.Proofs.YtllfelooahplhaaGreatDoor

namespace Go.Proofs.YtllfelooahplhaaGreatDoor.At
open Tm

variable {qs us:List (Int × Int)}{d D k kind:Int}{g:Nat}
def eachP (F:Int→Int)(qs:List (Int × Int)):List (Int × Int):=(qs.map fun q=>(q.1,F q.2)).filter fun q=>decide (q.2≠0)
def gcdL (g:Nat)(qs:List (Int × Int)):Nat:=qs.foldl (fun g q=>Nat.gcd g q.2.natAbs) g

theorem eachP_cons (F:Int→Int)(q:Int × Int)(qs:List (Int × Int)):eachP F (q::qs)=if F q.2=0 then eachP F qs else(q.1,F q.2)::eachP F qs:=by
 unfold eachP
 by_cases h:F q.2=0 <;> simp[h]
theorem eachP_snoc (F:Int→Int)(qs:List (Int × Int))(q:Int × Int):eachP F (qs++ [q])=eachP F qs++if F q.2=0 then []else [(q.1,F q.2)]:=by
 unfold eachP
 by_cases h:F q.2=0 <;> simp[h]
theorem eachP_mem {F:Int→Int}{p:Int × Int}(h:p∈eachP F qs): ∃q∈qs,p=(q.1,F q.2)∧F q.2≠0:=by
 unfold eachP at h
 obtain⟨h1,h2⟩:=List.mem_filter.1 h
 obtain⟨q,hq,rfl⟩:=List.mem_map.1 h1
 exact⟨q,hq,rfl,by simpa using h2⟩
theorem eachP_std {F:Int→Int}(h:Std qs):Std (eachP F qs):=by
 refine⟨?_,fun p hp=> ?_⟩
 ·unfold eachP
  refine List.Pairwise.filter _ ?_
  rw[List.pairwise_map]
  exact h.1
 obtain⟨q,_,rfl,h0⟩:=eachP_mem hp
 exact h0
theorem eachP_ne {F:Int→Int}(h: ∀q∈qs,F q.2≠0):eachP F qs=qs.map fun q=>(q.1,F q.2):=by
 unfold eachP
 refine List.filter_eq_self.2 fun p hp=> ?_
 obtain⟨q,hq,rfl⟩:=List.mem_map.1 hp
 simpa using h q hq
theorem eachP_id {F:Int→Int}(h:Std qs)(hF: ∀q∈qs,F q.2=q.2):eachP F qs=qs:=by
 rw[eachP_ne fun q hq=>by rw[hF q hq];exact h.2 q hq]
 conv=>rhs;rw[←List.map_id qs]
 exact List.map_congr_left fun q hq=>by rw[hF q hq];rfl
theorem eachP_eachP (F H:Int→Int)(h0:H 0=0)(qs:List (Int × Int)):eachP H (eachP F qs)=eachP (fun x=>H (F x)) qs:=by
 induction qs with
 |nil=>rfl
 |cons q qs ih=>
  rw[eachP_cons,eachP_cons]
  by_cases h:F q.2=0
  ·rw[if_pos h,if_pos (by show H (F q.2)=0;rw[h,h0]),ih]
  rw[if_neg h,eachP_cons,ih]
theorem eachP_nil {F:Int→Int}(h:eachP F qs= []): ∀q∈qs,F q.2=0:=fun q hq=>by
 apply Classical.byContradiction
 intro h0
 have:(q.1,F q.2)∈eachP F qs:=List.mem_filter.2 ⟨List.mem_map.2 ⟨q,hq,rfl⟩,by simpa using h0⟩
 rw[h]at this
 cases this
theorem gcdL_dvd (g:Nat)(qs:List (Int × Int)):gcdL g qs∣g∧∀q∈qs,((gcdL g qs:Nat):Int)∣q.2:=by
 induction qs generalizing g with
 |nil=>exact⟨Nat.dvd_refl _,fun q hq=>by cases hq⟩
 |cons p qs ih=>
  obtain⟨h1,h2⟩:=ih (Nat.gcd g p.2.natAbs)
  refine⟨Nat.dvd_trans h1 (Nat.gcd_dvd_left _ _),fun q hq=> ?_⟩
  rcases List.mem_cons.1 hq with rfl|hq
  ·exact Int.dvd_natAbs.1 (Int.natCast_dvd_natCast.2 (Nat.dvd_trans h1 (Nat.gcd_dvd_right _ _)))
  exact h2 q hq
theorem dvd_gcdL {d:Nat}(h:d∣g)(hq: ∀q∈qs,(d:Int)∣q.2):d∣gcdL g qs:=by
 induction qs generalizing g with
 |nil=>exact h
 |cons p qs ih=>exact ih (Nat.dvd_gcd h (Int.natCast_dvd_natCast.1 (Int.dvd_natAbs.2 (hq p (by simp))))) fun q hq'=>hq q (by simp[hq'])
theorem gcdL_pos (h:0<g∨ ∃q∈qs,q.2≠0):0<gcdL g qs:=by
 apply Nat.pos_of_ne_zero
 intro h0
 obtain⟨h1,h2⟩:=gcdL_dvd g qs
 rw[h0]at h1 h2
 rcases h with h|⟨q,hq,h⟩
 ·have:=Nat.eq_zero_of_zero_dvd h1;omega
 exact h (Int.zero_dvd.1 (h2 q hq))
theorem gcdL_eq {g':Nat}{rs:List (Int × Int)}(h: ∀d:Nat,(d∣g∧∀q∈qs,(d:Int)∣q.2)↔(d∣g'∧∀q∈rs,(d:Int)∣q.2)):gcdL g qs=gcdL g' rs:=by
 have h1:=(h _).1 (gcdL_dvd g qs)
 have h2:=(h _).2 (gcdL_dvd g' rs)
 exact Nat.dvd_antisymm (dvd_gcdL h1.1 h1.2) (dvd_gcdL h2.1 h2.2)
theorem gcdL_div {G:Nat}(hG:gcdL g qs=G)(h0:0<G):gcdL (g / G) (eachP (fun x=>x / G) qs)=1:=by
 obtain⟨h1,h2⟩:=gcdL_dvd g qs
 rw[hG]at h1 h2
 obtain⟨a1,a2⟩:=gcdL_dvd (g / G) (eachP (fun x=>x / G) qs)
 generalize gcdL (g / G) (eachP (fun x=>x / G) qs)=m at*
 have:G*m∣G:=by
  rw[←hG]
  rw[hG]
  refine Nat.dvd_trans (dvd_gcdL (g:=g) (qs:=qs) ?_ fun q hq=> ?_) (by rw[hG];exact Nat.dvd_refl _)
  ·obtain⟨c,hc⟩:=h1
   obtain⟨e,he⟩:=a1
   rw[hc,Nat.mul_div_cancel_left _ h0]at he
   rw[hc,he]
   exact⟨e,by rw[Nat.mul_assoc]⟩
  obtain⟨c,hc⟩:=h2 q hq
  have hG0:(G:Int)≠0:=by omega
  by_cases hc0:c=0
  ·rw[hc,hc0,Int.mul_zero];exact Int.dvd_zero _
  have hm:(q.1,q.2 / G)∈eachP (fun x=>x / (G:Int)) qs:=List.mem_filter.2 ⟨List.mem_map.2 ⟨q,hq,rfl⟩,by rw[hc,Int.mul_ediv_cancel_left _ hG0];simpa using hc0⟩
  obtain⟨e,he⟩:=a2 _ hm
  simp only at he
  rw[hc,Int.mul_ediv_cancel_left _ hG0]at he
  rw[hc,he]
  exact⟨e,by rw[Int.natCast_mul,Int.mul_assoc]⟩
 have h3:=Nat.le_of_dvd h0 this
 have:m∣1:=by
  obtain⟨e,he⟩:=this
  have:G*1=G*(m*e):=by rw[Nat.mul_one,←Nat.mul_assoc];exact he
  exact⟨e,Nat.eq_of_mul_eq_mul_left h0 this⟩
 exact Nat.dvd_one.1 this
structure Atm where
 kind:Int
 d:Int
 ps:List (Int × Int)
 k:Int
def tru (is:Prop) [Decidable is]:Atm:=⟨if is then 1 else 0,0,[],0⟩
def lessF (qs:List (Int × Int))(k:Int):Atm:=
 if qs= []then tru (0<k)else⟨2,0,eachP (fun x=>x / (gcdL 0 qs:Nat)) qs,(k-1) / (gcdL 0 qs:Nat)+1⟩
def oppP (d:Int)(qs:List (Int × Int)):List (Int × Int):=eachP (fun x=>x%d) (eachP (fun x=> -x) qs)
def fstF (kind d:Int)(us:List (Int × Int))(k:Int):Atm:=
 if ordT (oppP d us) us ((-k)%d) k<0 then⟨kind,d,oppP d us,(-k)%d⟩else⟨kind,d,us,k⟩
def divG (kind:Int)(D:Nat)(ts:List (Int × Int))(k:Int):Atm:=
 if ¬((gcdL D ts:Nat):Int)∣k then⟨if kind=3 then 0 else 1,0,[],0⟩
 else if(D:Int) / (gcdL D ts:Nat)=1 then⟨if kind=3 then 1 else 0,0,[],0⟩
 else fstF kind ((D:Int) / (gcdL D ts:Nat)) (eachP (fun x=>x / (gcdL D ts:Nat)) ts) (k / (gcdL D ts:Nat))
def divF (kind d:Int)(qs:List (Int × Int))(k:Int):Atm:=divG kind d.natAbs (eachP (fun x=>x%(d.natAbs:Int)) qs) (k%(d.natAbs:Int))
def formA (kind d:Int)(qs:List (Int × Int))(k:Int):Atm ⊕ Int:=
 if kind=0∨kind=1 then .inl ⟨kind,0,[],0⟩
 else if kind=2 then .inl (lessF qs k)
 else if kind=3∨kind=4 then(if d=0 then .inr 11 else .inl (divF kind d qs k))
 else .inr 1

def Sat (a:Atm)(f:Int→Int):Prop:=
 a.kind=1∨(a.kind=2∧0<a.k+ev a.ps f)∨(a.kind=3∧a.d∣a.k+ev a.ps f)∨(a.kind=4∧¬a.d∣a.k+ev a.ps f)

theorem dvd_congr {x y:Int}(h:d∣x-y):d∣x↔d∣y:=by
 constructor
 ·intro hx
  have:=Int.dvd_sub hx h
  rwa [show x-(x-y)=y by omega]at this
 intro hy
 have:=Int.dvd_add h hy
 rwa [show x-y+y=x by omega]at this
theorem dvd_emod (d x:Int):d∣x%d-x:=⟨-(x / d),by have:=Int.mul_ediv_add_emod x d;rw[Int.mul_neg];omega⟩
theorem cmpI_neg (a b:Int):cmpI b a= -cmpI a b:=by unfold cmpI;split <;> split <;> (try split) <;> omega
theorem ordQ_neg (p q:Int × Int):ordQ q p= -ordQ p q:=by
 unfold ordQ
 rw[cmpI_neg p.1 q.1,cmpI_neg p.2 q.2]
 by_cases h:cmpI p.1 q.1=0 <;> simp[h]
theorem ordL_neg : ∀ps qs:List (Int × Int),ordL qs ps= -ordL ps qs
 | [],[]=>rfl
 | [],_::_=>rfl
 |_::_,[]=>rfl
 |p::ps,q::qs=>by
  simp only[ordL]
  rw[ordQ_neg p q,ordL_neg ps qs]
  by_cases h:ordQ p q=0 <;> simp[h]
theorem ordT_neg (ps qs:List (Int × Int))(k k2:Int):ordT qs ps k2 k= -ordT ps qs k k2:=by
 unfold ordT
 rw[ordL_neg ps qs,cmpI_neg k k2]
 by_cases h:ordL ps qs=0 <;> simp[h]

structure Dsh (D:Int) (us:List (Int × Int)) (k:Int):Prop where
 two:2≤D
 std:Std us
 some:us≠ []
 rng: ∀q∈us,0<q.2∧q.2<D
 kr:0≤k∧k<D
 one:gcdL D.natAbs us=1
theorem opp_eq (D:Int)(us:List (Int × Int)):oppP D us=eachP (fun x=>(-x)%D) us:=eachP_eachP _ _ (by simp) us
theorem neg_emod {x:Int}(h1:0<x)(h2:x<D):(-x)%D=D-x:=by
 rw[←Int.add_emod_right,Int.emod_eq_of_lt o_m o_m]
 omega
theorem Dsh.opp (h:Dsh D us k):Dsh D (oppP D us) ((-k)%D)∧oppP D (oppP D us)=us∧(-((-k)%D))%D=k:=by
 have hF: ∀q∈us,(-q.2)%D=D-q.2:=fun q hq=>neg_emod (h.rng q hq).1 (h.rng q hq).2
 have hne: ∀q∈us,(-q.2)%D≠0:=fun q hq=>by rw[hF q hq];have:=h.rng q hq;omega
 have hD:=h.two
 have e1:oppP D us=us.map fun q=>(q.1,(-q.2)%D):=by rw[opp_eq,eachP_ne hne]
 refine⟨⟨h.two,by rw[opp_eq];exact eachP_std h.std,by rw[e1];simpa using h.some,fun q hq=> ?_,⟨Int.emod_nonneg _ o_m,Int.emod_lt_of_pos _ o_m⟩,?_⟩,?_,?_⟩
 ·rw[e1]at hq
  obtain⟨p,hp,rfl⟩:=List.mem_map.1 hq
  simp only
  rw[hF p hp]
  have:=h.rng p hp
  omega
 ·rw[←h.one]
  refine gcdL_eq fun d=> ?_
  have hd: ∀p∈us,(d:Int)∣D→((d:Int)∣(-p.2)%D↔(d:Int)∣p.2):=fun p hp hdD=>by
   rw[dvd_congr (Int.dvd_trans hdD (dvd_emod D (-p.2))),Int.dvd_neg]
  constructor
  ·rintro⟨h1,h2⟩
   have hdD:(d:Int)∣D:=Int.dvd_natAbs.1 (Int.natCast_dvd_natCast.2 h1)
   exact⟨h1,fun p hp=>(hd p hp hdD).1 (h2 (p.1,(-p.2)%D) (by rw[e1];exact List.mem_map.2 ⟨p,hp,rfl⟩))⟩
  rintro⟨h1,h2⟩
  have hdD:(d:Int)∣D:=Int.dvd_natAbs.1 (Int.natCast_dvd_natCast.2 h1)
  refine⟨h1,fun q hq=> ?_⟩
  rw[e1]at hq
  obtain⟨p,hp,rfl⟩:=List.mem_map.1 hq
  exact(hd p hp hdD).2 (h2 p hp)
 ·rw[opp_eq D us,opp_eq,eachP_eachP _ _ (by simp)]
  refine eachP_id h.std fun q hq=> ?_
  have hr:=h.rng q hq
  show(-((-q.2)%D))%D=q.2
  rw[hF q hq,neg_emod o_m o_m]
  omega
 by_cases h0:k=0
 ·subst h0;simp
 have:=h.kr
 rw[neg_emod (x:=k) o_m o_m,neg_emod o_m o_m]
 omega
def Fit (a:Atm):Prop:=
 ((a.kind=0∨a.kind=1)∧a.d=0∧a.ps= []∧a.k=0)∨(a.kind=2∧a.d=0∧Std a.ps∧a.ps≠ []∧gcdL 0 a.ps=1)∨
 ((a.kind=3∨a.kind=4)∧Dsh a.d a.ps a.k∧¬ordT (oppP a.d a.ps) a.ps ((-a.k)%a.d) a.k<0)
theorem fstF_fit (h:Dsh D us k)(hk:kind=3∨kind=4):Fit (fstF kind D us k):=by
 unfold fstF
 split
 ·rename_i ho
  obtain⟨h1,h2,h3⟩:=h.opp
  refine .inr (.inr ⟨hk,h1,?_⟩)
  simp only
  rw[h2,h3,ordT_neg (oppP D us) us]
  omega
 rename_i ho
 exact .inr (.inr ⟨hk,h,ho⟩)
theorem tru_fit (is:Prop) [Decidable is]:Fit (tru is):=.inl ⟨by unfold tru;split <;> simp,rfl,rfl,rfl⟩
theorem std_some (hS:Std qs)(h:qs≠ []): ∃q∈qs,q.2≠0:=by
 cases qs with
 |nil=>exact absurd rfl h
 |cons q qs=>exact⟨q,by simp,hS.2 q (by simp)⟩
theorem lessF_fit (hS:Std qs)(k:Int):Fit (lessF qs k):=by
 unfold lessF
 split
 ·exact tru_fit _
 rename_i h
 obtain⟨q,hq,h0⟩:=std_some hS h
 have hpos:0<gcdL 0 qs:=gcdL_pos (.inr ⟨q,hq,h0⟩)
 obtain⟨-,hd⟩:=gcdL_dvd 0 qs
 have h1:=gcdL_div (g:=0) (qs:=qs) rfl hpos
 rw[Nat.zero_div]at h1
 refine .inr (.inl ⟨rfl,rfl,eachP_std (F:=fun x=>x / ((gcdL 0 qs:Nat):Int)) hS,fun hn=>h0 ?_,h1⟩)
 have:q.2 / ((gcdL 0 qs:Nat):Int)=0:=eachP_nil (F:=fun x=>x / ((gcdL 0 qs:Nat):Int)) hn q hq
 have h2:=Int.mul_ediv_cancel' (hd q hq)
 rw[this,Int.mul_zero]at h2
 exact h2.symm
theorem divG_fit {D:Nat}(h0:0<D){ts:List (Int × Int)}{k:Int}(hS:Std ts)(hr: ∀q∈ts,0<q.2∧q.2<(D:Int))(hk0:0≤k∧k<(D:Int))(hk:kind=3∨kind=4):Fit (divG kind D ts k):=by
 obtain⟨h1,h2⟩:=gcdL_dvd D ts
 have hpos:0<gcdL D ts:=gcdL_pos (.inl h0)
 have hG:=gcdL_div (g:=D) (qs:=ts) rfl hpos
 unfold divG
 split
 ·exact .inl ⟨by rcases hk with rfl|rfl <;> simp,rfl,rfl,rfl⟩
 rename_i hg
 split
 ·exact .inl ⟨by rcases hk with rfl|rfl <;> simp,rfl,rfl,rfl⟩
 rename_i h3
 refine fstF_fit ?_ hk
 have hgs:gcdL D ts=D→ts= []:=fun e=>by
  cases ts with
  |nil=>rfl
  |cons q ts=>
   have hq:=h2 q (by simp)
   rw[e]at hq
   have:=hr q (by simp)
   have:=Int.le_of_dvd this.1 hq
   omega
 have hne:ts≠ []:=fun e=>by
  subst e
  apply h3
  show(D:Int) / (D:Int)=1
  exact Int.ediv_self o_m
 generalize gcdL D ts=g at*
 obtain⟨e,he⟩:=h1
 have hD:(D:Int)=g*e:=by rw[he];simp
 have hgi:(g:Int)≠0:=by omega
 have hDe:(D:Int) / g=e:=by rw[hD,Int.mul_ediv_cancel_left _ hgi]
 have hDn:D / g=e:=by rw[he,Nat.mul_div_cancel_left _ hpos]
 rw[hDe]at h3 ⊢
 rw[hDn]at hG
 have he0:0<e:=Nat.pos_of_ne_zero fun h=>by subst h;simp at he;omega
 have hgk:=Classical.not_not.1 hg
 have hq: ∀q∈ts,(g:Int)*(q.2 / g)=q.2:=fun q hq=>Int.mul_ediv_cancel' (h2 q hq)
 have hlt: ∀x:Int,(g:Int)*x<g*e→x<e:=fun x hx=>Int.lt_of_mul_lt_mul_left hx o_m
 have hpx: ∀x:Int,0<(g:Int)*x→0<x:=fun x hx=>Int.pos_of_mul_pos_right hx o_m
 refine⟨by omega,eachP_std hS,fun hn=> ?_,fun q hqm=> ?_,?_,by simpa using hG⟩
 ·obtain⟨q,hqm,hq0⟩:=std_some hS hne
  have:q.2 / (g:Int)=0:=eachP_nil hn q hqm
  have h4:=hq q hqm
  rw[this,Int.mul_zero]at h4
  exact hq0 h4.symm
 ·obtain⟨p,hp,rfl,_⟩:=eachP_mem hqm
  have h5:=hq p hp
  have h6:=hr p hp
  rw[←h5,hD]at h6
  exact⟨hpx _ h6.1,hlt _ h6.2⟩
 have h5:=Int.mul_ediv_cancel' hgk
 rw[←h5,hD]at hk0
 exact⟨Int.ediv_nonneg (by rw[h5]at hk0;exact hk0.1) o_m,hlt _ hk0.2⟩
theorem divF_fit (h0:d≠0){qs:List (Int × Int)}(hS:Std qs)(k:Int)(hk:kind=3∨kind=4):Fit (divF kind d qs k):=by
 unfold divF
 have hD:(0:Int)<d.natAbs:=by omega
 refine divG_fit o_m (eachP_std hS) (fun q hq=> ?_) ⟨Int.emod_nonneg _ o_m,Int.emod_lt_of_pos _ hD⟩ hk
 obtain⟨p,_,rfl,hn⟩:=eachP_mem hq
 have h1:=Int.emod_nonneg p.2 (by omega:(d.natAbs:Int)≠0)
 have h2:=Int.emod_lt_of_pos p.2 hD
 simp only at hn ⊢
 omega
theorem formA_fit {a:Atm}(hS:Std qs)(h:formA kind d qs k= .inl a):Fit a:=by
 unfold formA at h
 by_cases h1:kind=0∨kind=1
 ·rw[if_pos h1]at h
  cases h
  exact .inl ⟨h1,rfl,rfl,rfl⟩
 rw[if_neg h1]at h
 by_cases h2:kind=2
 ·rw[if_pos h2]at h
  cases h
  exact lessF_fit hS k
 rw[if_neg h2]at h
 by_cases h3:kind=3∨kind=4
 ·rw[if_pos h3]at h
  by_cases h4:d=0
  ·rw[if_pos h4]at h;cases h
  rw[if_neg h4]at h
  cases h
  exact divF_fit h4 hS k h3
 rw[if_neg h3]at h;cases h
theorem div_one (h:Std qs):eachP (fun x=>x / ((1:Nat):Int)) qs=qs:=eachP_id h fun q _=>by simp
theorem Fit.std {a:Atm}(h:Fit a):Std a.ps:=by
 rcases h with⟨_,_,h,_⟩|⟨_,_,h,_⟩|⟨_,h,_⟩
 ·rw[h];exact std_nil
 ·exact h
 exact h.std
theorem Fit.again {a:Atm}(h:Fit a):formA a.kind a.d a.ps a.k= .inl a:=by
 obtain⟨kind,d,ps,k⟩:=a
 unfold formA
 rcases h with⟨h1,h2,h3,h4⟩|⟨h1,h2,h3,h4,h5⟩|⟨h1,h2,h3⟩
 ·simp only at h1 h2 h3 h4
  subst h2 h3 h4
  rw[if_pos h1]
 ·simp only at h1 h2 h3 h4 h5
  subst h1 h2
  rw[if_neg (by simp),if_pos rfl]
  unfold lessF
  rw[if_neg h4,h5,div_one h3]
  simp
 simp only at h1 h2 h3
 have hD:=h2.two
 rw[if_neg (by rcases h1 with rfl|rfl <;> simp),if_neg (by rcases h1 with rfl|rfl <;> simp),if_pos h1,if_neg (by show ¬d=0;omega)]
 have hDn:(d.natAbs:Int)=d:=by omega
 unfold divF
 rw[hDn,eachP_id h2.std (fun q hq=>Int.emod_eq_of_lt (by have:=h2.rng q hq;omega) (h2.rng q hq).2),Int.emod_eq_of_lt h2.kr.1 h2.kr.2]
 unfold divG
 rw[h2.one,if_neg (by simp[Int.one_dvd]),hDn]
 simp only[Int.natCast_one,Int.ediv_one]
 rw[if_neg o_m,show eachP (fun x=>x) ps=ps from eachP_id h2.std fun q _=>rfl]
 unfold fstF
 rw[if_neg h3]
def negA (a:Atm):Atm:=
 if a.kind=0 then⟨1,a.d,a.ps,a.k⟩else if a.kind=1 then⟨0,a.d,a.ps,a.k⟩else if a.kind=2 then⟨2,0,scl (-1) a.ps,1-a.k⟩else if a.kind=3 then⟨4,a.d,a.ps,a.k⟩else if a.kind=4 then⟨3,a.d,a.ps,a.k⟩else a
theorem std_neg (h:Std qs):Std (scl (-1) qs):=by
 refine⟨?_,fun p hp=> ?_⟩
 ·unfold scl
  rw[List.pairwise_map]
  exact h.1
 obtain⟨q,hq,rfl⟩:=List.mem_map.1 hp
 have:=h.2 q hq
 simp only
 omega
theorem gcdL_neg (g:Nat)(qs:List (Int × Int)):gcdL g (scl (-1) qs)=gcdL g qs:=by
 induction qs generalizing g with
 |nil=>rfl
 |cons q qs ih=>
  show gcdL (Nat.gcd g (-1*q.2).natAbs) (scl (-1) qs)=gcdL (Nat.gcd g q.2.natAbs) qs
  rw[ih,show(-1*q.2).natAbs=q.2.natAbs by omega]
theorem Fit.neg {a:Atm}(h:Fit a):Fit (negA a):=by
 obtain⟨kind,d,ps,k⟩:=a
 rcases h with⟨h1,h2,h3,h4⟩|⟨h1,h2,h3,h4,h5⟩|⟨h1,h2,h3⟩
 ·simp only at h1 h2 h3 h4
  rcases h1 with rfl|rfl
  ·exact .inl ⟨.inr rfl,h2,h3,h4⟩
  exact .inl ⟨.inl rfl,h2,h3,h4⟩
 ·simp only at h1 h2 h3 h4 h5
  subst h1
  refine .inr (.inl ⟨rfl,rfl,std_neg h3,?_,(gcdL_neg 0 ps).trans h5⟩)
  intro h
  apply h4
  simpa [negA,scl] using h
 simp only at h1 h2 h3
 rcases h1 with rfl|rfl
 ·exact .inr (.inr ⟨.inr rfl,h2,h3⟩)
 exact .inr (.inr ⟨.inl rfl,h2,h3⟩)
theorem lessF_neg {a:Atm}(h:Fit a)(h2:a.kind=2):lessF (scl (-1) a.ps) (1-a.k)=negA a:=by
 have hn:=h.neg.again
 have e:negA a=⟨2,0,scl (-1) a.ps,1-a.k⟩:=by unfold negA;rw[if_neg o_m,if_neg o_m,if_pos h2]
 rw[e]at hn ⊢
 unfold formA at hn
 rw[if_neg (by simp),if_pos rfl]at hn
 exact Sum.inl.inj hn
theorem negA_sat {a:Atm}(h:Fit a)(f:Int→Int):Sat (negA a) f↔ ¬Sat a f:=by
 obtain⟨kind,d,ps,k⟩:=a
 rcases h with⟨h1,h2,h3,h4⟩|⟨h1,h2,h3,h4,h5⟩|⟨h1,h2,h3⟩
 ·simp only at h1 h2 h3 h4
  rcases h1 with rfl|rfl <;> simp[negA,Sat]
 ·simp only at h1 h2 h3 h4 h5
  subst h1
  simp[negA,Sat,ev_scl]
  omega
 simp only at h1 h2 h3
 rcases h1 with rfl|rfl <;> simp[negA,Sat]

theorem nodup_len : ∀{l m:List Int},l.Nodup→(∀x∈l,x∈m)→l.length≤m.length
 | [],_,_,_=>Nat.zero_le _
 |x::l,m,h,hs=>by
  obtain⟨h1,h2⟩:=List.nodup_cons.1 h
  have hx:=hs x (by simp)
  have h3:=nodup_len (l:=l) (m:=m.erase x) h2 fun y hy=>by
   have hy':=hs y (by simp[hy])
   exact(List.mem_erase_of_ne (fun(e:y=x)=>h1 (e▸hy))).2 hy'
  rw[List.length_erase_of_mem hx]at h3
  have hm:0<m.length:=List.length_pos_of_mem hx
  simp only[List.length_cons]
  omega
theorem std_len {ps:List (Int × Int)}(hS:Std qs)(hc: ∀v,csum qs v=csum ps v):qs.length≤ps.length:=by
 have h:=nodup_len (l:=qs.map Prod.fst) (m:=ps.map Prod.fst) (List.pairwise_map.2 (hS.1.imp fun h=>by omega)) fun x hx=>by
  obtain⟨q,hq,rfl⟩:=List.mem_map.1 hx
  have h0:csum ps q.1≠0:=by rw[←hc,std_csum_mem hS hq];exact hS.2 q hq
  obtain⟨p,hp,e⟩:=csum_mem h0
  exact List.mem_map.2 ⟨p,hp,e⟩
 simpa using h
def Prt (rs qs:List (Int × Int)):Prop:=rs.length≤qs.length∧∀v,csum rs v≠0→csum qs v≠0
theorem prt_nil (qs:List (Int × Int)):Prt [] qs:=⟨Nat.zero_le _,fun _ h=>absurd rfl h⟩
theorem prt_refl (qs:List (Int × Int)):Prt qs qs:=⟨Nat.le_refl _,fun _ h=>h⟩
theorem prt_each {F:Int→Int}(hS:Std qs):Prt (eachP F qs) qs:=by
 refine⟨?_,fun v h=> ?_⟩
 ·unfold eachP
  exact Nat.le_trans (List.length_filter_le _ _) (by simp)
 obtain⟨p,hp,rfl⟩:=csum_mem h
 obtain⟨q,hq,e,-⟩:=eachP_mem hp
 rw[e]
 show csum qs q.1≠0
 rw[std_csum_mem hS hq]
 exact hS.2 q hq
theorem Prt.trans {rs ts:List (Int × Int)}(h1:Prt rs qs)(h2:Prt qs ts):Prt rs ts:=⟨Nat.le_trans h1.1 h2.1,fun v h=>h2.2 v (h1.2 v h)⟩
theorem prt_opp (hS:Std qs):Prt (oppP d qs) qs:=(prt_each (eachP_std hS)).trans (prt_each hS)
theorem fstF_prt (hS:Std us):Prt (fstF kind d us k).ps us:=by
 unfold fstF
 split
 ·exact prt_opp hS
 exact prt_refl us
theorem divG_prt {D:Nat}{ts:List (Int × Int)}(hS:Std ts):Prt (divG kind D ts k).ps ts:=by
 unfold divG
 split
 ·exact prt_nil _
 split
 ·exact prt_nil _
 exact(fstF_prt (eachP_std hS)).trans (prt_each hS)
theorem lessF_prt (hS:Std qs):Prt (lessF qs k).ps qs:=by
 unfold lessF
 split
 ·exact prt_nil _
 exact prt_each (F:=fun x=>x / ((gcdL 0 qs:Nat):Int)) hS
theorem formA_prt {a:Atm}(hS:Std qs)(h:formA kind d qs k= .inl a):Prt a.ps qs:=by
 unfold formA at h
 by_cases h1:kind=0∨kind=1
 ·rw[if_pos h1]at h
  cases h
  exact prt_nil _
 rw[if_neg h1]at h
 by_cases h2:kind=2
 ·rw[if_pos h2]at h
  cases h
  exact lessF_prt hS
 rw[if_neg h2]at h
 by_cases h3:kind=3∨kind=4
 ·rw[if_pos h3]at h
  by_cases h4:d=0
  ·rw[if_pos h4]at h;cases h
  rw[if_neg h4]at h
  cases h
  exact(divG_prt (eachP_std hS)).trans (prt_each hS)
 rw[if_neg h3]at h;cases h
theorem Fit.kinds {a:Atm}(h:Fit a):0≤a.kind∧a.kind≤4:=by
 rcases h with⟨h1,_⟩|⟨h1,_⟩|⟨h1,_⟩ <;> omega
theorem Fit.dpos {a:Atm}(h:Fit a)(hk:a.kind=3∨a.kind=4):0<a.d:=by
 rcases h with⟨h1,_⟩|⟨h1,_⟩|⟨_,h2,_⟩
 ·omega
 ·omega
 have:=h2.two;omega
end Go.Proofs.YtllfelooahplhaaGreatDoor.At
