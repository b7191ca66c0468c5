/-
 Several texts in one: YE,YF,YG,YH,YK,YL,YM,YI,A0,B2,BA,UQ.
-/
import Derived.Test.YtbgpddlcfiiiaaaGreatDoorSbmT
import Derived.Test.YtbgpddlcfiiiaaaGreatDoorSbm21
import Derived.Test.YtbgpddlcfiiiaaaGreatDoorSbm14
import Derived.Test.YtbgpddlcfiiiaaaGreatDoorSbm15
set_option maxRecDepth 100000
set_option maxHeartbeats 6400000
namespace Go.Proofs.YtbgpddlcfiiiaaaGreatDoor
open Go.RowKit Go.Sort Go.Shelf
open Tm

variable {w w':World}{b l c n B p l1 c1 l2 c2 F0 cp n2 cp2 base t n0 cp0 l0 c0:Nat}{s s1 s2 s0:Bool}{a a1 a2 ad ad2 ad0 a0:Option Addr}{D:DataW Value}{left:Lit→Bool}{vs ps qs:List (Int × Int)}{k z:Int}{v:Value}
def val1 (vs:List (Int × Int))(v:Int):Int:=(fv vs v).getD 0
def Tot (ps vs:List (Int × Int)):Prop:=∀v,csum ps v≠0→fv vs v≠none

theorem noU_nocell (h: ∀off,w.cell? ⟨b,off,none⟩=none):NoU w b:=fun off x=>by rw[h];simp
theorem zb_noU (h:ZB w b s a l c):NoU w b:=by
 intro off x
 rw[cell_of_row w b off _ _ (0,0) h]
 match off with
 |0=>simp
 |1=>simp
 |k+2=>simp
theorem rng_noU {r:Nat}{cnt:Nat}(h:w.ranges Tryz.prog 3 elemR b r n D left cnt):NoU w r:=by
 obtain⟨_,_,_,_,_,_,_,_,_,hit,_⟩:=h
 refine noU_nocell fun off=> ?_
 simp[World.cell?,hit]
theorem FM.grownU {m:Nat}(h:FM w m n vs B)(hg:w.grownBy w' (some b))(hb:NoU w b)(hm:m≠b):FM w' m n vs B:=by
 obtain⟨D,h1,h2⟩:=h
 refine⟨D,h1.kept hg (by simpa using hm),fun v hv=> ?_⟩
 rcases h2 v hv with h3|⟨s,a,l,c,z,h3,h4,h5⟩
 ·exact .inl h3
 exact .inr ⟨s,a,l,c,z,h3,h4.grownU hg hb,h5⟩
theorem GA.grownU {f:Int→Int}(h:GA w D f B)(hg:w.grownBy w' (some b))(hb:NoU w b):GA w' D f B:=h.kept fun _ _ _ _ _ hz=>hz.grownU hg hb
theorem GA.below {f:Int→Int}(h:GA w D f B)(hb:Below w.heap.size w w'):GA w' D f B:=h.kept fun _ _ _ _ _ hz=>hz.below hb

def keep (left:Lit→Bool)(ps:List (Int × Int)):List (Int × Int):=ps.filter fun p=>left (.int .i64 p.1)
theorem csum_keep (left:Lit→Bool)(ps:List (Int × Int))(v:Int):csum (keep left ps) v=if left (.int .i64 v)=true then csum ps v else 0:=by
 induction ps with
 |nil=>simp[keep,csum]
 |cons p ps ih=>
  unfold keep at*
  by_cases h:left (.int .i64 p.1)=true
  ·rw[List.filter_cons_of_pos (by simpa using h)]
   simp only[csum,ih]
   by_cases e:p.1=v
   ·subst e;simp[h]
   simp[e]
  rw[List.filter_cons_of_neg (by simpa using h),ih]
  by_cases e:p.1=v
  ·subst e;simp[h]
  simp[csum,e]
theorem keep_step (left:Lit→Bool)(ps:List (Int × Int))(v:Int)(hv:left (.int .i64 v)=true)(f:Int→Int):
  ev (keep left ps) f=csum ps v*f v+ev (keep (fun z=>left z&& !z.sameKey (.int .i64 v)) ps) f:=by
 rw[ev_split v (keep left ps),csum_keep,if_pos hv]
 congr 2
 unfold keep wo
 rw[List.filter_filter]
 congr 1
 funext p
 dsimp only
 rw[sameKey_i,Bool.and_comm]
theorem keep_start (h:GA w D (csum ps) B)(hi: ∀p∈ps,I64 p.1)(f:Int→Int):ev (keep (Maps.has D) ps) f=ev ps f:=by
 refine ev_congr (fun v=> ?_) f
 rw[csum_keep]
 split
 ·rfl
 rename_i hh
 by_cases hv:I64 v
 ·rcases h v hv with⟨_,h2⟩|⟨s,a,l,c,h2,_⟩
  ·exact h2.symm
  exact absurd (Maps.has_true_of_atKey h2) hh
 exact(csum_i64 hi hv).symm
theorem keep_end (h: ∀kl,left kl=false)(ps:List (Int × Int))(f:Int→Int):ev (keep left ps) f=0:=by
 have:keep left ps= []:=by
  unfold keep
  rw[List.filter_eq_nil_iff]
  intro p _
  simp[h]
 rw[this];rfl

def Ev (ps vs:List (Int × Int))(k:Int)(left:Lit→Bool)(z:Int):Prop:=z+ev (keep left ps) (val1 vs)=k+ev ps (val1 vs)∧∀v,I64 v→left (.int .i64 v)=false→csum ps v≠0→fv vs v≠none
theorem ev_begin (h:GA w D (csum ps) B)(hi: ∀p∈ps,I64 p.1)(k:Int):Ev ps vs k (Maps.has D) k:=by
 refine⟨by rw[keep_start h hi],fun v hv hl hc=> ?_⟩
 rcases h v hv with⟨_,h2⟩|⟨s,a,l,c,h2,_⟩
 ·exact absurd h2 hc
 rw[Maps.has_true_of_atKey h2]at hl;cases hl
theorem ev_skip {v:Int}(h:Ev ps vs k left z)(hl:left (.int .i64 v)=true)(hc:csum ps v=0):Ev ps vs k (fun z=>left z&& !z.sameKey (.int .i64 v)) z:=by
 refine⟨?_,fun u hu hlu hcu=> ?_⟩
 ·have:=h.1
  rw[keep_step left ps v hl,hc,Int.zero_mul,Int.zero_add]at this
  exact this
 by_cases e:u=v
 ·subst e;exact absurd hc hcu
 dsimp only at hlu
 rw[sameKey_i]at hlu
 simp[e]at hlu
 exact h.2 u hu hlu hcu
theorem ev_add {v y:Int}(h:Ev ps vs k left z)(hl:left (.int .i64 v)=true)(hf:fv vs v=some y):Ev ps vs k (fun z=>left z&& !z.sameKey (.int .i64 v)) (z+csum ps v*y):=by
 refine⟨?_,fun u hu hlu hcu=> ?_⟩
 ·have:=h.1
  rw[keep_step left ps v hl]at this
  have e:val1 vs v=y:=by simp[val1,hf]
  rw[e]at this
  omega
 by_cases e:u=v
 ·subst e;rw[hf];simp
 dsimp only at hlu
 rw[sameKey_i]at hlu
 simp[e]at hlu
 exact h.2 u hu hlu hcu
theorem ev_finish (h:Ev ps vs k left z)(hl: ∀kl,left kl=false)(hi: ∀p∈ps,I64 p.1):Tot ps vs∧z=k+ev ps (val1 vs):=by
 refine⟨fun v hc=> ?_,?_⟩
 ·by_cases hv:I64 v
  ·exact h.2 v hv (hl _) hc
  exact absurd (csum_i64 hi hv) hc
 have:=h.1
 rw[keep_end hl,Int.add_zero]at this
 exact this

theorem zg2 {wb:World}{q u:Nat}(x:ZB wb p s1 a1 l1 c1)(x2:ZB wb q s2 a2 l2 c2)(hp:u≠p)(hq:u≠q)(k:wb.grownBy w' (some u)):
  w'.cell? ⟨p,0,none⟩=some (.bool s1)∧w'.cell? ⟨p,1,none⟩=some (.slice a1 l1 c1)∧w'.cell? ⟨q,0,none⟩=some (.bool s2)∧w'.cell? ⟨q,1,none⟩=some (.slice a2 l2 c2)∧wb.grownBy w' (some u):=by
 have x':=x.grown k (Ne.symm hp)
 have x2':=x2.grown k (Ne.symm hq)
 exact⟨x'.c0,x'.c1,x2'.c0,x2'.c1,k⟩
theorem zb_set (w:World)(b:Nat)(v0 v1:Value):w.grownBy ((w.setCell ⟨b,0,none⟩ v0).setCell ⟨b,1,none⟩ v1) (some b):=gb_trans (gb_set _ _ _ _) (gb_set _ _ _ _)

def InB (F0:Nat)(a:Option Addr)(l:Nat):Prop:=∀b off,a=some ⟨b,off,none⟩→0<l→F0≤b
theorem fr_inB (h:Fresh.Fr F0 w a c):InB F0 a l:=fun b off e _=>by
 rcases h with⟨h1,_⟩|⟨b1,xs,h1,h2,_⟩
 ·rw[h1]at e
  cases e
 rw[h1]at e
 cases e
 exact h2
theorem norm_b (h:Zm w s a l c z)(hl:l≤1099511627776)(hF:F0≤w.heap.size):
  Calls Tryz.prog 34 #[.agg #[.bool s,.slice a l c]] w fun e w'=> ∃s' ad len cap,e= .returned (.agg #[.bool s',.slice ad len cap])∧Zn w' s' ad len cap z∧Below w.heap.size w w'∧len≤l+1∧InB F0 ad len:=by
 refine(Fresh.norm_n (Fresh.zm_of h hF) hl).mono ?_
 rintro e w' ⟨s',ad,len,cap,he,hz,k,hl'⟩
 exact⟨s',ad,len,cap,he,hz.zn,k,hl',fr_inB hz.fr⟩
theorem zadd_b {z1 z2:Int}(h1:Zm w s1 a1 l1 c1 z1)(h2:Zm w s2 a2 l2 c2 z2)(hl1:l1≤1099511627776)(hl2:l2≤1099511627776)(hF:F0≤w.heap.size):
  Calls Tryz.prog 37 #[.agg #[.bool s1,.slice a1 l1 c1],.agg #[.bool s2,.slice a2 l2 c2]] w fun e w'=> ∃s' ad len cap,e= .returned (.agg #[.bool s',.slice ad len cap])∧Zn w' s' ad len cap (z1+z2)∧Below w.heap.size w w'∧len≤max l1 l2+1∧InB F0 ad len:=by
 refine(Fresh.zadd_n (Fresh.zm_of h1 hF) (Fresh.zm_of h2 hF) hl1 hl2).mono ?_
 rintro e w' ⟨s',ad,len,cap,he,hz,k,hl'⟩
 exact⟨s',ad,len,cap,he,hz.zn,k,hl',fr_inB hz.fr⟩
theorem eval_b (hF0:F0≤w.heap.size)(hP:Pr w ad n ps B)(hz:Zm w s a l c k)(hl:l≤B)(hV:Pr w ad2 n2 vs B)(hB:B+n+n2≤268435456):
  Calls Tryz.prog 9 #[.agg #[.slice ad n cp,.bool s,.slice a l c],.slice ad2 n2 cp2] w fun e w'=> ∃s' a' l' c' er,e= .returned (.tuple #[.agg #[.bool s',.slice a' l' c'],.int .i64 er])∧Below w.heap.size w w'∧((¬Tot ps vs∧er=170∧s'=false∧a'=none∧l'=0∧c'=0)∨(Tot ps vs∧er=0∧Zn w' s' a' l' c' (k+ev ps (val1 vs))∧l'≤2*B+2*n+1∧InB F0 a' l')):=by
 have hi:=hP.i64
 go_enter Tryz.func9,Tryz.ntmps9
 go_wp2_with fail
 have x:=(tb_new w ad n cp s a l c).below (below_alloc _ (.cells #[.bool false,.slice none 0 0] 26))
 have y:=zb_new (w.alloc (.cells #[.slice ad n cp,.bool s,.slice a l c] 28)) false none 0 0
 have b0:Below w.heap.size w ((w.alloc (.cells #[.slice ad n cp,.bool s,.slice a l c] 28)).alloc (.cells #[.bool false,.slice none 0 0] 26)):=below_alloc' (below_alloc _ _) _
 rw[show(w.alloc (.cells #[.slice ad n cp,.bool s,.slice a l c] 28)).heap.size=w.heap.size+1 from by simp]at y
 generalize (w.alloc (.cells #[.slice ad n cp,.bool s,.slice a l c] 28)).alloc (.cells #[.bool false,.slice none 0 0] 26)=wb at*
 have hpr:w.heap.size<w.heap.size+1:=by omega
 replace hP:=hP.below b0
 replace hz:=hz.below b0
 replace hV:=hV.below b0
 generalize hp:w.heap.size=p at*
 replace b0:Hid (Below w.heap.size w wb):=hp▸b0
 replace hp:=hide hp
 generalize p+1=r at*
 refine(first_n hV (by omega)).mono ?_
 rintro e w1 ⟨m1,rfl,hF,k1,hm1⟩
 have x1:=x.below k1
 have y1:=y.below k1
 have hrm:r<m1:=Nat.lt_of_lt_of_le y.lt hm1
 replace hP:=hP.below k1
 replace hz:=hz.below k1
 replace b0:=hide (grow_step k1 b0.out)
 have t0:=x1.c0
 have t1:=x1.c1
 have t2:=x1.c2
 clear k1 x y hV hm1
 go_wp2_with fail
 refine(norm_b (F0:=F0) hz o_m (by have:=hp.out;have:=b0.out.size;omega)).mono ?_
 rintro e w2 ⟨s2,a2,l2,c2,rfl,hz2,k2,hl2,hif2⟩
 have x2:=x1.below k2
 have y2:=y1.below k2
 have z2:=zb_new w2 s2 a2 l2 c2
 have ka:=below_alloc w2 (.cells #[.bool s2,.slice a2 l2 c2] 26)
 have k2a:=grow_step ka k2
 have t3:=x2.c0
 have hxl:=x2.lt
 clear t0 t1 t2
 go_wp2_with fail
 have kb:=below_alloc (w2.alloc (.cells #[.bool s2,.slice a2 l2 c2] 26)) (.cells #[.slice ad n cp] 23)
 refine(gather1 (b:=w2.heap.size+1) (by simpa using heap_alloc_new (w2.alloc (.cells #[.bool s2,.slice a2 l2 c2] 26)) (.cells #[.slice ad n cp] 23)) ((hP.below k2a).below kb) o_m).mono ?_
 rintro e w3 ⟨m2,rfl,⟨D,hown,hGA⟩,k3,hm2⟩
 replace k3:=grow_step k3 kb
 have hm2':w2.heap.size<m2:=by simp at hm2;omega
 have y3:=((y2.below ka).below k3)
 have z3:=z2.below k3
 have hF3:=((hF.below k2).below ka).below k3
 have hz3:=(hz2.below ka).below k3
 have hrel0:r<m1∧m1<w2.heap.size∧w2.heap.size<m2∧m2<w3.heap.size:=⟨hrm,Nat.lt_of_lt_of_le hF.lt k2.size,hm2',hown.lt⟩
 have b3:=hide (grow_step k3 (grow_step ka (grow_step k2 b0.out)))
 clear hP hz b0 hF x1 y1 k2 x2 y2 z2 ka k2a hz2 kb k3 hm2 hm2' t3 hxl hrm
 go_wp2_with(at_range;refine wpList_range_own _ rfl _ 78 rfl 3 26 tk Tryz.underlying78 _ m2 n D rfl hown ?_;intro w4 hrg0 hg0 hs0)
 go_frame
 have k4:=gb_none hg0
 have y4:=y3.below k4
 have z4:=z3.below k4
 have hF4:=hF3.below k4
 have hz4:=hz3.below k4
 have hGA4:=hGA.below k4
 have hsz0:=hrg0.owns.size_le
 replace b3:=hide (grow_step k4 b3.out)
 clear hg0 k4 y3 z3 hF3 hz3 hGA hown hs0
 generalize w2.heap.size=u at*
 generalize w3.heap.size=rI at*
 replace hrel0:=hide hrel0
 go_loopw [8] (fun _ wr=> ∃(s1:Bool) (a1:Option Addr) (l1 c1:Nat) (z:Int) (left:Lit→Bool) (cnt:Nat),wr.ranges Tryz.prog 3 elemR m2 rI n D left cnt∧ZB wr u s1 a1 l1 c1∧Zn wr s1 a1 l1 c1 z∧l1+cnt≤2*B+2*n+1∧InB F0 a1 l1∧ZB wr r false none 0 0∧FM wr m1 n2 vs B∧GA wr D (csum ps) (B+n)∧Hid (Ev ps vs k left z)∧Hid (Below w.heap.size w wr)∧cnt≤n) (fun _ wr=>wr.rangeLeft m2 rI)
 case atStart=>exact⟨s2,a2,l2,c2,k,_,_,hrg0,z4,hz4,by omega,hif2,y4,hF4,hGA4,ev_begin hGA4 hi k,b3,hsz0⟩
 case round=>
  obtain⟨s1,a1,l1,c1,z,left,cnt,hrg,hu,hzr,hlr,hif,hy,hFr,hGr,hE,kr,hcn⟩:=hrel
  have u0:=hu.c0
  have u1:=hu.c1
  have v0:=hy.c0
  have v1:=hy.c1
  have v2:=hy.f 0
  have v3:=hy.f 1
  go_wp2_with(at_next;refine wpList_next_z rfl _ rfl m2 rI n D left cnt rfl hrg (fun hl0=> ?_) (fun v s3 a3 l3 c3 w5 cnt2 hv hlk hat hrg2 hlt hgr hen=> ?_))
  ·refine bodyPost_ret (results_ct rfl _ _ r 26 _ (0,0) _ rfl (zb_fin hy s1 a1 l1 c1) Tryz.underlying26 rfl k_f) rfl ?_
   obtain⟨hT,rfl⟩:=ev_finish hE.out hl0 hi
   have hrw:w.heap.size≤r:=by have:=hp.out;omega
   exact⟨s1,a1,l1,c1,0,by simp,(kr.out.setCell hrw _).setCell hrw _,.inr ⟨hT,rfl,zb_zn hy hzr _ _ _ _,by omega,hif⟩⟩
  have hwI:w.heap.size≤rI:=by have:=hp.out;have:=hrel0.out;omega
  have hnI:=rng_noU hrg
  have hu5:=hu.grown hgr (by have:=hrel0.out;omega)
  have hzr5:=hzr.grownU hgr hnI
  have hy5:=hy.grown hgr (by have:=hrel0.out;omega)
  have hF5:=hFr.grownU hgr hnI (by have:=hrel0.out;omega)
  have hG5:=hGr.grownU hgr hnI
  have hB5:=hide (below_grown kr.out hgr hwI)
  have hZ:Zn w5 s3 a3 l3 c3 (csum ps v)∧l3≤B+n:=by
   rcases hG5 v hv with⟨h1,_⟩|⟨s',a',l',c',h1,h2,h3⟩
   ·rw[Maps.has_true_of_atKey hat]at h1;cases h1
   have:=(hat (.held (.bool true))).symm.trans (h1 _)
   simp at this
   obtain⟨rfl,rfl,rfl,rfl⟩:=this
   exact⟨h2,h3⟩
  obtain⟨hZ,hl3⟩:=hZ
  have kb:=below_alloc w5 (.cells #[.bool s3,.slice a3 l3 c3] 26)
  have xc:=zb_new w5 s3 a3 l3 c3
  clear hu hy u0 u1 v0 v1 v2 v3 kr hFr hGr hzr hgr hnI hen
  refine(zsign_n (hZ.below kb).zm o_m).mono ?_
  rintro e w6 ⟨rfl,k6⟩
  replace xc:=xc.below k6
  replace k6:=grow_step k6 kb
  have hrg6:=hrg2.kept (bg k6) (by simp) (by simp)
  have hu6:=hu5.below k6
  have hzr6:=hzr5.below k6
  have hy6:=hy5.below k6
  have hF6:=hF5.below k6
  have hG6:=hG5.below k6
  have hB6:=hide (grow_step k6 hB5.out)
  have hZ6:=hZ.below k6
  have huq:u≠w5.heap.size:=Nat.ne_of_lt hu5.lt
  clear hu5 hzr5 hy5 hF5 hG5 hB5 hZ kb k6 hrg2
  generalize w5.heap.size=q3 at*
  by_cases hc0:csum ps v=0
  ·have e0:cmpI (csum ps v) 0=0:=cmpI_eq hc0
   rw[e0]
   go_wp2_with fail
   exact⟨⟨s1,a1,l1,c1,z,_,cnt2,hrg6,hu6,hzr6,by omega,hif,hy6,hF6,hG6,ev_skip hE.out hlk hc0,hB6,by omega⟩,by rw[hrg6.left_eq,hrg.left_eq];exact hlt⟩
  have e0:cmpI (csum ps v) 0≠0:=by unfold cmpI;split <;> (try split) <;> omega
  generalize cmpI (csum ps v) 0=sgn at*
  obtain⟨s4,a4,l4,c4,ok,hlook,hok⟩:=hF6.look hv
  rcases hok with⟨rfl,hf⟩|⟨rfl,y,hzy,hf,hl4⟩
  ·have v0:=hy6.c0
   have v1:=hy6.c1
   have v2:=hy6.f 0
   have v3:=hy6.f 1
   have hrl:=hy6.lt
   go_wp2
   refine bodyPost_ret (results_ct rfl _ _ r 26 _ (0,0) _ rfl ((zb_fin hy6 false none 0 0).below (below_alloc _ (.cells #[.bool s4,.slice a4 l4 c4] 26))) Tryz.underlying26 rfl k_f) rfl ?_
   have hrw:w.heap.size≤r:=by have:=hp.out;omega
   exact⟨false,none,0,0,170,by simp,below_alloc' ((hB6.out.setCell hrw _).setCell hrw _) _,.inl ⟨fun hT=>hT v hc0 hf,rfl,rfl,rfl,rfl,rfl⟩⟩
  have kc:=below_alloc w6 (.cells #[.bool s4,.slice a4 l4 c4] 26)
  have xv:=zb_new w6 s4 a4 l4 c4
  have xc7:=xc.below kc
  have hrg7:=hrg6.kept (bg kc) (by simp) (by simp)
  have hu7:=hu6.below kc
  have hzr7:=hzr6.below kc
  have hy7:=hy6.below kc
  have hF7:=hF6.below kc
  have hG7:=hG6.below kc
  have hB7:=hide (grow_step kc hB6.out)
  have hZ7:=hZ6.below kc
  have hzy7:=hzy.below kc
  have huv:u≠w6.heap.size:=Nat.ne_of_lt hu6.lt
  clear hF6 hG6 hB6 hy6 hzr6 hrg6 kc hu6 hZ6 hzy xc
  go_wp2_with fail
  generalize w6.alloc (.cells #[.bool s4,.slice a4 l4 c4] 26)=wb at*
  generalize w6.heap.size=q4 at*
  have kd:=grow_drew (Below.refl wb.heap.size wb)
  have hd:wb.grownBy wb.drew (some u):=⟨rfl,rfl,rfl,Nat.le_refl _,fun _ _ _=>rfl⟩
  have u0:=hu7.c0
  have u1:=hu7.c1
  refine wp_region_held_drew (S:=(fun w'=>w'.cell? ⟨q3,0,none⟩=some (.bool s3)∧w'.cell? ⟨q3,1,none⟩=some (.slice a3 l3 c3)∧w'.cell? ⟨q4,0,none⟩=some (.bool s4)∧w'.cell? ⟨q4,1,none⟩=some (.slice a4 l4 c4)∧wb.grownBy w' (some u))) k_f (zg2 xc7 xv huq huv hd) (fun hHeld=> ?_)
  show wpAnyH _ _ _ _ _ 6 _ _ _
  refine tkz 1 40 ?_
  (try simp only[pz])
  refine tkz 2 41 ?_
  (try simp only[pz])
  repeat' first
   |with_reducible exact AllReadyH.nil
   |(
    refine wpAnyH_done ?_ ?_ _
    ·decide+kernel
    (have hnu:=zb_noU hu7;have hrg8:=hrg7.kept hg2 (by have:=hrel0.out;simp;omega) (by have:=hrel0.out;simp;omega);have hy8:=hy7.grown hg2 (by have:=hrel0.out;omega);have hF8:=hF7.grownU hg2 hnu (by have:=hrel0.out;omega);have hG8:=hG7.grownU hg2 hnu;have hB8:=hide (below_grown hB7.out hg2 (by have:=hp.out;have:=hrel0.out;omega));have hu8:=zb_fin uA sA aA lA cA;have hz8:=zb_zn uA hzA sA aA lA cA;clear hg2 hgA hgM hd kd kM kM' kA uA0 uA1 uA2 uA3 uM0 uM1 uA uM u0 u1 hzA hzM hF7 hG7 hB7 hy7 hzr7 hrg7 hu7 hnu;go_wp2_with fail;exact⟨⟨sA,aA,lA,cA,_,_,cnt2,hrg8,hu8,hz8,by omega,hifA,hy8,hF8,hG8,ev_add hE.out hlk hf,hB8,by omega⟩,by rw[hrg8.left_eq,hrg.left_eq];exact hlt⟩))
   |(refine wpAnyH_ready (rs:=[0,3]) ?_ ?_ ?_;decide+kernel;simp)
   |(refine wpAnyH_ready (rs:=[3]) ?_ ?_ ?_;decide+kernel;simp)
   |(refine wpAnyH_ready (rs:=[4]) ?_ ?_ ?_;decide+kernel;simp)
   |(refine wpAnyH_ready (rs:=[5]) ?_ ?_ ?_;decide+kernel;simp)
   |(refine wpAnyH_ready (rs:=[0]) ?_ ?_ ?_;decide+kernel;simp)
   |(
    first
     |(
      refine AllReadyH.cons (i:=0) (o:=⟨some 39,_,_,_,_,_⟩) rfl (fun K hK=> ?_) ?_
      go_simp)
     |(
      refine AllReadyH.cons (i:=3) (o:=⟨some 42,_,_,_,_,_⟩) rfl (fun K hK=> ?_) ?_
      go_simp
      go_at_call 38;refine(zmul_n (Zm.below hZ7.zm kd) (Zm.below hzy7 kd) o_m o_m).mono ?_;rintro e wM ⟨sM,aM,lM,cM,rfl,hzM,kM,hlM⟩;have hgM:=gb_below hd kM;have kM':=grow_step kM kd;have uM:=hu7.below kM';have uM0:=uM.c0;have uM1:=uM.c1
      (try go_wp2_with fail))
     |(
      refine AllReadyH.cons (i:=4) (o:=⟨some 43,_,_,_,_,_⟩) rfl (fun K hK=> ?_) ?_
      go_simp
      go_at_call 37;refine(zadd_b (F0:=F0) (Zm.below hzr7.zm kM') hzM.zm o_m o_m (by have:=hp.out;have:=hB7.out.size;have:=kM'.size;omega)).mono ?_;rintro e wA ⟨sA,aA,lA,cA,rfl,hzA,kA,hlA,hifA⟩;have hgA:=gb_below hgM kA;have uA:=uM.below kA;have uA0:=uA.c0;have uA1:=uA.c1;have uA2:=uA.f 0;have uA3:=uA.f 1;have hg2:=gb_trans hgA (zb_set wA u (.bool sA) (.slice aA lA cA))
      (try go_wp2_with fail))
     |(
      refine AllReadyH.cons (i:=5) (o:=⟨none,_,_,_,_,_⟩) rfl (fun K hK=> ?_) ?_
      go_simp)
    refine hK.out _ _ ?_ ?_
    ·(try dsimp only);(refine zg2 xc7 xv huq huv ?_;assumption)
    clear hK K hHeld;intro hHeld
    (try simp only[pz]))
theorem eval_n (hP:Pr w ad n ps B)(hz:Zm w s a l c k)(hl:l≤B)(hV:Pr w ad2 n2 vs B)(hB:B+n+n2≤268435456):
  Calls Tryz.prog 9 #[.agg #[.slice ad n cp,.bool s,.slice a l c],.slice ad2 n2 cp2] w fun e w'=> ∃s' a' l' c' er,e= .returned (.tuple #[.agg #[.bool s',.slice a' l' c'],.int .i64 er])∧Below w.heap.size w w'∧((¬Tot ps vs∧er=170∧s'=false∧a'=none∧l'=0∧c'=0)∨(Tot ps vs∧er=0∧Zn w' s' a' l' c' (k+ev ps (val1 vs))∧l'≤2*B+2*n+1)):=
 (eval_b (Nat.zero_le _) hP hz hl hV hB).mono fun _ _ ⟨s',a',l',c',er,h1,h2,h3⟩=>⟨s',a',l',c',er,h1,h2,h3.imp id fun⟨h4,h5,h6,h7,_⟩=>⟨h4,h5,h6,h7⟩⟩

def IV (w:World)(ad:Option Addr)(n:Nat)(xs:List Int):Prop:=xs.length=n∧(n=0∨ ∃g,ad=some ⟨g,0,none⟩∧g<w.heap.size∧∀i (h:i<xs.length),w.cell? ⟨g,i,none⟩=some (.int .i64 xs[i]))
theorem row_iv {xs:List Int}(h:w.ownsRow base 3 1 v n (xs.map (Value.int .i64))): ∃ad cap,v= .slice ad n cap∧IV w ad n xs:=by
 have hl:xs.length=n:=by simpa using h.1
 rcases h.2 with⟨rfl,rfl⟩|⟨g,cap,cur,rfl,_,hcur,_,_,_,htake⟩
 ·exact⟨none,0,rfl,hl,.inl rfl⟩
 refine⟨_,cap,rfl,hl,.inr ⟨g,rfl,(Array.getElem?_eq_some_iff.1 hcur).1,fun i hi=> ?_⟩⟩
 have e:(cur.toList.take (n*1))[i]? =some (.int .i64 xs[i]):=by rw[htake,List.getElem?_map,List.getElem?_eq_getElem hi];rfl
 rw[List.getElem?_take,if_pos o_m]at e
 exact(cell_of_row w g i _ _ (0,0) hcur).trans (by simpa using e)
theorem infoI :(Tryz.prog.info? 3).map (fun i=>(i.zero,i.size,i.bytes))=some (some (.int .i64 0),1,8):=by kernel_rfl

theorem run_parts (ad:Option Addr)(n cp:Nat)(s:Bool)(a:Option Addr)(l c:Nat)(w:World):(Instr.field 28 (.agg #[.slice ad n cp,.bool s,.slice a l c]) 0).run Tryz.prog w= .ok (.slice ad n cp) w:=by
 simp[Instr.field,run_underlying Tryz.underlying28,asAgg,part,Tryz.isAgg23]

theorem tvars_n (hP:Pr w ad n ps B)(hz:Zm w s a l c k)(hl:l≤B)(hB:B+n≤536870912):
  Calls Tryz.prog 16 #[.agg #[.slice ad n cp,.bool s,.slice a l c]] w fun e w'=> ∃ad' n' cp' qs,e= .returned (.slice ad' n' cp')∧IV w' ad' n' (qs.map Prod.fst)∧n'≤n∧Std qs∧(∀v,csum qs v=csum ps v)∧Below w.heap.size w w':=by
 go_enter Tryz.func16,Tryz.ntmps16
 go_wp2_with fail
 have b0:=below_alloc w (.cells #[.slice ad n cp,.bool s,.slice a l c] 28)
 refine(tnorm_n (hP.below b0) (hz.below b0) hl hB).mono ?_
 rintro e w1 ⟨ad1,n1,cp1,s1,a1,l1,c1,rs,rfl,hTN,hn1,hStd,hcs⟩
 have hP1:=hTN.pr
 have k1:=hide (grow_step hTN.below b0)
 obtain⟨hn,hP1⟩:=hP1
 generalize rs.map Raw.p=qs at*
 clear b0 hTN hP hz
 obtain⟨i0,hi,hz0,hz1,hz2⟩:=info_parts infoI
 have hfield:=run_parts ad1 n1 cp1 s1 a1 l1 c1 w1
 go_wp2_with fail
 go_loopw [3,10] (fun vv i wr=> ∃t:Nat,t≤n1∧i= .int .i64 t∧wr.ownsRow w1.heap.size 3 1 vv t ((qs.take t).map fun q=> .int .i64 q.1)∧Below w1.heap.size w1 wr) (fun _ i _=>n1-(intOf i).toNat)
 case atStart=>exact⟨0,Nat.zero_le _,rfl,World.ownsRow_nil _ _ _ _,Below.refl _ _⟩
 case round=>
  obtain⟨t,ht,rfl,hrow,kr⟩:=hrel
  by_cases htn:t<n1
  ·rcases hP1 with h|⟨bp,op,rfl,hP1⟩
   ·omega
   obtain⟨s2,a2,l2,c2,e0,e1,e2,-,-,hv⟩:=(hP1.below kr).2 t o_m
   have hps:Hid (qs.take (t+1)=qs.take t++ [qs[t]]):=List.take_succ_eq_append_getElem (l:=qs) (i:=t) o_m
   generalize qs[t]=pp at*
   have ka:=below_alloc wr (.cells #[.int .i64 pp.1,.bool s2,.slice a2 l2 c2] 117)
   have hbase:=hide (show w1.heap.size≤wr.heap.size from kr.size)
   go_wp2_with(at_builtin;refine wpList_append_own_at _ rfl _ _ 33 rfl w1.heap.size 3 i0 _ 1 8 Tryz.underlying33 hi hz0 hz1 hz2 rfl (by decide) _ _ _ rfl ((hrow.alloc _).alloc _) ⟨wr.heap.size+1,0,none⟩ 1 1 [.int .i64 pp.1] rfl rfl (by simpa using cell_one_new (wr.alloc (.cells #[.int .i64 pp.1,.bool s2,.slice a2 l2 c2] 117)) (.int .i64 pp.1) 3) (by simp[Value.oneCell']) (by unfold maxLen;omega) o_m (by have:=hbase.out;simp;omega) ?_;intro v' w4 hown' hgrow hnil hat')
   have kb:=below_alloc (wr.alloc (.cells #[.int .i64 pp.1,.bool s2,.slice a2 l2 c2] 117)) (.cells #[.int .i64 pp.1] 3)
   have k4:Below w1.heap.size w1 w4:=(grow_step kb (grow_step ka kr)).grown hgrow (grow_step kb (grow_step ka kr)).size (fun k e=>(hrow.lt k e).1)
   refine⟨⟨t+1,by omega,by go_num,?_,k4⟩,by simp[intOf];omega⟩
   rw[hps.out,List.map_append]
   exact hown'
  obtain rfl:t=n1:=by omega
  rw[List.take_of_length_le (Nat.le_of_eq hn),show(qs.map fun q=>Value.int .i64 q.1)=(qs.map Prod.fst).map (Value.int .i64)by rw[List.map_map];rfl]at hrow
  obtain⟨ad',cp',rfl,hIV⟩:=row_iv hrow
  clear hrow
  go_wp2
  go_ret
  exact⟨ad',t,cp',qs,rfl,hIV,hn1,hStd,hcs,grow_step kr k1.out⟩


def Raw.okm (w:World)(B:Nat)(x:Raw):Prop:=Zm w x.s x.a x.l x.c x.z∧x.l≤B∧I64 x.v
theorem pl_raw {off:Nat}(h:PL w b off ps B): ∃rs:List Raw,rs.map Raw.p=ps∧(∀x∈rs,x.okm w B)∧∀j u,(flat rs)[j]? =some u→w.cell? ⟨b,off+j,none⟩=some u:=by
 have hex: ∀i,∃x:Raw,(hi:i<ps.length)→x.p=ps[i]∧x.okm w B∧w.cell? ⟨b,off+i*3,none⟩=some (.int .i64 x.v)∧w.cell? ⟨b,off+i*3+1,none⟩=some (.bool x.s)∧w.cell? ⟨b,off+i*3+2,none⟩=some (.slice x.a x.l x.c):=by
  intro i
  by_cases hi:i<ps.length
  ·obtain⟨s,a,l,c,h0,h1,h2,h3,h4,h5⟩:=h.2 i hi
   exact⟨⟨ps[i].1,s,a,l,c,ps[i].2⟩,fun _=>⟨rfl,⟨h3,h4,h5⟩,h0,h1,h2⟩⟩
  exact⟨⟨0,false,none,0,0,0⟩,fun h=>absurd h hi⟩
 obtain⟨Q,hQ⟩:=Classical.skolem.1 hex
 refine⟨(List.range ps.length).map Q,?_,?_,?_⟩
 ·apply List.ext_getElem (by simp)
  intro i h1 h2
  simp only[List.getElem_map,List.getElem_range]
  exact(hQ i (by simpa using h2)).1
 ·intro x hx
  obtain⟨i,hi,rfl⟩:=List.mem_map.1 hx
  exact(hQ i (List.mem_range.1 hi)).2.1
 intro j u hu
 have hlen:=flat_length ((List.range ps.length).map Q)
 have hj:j<(flat ((List.range ps.length).map Q)).length:=(List.getElem?_eq_some_iff.1 hu).1
 simp only[List.length_map,List.length_range]at hlen
 have hi:j / 3<((List.range ps.length).map Q).length:=by simp;omega
 have hg:=flat_get ((List.range ps.length).map Q) (j / 3) (j%3) hi (Nat.mod_lt _ (by decide))
 rw[show j / 3*3+j%3=j from by omega,hu]at hg
 simp only[List.getElem_map,List.getElem_range]at hg
 obtain⟨_,_,h0,h1,h2⟩:=hQ (j / 3) (by simpa using hi)
 have hm:j%3=0∨j%3=1∨j%3=2:=by omega
 rcases hm with e|e|e
 ·rw[e]at hg
  simp[Raw.enc]at hg
  subst hg
  rw[show off+j=off+j / 3*3 from by omega]
  exact h0
 ·rw[e]at hg
  simp[Raw.enc]at hg
  subst hg
  rw[show off+j=off+j / 3*3+1 from by omega]
  exact h1
 rw[e]at hg
 simp[Raw.enc]at hg
 subst hg
 rw[show off+j=off+j / 3*3+2 from by omega]
 exact h2
theorem row_pr {e:TypeId}{rs:List Raw}(h:w.ownsRow base e 3 v n (flat rs))(hok: ∀x∈rs,x.okm w B): ∃ad cap,v= .slice ad n cap∧Pr w ad n (rs.map Raw.p) B:=by
 have hl:rs.length=n:=by have:=h.1;rw[flat_length]at this;omega
 rcases h.2 with⟨rfl,rfl⟩|⟨g,cap,cur,rfl,_,hcur,_,_,_,htake⟩
 ·exact⟨none,0,rfl,by simpa using hl,.inl rfl⟩
 refine⟨_,cap,rfl,by simpa using hl,.inr ⟨g,0,rfl,(Array.getElem?_eq_some_iff.1 hcur).1,fun i hi=> ?_⟩⟩
 have hi':i<rs.length:=by simpa using hi
 have hc: ∀c,c<3→w.cell? ⟨g,0+i*3+c,none⟩=(rs[i]).enc[c]?:=by
  intro c hc
  have hg:=flat_get rs i c hi' hc
  rw[←htake,List.getElem?_take,if_pos o_m]at hg
  rw[←hg,Nat.zero_add]
  exact(cell_of_row w g (i*3+c) _ _ (0,0) hcur).trans (by simp)
 obtain⟨hz,hlx,hv⟩:=hok rs[i] (List.getElem_mem hi')
 rw[List.getElem_map]
 exact⟨_,_,_,_,by simpa [Raw.enc,Raw.p] using hc 0 (by decide),by simpa [Raw.enc] using hc 1 (by decide),by simpa [Raw.enc] using hc 2 (by decide),hz,hlx,hv⟩

theorem infoV :(Tryz.prog.info? 40).map (fun i=>(i.zero,i.size,i.bytes))=some (some (.agg #[.int .i64 0,.bool false,.slice none 0 0]),3,40):=by kernel_rfl

def ins :List (Int × Int)→Int × Int→List (Int × Int)
 | [],p=> [p]
 |q::qs,p=>if q.1<p.1 then q::ins qs p else if q.1=p.1 then(q.1,q.2+p.2)::qs else p::q::qs
theorem csum_ins (qs:List (Int × Int))(p:Int × Int)(v:Int):csum (ins qs p) v=csum qs v+if p.1=v then p.2 else 0:=by
 induction qs with
 |nil=>simp[ins,csum]
 |cons q qs ih=>
  unfold ins
  split
  ·simp only[csum,ih];omega
  split
  ·rename_i h
   simp only[csum,h]
   split <;> omega
  simp only[csum];omega
theorem ins_mem {p r:Int × Int}(h:r∈ins qs p):r.1=p.1∨ ∃q∈qs,q.1=r.1:=by
 induction qs with
 |nil=>simp[ins]at h;exact .inl (by rw[h])
 |cons q qs ih=>
  unfold ins at h
  split at h
  ·rcases List.mem_cons.1 h with rfl|h
   ·exact .inr ⟨r,by simp,rfl⟩
   rcases ih h with h|⟨x,hx,e⟩
   ·exact .inl h
   exact .inr ⟨x,by simp[hx],e⟩
  split at h
  ·rcases List.mem_cons.1 h with rfl|h
   ·exact .inr ⟨q,by simp,rfl⟩
   exact .inr ⟨r,by simp[h],rfl⟩
  rcases List.mem_cons.1 h with rfl|h
  ·exact .inl rfl
  exact .inr ⟨r,h,rfl⟩
def Rise (qs:List (Int × Int)):Prop:=qs.Pairwise (fun p q=>p.1<q.1)
theorem rise_ins (h:Rise qs)(p:Int × Int):Rise (ins qs p):=by
 induction qs with
 |nil=>simp[ins,Rise]
 |cons q qs ih=>
  have h1:=List.pairwise_cons.1 h
  unfold ins
  split
  ·refine List.pairwise_cons.2 ⟨fun r hr=> ?_,ih h1.2⟩
   rcases ins_mem hr with e|⟨x,hx,e⟩
   ·omega
   have:=h1.1 x hx;omega
  split
  ·exact List.pairwise_cons.2 ⟨fun r hr=>h1.1 r hr,h1.2⟩
  refine List.pairwise_cons.2 ⟨fun r hr=> ?_,h⟩
  rcases List.mem_cons.1 hr with rfl|hr
  ·omega
  have:=h1.1 r hr;omega
theorem flat_set (L:List Raw): ∀(t:Nat) (_:t<L.length) (y:Raw),(((flat L).set (t*3) (.int .i64 y.v)).set (t*3+1) (.bool y.s)).set (t*3+2) (.slice y.a y.l y.c)=flat (L.set t y):=by
 induction L with
 |nil=>intro t ht;cases ht
 |cons x L ih=>
  intro t ht y
  have e:flat (x::L)= .int .i64 x.v:: .bool x.s:: .slice x.a x.l x.c::flat L:=by simp[flat,Raw.enc]
  cases t with
  |zero=>
   rw[e]
   simp[flat,Raw.enc]
  |succ t=>
   have e2:flat ((x::L).set (t+1) y)= .int .i64 x.v:: .bool x.s:: .slice x.a x.l x.c::flat (L.set t y):=by simp[flat,Raw.enc]
   rw[e,e2,←ih t (by simpa using ht) y,show(t+1)*3=t*3+1+1+1 by omega]
   simp
def Rok (w:World)(B:Nat)(L:List Raw):Prop:=∀x∈L,x.ok w B
theorem Rok.below {L:List Raw}(h:Rok w B L)(hb:Below w.heap.size w w'):Rok w' B L:=fun x hx=>⟨(h x hx).1.below hb,(h x hx).2⟩
theorem Rok.grownU {L:List Raw}(h:Rok w B L)(hg:w.grownBy w' (some b))(hb:NoU w b):Rok w' B L:=fun x hx=>raw_grown hg hb (h x hx)
theorem zr_ok (w:World)(B:Nat):zr.ok w B:=⟨zn_zero w,Nat.zero_le _,by unfold I64;decide⟩

def lays (qs ps:List (Int × Int)):List (Int × Int):=ps.foldl ins qs
theorem csum_lays (ps:List (Int × Int)): ∀(qs:List (Int × Int)) (v:Int),csum (lays qs ps) v=csum qs v+csum ps v:=by
 induction ps with
 |nil=>intro qs v;simp[lays,csum]
 |cons p ps ih=>
  intro qs v
  have:=ih (ins qs p) v
  unfold lays at this ⊢
  rw[List.foldl_cons,this,csum_ins]
  simp only[csum]
  omega
theorem rise_lays (ps:List (Int × Int)): ∀{qs:List (Int × Int)},Rise qs→Rise (lays qs ps):=by
 induction ps with
 |nil=>intro qs h;exact h
 |cons p ps ih=>intro qs h;exact ih (rise_ins h p)
def nz (qs:List (Int × Int)):List (Int × Int):=qs.filter (fun p=>p.2≠0)
theorem csum_nz (qs:List (Int × Int))(v:Int):csum (nz qs) v=csum qs v:=by
 induction qs with
 |nil=>rfl
 |cons q qs ih=>
  unfold nz at ih ⊢
  by_cases h:q.2=0
  ·rw[List.filter_cons_of_neg (by simpa using h),ih]
   simp only[csum,h]
   split <;> omega
  rw[List.filter_cons_of_pos (by simpa using h)]
  simp only[csum,ih]
theorem std_nz (h:Rise qs):Std (nz qs):=by
 exact⟨List.Pairwise.filter _ h,fun p hp=>by simpa using (List.mem_filter.1 hp).2⟩

theorem RS.grown {cap:Nat}{L:List Raw}{o:Nat}(h:RS base w v n cap L)(hg:w.grownBy w' (some o))(ho:o<base):RS base w' v n cap L:=by
 rcases h with h|⟨g,e,hb,hr,h⟩
 ·exact .inl h
 exact .inr ⟨g,e,hb,hr.grown hg o_m,h⟩

def Pn (w:World)(ad:Option Addr)(n:Nat)(ps:List (Int × Int))(B:Nat):Prop:=
 ps.length=n∧(n=0∨ ∃b off,ad=some ⟨b,off,none⟩∧b<w.heap.size∧∀i (h:i<ps.length),∃s a l c,w.cell? ⟨b,off+i*3,none⟩=some (.int .i64 (ps[i]).1)∧w.cell? ⟨b,off+i*3+1,none⟩=some (.bool s)∧w.cell? ⟨b,off+i*3+2,none⟩=some (.slice a l c)∧Zn w s a l c (ps[i]).2∧l≤B∧I64 (ps[i]).1)
theorem Pn.pr (h:Pn w ad n ps B):Pr w ad n ps B:=by
 refine⟨h.1,?_⟩
 rcases h.2 with h2|⟨b,off,e,hlt,h2⟩
 ·exact .inl h2
 refine .inr ⟨b,off,e,hlt,fun i hi=> ?_⟩
 obtain⟨s,a,l,c,e0,e1,e2,hz,hl,hv⟩:=h2 i hi
 exact⟨s,a,l,c,e0,e1,e2,hz.zm,hl,hv⟩
theorem Pn.below (h:Pn w ad n ps B)(hb:Below w.heap.size w w'):Pn w' ad n ps B:=by
 refine⟨h.1,?_⟩
 rcases h.2 with h2|⟨b,off,e,hlt,h2⟩
 ·exact .inl h2
 refine .inr ⟨b,off,e,Nat.lt_of_lt_of_le hlt hb.size,fun i hi=> ?_⟩
 obtain⟨s,a,l,c,e0,e1,e2,hr,hl,hv⟩:=h2 i hi
 exact⟨s,a,l,c,(hb.cell (p:=⟨b,off+i*3,none⟩) hlt).trans e0,(hb.cell (p:=⟨b,off+i*3+1,none⟩) hlt).trans e1,(hb.cell (p:=⟨b,off+i*3+2,none⟩) hlt).trans e2,hr.below hb,hl,hv⟩
theorem Pn.mono {B':Nat}(h:Pn w ad n ps B)(hB:B≤B'):Pn w ad n ps B':=by
 refine⟨h.1,?_⟩
 rcases h.2 with h2|⟨b,off,e,hlt,h2⟩
 ·exact .inl h2
 refine .inr ⟨b,off,e,hlt,fun i hi=> ?_⟩
 obtain⟨s,a,l,c,e0,e1,e2,hr,hl,hv⟩:=h2 i hi
 exact⟨s,a,l,c,e0,e1,e2,hr,Nat.le_trans hl hB,hv⟩
theorem pn_nil (w:World)(ad:Option Addr)(B:Nat):Pn w ad 0 [] B:=⟨rfl,.inl rfl⟩
theorem rs_pn {cap:Nat}{L:List Raw}(h:RS base w (.slice ad n cap) n cap L)(hok:Rok w B L):Pn w ad n ((L.take n).map Raw.p) B:=by
 rcases h with⟨e,h0,_,rfl⟩|⟨g,e,hb,hr,hl,hn,_⟩
 ·subst h0;exact⟨by simp,.inl rfl⟩
 simp at e
 subst e
 refine⟨by simp;omega,.inr ⟨g,0,rfl,hr.lt,fun i hi=> ?_⟩⟩
 have hi':i<L.length:=by simp at hi;omega
 have hx:=hok L[i] (List.getElem_mem hi')
 exact⟨(L[i]).s,(L[i]).a,(L[i]).l,(L[i]).c,by simpa [Raw.p] using hr.c0 hi',by simpa using hr.c1 hi',by simpa using hr.c2 hi',by simpa [Raw.p] using hx.1,hx.2.1,by simpa [Raw.p] using hx.2.2⟩

def ordL :List (Int × Int)→List (Int × Int)→Int
 | [],[]=>0
 | [],_::_=> -1
 |_::_,[]=>1
 |p::ps,q::qs=>if ordQ p q≠0 then ordQ p q else ordL ps qs
def ordT (ps qs:List (Int × Int))(k k2:Int):Int:=if ordL ps qs≠0 then ordL ps qs else cmpI k k2

theorem ordL_drop (h1:t<ps.length)(h2:t<qs.length):ordL (ps.drop t) (qs.drop t)=if ordQ ps[t] qs[t]≠0 then ordQ ps[t] qs[t]else ordL (ps.drop (t+1)) (qs.drop (t+1)):=by
 rw[List.drop_eq_getElem_cons h1,List.drop_eq_getElem_cons h2]
 rfl
theorem ordL_left (h1:t<ps.length)(h2:qs.length≤t):ordL (ps.drop t) (qs.drop t)=1:=by
 rw[List.drop_eq_getElem_cons h1,List.drop_eq_nil_of_le h2]
 rfl
theorem ordL_right (h1:ps.length≤t)(h2:t<qs.length):ordL (ps.drop t) (qs.drop t)= -1:=by
 rw[List.drop_eq_getElem_cons h2,List.drop_eq_nil_of_le h1]
 rfl
theorem ordL_both (h1:ps.length≤t)(h2:qs.length≤t):ordL (ps.drop t) (qs.drop t)=0:=by
 rw[List.drop_eq_nil_of_le h1,List.drop_eq_nil_of_le h2]
 rfl

theorem compareF_n (hP:Pr w ad n ps B)(hP2:Pr w ad2 n2 qs B)(hn:n≤536870912)(hB:B≤1099511627776):
  Calls Tryz.prog 163 #[.slice ad n cp,.slice ad2 n2 cp2,.func (.func 104) #[] #[]] w fun e w'=>e= .returned (.int .i64 (ordL ps qs))∧Below w.heap.size w w':=by
 obtain⟨h1,hP⟩:=hP
 obtain⟨h2,hP2⟩:=hP2
 have eg: ∀args w,(callFunc 104 args).run Tryz.prog w= .ok (.enter 104 args) w:=enters_of Tryz.func104 k_f rfl
 go_enter Tryz.func163,Tryz.ntmps163
 go_wp2_with fail
 go_loopw [13] (fun i wr=> ∃t:Nat,t≤n∧i= .int .i64 t∧Hid (ordL ps qs=ordL (ps.drop t) (qs.drop t))∧t≤n2∧Below w.heap.size w wr) (fun i _=>n-(intOf i).toNat)
 case atStart=>exact⟨0,Nat.zero_le _,rfl,by show _=_;simp,Nat.zero_le _,Below.refl _ _⟩
 case round=>
  obtain⟨t,ht,rfl,hord,ht2,kr⟩:=hrel
  by_cases htn:t<n
  ·rcases hP with hP|⟨b1,o1,rfl,hP⟩
   ·omega
   obtain⟨s1,a1,l1,c1,e0,e1,e2,hz,hl1,hv⟩:=(hP.below kr).2 t o_m
   have ka:=below_alloc wr (.cells #[.int .i64 ps[t].1,.bool s1,.slice a1 l1 c1] 117)
   by_cases htn2:t<n2
   ·rcases hP2 with hP2|⟨b2,o2,rfl,hP2⟩
    ·omega
    obtain⟨s2,a2,l2,c2,e3,e4,e5,hz2,hl2,hv2⟩:=(hP2.below kr).2 t o_m
    have hb2:=hP2.1
    have hlt:b2<wr.heap.size:=Nat.lt_of_lt_of_le hb2 kr.size
    have hdrop:=hide (ordL_drop (ps:=ps) (qs:=qs) (t:=t) o_m o_m)
    generalize hpp:ps[t]=pp at*
    generalize hqq:qs[t]=qq at*
    have kb:=below_alloc (wr.alloc (.cells #[.int .i64 pp.1,.bool s1,.slice a1 l1 c1] 117)) (.cells #[.int .i64 qq.1,.bool s2,.slice a2 l2 c2] 117)
    have kab:=hide (grow_step kb ka)
    have hcall:=order_g (v1:=pp.1) (v2:=qq.1) (hz.below kab.out) (hz2.below kab.out) o_m o_m
    replace hpp:=hide hpp
    replace hqq:=hide hqq
    clear ka kb
    go_wp2_with fail
    refine hcall.mono ?_
    rintro e w3 ⟨rfl,k3⟩
    replace k3:=hide (grow_step k3.b (grow_step kab.out kr))
    clear hcall kab
    rw[show ordQ (pp.1,pp.2) (qq.1,qq.2)=ordQ pp qq from rfl]
    by_cases ho:ordQ pp qq=0
    ·have hnext:=hide (hord.out.trans (hdrop.out.trans (by rw[if_neg (by simp[ho])])))
     rw[ho]
     go_wp2_with fail
     exact⟨⟨t+1,by omega,by go_num,hnext,by omega,k3.out⟩,by simp[intOf];omega⟩
    have hval:=hide (hord.out.trans (hdrop.out.trans (by rw[if_pos ho])))
    generalize ordQ pp qq=oo at*
    go_wp2
    go_ret
    exact⟨ret_int hval.out.symm,k3.out⟩
   have hval:=hide (hord.out.trans (ordL_left (ps:=ps) (qs:=qs) (t:=t) o_m o_m))
   have kf:=hide (grow_step ka kr)
   clear ka
   go_wp2
   go_ret
   exact⟨ret_int hval.out.symm,kf.out⟩
  obtain rfl:t=n:=by omega
  by_cases htn2:t<n2
  ·have hval:=hide (hord.out.trans (ordL_right (ps:=ps) (qs:=qs) (t:=t) o_m o_m))
   go_wp2
   go_ret
   exact⟨ret_int hval.out.symm,kr⟩
  have hval:=hide (hord.out.trans (ordL_both (ps:=ps) (qs:=qs) (t:=t) o_m o_m))
  go_wp2
  go_ret
  exact⟨ret_int hval.out.symm,kr⟩

theorem Pr.tb (h:Pr w ad n ps B)(y:TB w p ad0 n0 cp0 s0 a0 l0 c0)(hg:w.grownBy w' (some p)):Pr w' ad n ps B:=by
 refine⟨h.1,?_⟩
 rcases h.2 with h2|⟨b,off,e,hb,h2⟩
 ·exact .inl h2
 by_cases h0:ps.length=0
 ·exact .inl (h.1.symm.trans h0)
 refine .inr ⟨b,off,e,Nat.lt_of_lt_of_le hb hg.size,fun i hi=> ?_⟩
 obtain⟨s,a,l,c,e0,e1,e2,hz,hl⟩:=h2 i hi
 have hne:b≠p:=by
  intro e
  subst e
  rw[cell_of_row w b _ _ _ (0,0) y]at e0
  match hk:off+i*3,e0 with
  |0,e0=>simp at e0
  |1,e0=>simp at e0
  |2,e0=>simp at e0
  |k+3,e0=>simp at e0
 have eb:w'.heap[b]? =w.heap[b]?:=hg.block b hb (by simpa using hne)
 exact⟨s,a,l,c,(World.cell?_of_block (a:=⟨b,off+i*3,none⟩) eb).trans e0,(World.cell?_of_block (a:=⟨b,off+i*3+1,none⟩) eb).trans e1,(World.cell?_of_block (a:=⟨b,off+i*3+2,none⟩) eb).trans e2,hz.grownU hg (tb_noU y),hl⟩
theorem TW.tb (h:TW w ad n s a l c ps k B)(y:TB w p ad0 n0 cp0 s0 a0 l0 c0)(hg:w.grownBy w' (some p)):TW w' ad n s a l c ps k B:=
 ⟨h.1.tb y hg,h.2.1.grownU hg (tb_noU y),h.2.2⟩

def OrdF (w W':World)(p q:Nat)(ad1:Option Addr)(n1 cp1:Nat)(s1:Bool)(a1:Option Addr)(l1 c1:Nat)(rs:List (Int × Int))(ad3:Option Addr)(n3 cp3:Nat)(s3:Bool)(a3:Option Addr)(l3 c3:Nat)(rt:List (Int × Int))(k k2:Int)(B1 B2 n n2:Nat)(ps qs:List (Int × Int)):Prop:=
 TB W' p ad1 n1 cp1 s1 a1 l1 c1∧TB W' q ad3 n3 cp3 s3 a3 l3 c3∧TW W' ad1 n1 s1 a1 l1 c1 rs k B1∧TW W' ad3 n3 s3 a3 l3 c3 rt k2 B2∧n1≤n∧n3≤n2∧Std rs∧Std rt∧(∀v,csum rs v=csum ps v)∧(∀v,csum rt v=csum qs v)∧Below w.heap.size w W'
theorem ord_end {W:World}{q:Nat}{ad9:Option Addr}{n9 cp9:Nat}{s9:Bool}{a9:Option Addr}{l9 c9:Nat}{ad1:Option Addr}{n1 cp1:Nat}{rs:List (Int × Int)}{ad3:Option Addr}{n3 cp3:Nat}{s3:Bool}{a3:Option Addr}{l3 c3:Nat}{rt:List (Int × Int)}{k2:Int}{B1 B2:Nat}
  (x:TB W p ad0 n0 cp0 s0 a0 l0 c0)(y:TB W q ad9 n9 cp9 s9 a9 l9 c9)(t1:TW W ad1 n1 s1 a1 l1 c1 rs k B1)(t3:TW W ad3 n3 s3 a3 l3 c3 rt k2 B2)(kb:Below w.heap.size w W)(hpq:p≠q)(h1:w.heap.size≤p)(h2:w.heap.size≤q)(hn1:n1≤n)(hn3:n3≤n2)(hS1:Std rs)(hS3:Std rt)(hc1: ∀v,csum rs v=csum ps v)(hc3: ∀v,csum rt v=csum qs v):
  OrdF w ((((((W.setCell ⟨p,0,none⟩ (.slice ad1 n1 cp1)).setCell ⟨p,1,none⟩ (.bool s1)).setCell ⟨p,2,none⟩ (.slice a1 l1 c1)).setCell ⟨q,0,none⟩ (.slice ad3 n3 cp3)).setCell ⟨q,1,none⟩ (.bool s3)).setCell ⟨q,2,none⟩ (.slice a3 l3 c3)) p q ad1 n1 cp1 s1 a1 l1 c1 rs ad3 n3 cp3 s3 a3 l3 c3 rt k k2 B1 B2 n n2 ps qs:=by
 have g1:=tb_set W p (.slice ad1 n1 cp1) (.bool s1) (.slice a1 l1 c1)
 have x':=tb_fin x ad1 n1 cp1 s1 a1 l1 c1
 have y1:=y.grown g1 (Ne.symm hpq)
 have g2:=tb_set (((W.setCell ⟨p,0,none⟩ (.slice ad1 n1 cp1)).setCell ⟨p,1,none⟩ (.bool s1)).setCell ⟨p,2,none⟩ (.slice a1 l1 c1)) q (.slice ad3 n3 cp3) (.bool s3) (.slice a3 l3 c3)
 exact⟨x'.grown g2 hpq,tb_fin y1 ad3 n3 cp3 s3 a3 l3 c3,(t1.tb x g1).tb y1 g2,(t3.tb x g1).tb y1 g2,hn1,hn3,hS1,hS3,hc1,hc3,below_grown (below_grown kb g1 h1) g2 h2⟩
theorem torder_n {k2:Int}(hP:Pr w ad n ps B)(hz:Zm w s a l c k)(hl:l≤B)(hP2:Pr w ad2 n2 qs B)(hz2:Zm w s2 a2 l2 c2 k2)(hl2:l2≤B)(hB:B+n≤268435456)(hB2:B+n2≤268435456):
  Calls Tryz.prog 136 #[.agg #[.slice ad n cp,.bool s,.slice a l c],.agg #[.slice ad2 n2 cp2,.bool s2,.slice a2 l2 c2]] w fun e w'=> ∃ps' qs',e= .returned (.int .i64 (ordT ps' qs' k k2))∧Std ps'∧Std qs'∧(∀v,csum ps' v=csum ps v)∧(∀v,csum qs' v=csum qs v)∧Below w.heap.size w w':=by
 go_enter Tryz.func136,Tryz.ntmps136
 go_wp2_with fail
 have x:=(tb_new w ad n cp s a l c).below (below_alloc _ (.cells #[.slice ad2 n2 cp2,.bool s2,.slice a2 l2 c2] 28))
 have y:=tb_new (w.alloc (.cells #[.slice ad n cp,.bool s,.slice a l c] 28)) ad2 n2 cp2 s2 a2 l2 c2
 have b0:Below w.heap.size w ((w.alloc (.cells #[.slice ad n cp,.bool s,.slice a l c] 28)).alloc (.cells #[.slice ad2 n2 cp2,.bool s2,.slice a2 l2 c2] 28)):=below_alloc' (below_alloc _ _) _
 rw[show(w.alloc (.cells #[.slice ad n cp,.bool s,.slice a l c] 28)).heap.size=w.heap.size+1 from by simp]at y
 generalize (w.alloc (.cells #[.slice ad n cp,.bool s,.slice a l c] 28)).alloc (.cells #[.slice ad2 n2 cp2,.bool s2,.slice a2 l2 c2] 28)=wb at*
 have hpr:w.heap.size<w.heap.size+1:=by omega
 replace hP:=hP.below b0
 replace hz:=hz.below b0
 replace hP2:=hP2.below b0
 replace hz2:=hz2.below b0
 generalize hp:w.heap.size=p at*
 replace b0:Hid (Below w.heap.size w wb):=hp▸b0
 replace hp:=hide hp
 generalize p+1=q at*
 have hpq:p≠q:=by omega
 have hqp:q≠p:=by omega
 have x0:=x.c0
 have x1:=x.c1
 have x2:=x.c2
 have y0:=y.c0
 have y1:=y.c1
 have y2:=y.c2
 refine Code.wp_mono (Q:=fun e a' W'=>e= .normal∧∃ad1 n1 cp1 s1 a1 l1 c1 rs ad3 n3 cp3 s3 a3 l3 c3 rt,a'=⟨#[.agg #[.slice ad n cp,.bool s,.slice a l c],.agg #[.slice ad2 n2 cp2,.bool s2,.slice a2 l2 c2],.pointer (some ⟨p,0,none⟩),.pointer (some ⟨q,0,none⟩),.int .i64 0,undef,.agg #[.slice ad n cp,.bool s,.slice a l c],.agg #[.slice ad1 n1 cp1,.bool s1,.slice a1 l1 c1],.agg #[.slice ad2 n2 cp2,.bool s2,.slice a2 l2 c2],.agg #[.slice ad3 n3 cp3,.bool s3,.slice a3 l3 c3],undef,undef,undef,undef,undef,undef,undef,undef,undef,undef,undef,undef,undef],[]⟩∧OrdF w W' p q ad1 n1 cp1 s1 a1 l1 c1 rs ad3 n3 cp3 s3 a3 l3 c3 rt k k2 (B+n+1) (B+n2+1) n n2 ps qs) ?_ ?_
 ·rintro e a' W' ⟨rfl,ad1,n1,cp1,s1,a1,l1,c1,rs,ad3,n3,cp3,s3,a3,l3,c3,rt,rfl,hF⟩
  obtain⟨hx,hy,ht1,ht3,hn1,hn3,hS1,hS3,hc1,hc3,kF⟩:=id hF
  have f0:=hx.c0
  have f1:=hx.c1
  have f2:=hx.c2
  have g0:=hy.c0
  have g1:=hy.c1
  have g2:=hy.c2
  replace kF:=hide kF
  clear hF x0 x1 x2 y0 y1 y2 b0
  go_wp2_with fail
  refine(compareF_n (B:=B+n+n2+1) (ht1.1.mono o_m) (ht3.1.mono o_m) o_m o_m).mono ?_
  rintro e w5 ⟨rfl,k5⟩
  have f3:=(hx.below k5).c1
  have f4:=(hx.below k5).c2
  have g3:=(hy.below k5).c1
  have g4:=(hy.below k5).c2
  by_cases ho:ordL rs rt=0
  ·have hval:=hide (show ordT rs rt k k2=cmpI k k2 by simp[ordT,ho])
   rw[ho]
   replace ht1:=hide (ht1.below k5)
   replace ht3:=hide (ht3.below k5)
   replace k5:=hide (grow_step k5 kF.out)
   clear f0 f1 f2 g0 g1 g2
   go_wp2_with fail
   refine(zcmp_n ht1.out.2.1 ht3.out.2.1 (by have:=ht1.out.2.2;omega) (by have:=ht3.out.2.2;omega)).mono ?_
   rintro e w6 ⟨rfl,k6⟩
   replace k6:=hide (grow_step k6 k5.out)
   clear k5
   go_wp2
   go_ret
   exact⟨rs,rt,ret_int hval.out.symm,hS1,hS3,hc1,hc3,k6.out⟩
  have hval:=hide (show ordT rs rt k k2=ordL rs rt by simp[ordT,ho])
  replace k5:=hide (grow_step k5 kF.out)
  clear f0 f1 f2 g0 g1 g2 f3 f4 g3 g4
  generalize ordL rs rt=oo at*
  go_wp2
  go_ret
  exact⟨rs,rt,ret_int hval.out.symm,hS1,hS3,hc1,hc3,k5.out⟩
 refine wp_region_held_drew (S:=fun _=>True) k_f trivial (fun hHeld=> ?_)
 show wpAnyH _ _ _ _ _ 6 _ _ _
 repeat' first
  |with_reducible exact AllReadyH.nil
  |(
   refine wpAnyH_done ?_ ?_ _
   ·decide+kernel
   (refine⟨rfl,ad1,n1,cp1,s1,a1,l1,c1,rs.map Raw.p,ad3,n3,cp3,s3,a3,l3,c3,rt.map Raw.p,rfl,?_⟩;first|exact ord_end xB yB (tA.below kB) tB (grow_step kkB b0.out) hpq (by have:=hp.out;omega) (by have:=hp.out;omega) hn1 hn3 hS1 hS3 hc1 hc3|exact ord_end xA yA tA (tB.below kA) (grow_step kkA b0.out) hpq (by have:=hp.out;omega) (by have:=hp.out;omega) hn1 hn3 hS1 hS3 hc1 hc3|exact ord_end' xB yB (tA.below kB) tB (grow_step kkB b0.out) hpq (by have:=hp.out;omega) (by have:=hp.out;omega) hn1 hn3 hS1 hS3 hc1 hc3|exact ord_end' xA yA tA (tB.below kA) (grow_step kkA b0.out) hpq (by have:=hp.out;omega) (by have:=hp.out;omega) hn1 hn3 hS1 hS3 hc1 hc3))
  |(refine wpAnyH_ready (rs:=[0,2]) ?_ ?_ ?_;decide+kernel;simp)
  |(refine wpAnyH_ready (rs:=[1,2]) ?_ ?_ ?_;decide+kernel;simp)
  |(refine wpAnyH_ready (rs:=[2]) ?_ ?_ ?_;decide+kernel;simp)
  |(refine wpAnyH_ready (rs:=[3]) ?_ ?_ ?_;decide+kernel;simp)
  |(refine wpAnyH_ready (rs:=[4]) ?_ ?_ ?_;decide+kernel;simp)
  |(refine wpAnyH_ready (rs:=[5]) ?_ ?_ ?_;decide+kernel;simp)
  |(refine wpAnyH_ready (rs:=[1]) ?_ ?_ ?_;decide+kernel;simp)
  |(refine wpAnyH_ready (rs:=[0]) ?_ ?_ ?_;decide+kernel;simp)
  |(
   first
    |(
     refine AllReadyH.cons (i:=0) (o:=⟨some 6,_,_,_,_,_⟩) rfl (fun K hK=> ?_) ?_
     go_simp)
    |(
     refine AllReadyH.cons (i:=1) (o:=⟨some 7,_,_,_,_,_⟩) rfl (fun K hK=> ?_) ?_
     go_simp
     go_at_call 44;refine(tnorm_n (Pr.below hP gw) (Zm.below hz gw) hl o_m).mono ?_;rintro e wA ⟨ad1,n1,cp1,s1,a1,l1,c1,rs,rfl,hTA,hn1,hS1,hc1⟩;have kA:=hTA.below;have tA:=hTA.tw;have kkA:Below wb.heap.size wb wA:=gw;have xA:=x.below kkA;have yA:=y.below kkA;have xA0:=xA.c0;have xAf0:=xA.f 0;have xA1:=xA.c1;have xAf1:=xA.f 1;have xA2:=xA.c2;have xAf2:=xA.f 2;have yA0:=yA.c0;have yAf0:=yA.f 0;have yA1:=yA.c1;have yAf1:=yA.f 1;have yA2:=yA.c2;have yAf2:=yA.f 2
     (try go_wp2_with fail))
    |(
     refine AllReadyH.cons (i:=2) (o:=⟨some 8,_,_,_,_,_⟩) rfl (fun K hK=> ?_) ?_
     go_simp)
    |(
     refine AllReadyH.cons (i:=3) (o:=⟨some 9,_,_,_,_,_⟩) rfl (fun K hK=> ?_) ?_
     go_simp
     go_at_call 44;refine(tnorm_n (Pr.below hP2 gw) (Zm.below hz2 gw) hl2 o_m).mono ?_;rintro e wB ⟨ad3,n3,cp3,s3,a3,l3,c3,rt,rfl,hTB,hn3,hS3,hc3⟩;have kB:=hTB.below;have tB:=hTB.tw;have kkB:Below wb.heap.size wb wB:=gw;have xB:=x.below kkB;have yB:=y.below kkB;have xB0:=xB.c0;have xBf0:=xB.f 0;have xB1:=xB.c1;have xBf1:=xB.f 1;have xB2:=xB.c2;have xBf2:=xB.f 2;have yB0:=yB.c0;have yBf0:=yB.f 0;have yB1:=yB.c1;have yBf1:=yB.f 1;have yB2:=yB.c2;have yBf2:=yB.f 2
     (try go_wp2_with fail))
    |(
     refine AllReadyH.cons (i:=4) (o:=⟨none,_,_,_,_,_⟩) rfl (fun K hK=> ?_) ?_
     go_simp)
    |(
     refine AllReadyH.cons (i:=5) (o:=⟨none,_,_,_,_,_⟩) rfl (fun K hK=> ?_) ?_
     go_simp)
   refine hK.out _ _ ?_ ?_
   ·(try dsimp only);(try trivial)
   clear hK K hHeld;intro hHeld
   (try simp only[pz]))
end Go.Proofs.YtbgpddlcfiiiaaaGreatDoor

namespace Go.Proofs.YtbgpddlcfiiiaaaGreatDoor.At
open Tm

variable {F:Int→Int}{qs:List (Int × Int)}{d k kind D:Int}{g:Nat}
def eachP (F:Int→Int)(qs:List (Int × Int)):List (Int × Int):=(qs.map fun q=>(q.1,F q.2)).filter fun q=>decide (q.2≠0)
def gcdL (g:Nat)(qs:List (Int × Int)):Nat:=qs.foldl (fun g q=>Nat.gcd g q.2.natAbs) g

theorem eachP_cons (F:Int→Int)(q:Int × Int)(qs:List (Int × Int)):eachP F (q::qs)=if F q.2=0 then eachP F qs else(q.1,F q.2)::eachP F qs:=by
 unfold eachP
 by_cases h:F q.2=0 <;> simp[h]
theorem eachP_snoc (F:Int→Int)(qs:List (Int × Int))(q:Int × Int):eachP F (qs++ [q])=eachP F qs++if F q.2=0 then []else [(q.1,F q.2)]:=by
 unfold eachP
 by_cases h:F q.2=0 <;> simp[h]
theorem eachP_mem {p:Int × Int}(h:p∈eachP F qs): ∃q∈qs,p=(q.1,F q.2)∧F q.2≠0:=by
 unfold eachP at h
 obtain⟨h1,h2⟩:=List.mem_filter.1 h
 obtain⟨q,hq,rfl⟩:=List.mem_map.1 h1
 exact⟨q,hq,rfl,by simpa using h2⟩
theorem eachP_std (h:Std qs):Std (eachP F qs):=by
 refine⟨?_,fun p hp=> ?_⟩
 ·unfold eachP
  refine List.Pairwise.filter _ ?_
  rw[List.pairwise_map]
  exact h.1
 obtain⟨q,_,rfl,h0⟩:=eachP_mem hp
 exact h0
theorem eachP_ne (h: ∀q∈qs,F q.2≠0):eachP F qs=qs.map fun q=>(q.1,F q.2):=by
 unfold eachP
 refine List.filter_eq_self.2 fun p hp=> ?_
 obtain⟨q,hq,rfl⟩:=List.mem_map.1 hp
 simpa using h q hq
theorem eachP_id (h:Std qs)(hF: ∀q∈qs,F q.2=q.2):eachP F qs=qs:=by
 rw[eachP_ne fun q hq=>by rw[hF q hq];exact h.2 q hq]
 conv=>rhs;rw[←List.map_id qs]
 exact List.map_congr_left fun q hq=>by rw[hF q hq];rfl
theorem eachP_eachP (F H:Int→Int)(h0:H 0=0)(qs:List (Int × Int)):eachP H (eachP F qs)=eachP (fun x=>H (F x)) qs:=by
 induction qs with
 |nil=>rfl
 |cons q qs ih=>
  rw[eachP_cons,eachP_cons]
  by_cases h:F q.2=0
  ·rw[if_pos h,if_pos (by show H (F q.2)=0;rw[h,h0]),ih]
  rw[if_neg h,eachP_cons,ih]
theorem eachP_nil (h:eachP F qs= []): ∀q∈qs,F q.2=0:=fun q hq=>by
 apply Classical.byContradiction
 intro h0
 have:(q.1,F q.2)∈eachP F qs:=List.mem_filter.2 ⟨List.mem_map.2 ⟨q,hq,rfl⟩,by simpa using h0⟩
 rw[h]at this
 cases this
theorem ev_eachP_mod {c:Int}(qs:List (Int × Int))(f:Int→Int)(h: ∀q∈qs,d∣F q.2-c*q.2):d∣ev (eachP F qs) f-c*ev qs f:=by
 induction qs with
 |nil=>simp[eachP,ev]
 |cons q qs ih=>
  have h1:=ih fun p hp=>h p (by simp[hp])
  have h2:=h q (by simp)
  rw[eachP_cons]
  have e:F q.2*f q.1+ev (eachP F qs) f-c*(q.2*f q.1+ev qs f)=(F q.2-c*q.2)*f q.1+(ev (eachP F qs) f-c*ev qs f):=by
   rw[Int.sub_mul,Int.mul_add,Int.mul_assoc]
   omega
  have h3:d∣F q.2*f q.1+ev (eachP F qs) f-c*(q.2*f q.1+ev qs f):=by
   rw[e]
   exact Int.dvd_add (Int.dvd_trans h2 (Int.dvd_mul_right _ _)) h1
  by_cases h0:F q.2=0
  ·rw[if_pos h0]
   rw[h0]at h3
   simpa [ev] using h3
  rw[if_neg h0]
  exact h3
theorem ev_eachP_mul {g:Int}(qs:List (Int × Int))(f:Int→Int)(h: ∀q∈qs,g*F q.2=q.2):g*ev (eachP F qs) f=ev qs f:=by
 induction qs with
 |nil=>simp[eachP,ev]
 |cons q qs ih=>
  have h1:=ih fun p hp=>h p (by simp[hp])
  have h2:=h q (by simp)
  rw[eachP_cons]
  by_cases h0:F q.2=0
  ·rw[if_pos h0,h1]
   rw[h0,Int.mul_zero]at h2
   simp[ev,←h2]
  rw[if_neg h0]
  simp only[ev]
  rw[Int.mul_add,h1,←Int.mul_assoc,h2]

theorem gcdL_dvd (g:Nat)(qs:List (Int × Int)):gcdL g qs∣g∧∀q∈qs,((gcdL g qs:Nat):Int)∣q.2:=by
 induction qs generalizing g with
 |nil=>exact⟨Nat.dvd_refl _,fun q hq=>by cases hq⟩
 |cons p qs ih=>
  obtain⟨h1,h2⟩:=ih (Nat.gcd g p.2.natAbs)
  refine⟨Nat.dvd_trans h1 (Nat.gcd_dvd_left _ _),fun q hq=> ?_⟩
  rcases List.mem_cons.1 hq with rfl|hq
  ·exact Int.dvd_natAbs.1 (Int.natCast_dvd_natCast.2 (Nat.dvd_trans h1 (Nat.gcd_dvd_right _ _)))
  exact h2 q hq
theorem dvd_gcdL {d:Nat}(h:d∣g)(hq: ∀q∈qs,(d:Int)∣q.2):d∣gcdL g qs:=by
 induction qs generalizing g with
 |nil=>exact h
 |cons p qs ih=>exact ih (Nat.dvd_gcd h (Int.natCast_dvd_natCast.1 (Int.dvd_natAbs.2 (hq p (by simp))))) fun q hq'=>hq q (by simp[hq'])
theorem gcdL_pos (h:0<g∨ ∃q∈qs,q.2≠0):0<gcdL g qs:=by
 apply Nat.pos_of_ne_zero
 intro h0
 obtain⟨h1,h2⟩:=gcdL_dvd g qs
 rw[h0]at h1 h2
 rcases h with h|⟨q,hq,h⟩
 ·have:=Nat.eq_zero_of_zero_dvd h1;omega
 exact h (Int.zero_dvd.1 (h2 q hq))
theorem gcdL_eq {g':Nat}{rs:List (Int × Int)}(h: ∀d:Nat,(d∣g∧∀q∈qs,(d:Int)∣q.2)↔(d∣g'∧∀q∈rs,(d:Int)∣q.2)):gcdL g qs=gcdL g' rs:=by
 have h1:=(h _).1 (gcdL_dvd g qs)
 have h2:=(h _).2 (gcdL_dvd g' rs)
 exact Nat.dvd_antisymm (dvd_gcdL h1.1 h1.2) (dvd_gcdL h2.1 h2.2)
theorem gcdL_div {G:Nat}(hG:gcdL g qs=G)(h0:0<G):gcdL (g / G) (eachP (fun x=>x / G) qs)=1:=by
 obtain⟨h1,h2⟩:=gcdL_dvd g qs
 rw[hG]at h1 h2
 obtain⟨a1,a2⟩:=gcdL_dvd (g / G) (eachP (fun x=>x / G) qs)
 generalize gcdL (g / G) (eachP (fun x=>x / G) qs)=m at*
 have:G*m∣G:=by
  rw[←hG]
  rw[hG]
  refine Nat.dvd_trans (dvd_gcdL (g:=g) (qs:=qs) ?_ fun q hq=> ?_) (by rw[hG];exact Nat.dvd_refl _)
  ·obtain⟨c,hc⟩:=h1
   obtain⟨e,he⟩:=a1
   rw[hc,Nat.mul_div_cancel_left _ h0]at he
   rw[hc,he]
   exact⟨e,by rw[Nat.mul_assoc]⟩
  obtain⟨c,hc⟩:=h2 q hq
  have hG0:(G:Int)≠0:=by omega
  by_cases hc0:c=0
  ·rw[hc,hc0,Int.mul_zero];exact Int.dvd_zero _
  have hm:(q.1,q.2 / G)∈eachP (fun x=>x / (G:Int)) qs:=List.mem_filter.2 ⟨List.mem_map.2 ⟨q,hq,rfl⟩,by rw[hc,Int.mul_ediv_cancel_left _ hG0];simpa using hc0⟩
  obtain⟨e,he⟩:=a2 _ hm
  simp only at he
  rw[hc,Int.mul_ediv_cancel_left _ hG0]at he
  rw[hc,he]
  exact⟨e,by rw[Int.natCast_mul,Int.mul_assoc]⟩
 have h3:=Nat.le_of_dvd h0 this
 have:m∣1:=by
  obtain⟨e,he⟩:=this
  have:G*1=G*(m*e):=by rw[Nat.mul_one,←Nat.mul_assoc];exact he
  exact⟨e,Nat.eq_of_mul_eq_mul_left h0 this⟩
 exact Nat.dvd_one.1 this
structure Atm where
 kind:Int
 d:Int
 ps:List (Int × Int)
 k:Int
def tru (is:Prop) [Decidable is]:Atm:=⟨if is then 1 else 0,0,[],0⟩
def lessF (qs:List (Int × Int))(k:Int):Atm:=
 if qs= []then tru (0<k)else⟨2,0,eachP (fun x=>x / (gcdL 0 qs:Nat)) qs,(k-1) / (gcdL 0 qs:Nat)+1⟩
def oppP (d:Int)(qs:List (Int × Int)):List (Int × Int):=eachP (fun x=>x%d) (eachP (fun x=> -x) qs)
def fstF (kind d:Int)(us:List (Int × Int))(k:Int):Atm:=
 if ordT (oppP d us) us ((-k)%d) k<0 then⟨kind,d,oppP d us,(-k)%d⟩else⟨kind,d,us,k⟩
def divG (kind:Int)(D:Nat)(ts:List (Int × Int))(k:Int):Atm:=
 if ¬((gcdL D ts:Nat):Int)∣k then⟨if kind=3 then 0 else 1,0,[],0⟩
 else if(D:Int) / (gcdL D ts:Nat)=1 then⟨if kind=3 then 1 else 0,0,[],0⟩
 else fstF kind ((D:Int) / (gcdL D ts:Nat)) (eachP (fun x=>x / (gcdL D ts:Nat)) ts) (k / (gcdL D ts:Nat))
def divF (kind d:Int)(qs:List (Int × Int))(k:Int):Atm:=divG kind d.natAbs (eachP (fun x=>x%(d.natAbs:Int)) qs) (k%(d.natAbs:Int))
def formA (kind d:Int)(qs:List (Int × Int))(k:Int):Atm ⊕ Int:=
 if kind=0∨kind=1 then .inl ⟨kind,0,[],0⟩
 else if kind=2 then .inl (lessF qs k)
 else if kind=3∨kind=4 then(if d=0 then .inr 11 else .inl (divF kind d qs k))
 else .inr 1

def Sat (a:Atm)(f:Int→Int):Prop:=
 a.kind=1∨(a.kind=2∧0<a.k+ev a.ps f)∨(a.kind=3∧a.d∣a.k+ev a.ps f)∨(a.kind=4∧¬a.d∣a.k+ev a.ps f)

theorem fdiv_less {g s:Int}(hg:0<g):0<k+g*s↔0<(k-1) / g+1+s:=by
 have h1:g*((k-1) / g)+(k-1)%g=k-1:=Int.mul_ediv_add_emod _ _
 have h2:=Int.emod_nonneg (k-1) (by omega:g≠0)
 have h3:=Int.emod_lt_of_pos (k-1) hg
 generalize (k-1) / g=q at*
 generalize (k-1)%g=r at*
 constructor
 ·intro h
  apply Classical.byContradiction
  intro hn
  have:q+s≤-1:=by omega
  have h4:g*(q+s)≤g*(-1):=Int.mul_le_mul_of_nonneg_left this o_m
  rw[Int.mul_add]at h4
  omega
 intro h
 have h4:0≤g*(q+s):=Int.mul_nonneg o_m o_m
 rw[Int.mul_add]at h4
 omega
theorem lessF_sat (hS:Std qs)(k:Int)(f:Int→Int):Sat (lessF qs k) f↔0<k+ev qs f:=by
 unfold lessF
 by_cases h:qs= []
 ·subst h
  by_cases hk:0<k <;> simp[tru,Sat,ev,hk]
 rw[if_neg h]
 obtain⟨-,hd⟩:=gcdL_dvd 0 qs
 have hpos:0<gcdL 0 qs:=gcdL_pos (by
  cases qs with
  |nil=>exact absurd rfl h
  |cons q qs=>exact .inr ⟨q,by simp,hS.2 q (by simp)⟩)
 generalize gcdL 0 qs=g at*
 have hev:(g:Int)*ev (eachP (fun x=>x / (g:Int)) qs) f=ev qs f:=ev_eachP_mul qs f fun q hq=>Int.mul_ediv_cancel' (hd q hq)
 rw[←hev,fdiv_less (by omega:(0:Int)<g)]
 simp[Sat]
theorem dvd_congr {x y:Int}(h:d∣x-y):d∣x↔d∣y:=by
 constructor
 ·intro hx
  have:=Int.dvd_sub hx h
  rwa [show x-(x-y)=y by omega]at this
 intro hy
 have:=Int.dvd_add h hy
 rwa [show x-y+y=x by omega]at this
theorem dvd_emod (d x:Int):d∣x%d-x:=⟨-(x / d),by have:=Int.mul_ediv_add_emod x d;rw[Int.mul_neg];omega⟩
theorem opp_dvd (d:Int)(qs:List (Int × Int))(k:Int)(f:Int→Int):d∣(-k)%d+ev (oppP d qs) f↔d∣k+ev qs f:=by
 have h1:d∣ev (oppP d qs) f-(-1)*ev qs f:=by
  unfold oppP
  rw[eachP_eachP _ _ (by simp)]
  refine ev_eachP_mod qs f fun q _=> ?_
  have:=dvd_emod d (-q.2)
  rwa [show(-1)*q.2= -q.2 by omega]
 have h2:=dvd_emod d (-k)
 have h3:=Int.dvd_add h1 h2
 have h4:d∣((-k)%d+ev (oppP d qs) f)-(-(k+ev qs f)):=by
  have e:ev (oppP d qs) f - -1*ev qs f+(-k%d - -k)=((-k)%d+ev (oppP d qs) f)-(-(k+ev qs f)):=by omega
  rwa [e]at h3
 rw[dvd_congr h4,Int.dvd_neg]
theorem fstF_sat (us:List (Int × Int))(k:Int)(f:Int→Int)(hk:kind=3∨kind=4):Sat (fstF kind d us k) f↔(kind=3↔d∣k+ev us f):=by
 have h:=opp_dvd d us k f
 unfold fstF
 split
 ·unfold Sat
  simp only[h]
  rcases hk with rfl|rfl <;> simp
 unfold Sat
 rcases hk with rfl|rfl <;> simp
theorem divG_sat {D:Nat}(h0:0<D)(ts:List (Int × Int))(k:Int)(f:Int→Int)(hk:kind=3∨kind=4):Sat (divG kind D ts k) f↔(kind=3↔(D:Int)∣k+ev ts f):=by
 obtain⟨h1,h2⟩:=gcdL_dvd D ts
 have hpos:0<gcdL D ts:=gcdL_pos (.inl h0)
 unfold divG
 generalize gcdL D ts=g at*
 have hg:(0:Int)<g:=by omega
 have hev:(g:Int)*ev (eachP (fun x=>x / (g:Int)) ts) f=ev ts f:=ev_eachP_mul ts f fun q hq=>Int.mul_ediv_cancel' (h2 q hq)
 obtain⟨e,he⟩:=h1
 have hD:(D:Int)=g*e:=by rw[he];simp
 by_cases hgk:((g:Nat):Int)∣k
 ·rw[if_neg (by simpa using hgk)]
  obtain⟨c,rfl⟩:=hgk
  have key:(D:Int)∣(g:Int)*c+ev ts f↔(e:Int)∣c+ev (eachP (fun x=>x / (g:Int)) ts) f:=by
   rw[←hev,←Int.mul_add,hD]
   exact Int.mul_dvd_mul_iff_left o_m
  rw[hD]at key ⊢
  rw[Int.mul_ediv_cancel_left _ (by omega:(g:Int)≠0),Int.mul_ediv_cancel_left _ (by omega:(g:Int)≠0),key]
  by_cases h1:(e:Int)=1
  ·rw[if_pos h1]
   have hall:(e:Int)∣c+ev (eachP (fun x=>x / (g:Int)) ts) f:=by rw[h1];exact Int.one_dvd _
   rcases hk with rfl|rfl <;> simp[Sat,hall]
  rw[if_neg h1]
  exact fstF_sat _ _ f hk
 rw[if_pos hgk]
 have hno: ¬(D:Int)∣k+ev ts f:=by
  intro h
  apply hgk
  have h3:(g:Int)∣k+ev ts f:=Int.dvd_trans ⟨(e:Int),hD⟩ h
  rw[←hev]at h3
  have h4:=Int.dvd_sub h3 (Int.dvd_mul_right (g:Int) (ev (eachP (fun x=>x / (g:Int)) ts) f))
  rwa [Int.add_sub_cancel]at h4
 rcases hk with rfl|rfl <;> simp[Sat,hno]
theorem divF_sat (h0:d≠0)(qs:List (Int × Int))(k:Int)(f:Int→Int)(hk:kind=3∨kind=4):Sat (divF kind d qs k) f↔(kind=3↔d∣k+ev qs f):=by
 unfold divF
 rw[divG_sat o_m _ _ f hk]
 have h1:(d.natAbs:Int)∣ev (eachP (fun x=>x%(d.natAbs:Int)) qs) f-1*ev qs f:=ev_eachP_mod qs f fun q _=>by rw[Int.one_mul];exact dvd_emod _ _
 have h2:=Int.dvd_add h1 (dvd_emod (d.natAbs:Int) k)
 have e:ev (eachP (fun x=>x%(d.natAbs:Int)) qs) f-1*ev qs f+(k%(d.natAbs:Int)-k)=(k%(d.natAbs:Int)+ev (eachP (fun x=>x%(d.natAbs:Int)) qs) f)-(k+ev qs f):=by omega
 rw[e]at h2
 rw[dvd_congr h2,Int.natAbs_dvd]
theorem formA_sat {a:Atm}(hS:Std qs)(h:formA kind d qs k= .inl a)(f:Int→Int):Sat a f↔Sat ⟨kind,d,qs,k⟩ f:=by
 unfold formA at h
 by_cases h1:kind=0∨kind=1
 ·rw[if_pos h1]at h
  cases h
  rcases h1 with rfl|rfl <;> simp[Sat]
 rw[if_neg h1]at h
 by_cases h2:kind=2
 ·rw[if_pos h2]at h
  cases h
  rw[lessF_sat hS]
  subst h2
  simp[Sat]
 rw[if_neg h2]at h
 by_cases h3:kind=3∨kind=4
 ·rw[if_pos h3]at h
  by_cases h4:d=0
  ·rw[if_pos h4]at h;cases h
  rw[if_neg h4]at h
  cases h
  rw[divF_sat h4 _ _ f h3]
  rcases h3 with rfl|rfl <;> simp[Sat]
 rw[if_neg h3]at h;cases h
theorem cmpI_neg (a b:Int):cmpI b a= -cmpI a b:=by unfold cmpI;split <;> split <;> (try split) <;> omega
theorem ordQ_neg (p q:Int × Int):ordQ q p= -ordQ p q:=by
 unfold ordQ
 rw[cmpI_neg p.1 q.1,cmpI_neg p.2 q.2]
 by_cases h:cmpI p.1 q.1=0 <;> simp[h]
theorem ordL_neg : ∀ps qs:List (Int × Int),ordL qs ps= -ordL ps qs
 | [],[]=>rfl
 | [],_::_=>rfl
 |_::_,[]=>rfl
 |p::ps,q::qs=>by
  simp only[ordL]
  rw[ordQ_neg p q,ordL_neg ps qs]
  by_cases h:ordQ p q=0 <;> simp[h]
theorem ordT_neg (ps qs:List (Int × Int))(k k2:Int):ordT qs ps k2 k= -ordT ps qs k k2:=by
 unfold ordT
 rw[ordL_neg ps qs,cmpI_neg k k2]
 by_cases h:ordL ps qs=0 <;> simp[h]

structure Dsh (D:Int) (us:List (Int × Int)) (k:Int):Prop where
 two:2≤D
 std:Std us
 some:us≠ []
 rng: ∀q∈us,0<q.2∧q.2<D
 kr:0≤k∧k<D
 one:gcdL D.natAbs us=1
theorem opp_eq (D:Int)(us:List (Int × Int)):oppP D us=eachP (fun x=>(-x)%D) us:=eachP_eachP _ _ (by simp) us
theorem neg_emod {x:Int}(h1:0<x)(h2:x<D):(-x)%D=D-x:=by
 rw[←Int.add_emod_right,Int.emod_eq_of_lt o_m o_m]
 omega
theorem Dsh.opp {us:List (Int × Int)}(h:Dsh D us k):Dsh D (oppP D us) ((-k)%D)∧oppP D (oppP D us)=us∧(-((-k)%D))%D=k:=by
 have hF: ∀q∈us,(-q.2)%D=D-q.2:=fun q hq=>neg_emod (h.rng q hq).1 (h.rng q hq).2
 have hne: ∀q∈us,(-q.2)%D≠0:=fun q hq=>by rw[hF q hq];have:=h.rng q hq;omega
 have hD:=h.two
 have e1:oppP D us=us.map fun q=>(q.1,(-q.2)%D):=by rw[opp_eq,eachP_ne hne]
 refine⟨⟨h.two,by rw[opp_eq];exact eachP_std h.std,by rw[e1];simpa using h.some,fun q hq=> ?_,⟨Int.emod_nonneg _ o_m,Int.emod_lt_of_pos _ o_m⟩,?_⟩,?_,?_⟩
 ·rw[e1]at hq
  obtain⟨p,hp,rfl⟩:=List.mem_map.1 hq
  simp only
  rw[hF p hp]
  have:=h.rng p hp
  omega
 ·rw[←h.one]
  refine gcdL_eq fun d=> ?_
  have hd: ∀p∈us,(d:Int)∣D→((d:Int)∣(-p.2)%D↔(d:Int)∣p.2):=fun p hp hdD=>by
   rw[dvd_congr (Int.dvd_trans hdD (dvd_emod D (-p.2))),Int.dvd_neg]
  constructor
  ·rintro⟨h1,h2⟩
   have hdD:(d:Int)∣D:=Int.dvd_natAbs.1 (Int.natCast_dvd_natCast.2 h1)
   exact⟨h1,fun p hp=>(hd p hp hdD).1 (h2 (p.1,(-p.2)%D) (by rw[e1];exact List.mem_map.2 ⟨p,hp,rfl⟩))⟩
  rintro⟨h1,h2⟩
  have hdD:(d:Int)∣D:=Int.dvd_natAbs.1 (Int.natCast_dvd_natCast.2 h1)
  refine⟨h1,fun q hq=> ?_⟩
  rw[e1]at hq
  obtain⟨p,hp,rfl⟩:=List.mem_map.1 hq
  exact(hd p hp hdD).2 (h2 p hp)
 ·rw[opp_eq D us,opp_eq,eachP_eachP _ _ (by simp)]
  refine eachP_id h.std fun q hq=> ?_
  have hr:=h.rng q hq
  show(-((-q.2)%D))%D=q.2
  rw[hF q hq,neg_emod o_m o_m]
  omega
 by_cases h0:k=0
 ·subst h0;simp
 have:=h.kr
 rw[neg_emod (x:=k) o_m o_m,neg_emod o_m o_m]
 omega
def Fit (a:Atm):Prop:=
 ((a.kind=0∨a.kind=1)∧a.d=0∧a.ps= []∧a.k=0)∨(a.kind=2∧a.d=0∧Std a.ps∧a.ps≠ []∧gcdL 0 a.ps=1)∨
 ((a.kind=3∨a.kind=4)∧Dsh a.d a.ps a.k∧¬ordT (oppP a.d a.ps) a.ps ((-a.k)%a.d) a.k<0)
theorem fstF_fit {us:List (Int × Int)}(h:Dsh D us k)(hk:kind=3∨kind=4):Fit (fstF kind D us k):=by
 unfold fstF
 split
 ·rename_i ho
  obtain⟨h1,h2,h3⟩:=h.opp
  refine .inr (.inr ⟨hk,h1,?_⟩)
  simp only
  rw[h2,h3,ordT_neg (oppP D us) us]
  omega
 rename_i ho
 exact .inr (.inr ⟨hk,h,ho⟩)
theorem tru_fit (is:Prop) [Decidable is]:Fit (tru is):=.inl ⟨by unfold tru;split <;> simp,rfl,rfl,rfl⟩
theorem std_some (hS:Std qs)(h:qs≠ []): ∃q∈qs,q.2≠0:=by
 cases qs with
 |nil=>exact absurd rfl h
 |cons q qs=>exact⟨q,by simp,hS.2 q (by simp)⟩
theorem lessF_fit (hS:Std qs)(k:Int):Fit (lessF qs k):=by
 unfold lessF
 split
 ·exact tru_fit _
 rename_i h
 obtain⟨q,hq,h0⟩:=std_some hS h
 have hpos:0<gcdL 0 qs:=gcdL_pos (.inr ⟨q,hq,h0⟩)
 obtain⟨-,hd⟩:=gcdL_dvd 0 qs
 have h1:=gcdL_div (g:=0) (qs:=qs) rfl hpos
 rw[Nat.zero_div]at h1
 refine .inr (.inl ⟨rfl,rfl,eachP_std (F:=fun x=>x / ((gcdL 0 qs:Nat):Int)) hS,fun hn=>h0 ?_,h1⟩)
 have:q.2 / ((gcdL 0 qs:Nat):Int)=0:=eachP_nil (F:=fun x=>x / ((gcdL 0 qs:Nat):Int)) hn q hq
 have h2:=Int.mul_ediv_cancel' (hd q hq)
 rw[this,Int.mul_zero]at h2
 exact h2.symm
theorem divG_fit {D:Nat}(h0:0<D){ts:List (Int × Int)}{k:Int}(hS:Std ts)(hr: ∀q∈ts,0<q.2∧q.2<(D:Int))(hk0:0≤k∧k<(D:Int))(hk:kind=3∨kind=4):Fit (divG kind D ts k):=by
 obtain⟨h1,h2⟩:=gcdL_dvd D ts
 have hpos:0<gcdL D ts:=gcdL_pos (.inl h0)
 have hG:=gcdL_div (g:=D) (qs:=ts) rfl hpos
 unfold divG
 split
 ·exact .inl ⟨by rcases hk with rfl|rfl <;> simp,rfl,rfl,rfl⟩
 rename_i hg
 split
 ·exact .inl ⟨by rcases hk with rfl|rfl <;> simp,rfl,rfl,rfl⟩
 rename_i h3
 refine fstF_fit ?_ hk
 have hgs:gcdL D ts=D→ts= []:=fun e=>by
  cases ts with
  |nil=>rfl
  |cons q ts=>
   have hq:=h2 q (by simp)
   rw[e]at hq
   have:=hr q (by simp)
   have:=Int.le_of_dvd this.1 hq
   omega
 have hne:ts≠ []:=fun e=>by
  subst e
  apply h3
  show(D:Int) / (D:Int)=1
  exact Int.ediv_self o_m
 generalize gcdL D ts=g at*
 obtain⟨e,he⟩:=h1
 have hD:(D:Int)=g*e:=by rw[he];simp
 have hgi:(g:Int)≠0:=by omega
 have hDe:(D:Int) / g=e:=by rw[hD,Int.mul_ediv_cancel_left _ hgi]
 have hDn:D / g=e:=by rw[he,Nat.mul_div_cancel_left _ hpos]
 rw[hDe]at h3 ⊢
 rw[hDn]at hG
 have he0:0<e:=Nat.pos_of_ne_zero fun h=>by subst h;simp at he;omega
 have hgk:=Classical.not_not.1 hg
 have hq: ∀q∈ts,(g:Int)*(q.2 / g)=q.2:=fun q hq=>Int.mul_ediv_cancel' (h2 q hq)
 have hlt: ∀x:Int,(g:Int)*x<g*e→x<e:=fun x hx=>Int.lt_of_mul_lt_mul_left hx o_m
 have hpx: ∀x:Int,0<(g:Int)*x→0<x:=fun x hx=>Int.pos_of_mul_pos_right hx o_m
 refine⟨by omega,eachP_std hS,fun hn=> ?_,fun q hqm=> ?_,?_,by simpa using hG⟩
 ·obtain⟨q,hqm,hq0⟩:=std_some hS hne
  have:q.2 / (g:Int)=0:=eachP_nil hn q hqm
  have h4:=hq q hqm
  rw[this,Int.mul_zero]at h4
  exact hq0 h4.symm
 ·obtain⟨p,hp,rfl,_⟩:=eachP_mem hqm
  have h5:=hq p hp
  have h6:=hr p hp
  rw[←h5,hD]at h6
  exact⟨hpx _ h6.1,hlt _ h6.2⟩
 have h5:=Int.mul_ediv_cancel' hgk
 rw[←h5,hD]at hk0
 exact⟨Int.ediv_nonneg (by rw[h5]at hk0;exact hk0.1) o_m,hlt _ hk0.2⟩
theorem divF_fit (h0:d≠0){qs:List (Int × Int)}(hS:Std qs)(k:Int)(hk:kind=3∨kind=4):Fit (divF kind d qs k):=by
 unfold divF
 have hD:(0:Int)<d.natAbs:=by omega
 refine divG_fit o_m (eachP_std hS) (fun q hq=> ?_) ⟨Int.emod_nonneg _ o_m,Int.emod_lt_of_pos _ hD⟩ hk
 obtain⟨p,_,rfl,hn⟩:=eachP_mem hq
 have h1:=Int.emod_nonneg p.2 (by omega:(d.natAbs:Int)≠0)
 have h2:=Int.emod_lt_of_pos p.2 hD
 simp only at hn ⊢
 omega
theorem formA_fit {a:Atm}(hS:Std qs)(h:formA kind d qs k= .inl a):Fit a:=by
 unfold formA at h
 by_cases h1:kind=0∨kind=1
 ·rw[if_pos h1]at h
  cases h
  exact .inl ⟨h1,rfl,rfl,rfl⟩
 rw[if_neg h1]at h
 by_cases h2:kind=2
 ·rw[if_pos h2]at h
  cases h
  exact lessF_fit hS k
 rw[if_neg h2]at h
 by_cases h3:kind=3∨kind=4
 ·rw[if_pos h3]at h
  by_cases h4:d=0
  ·rw[if_pos h4]at h;cases h
  rw[if_neg h4]at h
  cases h
  exact divF_fit h4 hS k h3
 rw[if_neg h3]at h;cases h
theorem div_one (h:Std qs):eachP (fun x=>x / ((1:Nat):Int)) qs=qs:=eachP_id h fun q _=>by simp
theorem Fit.std {a:Atm}(h:Fit a):Std a.ps:=by
 rcases h with⟨_,_,h,_⟩|⟨_,_,h,_⟩|⟨_,h,_⟩
 ·rw[h];exact std_nil
 ·exact h
 exact h.std
theorem Fit.again {a:Atm}(h:Fit a):formA a.kind a.d a.ps a.k= .inl a:=by
 obtain⟨kind,d,ps,k⟩:=a
 unfold formA
 rcases h with⟨h1,h2,h3,h4⟩|⟨h1,h2,h3,h4,h5⟩|⟨h1,h2,h3⟩
 ·simp only at h1 h2 h3 h4
  subst h2 h3 h4
  rw[if_pos h1]
 ·simp only at h1 h2 h3 h4 h5
  subst h1 h2
  rw[if_neg (by simp),if_pos rfl]
  unfold lessF
  rw[if_neg h4,h5,div_one h3]
  simp
 simp only at h1 h2 h3
 have hD:=h2.two
 rw[if_neg (by rcases h1 with rfl|rfl <;> simp),if_neg (by rcases h1 with rfl|rfl <;> simp),if_pos h1,if_neg (by show ¬d=0;omega)]
 have hDn:(d.natAbs:Int)=d:=by omega
 unfold divF
 rw[hDn,eachP_id h2.std (fun q hq=>Int.emod_eq_of_lt (by have:=h2.rng q hq;omega) (h2.rng q hq).2),Int.emod_eq_of_lt h2.kr.1 h2.kr.2]
 unfold divG
 rw[h2.one,if_neg (by simp[Int.one_dvd]),hDn]
 simp only[Int.natCast_one,Int.ediv_one]
 rw[if_neg o_m,show eachP (fun x=>x) ps=ps from eachP_id h2.std fun q _=>rfl]
 unfold fstF
 rw[if_neg h3]
end Go.Proofs.YtbgpddlcfiiiaaaGreatDoor.At

namespace Go.Proofs.YtbgpddlcfiiiaaaGreatDoor
open Go.RowKit Go.Sort Go.Shelf
open Tm At

theorem PB.below9 {w w':World}{b:Nat}{v:Int}{s:Bool}{a:Option Addr}{l c:Nat}(h:PB w b v s a l c)(hb:Below w.heap.size w w'):PB w' b v s a l c:=(hb.block b h.lt).trans h

theorem each_n {w:World}{ad:Option Addr}{n cp:Nat}{s:Bool}{a:Option Addr}{l c:Nat}{ps:List (Int × Int)}{k:Int}{B C kf:Nat}{lb:Array Value}{F:Int→Int}(eg: ∀args w,(callFunc kf args).run Tryz.prog w= .ok (.enter kf args) w)
  (hf: ∀w' s a l c z,Below w.heap.size w w'→Zm w' s a l c z→l≤B→Calls Tryz.prog kf (#[.agg #[.bool s,.slice a l c]]++lb) w' fun e w''=> ∃s' a' l' c',e= .returned (.agg #[.bool s',.slice a' l' c'])∧Zn w'' s' a' l' c' (F z)∧Below w'.heap.size w' w''∧l'≤C)
  (hP:Pr w ad n ps B)(hz:Zm w s a l c k)(hl:l≤B)(hn:n≤268435456)(hC:C≤1099511627776):
  Calls Tryz.prog 129 #[.agg #[.slice ad n cp,.bool s,.slice a l c],.func (.func kf) #[] lb] w fun e w'=> ∃ad' n' cp' s' a' l' c',e= .returned (.agg #[.slice ad' n' cp',.bool s',.slice a' l' c'])∧Pn w' ad' n' (eachP F ps) C∧Zn w' s' a' l' c' (F k)∧l'≤C∧n'≤n∧(∀b off,ad'=some ⟨b,off,none⟩→w.heap.size≤b)∧Below w.heap.size w w':=by
 go_enter Tryz.func129,Tryz.ntmps129
 go_wp2_with fail
 have x:=(tb_new w ad n cp s a l c).below (below_alloc _ (.cells #[.slice none 0 0,.bool false,.slice none 0 0] 28))
 have y:=tb_new (w.alloc (.cells #[.slice ad n cp,.bool s,.slice a l c] 28)) none 0 0 false none 0 0
 have b0:Below w.heap.size w ((w.alloc (.cells #[.slice ad n cp,.bool s,.slice a l c] 28)).alloc (.cells #[.slice none 0 0,.bool false,.slice none 0 0] 28)):=below_alloc' (below_alloc _ _) _
 rw[show(w.alloc (.cells #[.slice ad n cp,.bool s,.slice a l c] 28)).heap.size=w.heap.size+1 from by simp]at y
 generalize (w.alloc (.cells #[.slice ad n cp,.bool s,.slice a l c] 28)).alloc (.cells #[.slice none 0 0,.bool false,.slice none 0 0] 28)=wb at*
 replace hP:=hP.below b0
 replace hz:=hz.below b0
 have hf2:Hid (∀w' s a l c z,Below wb.heap.size wb w'→Zm w' s a l c z→l≤B→Calls Tryz.prog kf (#[.agg #[.bool s,.slice a l c]]++lb) w' fun e w''=> ∃s' a' l' c',e= .returned (.agg #[.bool s',.slice a' l' c'])∧Zn w'' s' a' l' c' (F z)∧Below w'.heap.size w' w''∧l'≤C):=(fun w' s a l c z h=>hf w' s a l c z (grow_step h b0))
 clear hf
 generalize hp:w.heap.size=p at*
 replace b0:Hid (Below w.heap.size w wb):=hp▸b0
 have hpr:Hid (w.heap.size=p∧p<p+1):=⟨hp,by omega⟩
 clear hp
 generalize p+1=r at*
 obtain⟨hps,hP⟩:=hP
 go_loopw [5,12] (fun v i wr=> ∃(t:Nat) (ad3:Option Addr) (n3 cap3:Nat) (L3:List Raw),t≤n∧i= .int .i64 t∧v= .slice ad3 n3 cap3∧Hid (RS wb.heap.size wr (.slice ad3 n3 cap3) n3 cap3 L3)∧Hid (Rok wr C L3)∧Hid ((L3.take n3).map Raw.p=eachP F (ps.take t))∧n3≤t∧Hid (Below wb.heap.size wb wr)) (fun _ i _=>n-(intOf i).toNat)
 case atStart=>exact⟨0,none,0,0,[],Nat.zero_le _,rfl,rfl,.inl ⟨rfl,rfl,rfl,rfl⟩,(fun x hx=>absurd hx (by simp)),(show _=_ from rfl),by omega,Below.refl _ _⟩
 case round=>
  obtain⟨t,ad3,n3,cap3,L3,ht,rfl,rfl,hR3,hok3,hea,hn3,kr⟩:=hrel
  by_cases htn:t<n
  ·rcases hP with hP|⟨bp,op,rfl,hP⟩
   ·omega
   obtain⟨s2,a2,l2,c2,e0,e1,e2,hz2,hl2,hv⟩:=(hP.below kr.out).2 t o_m
   have hstep:Hid (eachP F (ps.take (t+1))=eachP F (ps.take t)++if F (ps[t]).2=0 then []else [((ps[t]).1,F (ps[t]).2)]):=(show _=_ by rw[List.take_succ_eq_append_getElem (l:=ps) (i:=t) o_m,eachP_snoc])
   generalize ps[t]=pp at*
   obtain⟨pv,pz⟩:=pp
   dsimp only at*
   have pb:PB (wr.alloc (.cells #[.int .i64 pv,.bool s2,.slice a2 l2 c2] 117)) wr.heap.size pv s2 a2 l2 c2:=pb_new wr pv s2 a2 l2 c2
   have ka:=below_alloc wr (.cells #[.int .i64 pv,.bool s2,.slice a2 l2 c2] 117)
   have kb:=hide (grow_step ka kr.out)
   have hcall:=hide (hf2.out _ s2 a2 l2 c2 pz kb.out (hz2.below ka) hl2)
   have hR4:=hide (hR3.out.below ka)
   have hok4:=hide (hok3.out.below ka)
   clear ka
   go_wp2_with fail
   refine hcall.out.mono ?_
   rintro e w5 ⟨s5,a5,l5,c5,rfl,hz5,k5,hl5⟩
   have kc:=hide (below_alloc w5 (.cells #[.bool s5,.slice a5 l5 c5] 26))
   have cb:=zb_new w5 s5 a5 l5 c5
   have k6:=hide (grow_step kc.out (grow_step k5 kb.out))
   have hz6:=hide (hz5.below kc.out)
   have pb6:=(pb.below9 k5).below9 kc.out
   have hR6:=hide ((hR4.out.below k5).below kc.out)
   have hok6:=hide ((hok4.out.below k5).below kc.out)
   clear k5 kb hz5 pb hR4 hok4 hcall hR3 hok3
   replace cb:=hide cb
   replace pb6:=hide pb6
   go_wp2_with fail
   refine(zsign_n hz6.out.zm o_m).mono ?_
   rintro e w7 ⟨rfl,k7⟩
   have cb7:=cb.out.below k7
   have pb7:=pb6.out.below9 k7
   have hz7:=hide (hz6.out.below k7)
   have hR7:=hide (hR6.out.below k7)
   have hok7:=hide (hok6.out.below k7)
   replace k7:=hide (grow_step k7 k6.out)
   clear hz6 hR6 hok6 k6 cb pb6 kc
   generalize w5.heap.size=qc at*
   generalize wr.heap.size=qp at*
   by_cases hz0:F pz=0
   ·have hea':Hid ((L3.take n3).map Raw.p=eachP F (ps.take (t+1))):=(show _=_ by rw[hstep.out,hea.out];simp[hz0])
    rw[hz0,show cmpI 0 0=0 from rfl]
    go_wp2_with fail
    exact⟨⟨t+1,ad3,n3,cap3,L3,by omega,by go_num,rfl,hR7,hok7,hea',by omega,k7⟩,by simp[intOf];omega⟩
   have hc:cmpI (F pz) 0≠0:=by unfold cmpI;split <;> (try split) <;> omega
   generalize cmpI (F pz) 0=cz at*
   have t0:=pb7.c0
   have u0:=cb7.c0
   have u1:=cb7.c1
   have hcq:=cb7.lt
   have hpq:=pb7.lt
   have kz:=below_alloc w7 (.cells #[.int .i64 pv,.bool s5,.slice a5 l5 c5] 117)
   have happ:=hide (run_append_rs (w0:=wb) (hR7.out.below kz) (grow_step kz k7.out) ⟨pv,s5,a5,l5,c5,F pz⟩ ⟨w7.heap.size,0,none⟩ (v3_new w7 pv s5 a5 l5 c5) o_m)
   replace kz:=hide kz
   go_wp2_with(at_builtin;refine wpList_append_run rfl _ _ 23 rfl _ _ rfl rfl _ (happ.out _) ?_;rintro v5 w8 ⟨cap5,L5,hR5,htk,hmem,hb5,hg5,-⟩;obtain⟨ad5,rfl⟩:=hR5.row;replace hR5:=hide hR5;replace hmem:=hide hmem;replace hb5:=hide hb5;replace hg5:=hide hg5;replace htk:=hide htk)
   have ok5:Hid (Rok w8 C L5):=fun y hy=>by
    rcases hmem.out y hy with h|rfl|rfl
    ·exact⟨(hR7.out.below kz.out).zn hg5.out ((hok7.out y h).1.below kz.out),(hok7.out y h).2⟩
    ·exact⟨(hR7.out.below kz.out).zn hg5.out (hz7.out.below kz.out),hl5,hv⟩
    exact zr_ok _ _
   have hea':Hid ((L5.take (n3+1)).map Raw.p=eachP F (ps.take (t+1))):=(show _=_ by rw[htk.out,List.map_append,hea.out,hstep.out];simp[Raw.p,hz0])
   exact⟨⟨t+1,ad5,n3+1,cap5,L5,by omega,by go_num,rfl,hR5,ok5,hea',by omega,hb5⟩,by simp[intOf];omega⟩
  obtain rfl:t=n:=by omega
  rw[List.take_of_length_le (Nat.le_of_eq hps)]at hea
  have xr:=x.below kr.out
  have yr:=y.below kr.out
  have x1:=xr.c1
  have x2:=xr.c2
  have hcall:=hide (hf2.out wr s a l c k kr.out (hz.below kr.out) hl)
  go_wp2_with fail
  refine hcall.out.mono ?_
  rintro e w5 ⟨s5,a5,l5,c5,rfl,hz5,k5,hl5⟩
  have y5:=yr.below k5
  have y0:=y5.c0
  have y1:=y5.c1
  have y2:=y5.c2
  have y3:=y5.f 0
  have y4:=y5.f 1
  have y6:=y5.f 2
  have g:=tb_set w5 r (.slice ad3 n3 cap3) (.bool s5) (.slice a5 l5 c5)
  have hzf:=hide (hz5.grownU g (tb_noU y5))
  have hRf:=hide ((hR3.out.below k5).grown g y.lt)
  have hokf:=hide ((hok3.out.below k5).grownU g (tb_noU y5))
  have kf:=hide (below_grown (grow_step (grow_step k5 kr.out) b0.out) g (by have:=hpr.out;omega))
  clear g k5 hcall x1 x2
  go_wp2
  refine bodyPost_ret (results_cell_row rfl _ _ r 28 _ (0,0) _ rfl (tb_fin y5 ad3 n3 cap3 s5 a5 l5 c5) Tryz.underlying28 rfl k_f) rfl ?_
  have hpn:=rs_pn hRf.out hokf.out
  rw[hea.out]at hpn
  have hnew: ∀b off,ad3=some ⟨b,off,none⟩→w.heap.size≤b:=fun b off e=>by
   rcases hRf.out with⟨h1,_⟩|⟨g,h1,hg,_⟩
   ·simp at h1
    rw[h1.1]at e
    cases e
   simp at h1
   rw[h1]at e
   simp at e
   have:=b0.out.size
   omega
  exact⟨ad3,n3,cap3,s5,a5,l5,c5,by simp,hpn,hzf.out,hl5,by omega,hnew,kf.out⟩
end Go.Proofs.YtbgpddlcfiiiaaaGreatDoor

namespace Go.Proofs.YtbgpddlcfiiiaaaGreatDoor.At
open Tm

variable {qs:List (Int × Int)}{d kind k:Int}{a:Atm}
theorem nodup_len : ∀{l m:List Int},l.Nodup→(∀x∈l,x∈m)→l.length≤m.length
 | [],_,_,_=>Nat.zero_le _
 |x::l,m,h,hs=>by
  obtain⟨h1,h2⟩:=List.nodup_cons.1 h
  have hx:=hs x (by simp)
  have h3:=nodup_len (l:=l) (m:=m.erase x) h2 fun y hy=>by
   have hy':=hs y (by simp[hy])
   exact(List.mem_erase_of_ne (fun(e:y=x)=>h1 (e▸hy))).2 hy'
  rw[List.length_erase_of_mem hx]at h3
  have hm:0<m.length:=List.length_pos_of_mem hx
  simp only[List.length_cons]
  omega
theorem std_len {ps:List (Int × Int)}(hS:Std qs)(hc: ∀v,csum qs v=csum ps v):qs.length≤ps.length:=by
 have h:=nodup_len (l:=qs.map Prod.fst) (m:=ps.map Prod.fst) (List.pairwise_map.2 (hS.1.imp fun h=>by omega)) fun x hx=>by
  obtain⟨q,hq,rfl⟩:=List.mem_map.1 hx
  have h0:csum ps q.1≠0:=by rw[←hc,std_csum_mem hS hq];exact hS.2 q hq
  obtain⟨p,hp,e⟩:=csum_mem h0
  exact List.mem_map.2 ⟨p,hp,e⟩
 simpa using h
def Prt (rs qs:List (Int × Int)):Prop:=rs.length≤qs.length∧∀v,csum rs v≠0→csum qs v≠0
theorem prt_nil (qs:List (Int × Int)):Prt [] qs:=⟨Nat.zero_le _,fun _ h=>absurd rfl h⟩
theorem prt_refl (qs:List (Int × Int)):Prt qs qs:=⟨Nat.le_refl _,fun _ h=>h⟩
theorem prt_each {F:Int→Int}(hS:Std qs):Prt (eachP F qs) qs:=by
 refine⟨?_,fun v h=> ?_⟩
 ·unfold eachP
  exact Nat.le_trans (List.length_filter_le _ _) (by simp)
 obtain⟨p,hp,rfl⟩:=csum_mem h
 obtain⟨q,hq,e,-⟩:=eachP_mem hp
 rw[e]
 show csum qs q.1≠0
 rw[std_csum_mem hS hq]
 exact hS.2 q hq
theorem Prt.trans {rs ts:List (Int × Int)}(h1:Prt rs qs)(h2:Prt qs ts):Prt rs ts:=⟨Nat.le_trans h1.1 h2.1,fun v h=>h2.2 v (h1.2 v h)⟩
theorem prt_opp (hS:Std qs):Prt (oppP d qs) qs:=(prt_each (eachP_std hS)).trans (prt_each hS)
theorem fstF_prt {us:List (Int × Int)}(hS:Std us):Prt (fstF kind d us k).ps us:=by
 unfold fstF
 split
 ·exact prt_opp hS
 exact prt_refl us
theorem divG_prt {D:Nat}{ts:List (Int × Int)}(hS:Std ts):Prt (divG kind D ts k).ps ts:=by
 unfold divG
 split
 ·exact prt_nil _
 split
 ·exact prt_nil _
 exact(fstF_prt (eachP_std hS)).trans (prt_each hS)
theorem lessF_prt (hS:Std qs):Prt (lessF qs k).ps qs:=by
 unfold lessF
 split
 ·exact prt_nil _
 exact prt_each (F:=fun x=>x / ((gcdL 0 qs:Nat):Int)) hS
theorem formA_prt (hS:Std qs)(h:formA kind d qs k= .inl a):Prt a.ps qs:=by
 unfold formA at h
 by_cases h1:kind=0∨kind=1
 ·rw[if_pos h1]at h
  cases h
  exact prt_nil _
 rw[if_neg h1]at h
 by_cases h2:kind=2
 ·rw[if_pos h2]at h
  cases h
  exact lessF_prt hS
 rw[if_neg h2]at h
 by_cases h3:kind=3∨kind=4
 ·rw[if_pos h3]at h
  by_cases h4:d=0
  ·rw[if_pos h4]at h;cases h
  rw[if_neg h4]at h
  cases h
  exact(divG_prt (eachP_std hS)).trans (prt_each hS)
 rw[if_neg h3]at h;cases h
theorem Fit.kinds (h:Fit a):0≤a.kind∧a.kind≤4:=by
 rcases h with⟨h1,_⟩|⟨h1,_⟩|⟨h1,_⟩ <;> omega
theorem Fit.dpos (h:Fit a)(hk:a.kind=3∨a.kind=4):0<a.d:=by
 rcases h with⟨h1,_⟩|⟨h1,_⟩|⟨_,h2,_⟩
 ·omega
 ·omega
 have:=h2.two;omega
theorem Fit.form (h:Fit a)(qs:List (Int × Int))(k:Int): ∃f,formA a.kind a.d qs k= .inl f:=by
 unfold formA
 rcases h with⟨h1,_⟩|⟨h1,_⟩|⟨h1,h2,_⟩
 ·rw[if_pos h1];exact⟨_,rfl⟩
 ·rw[if_neg o_m,if_pos h1];exact⟨_,rfl⟩
 have:=h2.two
 rw[if_neg o_m,if_neg o_m,if_pos h1,if_neg o_m];exact⟨_,rfl⟩
end Go.Proofs.YtbgpddlcfiiiaaaGreatDoor.At

namespace Go.Proofs.YtbgpddlcfiiiaaaGreatDoor
open Go.RowKit Go.Sort Go.Shelf
open Tm

theorem own_move {w W:World}{base:Nat}{e:TypeId}{size:Nat}{v:Value}{n:Nat}{xs:List Value}(h:w.ownsRow base e size v n xs)(hW: ∀b,base≤b→b<w.heap.size→W.heap[b]? =w.heap[b]?):W.ownsRow base e size v n xs:=by
 obtain⟨h1,h2|⟨g,cap,cur,h2,h3,h4,h5⟩⟩:=h
 ·exact⟨h1,.inl h2⟩
 exact⟨h1,.inr ⟨g,cap,cur,h2,h3,(hW g h3 (Array.getElem?_eq_some_iff.1 h4).1).trans h4,h5⟩⟩
theorem append_valsS {w0 X:World}{q:Nat}{v:Int}{s:Bool}{a:Option Addr}{l c:Nat}{z:Int}{ad:Option Addr}{n cp:Nat}{vs:List (Int × Int)}{B:Nat}(hq:X.heap.size=q)(hl:l≤B)(hv:I64 v)(hV:Pr w0 ad n vs B)(k0:Below w0.heap.size w0 X)(hn:n≤1073741824)(hcp:ad=none→n=0∧cp=0)(ty:TypeId):
  ∃v' w',(Builtin.append_ #[29,29] ty #[.slice (some ⟨q,0,none⟩) 1 1,.slice ad n cp]).run Tryz.prog (X.alloc (.cells #[.int .i64 v,.bool s,.slice a l c] 40))= .ok v' w'∧Below X.heap.size X w'∧∃ad' cp',v'= .slice ad' (1+n) cp'∧∀W,(∀b,X.heap.size≤b→b<w'.heap.size→W.heap[b]? =w'.heap[b]?)→Below w0.heap.size w0 W→Zm W s a l c z→Pr W ad' (1+n) ((v,z)::vs) B:=by
 subst hq
 obtain⟨i0,hi,hz0,hz1,hz2⟩:=info_parts infoV
 have hka:=below_alloc X (.cells #[.int .i64 v,.bool s,.slice a l c] 40)
 have hlit:=World.ownsRow_lit (base:=X.heap.size) (e:=40) (size:=3) X #[.int .i64 v,.bool s,.slice a l c] 1 (Nat.le_refl _) (by unfold maxLen;decide) (by simp)
 have hfin: ∀(rs:List Raw),rs.map Raw.p=vs→(∀x∈rs,x.okm w0 B)→∀(v':Value) (w':World),w'.ownsRow X.heap.size 40 3 v' (1+n) (([.int .i64 v,.bool s,.slice a l c]:List Value)++flat rs)→∃ad' cp',v'= .slice ad' (1+n) cp'∧∀W,(∀b,X.heap.size≤b→b<w'.heap.size→W.heap[b]? =w'.heap[b]?)→Below w0.heap.size w0 W→Zm W s a l c z→Pr W ad' (1+n) ((v,z)::vs) B:=by
  intro rs hrs hok v' w' hrow
  have e:(([.int .i64 v,.bool s,.slice a l c]:List Value)++flat rs)=flat (⟨v,s,a,l,c,z⟩::rs):=by simp[flat,Raw.enc]
  rw[e]at hrow
  obtain⟨_,⟨_,h2⟩|⟨g,cap,cur,rfl,_⟩⟩:=id hrow
  ·omega
  refine⟨_,_,rfl,fun W hW kW hzW=> ?_⟩
  obtain⟨ad',cp',h1,h2⟩:=row_pr (B:=B) (own_move hrow hW) (fun x hx=>by
   rcases List.mem_cons.1 hx with rfl|hx
   ·exact⟨hzW,hl,hv⟩
   obtain⟨g1,g2,g3⟩:=hok x hx
   exact⟨g1.below kW,g2,g3⟩)
  cases h1
  rw[List.map_cons,hrs]at h2
  exact h2
 cases ad with
 |none=>
  obtain⟨rfl,rfl⟩:=hcp rfl
  have hvs:vs= []:=List.eq_nil_of_length_eq_zero hV.1
  subst hvs
  have hr:=run_append_owned_none (P:=Tryz.prog) (X.alloc (.cells #[.int .i64 v,.bool s,.slice a l c] 40)) X.heap.size 29 ty 40 i0 3 Tryz.underlying29 hi _ 1 _ hlit
  exact⟨_,_,hr,hka,hfin [] rfl (fun x hx=>by cases hx) _ _ (by simpa [flat] using hlit)⟩
 |some ad=>
  have hraw: ∃rs:List Raw,rs.map Raw.p=vs∧(∀x∈rs,x.okm w0 B)∧(flat rs).length=n*3∧∀j u,(flat rs)[j]? =some u→(X.alloc (.cells #[.int .i64 v,.bool s,.slice a l c] 40)).cell? (ad.add j)=some u:=by
   rcases hV.2 with h0|⟨b,off,e,hPL⟩
   ·have hvs:vs= []:=List.eq_nil_of_length_eq_zero (by rw[hV.1];exact h0)
    subst hvs
    exact⟨[],rfl,fun x hx=>(by cases hx),by rw[h0];rfl,fun j u hu=>by simp[flat]at hu⟩
   cases e
   obtain⟨rs,h1,h2,h3⟩:=pl_raw hPL
   refine⟨rs,h1,h2,by rw[flat_length,←hV.1,←h1,List.length_map],fun j u hu=> ?_⟩
   rw[Addr.add_lit]
   exact((below_alloc' k0 (.cells #[.int .i64 v,.bool s,.slice a l c] 40)).cell (p:=⟨b,off+j,none⟩) hPL.1).trans (h3 j u hu)
  obtain⟨rs,h1,h2,h3,h4⟩:=hraw
  obtain⟨v',w',hr,hrow,hgr,-⟩:=run_append_own (P:=Tryz.prog) (X.alloc (.cells #[.int .i64 v,.bool s,.slice a l c] 40)) X.heap.size 29 ty 40 i0 _ 3 40 Tryz.underlying29 hi hz0 hz1 hz2 rfl (by decide) _ 1 _ hlit ad n cp (flat rs) h3 h4 (fun u hu=>by
   obtain⟨x,_,hx⟩:=List.mem_flatMap.1 hu
   exact v3_one _ _ _ _ _ u hx) (by unfold maxLen;omega) o_m (by simp)
  have hb:Below X.heap.size X w':=hka.grown hgr hka.size (fun k e=>by cases e;exact Nat.le_refl _)
  exact⟨v',w',hr,hb,hfin rs h1 h2 v' w' hrow⟩
end Go.Proofs.YtbgpddlcfiiiaaaGreatDoor
