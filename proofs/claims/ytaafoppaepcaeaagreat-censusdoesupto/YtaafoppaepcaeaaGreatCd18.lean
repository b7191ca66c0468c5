/-
 Several texts in one: PdX,PdY,PdZ,Cr2,Cr3,PdZ1,PdZ2,PdZ3,PdZ4,PdZ5,PdZ6,Pe0,Pe1.
-/
import Derived.Test.YtaafoppaepcaeaaGreatCdT
import Derived.Test.YtaafoppaepcaeaaGreatCd17
import Derived.Laws.EntriesVeiled
import Derived.Test.YtaafoppaepcaeaaGreatCd09
import Derived.Deep.DeepCutAuto
import Derived.Test.YtaafoppaepcaeaaGreatCd00
import Derived.Test.YtaafoppaepcaeaaGreatCd15
set_option maxRecDepth 100000
set_option maxHeartbeats 12800000
namespace Go.Proofs.YtaafoppaepcaeaaGreat
open Go.RowKit
namespace Pd

theorem catMost_n {w:World}{z:ZV}{x:Int}(h:Zm w z.s z.a z.l z.c x)(hl:z.l≤1099511627776)(h1:0≤x){bd:Nat}(h2:bd≤8192):Calls Tryz.prog 121 #[.agg #[.bool z.s,.slice z.a z.l z.c],.int .i64 bd] w fun e w'=>e= .returned (.int .i64 (if x<bd then x else bd))∧Below w.heap.size w w':=by
 have b0:=below_alloc w (.cells #[.bool z.s,.slice z.a z.l z.c] 38)
 have y0:=zb_new w z.s z.a z.l z.c
 have q0:=y0.c0
 have q1:=y0.c1
 have hz:=hide (h.below b0)
 replace b0:=hide b0
 clear y0 h
 by_cases hb:x≤9223372036854775807
 ·have hi:=hide (zint64_in hz.out hl o_m hb)
  by_cases hx:x<bd
  ·have hgt:decide (x<(bd:Int))=true:=by rw[decide_eq_true_eq];omega
   rw[if_pos hx]
   go_enter Tryz.func121,Tryz.ntmps121
   go_wp2_with fail
   refine hi.out.mono ?_
   rintro e w1 ⟨rfl,k1⟩
   have kf:=hide (grow_step k1 b0.out)
   clear hi k1 q0 q1
   go_wp2
   exact bodyPost_ret (results_tmp rfl _ _ _) rfl ⟨rfl,kf.out⟩
  have hgt:decide (x<(bd:Int))=false:=by rw[decide_eq_false_iff_not];omega
  rw[if_neg hx]
  go_enter Tryz.func121,Tryz.ntmps121
  go_wp2_with fail
  refine hi.out.mono ?_
  rintro e w1 ⟨rfl,k1⟩
  have kf:=hide (grow_step k1 b0.out)
  clear hi k1 q0 q1
  go_wp2
  exact bodyPost_ret (results_tmp rfl _ _ _) rfl ⟨rfl,kf.out⟩
 have hi:=hide (zint64_out hz.out hl (.inr o_m))
 rw[if_neg o_m]
 go_enter Tryz.func121,Tryz.ntmps121
 go_wp2_with fail
 refine hi.out.mono ?_
 rintro e w1 ⟨rfl,k1⟩
 have kf:=hide (grow_step k1 b0.out)
 clear hi k1 q0 q1
 go_wp2
 exact bodyPost_ret (results_tmp rfl _ _ _) rfl ⟨rfl,kf.out⟩
theorem cby1_n {w:World}{b:Nat}{z y:ZV}{x k:Int}(hb:ZB w b y.s y.a y.l y.c)(hz:Zm w z.s z.a z.l z.c x)(hk:Zm w y.s y.a y.l y.c k)(hl:z.l≤1099511627776)(hl2:y.l≤1099511627776):
  Calls Tryz.prog 122 (#[.agg #[.bool z.s,.slice z.a z.l z.c]]++ #[.pointer (some ⟨b,0,none⟩)]) w fun e w'=> ∃s' a' l' c',e= .returned (.agg #[.bool s',.slice a' l' c'])∧Zn w' s' a' l' c' (x+k)∧Below w.heap.size w w'∧l'≤max z.l y.l+1:=by
 show Calls Tryz.prog 122 #[.agg #[.bool z.s,.slice z.a z.l z.c],.pointer (some ⟨b,0,none⟩)] w _
 go_enter Tryz.func122,Tryz.ntmps122
 have y0:=hb.c0
 have y1:=hb.c1
 have hbl:=hb.lt
 go_wp2_with fail
 have r0:=zb_new (w.alloc (.cells #[.bool z.s,.slice z.a z.l z.c] 38)) false none 0 0
 have b0:Below w.heap.size w ((w.alloc (.cells #[.bool z.s,.slice z.a z.l z.c] 38)).alloc (.cells #[.bool false,.slice none 0 0] 38)):=below_alloc' (below_alloc _ _) _
 rw[show(w.alloc (.cells #[.bool z.s,.slice z.a z.l z.c] 38)).heap.size=w.heap.size+1 from by simp]at r0
 generalize (w.alloc (.cells #[.bool z.s,.slice z.a z.l z.c] 38)).alloc (.cells #[.bool false,.slice none 0 0] 38)=wb at*
 have hr:w.heap.size≤w.heap.size+1:=by omega
 generalize w.heap.size+1=r at*
 refine(zadd_n (hz.below b0) (hk.below b0) hl hl2).mono ?_
 rintro e w1 ⟨s',a',l',c',rfl,hz1,k1,hl1⟩
 have r1:=r0.below k1
 have r2:=r1.c0
 have r3:=r1.c1
 have r4:=r1.f 0
 have r5:=r1.f 1
 have hzf:=hide (zb_zn r1 hz1 s' a' l' c')
 have kf:=hide (((grow_step k1 b0).setCell (p:=⟨r,0,none⟩) hr (.bool s')).setCell (p:=⟨r,1,none⟩) hr (.slice a' l' c'))
 clear y0 y1 k1 b0
 go_wp2
 refine bodyPost_ret (results_cell_row rfl _ _ r 38 _ (0,0) _ rfl (zb_fin r1 s' a' l' c') Tryz.underlying38 rfl k_f) rfl ?_
 exact⟨s',a',l',c',by simp,hzf.out,kf.out,hl1⟩
theorem cby_n (k:Int)(h0: -9223372036854775808≤k)(h1:k≤9223372036854775807)(w:World):
  Calls Tryz.prog 74 #[.int .i64 k] w fun e w'=> ∃b y,e= .returned (.func (.func 122) #[] #[.pointer (some ⟨b,0,none⟩)])∧ZB w' b (ZV.s y) y.a y.l y.c∧Zm w' y.s y.a y.l y.c k∧y.l≤2∧Below w.heap.size w w':=by
 have hof:=hide (zof_n k h0 h1 w)
 go_enter Tryz.func74,Tryz.ntmps74
 go_wp2_with fail
 refine hof.out.mono ?_
 rintro e w1 ⟨s,a,l,c,rfl,hz,k1,hl⟩
 have b2:=below_alloc w1 (.cells #[.bool s,.slice a l c] 38)
 have y2:=hide (zb_new w1 s a l c)
 have hz2:=hide (hz.zm.below b2)
 have kf:=hide (grow_step b2 k1)
 clear hof hz k1 b2
 go_wp2
 exact bodyPost_ret (results_tmp rfl _ _ _) rfl ⟨_,⟨s,a,l,c⟩,rfl,y2.out,hz2.out,hl,kf.out⟩
end Pd
end Go.Proofs.YtaafoppaepcaeaaGreat

namespace Go.Proofs.YtaafoppaepcaeaaGreat
open Go.RowKit Go.Sort
namespace Pd

def Fnd (w':World)(en:Ending)(f:Int→Bool)(x k:Int)(n B:Nat):Prop:=
 (∃j z,j<n∧(∀i:Nat,i<j→f (x+i*k)=false)∧f (x+j*k)=true∧en= .returned (.tuple #[.agg #[.bool (ZV.s z),.slice z.a z.l z.c],.bool true])∧Zn w' z.s z.a z.l z.c (x+j*k)∧z.l≤B)∨
 ((∀i:Nat,i<n→f (x+i*k)=false)∧en= .returned (.tuple #[.agg #[.bool false,.slice none 0 0],.bool false]))
theorem among_n {w:World}{bS b n:Nat}{D:PD}{z y:ZV}{x k:Int}(hS:PS w bS D)(hf:D.cs.length≤1073741823)(hz:Zm w z.s z.a z.l z.c x)(hb:ZB w b y.s y.a y.l y.c)(hk:Zm w y.s y.a y.l y.c k)(hl:z.l≤17179869184)(hl2:y.l≤2)(hn:n≤4096):
  Calls Tryz.prog 120 #[.pointer (some ⟨bS,0,none⟩),.agg #[.bool z.s,.slice z.a z.l z.c],.int .i64 n,.func (.func 122) #[] #[.pointer (some ⟨b,0,none⟩)]] w fun e w'=>Below w.heap.size w w'∧Fnd w' e (mem D) x k n (z.l+8192):=by
 have eg: ∀args w,(callFunc 122 args).run Tryz.prog w= .ok (.enter 122 args) w:=enters_of Tryz.func122 k_f rfl
 have b1:=below_alloc w (.cells #[.bool z.s,.slice z.a z.l z.c] 38)
 have b2:=below_alloc (w.alloc (.cells #[.bool z.s,.slice z.a z.l z.c] 38)) (.cells #[.bool false,.slice none 0 0] 38)
 have y1:=(zb_new w z.s z.a z.l z.c).below b2
 have y2:=zb_new (w.alloc (.cells #[.bool z.s,.slice z.a z.l z.c] 38)) false none 0 0
 rw[show(w.alloc (.cells #[.bool z.s,.slice z.a z.l z.c] 38)).heap.size=w.heap.size+1 by simp]at y2
 have k0:=hide (grow_step b2 b1)
 have hz0:=hide (hz.below k0.out)
 replace y1:=hide y1
 replace y2:=hide y2
 replace hS:=hide hS
 replace hb:=hide hb
 replace hk:=hide hk
 clear b1 b2 hz
 go_enter Tryz.func120,Tryz.ntmps120
 go_upto_region 1 with(fail)
 generalize (w.alloc (.cells #[.bool z.s,.slice z.a z.l z.c] 38)).alloc (.cells #[.bool false,.slice none 0 0] 38)=w0 at*
 obtain⟨bx,hbx⟩: ∃bx,w.heap.size=bx:=⟨_,rfl⟩
 rw[hbx]at y1 y2 ⊢
 have hbw:Hid (w.heap.size=bx):=hide hbx
 clear hbx
 go_wp2_with fail
 go_loopw [11] (fun vi wr=> ∃(i:Nat) (q:ZV),i≤n∧vi= .int .i64 i∧ZB wr bx q.s q.a q.l q.c∧ZB wr (bx+1) false none 0 0∧Zm wr q.s q.a q.l q.c (x+i*k)∧q.l≤z.l+i+2∧(∀j:Nat,j<i→mem D (x+j*k)=false)∧Below w.heap.size w wr) (fun vi _=>n-(intOf vi).toNat)
 case atStart=>exact⟨0,z,Nat.zero_le _,rfl,y1.out,y2.out,by simpa using hz0.out,by omega,fun j h=>by omega,k0.out⟩
 case round=>
  obtain⟨i,q,hi,rfl,yx,yr,hq,hql,hno,kr⟩:=hrel
  by_cases hin:i<n
  ·have q0:=yx.c0
   have q1:=yx.c1
   have hbl:=yx.lt
   have hbl2:=yr.lt
   have hh:=hide (sHas_n (y:=q) (hS.out.below kr) hf hq o_m)
   replace hno:=hide hno
   go_wp2_with fail
   refine hh.out.mono ?_
   rintro e w1 ⟨rfl,k1⟩
   have yx1:=yx.below k1
   have yr1:=yr.below k1
   have hq1:=hq.below k1
   have kr1:=hide (grow_step k1 kr)
   have p0:=yx1.c0
   have p1:=yx1.c1
   clear hh q0 q1 k1 kr yx yr hq
   cases hm:mem D (x+i*k)with
   |true=>
    have hnm:=hide (norm_n hq1 o_m)
    go_wp2_with fail
    refine hnm.out.mono ?_
    rintro e w2 ⟨s2,a2,l2,c2,rfl,hz2,k2,hl3⟩
    have yr2:=yr1.below k2
    have f0:=yr2.c0
    have f1:=yr2.c1
    have f2:=yr2.f 0
    have f3:=yr2.f 1
    have hzf:=hide (zb_zn yr2 hz2 s2 a2 l2 c2)
    have kf:Hid (Below w.heap.size w _):=hide (((grow_step k2 kr1.out).setCell (p:=⟨bx+1,0,none⟩) (show w.heap.size≤bx+1 by have:=hbw.out;omega) (.bool s2)).setCell (p:=⟨bx+1,1,none⟩) (show w.heap.size≤bx+1 by have:=hbw.out;omega) (.slice a2 l2 c2))
    have hfin:=hide (zb_fin yr2 s2 a2 l2 c2)
    replace hm:=hide hm
    clear hnm p0 p1 k2 yx1 yr1 hq1 yr2 hz2
    go_wp2
    refine bodyPost_ret (results_ct rfl _ _ (bx+1) 38 _ (0,0) _ rfl hfin.out Tryz.underlying38 rfl k_f) rfl ?_
    exact⟨kf.out,.inl ⟨i,⟨s2,a2,l2,c2⟩,hin,hno.out,hm.out,by simp,hzf.out,by show l2≤_;omega⟩⟩
   |false=>
    have hcb:=hide (cby1_n (b:=b) (hb.out.below kr1.out) hq1 (hk.out.below kr1.out) o_m o_m)
    go_wp2_with fail
    refine hcb.out.mono ?_
    rintro e w2 ⟨s2,a2,l2,c2,rfl,hz2,k2,hl3⟩
    have yx2:=yx1.below k2
    have yr2:=yr1.below k2
    have f0:=yx2.c0
    have f1:=yx2.c1
    have f2:=yx2.f 0
    have f3:=yx2.f 1
    have hzf:=hide (zb_zn yx2 hz2 s2 a2 l2 c2)
    have kf:Hid (Below w.heap.size w _):=hide (((grow_step k2 kr1.out).setCell (p:=⟨bx,0,none⟩) (show w.heap.size≤bx by have:=hbw.out;omega) (.bool s2)).setCell (p:=⟨bx,1,none⟩) (show w.heap.size≤bx by have:=hbw.out;omega) (.slice a2 l2 c2))
    have hfin:=hide (zb_fin yx2 s2 a2 l2 c2)
    have hres:=hide (yr2.only (only2 bx w2 (.bool s2) (.slice a2 l2 c2)) o_m)
    replace hm:=hide hm
    clear hcb p0 p1 k2 yx1 yr1 hq1 yr2 hz2 yx2
    go_wp2
    go_roundw
    case measure=>simp[intOf];omega
    case rel=>exact⟨i+1,⟨s2,a2,l2,c2⟩,by omega,by go_num,hfin.out,hres.out,by
     have:=hzf.out.zm
     rwa [show x+(i:Int)*k+k=x+((i+1:Nat):Int)*k by rw[Int.natCast_add,Int.add_mul];omega]at this,by show l2≤_;omega,fun j hj=>(by
      by_cases e:j=i
      ·subst e;exact hm.out
      exact hno.out j o_m),kf.out⟩
  obtain rfl:i=n:=by omega
  have f0:=yr.c0
  have f1:=yr.c1
  have f2:=yr.f 0
  have f3:=yr.f 1
  have kf:Hid (Below w.heap.size w _):=hide ((kr.setCell (p:=⟨bx+1,0,none⟩) (show w.heap.size≤bx+1 by have:=hbw.out;omega) (.bool false)).setCell (p:=⟨bx+1,1,none⟩) (show w.heap.size≤bx+1 by have:=hbw.out;omega) (.slice none 0 0))
  have hfin:=hide (zb_fin yr false none 0 0)
  replace hno:=hide hno
  clear kr yr yx hq
  go_wp2
  refine bodyPost_ret (results_ct rfl _ _ (bx+1) 38 _ (0,0) _ rfl hfin.out Tryz.underlying38 rfl k_f) rfl ?_
  exact⟨kf.out,.inr ⟨hno.out,by simp⟩⟩
end Pd
namespace Pd

variable {w' w:World}{f:Int→Bool}{x k d xi:Int}{n B b c:Nat}{ad:Option Addr}
def Nst (w':World)(en:Ending)(f:Int→Bool)(x d:Int)(B:Nat):Prop:=
 (∃v z,d*x≤d*v∧(∀u,d*x≤d*u→d*u<d*v→f u=false)∧f v=true∧en= .returned (.tuple #[.agg #[.bool (ZV.s z),.slice z.a z.l z.c],.bool true])∧Zn w' z.s z.a z.l z.c v∧z.l≤B)∨
 ((∀u,d*x≤d*u→f u=false)∧en= .returned (.tuple #[.agg #[.bool false,.slice none 0 0],.bool false]))
def Ff (w':World)(f:Int→Bool)(x k:Int)(n B:Nat)(z:ZV)(b:Bool):Prop:=
 (b=true→∃j:Nat,j<n∧(∀i:Nat,i<j→f (x+i*k)=false)∧f (x+j*k)=true∧Zn w' z.s z.a z.l z.c (x+j*k)∧z.l≤B)∧(b=false→(∀i:Nat,i<n→f (x+i*k)=false)∧z=⟨false,none,0,0⟩)
theorem fnd_one {en:Ending}(h:Fnd w' en f x k n B): ∃(z:ZV) (b:Bool),en= .returned (.tuple #[.agg #[.bool z.s,.slice z.a z.l z.c],.bool b])∧Ff w' f x k n B z b:=by
 rcases h with⟨j,z,h1,h2,h3,h4,h5,h6⟩|⟨h1,h2⟩
 ·exact⟨z,true,h4,fun _=>⟨j,h1,h2,h3,h5,h6⟩,fun e=>by cases e⟩
 exact⟨⟨false,none,0,0⟩,false,h2,fun e=>(by cases e),fun _=>⟨h1,rfl⟩⟩
theorem Ff.zn {w'':World}{z:ZV}{b:Bool}(h:Ff w' f x k n B z b)(hz: ∀s1 ad len cap v,Zn w' s1 ad len cap v→Zn w'' s1 ad len cap v):Ff w'' f x k n B z b:=
 ⟨fun e=>(by obtain⟨j,h1,h2,h3,h4,h5⟩:=h.1 e;exact⟨j,h1,h2,h3,hz _ _ _ _ _ h4,h5⟩),h.2⟩
theorem Ff.below {w'':World}{z:ZV}{b:Bool}(h:Ff w' f x k n B z b)(hb:Below w'.heap.size w' w''):Ff w'' f x k n B z b:=h.zn fun _ _ _ _ _ hz=>hz.below hb
theorem among_o {bS:Nat}{D:PD}{z y:ZV}(hS:PS w bS D)(hf:D.cs.length≤1073741823)(hz:Zm w z.s z.a z.l z.c x)(hb:ZB w b y.s y.a y.l y.c)(hk:Zm w y.s y.a y.l y.c k)(hl:z.l≤17179869184)(hl2:y.l≤2)(hn:n≤4096):
  Calls Tryz.prog 120 #[.pointer (some ⟨bS,0,none⟩),.agg #[.bool z.s,.slice z.a z.l z.c],.int .i64 n,.func (.func 122) #[] #[.pointer (some ⟨b,0,none⟩)]] w fun e w'=> ∃(z':ZV) (b':Bool),e= .returned (.tuple #[.agg #[.bool z'.s,.slice z'.a z'.l z'.c],.bool b'])∧Ff w' (mem D) x k n (z.l+8192) z' b'∧Below w.heap.size w w':=
 (among_n hS hf hz hb hk hl hl2 hn).mono fun _ _ ⟨h1,h2⟩=>by obtain⟨z',b',h3,h4⟩:=fnd_one h2;exact⟨z',b',h3,h4,h1⟩
theorem st_y {v:World}{s:Bool}{a:Option Addr}{l:Nat}(k:Below v.heap.size v w)(hb:v.heap.size≤b)(h:ZB w b s a l c)(s':Bool)(a':Option Addr)(l' c':Nat): ∃w8,Hid ((w.setCell ⟨b,0,none⟩ (.bool s')).setCell ⟨b,1,none⟩ (.slice a' l' c')=w8)∧ZB w8 b s' a' l' c'∧Below v.heap.size v w8∧∀s1 ad len cap z,Zn w s1 ad len cap z→Zn w8 s1 ad len cap z:=
 ⟨_,rfl,zb_fin h s' a' l' c',(k.setCell (p:=⟨b,0,none⟩) hb (.bool s')).setCell (p:=⟨b,1,none⟩) hb (.slice a' l' c'),fun _ _ _ _ _ hz=>zb_zn h hz _ _ _ _⟩
theorem cmp_sg (a:Int):(cmpI a 0= -1∧a<0)∨(cmpI a 0=0∧a=0)∨(cmpI a 0=1∧0<a):=by
 unfold cmpI
 split
 ·exact .inl ⟨rfl,by omega⟩
 split
 ·exact .inr (.inr ⟨rfl,by omega⟩)
 exact .inr (.inl ⟨rfl,by omega⟩)
theorem dir_mul (hd:d=1∨d= -1)(u:Int):d*(d*u)=u:=by
 rcases hd with rfl|rfl <;> omega
theorem dir_step (hd:d=1∨d= -1)(x:Int)(i:Nat):x+i*d=d*(d*x+i):=by
 rcases hd with rfl|rfl <;> omega
theorem dir_gap (hd:d=1∨d= -1)(x y:Int):d*(y-x)=d*y-d*x:=by
 rcases hd with rfl|rfl <;> omega
theorem nst_found {j:Nat}(hd:d=1∨d= -1)(hno: ∀u,d*x≤d*u→d*u<d*xi→f u=false)(hj: ∀i:Nat,i<j→f (xi+i*d)=false): ∀u,d*x≤d*u→d*u<d*(xi+j*d)→f u=false:=by
 intro u h1 h2
 by_cases h3:d*u<d*xi
 ·exact hno u h1 h3
 have h4:d*(xi+j*d)=d*xi+j:=by rcases hd with rfl|rfl <;> omega
 have:=hj (d*u-d*xi).toNat o_m
 have h5:xi+((d*u-d*xi).toNat:Int)*d=u:=by rcases hd with rfl|rfl <;> omega
 rwa [h5]at this
theorem nst_next {si:Int}{p:Nat}{S:List Int}(hd:d=1∨d= -1)(hsg:Sg (fun u=>f (d*u)) p S)(hp:1≤p)(hlt:d*xi<d*si)(hS: ∀t∈S,t≤d*xi∨d*si≤t)(hno: ∀u,d*x≤d*u→d*u<d*xi→f u=false)(hn:(if d*(si-xi)<(p:Int)then(d*(si-xi)).toNat else p)=n)(h0: ∀i:Nat,i<n→f (xi+i*d)=false): ∀u,d*x≤d*u→d*u<d*si→f u=false:=by
 intro u h1 h2
 by_cases h3:d*u<d*xi
 ·exact hno u h1 h3
 have:=sg_below hsg hp hlt hS (fun i hi=>by
  show f (d*(d*xi+i))=false
  rw[←dir_step hd]
  refine h0 i ?_
  rw[←hn,dir_gap hd]
  exact hi) (d*u) o_m h2
 have e:f (d*(d*u))=false:=this
 rwa [dir_mul hd]at e
theorem nst_none {p:Nat}{S:List Int}(hd:d=1∨d= -1)(hsg:Sg (fun u=>f (d*u)) p S)(hp:1≤p)(hS: ∀t∈S,t≤d*xi)(hno: ∀u,d*x≤d*u→d*u<d*xi→f u=false)(h0: ∀i:Nat,i<p→f (xi+i*d)=false): ∀u,d*x≤d*u→f u=false:=by
 intro u h1
 by_cases h3:d*u<d*xi
 ·exact hno u h1 h3
 have:=sg_above hsg hp hS (fun i hi=>by
  show f (d*(d*xi+i))=false
  rw[←dir_step hd]
  exact h0 i hi) (d*u) o_m
 have e:f (d*(d*u))=false:=this
 rwa [dir_mul hd]at e
theorem zm_var {r l:Nat}{s:Bool}{a:Option Addr}{s1:Bool}{len cap:Nat}{z:Int}(y:ZB w r s a l c)(h:Zm w s1 ad len cap z)(s':Bool)(a':Option Addr)(l' c':Nat):
  Zm ((w.setCell ⟨r,0,none⟩ (.bool s')).setCell ⟨r,1,none⟩ (.slice a' l' c')) s1 ad len cap z:=by
 obtain⟨n,h1,h2⟩:=h
 exact⟨n,zb_nm y (only2 r w _ _) h1,h2⟩
def SN (w:World)(ad:Option Addr)(n:Nat)(xs:List Int):Prop:=
 xs.length=n∧∀i (_:i<n) (h:i<xs.length),∃b off z,ad=some ⟨b,off,none⟩∧b<w.heap.size∧w.cell? ⟨b,off+i*2,none⟩=some (.bool (ZV.s z))∧w.cell? ⟨b,off+i*2+1,none⟩=some (.slice z.a z.l z.c)∧Zm w z.s z.a z.l z.c xs[i]∧z.l≤8589934592
theorem SN.below {xs:List Int}(h:SN w ad n xs)(k:Below w.heap.size w w'):SN w' ad n xs:=by
 refine⟨h.1,fun i hi hi'=> ?_⟩
 obtain⟨b,off,z,e,hb,h1,h2,h3,h4⟩:=h.2 i hi hi'
 exact⟨b,off,z,e,Nat.lt_of_lt_of_le hb k.size,(k.cell (p:=⟨b,_,none⟩) hb).trans h1,(k.cell (p:=⟨b,_,none⟩) hb).trans h2,h3.below k,h4⟩
theorem CL.sn {xs:List Int}(h:CL w ad n c xs):SN w ad n xs:=
 ⟨h.len,fun i hi hi'=>by
  obtain⟨b,off,z,e,hb,h1,h2,h3⟩:=h.get hi hi'
  exact⟨b,off,z,e,hb,h1,h2,h3.zm,Nat.le_trans h3.le (by decide)⟩⟩
theorem nearest_n {bS sc KG LL:Nat}{gc:Array Value}{sa:Option Addr}{D:PD}{z y:ZV}{ss:List Int}(hS:PS w bS D)(hf:D.cs.length≤1073741823)(hz:Zm w z.s z.a z.l z.c x)(hl:z.l≤LL)(hLL:8589934592≤LL)(hLL2:LL≤17179869184)(hb:ZB w b y.s y.a y.l y.c)(hk:Zm w y.s y.a y.l y.c d)(hl2:y.l≤2)(hd:d=1∨d= -1)
  (hst:SN w sa n ss)(hn:n≤1073741823)(hsg:Sg (fun u=>mem D (d*u)) D.p (ss.map fun s=>d*s))(hup: ∀i j (hi:i<ss.length) (hj:j<ss.length),i<j→d*ss[i]<d*ss[j])
  (hgap: ∀{w:World}{z1 z2:ZV}{x1 x2:Int},Zm w z1.s z1.a z1.l z1.c x1→Zm w z2.s z2.a z2.l z2.c x2→z1.l≤1099511627776→z2.l≤1099511627776→Calls Tryz.prog KG (#[.agg #[.bool z1.s,.slice z1.a z1.l z1.c],.agg #[.bool z2.s,.slice z2.a z2.l z2.c]]++gc) w fun e w'=> ∃s' a' l' c',e= .returned (.agg #[.bool s',.slice a' l' c'])∧Zn w' s' a' l' c' (d*(x2-x1))∧Below w.heap.size w w'∧l'≤max z1.l z2.l+1)
  (hcf: ∀(args:Array Value) (u:World),(callFunc KG args).run Tryz.prog u= .ok (.enter KG args) u):
  Calls Tryz.prog 73 #[.pointer (some ⟨bS,0,none⟩),.agg #[.bool z.s,.slice z.a z.l z.c],.slice sa n sc,.func (.func 122) #[] #[.pointer (some ⟨b,0,none⟩)],.func (.func KG) #[] gc] w fun e w'=>Below w.heap.size w w'∧Nst w' e (mem D) x d (LL+8192):=by
 have b1:=below_alloc w (.cells #[.bool z.s,.slice z.a z.l z.c] 38)
 have b2:=below_alloc (w.alloc (.cells #[.bool z.s,.slice z.a z.l z.c] 38)) (.cells #[.bool false,.slice none 0 0] 38)
 have y1:=(zb_new w z.s z.a z.l z.c).below b2
 have y2:=zb_new (w.alloc (.cells #[.bool z.s,.slice z.a z.l z.c] 38)) false none 0 0
 rw[show(w.alloc (.cells #[.bool z.s,.slice z.a z.l z.c] 38)).heap.size=w.heap.size+1 by simp]at y2
 have k0:=hide (grow_step b2 b1)
 have hz0:=hide (hz.below k0.out)
 have hln:Hid (ss.length=n):=hide hst.1
 have hp1:=hS.wf.p1
 have hp2:=hS.wf.p2
 replace y1:=hide y1
 replace y2:=hide y2
 replace hS:=hide hS
 replace hb:=hide hb
 replace hk:=hide hk
 replace hst:=hide hst
 replace hsg:=hide hsg
 replace hup:=hide hup
 clear b1 b2 hz
 go_enter Tryz.func73,Tryz.ntmps73
 go_upto_region 1 with(fail)
 generalize (w.alloc (.cells #[.bool z.s,.slice z.a z.l z.c] 38)).alloc (.cells #[.bool false,.slice none 0 0] 38)=w0 at*
 obtain⟨bx,hbx⟩: ∃bx,w.heap.size=bx:=⟨_,rfl⟩
 rw[hbx]at y1 y2 ⊢
 have hbw:Hid (w.heap.size=bx):=hide hbx
 clear hbx
 go_wp2_with fail
 go_loopw [19] (fun vi wr=> ∃(i:Nat) (q:ZV) (xi:Int),i≤n∧vi= .int .i64 i∧ZB wr bx q.s q.a q.l q.c∧ZB wr (bx+1) false none 0 0∧Zm wr q.s q.a q.l q.c xi∧q.l≤LL∧d*x≤d*xi∧(∀u,d*x≤d*u→d*u<d*xi→mem D u=false)∧(∀j (h:j<ss.length),j<i→d*ss[j]≤d*xi)∧Below w.heap.size w wr) (fun vi _=>n-(intOf vi).toNat)
 case atStart=>exact⟨0,z,x,Nat.zero_le _,rfl,y1.out,y2.out,hz0.out,hl,Int.le_refl _,fun u h1 h2=>by omega,fun j h hj=>absurd hj (Nat.not_lt_zero _),k0.out⟩
 case round=>
  obtain⟨i,q,xi,hi,rfl,yx,yr,hq,hql,hxi,hno,hold,kr⟩:=hrel
  replace hno:=hide hno
  replace hold:=hide hold
  by_cases hin:i<n
  ·obtain⟨cb,off,zs,rfl,hcb,e0,e1,hzs,hzl⟩:=(hst.out.below kr).2 i hin (by rw[hln.out];exact hin)
   obtain⟨si,hsi⟩: ∃si,ss[i]'(by rw[hln.out];exact hin)=si:=⟨_,rfl⟩
   rw[hsi]at hzs
   replace hsi:=hide hsi
   have ba:=below_alloc wr (.cells #[.bool zs.s,.slice zs.a zs.l zs.c] 38)
   have ys:=zb_new wr zs.s zs.a zs.l zs.c
   have yxa:=yx.below ba
   have yra:=yr.below ba
   have hqa:=hq.below ba
   have hza:=hzs.below ba
   have kra:=grow_step ba kr
   have p0:=yxa.c0
   have p1:=yxa.c1
   have p2:=ys.c0
   have p3:=ys.c1
   have hg:=hide (hgap hqa hza o_m o_m)
   replace yxa:=hide yxa
   replace yra:=hide yra
   replace hqa:=hide hqa
   replace hza:=hide hza
   replace kra:=hide kra
   replace ys:=hide ys
   have hcf1:=hcf
   clear ba yx yr hq hzs kr
   go_wp2_with fail
   refine hg.out.mono ?_
   rintro e w2 ⟨s2,a2,l2,c2,rfl,hz2,k2,hl3⟩
   have hsn:=hide (zsign_n (hz2.zm.below (below_alloc w2 (.cells #[.bool s2,.slice a2 l2 c2] 38))) o_m)
   have yf:=zb_new w2 s2 a2 l2 c2
   have bf:=below_alloc w2 (.cells #[.bool s2,.slice a2 l2 c2] 38)
   have yx2:=hide ((yxa.out.below k2).below bf)
   have yr2:=hide ((yra.out.below k2).below bf)
   have ys2:=hide ((ys.out.below k2).below bf)
   have hq2:=hide ((hqa.out.below k2).below bf)
   have hs2:=hide ((hza.out.below k2).below bf)
   have hf2:=hide (hz2.zm.below bf)
   have k3:=hide (grow_step bf (grow_step k2 kra.out))
   have f0:=yf.c0
   have f1:=yf.c1
   replace yf:=hide yf
   clear hg p0 p1 p2 p3 e0 e1 hcb yxa yra ys hqa hza kra hz2 k2 bf hcf1
   go_wp2_with fail
   refine hsn.out.mono ?_
   rintro e w3 ⟨rfl,kN⟩
   obtain⟨v,hv⟩: ∃v,cmpI (d*(si-xi)) 0=v:=⟨_,rfl⟩
   rw[hv]
   have hc:=cmp_sg (d*(si-xi))
   rw[hv]at hc
   replace hv:=hide hv
   have hgp:=dir_gap hd xi si
   have yx3:=hide (yx2.out.below kN)
   have yr3:=hide (yr2.out.below kN)
   have ys3:=hide (ys2.out.below kN)
   have yf3:=hide (yf.out.below kN)
   have hq3:=hide (hq2.out.below kN)
   have hs3:=hide (hs2.out.below kN)
   have hf3:=hide (hf2.out.below kN)
   have k4:=hide (grow_step kN k3.out)
   clear hsn f0 f1 yx2 yr2 ys2 yf hq2 hs2 hf2 k3 kN
   by_cases hle:d*si≤d*xi
   ·have hold1:Hid (∀j (h:j<ss.length),j<i+1→d*ss[j]≤d*xi):=hide fun j h hj=>by
     by_cases e:j=i
     ·subst e
      rw[hsi.out]
      exact hle
     exact hold.out j h o_m
    rcases hc with⟨rfl,h1⟩|⟨rfl,h1⟩|⟨rfl,h1⟩
    ·go_wp2
     go_roundw
     case measure=>simp[intOf];omega
     case rel=>exact⟨i+1,q,xi,by omega,by go_num,yx3.out,yr3.out,hq3.out,hql,hxi,hno.out,hold1.out,k4.out⟩
    ·go_wp2
     go_roundw
     case measure=>simp[intOf];omega
     case rel=>exact⟨i+1,q,xi,by omega,by go_num,yx3.out,yr3.out,hq3.out,hql,hxi,hno.out,hold1.out,k4.out⟩
    omega
   obtain⟨rfl,h1⟩:v=1∧0<d*(si-xi):=by omega
   clear hc
   obtain⟨cA,hcA⟩: ∃cA:Nat,(if d*(si-xi)<(D.p:Int)then(d*(si-xi)).toNat else D.p)=cA:=⟨_,rfl⟩
   have hca:Hid ((if d*(si-xi)<(D.p:Int)then d*(si-xi)else(D.p:Int))=(cA:Int)):=hide (by
    rw[←hcA]
    split <;> omega)
   have hcl:cA≤4096:=by
    rw[←hcA]
    split <;> omega
   replace hcA:=hide hcA
   go_upto_region 6 with(fail)
   generalize wr.heap.size=bs at*
   generalize w2.heap.size=bf at*
   go_cut [15,16] (fun v15 v16 wc=> ∃(b6:Nat) (zj:ZV) (bj:Bool),v15= .pointer (some ⟨b6,0,none⟩)∧v16= .bool bj∧Hid (ZB wc b6 zj.s zj.a zj.l zj.c)∧Hid (Ff wc (mem D) xi d cA (q.l+8192) zj bj)∧Hid (Below w3.heap.size w3 wc))
   case first=>
    refine wp_region_held_drew (S:=(fun w'=>w'.cell? ⟨bx,0,none⟩=some (.bool q.s)∧w'.cell? ⟨bx,1,none⟩=some (.slice q.a q.l q.c)∧w'.cell? ⟨bf,0,none⟩=some (.bool s2)∧w'.cell? ⟨bf,1,none⟩=some (.slice a2 l2 c2))) k_f (⟨(yx3.out.below (grow_drew (Below.refl _ _))).c0,(yx3.out.below (grow_drew (Below.refl _ _))).c1,(yf3.out.below (grow_drew (Below.refl _ _))).c0,(yf3.out.below (grow_drew (Below.refl _ _))).c1⟩) (fun hHeld=> ?_)
    show wpAnyH _ _ _ _ _ 14 _ _ _
    have kW:=grow_drew (Below.refl w3.heap.size w3)
    generalize w3.drew=wQ at*
    repeat' first
     |with_reducible exact AllReadyH.nil
     |(
      refine tkz 0 31 ?_
      (try simp only[pz]))
     |(
      refine tkz 1 32 ?_
      (try simp only[pz]))
     |(
      refine tkz 2 33 ?_
      (try simp only[pz]))
     |(
      refine tkz 3 34 ?_
      (try simp only[pz]))
     |(
      refine tkz 6 37 ?_
      (try simp only[pz]))
     |(
      refine tkz 8 30 ?_
      (try simp only[pz]))
     |(
      refine tkz 9 39 ?_
      (try simp only[pz]))
     |(
      refine tkz 10 40 ?_
      (try simp only[pz]))
     |(refine wpAnyH_ready (rs:=[4,11]) ?_ ?_ ?_;decide+kernel;simp)
     |(refine wpAnyH_ready (rs:=[5,11]) ?_ ?_ ?_;decide+kernel;simp)
     |(refine wpAnyH_ready (rs:=[7,11]) ?_ ?_ ?_;decide+kernel;simp)
     |(refine wpAnyH_ready (rs:=[11]) ?_ ?_ ?_;decide+kernel;simp)
     |(refine wpAnyH_ready (rs:=[12]) ?_ ?_ ?_;decide+kernel;simp)
     |(refine wpAnyH_ready (rs:=[13]) ?_ ?_ ?_;decide+kernel;simp)
     |(refine wpAnyH_ready (rs:=[7]) ?_ ?_ ?_;decide+kernel;simp)
     |(refine wpAnyH_ready (rs:=[5]) ?_ ?_ ?_;decide+kernel;simp)
     |(refine wpAnyH_ready (rs:=[4]) ?_ ?_ ?_;decide+kernel;simp)
     |(
      first
       |(
        refine AllReadyH.cons (i:=4) (o:=⟨some 35,_,_,_,_,_⟩) rfl (fun K hK=> ?_) ?_
        go_simp
        go_at_call 36;refine Calls.mono (period_b ((hS.out.below k4.out).below kW)) ?_;rintro e wP ⟨rfl,kP⟩
        try have z15:=z15.below kP
        have kW:=grow_step kP kW
        try go_wp2_with fail)
       |(
        refine AllReadyH.cons (i:=5) (o:=⟨some 36,_,_,_,_,_⟩) rfl (fun K hK=> ?_) ?_
        go_simp
        go_at_call 121;refine Calls.mono (catMost_n (z:=⟨s2,a2,l2,c2⟩) (hf3.out.below kW) (by show l2≤_;omega) o_m (bd:=D.p) o_m) ?_;rintro e wA ⟨rfl,kA⟩;(try rw[hca.out])
        try have z15:=z15.below kA
        have kW:=grow_step kA kW
        try go_wp2_with fail)
       |(
        refine AllReadyH.cons (i:=7) (o:=⟨some 38,_,_,_,_,_⟩) rfl (fun K hK=> ?_) ?_
        go_simp
        go_at_call 120;refine Calls.mono (among_o (z:=q) (y:=y) ((hS.out.below k4.out).below kW) hf (hq3.out.below kW) ((hb.out.below k4.out).below kW) ((hk.out.below k4.out).below kW) (Nat.le_trans hql hLL2) hl2 hcl) ?_;rintro e wM ⟨zj,bj,rfl,hF,kM⟩
        try have z15:=z15.below kM
        have kW:=grow_step kM kW
        try go_wp2_with fail)
       |(
        refine AllReadyH.cons (i:=11) (o:=⟨some 15,_,_,_,_,_⟩) rfl (fun K hK=> ?_) ?_
        obtain⟨wL,b6,eL,eb6,z15,hb6,kL,kW⟩:=al_b kW (.cells #[.bool false,.slice none 0 0] 38)
        replace z15:ZB wL b6 false none 0 0:=z15
        try have hF:=hF.below kL
        go_simp
        rw[eL.out]
        (try simp only[eb6.out]))
       |(
        refine AllReadyH.cons (i:=12) (o:=⟨none,_,_,_,_,_⟩) rfl (fun K hK=> ?_) ?_
        have f0:=z15.c0
        have f1:=z15.c1
        have f2:=z15.f 0
        have f3:=z15.f 1
        obtain⟨w8,e8,z8,kZ,hzn⟩:=st_y kW hb6 z15 zj.s zj.a zj.l zj.c
        have hF:=hF.zn hzn
        go_simp
        rw[e8.out]
        clear f0 f1 f2 f3
        have kW:=kZ)
       |(
        refine AllReadyH.cons (i:=13) (o:=⟨some 16,_,_,_,_,_⟩) rfl (fun K hK=> ?_) ?_
        go_simp)
      refine hK.out _ _ ?_ ?_
      ·first|with_reducible exact trivial|((try dsimp only);exact⟨(yx3.out.below kW).c0,(yx3.out.below kW).c1,(yf3.out.below kW).c0,(yf3.out.below kW).c1⟩)
      clear hK K hHeld;intro hHeld
      (try simp only[pz]))
    all_goals
     refine wpAnyH_done ?_ ?_ _
     ·decide+kernel
     have y1:=hide z8
     have y2:=hide hF
     have y3:=hide kW
     clear kW hHeld z8 hF hzn z15
     go_wp2_with fail
     go_meet
     case rel=>exact⟨b6,zj,bj,rfl,rfl,y1,y2,y3⟩
   case rest=>
    obtain⟨b6,zj,bj,rfl,rfl,z6,hF,kc⟩:=hcut
    generalize wc=w9 at*
    have yx9:=yx3.out.below kc.out
    have yr9:=yr3.out.below kc.out
    have ys9:=ys3.out.below kc.out
    have hs9:=hs3.out.below kc.out
    have k9:=grow_step kc.out k4.out
    have z0:=z6.out.c0
    have z1:=z6.out.c1
    cases bj with
    |true=>
     obtain⟨j,hj1,hj2,hj3,hj4,hj5⟩:=hF.out.1 rfl
     have f0:=yr9.c0
     have f1:=yr9.c1
     have f2:=yr9.f 0
     have f3:=yr9.f 1
     have hzf:=hide (zb_zn yr9 hj4 zj.s zj.a zj.l zj.c)
     have kf:Hid (Below w.heap.size w _):=hide ((k9.setCell (p:=⟨bx+1,0,none⟩) (show w.heap.size≤bx+1 by have:=hbw.out;omega) (.bool zj.s)).setCell (p:=⟨bx+1,1,none⟩) (show w.heap.size≤bx+1 by have:=hbw.out;omega) (.slice zj.a zj.l zj.c))
     have hfin:=hide (zb_fin yr9 zj.s zj.a zj.l zj.c)
     have hnf:=hide (nst_found hd hno.out hj2)
     have hge:Hid (d*x≤d*(xi+j*d)):=hide (by
      have:d*(xi+j*d)=d*xi+j:=by rcases hd with rfl|rfl <;> omega
      omega)
     replace hj3:=hide hj3
     clear yx9 yr9 ys9 hs9 k9 hj4 hj2 hF z6 kc
     go_wp2
     refine bodyPost_ret (results_ct rfl _ _ (bx+1) 38 _ (0,0) _ rfl hfin.out Tryz.underlying38 rfl k_f) rfl ?_
     exact⟨kf.out,.inl ⟨_,zj,hge.out,hnf.out,hj3.out,by simp,hzf.out,by omega⟩⟩
    |false=>
     obtain⟨h0,-⟩:=hF.out.2 rfl
     have f0:=yx9.c0
     have f1:=yx9.c1
     have f2:=yx9.f 0
     have f3:=yx9.f 1
     have g0:=ys9.c0
     have g1:=ys9.c1
     have hzf:=hide (zm_var yx9 hs9 zs.s zs.a zs.l zs.c)
     have kf:Hid (Below w.heap.size w _):=hide ((k9.setCell (p:=⟨bx,0,none⟩) (show w.heap.size≤bx by have:=hbw.out;omega) (.bool zs.s)).setCell (p:=⟨bx,1,none⟩) (show w.heap.size≤bx by have:=hbw.out;omega) (.slice zs.a zs.l zs.c))
     have hfin:=hide (zb_fin yx9 zs.s zs.a zs.l zs.c)
     have hres:=hide (yr9.only (only2 bx w9 (.bool zs.s) (.slice zs.a zs.l zs.c)) o_m)
     have hlt:d*xi<d*si:=by omega
     have hSt:Hid (∀t∈ss.map (fun s=>d*s),t≤d*xi∨d*si≤t):=hide fun t ht=>by
      obtain⟨s,hs,rfl⟩:=List.mem_map.1 ht
      obtain⟨m,hm,rfl⟩:=List.getElem_of_mem hs
      by_cases h2:m<i
      ·exact .inl (hold.out m hm h2)
      refine .inr ?_
      by_cases h3:m=i
      ·subst h3
       rw[hsi.out]
       exact Int.le_refl _
      have:=hup.out i m (by rw[hln.out];exact hin) hm o_m
      rw[hsi.out]at this
      omega
     have hnx:=hide (nst_next hd hsg.out hp1 hlt hSt.out hno.out hcA.out h0)
     have hold1:Hid (∀j (h:j<ss.length),j<i+1→d*ss[j]≤d*si):=hide fun j h hj=>by
      by_cases e:j=i
      ·subst e
       rw[hsi.out]
       exact Int.le_refl _
      have:=hold.out j h o_m
      omega
     clear yx9 yr9 ys9 hs9 k9 hF z6 kc h0 z0 z1
     go_wp2
     go_roundw
     case measure=>simp[intOf];omega
     case rel=>exact⟨i+1,zs,si,by omega,by go_num,hfin.out,hres.out,hzf.out,Nat.le_trans hzl hLL,by omega,hnx.out,hold1.out,kf.out⟩
  obtain rfl:i=n:=by omega
  have hbl:=yr.lt
  have hbl2:=yx.lt
  replace yx:=hide yx
  replace yr:=hide yr
  replace hq:=hide hq
  replace kr:=hide kr
  go_upto_region 11 with(fail)
  refine wp_region_held_drew (S:=(fun w'=>w'.cell? ⟨bx,0,none⟩=some (.bool q.s)∧w'.cell? ⟨bx,1,none⟩=some (.slice q.a q.l q.c))) k_f (⟨(yx.out.below (grow_drew (Below.refl _ _))).c0,(yx.out.below (grow_drew (Below.refl _ _))).c1⟩) (fun hHeld=> ?_)
  show wpAnyH _ _ _ _ _ 10 _ _ _
  have kW:=grow_drew (Below.refl wr.heap.size wr)
  generalize wr.drew=wQ at*
  have c0W:=(yx.out.below kW).c0
  have c1W:=(yx.out.below kW).c1
  refine tkz 0 45 ?_
  (try simp only[pz])
  refine tkz 1 46 ?_
  (try simp only[pz])
  refine tkz 2 47 ?_
  (try simp only[pz])
  refine tkz 4 49 ?_
  (try simp only[pz])
  refine ryz 3 (some 48) (fun K hK=> ?_) AllReadyH.nil
  go_simp
  go_at_call 36;refine Calls.mono (period_b ((hS.out.below kr.out).below kW)) ?_;rintro e wP ⟨rfl,kP⟩
  have kW:=grow_step kP kW
  have c0W:=(yx.out.below kW).c0
  have c1W:=(yx.out.below kW).c1
  try go_wp2_with fail
  refine hK.out _ _ ?_ ?_
  ·first|with_reducible exact trivial|((try dsimp only);exact⟨c0W,c1W⟩)
  clear hK K hHeld;intro hHeld
  (try simp only[pz])
  refine ryz 5 (some 50) (fun K hK=> ?_) AllReadyH.nil
  go_simp
  go_at_call 120;refine Calls.mono (among_o (z:=q) (y:=y) ((hS.out.below kr.out).below kW) hf (hq.out.below kW) ((hb.out.below kr.out).below kW) ((hk.out.below kr.out).below kW) (Nat.le_trans hql hLL2) hl2 hp2) ?_;rintro e wM ⟨zj,bj,rfl,hF,kM⟩
  have kW:=grow_step kM kW
  have c0W:=(yx.out.below kW).c0
  have c1W:=(yx.out.below kW).c1
  try go_wp2_with fail
  refine hK.out _ _ ?_ ?_
  ·first|with_reducible exact trivial|((try dsimp only);exact⟨c0W,c1W⟩)
  clear hK K hHeld;intro hHeld
  (try simp only[pz])
  refine tkz 6 51 ?_
  (try simp only[pz])
  refine tkz 7 52 ?_
  (try simp only[pz])
  refine ryz 8 none (fun K hK=> ?_) AllReadyH.nil
  have yrW:=yr.out.below kW
  have f0:=yrW.c0
  have f1:=yrW.c1
  have f2:=yrW.f 0
  have f3:=yrW.f 1
  have hF:=hF.zn (fun _ _ _ _ _ hz=>zb_zn yrW hz zj.s zj.a zj.l zj.c)
  have hfin:=zb_fin yrW zj.s zj.a zj.l zj.c
  have yxW:=((yx.out.below kW)).only (only2 (bx+1) _ (.bool zj.s) (.slice zj.a zj.l zj.c)) o_m
  have c0W:=yxW.c0
  have c1W:=yxW.c1
  have kf:=((grow_step kW kr.out).setCell (p:=⟨bx+1,0,none⟩) (show w.heap.size≤bx+1 by have:=hbw.out;omega) (.bool zj.s)).setCell (p:=⟨bx+1,1,none⟩) (show w.heap.size≤bx+1 by have:=hbw.out;omega) (.slice zj.a zj.l zj.c)
  go_simp
  clear f0 f1 f2 f3
  refine hK.out _ _ ?_ ?_
  ·first|with_reducible exact trivial|((try dsimp only);exact⟨c0W,c1W⟩)
  clear hK K hHeld;intro hHeld
  (try simp only[pz])
  refine ryz 9 (some 11) (fun K hK=> ?_) AllReadyH.nil
  go_simp
  refine hK.out _ _ ?_ ?_
  ·first|with_reducible exact trivial|((try dsimp only);exact⟨c0W,c1W⟩)
  clear hK K hHeld;intro hHeld
  (try simp only[pz])
  refine wpAnyH_done ?_ ?_ _
  ·decide+kernel
  replace kf:=hide kf
  replace hF:=hide hF
  replace hfin:=hide hfin
  clear kW hHeld yrW yxW c0W c1W
  go_wp2
  refine bodyPost_ret (results_ct rfl _ _ (bx+1) 38 _ (0,0) _ rfl hfin.out Tryz.underlying38 rfl k_f) rfl ?_
  refine⟨kf.out,?_⟩
  cases bj with
  |true=>
   obtain⟨j,hj1,hj2,hj3,hj4,hj5⟩:=hF.out.1 rfl
   have:d*(xi+j*d)=d*xi+j:=by rcases hd with rfl|rfl <;> omega
   exact .inl ⟨_,zj,by omega,nst_found hd hno.out hj2,hj3,by simp,hj4,by omega⟩
  |false=>
   obtain⟨h0,rfl⟩:=hF.out.2 rfl
   refine .inr ⟨nst_none hd hsg.out hp1 (fun t ht=> ?_) hno.out h0,by simp⟩
   obtain⟨s,hs,rfl⟩:=List.mem_map.1 ht
   obtain⟨m,hm,rfl⟩:=List.getElem_of_mem hs
   exact hold.out m hm (by rw[←hln.out];exact hm)
end Pd
end Go.Proofs.YtaafoppaepcaeaaGreat

namespace Go.Proofs.YtaafoppaepcaeaaGreat
open Go.RowKit Go.Sort Go.Shelf
namespace Cr
open Pd (SN SV ZV)

variable {w w':World}{g:Nat}
def Bv (l:List Bool):Array Value:=(l.map Value.bool).toArray
def BB (w:World)(g:Nat)(l:List Bool):Prop:=w.heap[g]? =some (.cells (Bv l) 4 (0,0))
theorem BB.lt {l:List Bool}(h:BB w g l):g<w.heap.size:=(Array.getElem?_eq_some_iff.1 h).1
theorem BB.cell {l:List Bool}(h:BB w g l){i:Nat}(hi:i<l.length):w.cell? ⟨g,i,none⟩=some (.bool (bit l i)):=by
  rw[cell_of_row w g i _ _ (0,0) h]
  simp[Bv,bit,List.getD,hi]
theorem BB.f {l:List Bool}(h:BB w g l)(i:Nat):w.frozen? ⟨g,i,none⟩=false:=frozen_of_row w g i _ _ h
theorem BB.below {l:List Bool}(h:BB w g l)(k:Below w.heap.size w w'):BB w' g l:=(k.block g h.lt).trans h
theorem BB.only {b:Nat}{l:List Bool}(h:BB w g l)(k:Only b w w')(hb:g≠b):BB w' g l:=(k.block g hb).trans h
theorem bv_set (l:List Bool)(i:Nat)(x:Bool):(Bv l).setIfInBounds i (.bool x)=Bv (l.set i x):=by
  apply Array.ext'
  simp[Bv,List.map_set]
theorem BB.set {l:List Bool}(h:BB w g l)(i:Nat)(x:Bool):BB (w.setCell ⟨g,i,none⟩ (.bool x)) g (l.set i x):=by
  have:=heap_setCell_same w g i _ _ (.bool x) h
  rw[bv_set]at this
  exact this
theorem bb_new (w:World)(l:List Bool):BB (w.alloc (.cells (Bv l) 4)) w.heap.size l:=heap_alloc_new w _
theorem infoB :(Tryz.prog.info? 4).map (fun i=>(i.zero,i.size,i.bytes))=some (some (.bool false),1,1):=by kernel_rfl
theorem made_zeroB (n:Nat):madeCells #[.bool false] n=Bv (List.replicate n false):=by
  apply Array.ext'
  rw[toList_madeCells_one]
  simp[Bv]
theorem run_mkB (n:Nat)(hn:n≤1073741824)(u:World):(Instr.makeSlice 80 (.int .i64 (n:Int)) (.int .i64 (n:Int))).run Tryz.prog u=
      .ok (.slice (some ⟨u.heap.size,0,none⟩) n n) (u.alloc (.cells (Bv (List.replicate n false)) 4)):=by
  obtain⟨i0,hi,hz0,hz1,hz2⟩:=info_parts infoB
  have h:=run_make (P:=Tryz.prog) u 80 4 i0 (.bool false) Tryz.underlying80 hi hz0 .i64 .i64 (n:Int) (n:Int) o_m (Int.le_refl _) (by rw[hz2];omega) o_m
  rw[Int.toNat_natCast]at h
  rw[←made_zeroB]
  simpa [hz1,Value.cells] using h
structure RL (w:World) (ad:Option Addr) (n:Nat) (rs:List (List Bool)):Prop where
  len:rs.length=n
  at': ∃b off,ad=some ⟨b,off,none⟩∧Pd.Own w b 80∧∀i,i<n→∃g,w.cell? ⟨b,off+i,none⟩=some (.slice (some ⟨g,0,none⟩) (rs.getD i []).length (rs.getD i []).length)∧BB w g (rs.getD i [])
theorem RL.below {ad:Option Addr}{n:Nat}{rs:List (List Bool)}(h:RL w ad n rs)(k:Below w.heap.size w w'):RL w' ad n rs:=by
  obtain⟨hl,b,off,e,ho,hc⟩:=h
  refine⟨hl,b,off,e,Pd.Own.below ho k,fun i hi=> ?_⟩
  obtain⟨g,h1,h2⟩:=hc i hi
  exact⟨g,(k.cell (p:=⟨b,off+i,none⟩) ho.lt).trans h1,h2.below k⟩
def CN (w:World)(ad:Option Addr)(n:Nat)(xs:List Int):Prop:=
  xs.length=n∧∀i (_:i<n) (h:i<xs.length),∃b off z,ad=some ⟨b,off,none⟩∧b<w.heap.size∧w.cell? ⟨b,off+i*2,none⟩=some (.bool (ZV.s z))∧w.cell? ⟨b,off+i*2+1,none⟩=some (.slice z.a z.l z.c)∧Zm w z.s z.a z.l z.c xs[i]∧z.l≤1073741826
theorem CN.below {ad:Option Addr}{n:Nat}{xs:List Int}(h:CN w ad n xs)(k:Below w.heap.size w w'):CN w' ad n xs:=by
  refine⟨h.1,fun i hi hi'=> ?_⟩
  obtain⟨b,off,z,e,hb,h1,h2,h3,h4⟩:=h.2 i hi hi'
  exact⟨b,off,z,e,Nat.lt_of_lt_of_le hb k.size,(k.cell (p:=⟨b,_,none⟩) hb).trans h1,(k.cell (p:=⟨b,_,none⟩) hb).trans h2,h3.below k,h4⟩
structure RS (w:World) (v:SV) (E:RE):Prop where
  wf:Wr E
  cu:CN w v.ca v.cn E.cs
  ro:RL w v.ra v.rn E.rs
  cc:v.cn≤v.cc∧v.cc≤9223372036854775807
theorem RS.below {v:SV}{E:RE}(h:RS w v E)(k:Below w.heap.size w w'):RS w' v E:=⟨h.wf,h.cu.below k,h.ro.below k,h.cc⟩
theorem RS.cn {v:SV}{E:RE}(h:RS w v E):E.cs.length=v.cn:=h.cu.1
theorem RS.rn {v:SV}{E:RE}(h:RS w v E):v.rn=v.cn+1:=by have:=h.cn;have:=h.wf.len;have:=h.ro.len;omega
theorem RS.row {v:SV}{E:RE}(h:RS w v E){i:Nat}(hi:i<v.cn+1): ∃b off g,v.ra=some ⟨b,off,none⟩∧b<w.heap.size∧w.cell? ⟨b,off+i,none⟩=some (.slice (some ⟨g,0,none⟩) E.p E.p)∧BB w g (row E i)∧(Cr.row E i).length=E.p:=by
  have hr:=h.wf.rl (i:=i) (by have:=h.cn;omega)
  obtain⟨b,off,e,hb,hc⟩:=h.ro.at'
  obtain⟨g,h1,h2⟩:=hc i (by have:=h.rn;omega)
  rw[show E.rs.getD i []=Cr.row E i from rfl,hr]at h1
  exact⟨b,off,g,e,hb.lt,h1,h2,hr⟩
theorem num19_n (k:Int)(h0: -9223372036854775808≤k)(h1:k≤9223372036854775807)(w:World):Calls Tryz.prog 66 #[.int .i64 k] w fun e w'=> ∃s a l c,e= .returned (.agg #[.bool s,.slice a l c])∧Zn w' s a l c k∧Below w.heap.size w w'∧l≤2:=by
  have b1:=below_alloc w (.cells #[.bool false,.slice none 0 0] 38)
  have y1:=zb_new w false none 0 0
  have hof:=hide (rof_n k h0 h1 (w.alloc (.cells #[.bool false,.slice none 0 0] 38)))
  replace b1:=hide b1
  replace y1:=hide y1
  go_enter Tryz.func66,Tryz.ntmps66
  go_upto_region 1 with(fail)
  generalize w.alloc (.cells #[.bool false,.slice none 0 0] 38)=w0 at*
  obtain⟨bx,hbx⟩: ∃bx,w.heap.size=bx:=⟨_,rfl⟩
  rw[hbx]at y1 ⊢
  have hbw:Hid (w.heap.size=bx):=hide hbx
  clear hbx
  go_wp2_with fail
  refine hof.out.mono ?_
  rintro e w1 ⟨s',a',l',c',rfl,hz1,k1,hl⟩
  have r1:=y1.out.below k1
  have r2:=r1.c0
  have r3:=r1.c1
  have r4:=r1.f 0
  have r5:=r1.f 1
  have hzf:=hide (zb_zn r1 hz1 s' a' l' c')
  have kf:=hide (((grow_step k1 b1.out).setCell (p:=⟨bx,0,none⟩) (show w.heap.size≤bx by have:=hbw.out;omega) (.bool s')).setCell (p:=⟨bx,1,none⟩) (show w.heap.size≤bx by have:=hbw.out;omega) (.slice a' l' c'))
  have hfin:=hide (zb_fin r1 s' a' l' c')
  clear hof k1 r1 hz1
  go_wp2
  refine bodyPost_ret (results_cell_row rfl _ _ bx 38 _ (0,0) _ rfl hfin.out Tryz.underlying38 rfl k_f) rfl ?_
  exact⟨s',a',l',c',by simp,hzf.out,kf.out,hl⟩
theorem rest18_n {s:Bool}{a:Option Addr}{l c:Nat}{x:Int}{p:Nat}(h:Zm w s a l c x)(hl:l≤4294967290)(h1:1≤p)(h2:p≤4096):
    Calls Tryz.prog 56 #[.agg #[.bool s,.slice a l c],.int .i64 p] w fun e w'=>e= .returned (.int .i64 ((x%(p:Int)).toNat:Nat))∧Below w.heap.size w w':=by
  have b0:=below_alloc w (.cells #[.bool s,.slice a l c] 38)
  have y0:=zb_new w s a l c
  have hx:=hide (h.below b0)
  have m0:=Int.emod_nonneg x (show(p:Int)≠0 by omega)
  have m1:=Int.emod_lt_of_pos x (show(0:Int)<(p:Int)by omega)
  rw[Int.toNat_of_nonneg m0]
  have hif:Hid (i64v (x%(p:Int))= .tuple #[.int .i64 (x%(p:Int)),.bool true]):=hide (if_pos o_m)
  have hwr:Hid (wrap64 (x%(p:Int))=x%(p:Int)):=hide (by unfold wrap64;omega)
  have hm0:=hide m0
  replace b0:=hide b0
  clear h m1 m0
  go_enter Tryz.func56,Tryz.ntmps56
  go_upto_region 1 with(fail)
  generalize w.alloc (.cells #[.bool s,.slice a l c] 38)=w0 at*
  obtain⟨bx,hbx⟩: ∃bx,w.heap.size=bx:=⟨_,rfl⟩
  rw[hbx]at y0 ⊢
  replace hbx:=hide hbx
  refine wp_region_held_drew (S:=(fun w'=>w'.cell? ⟨bx,0,none⟩=some (.bool s)∧w'.cell? ⟨bx,1,none⟩=some (.slice a l c))) k_f (⟨(y0.below (grow_drew (Below.refl _ _))).c0,(y0.below (grow_drew (Below.refl _ _))).c1⟩) (fun hHeld=> ?_)
  show wpAnyH _ _ _ _ _ 10 _ _ _
  have kW:=grow_drew (Below.refl w0.heap.size w0)
  generalize w0.drew=wQ at*
  refine tkz 0 8 ?_
  (try simp only[pz])
  refine tkz 1 9 ?_
  (try simp only[pz])
  refine ryz 2 (some 10) (fun K hK=> ?_) AllReadyH.nil
  go_simp
  go_at_call 33;refine Calls.mono (rof_n (p:Int) o_m o_m _) ?_;rintro e wkA ⟨sA,aA,lA,cA,rfl,hzA,kA,hlA⟩
  have kW:=grow_step kA kW
  try go_wp2_with fail
  refine hK.out _ _ ?_ ?_
  · first|with_reducible exact trivial|((try dsimp only);exact⟨(y0.below kW).c0,(y0.below kW).c1⟩)
  clear hK K hHeld;intro hHeld
  (try simp only[pz])
  refine ryz 3 (some 11) (fun K hK=> ?_) AllReadyH.nil
  go_simp
  go_at_call 101;refine Calls.mono (rmod_n (hx.out.below kW) hzA.zm o_m o_m o_m) ?_;rintro e wkB ⟨sB,aB,lB,cB,rfl,hzB,kB,hlB⟩
  have kW:=grow_step kB kW
  try go_wp2_with fail
  refine hK.out _ _ ?_ ?_
  · first|with_reducible exact trivial|((try dsimp only);exact⟨(y0.below kW).c0,(y0.below kW).c1⟩)
  clear hK K hHeld;intro hHeld
  (try simp only[pz])
  refine ryz 4 (some 12) (fun K hK=> ?_) AllReadyH.nil
  go_simp
  go_at_call 54;refine Calls.mono (rint64_n hzB.zm o_m hm0.out) ?_;rintro e wkC ⟨rfl,kC⟩
  rw[hif.out]
  have kW:=grow_step kC kW
  try go_wp2_with fail
  refine hK.out _ _ ?_ ?_
  · first|with_reducible exact trivial|((try dsimp only);exact⟨(y0.below kW).c0,(y0.below kW).c1⟩)
  clear hK K hHeld;intro hHeld
  (try simp only[pz])
  refine tkz 5 7 ?_
  (try simp only[pz])
  refine tkz 6 13 ?_
  (try simp only[pz])
  refine tkz 7 14 ?_
  (try simp only[pz])
  refine tkz 8 5 ?_
  (try simp only[pz])
  refine tkz 9 6 ?_
  (try simp only[pz])
  refine wpAnyH_done ?_ ?_ _
  · decide+kernel
  have kf:=hide (grow_step kW b0.out)
  clear kW hHeld hzA hzB
  go_wp2
  exact bodyPost_ret (results_tmp rfl _ _ _) rfl ⟨rfl,kf.out⟩
theorem modulo19_n {s:Bool}{a:Option Addr}{l c:Nat}{x:Int}{p:Nat}(h:Zm w s a l c x)(hl:l≤4294967290)(h1:1≤p)(h2:p≤4096):
    Calls Tryz.prog 77 #[.agg #[.bool s,.slice a l c],.int .i64 p] w fun e w'=>e= .returned (.int .i64 ((x%(p:Int)).toNat:Nat))∧Below w.heap.size w w':=by
  have b0:=below_alloc w (.cells #[.bool s,.slice a l c] 38)
  have y0:=zb_new w s a l c
  have hx:=hide (h.below b0)
  have m0:=Int.emod_nonneg x (show(p:Int)≠0 by omega)
  have m1:=Int.emod_lt_of_pos x (show(0:Int)<(p:Int)by omega)
  rw[Int.toNat_of_nonneg m0]
  have hif:Hid (i64v (x%(p:Int))= .tuple #[.int .i64 (x%(p:Int)),.bool true]):=hide (if_pos o_m)
  have hwr:Hid (wrap64 (x%(p:Int))=x%(p:Int)):=hide (by unfold wrap64;omega)
  have hm0:=hide m0
  replace b0:=hide b0
  clear h m1 m0
  go_enter Tryz.func77,Tryz.ntmps77
  go_upto_region 1 with(fail)
  generalize w.alloc (.cells #[.bool s,.slice a l c] 38)=w0 at*
  obtain⟨bx,hbx⟩: ∃bx,w.heap.size=bx:=⟨_,rfl⟩
  rw[hbx]at y0 ⊢
  replace hbx:=hide hbx
  refine wp_region_held_drew (S:=(fun w'=>w'.cell? ⟨bx,0,none⟩=some (.bool s)∧w'.cell? ⟨bx,1,none⟩=some (.slice a l c))) k_f (⟨(y0.below (grow_drew (Below.refl _ _))).c0,(y0.below (grow_drew (Below.refl _ _))).c1⟩) (fun hHeld=> ?_)
  show wpAnyH _ _ _ _ _ 10 _ _ _
  have kW:=grow_drew (Below.refl w0.heap.size w0)
  generalize w0.drew=wQ at*
  refine tkz 0 8 ?_
  (try simp only[pz])
  refine tkz 1 9 ?_
  (try simp only[pz])
  refine ryz 2 (some 10) (fun K hK=> ?_) AllReadyH.nil
  go_simp
  go_at_call 66;refine Calls.mono (num19_n (p:Int) o_m o_m _) ?_;rintro e wkA ⟨sA,aA,lA,cA,rfl,hzA,kA,hlA⟩
  have kW:=grow_step kA kW
  try go_wp2_with fail
  refine hK.out _ _ ?_ ?_
  · first|with_reducible exact trivial|((try dsimp only);exact⟨(y0.below kW).c0,(y0.below kW).c1⟩)
  clear hK K hHeld;intro hHeld
  (try simp only[pz])
  refine ryz 3 (some 11) (fun K hK=> ?_) AllReadyH.nil
  go_simp
  go_at_call 101;refine Calls.mono (rmod_n (hx.out.below kW) hzA.zm o_m o_m o_m) ?_;rintro e wkB ⟨sB,aB,lB,cB,rfl,hzB,kB,hlB⟩
  have kW:=grow_step kB kW
  try go_wp2_with fail
  refine hK.out _ _ ?_ ?_
  · first|with_reducible exact trivial|((try dsimp only);exact⟨(y0.below kW).c0,(y0.below kW).c1⟩)
  clear hK K hHeld;intro hHeld
  (try simp only[pz])
  refine ryz 4 (some 12) (fun K hK=> ?_) AllReadyH.nil
  go_simp
  go_at_call 54;refine Calls.mono (rint64_n hzB.zm o_m hm0.out) ?_;rintro e wkC ⟨rfl,kC⟩
  rw[hif.out]
  have kW:=grow_step kC kW
  try go_wp2_with fail
  refine hK.out _ _ ?_ ?_
  · first|with_reducible exact trivial|((try dsimp only);exact⟨(y0.below kW).c0,(y0.below kW).c1⟩)
  clear hK K hHeld;intro hHeld
  (try simp only[pz])
  refine tkz 5 7 ?_
  (try simp only[pz])
  refine tkz 6 13 ?_
  (try simp only[pz])
  refine tkz 7 14 ?_
  (try simp only[pz])
  refine tkz 8 5 ?_
  (try simp only[pz])
  refine tkz 9 6 ?_
  (try simp only[pz])
  refine wpAnyH_done ?_ ?_ _
  · decide+kernel
  have kf:=hide (grow_step kW b0.out)
  clear kW hHeld hzA hzB
  go_wp2
  exact bodyPost_ret (results_tmp rfl _ _ _) rfl ⟨rfl,kf.out⟩
end Cr
namespace Cr
open Pd (SN SV ZV plc)

variable {w w':World}{b p g n bx:Nat}
def SBr (w:World)(b p:Nat)(v:SV):Prop:=w.heap[b]? =some (.cells #[.int .i64 p,.slice v.ca v.cn v.cc,.slice v.ra v.rn v.rc] 30 (0,0))
theorem SBr.lt {v:SV}(h:SBr w b p v):b<w.heap.size:=(Array.getElem?_eq_some_iff.1 h).1
theorem SBr.below {v:SV}(h:SBr w b p v)(k:Below w.heap.size w w'):SBr w' b p v:=(k.block b h.lt).trans h
theorem SBr.c0 {v:SV}(h:SBr w b p v):w.cell? ⟨b,0,none⟩=some (.int .i64 p):=cell_of_row w b 0 _ _ (0,0) h
theorem SBr.c1 {v:SV}(h:SBr w b p v):w.cell? ⟨b,1,none⟩=some (.slice v.ca v.cn v.cc):=cell_of_row w b 1 _ _ (0,0) h
theorem SBr.c2 {v:SV}(h:SBr w b p v):w.cell? ⟨b,2,none⟩=some (.slice v.ra v.rn v.rc):=cell_of_row w b 2 _ _ (0,0) h
theorem SBr.f {v:SV}(h:SBr w b p v)(i:Nat):w.frozen? ⟨b,i,none⟩=false:=frozen_of_row w b i _ _ h
theorem SBr.only {v:SV}(h:SBr w b p v)(k:Only g w w')(hb:b≠g):SBr w' b p v:=(k.block b hb).trans h
theorem sbr_new (w:World)(p:Nat)(v:SV):SBr (w.alloc (.cells #[.int .i64 p,.slice v.ca v.cn v.cc,.slice v.ra v.rn v.rc] 30)) w.heap.size p v:=heap_alloc_new w _
theorem sbr_fin {p':Nat}{v v':SV}(h:SBr w b p v):SBr (((w.setCell ⟨b,0,none⟩ (.int .i64 p')).setCell ⟨b,1,none⟩ (.slice v'.ca v'.cn v'.cc)).setCell ⟨b,2,none⟩ (.slice v'.ra v'.rn v'.rc)) b p' v':=by
 have h1:=heap_setCell_same w b 0 _ _ (.int .i64 p') h
 have h2:=heap_setCell_same _ b 1 _ _ (.slice v'.ca v'.cn v'.cc) h1
 exact heap_setCell_same _ b 2 _ _ (.slice v'.ra v'.rn v'.rc) h2
theorem only3 (b:Nat)(w:World)(x y z:Value):Only b w (((w.setCell ⟨b,0,none⟩ x).setCell ⟨b,1,none⟩ y).setCell ⟨b,2,none⟩ z):=
 ((Only.set _ _ _ _).trans (Only.set _ _ _ _)).trans (Only.set _ _ _ _)
theorem period_n {s:Bool}{a:Option Addr}{l c:Nat}{x:Int}(h:Zm w s a l c x)(hl:l≤4294967290):
  Calls Tryz.prog 91 #[.agg #[.bool s,.slice a l c]] w fun e w'=> ∃(n:Int) (ok:Bool),e= .returned (.tuple #[.int .i64 n,.bool ok])∧ok=decide (x.natAbs≤4096)∧(x.natAbs≤4096→n=(x.natAbs:Int))∧Below w.heap.size w w':=by
 have b0:=below_alloc w (.cells #[.bool s,.slice a l c] 38)
 have y0:=zb_new w s a l c
 have q0:=y0.c0
 have q1:=y0.c1
 have hab:=hide (rabs_n (h.below b0) o_m)
 replace b0:=hide b0
 clear y0 h
 go_enter Tryz.func91,Tryz.ntmps91
 go_wp2_with fail
 refine hab.out.mono ?_
 rintro e w1 ⟨sA,aA,lA,cA,rfl,hzA,kA,hlA⟩
 have hi:=hide (rint64_n hzA.zm o_m o_m)
 have k1:=hide (grow_step kA b0.out)
 clear hab kA q0 q1 b0
 go_wp2_with fail
 refine hi.out.mono ?_
 rintro e w2 ⟨rfl,kB⟩
 have k2:=hide (grow_step kB k1.out)
 clear hi kB k1
 by_cases hx:(x.natAbs:Int)≤9223372036854775807
 ·rw[show i64v (x.natAbs:Int)= .tuple #[.int .i64 (x.natAbs:Int),.bool true] from if_pos hx]
  by_cases hy:x.natAbs≤4096
  ·have hd:decide ((x.natAbs:Int)≤4096)=true:=by rw[decide_eq_true_iff];omega
   have hwr:wrap64 (x.natAbs:Int)=(x.natAbs:Int):=by unfold wrap64;omega
   go_wp2
   exact bodyPost_ret (results_tmp2 rfl _ _ _) rfl ⟨_,_,rfl,(decide_eq_true hy).symm,fun _=>rfl,k2.out⟩
  have hd:decide ((x.natAbs:Int)≤4096)=false:=by rw[decide_eq_false_iff_not];omega
  go_wp2
  exact bodyPost_ret (results_tmp2 rfl _ _ _) rfl ⟨_,_,rfl,(decide_eq_false hy).symm,fun h=>absurd h hy,k2.out⟩
 have hy: ¬x.natAbs≤4096:=by omega
 rw[show i64v (x.natAbs:Int)= .tuple #[.int .i64 0,.bool false] from if_neg hx]
 go_wp2
 exact bodyPost_ret (results_tmp2 rfl _ _ _) rfl ⟨_,_,rfl,(decide_eq_false hy).symm,fun h=>absurd h hy,k2.out⟩
theorem rs_whole {gr:Nat}{l:List Bool}(h:w.heap[gr]? =some (.cells #[.slice (some ⟨g,0,none⟩) n n] 80 (0,0)))(hb:BB w g l)(hn:l.length=n)(h1:1≤n)(h2:n≤4096):RS w ⟨none,0,0,some ⟨gr,0,none⟩,1,1⟩ (whole l):=by
 refine⟨whole_wr o_m o_m,⟨rfl,fun i hi=>absurd hi (Nat.not_lt_zero _)⟩,⟨rfl,gr,0,rfl,⟨_,h⟩,fun i hi=> ?_⟩,⟨Nat.le_refl _,show 0≤9223372036854775807 by decide⟩⟩
 obtain rfl:i=0:=by have:i<1:=hi;omega
 refine⟨g,?_,hb⟩
 rw[show(whole l).rs.getD 0 []=l from rfl,hn]
 exact cell_of_row w gr 0 _ _ (0,0) h
theorem rd_onlyu {ad:Option Addr}{len cap:Nat}{zs:List Int}(h:Rd w ad len cap zs)(hx: ∀i x,w.cell? ⟨bx,i,none⟩≠some (.int .u32 x))(ho:Only bx w w'):Rd w' ad len cap zs:=by
 obtain⟨h1,h2,h3,h4,h5⟩:=h
 refine⟨h1,h2,h3,h4,?_⟩
 rcases h5 with h5|⟨a,e,h5|⟨b,off,rfl,hb,hc⟩⟩
 ·exact .inl h5
 ·exact .inr ⟨a,e,.inl h5⟩
 by_cases h0:len=0
 ·exact .inr ⟨_,e,.inl h0⟩
 have hbx:b≠bx:=by
  rintro rfl
  exact hx _ _ (hc 0 o_m)
 exact .inr ⟨_,e,.inr ⟨b,off,rfl,(by rw[ho.size];exact hb),fun i hi=>(World.cell?_of_block (a:=⟨b,_,none⟩) (ho.block b hbx)).trans (hc i hi)⟩⟩
theorem zm_onlyu {s:Bool}{ad:Option Addr}{len cap:Nat}{z:Int}(h:Zm w s ad len cap z)(hx: ∀i x,w.cell? ⟨bx,i,none⟩≠some (.int .u32 x))(ho:Only bx w w'):Zm w' s ad len cap z:=by
 obtain⟨n,⟨zs,h1,h2⟩,h3⟩:=h
 exact⟨n,⟨zs,rd_onlyu h1 hx ho,h2⟩,h3⟩
theorem rs_only {v:SV}{E:RE}(h:RS w v E)(y:SBr w bx p ⟨none,0,0,none,0,0⟩)(ho:Only bx w w'):RS w' v E:=by
 have hc: ∀i,w.cell? ⟨bx,i,none⟩=some (.int .i64 p)∨w.cell? ⟨bx,i,none⟩=some (.slice none 0 0)∨w.cell? ⟨bx,i,none⟩=none:=fun i=>by
  rw[cell_of_row w bx i _ _ (0,0) y]
  rcases i with _|_|_|i <;> simp
 have hu: ∀i x,w.cell? ⟨bx,i,none⟩≠some (.int .u32 x):=fun i x=>by rcases hc i with h|h|h <;> rw[h] <;> simp
 refine⟨h.wf,⟨h.cu.1,fun i hi hi'=> ?_⟩,⟨h.ro.len,?_⟩,h.cc⟩
 ·obtain⟨b,off,z,e,hb,h1,h2,h3,h4⟩:=h.cu.2 i hi hi'
  have hne:b≠bx:=by
   rintro rfl
   rcases hc (off+i*2)with h|h|h <;> rw[h]at h1 <;> simp at h1
  exact⟨b,off,z,e,(by rw[ho.size];exact hb),(World.cell?_of_block (a:=⟨b,_,none⟩) (ho.block b hne)).trans h1,(World.cell?_of_block (a:=⟨b,_,none⟩) (ho.block b hne)).trans h2,zm_onlyu h3 hu ho,h4⟩
 obtain⟨b,off,e,hb,hr⟩:=h.ro.at'
 have hne:b≠bx:=fun e2=>(hb.ne y (by decide)) e2.symm
 obtain⟨cur,hcur⟩:=hb
 refine⟨b,off,e,⟨cur,(ho.block b hne).trans hcur⟩,fun i hi=> ?_⟩
 obtain⟨g,h1,h2⟩:=hr i hi
 have hne2:g≠bx:=by
  rintro rfl
  have:=h2.symm.trans y
  simp at this
 exact⟨g,(World.cell?_of_block (a:=⟨b,_,none⟩) (ho.block b hne)).trans h1,h2.only ho hne2⟩
theorem whole_o {l:List Bool}(h:BB w g l)(_hn:l.length=n)(_h1:1≤n)(_h2:n≤4096):
  Calls Tryz.prog 40 #[.slice (some ⟨g,0,none⟩) n n] w fun e w'=> ∃gr,e= .returned (.agg #[.int .i64 n,.slice none 0 0,.slice (some ⟨gr,0,none⟩) 1 1])∧w.heap.size≤gr∧w'.heap[gr]? =some (.cells #[.slice (some ⟨g,0,none⟩) n n] 80 (0,0))∧BB w' g l∧Below w.heap.size w w':=by
 have b0:=below_alloc w (.cells #[.int .i64 0,.slice none 0 0,.slice none 0 0] 30)
 have y0:=sbr_new w 0 ⟨none,0,0,none,0,0⟩
 have hb:=h.below b0
 go_enter Tryz.func40,Tryz.ntmps40
 go_upto_region 1 with(fail)
 obtain⟨bx,hbx⟩: ∃bx,w.heap.size=bx:=⟨_,rfl⟩
 have y0:SBr (w.alloc (.cells #[.int .i64 0,.slice none 0 0,.slice none 0 0] 30)) bx 0 ⟨none,0,0,none,0,0⟩:=hbx▸y0
 rw[hbx]
 generalize w.alloc (.cells #[.int .i64 0,.slice none 0 0,.slice none 0 0] 30)=w0 at*
 have b1:=below_alloc w0 (.cells #[.slice (some ⟨g,0,none⟩) n n] 80)
 have y1:=y0.below b1
 have r1:=heap_alloc_new w0 (.cells #[.slice (some ⟨g,0,none⟩) n n] 80)
 have hb1:=hb.below b1
 have c0:=y1.c0
 have c1:=y1.c1
 have c2:=y1.c2
 have f0:=y1.f 0
 have f1:=y1.f 1
 have f2:=y1.f 2
 have kf:=hide (grow_step b1 b0)
 have hlt:=hide y0.lt
 have hw0:=hide b0.size
 have hbg:Hid (g≠bx):=hide (by have:=h.lt;omega)
 replace hb1:=hide hb1
 replace r1:=hide r1
 have hge:Hid (w.heap.size≤bx):=hide o_m
 have ho:=hide (only3 bx (w0.alloc (.cells #[.slice (some ⟨g,0,none⟩) n n] 80)) (.int .i64 n) (.slice none 0 0) (.slice (some ⟨w0.heap.size,0,none⟩) 1 1))
 have hfin:=hide (sbr_fin (p':=n) (v':=⟨none,0,0,some ⟨w0.heap.size,0,none⟩,1,1⟩) y1)
 have hbel:=hide (kf.out.trans (ho.out.below hge.out))
 have r2:=hide ((ho.out.block w0.heap.size (by have:=hlt.out;omega)).trans r1.out)
 have hb2:=hide (hb1.out.only ho.out hbg.out)
 clear h y0 hb b1 b0 hbx y1 r1 hb1 hbg hlt
 go_wp2
 refine bodyPost_ret (results_cell_row rfl _ _ bx 30 _ (0,0) _ rfl hfin.out Tryz.underlying30 rfl k_f) rfl ?_
 exact⟨w0.heap.size,by simp,hw0.out,r2.out,hb2.out,hbel.out⟩
theorem whole_n {l:List Bool}(h:BB w g l)(hn:l.length=n)(h1:1≤n)(h2:n≤4096):
  Calls Tryz.prog 40 #[.slice (some ⟨g,0,none⟩) n n] w fun e w'=> ∃v:SV,e= .returned (.agg #[.int .i64 n,.slice v.ca v.cn v.cc,.slice v.ra v.rn v.rc])∧RS w' v (whole l)∧Below w.heap.size w w':=
 (whole_o h hn h1 h2).mono fun _ _ ⟨gr,h3,_,h4,h5,h6⟩=>⟨⟨none,0,0,some ⟨gr,0,none⟩,1,1⟩,h3,rs_whole h4 h5 hn h1 h2,h6⟩
theorem none18_n (w:World):Calls Tryz.prog 7 #[] w fun e w'=> ∃v:SV,e= .returned (.agg #[.int .i64 1,.slice v.ca v.cn v.cc,.slice v.ra v.rn v.rc])∧RS w' v noneE∧Below w.heap.size w w':=by
 have b0:=below_alloc w (.cells #[.int .i64 0,.slice none 0 0,.slice none 0 0] 30)
 have y0:=sbr_new w 0 ⟨none,0,0,none,0,0⟩
 go_enter Tryz.func7,Tryz.ntmps7
 go_upto_region 1 with(fail)
 obtain⟨bx,hbx⟩: ∃bx,w.heap.size=bx:=⟨_,rfl⟩
 have y1:SBr (w.alloc (.cells #[.int .i64 0,.slice none 0 0,.slice none 0 0] 30)) bx 0 ⟨none,0,0,none,0,0⟩:=hbx▸y0
 rw[hbx]
 have hge:Hid (w.heap.size≤bx):=hide o_m
 clear y0 hbx
 generalize w.alloc (.cells #[.int .i64 0,.slice none 0 0,.slice none 0 0] 30)=w0 at*
 have hw:=hide (whole_n (bb_new w0 [false]) (n:=1) rfl (by decide) (by decide))
 have b1:=below_alloc w0 (.cells (Bv [false]) 4)
 have y2:=hide (y1.below b1)
 have k2:=hide (grow_step b1 b0)
 clear b1 b0 y1
 go_wp2_with fail
 refine hw.out.mono ?_
 rintro e w1 ⟨v,rfl,hv,k1⟩
 have y3:=y2.out.below k1
 have c0:=y3.c0
 have c1:=y3.c1
 have c2:=y3.c2
 have f0:=y3.f 0
 have f1:=y3.f 1
 have f2:=y3.f 2
 have hfin:=hide (sbr_fin (p':=1) (v':=v) y3)
 have ho:=hide (only3 bx w1 (.int .i64 1) (.slice v.ca v.cn v.cc) (.slice v.ra v.rn v.rc))
 have hbel:=hide ((grow_step k1 k2.out).trans (ho.out.below hge.out))
 have hrs:=hide (rs_only hv y3 ho.out)
 clear hw y2 k1 k2 y3 hv
 go_wp2
 refine bodyPost_ret (results_cell_row rfl _ _ bx 30 _ (0,0) _ rfl hfin.out Tryz.underlying30 rfl k_f) rfl ?_
 exact⟨v,by simp,hrs.out,hbel.out⟩
end Cr
end Go.Proofs.YtaafoppaepcaeaaGreat

namespace Go.Proofs.YtaafoppaepcaeaaGreat
open Go.RowKit Go.Sort
namespace Pd

theorem nst_one {w':World}{en:Ending}{f:Int→Bool}{x d:Int}{B:Nat}(h:Nst w' en f x d B): ∃(z:ZV) (b:Bool),en= .returned (.tuple #[.agg #[.bool z.s,.slice z.a z.l z.c],.bool b])∧∀w'':World,(∀s1 ad len cap v,Zn w' s1 ad len cap v→Zn w'' s1 ad len cap v)→∀en',en'= .returned (.tuple #[.agg #[.bool z.s,.slice z.a z.l z.c],.bool b])→Nst w'' en' f x d B:=by
 rcases h with⟨v,z,h1,h2,h3,h4,h5,h6⟩|⟨h1,h2⟩
 ·exact⟨z,true,h4,fun w'' hz en' he=> .inl ⟨v,z,h1,h2,h3,he,hz _ _ _ _ _ h5,h6⟩⟩
 exact⟨⟨false,none,0,0⟩,false,h2,fun w'' _ en' he=> .inr ⟨h1,he⟩⟩
theorem cgap_n {w:World}{z1 z2:ZV}{x1 x2:Int}(h1:Zm w z1.s z1.a z1.l z1.c x1)(h2:Zm w z2.s z2.a z2.l z2.c x2)(hl1:z1.l≤1099511627776)(hl2:z2.l≤1099511627776):
  Calls Tryz.prog 75 (#[.agg #[.bool z1.s,.slice z1.a z1.l z1.c],.agg #[.bool z2.s,.slice z2.a z2.l z2.c]]++ #[]) w fun e w'=> ∃s' a' l' c',e= .returned (.agg #[.bool s',.slice a' l' c'])∧Zn w' s' a' l' c' (1*(x2-x1))∧Below w.heap.size w w'∧l'≤max z1.l z2.l+1:=by
 show Calls Tryz.prog 75 #[.agg #[.bool z1.s,.slice z1.a z1.l z1.c],.agg #[.bool z2.s,.slice z2.a z2.l z2.c]] w _
 have b1:=below_alloc w (.cells #[.bool z1.s,.slice z1.a z1.l z1.c] 38)
 have b2:=below_alloc (w.alloc (.cells #[.bool z1.s,.slice z1.a z1.l z1.c] 38)) (.cells #[.bool z2.s,.slice z2.a z2.l z2.c] 38)
 have b3:=below_alloc ((w.alloc (.cells #[.bool z1.s,.slice z1.a z1.l z1.c] 38)).alloc (.cells #[.bool z2.s,.slice z2.a z2.l z2.c] 38)) (.cells #[.bool false,.slice none 0 0] 38)
 have y1:=((zb_new w z1.s z1.a z1.l z1.c).below b2).below b3
 have y2:=(zb_new (w.alloc (.cells #[.bool z1.s,.slice z1.a z1.l z1.c] 38)) z2.s z2.a z2.l z2.c).below b3
 have y3:=zb_new ((w.alloc (.cells #[.bool z1.s,.slice z1.a z1.l z1.c] 38)).alloc (.cells #[.bool z2.s,.slice z2.a z2.l z2.c] 38)) false none 0 0
 rw[show(w.alloc (.cells #[.bool z1.s,.slice z1.a z1.l z1.c] 38)).heap.size=w.heap.size+1 by simp]at y2
 rw[show((w.alloc (.cells #[.bool z1.s,.slice z1.a z1.l z1.c] 38)).alloc (.cells #[.bool z2.s,.slice z2.a z2.l z2.c] 38)).heap.size=w.heap.size+2 by simp]at y3
 have k3:=grow_step b3 (grow_step b2 b1)
 have hs:=hide (zsub_n (h2.below k3) (h1.below k3) hl2 hl1)
 replace k3:=hide k3
 clear b1 b2 b3
 have p0:=y1.c0
 have p1:=y1.c1
 have p2:=y2.c0
 have p3:=y2.c1
 replace y3:=hide y3
 clear y1 y2
 go_enter Tryz.func75,Tryz.ntmps75
 go_upto_region 1 with(fail)
 generalize ((w.alloc (.cells #[.bool z1.s,.slice z1.a z1.l z1.c] 38)).alloc (.cells #[.bool z2.s,.slice z2.a z2.l z2.c] 38)).alloc (.cells #[.bool false,.slice none 0 0] 38)=w0 at*
 obtain⟨br,hbr⟩: ∃br,w.heap.size+2=br:=⟨_,rfl⟩
 rw[hbr]at y3 ⊢
 go_wp2_with fail
 refine hs.out.mono ?_
 rintro e w1 ⟨s',a',l',c',rfl,hz1,k1,hl⟩
 have r1:=y3.out.below k1
 have r2:=r1.c0
 have r3:=r1.c1
 have r4:=r1.f 0
 have r5:=r1.f 1
 have hzf:=hide (zb_zn r1 hz1 s' a' l' c')
 have kf:=hide (((grow_step k1 k3.out).setCell (p:=⟨br,0,none⟩) (show w.heap.size≤br by omega) (.bool s')).setCell (p:=⟨br,1,none⟩) (show w.heap.size≤br by omega) (.slice a' l' c'))
 have hfin:=hide (zb_fin r1 s' a' l' c')
 clear hs k1 r1 hz1 p0 p1 p2 p3
 go_wp2
 refine bodyPost_ret (results_cell_row rfl _ _ br 38 _ (0,0) _ rfl hfin.out Tryz.underlying38 rfl k_f) rfl ?_
 refine⟨s',a',l',c',by simp,?_,kf.out,by omega⟩
 rw[Int.one_mul]
 exact hzf.out
theorem next_n {w:World}{bS LL:Nat}{D:PD}{z:ZV}{x:Int}(hS:PS w bS D)(hf:D.cs.length≤1073741823)(hz:Zm w z.s z.a z.l z.c x)(hl:z.l≤LL)(hLL:8589934592≤LL)(hLL2:LL≤17179869184):
  Calls Tryz.prog 24 #[.pointer (some ⟨bS,0,none⟩),.agg #[.bool z.s,.slice z.a z.l z.c]] w fun e w'=>Below w.heap.size w w'∧Nst w' e (mem D) x 1 (LL+8192):=by
 have hcf: ∀(args:Array Value) (u:World),(callFunc 75 args).run Tryz.prog u= .ok (.enter 75 args) u:=enters_of Tryz.func75 k_f rfl
 have b1:=below_alloc w (.cells #[.bool z.s,.slice z.a z.l z.c] 38)
 have b2:=below_alloc (w.alloc (.cells #[.bool z.s,.slice z.a z.l z.c] 38)) (.cells #[.bool false,.slice none 0 0] 38)
 have y1:=(zb_new w z.s z.a z.l z.c).below b2
 have y2:=zb_new (w.alloc (.cells #[.bool z.s,.slice z.a z.l z.c] 38)) false none 0 0
 rw[show(w.alloc (.cells #[.bool z.s,.slice z.a z.l z.c] 38)).heap.size=w.heap.size+1 by simp]at y2
 have k0:=hide (grow_step b2 b1)
 have hz0:=hide (hz.below k0.out)
 have hup:=hS.wf.up
 have hsg:Hid (Sg (fun u=>mem D (1*u)) D.p (D.cs.map fun s=>1*s)):=hide (by
  have e1:(fun u=>mem D (1*u))=mem D:=funext fun u=>by rw[Int.one_mul]
  have e2:(D.cs.map fun s=>1*s)=D.cs:=by
   conv=>rhs;rw[←List.map_id D.cs]
   exact List.map_congr_left fun s _=>by simp
  rw[e1,e2]
  exact sg_up)
 have hupi:Hid (∀i j (hi:i<D.cs.length) (hj:j<D.cs.length),i<j→1*D.cs[i]<1*D.cs[j]):=hide fun i j hi hj hij=>by
  have:=List.pairwise_iff_getElem.1 hup i j hi hj hij
  omega
 replace hS:=hide (hS.below k0.out)
 replace y2:=hide y2
 replace y1:=hide y1
 clear b1 b2 hz hup
 go_enter Tryz.func24,Tryz.ntmps24
 go_upto_region 1 with(fail)
 generalize (w.alloc (.cells #[.bool z.s,.slice z.a z.l z.c] 38)).alloc (.cells #[.bool false,.slice none 0 0] 38)=w0 at*
 obtain⟨bx,hbx⟩: ∃bx,w.heap.size=bx:=⟨_,rfl⟩
 rw[hbx]at y1 y2 ⊢
 have hbw:Hid (w.heap.size=bx):=hide hbx
 have hbl:=y2.out.lt
 have hbl2:=y1.out.lt
 clear hbx
 refine wp_region_held_drew (S:=(fun w'=>w'.cell? ⟨bx,0,none⟩=some (.bool z.s)∧w'.cell? ⟨bx,1,none⟩=some (.slice z.a z.l z.c))) k_f (⟨(y1.out.below (grow_drew (Below.refl _ _))).c0,(y1.out.below (grow_drew (Below.refl _ _))).c1⟩) (fun hHeld=> ?_)
 show wpAnyH _ _ _ _ _ 10 _ _ _
 have kW:=grow_drew (Below.refl w0.heap.size w0)
 generalize w0.drew=wQ at*
 have c0W:=(y1.out.below kW).c0
 have c1W:=(y1.out.below kW).c1
 refine tkz 0 6 ?_
 (try simp only[pz])
 refine tkz 1 7 ?_
 (try simp only[pz])
 refine tkz 2 8 ?_
 (try simp only[pz])
 refine ryz 3 (some 9) (fun K hK=> ?_) AllReadyH.nil
 go_simp
 go_at_call 35;refine Calls.mono (cuts_n (hS.out.below kW) hf) ?_;rintro e wC ⟨ca,cc,rfl,hcl,kC,-⟩
 have kW:=grow_step kC kW
 have c0W:=(y1.out.below kW).c0
 have c1W:=(y1.out.below kW).c1
 try go_wp2_with fail
 refine hK.out _ _ ?_ ?_
 ·first|with_reducible exact trivial|((try dsimp only);exact⟨c0W,c1W⟩)
 clear hK K hHeld;intro hHeld
 (try simp only[pz])
 refine ryz 4 (some 10) (fun K hK=> ?_) AllReadyH.nil
 go_simp
 go_at_call 74;refine Calls.mono (cby_n 1 (by decide) (by decide) _) ?_;rintro e wB ⟨bb,yb,rfl,hbb,hkb,hlb,kB⟩;have hcl:=hcl.below kB
 have kW:=grow_step kB kW
 have c0W:=(y1.out.below kW).c0
 have c1W:=(y1.out.below kW).c1
 try go_wp2_with fail
 refine hK.out _ _ ?_ ?_
 ·first|with_reducible exact trivial|((try dsimp only);exact⟨c0W,c1W⟩)
 clear hK K hHeld;intro hHeld
 (try simp only[pz])
 refine ryz 5 (some 11) (fun K hK=> ?_) AllReadyH.nil
 go_simp
 go_at_call 73;refine Calls.mono (nearest_n (z:=z) (y:=yb) (hS.out.below kW) hf (hz0.out.below kW) hl hLL hLL2 hbb hkb hlb (.inl rfl) hcl.sn hf hsg.out hupi.out cgap_n hcf) ?_;rintro e wN ⟨kN,hN⟩;obtain⟨zj,bj,rfl,hF⟩:=nst_one hN
 have kW:=grow_step kN kW
 have c0W:=(y1.out.below kW).c0
 have c1W:=(y1.out.below kW).c1
 try go_wp2_with fail
 refine hK.out _ _ ?_ ?_
 ·first|with_reducible exact trivial|((try dsimp only);exact⟨c0W,c1W⟩)
 clear hK K hHeld;intro hHeld
 (try simp only[pz])
 refine tkz 6 12 ?_
 (try simp only[pz])
 refine tkz 7 13 ?_
 (try simp only[pz])
 refine ryz 8 none (fun K hK=> ?_) AllReadyH.nil
 have yrW:=y2.out.below kW
 have f0:=yrW.c0
 have f1:=yrW.c1
 have f2:=yrW.f 0
 have f3:=yrW.f 1
 have hF:=hF _ (fun _ _ _ _ _ hz=>zb_zn yrW hz zj.s zj.a zj.l zj.c)
 have hfin:=zb_fin yrW zj.s zj.a zj.l zj.c
 have yxW:=((y1.out.below kW)).only (only2 (bx+1) _ (.bool zj.s) (.slice zj.a zj.l zj.c)) o_m
 have c0W:=yxW.c0
 have c1W:=yxW.c1
 have kf:=((grow_step kW k0.out).setCell (p:=⟨bx+1,0,none⟩) (show w.heap.size≤bx+1 by have:=hbw.out;omega) (.bool zj.s)).setCell (p:=⟨bx+1,1,none⟩) (show w.heap.size≤bx+1 by have:=hbw.out;omega) (.slice zj.a zj.l zj.c)
 go_simp
 clear f0 f1 f2 f3
 refine hK.out _ _ ?_ ?_
 ·first|with_reducible exact trivial|((try dsimp only);exact⟨c0W,c1W⟩)
 clear hK K hHeld;intro hHeld
 (try simp only[pz])
 refine ryz 9 (some 5) (fun K hK=> ?_) AllReadyH.nil
 go_simp
 refine hK.out _ _ ?_ ?_
 ·first|with_reducible exact trivial|((try dsimp only);exact⟨c0W,c1W⟩)
 clear hK K hHeld;intro hHeld
 (try simp only[pz])
 refine wpAnyH_done ?_ ?_ _
 ·decide+kernel
 replace kf:=hide kf
 replace hF:=hide hF
 replace hfin:=hide hfin
 clear kW hHeld yrW yxW c0W c1W
 go_wp2
 refine bodyPost_ret (results_ct rfl _ _ (bx+1) 38 _ (0,0) _ rfl hfin.out Tryz.underlying38 rfl k_f) rfl ?_
 exact⟨kf.out,hF.out _ (by simp)⟩
end Pd
namespace Pd

variable {w w' w0:World}{x:Int}{n:Nat}
theorem cby1_f {b:Nat}{z y:ZV}{k:Int}(hb:ZB w b y.s y.a y.l y.c)(hz:Zm w z.s z.a z.l z.c x)(hk:Zm w y.s y.a y.l y.c k)(hl:z.l≤1099511627776)(hl2:y.l≤1099511627776):
  Calls Tryz.prog 122 (#[.agg #[.bool z.s,.slice z.a z.l z.c]]++ #[.pointer (some ⟨b,0,none⟩)]) w fun e w'=> ∃s' a' l' c',e= .returned (.agg #[.bool s',.slice a' l' c'])∧Fresh.Zn 0 w' s' a' l' c' (x+k)∧Below w.heap.size w w'∧l'≤max z.l y.l+1:=by
 show Calls Tryz.prog 122 #[.agg #[.bool z.s,.slice z.a z.l z.c],.pointer (some ⟨b,0,none⟩)] w _
 go_enter Tryz.func122,Tryz.ntmps122
 have y0:=hb.c0
 have y1:=hb.c1
 have hbl:=hb.lt
 go_wp2_with fail
 have r0:=zb_new (w.alloc (.cells #[.bool z.s,.slice z.a z.l z.c] 38)) false none 0 0
 have b0:Below w.heap.size w ((w.alloc (.cells #[.bool z.s,.slice z.a z.l z.c] 38)).alloc (.cells #[.bool false,.slice none 0 0] 38)):=below_alloc' (below_alloc _ _) _
 rw[show(w.alloc (.cells #[.bool z.s,.slice z.a z.l z.c] 38)).heap.size=w.heap.size+1 from by simp]at r0
 generalize (w.alloc (.cells #[.bool z.s,.slice z.a z.l z.c] 38)).alloc (.cells #[.bool false,.slice none 0 0] 38)=wb at*
 have hr:w.heap.size≤w.heap.size+1:=by omega
 generalize w.heap.size+1=r at*
 refine(Fresh.zadd_n (B:=0) (Fresh.zm_of (hz.below b0) (Nat.zero_le _)) (Fresh.zm_of (hk.below b0) (Nat.zero_le _)) hl hl2).mono ?_
 rintro e w1 ⟨s',a',l',c',rfl,hz1,k1,hl1⟩
 have r1:=r0.below k1
 have r2:=r1.c0
 have r3:=r1.c1
 have r4:=r1.f 0
 have r5:=r1.f 1
 have hzf:=hide (zn_grown hz1 (grown_only (only2 r w1 (.bool s') (.slice a' l' c'))) fun g e=>by cases e;exact⟨_,⟨_,r1⟩,by decide⟩)
 have kf:=hide (((grow_step k1 b0).setCell (p:=⟨r,0,none⟩) hr (.bool s')).setCell (p:=⟨r,1,none⟩) hr (.slice a' l' c'))
 clear y0 y1 k1 b0
 go_wp2
 refine bodyPost_ret (results_cell_row rfl _ _ r 38 _ (0,0) _ rfl (zb_fin r1 s' a' l' c') Tryz.underlying38 rfl k_f) rfl ?_
 exact⟨s',a',l',c',by simp,hzf.out,kf.out,hl1⟩
def plL (f:Int→Bool)(x:Int)(n:Nat):List Nat:=(List.range n).filter fun k=>f (x+k)
theorem plL_succ (f:Int→Bool)(x:Int)(n:Nat):plL f x (n+1)=plL f x n++if f (x+n)=true then [n]else []:=by
 unfold plL
 rw[List.range_succ,List.filter_append]
 by_cases h:f (x+n)=true <;> simp[h]
theorem plL_len (f:Int→Bool)(x:Int)(n:Nat):(plL f x n).length=cntm f x n:=by
 induction n with
 |zero=>rfl
 |succ n ih=>
  rw[plL_succ,List.length_append,ih]
  simp only[cntm]
  by_cases h:f (x+n)=true <;> simp[h]
def enci (k:Nat):List Value:=[.int .i64 k]
theorem enci_len (k:Nat):(enci k).length=1:=rfl
theorem enci_one (k:Nat): ∀u∈enci k,u.oneCell'=true:=fun u hu=>by
 obtain rfl:u=_:=by simpa [enci] using hu
 rfl
theorem infoN :(Tryz.prog.info? 3).map (fun i=>(i.zero,i.size,i.bytes))=some (some (.int .i64 0),1,8):=by kernel_rfl
def NLs (w:World)(ad:Option Addr)(n:Nat)(P:List Nat):Prop:=
 P.length=n∧(n=0∨ ∃b,ad=some ⟨b,0,none⟩∧b<w.heap.size∧∀i (h:i<P.length),w.cell? ⟨b,i,none⟩=some (.int .i64 (P[i]:Nat)))
theorem NLs.below {ad:Option Addr}{P:List Nat}(h:NLs w ad n P)(k:Below w.heap.size w w'):NLs w' ad n P:=by
 refine⟨h.1,h.2.imp id ?_⟩
 rintro⟨b,e,hb,hc⟩
 exact⟨b,e,Nat.lt_of_lt_of_le hb k.size,fun i hi=>(k.cell (p:=⟨b,i,none⟩) hb).trans (hc i hi)⟩
theorem nls_own {base:Nat}{v:Value}{P:List Nat}(h:w.ownsRow base 3 1 v n (encL enci P)): ∃a c,v= .slice a n c∧(n≤c∧c≤9223372036854775807)∧NLs w a n P:=by
 obtain⟨h1,a,c,rfl,h2,h3,h4⟩:=own_any (by decide) enci_len h
 refine⟨a,c,rfl,⟨h2,h3⟩,h1,?_⟩
 rcases h4 with⟨h4,-⟩|⟨g,e,-,ho,-,hc⟩
 ·exact .inl h4
 refine .inr ⟨g,e,ho.lt,fun i hi=> ?_⟩
 have:=hc i hi 0 (by decide)
 rw[Nat.mul_one,Nat.add_zero]at this
 exact this
def Ze (w0 w:World)(z:ZV)(x:Int):Prop:=Zm w0 z.s z.a z.l z.c x∨Fresh.Zn 0 w z.s z.a z.l z.c x
theorem Ze.zm {z:ZV}(h:Ze w0 w z x)(k:Below w0.heap.size w0 w):Zm w z.s z.a z.l z.c x:=h.elim (fun h=>h.below k) fun h=>h.zn.zm
theorem Ze.below {z:ZV}(h:Ze w0 w z x)(k:Below w.heap.size w w'):Ze w0 w' z x:=h.imp id fun h=>h.below k
theorem Ze.grown {z:ZV}{o:Option Nat}(h:Ze w0 w z x)(hg:w.grownBy w' o)(ho: ∀g,o=some g→∃e,Own w g e∧60≠e):Ze w0 w' z x:=h.imp id fun h=>zn_grown h hg ho
theorem zb_grown {b:Nat}{s:Bool}{a:Option Addr}{l c:Nat}{o:Option Nat}(h:ZB w b s a l c)(hg:w.grownBy w' o)(ho: ∀g,o=some g→∃e,Own w g e∧38≠e):ZB w' b s a l c:=
 (hg.block b h.lt fun e=>by
  obtain⟨t,h1,h2⟩:=ho b e.symm
  exact h1.ne h h2 rfl).trans h
theorem cby_g (k:Int)(h0: -9223372036854775808≤k)(h1:k≤9223372036854775807)(w:World):
  Calls Tryz.prog 74 #[.int .i64 k] w fun e w'=> ∃b y,e= .returned (.func (.func 122) #[] #[.pointer (some ⟨b,0,none⟩)])∧ZB w' b (ZV.s y) y.a y.l y.c∧Fresh.Zn 0 w' y.s y.a y.l y.c k∧y.l≤2∧Below w.heap.size w w'∧w.heap.size≤b:=by
 have hof:=hide (Fresh.zof_n (B:=0) k h0 h1 w (Nat.zero_le _))
 go_enter Tryz.func74,Tryz.ntmps74
 go_wp2_with fail
 refine hof.out.mono ?_
 rintro e w1 ⟨s,a,l,c,rfl,hz,k1,hl⟩
 have b2:=below_alloc w1 (.cells #[.bool s,.slice a l c] 38)
 have y2:=hide (zb_new w1 s a l c)
 have hz2:=hide (hz.below b2)
 have hge:=hide k1.size
 have kf:=hide (grow_step b2 k1)
 clear hof hz k1 b2
 go_wp2
 exact bodyPost_ret (results_tmp rfl _ _ _) rfl ⟨_,⟨s,a,l,c⟩,rfl,y2.out,hz2.out,hl,kf.out,hge.out⟩
theorem places_n {bS:Nat}{D:PD}{z:ZV}(hS:PS w bS D)(hf:D.cs.length≤1073741823)(hz:Zm w z.s z.a z.l z.c x)(hl:z.l≤17179869184)(hn:n≤4096):
  Calls Tryz.prog 140 #[.pointer (some ⟨bS,0,none⟩),.agg #[.bool z.s,.slice z.a z.l z.c],.int .i64 n] w fun e w'=> ∃a c,e= .returned (.slice a (plL (mem D) x n).length c)∧((plL (mem D) x n).length≤c∧c≤9223372036854775807)∧NLs w' a (plL (mem D) x n).length (plL (mem D) x n)∧Below w.heap.size w w':=by
 have eg: ∀args w,(callFunc 122 args).run Tryz.prog w= .ok (.enter 122 args) w:=enters_of Tryz.func122 k_f rfl
 have b1:=below_alloc w (.cells #[.bool z.s,.slice z.a z.l z.c] 38)
 have y1:=zb_new w z.s z.a z.l z.c
 have hcb:=hide (cby_g 1 (by decide) (by decide) (w.alloc (.cells #[.bool z.s,.slice z.a z.l z.c] 38)))
 replace hS:=hide hS
 replace b1:=hide b1
 go_enter Tryz.func140,Tryz.ntmps140
 go_wp2_with fail
 refine hcb.out.mono ?_
 rintro e w1 ⟨b,y,rfl,hb,hk,hyl,k1,hge⟩
 obtain⟨bx,hbx⟩: ∃bx,w.heap.size=bx:=⟨_,rfl⟩
 have k2:=hide (grow_step k1 b1.out)
 have y2:=hide (y1.below k1)
 rw[hbx]at y2 ⊢
 have hbw:Hid (w.heap.size=bx):=hide hbx
 have hbn:bx<b:=by have:=y1.lt;omega
 replace hb:=hide hb
 replace hk:=hide hk
 clear hcb k1 y1 hbx b1 hge
 go_wp2_with fail
 go_loopw [7,12] (fun vl vi wr=> ∃(i:Nat) (q:ZV) (la:Option Addr) (lc m:Nat),i≤n∧vi= .int .i64 i∧vl= .slice la m lc∧m=(plL (mem D) x i).length∧wr.ownsRow w.heap.size 3 1 (.slice la m lc) m (encL enci (plL (mem D) x i))∧ZB wr bx q.s q.a q.l q.c∧Ze w wr q (x+i)∧q.l≤z.l+i+2∧ZB wr b y.s y.a y.l y.c∧Fresh.Zn 0 wr y.s y.a y.l y.c 1∧Below w.heap.size w wr) (fun _ vi _=>n-(intOf vi).toNat)
 case atStart=>exact⟨0,z,none,0,0,Nat.zero_le _,rfl,rfl,rfl,World.ownsRow_nil _ _ _ _,y2.out,.inl (by simpa using hz),by omega,hb.out,hk.out,k2.out⟩
 case round=>
  clear y2 hb hk k2
  obtain⟨i,q,la,lc,m,hi,rfl,rfl,hm,ho,yx,hq,hql,hb,hk,kr⟩:=hrel
  replace hm:=hide hm
  by_cases hin:i<n
  ·have q0:=yx.c0
   have q1:=yx.c1
   have hh:=hide (sHas_n (y:=q) (hS.out.below kr) hf (hq.zm kr) o_m)
   have hml:m≤4096:=by
    rw[hm.out,plL_len]
    exact Nat.le_trans (cntm_le _ _ _) o_m
   go_wp2_with fail
   refine hh.out.mono ?_
   rintro e w3 ⟨rfl,k3⟩
   have yx3:=yx.below k3
   have hq3:=hq.below k3
   have hb3:=hb.below k3
   have hk3:=hk.below k3
   have ho3:=own_below ho k3
   have kr3:=grow_step k3 kr
   have hsu:=plL_succ (mem D) x i
   clear hh q0 q1 k3 kr yx hq hb hk ho
   cases hmm:mem D (x+i)with
   |true=>
    rw[hmm,if_pos rfl]at hsu
    replace hsu:=hide hsu
    have b4:=below_alloc w3 (.cells #[.int .i64 i] 3)
    have y4:=heap_alloc_new w3 (.cells #[.int .i64 i] 3)
    have hc4:=hide (show ∀j u,(enci i)[j]? =some u→(w3.alloc (.cells #[.int .i64 i] 3)).cell? ⟨w3.heap.size,j,none⟩=some u from fun j u hu=>by
     rw[cell_of_row _ _ _ _ _ (0,0) y4]
     simpa [enci] using hu)
    have yx4:=hide (yx3.below b4)
    have hq4:=hide (hq3.below b4)
    have hb4:=hide (hb3.below b4)
    have hk4:=hide (hk3.below b4)
    have ho4:=hide (own_below ho3 b4)
    have k4:=hide (grow_step b4 kr3)
    clear b4 y4 yx3 hq3 hb3 hk3 ho3 kr3
    go_wp2_with(refine app_wp Tryz.underlying97 infoN rfl (by decide) (by decide) enci_len enci_one rfl _ _ rfl rfl ho4.out i w3.heap.size 1 rfl hc4.out o_m k4.out.size ?_)
    intro v6 w6 ho6 hg6 _
    have hob:=own_blk ho4.out
    have hOI: ∀g,Value.ownBlock (.slice la m lc)=some g→∃e,Own _ g e∧38≠e:=fun g e=>⟨_,(hob g e).2,by decide⟩
    have hOU: ∀g,Value.ownBlock (.slice la m lc)=some g→∃e,Own _ g e∧60≠e:=fun g e=>⟨_,(hob g e).2,by decide⟩
    have kr6:=hide (below_grown k4.out hg6 (fun g e=>(hob g e).1) k4.out.size)
    have yx6:=hide (zb_grown yx4.out hg6 hOI)
    have hq6:=hide (hq4.out.grown hg6 hOU)
    have hb6:=hide (zb_grown hb4.out hg6 hOI)
    have hk6:=hide (zn_grown hk4.out hg6 hOU)
    obtain⟨-,la6,lc6,rfl,-⟩:=own_any (by decide) enci_len ho6
    replace ho6:=hide ho6
    clear hob hOI hOU hg6 yx4 hq4 hb4 hk4 ho4 k4 hc4
    have c0:=yx6.out.c0
    have c1:=yx6.out.c1
    have hcb:=hide (cby1_f (b:=b) hb6.out (hq6.out.zm kr6.out) hk6.out.zn.zm o_m o_m)
    go_wp2_with fail
    refine hcb.out.mono ?_
    rintro e wY ⟨s2,a2,l2,c2,rfl,hz2,k7,hl3⟩
    have yx7:=yx6.out.below k7
    have hb7:=hb6.out.below k7
    have hk7:=hk6.out.below k7
    have ho7:=own_below ho6.out k7
    have f0:=yx7.c0
    have f1:=yx7.c1
    have f2:=yx7.f 0
    have f3:=yx7.f 1
    have o2:=only2 bx wY (.bool s2) (.slice a2 l2 c2)
    have hzf:=hide (zn_grown hz2 (grown_only o2) fun g e=>by cases e;exact⟨_,⟨_,yx7⟩,by decide⟩)
    have hkf:=hide (zn_grown hk7 (grown_only o2) fun g e=>by cases e;exact⟨_,⟨_,yx7⟩,by decide⟩)
    have hbf:=hide (hb7.only o2 o_m)
    have hof:=hide (own_only ho7 o2 fun g e=>(own_blk ho7 g e).2.ne yx7 (by decide))
    have kf:Hid (Below w.heap.size w _):=hide (((grow_step k7 kr6.out).setCell (p:=⟨bx,0,none⟩) (show w.heap.size≤bx by have:=hbw.out;omega) (.bool s2)).setCell (p:=⟨bx,1,none⟩) (show w.heap.size≤bx by have:=hbw.out;omega) (.slice a2 l2 c2))
    have hfin:=hide (zb_fin yx7 s2 a2 l2 c2)
    clear hcb c0 c1 k7 yx7 hb7 hk7 ho7 hz2 o2 yx6 hq6 hb6 hk6 ho6 kr6
    go_wp2
    go_roundw
    case measure=>simp[intOf];omega
    case rel=>exact⟨i+1,⟨s2,a2,l2,c2⟩,la6,lc6,m+1,by omega,by go_num,rfl,by rw[hsu.out,List.length_append,List.length_singleton,←hm.out],by rw[hsu.out];exact hof.out,hfin.out,.inr (by
     have:=hzf.out
     rwa [show x+(i:Int)+1=x+((i+1:Nat):Int)by omega]at this),by show l2≤_;omega,hbf.out,hkf.out,kf.out⟩
   |false=>
    rw[hmm,if_neg (by decide),List.append_nil]at hsu
    replace hsu:=hide hsu
    replace yx3:=hide yx3
    replace hq3:=hide hq3
    replace hb3:=hide hb3
    replace hk3:=hide hk3
    replace ho3:=hide ho3
    replace kr3:=hide kr3
    have c0:=yx3.out.c0
    have c1:=yx3.out.c1
    have hcb:=hide (cby1_f (b:=b) hb3.out (hq3.out.zm kr3.out) hk3.out.zn.zm o_m o_m)
    go_wp2_with fail
    refine hcb.out.mono ?_
    rintro e wY ⟨s2,a2,l2,c2,rfl,hz2,k7,hl3⟩
    have yx7:=yx3.out.below k7
    have hb7:=hb3.out.below k7
    have hk7:=hk3.out.below k7
    have ho7:=own_below ho3.out k7
    have f0:=yx7.c0
    have f1:=yx7.c1
    have f2:=yx7.f 0
    have f3:=yx7.f 1
    have o2:=only2 bx wY (.bool s2) (.slice a2 l2 c2)
    have hzf:=hide (zn_grown hz2 (grown_only o2) fun g e=>by cases e;exact⟨_,⟨_,yx7⟩,by decide⟩)
    have hkf:=hide (zn_grown hk7 (grown_only o2) fun g e=>by cases e;exact⟨_,⟨_,yx7⟩,by decide⟩)
    have hbf:=hide (hb7.only o2 o_m)
    have hof:=hide (own_only ho7 o2 fun g e=>(own_blk ho7 g e).2.ne yx7 (by decide))
    have kf:Hid (Below w.heap.size w _):=hide (((grow_step k7 kr3.out).setCell (p:=⟨bx,0,none⟩) (show w.heap.size≤bx by have:=hbw.out;omega) (.bool s2)).setCell (p:=⟨bx,1,none⟩) (show w.heap.size≤bx by have:=hbw.out;omega) (.slice a2 l2 c2))
    have hfin:=hide (zb_fin yx7 s2 a2 l2 c2)
    clear hcb c0 c1 k7 yx7 hb7 hk7 ho7 hz2 o2 yx3 hq3 hb3 hk3 ho3 kr3
    go_wp2
    go_roundw
    case measure=>simp[intOf];omega
    case rel=>exact⟨i+1,⟨s2,a2,l2,c2⟩,la,lc,m,by omega,by go_num,rfl,by rw[hsu.out,←hm.out],by rw[hsu.out];exact hof.out,hfin.out,.inr (by
     have:=hzf.out
     rwa [show x+(i:Int)+1=x+((i+1:Nat):Int)by omega]at this),by show l2≤_;omega,hbf.out,hkf.out,kf.out⟩
  obtain rfl:i=n:=by omega
  obtain⟨a',c',he,hcp,hnl⟩:=nls_own ho
  cases he
  have hml:=hm.out
  subst hml
  replace hnl:=hide hnl
  replace hcp:=hide hcp
  replace kr:=hide kr
  clear ho yx hq hb hk hm
  go_wp2
  exact bodyPost_ret (results_tmp rfl _ _ _) rfl ⟨_,_,rfl,hcp.out,hnl.out,kr.out⟩
end Pd
namespace Pd

structure PcV where
 f:ZV
 per:Nat
 ia:Option Addr
 il:Nat
 ic:Nat
 h:ZV
 r:Nat
abbrev PcV.val (p:PcV):Value:=.agg #[.bool p.f.s,.slice p.f.a p.f.l p.f.c,.int .i64 p.per,.slice p.ia p.il p.ic,.bool p.h.s,.slice p.h.a p.h.l p.h.c,.int .i64 p.r]
theorem NLs.get {w:World}{ad:Option Addr}{n:Nat}{P:List Nat}(h:NLs w ad n P){i:Nat}(hi:i<n): ∃b,∃hl:i<P.length,ad=some ⟨b,0,none⟩∧b<w.heap.size∧w.cell? ⟨b,i,none⟩=some (.int .i64 (P[i]:Nat)):=by
 obtain⟨h1,h2|⟨b,e,hb,hc⟩⟩:=h
 ·omega
 exact⟨b,by omega,e,hb,hc i o_m⟩
def lowN (P:List Nat)(r:Nat):Nat:=(P.filter fun k=>decide (k<r)).length
theorem lowN_take {P:List Nat}{r i:Nat}(h:i<P.length):lowN (P.take (i+1)) r=lowN (P.take i) r+if P[i]<r then 1 else 0:=by
 unfold lowN
 rw[List.take_succ_eq_append_getElem h,List.filter_append,List.length_append]
 by_cases h2:P[i]<r <;> simp[h2]
theorem lowN_le (P:List Nat)(r:Nat):lowN P r≤P.length:=List.length_filter_le _ _
theorem lowN_pl (f:Int→Bool)(x:Int){n r:Nat}(h:r≤n):lowN (plL f x n) r=cntm f x r:=by
 rw[←plL_len]
 unfold lowN plL
 rw[List.filter_filter]
 congr 1
 obtain⟨m,rfl⟩: ∃m,n=r+m:=⟨n-r,by omega⟩
 rw[List.range_add,List.filter_append]
 have e1:((List.range r).filter fun k:Nat=>decide (k<r)&&f (x+(k:Nat)))=(List.range r).filter fun k:Nat=>f (x+(k:Nat)):=List.filter_congr fun k hk=>by simp[List.mem_range.1 hk]
 have e2:(((List.range m).map fun k=>r+k).filter fun k:Nat=>decide (k<r)&&f (x+(k:Nat)))= []:=by
  rw[List.filter_eq_nil_iff]
  intro k hk
  obtain⟨j,-,rfl⟩:=List.mem_map.1 hk
  rw[show decide (r+j<r)=false from decide_eq_false o_m]
  simp
 rw[e1,e2,List.append_nil]
theorem atRest_n {w:World}{p:PcV}{P:List Nat}(hP:NLs w p.ia p.il P)(hl:p.il≤4096)(hp: ∀k∈P,k<4096):
  Calls Tryz.prog 113 #[p.val] w fun e w'=>e= .returned (.int .i64 (lowN P p.r))∧Below w.heap.size w w':=by
 have b0:=below_alloc w (.cells #[.bool p.f.s,.slice p.f.a p.f.l p.f.c,.int .i64 p.per,.slice p.ia p.il p.ic,.bool p.h.s,.slice p.h.a p.h.l p.h.c,.int .i64 p.r] 99)
 have y0:=heap_alloc_new w (.cells #[.bool p.f.s,.slice p.f.a p.f.l p.f.c,.int .i64 p.per,.slice p.ia p.il p.ic,.bool p.h.s,.slice p.h.a p.h.l p.h.c,.int .i64 p.r] 99)
 have q3:=cell_of_row _ _ 3 _ _ (0,0) y0
 have q6:=cell_of_row _ _ 6 _ _ (0,0) y0
 have hP0:=hide (hP.below b0)
 have hPl:Hid (P.length=p.il):=hide hP.1
 have hbt:w.heap.size<(w.alloc (.cells #[.bool p.f.s,.slice p.f.a p.f.l p.f.c,.int .i64 p.per,.slice p.ia p.il p.ic,.bool p.h.s,.slice p.h.a p.h.l p.h.c,.int .i64 p.r] 99)).heap.size:=by simp
 replace b0:=hide b0
 clear y0 hP
 go_enter Tryz.func113,Tryz.ntmps113
 go_upto_region 2 with(fail)
 generalize w.alloc (.cells #[.bool p.f.s,.slice p.f.a p.f.l p.f.c,.int .i64 p.per,.slice p.ia p.il p.ic,.bool p.h.s,.slice p.h.a p.h.l p.h.c,.int .i64 p.r] 99)=w0 at*
 obtain⟨bt,hbw⟩: ∃bt,w.heap.size=bt:=⟨_,rfl⟩
 rw[hbw]at q3 q6 hbt ⊢
 replace hbw:=hide hbw
 obtain⟨il,hil⟩: ∃il,p.il=il:=⟨_,rfl⟩
 obtain⟨r,hr⟩: ∃r,p.r=r:=⟨_,rfl⟩
 obtain⟨ia,hia⟩: ∃ia,p.ia=ia:=⟨_,rfl⟩
 rw[hil,hia]at q3 hP0
 rw[hil]at hPl hl
 rw[hr]at q6
 replace hil:=hide hil
 replace hia:=hide hia
 go_wp2_with fail
 go_loopw [3,9] (fun vc vi wr=> ∃i:Nat,i≤il∧vi= .int .i64 i∧vc= .int .i64 (lowN (P.take i) r)∧wr=w0) (fun _ vi _=>il-(intOf vi).toNat)
 case atStart=>exact⟨0,Nat.zero_le _,rfl,rfl,rfl⟩
 case round=>
  obtain⟨i,hi,rfl,rfl,rfl⟩:=hrel
  by_cases hin:i<il
  ·obtain⟨pb,hpl,rfl,hpb,d0⟩:=hP0.out.get hin
   have htk:=lowN_take (r:=r) hpl
   have hcl:lowN (P.take i) r≤4096:=Nat.le_trans (lowN_le _ _) (by rw[List.length_take];omega)
   have hkl:=hp _ (List.getElem_mem hpl)
   generalize P[i]=k at*
   by_cases hk:k<r
   ·rw[if_pos hk]at htk
    replace htk:=hide htk
    generalize hcN:lowN (P.take i) r=cN at*
    have hkd:decide (k<r)=true:=by rw[decide_eq_true_eq];exact hk
    go_wp2
    go_roundw
    case measure=>simp[intOf];omega
    case rel=>exact⟨i+1,by omega,by go_num,by rw[htk.out];go_num,trivial⟩
   rw[if_neg hk]at htk
   replace htk:=hide htk
   generalize hcN:lowN (P.take i) r=cN at*
   have hkd:decide (k<r)=false:=by rw[decide_eq_false_iff_not];exact hk
   go_wp2
   go_roundw
   case measure=>simp[intOf];omega
   case rel=>exact⟨i+1,by omega,by go_num,by rw[htk.out];rfl,trivial⟩
  obtain rfl:i=il:=by omega
  have e:P.take i=P:=List.take_of_length_le (by rw[hPl.out];exact Nat.le_refl _)
  rw[e]
  go_wp2
  exact bodyPost_ret (results_tmp rfl _ _ _) rfl ⟨by rw[hr];rfl,b0.out⟩
end Pd
namespace Pd

variable {w:World}{b:Nat}
def PB (w:World)(b:Nat)(p:PcV):Prop:=w.heap[b]? =some (.cells #[.bool p.f.s,.slice p.f.a p.f.l p.f.c,.int .i64 p.per,.slice p.ia p.il p.ic,.bool p.h.s,.slice p.h.a p.h.l p.h.c,.int .i64 p.r] 99 (0,0))
theorem PB.lt {p:PcV}(h:PB w b p):b<w.heap.size:=by
 by_cases hb:b<w.heap.size
 ·exact hb
 unfold PB at h
 rw[Array.getElem?_eq_none o_m]at h
 cases h
theorem PB.below {w':World}{p:PcV}(h:PB w b p)(k:Below w.heap.size w w'):PB w' b p:=(k.block b h.lt).trans h
theorem PB.only {w':World}{b':Nat}{p:PcV}(h:PB w b p)(ho:Only b' w w')(hne:b≠b'):PB w' b p:=(ho.block b hne).trans h
theorem PB.all {p:PcV}(h:PB w b p):w.cell? ⟨b,0,none⟩=some (.bool p.f.s)∧w.cell? ⟨b,1,none⟩=some (.slice p.f.a p.f.l p.f.c)∧w.cell? ⟨b,2,none⟩=some (.int .i64 p.per)∧w.cell? ⟨b,3,none⟩=some (.slice p.ia p.il p.ic)∧w.cell? ⟨b,4,none⟩=some (.bool p.h.s)∧w.cell? ⟨b,5,none⟩=some (.slice p.h.a p.h.l p.h.c)∧w.cell? ⟨b,6,none⟩=some (.int .i64 p.r):=
 ⟨cell_of_row w b 0 _ _ (0,0) h,cell_of_row w b 1 _ _ (0,0) h,cell_of_row w b 2 _ _ (0,0) h,cell_of_row w b 3 _ _ (0,0) h,cell_of_row w b 4 _ _ (0,0) h,cell_of_row w b 5 _ _ (0,0) h,cell_of_row w b 6 _ _ (0,0) h⟩
theorem count_n {p:PcV}{P:List Nat}{q:Int}(hP:NLs w p.ia p.il P)(hl:p.il≤4096)(hp: ∀k∈P,k<4096)(hq:Zm w p.h.s p.h.a p.h.l p.h.c q)(hlq:p.h.l≤1099511627000):
  Calls Tryz.prog 65 #[p.val] w fun e w'=>Below w.heap.size w w'∧∃s a l c,e= .returned (.agg #[.bool s,.slice a l c])∧Zn w' s a l c (q*(p.il:Nat)+(lowN P p.r:Nat))∧l≤p.h.l+3:=by
 have b1:=below_alloc w (.cells #[.bool p.f.s,.slice p.f.a p.f.l p.f.c,.int .i64 p.per,.slice p.ia p.il p.ic,.bool p.h.s,.slice p.h.a p.h.l p.h.c,.int .i64 p.r] 99)
 have b2:=below_alloc (w.alloc (.cells #[.bool p.f.s,.slice p.f.a p.f.l p.f.c,.int .i64 p.per,.slice p.ia p.il p.ic,.bool p.h.s,.slice p.h.a p.h.l p.h.c,.int .i64 p.r] 99)) (.cells #[.bool false,.slice none 0 0] 38)
 have y1:PB _ w.heap.size p:=PB.below (heap_alloc_new w (.cells #[.bool p.f.s,.slice p.f.a p.f.l p.f.c,.int .i64 p.per,.slice p.ia p.il p.ic,.bool p.h.s,.slice p.h.a p.h.l p.h.c,.int .i64 p.r] 99)) b2
 have y2:=zb_new (w.alloc (.cells #[.bool p.f.s,.slice p.f.a p.f.l p.f.c,.int .i64 p.per,.slice p.ia p.il p.ic,.bool p.h.s,.slice p.h.a p.h.l p.h.c,.int .i64 p.r] 99)) false none 0 0
 rw[show(w.alloc (.cells #[.bool p.f.s,.slice p.f.a p.f.l p.f.c,.int .i64 p.per,.slice p.ia p.il p.ic,.bool p.h.s,.slice p.h.a p.h.l p.h.c,.int .i64 p.r] 99)).heap.size=w.heap.size+1 by simp]at y2
 have k0:=hide (grow_step b2 b1)
 have hq0:=hide (hq.below k0.out)
 have hP0:=hide (hP.below k0.out)
 have hlow:lowN P p.r≤p.il:=by rw[←hP.1];exact lowN_le _ _
 replace y2:=hide y2
 replace y1:=hide y1
 clear b1 b2 hq hP
 go_enter Tryz.func65,Tryz.ntmps65
 go_upto_region 1 with(fail)
 generalize (w.alloc (.cells #[.bool p.f.s,.slice p.f.a p.f.l p.f.c,.int .i64 p.per,.slice p.ia p.il p.ic,.bool p.h.s,.slice p.h.a p.h.l p.h.c,.int .i64 p.r] 99)).alloc (.cells #[.bool false,.slice none 0 0] 38)=w0 at*
 obtain⟨bx,hbx⟩: ∃bx,w.heap.size=bx:=⟨_,rfl⟩
 rw[hbx]at y1 y2 ⊢
 have hbw:Hid (w.heap.size=bx):=hide hbx
 have hbl:=y2.out.lt
 have hbl2:=y1.out.lt
 clear hbx
 refine wp_region_held_drew (S:=(fun w'=>w'.cell? ⟨bx,0,none⟩=some (.bool p.f.s)∧w'.cell? ⟨bx,1,none⟩=some (.slice p.f.a p.f.l p.f.c)∧w'.cell? ⟨bx,2,none⟩=some (.int .i64 p.per)∧w'.cell? ⟨bx,3,none⟩=some (.slice p.ia p.il p.ic)∧w'.cell? ⟨bx,4,none⟩=some (.bool p.h.s)∧w'.cell? ⟨bx,5,none⟩=some (.slice p.h.a p.h.l p.h.c)∧w'.cell? ⟨bx,6,none⟩=some (.int .i64 p.r))) k_f ((y1.out.below (grow_drew (Below.refl _ _))).all) (fun hHeld=> ?_)
 show wpAnyH _ _ _ _ _ 12 _ _ _
 have kW:=grow_drew (Below.refl w0.heap.size w0)
 generalize w0.drew=wQ at*
 have yW:=y1.out.below kW
 refine tkz 0 3 ?_
 (try simp only[pz])
 refine tkz 1 4 ?_
 (try simp only[pz])
 refine tkz 2 5 ?_
 (try simp only[pz])
 refine tkz 3 6 ?_
 (try simp only[pz])
 refine tkz 4 7 ?_
 (try simp only[pz])
 refine tkz 7 10 ?_
 (try simp only[pz])
 refine ryz 5 (some 8) (fun K hK=> ?_) AllReadyH.nil
 go_simp
 go_at_call 62;refine Calls.mono (zof_n (p.il:Int) o_m o_m _) ?_;rintro e wO ⟨sO,aO,lO,cO,rfl,hzO,kO,hlO⟩
 have kW:=grow_step kO kW
 have yW:=y1.out.below kW
 try go_wp2_with fail
 refine hK.out _ _ ?_ ?_
 ·first|with_reducible exact trivial|((try dsimp only);exact yW.all)
 clear hK K hHeld;intro hHeld
 (try simp only[pz])
 refine ryz 6 (some 9) (fun K hK=> ?_) AllReadyH.nil
 go_simp
 go_at_call 112;refine Calls.mono (zmul_n (hq0.out.below kW) hzO.zm o_m o_m) ?_;rintro e wM ⟨sM,aM,lM,cM,rfl,hzM,kM,hlM⟩
 have kW:=grow_step kM kW
 have yW:=y1.out.below kW
 try go_wp2_with fail
 refine hK.out _ _ ?_ ?_
 ·first|with_reducible exact trivial|((try dsimp only);exact yW.all)
 clear hK K hHeld;intro hHeld
 (try simp only[pz])
 refine ryz 8 (some 11) (fun K hK=> ?_) AllReadyH.nil
 go_simp
 go_at_call 113;refine Calls.mono (atRest_n (p:=p) (hP0.out.below kW) hl hp) ?_;rintro e wR ⟨rfl,kR⟩;have hzM:=hzM.below kR
 have kW:=grow_step kR kW
 have yW:=y1.out.below kW
 try go_wp2_with fail
 refine hK.out _ _ ?_ ?_
 ·first|with_reducible exact trivial|((try dsimp only);exact yW.all)
 clear hK K hHeld;intro hHeld
 (try simp only[pz])
 refine ryz 9 (some 12) (fun K hK=> ?_) AllReadyH.nil
 go_simp
 go_at_call 62;refine Calls.mono (zof_n (lowN P p.r:Int) o_m o_m _) ?_;rintro e wQ2 ⟨sQ,aQ,lQ,cQ,rfl,hzQ,kQ,hlQ⟩;have hzM:=hzM.below kQ
 have kW:=grow_step kQ kW
 have yW:=y1.out.below kW
 try go_wp2_with fail
 refine hK.out _ _ ?_ ?_
 ·first|with_reducible exact trivial|((try dsimp only);exact yW.all)
 clear hK K hHeld;intro hHeld
 (try simp only[pz])
 refine ryz 10 (some 13) (fun K hK=> ?_) AllReadyH.nil
 go_simp
 go_at_call 64;refine Calls.mono (zadd_n hzM.zm hzQ.zm o_m o_m) ?_;rintro e wA ⟨sA,aA,lA,cA,rfl,hzA,kA,hlA⟩
 have kW:=grow_step kA kW
 have yW:=y1.out.below kW
 try go_wp2_with fail
 refine hK.out _ _ ?_ ?_
 ·first|with_reducible exact trivial|((try dsimp only);exact yW.all)
 clear hK K hHeld;intro hHeld
 (try simp only[pz])
 refine ryz 11 none (fun K hK=> ?_) AllReadyH.nil
 have yrW:=y2.out.below kW
 have f0:=yrW.c0
 have f1:=yrW.c1
 have f2:=yrW.f 0
 have f3:=yrW.f 1
 have hF:=zb_zn yrW hzA sA aA lA cA
 have hfin:=zb_fin yrW sA aA lA cA
 have kf:=((grow_step kW k0.out).setCell (p:=⟨bx+1,0,none⟩) (show w.heap.size≤bx+1 by have:=hbw.out;omega) (.bool sA)).setCell (p:=⟨bx+1,1,none⟩) (show w.heap.size≤bx+1 by have:=hbw.out;omega) (.slice aA lA cA)
 have yxW:=yW.only (only2 (bx+1) _ (.bool sA) (.slice aA lA cA)) o_m
 go_simp
 clear f0 f1 f2 f3
 refine hK.out _ _ ?_ ?_
 ·first|with_reducible exact trivial|((try dsimp only);exact yxW.all)
 clear hK K hHeld;intro hHeld
 (try simp only[pz])
 refine wpAnyH_done ?_ ?_ _
 ·decide+kernel
 replace kf:=hide kf
 replace hF:=hide hF
 replace hfin:=hide hfin
 clear kW hHeld yrW yxW yW
 go_wp2
 refine bodyPost_ret (results_cell_row rfl _ _ (bx+1) 38 _ (0,0) _ rfl hfin.out Tryz.underlying38 rfl k_f) rfl ?_
 exact⟨kf.out,sA,aA,lA,cA,by simp,hF.out,by omega⟩
end Pd
namespace Pd

variable {w:World}{b r:Nat}{ad:Option Addr}
abbrev pc0 :PcV:=⟨⟨false,none,0,0⟩,0,none,0,0,⟨false,none,0,0⟩,0⟩
abbrev pset (w:World) (b:Nat) (p:PcV):World:=((((((w.setCell ⟨b,0,none⟩ (.bool p.f.s)).setCell ⟨b,1,none⟩ (.slice p.f.a p.f.l p.f.c)).setCell ⟨b,2,none⟩ (.int .i64 p.per)).setCell ⟨b,3,none⟩ (.slice p.ia p.il p.ic)).setCell ⟨b,4,none⟩ (.bool p.h.s)).setCell ⟨b,5,none⟩ (.slice p.h.a p.h.l p.h.c)).setCell ⟨b,6,none⟩ (.int .i64 p.r)
theorem pb_fin {p0:PcV}(h:PB w b p0)(p:PcV):PB (pset w b p) b p:=by
 have h0:(w.setCell ⟨b,0,none⟩ (.bool p.f.s)).heap[b]? =some (.cells #[.bool p.f.s,.slice p0.f.a p0.f.l p0.f.c,.int .i64 p0.per,.slice p0.ia p0.il p0.ic,.bool p0.h.s,.slice p0.h.a p0.h.l p0.h.c,.int .i64 p0.r] 99 (0,0)):=heap_setCell_same w b 0 _ _ _ h
 have h1:((w.setCell ⟨b,0,none⟩ (.bool p.f.s)).setCell ⟨b,1,none⟩ (.slice p.f.a p.f.l p.f.c)).heap[b]? =some (.cells #[.bool p.f.s,.slice p.f.a p.f.l p.f.c,.int .i64 p0.per,.slice p0.ia p0.il p0.ic,.bool p0.h.s,.slice p0.h.a p0.h.l p0.h.c,.int .i64 p0.r] 99 (0,0)):=heap_setCell_same (w.setCell ⟨b,0,none⟩ (.bool p.f.s)) b 1 _ _ _ h0
 have h2:(((w.setCell ⟨b,0,none⟩ (.bool p.f.s)).setCell ⟨b,1,none⟩ (.slice p.f.a p.f.l p.f.c)).setCell ⟨b,2,none⟩ (.int .i64 p.per)).heap[b]? =some (.cells #[.bool p.f.s,.slice p.f.a p.f.l p.f.c,.int .i64 p.per,.slice p0.ia p0.il p0.ic,.bool p0.h.s,.slice p0.h.a p0.h.l p0.h.c,.int .i64 p0.r] 99 (0,0)):=heap_setCell_same ((w.setCell ⟨b,0,none⟩ (.bool p.f.s)).setCell ⟨b,1,none⟩ (.slice p.f.a p.f.l p.f.c)) b 2 _ _ _ h1
 have h3:((((w.setCell ⟨b,0,none⟩ (.bool p.f.s)).setCell ⟨b,1,none⟩ (.slice p.f.a p.f.l p.f.c)).setCell ⟨b,2,none⟩ (.int .i64 p.per)).setCell ⟨b,3,none⟩ (.slice p.ia p.il p.ic)).heap[b]? =some (.cells #[.bool p.f.s,.slice p.f.a p.f.l p.f.c,.int .i64 p.per,.slice p.ia p.il p.ic,.bool p0.h.s,.slice p0.h.a p0.h.l p0.h.c,.int .i64 p0.r] 99 (0,0)):=heap_setCell_same (((w.setCell ⟨b,0,none⟩ (.bool p.f.s)).setCell ⟨b,1,none⟩ (.slice p.f.a p.f.l p.f.c)).setCell ⟨b,2,none⟩ (.int .i64 p.per)) b 3 _ _ _ h2
 have h4:(((((w.setCell ⟨b,0,none⟩ (.bool p.f.s)).setCell ⟨b,1,none⟩ (.slice p.f.a p.f.l p.f.c)).setCell ⟨b,2,none⟩ (.int .i64 p.per)).setCell ⟨b,3,none⟩ (.slice p.ia p.il p.ic)).setCell ⟨b,4,none⟩ (.bool p.h.s)).heap[b]? =some (.cells #[.bool p.f.s,.slice p.f.a p.f.l p.f.c,.int .i64 p.per,.slice p.ia p.il p.ic,.bool p.h.s,.slice p0.h.a p0.h.l p0.h.c,.int .i64 p0.r] 99 (0,0)):=heap_setCell_same ((((w.setCell ⟨b,0,none⟩ (.bool p.f.s)).setCell ⟨b,1,none⟩ (.slice p.f.a p.f.l p.f.c)).setCell ⟨b,2,none⟩ (.int .i64 p.per)).setCell ⟨b,3,none⟩ (.slice p.ia p.il p.ic)) b 4 _ _ _ h3
 have h5:((((((w.setCell ⟨b,0,none⟩ (.bool p.f.s)).setCell ⟨b,1,none⟩ (.slice p.f.a p.f.l p.f.c)).setCell ⟨b,2,none⟩ (.int .i64 p.per)).setCell ⟨b,3,none⟩ (.slice p.ia p.il p.ic)).setCell ⟨b,4,none⟩ (.bool p.h.s)).setCell ⟨b,5,none⟩ (.slice p.h.a p.h.l p.h.c)).heap[b]? =some (.cells #[.bool p.f.s,.slice p.f.a p.f.l p.f.c,.int .i64 p.per,.slice p.ia p.il p.ic,.bool p.h.s,.slice p.h.a p.h.l p.h.c,.int .i64 p0.r] 99 (0,0)):=heap_setCell_same (((((w.setCell ⟨b,0,none⟩ (.bool p.f.s)).setCell ⟨b,1,none⟩ (.slice p.f.a p.f.l p.f.c)).setCell ⟨b,2,none⟩ (.int .i64 p.per)).setCell ⟨b,3,none⟩ (.slice p.ia p.il p.ic)).setCell ⟨b,4,none⟩ (.bool p.h.s)) b 5 _ _ _ h4
 have h6:(((((((w.setCell ⟨b,0,none⟩ (.bool p.f.s)).setCell ⟨b,1,none⟩ (.slice p.f.a p.f.l p.f.c)).setCell ⟨b,2,none⟩ (.int .i64 p.per)).setCell ⟨b,3,none⟩ (.slice p.ia p.il p.ic)).setCell ⟨b,4,none⟩ (.bool p.h.s)).setCell ⟨b,5,none⟩ (.slice p.h.a p.h.l p.h.c)).setCell ⟨b,6,none⟩ (.int .i64 p.r)).heap[b]? =some (.cells #[.bool p.f.s,.slice p.f.a p.f.l p.f.c,.int .i64 p.per,.slice p.ia p.il p.ic,.bool p.h.s,.slice p.h.a p.h.l p.h.c,.int .i64 p.r] 99 (0,0)):=heap_setCell_same ((((((w.setCell ⟨b,0,none⟩ (.bool p.f.s)).setCell ⟨b,1,none⟩ (.slice p.f.a p.f.l p.f.c)).setCell ⟨b,2,none⟩ (.int .i64 p.per)).setCell ⟨b,3,none⟩ (.slice p.ia p.il p.ic)).setCell ⟨b,4,none⟩ (.bool p.h.s)).setCell ⟨b,5,none⟩ (.slice p.h.a p.h.l p.h.c)) b 6 _ _ _ h5
 exact h6
theorem pset_only (w:World)(b:Nat)(p:PcV):Only b w (pset w b p):=
 ((((((Only.set b 0 w _).trans (Only.set b 1 _ _)).trans (Only.set b 2 _ _)).trans (Only.set b 3 _ _)).trans (Only.set b 4 _ _)).trans (Only.set b 5 _ _)).trans (Only.set b 6 _ _)
theorem pset_below {w0:World}(h:Below w0.heap.size w0 w)(hb:w0.heap.size≤b)(p:PcV):Below w0.heap.size w0 (pset w b p):=
 ((((((h.setCell (p:=⟨b,0,none⟩) hb _).setCell (p:=⟨b,1,none⟩) hb _).setCell (p:=⟨b,2,none⟩) hb _).setCell (p:=⟨b,3,none⟩) hb _).setCell (p:=⟨b,4,none⟩) hb _).setCell (p:=⟨b,5,none⟩) hb _).setCell (p:=⟨b,6,none⟩) hb _
theorem PB.fz {p:PcV}(h:PB w b p)(i:Nat):w.frozen? ⟨b,i,none⟩=false:=frozen_of_row w b i _ _ h
theorem pb_apart {p:PcV}{len cap:Nat}{zs:List Int}(y:PB w r p)(h:Rd w ad len cap zs):
  ∀x off,ad=some ⟨x,off,none⟩→len=0∨x≠r:=by
 intro x off hx
 obtain⟨_,_,_,_,h5⟩:=h
 rcases h5 with⟨h5,_⟩|⟨a0,h5,h6⟩
 ·rw[h5]at hx;cases hx
 rw[hx]at h5
 injection h5 with h5
 subst h5
 rcases h6 with h6|⟨b,o,h6,_,h7⟩
 ·exact Or.inl h6
 injection h6 with e1 e2 _
 subst e1 e2
 by_cases h0:len=0
 ·exact Or.inl h0
 refine Or.inr fun e=> ?_
 subst e
 have h8:=h7 0 o_m
 rw[Nat.add_zero,cell_of_row w x off _ _ (0,0) y]at h8
 match off with
 |0=>simp at h8
 |1=>simp at h8
 |2=>simp at h8
 |3=>simp at h8
 |4=>simp at h8
 |5=>simp at h8
 |6=>simp at h8
 |n+7=>simp at h8
theorem pb_zn {w':World}{p:PcV}{s1:Bool}{len cap:Nat}{z:Int}(y:PB w r p)(ho:Only r w w')(h:Zn w s1 ad len cap z):Zn w' s1 ad len cap z:=by
 obtain⟨n,⟨zs,h1,h2,h3⟩,h4⟩:=h
 exact⟨n,⟨zs,h1.only ho (pb_apart y h1),h2,h3⟩,h4⟩
theorem pb_nls {w':World}{p:PcV}{n:Nat}{P:List Nat}(y:PB w r p)(ho:Only r w w')(h:NLs w ad n P):NLs w' ad n P:=by
 obtain⟨h1,h2⟩:=h
 refine⟨h1,?_⟩
 by_cases h0:n=0
 ·exact .inl h0
 obtain h2|⟨b,e,hb,hc⟩:=h2
 ·exact .inl h2
 have hne:b≠r:=by
  rintro rfl
  have h3:=hc 0 o_m
  rw[y.all.1]at h3
  cases h3
 exact .inr ⟨b,e,by rw[ho.size];exact hb,fun i hi=>by rw[World.cell?_of_block (w:=w) (ho.block b hne)];exact hc i hi⟩
end Pd
namespace Pd

def PcO (w:World)(D:PD)(z1:ZV)(L:Nat)(x n:Int)(e:Ending)(w':World):Prop:=Below w.heap.size w w'∧∃(p:PcV) (m:Nat),e= .returned p.val∧p.f=z1∧p.per=D.p∧(m:Int)=(if n<(D.p:Int)then n else D.p)∧p.il=(plL (mem D) x m).length∧(p.il≤p.ic∧p.ic≤9223372036854775807)∧NLs w' p.ia p.il (plL (mem D) x m)∧Zn w' p.h.s p.h.a p.h.l p.h.c (n / D.p)∧p.h.l≤L+3∧(p.r:Int)=n%D.p
theorem st_p {v w:World}{b:Nat}{p0:PcV}(k:Below v.heap.size v w)(hb:v.heap.size≤b)(h:PB w b p0)(f:ZV)(per:Nat)(ia:Option Addr)(il ic:Nat)(z:ZV)(r:Nat):
  ∃w8,Hid (((((((w.setCell ⟨b,0,none⟩ (.bool f.s)).setCell ⟨b,1,none⟩ (.slice f.a f.l f.c)).setCell ⟨b,2,none⟩ (.int .i64 per)).setCell ⟨b,3,none⟩ (.slice ia il ic)).setCell ⟨b,4,none⟩ (.bool z.s)).setCell ⟨b,5,none⟩ (.slice z.a z.l z.c)).setCell ⟨b,6,none⟩ (.int .i64 r)=w8)∧PB w8 b ⟨f,per,ia,il,ic,z,r⟩∧Below v.heap.size v w8∧Only b w w8:=
 ⟨_,rfl,pb_fin h ⟨f,per,ia,il,ic,z,r⟩,pset_below k hb ⟨f,per,ia,il,ic,z,r⟩,pset_only w b ⟨f,per,ia,il,ic,z,r⟩⟩
theorem pieceOf_n {w:World}{bS:Nat}{D:PD}{z1 z2:ZV}{x n:Int}(hS:PS w bS D)(hf:D.cs.length≤1073741823)(hx:Zm w z1.s z1.a z1.l z1.c x)(hl1:z1.l≤17179869184)(hn:Zm w z2.s z2.a z2.l z2.c n)(hl2:z2.l≤17179869184)(h0:0≤n):
  Calls Tryz.prog 108 #[.pointer (some ⟨bS,0,none⟩),.agg #[.bool z1.s,.slice z1.a z1.l z1.c],.agg #[.bool z2.s,.slice z2.a z2.l z2.c]] w fun e w'=>PcO w D z1 z2.l x n e w':=by
 have hp1:1≤D.p:=hS.wf.p1
 have hp2:D.p≤4096:=hS.wf.p2
 have b1:=below_alloc w (.cells #[.bool z1.s,.slice z1.a z1.l z1.c] 38)
 have b2:=below_alloc (w.alloc (.cells #[.bool z1.s,.slice z1.a z1.l z1.c] 38)) (.cells #[.bool z2.s,.slice z2.a z2.l z2.c] 38)
 have b3:=below_alloc ((w.alloc (.cells #[.bool z1.s,.slice z1.a z1.l z1.c] 38)).alloc (.cells #[.bool z2.s,.slice z2.a z2.l z2.c] 38)) (.cells #[.bool false,.slice none 0 0,.int .i64 0,.slice none 0 0,.bool false,.slice none 0 0,.int .i64 0] 99)
 have y1:=((zb_new w z1.s z1.a z1.l z1.c).below b2).below b3
 have y2:=(zb_new (w.alloc (.cells #[.bool z1.s,.slice z1.a z1.l z1.c] 38)) z2.s z2.a z2.l z2.c).below b3
 have y3:PB _ _ pc0:=heap_alloc_new ((w.alloc (.cells #[.bool z1.s,.slice z1.a z1.l z1.c] 38)).alloc (.cells #[.bool z2.s,.slice z2.a z2.l z2.c] 38)) (.cells #[.bool false,.slice none 0 0,.int .i64 0,.slice none 0 0,.bool false,.slice none 0 0,.int .i64 0] 99)
 rw[show(w.alloc (.cells #[.bool z1.s,.slice z1.a z1.l z1.c] 38)).heap.size=w.heap.size+1 by simp]at y2
 rw[show((w.alloc (.cells #[.bool z1.s,.slice z1.a z1.l z1.c] 38)).alloc (.cells #[.bool z2.s,.slice z2.a z2.l z2.c] 38)).heap.size=w.heap.size+2 by simp]at y3
 have k0:=hide (grow_step b3 (grow_step b2 b1))
 have hx0:=hide (hx.below k0.out)
 have hn0:=hide (hn.below k0.out)
 have hS0:=hide (hS.below k0.out)
 have hper:=hide (period_n (hS.below k0.out))
 have hmod:=hide (And.intro (Int.emod_nonneg n (show(D.p:Int)≠0 by omega)) (Int.emod_lt_of_pos n (show(0:Int)<D.p by omega)))
 replace y1:=hide y1
 replace y2:=hide y2
 replace y3:=hide y3
 clear b1 b2 b3 hS hx hn
 go_enter Tryz.func108,Tryz.ntmps108
 go_wp2_with fail
 generalize ((w.alloc (.cells #[.bool z1.s,.slice z1.a z1.l z1.c] 38)).alloc (.cells #[.bool z2.s,.slice z2.a z2.l z2.c] 38)).alloc (.cells #[.bool false,.slice none 0 0,.int .i64 0,.slice none 0 0,.bool false,.slice none 0 0,.int .i64 0] 99)=w0 at*
 obtain⟨bx,hbx⟩: ∃bx,w.heap.size=bx:=⟨_,rfl⟩
 rw[hbx]at y1 y2 y3 ⊢
 have hbw:Hid (w.heap.size=bx):=hide hbx
 have hbl:=y3.out.lt
 clear hbx
 refine hper.out.mono ?_
 rintro e w1 ⟨rfl,rfl⟩
 clear hper
 have hof:=fun u:World=>hide (zof_n (D.p:Int) o_m o_m u)
 go_upto_region 2 with(fail)
 rw[show bx+1+1=bx+2 from rfl]
 go_cut [8,9] (fun v8 v9 wc=> ∃(b5 b6:Nat) (zq zr:ZV),v8= .pointer (some ⟨b5,0,none⟩)∧v9= .pointer (some ⟨b6,0,none⟩)∧Hid (ZB wc b5 zq.s zq.a zq.l zq.c)∧Hid (ZB wc b6 zr.s zr.a zr.l zr.c)∧Hid (Zn wc zq.s zq.a zq.l zq.c (n / D.p))∧Hid (Zn wc zr.s zr.a zr.l zr.c (n%D.p))∧zq.l≤z2.l+3∧zr.l≤2∧w1.heap.size≤b5∧Hid (Below w1.heap.size w1 wc))
 case first=>
  refine wp_region_held_drew (S:=(fun w'=>w'.cell? ⟨(bx+1),0,none⟩=some (.bool z2.s)∧w'.cell? ⟨(bx+1),1,none⟩=some (.slice z2.a z2.l z2.c))) k_f (⟨(y2.out.below (grow_drew (Below.refl _ _))).c0,(y2.out.below (grow_drew (Below.refl _ _))).c1⟩) (fun hHeld=> ?_)
  show wpAnyH _ _ _ _ _ 13 _ _ _
  have kW:=grow_drew (Below.refl w1.heap.size w1)
  generalize w1.drew=wQ at*
  repeat' first
   |with_reducible exact AllReadyH.nil
   |(
    refine tkz 0 16 ?_
    (try simp only[pz]))
   |(
    refine tkz 1 17 ?_
    (try simp only[pz]))
   |(
    refine tkz 4 15 ?_
    (try simp only[pz]))
   |(
    refine tkz 5 20 ?_
    (try simp only[pz]))
   |(
    refine tkz 6 21 ?_
    (try simp only[pz]))
   |(
    refine tkz 7 22 ?_
    (try simp only[pz]))
   |(refine wpAnyH_ready (rs:=[2,8,9]) ?_ ?_ ?_;decide+kernel;simp)
   |(refine wpAnyH_ready (rs:=[3,8,9]) ?_ ?_ ?_;decide+kernel;simp)
   |(refine wpAnyH_ready (rs:=[8,9]) ?_ ?_ ?_;decide+kernel;simp)
   |(refine wpAnyH_ready (rs:=[9]) ?_ ?_ ?_;decide+kernel;simp)
   |(refine wpAnyH_ready (rs:=[10]) ?_ ?_ ?_;decide+kernel;simp)
   |(refine wpAnyH_ready (rs:=[11]) ?_ ?_ ?_;decide+kernel;simp)
   |(refine wpAnyH_ready (rs:=[12]) ?_ ?_ ?_;decide+kernel;simp)
   |(refine wpAnyH_ready (rs:=[8]) ?_ ?_ ?_;decide+kernel;simp)
   |(refine wpAnyH_ready (rs:=[3,9]) ?_ ?_ ?_;decide+kernel;simp)
   |(refine wpAnyH_ready (rs:=[3]) ?_ ?_ ?_;decide+kernel;simp)
   |(refine wpAnyH_ready (rs:=[3,8]) ?_ ?_ ?_;decide+kernel;simp)
   |(refine wpAnyH_ready (rs:=[2,9]) ?_ ?_ ?_;decide+kernel;simp)
   |(refine wpAnyH_ready (rs:=[2]) ?_ ?_ ?_;decide+kernel;simp)
   |(refine wpAnyH_ready (rs:=[2,8]) ?_ ?_ ?_;decide+kernel;simp)
   |(
    first
     |(
      refine AllReadyH.cons (i:=2) (o:=⟨some 18,_,_,_,_,_⟩) rfl (fun K hK=> ?_) ?_
      go_simp
      go_at_call 62;refine Calls.mono (hof _).out ?_;rintro e wA ⟨sA,aA,lA,cA,rfl,hzA,kA,hlA⟩
      try have hzQ:=hzQ.below kA
      try have hzR:=hzR.below kA
      try have z5:=z5.below kA
      try have z6:=z6.below kA
      have kW:=grow_step kA kW
      try go_wp2_with fail)
     |(
      refine AllReadyH.cons (i:=3) (o:=⟨some 19,_,_,_,_,_⟩) rfl (fun K hK=> ?_) ?_
      go_simp
      go_at_call 127;refine Calls.mono (zdivmod_n (hn0.out.below kW) hzA.zm o_m o_m o_m) ?_;rintro e wB ⟨sq,aq,lq,cq,sr,ar,lr,cr,qv,rv,rfl,hzQ,hzR,hFD,kB,hlq,hlr⟩
      try have hzA:=hzA.below kB
      try have z5:=z5.below kB
      try have z6:=z6.below kB
      have kW:=grow_step kB kW
      try go_wp2_with fail)
     |(
      refine AllReadyH.cons (i:=8) (o:=⟨some 8,_,_,_,_,_⟩) rfl (fun K hK=> ?_) ?_
      try have hne:=Nat.ne_of_gt z6.lt
      obtain⟨wL,eL,z5,hbz5,kL,kW⟩:=al_z kW
      try have hzA:=hzA.below kL
      try have hzQ:=hzQ.below kL
      try have hzR:=hzR.below kL
      try have z6:=z6.below kL
      go_simp
      rw[eL.out])
     |(
      refine AllReadyH.cons (i:=9) (o:=⟨some 9,_,_,_,_,_⟩) rfl (fun K hK=> ?_) ?_
      try have hne:=Nat.ne_of_lt z5.lt
      obtain⟨wL,eL,z6,hbz6,kL,kW⟩:=al_z kW
      try have hzA:=hzA.below kL
      try have hzQ:=hzQ.below kL
      try have hzR:=hzR.below kL
      try have z5:=z5.below kL
      go_simp
      rw[eL.out])
     |(
      refine AllReadyH.cons (i:=10) (o:=⟨none,_,_,_,_,_⟩) rfl (fun K hK=> ?_) ?_
      have f0:=z5.c0
      have f1:=z5.c1
      have f2:=z5.f 0
      have f3:=z5.f 1
      go_simp
      have hzR:=zb_zn z5 hzR sq aq lq cq
      have hzQ:=zb_zn z5 hzQ sq aq lq cq
      have z6:=z6.only (only2 _ _ (.bool sq) (.slice aq lq cq)) hne.symm
      have z5:=zb_fin z5 sq aq lq cq
      have kW:=(kW.setCell (p:=⟨_,0,none⟩) hbz5 (.bool sq)).setCell (p:=⟨_,1,none⟩) hbz5 (.slice aq lq cq))
     |(
      refine AllReadyH.cons (i:=11) (o:=⟨none,_,_,_,_,_⟩) rfl (fun K hK=> ?_) ?_
      have f0:=z6.c0
      have f1:=z6.c1
      have f2:=z6.f 0
      have f3:=z6.f 1
      go_simp
      have hzR:=zb_zn z6 hzR sr ar lr cr
      have hzQ:=zb_zn z6 hzQ sr ar lr cr
      have z5:=z5.only (only2 _ _ (.bool sr) (.slice ar lr cr)) hne
      have z6:=zb_fin z6 sr ar lr cr
      have kW:=(kW.setCell (p:=⟨_,0,none⟩) hbz6 (.bool sr)).setCell (p:=⟨_,1,none⟩) hbz6 (.slice ar lr cr))
     |(
      refine AllReadyH.cons (i:=12) (o:=⟨some 10,_,_,_,_,_⟩) rfl (fun K hK=> ?_) ?_
      go_simp)
    refine hK.out _ _ ?_ ?_
    ·first|with_reducible exact trivial|((try dsimp only);exact⟨(y2.out.below kW).c0,(y2.out.below kW).c1⟩)
    clear hK K hHeld;intro hHeld
    (try simp only[pz]))
  all_goals
   refine wpAnyH_done ?_ ?_ _
   ·decide+kernel
   obtain⟨eq1,eq2⟩:=fd_div hFD o_m
   subst eq1
   subst eq2
   replace z5:=hide z5
   replace z6:=hide z6
   replace hzQ:=hide hzQ
   replace hzR:=hide hzR
   replace kW:=hide kW
   clear hHeld hzA hof hFD
   go_wp2_with fail
   go_meet
   case rel=>exact⟨_,_,⟨sq,aq,lq,cq⟩,⟨sr,ar,lr,cr⟩,rfl,rfl,z5,z6,hzQ,hzR,hlq,by show lr≤2;omega,hbz5,kW⟩
 case rest=>
  obtain⟨b5,b6,⟨sq,aq,lq,cq⟩,⟨sr,ar,lr,cr⟩,rfl,rfl,z5,z6,hzQ,hzR,hlq,hlr,hb5,kW⟩:=hcut
  dsimp only at z5 z6 hzQ hzR hlq hlr
  obtain⟨r,hr⟩: ∃r:Nat,n%(D.p:Int)=r:=⟨(n%(D.p:Int)).toNat,by have:=hmod.out;omega⟩
  rw[hr]at hzR
  replace hr:=hide hr
  obtain⟨m,hmE⟩: ∃m:Nat,(if n<(D.p:Int)then n else D.p)=m:=⟨(if n<(D.p:Int)then n else D.p).toNat,by split <;> omega⟩
  have hm:m≤4096:=by split at hmE <;> omega
  replace hmE:=hide hmE
  have r0:=z6.out.c0
  have r1:=z6.out.c1
  have hi:=hide (zint64_in hzR.out.zm o_m (by have:=hmod.out;have:=hr.out;omega) (by have:=hmod.out;have:=hr.out;omega))
  clear z6 hzR
  generalize wc=wC at*
  go_wp2_with fail
  refine hi.out.mono ?_
  rintro e wZ ⟨rfl,kZ⟩
  have kV:=grow_step kZ kW.out
  have z5z:=hide (z5.out.below kZ)
  have hzQZ:=hide (hzQ.out.below kZ)
  have y1z:=hide (y1.out.below kV)
  have y2z:=hide (y2.out.below kV)
  have y3z:=hide (y3.out.below kV)
  have hxZ:=hide (hx0.out.below kV)
  have hnZ:=hide (hn0.out.below kV)
  have hSZ:=hide (hS0.out.below kV)
  have kw:=hide (grow_step kV k0.out)
  clear hi kZ kV kW r0 r1 z5 hzQ y1 y2 y3 hx0 hn0 hS0 k0
  go_upto_region 4 with(fail)
  refine wp_region_held_drew (S:=(fun w'=>(w'.cell? ⟨bx,0,none⟩=some (.bool z1.s)∧w'.cell? ⟨bx,1,none⟩=some (.slice z1.a z1.l z1.c))∧(w'.cell? ⟨(bx+1),0,none⟩=some (.bool z2.s)∧w'.cell? ⟨(bx+1),1,none⟩=some (.slice z2.a z2.l z2.c))∧(w'.cell? ⟨b5,0,none⟩=some (.bool sq)∧w'.cell? ⟨b5,1,none⟩=some (.slice aq lq cq)))) k_f (⟨⟨(y1z.out.below (grow_drew (Below.refl _ _))).c0,(y1z.out.below (grow_drew (Below.refl _ _))).c1⟩,⟨(y2z.out.below (grow_drew (Below.refl _ _))).c0,(y2z.out.below (grow_drew (Below.refl _ _))).c1⟩,⟨(z5z.out.below (grow_drew (Below.refl _ _))).c0,(z5z.out.below (grow_drew (Below.refl _ _))).c1⟩⟩) (fun hHeld=> ?_)
  show wpAnyH _ _ _ _ _ 12 _ _ _
  have kW:=grow_drew (Below.refl wZ.heap.size wZ)
  generalize wZ.drew=wQ at*
  have y1W:=y1z.out.below kW
  have y2W:=y2z.out.below kW
  have z5W:=z5z.out.below kW
  refine tkz 0 28 ?_
  (try simp only[pz])
  refine tkz 1 29 ?_
  (try simp only[pz])
  refine tkz 2 30 ?_
  (try simp only[pz])
  refine tkz 3 31 ?_
  (try simp only[pz])
  refine tkz 4 32 ?_
  (try simp only[pz])
  refine tkz 5 33 ?_
  (try simp only[pz])
  refine tkz 8 36 ?_
  (try simp only[pz])
  refine tkz 9 37 ?_
  (try simp only[pz])
  refine ryz 6 (some 34) (fun K hK=> ?_) AllReadyH.nil
  go_simp
  go_at_call 121;refine Calls.mono (catMost_n (bd:=D.p) (hnZ.out.below kW) o_m h0 o_m) ?_;rintro e wM ⟨he,kM⟩;rw[hmE.out]at he;subst he
  have kW:=grow_step kM kW
  have y1W:=y1z.out.below kW
  have y2W:=y2z.out.below kW
  have z5W:=z5z.out.below kW
  try go_wp2_with fail
  refine hK.out _ _ ?_ ?_
  ·first|with_reducible exact trivial|((try dsimp only);exact⟨⟨y1W.c0,y1W.c1⟩,⟨y2W.c0,y2W.c1⟩,⟨z5W.c0,z5W.c1⟩⟩)
  clear hK K hHeld;intro hHeld
  (try simp only[pz])
  refine ryz 7 (some 35) (fun K hK=> ?_) AllReadyH.nil
  go_simp
  go_at_call 140;refine Calls.mono (places_n (n:=m) (hSZ.out.below kW) hf (hxZ.out.below kW) o_m o_m) ?_;rintro e wP ⟨pa,pc,rfl,hcp,hnl,kP⟩;replace hcp:=hide hcp
  have kW:=grow_step kP kW
  have y1W:=y1z.out.below kW
  have y2W:=y2z.out.below kW
  have z5W:=z5z.out.below kW
  try go_wp2_with fail
  refine hK.out _ _ ?_ ?_
  ·first|with_reducible exact trivial|((try dsimp only);exact⟨⟨y1W.c0,y1W.c1⟩,⟨y2W.c0,y2W.c1⟩,⟨z5W.c0,z5W.c1⟩⟩)
  clear hK K hHeld;intro hHeld
  (try simp only[pz])
  refine tkz 10 38 ?_
  (try simp only[pz])
  refine ryz 11 none (fun K hK=> ?_) AllReadyH.nil
  have yrW:=y3z.out.below kW
  obtain⟨g0,g1,g2,g3,g4,g5,g6⟩:=yrW.all
  have f0:=yrW.fz 0
  have f1:=yrW.fz 1
  have f2:=yrW.fz 2
  have f3:=yrW.fz 3
  have f4:=yrW.fz 4
  have f5:=yrW.fz 5
  have f6:=yrW.fz 6
  generalize hpl:plL (mem D) x m=P at*
  obtain⟨w8,e8,hfin,kf,ho⟩:=st_p (grow_step kW kw.out) (b:=bx+2) (by rw[hbw.out];omega) yrW z1 D.p pa P.length pc ⟨sq,aq,lq,cq⟩ r
  have hF:=pb_zn yrW ho (hzQZ.out.below kW)
  have hN:=pb_nls yrW ho hnl
  have y1W:=y1W.only ho o_m
  have y2W:=y2W.only ho o_m
  have z5W:=z5W.only ho o_m
  go_simp
  rw[e8.out]
  clear f0 f1 f2 f3 f4 f5 f6 g0 g1 g2 g3 g4 g5 g6
  refine hK.out _ _ ?_ ?_
  ·first|with_reducible exact trivial|((try dsimp only);exact⟨⟨y1W.c0,y1W.c1⟩,⟨y2W.c0,y2W.c1⟩,⟨z5W.c0,z5W.c1⟩⟩)
  clear hK K hHeld;intro hHeld
  (try simp only[pz])
  refine wpAnyH_done ?_ ?_ _
  ·decide+kernel
  replace kf:=hide kf
  replace hF:=hide hF
  replace hN:=hide hN
  replace hfin:=hide hfin
  clear kW hHeld yrW y1W y2W z5W ho hnl e8
  go_wp2
  refine bodyPost_ret (results_cell_row rfl _ _ (bx+2) 99 _ (0,0) _ rfl hfin.out Tryz.underlying99 rfl k_f) rfl ?_
  unfold PcO
  refine⟨kf.out,⟨z1,D.p,pa,P.length,pc,⟨sq,aq,lq,cq⟩,r⟩,m,?_,rfl,rfl,hmE.out.symm,?_,?_,?_,?_,hlq,hr.out.symm⟩
  ·simp
  ·rw[hpl]
  ·exact hcp.out
  ·rw[hpl];exact hN.out
  exact hF.out
end Pd
end Go.Proofs.YtaafoppaepcaeaaGreat

namespace Go.Proofs.YtaafoppaepcaeaaGreat
open Go.RowKit
namespace Pd

variable {hi c f:Int}{cs:List Int}
def pcs (hi:Int):List Int→Int→List (Int × Int)
 | [],f=> [(f,hi+1-f)]
 |c::cs,f=>if c≤f then pcs hi cs f else if hi<c then [(f,hi+1-f)]else(f,c-f)::pcs hi cs c
theorem pcs_old (h:c≤f):pcs hi (c::cs) f=pcs hi cs f:=by simp only[pcs];rw[if_pos h]
theorem pcs_far (h1: ¬c≤f)(h2:hi<c):pcs hi (c::cs) f= [(f,hi+1-f)]:=by simp only[pcs];rw[if_neg h1,if_pos h2]
theorem pcs_cut (h1: ¬c≤f)(h2: ¬hi<c):pcs hi (c::cs) f=(f,c-f)::pcs hi cs c:=by simp only[pcs];rw[if_neg h1,if_neg h2]
theorem pcs_ok (hup:cs.Pairwise (· < ·))(hf:f≤hi): ∀q∈pcs hi cs f,f≤q.1∧1≤q.2∧q.1+q.2≤hi+1∧∀s∈cs,¬(q.1<s∧s<q.1+q.2):=by
 induction cs generalizing f with
 |nil=>
  intro q hq
  obtain rfl:=List.mem_singleton.1 hq
  exact⟨Int.le_refl _,by dsimp only;omega,by dsimp only;omega,fun s hs=>by cases hs⟩
 |cons c cs ih=>
  have hup2:=(List.pairwise_cons.1 hup).2
  have hlt:=(List.pairwise_cons.1 hup).1
  intro q hq
  by_cases h1:c≤f
  ·rw[pcs_old h1]at hq
   obtain⟨a1,a2,a3,a4⟩:=ih hup2 hf q hq
   refine⟨a1,a2,a3,fun s hs=> ?_⟩
   rcases List.mem_cons.1 hs with rfl|hs
   ·omega
   exact a4 s hs
  by_cases h2:hi<c
  ·rw[pcs_far h1 h2]at hq
   obtain rfl:=List.mem_singleton.1 hq
   refine⟨Int.le_refl _,by dsimp only;omega,by dsimp only;omega,fun s hs=> ?_⟩
   dsimp only
   rcases List.mem_cons.1 hs with rfl|hs
   ·omega
   have:=hlt s hs
   omega
  rw[pcs_cut h1 h2]at hq
  rcases List.mem_cons.1 hq with rfl|hq
  ·refine⟨Int.le_refl _,by dsimp only;omega,by dsimp only;omega,fun s hs=> ?_⟩
   dsimp only
   rcases List.mem_cons.1 hs with rfl|hs
   ·omega
   have:=hlt s hs
   omega
  obtain⟨a1,a2,a3,a4⟩:=ih hup2 o_m q hq
  refine⟨by omega,a2,a3,fun s hs=> ?_⟩
  rcases List.mem_cons.1 hs with rfl|hs
  ·omega
  exact a4 s hs
theorem pcs_len (hi:Int)(cs:List Int)(f:Int):(pcs hi cs f).length≤cs.length+1:=by
 induction cs generalizing f with
 |nil=>exact Nat.le_refl _
 |cons c cs ih=>
  by_cases h1:c≤f
  ·rw[pcs_old h1]
   have:=ih f
   simp only[List.length_cons]
   omega
  by_cases h2:hi<c
  ·rw[pcs_far h1 h2]
   simp
  rw[pcs_cut h1 h2]
  have:=ih c
  simp only[List.length_cons]
  omega
def cntQ (f:Int→Bool)(q:Int × Int):Nat:=cntm f q.1 q.2.toNat
def cntS (f:Int→Bool):List (Int × Int)→Nat
 | []=>0
 |q::l=>cntQ f q+cntS f l
theorem cntS_snoc (f:Int→Bool)(l:List (Int × Int))(q:Int × Int):cntS f (l++ [q])=cntS f l+cntQ f q:=by
 induction l with
 |nil=>simp[cntS]
 |cons a l ih=>simp only[List.cons_append,cntS,ih];omega
theorem cntS_pcs (g:Int→Bool){hi:Int}{cs:List Int}{f:Int}(hf:f≤hi):cntS g (pcs hi cs f)=cntI g f hi:=by
 have hone:cntS g [(f,hi+1-f)]=cntI g f hi:=by
  simp only[cntS,cntQ,cntI,Nat.add_zero]
  congr 1
  omega
 induction cs generalizing f with
 |nil=>exact hone
 |cons c cs ih=>
  by_cases h1:c≤f
  ·rw[pcs_old h1]
   exact ih hf hone
  by_cases h2:hi<c
  ·rw[pcs_far h1 h2]
   exact hone
  rw[pcs_cut h1 h2]
  simp only[cntS]
  have hone2:cntS g [(c,hi+1-c)]=cntI g c hi:=by
   simp only[cntS,cntQ,cntI,Nat.add_zero]
   congr 1
   omega
  rw[ih o_m hone2,←cntI_parts g (a:=f) (b:=c-1) (c:=hi) o_m o_m,show c-1+1=c by omega]
  congr 1
  simp only[cntQ,cntI]
  congr 1
  omega
theorem pc_per {D:PD}{x:Int}{n:Int}(h: ∀s∈D.cs,¬(x<s∧s<x+n)): ∀k:Nat,k+D.p<n.toNat→mem D (x+k+D.p)=mem D (x+k):=fun k hk=>
 sg_up (D:=D) (x+k) fun s hs h2=>h s hs o_m
theorem pc_cnt {D:PD}{x:Int}{n:Int}(hp:1≤D.p)(hn:0≤n)(h: ∀s∈D.cs,¬(x<s∧s<x+n)){m r:Nat}(hm:(m:Int)=if n<(D.p:Int)then n else D.p)(hr:(r:Int)=n%D.p):
  n / D.p*((plL (mem D) x m).length:Nat)+(lowN (plL (mem D) x m) r:Nat)=(cntQ (mem D) (x,n):Nat):=by
 obtain⟨N,rfl⟩:=Int.eq_ofNat_of_zero_le hn
 have e1:(N:Int) / (D.p:Int)=((N / D.p:Nat):Int):=rfl
 have e2:r=N%D.p:=by omega
 have hmod:=Nat.mod_lt N (show 0<D.p by omega)
 have hdm:=Nat.div_add_mod N D.p
 rw[e1,plL_len]
 simp only[cntQ,Int.toNat_natCast]
 by_cases hlt:N<D.p
 ·have hm2:m=N:=by rw[if_pos o_m]at hm;omega
  subst hm2
  rw[Nat.div_eq_of_lt hlt,lowN_pl _ _ o_m,e2,Nat.mod_eq_of_lt hlt]
  omega
 have hm2:m=D.p:=by rw[if_neg o_m]at hm;omega
 rw[hm2,lowN_pl _ _ o_m,e2]
 have:=cntm_per (f:=mem D) (lo:=x) (p:=D.p) (L:=N) (fun k hk=>pc_per h k (by simpa using hk)) (N / D.p) (N%D.p) (by rw[Nat.mul_comm];omega)
 rw[show N / D.p*D.p+N%D.p=N by rw[Nat.mul_comm];exact hdm]at this
 rw[this]
 omega
end Pd
namespace Pd

theorem plL_add (f:Int→Bool)(x:Int)(m n:Nat):plL f x (m+n)=plL f x m++(plL f (x+m) n).map fun k=>m+k:=by
 unfold plL
 rw[List.range_add,List.filter_append,List.filter_map]
 congr 2
 refine List.filter_congr fun k _=> ?_
 show f (x+((m+k:Nat):Int))=f (x+(m:Int)+(k:Int))
 congr 1
 omega
theorem plL_congr {f g:Int→Bool}{x y:Int}{n:Nat}(h: ∀k:Nat,k<n→f (x+k)=g (y+k)):plL f x n=plL g y n:=
 List.filter_congr fun k hk=>h k (List.mem_range.1 hk)
def shf (x:Int)(P:List Nat):List Int:=P.map fun k:Nat=>x+(k:Int)
theorem shf_len (x:Int)(P:List Nat):(shf x P).length=P.length:=List.length_map ..
theorem shf_app (x:Int)(P Q:List Nat):shf x (P++Q)=shf x P++shf x Q:=List.map_append
def mems (f:Int→Bool)(x:Int)(n:Nat):List Int:=shf x (plL f x n)
theorem mems_len (f:Int→Bool)(x:Int)(n:Nat):(mems f x n).length=cntm f x n:=by rw[mems,shf_len,plL_len]
theorem mems_add (f:Int→Bool)(x:Int)(m n:Nat):mems f x (m+n)=mems f x m++mems f (x+m) n:=by
 unfold mems
 rw[plL_add,shf_app]
 congr 1
 unfold shf
 rw[List.map_map]
 refine List.map_congr_left fun k _=> ?_
 show x+((m+k:Nat):Int)=x+(m:Int)+(k:Int)
 omega
theorem mems_mem {f:Int→Bool}{x v:Int}{n:Nat}(h:v∈mems f x n):f v=true∧x≤v∧v<x+n:=by
 obtain⟨k,hk,rfl⟩:=List.mem_map.1 h
 obtain⟨h1,h2⟩:=List.mem_filter.1 hk
 have:=List.mem_range.1 h1
 exact⟨h2,by omega,by omega⟩
def repQ (P:List Nat)(x:Int)(p:Nat):Nat→List Int
 |0=> []
 |i+1=>repQ P x p i++shf (x+i*p) P
theorem repQ_mems {f:Int→Bool}{x:Int}{p N:Nat}(h: ∀k:Nat,k+p<N→f (x+k+p)=f (x+k))(i:Nat)(hi:i*p≤N):repQ (plL f x p) x p i=mems f x (i*p):=by
 induction i with
 |zero=>simp[repQ,mems,plL,shf]
 |succ i ih=>
  have e:(i+1)*p=i*p+p:=by rw[Nat.add_mul];omega
  have hsh: ∀j k:Nat,j*p+k<N→f (x+((j*p:Nat):Int)+k)=f (x+k):=by
   intro j
   induction j with
   |zero=>intro k _;simp
   |succ j ihj=>
    intro k hk
    have e2:(j+1)*p=j*p+p:=by rw[Nat.add_mul];omega
    have h1:=h (j*p+k) o_m
    rw[e2,show x+((j*p+p:Nat):Int)+(k:Int)=x+((j*p+k:Nat):Int)+p by omega,h1,←ihj k o_m]
    congr 1
    omega
  have e3:x+(i:Int)*(p:Int)=x+((i*p:Nat):Int):=by rw[Int.natCast_mul]
  simp only[repQ]
  rw[ih o_m,e,mems_add]
  congr 1
  unfold mems
  rw[e3,plL_congr (f:=f) (g:=f) (x:=x+((i*p:Nat):Int)) (y:=x) fun k hk=>hsh i k o_m]
theorem pc_mems {D:PD}{x n:Int}(hp:1≤D.p)(hn:0≤n)(h: ∀s∈D.cs,¬(x<s∧s<x+n)){m r q:Nat}(hm:(m:Int)=if n<(D.p:Int)then n else D.p)(hr:(r:Int)=n%D.p)(hq:(q:Int)=n / D.p):
  repQ (plL (mem D) x m) x D.p q++shf (x+(q:Int)*(D.p:Int)) ((plL (mem D) x m).take (lowN (plL (mem D) x m) r))=mems (mem D) x n.toNat:=by
 obtain⟨N,rfl⟩:=Int.eq_ofNat_of_zero_le hn
 have e1:(N:Int) / (D.p:Int)=((N / D.p:Nat):Int):=rfl
 have e2:r=N%D.p:=by omega
 have e3:q=N / D.p:=by omega
 have hmod:=Nat.mod_lt N (show 0<D.p by omega)
 have hdm:=Nat.div_add_mod N D.p
 rw[Int.toNat_natCast]
 by_cases hlt:N<D.p
 ·have hm2:m=N:=by rw[if_pos o_m]at hm;omega
  subst hm2
  have eq0:q=0:=by rw[e3,Nat.div_eq_of_lt hlt]
  have er:r=m:=by rw[e2,Nat.mod_eq_of_lt hlt]
  subst eq0
  subst er
  rw[lowN_pl _ _ (Nat.le_refl _),List.take_of_length_le (by rw[plL_len];exact Nat.le_refl _)]
  simp[repQ,mems]
 have hm2:m=D.p:=by rw[if_neg o_m]at hm;omega
 subst e3
 rw[hm2,lowN_pl _ _ o_m,e2]
 have hper: ∀k:Nat,k+D.p<N→mem D (x+k+D.p)=mem D (x+k):=fun k hk=>pc_per h k (by simpa using hk)
 have hqp:N / D.p*D.p+N%D.p=N:=by rw[Nat.mul_comm];exact hdm
 have htk:(plL (mem D) x D.p).take (cntm (mem D) x (N%D.p))=plL (mem D) x (N%D.p):=by
  have hs:D.p=N%D.p+(D.p-N%D.p):=by omega
  rw[hs,plL_add,←hs,←plL_len,List.take_left]
 rw[htk,repQ_mems hper (N / D.p) o_m]
 have e4:x+((N / D.p:Nat):Int)*(D.p:Int)=x+((N / D.p*D.p:Nat):Int):=by rw[Int.natCast_mul]
 rw[e4]
 conv=>rhs;rw[←hqp,mems_add]
 congr 1
 unfold mems
 congr 1
 have hsh: ∀j k:Nat,j*D.p+k<N→mem D (x+((j*D.p:Nat):Int)+k)=mem D (x+k):=by
  intro j
  induction j with
  |zero=>intro k _;simp
  |succ j ihj=>
   intro k hk
   have e5:(j+1)*D.p=j*D.p+D.p:=by rw[Nat.add_mul];omega
   have h1:=hper (j*D.p+k) o_m
   rw[e5,show x+((j*D.p+D.p:Nat):Int)+(k:Int)=x+((j*D.p+k:Nat):Int)+D.p by omega,h1,←ihj k o_m]
   congr 1
   omega
 exact plL_congr fun k hk=>(hsh _ k o_m).symm
def memQ (f:Int→Bool)(q:Int × Int):List Int:=mems f q.1 q.2.toNat
theorem memQ_len (f:Int→Bool)(q:Int × Int):(memQ f q).length=cntQ f q:=mems_len f _ _
def memS (f:Int→Bool):List (Int × Int)→List Int
 | []=> []
 |q::l=>memQ f q++memS f l
theorem memS_snoc (f:Int→Bool)(l:List (Int × Int))(q:Int × Int):memS f (l++ [q])=memS f l++memQ f q:=by
 induction l with
 |nil=>simp[memS]
 |cons a l ih=>simp only[List.cons_append,memS,ih,List.append_assoc]
theorem memS_len (f:Int→Bool)(l:List (Int × Int)):(memS f l).length=cntS f l:=by
 induction l with
 |nil=>rfl
 |cons a l ih=>simp only[memS,cntS,List.length_append,memQ_len,ih]
def memI (f:Int→Bool)(lo hi:Int):List Int:=mems f lo (hi-lo+1).toNat
theorem memI_len (f:Int→Bool)(lo hi:Int):(memI f lo hi).length=cntI f lo hi:=mems_len f _ _
theorem memS_pcs (g:Int→Bool){hi:Int}{cs:List Int}{f:Int}(hf:f≤hi):memS g (pcs hi cs f)=memI g f hi:=by
 have hone: ∀f:Int,memS g [(f,hi+1-f)]=memI g f hi:=fun f=>by
  simp only[memS,memQ,memI,List.append_nil]
  congr 1
  omega
 induction cs generalizing f with
 |nil=>exact hone f
 |cons c cs ih=>
  by_cases h1:c≤f
  ·rw[pcs_old h1]
   exact ih hf
  by_cases h2:hi<c
  ·rw[pcs_far h1 h2]
   exact hone f
  rw[pcs_cut h1 h2]
  simp only[memS]
  rw[ih o_m]
  unfold memI memQ
  rw[show(hi-f+1).toNat=(c-f).toNat+(hi-c+1).toNat by omega,mems_add]
  congr 2
  show c=f+((c-f).toNat:Int)
  omega
theorem cntS_le (f:Int→Bool)(a b:List (Int × Int)):cntS f a≤cntS f (a++b):=by
 induction a with
 |nil=>simp[cntS]
 |cons q a ih=>simp only[List.cons_append,cntS];omega
end Pd
end Go.Proofs.YtaafoppaepcaeaaGreat
