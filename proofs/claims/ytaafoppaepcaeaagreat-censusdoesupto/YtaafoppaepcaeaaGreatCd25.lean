/-
 Several texts in one: CrO,CrQ,CrG,CrH,CrI.
-/
import Derived.Test.YtaafoppaepcaeaaGreatCdT
import Derived.Test.YtaafoppaepcaeaaGreatCd24
import Derived.Test.YtaafoppaepcaeaaGreatCd17
import Derived.Test.YtaafoppaepcaeaaGreatCd18
set_option maxRecDepth 100000
set_option maxHeartbeats 12800000
namespace Go.Proofs.YtaafoppaepcaeaaGreat
open Go.RowKit Go.Sort Go.Shelf
namespace Cr
open Pd (PD mem DoR DoR' Blt NoneD pkN clErr jErr MkD)

structure Sim (D:PD) (E:RE):Prop where
 p:D.p=E.p
 has: ∀x,mem D x=mm E x
theorem sim_none {D:PD}(h:NoneD D):Sim D noneE:=⟨h.1,fun x=>by rw[h.2.2,none_mm]⟩
theorem jn_mm {meet:Bool}{A B E:RE}(hA:Wr A)(hB:Wr B)(h:JnR meet A B E)(he:jErr (Nat.lcm A.p B.p)=0):E.p=Nat.lcm A.p B.p∧∀x,mm E x=obm meet (mm A x) (mm B x):=by
 obtain⟨l,-,-,hj,-⟩:=h
 have hq2:Nat.lcm A.p B.p≤4096:=by
  unfold jErr at he
  split at he
  ·exact absurd he (by decide)
  omega
 have hq1:1≤Nat.lcm A.p B.p:=Nat.lcm_pos hA.p1 hB.p1
 exact(jn_end hA hB hq1 hq2 (Nat.dvd_lcm_left ..) (Nat.dvd_lcm_right ..) hj).2
theorem sim_jn {meet:Bool}{A B D:PD}{A' B' E:RE}{err err':Int}(hA:Sim A A')(hB:Sim B B')(wA:Wr A')(wB:Wr B')(h:err=jErr (Nat.lcm A.p B.p))(h1:err=0→D.p=Nat.lcm A.p B.p∧∀x,mem D x=obm meet (mem A x) (mem B x))(h':err'=jErr (Nat.lcm A'.p B'.p))(h2:err'=0→JnR meet A' B' E):err=err'∧(err=0→Sim D E):=by
 rw[hA.p,hB.p]at h
 have e:err=err':=h.trans h'.symm
 refine⟨e,fun e0=> ?_⟩
 obtain⟨a1,a2⟩:=h1 e0
 obtain⟨b1,b2⟩:=jn_mm wA wB (h2 (e.symm.trans e0)) (h'.symm.trans (e.symm.trans e0))
 rw[hA.p,hB.p]at a1
 exact⟨a1.trans b1.symm,fun x=>by rw[a2,b2,hA.has,hB.has]⟩
theorem sim_do' {m:MkD}{A B D:PD}{A' B' E:RE}(k:Nat){err err':Int}(hA:Sim A A')(hB:Sim B B')(wA:Wr A')(wB:Wr B')(h:DoR' m A B k err D)(h':DoE' m A' B' k err' E):err=err'∧(err=0→Sim D E):=by
 match k,h,h' with
 |0,h,h'|1,h,h'=>
  obtain⟨rfl,h1,h2,h3⟩:=h
  obtain⟨rfl,rfl⟩:=h'
  exact⟨rfl,fun _=>⟨h1,fun x=>by rw[h3,above_mm]⟩⟩
 |2,h,h'|3,h,h'=>
  obtain⟨rfl,h1⟩:=h
  obtain⟨rfl,rfl⟩:=h'
  refine⟨rfl,fun e=> ?_⟩
  have hd:m.d≠0:=fun e2=>by
   rw[clErr,if_pos e2]at e
   exact absurd e (by decide)
  rw[h1 e]
  exact⟨by simp[classE,whole],fun x=>by rw[class_mm hd];exact Pd.cls_mem o_m m.x x⟩
 |4,h,h'=>
  obtain⟨rfl,h1,h2,h3⟩:=h
  obtain⟨rfl,rfl⟩:=h'
  exact⟨rfl,fun _=>⟨h1.trans hA.p,fun x=>by rw[h3,rest_mm wA,hA.has]⟩⟩
 |5,h,h'|6,h,h'=>exact sim_jn (meet:=true) hA hB wA wB h.1 (fun e=>⟨(h.2 e).1,fun x=>by rw[obm_true];exact(h.2 e).2.1 x⟩) h'.1 h'.2
 |n+7,h,h'=>exact sim_jn (meet:=false) hA hB wA wB h.1 (fun e=>⟨(h.2 e).1,fun x=>by rw[obm_false];exact(h.2 e).2.1 x⟩) h'.1 h'.2
def SimL (Ds:List PD)(Es:List RE):Prop:=Ds.length=Es.length∧∀j,j<Ds.length→Sim (Ds.getD j ⟨1,[],[]⟩) (Es.getD j ⟨1,[],[]⟩)
theorem getd_mem {α:Type}{l:List α}{j:Nat}(h:j<l.length)(d:α):l.getD j d∈l:=by
 rw[List.getD_eq_getElem?_getD,List.getElem?_eq_getElem h]
 exact List.getElem_mem h
theorem sim_do {m:MkD}{Ds:List PD}{Es:List RE}{D:PD}{E:RE}{err err':Int}(hs:SimL Ds Es)(hn:1≤Ds.length)(hw: ∀E∈Es,Wr E)(h:DoR m Ds err D)(h':DoE m Es err' E):err=err'∧(err=0→Sim D E):=by
 unfold DoR at h
 unfold DoE at h'
 have ha:pkN m.a Ds.length<Ds.length:=by have:=Pd.pkN_lt (c:=m.a) (n:=Ds.length) o_m;omega
 have hb:pkN m.b Ds.length<Ds.length:=by have:=Pd.pkN_lt (c:=m.b) (n:=Ds.length) o_m;omega
 rw[←hs.1]at h'
 exact sim_do' _ (hs.2 _ ha) (hs.2 _ hb) (hw _ (getd_mem (by rw[←hs.1];exact ha) _)) (hw _ (getd_mem (by rw[←hs.1];exact hb) _)) h h'
theorem sim_snoc {Ds:List PD}{Es:List RE}{D:PD}{E:RE}(hs:SimL Ds Es)(h:Sim D E):SimL (Ds++ [D]) (Es++ [E]):=by
 have hl:=hs.1
 refine⟨by simp[hl],fun j hj=> ?_⟩
 simp only[List.length_append,List.length_cons,List.length_nil]at hj
 by_cases e:j<Ds.length
 ·have:=hs.2 j e
  simp only[List.getD_eq_getElem?_getD]at this ⊢
  rwa [List.getElem?_append_left e,List.getElem?_append_left o_m]
 obtain rfl:j=Ds.length:=by omega
 simp only[List.getD_eq_getElem?_getD]
 rw[List.getElem?_append_right (Nat.le_refl _),List.getElem?_append_right o_m]
 simpa [hl] using h
theorem sim_blt {R:List MkD}(i:Nat): ∀{Ds:List PD}{Es:List RE},Blt R i Ds→BltE R i Es→(∀E∈Es,Wr E)→1≤Ds.length∧SimL Ds Es:=by
 induction i with
 |zero=>
  intro Ds Es h h' hw
  obtain⟨D,rfl,hD⟩:=h
  obtain rfl:Es= [noneE]:=h'
  refine⟨Nat.le_refl _,rfl,fun j hj=> ?_⟩
  obtain rfl:j=0:=by simp at hj;omega
  exact sim_none hD
 |succ i ih=>
  intro Ds Es h h' hw
  obtain⟨Ds0,h0,hd⟩:=h
  obtain⟨Es0,h0',hd'⟩:=h'
  have hw0: ∀E∈Es0,Wr E:=fun E hE=>by
   rcases hd' with⟨_,_,_,_,rfl⟩|⟨_,_,rfl⟩
   ·exact hw E hE
   exact hw E (List.mem_append_left _ hE)
  obtain⟨hn,hs⟩:=ih h0 h0' hw0
  rcases hd with⟨err,D,he,hd,rfl⟩|⟨D,hd,rfl⟩ <;> rcases hd' with⟨err',E,he',hd',rfl⟩|⟨E,hd',rfl⟩
  ·exact⟨hn,hs⟩
  ·exact absurd (sim_do hs hn hw0 hd hd').1 he
  ·exact absurd (sim_do hs hn hw0 hd hd').1.symm he'
  exact⟨by simp,sim_snoc hs ((sim_do hs hn hw0 hd hd').2 rfl)⟩
end Cr
end Go.Proofs.YtaafoppaepcaeaaGreat

namespace Go.Proofs.YtaafoppaepcaeaaGreat.Lv
open Go.RowKit

variable {F cap l c l1 c1 l2 c2 Fw:Nat}{w:World}{ad a a1 a2:Option Addr}{n z m:Int}{s:Bool}
def Lo (F:Nat)(ad:Option Addr)(len:Nat):Prop:=len=0∨ ∃b off,ad=some ⟨b,off,none⟩∧F≤b
def Nm (F:Nat)(w:World)(ad:Option Addr)(len cap:Nat)(n:Int):Prop:=Go.Proofs.YtaafoppaepcaeaaGreat.Nm w ad len cap n∧F≤w.heap.size
def Cn (F:Nat)(w:World)(ad:Option Addr)(len cap:Nat)(n:Int):Prop:=Go.Proofs.YtaafoppaepcaeaaGreat.Cn w ad len cap n∧F≤w.heap.size∧Lo F ad len
theorem Cn.nm {len:Nat}(h:Cn F w ad len cap n):Nm F w ad len cap n:=⟨h.1.nm,h.2.1⟩
theorem Nm.below {w':World}{len:Nat}(h:Nm F w ad len cap n)(hb:Below w.heap.size w w'):Nm F w' ad len cap n:=⟨h.1.below hb,Nat.le_trans h.2 hb.size⟩
theorem Cn.len {len:Nat}(h:Cn F w ad len cap n):n=0↔len=0:=h.1.len
theorem out_cn {w':World}{len:Nat}{zs:List Int}(hF:F≤w.heap.size)(h:Out w w' ad len cap zs)(hc:Canon zs)(hv:val zs=n):Cn F w' ad len cap n:=by
 refine⟨Go.Proofs.YtaafoppaepcaeaaGreat.out_cn h hc hv,Nat.le_trans hF h.1.size,?_⟩
 rcases h.2 with⟨_,h1,_⟩|⟨b,xs,h1,h2,_⟩
 ·exact .inl h1
 exact .inr ⟨b,0,h1,Nat.le_trans hF h2⟩
def Zm (F:Nat)(w:World)(s:Bool)(ad:Option Addr)(len cap:Nat)(z:Int):Prop:=∃n,Nm F w ad len cap n∧z=sg s n
def Zn (F:Nat)(w:World)(s:Bool)(ad:Option Addr)(len cap:Nat)(z:Int):Prop:=∃n,Cn F w ad len cap n∧z=sg s n∧(s=true→n≠0)
theorem Zn.old {len:Nat}(h:Zn F w s ad len cap z):Go.Proofs.YtaafoppaepcaeaaGreat.Zn w s ad len cap z:=by
 obtain⟨n,h1,h2⟩:=h;exact⟨n,h1.1,h2⟩
theorem Zn.le {len:Nat}(h:Zn F w s ad len cap z):F≤w.heap.size:=by
 obtain⟨n,h1,h2⟩:=h;exact h1.2.1
theorem Zn.lo {len:Nat}(h:Zn F w s ad len cap z):Lo F ad len:=by
 obtain⟨n,h1,h2⟩:=h;exact h1.2.2
theorem Zn.mk {len:Nat}(h:Go.Proofs.YtaafoppaepcaeaaGreat.Zn w s ad len cap z)(hF:F≤w.heap.size)(hl:Lo F ad len):Zn F w s ad len cap z:=by
 obtain⟨n,h1,h2⟩:=h;exact⟨n,⟨h1,hF,hl⟩,h2⟩
theorem Zm.mk {len:Nat}(h:Go.Proofs.YtaafoppaepcaeaaGreat.Zm w s ad len cap z)(hF:F≤w.heap.size):Zm F w s ad len cap z:=by
 obtain⟨n,h1,h2⟩:=h;exact⟨n,⟨h1,hF⟩,h2⟩
theorem zb_zn {r:Nat}{s1:Bool}{len:Nat}(y:ZB w r s a l c)(h:Zn F w s1 ad len cap z)(s':Bool)(a':Option Addr)(l' c':Nat):
  Zn F ((w.setCell ⟨r,0,none⟩ (.bool s')).setCell ⟨r,1,none⟩ (.slice a' l' c')) s1 ad len cap z:=.mk (Go.Proofs.YtaafoppaepcaeaaGreat.zb_zn y h.old s' a' l' c') (Nat.le_trans h.le (Nat.le_of_eq (by simp))) h.lo
theorem zm_of (h:Nm F w a l c n):Zm F w s a l c (sg s n):=⟨n,h,rfl⟩
theorem trim_n (h:Nm F w a l c n)(hl:l≤1099511627776):
  Calls Tryz.prog 114 #[.slice a l c] w fun e w'=> ∃ad len cap,e= .returned (.slice ad len cap)∧Cn F w' ad len cap n∧Below w.heap.size w w'∧len≤l:=by
 obtain⟨⟨xs,h1,rfl⟩,hF⟩:=h
 refine(trim_any h1 o_m).mono ?_
 rintro e w' ⟨rfl,ho,-⟩
 exact⟨_,_,_,rfl,out_cn hF ho (canon_trim h1.2.2.2.1) (val_trim xs),ho.1,tl_le _ _⟩
theorem rcmp_n (h1:Nm F w a1 l1 c1 m)(h2:Nm F w a2 l2 c2 n):
  Calls Tryz.prog 94 #[.slice a1 l1 c1,.slice a2 l2 c2] w fun e w'=>e= .returned (.int .i64 (cmpI m n))∧Below w.heap.size w w':=Go.Proofs.YtaafoppaepcaeaaGreat.rcmp_n h1.1 h2.1
theorem zn_stand (h:Cn Fw w a l c n):Zn Fw w (s&&decide (0<l)) a l c (sg s n):=by
 have hn:=h.len
 refine⟨n,h,?_,?_⟩
 ·cases s
  ·rfl
  by_cases h0:0<l
  ·simp[h0]
  have:n=0:=hn.2 o_m
  simp[sg,this]
 cases s
 ·intro h;cases h
 intro h h1
 have h0:0<l:=of_decide_eq_true (by simpa using h)
 have:=hn.1 h1;omega
theorem radd_n (h1:Nm Fw w a1 l1 c1 m)(h2:Nm Fw w a2 l2 c2 n)(hl1:l1≤17179869184)(hl2:l2≤17179869184):
  Calls Tryz.prog 93 #[.slice a1 l1 c1,.slice a2 l2 c2] w fun e w'=> ∃ad len cap,e= .returned (.slice ad len cap)∧Cn Fw w' ad len cap (m+n)∧Below w.heap.size w w'∧len≤max l1 l2+1:=by
 obtain⟨⟨xs,h1,rfl⟩,hF⟩:=h1
 obtain⟨⟨ys,h2,rfl⟩,-⟩:=h2
 refine(refadd_any h1 h2 o_m o_m).mono ?_
 rintro e w' ⟨ad,len,cap,zs,rfl,ho,hc,hv,hl⟩
 exact⟨ad,len,cap,rfl,out_cn hF ho hc hv,ho.1,hl⟩
theorem rsub_n (h1:Nm Fw w a1 l1 c1 m)(h2:Nm Fw w a2 l2 c2 n)(hl1:l1≤17179869184)(hge:n≤m):
  Calls Tryz.prog 95 #[.slice a1 l1 c1,.slice a2 l2 c2] w fun e w'=> ∃ad len cap,e= .returned (.slice ad len cap)∧Cn Fw w' ad len cap (m-n)∧Below w.heap.size w w'∧len≤l1:=by
 obtain⟨⟨xs,h1,rfl⟩,hF⟩:=h1
 obtain⟨⟨ys,h2,rfl⟩,-⟩:=h2
 refine(refsub_any h1 h2 o_m hge).mono ?_
 rintro e w' ⟨ad,len,cap,zs,rfl,ho,hc,hv,hl⟩
 exact⟨ad,len,cap,rfl,out_cn hF ho hc hv,ho.1,hl⟩
theorem rnorm_n (h:Zm Fw w s a l c z)(hl:l≤1099511627776):
  Calls Tryz.prog 67 #[.agg #[.bool s,.slice a l c]] w fun e w'=> ∃s' ad len cap,e= .returned (.agg #[.bool s',.slice ad len cap])∧Zn Fw w' s' ad len cap z∧Below w.heap.size w w'∧len≤l:=by
 obtain⟨n,hn,rfl⟩:=h
 go_enter Tryz.func67,Tryz.ntmps67
 go_wp2_with fail
 have x:=(zb_new w s a l c).below (below_alloc _ (.cells #[.bool false,.slice none 0 0] 38))
 have y:=zb_new (w.alloc (.cells #[.bool s,.slice a l c] 38)) false none 0 0
 have b0:Below w.heap.size w ((w.alloc (.cells #[.bool s,.slice a l c] 38)).alloc (.cells #[.bool false,.slice none 0 0] 38)):=below_alloc' (below_alloc _ _) _
 rw[show(w.alloc (.cells #[.bool s,.slice a l c] 38)).heap.size=w.heap.size+1 from by simp]at y
 generalize (w.alloc (.cells #[.bool s,.slice a l c] 38)).alloc (.cells #[.bool false,.slice none 0 0] 38)=wb at*
 have hpr:w.heap.size<w.heap.size+1:=by omega
 replace hn:=hn.below b0
 generalize hp:w.heap.size=p at*
 replace hp:=hide hp
 generalize p+1=r at*
 have hrb:=Nat.le_of_lt y.lt
 refine(trim_n hn hl).mono ?_
 rintro e w' ⟨ad,len,cap,rfl,hc,hg,hl'⟩
 have y':ZB w' r false none 0 0:=ZB.below y gw;have y0:=y'.c0;have y1:=y'.c1;have y2:=y'.f 0;have y3:=y'.f 1
 have u0:=(x.below hg).c0
 have hB:Below p w w':=b0.trans (hg.mono (Nat.le_of_lt (Nat.lt_of_lt_of_le hpr hrb)))
 have hz:=zn_stand (s:=s) hc
 cases s
 ·generalize hs':(false&&decide (0<len))=s' at hz
  simp at hs'
  subst hs'
  go_wp2
  refine bodyPost_ret (results_cell_row rfl _ _ r 38 _ (0,0) _ rfl (zb_fin y' false ad len cap) Tryz.underlying38 rfl k_f) rfl ?_
  exact⟨false,ad,len,cap,by simp,zb_zn y' hz _ _ _ _,hp.out.symm▸(hB.setCell (Nat.le_of_lt hpr) _).setCell (Nat.le_of_lt hpr) _,hl'⟩
 rw[Bool.true_and]at hz
 go_wp2
 refine bodyPost_ret (results_cell_row rfl _ _ r 38 _ (0,0) _ rfl (zb_fin y' (decide (0<len)) ad len cap) Tryz.underlying38 rfl k_f) rfl ?_
 exact⟨_,ad,len,cap,by simp,zb_zn y' hz _ _ _ _,hp.out.symm▸(hB.setCell (Nat.le_of_lt hpr) _).setCell (Nat.le_of_lt hpr) _,hl'⟩
theorem radd2_n {s1 s2:Bool}{z1 z2:Int}(h1:Zm Fw w s1 a1 l1 c1 z1)(h2:Zm Fw w s2 a2 l2 c2 z2)(hl1:l1≤17179869184)(hl2:l2≤17179869184):
  Calls Tryz.prog 48 #[.agg #[.bool s1,.slice a1 l1 c1],.agg #[.bool s2,.slice a2 l2 c2]] w fun e w'=> ∃s' ad len cap,e= .returned (.agg #[.bool s',.slice ad len cap])∧Zn Fw w' s' ad len cap (z1+z2)∧Below w.heap.size w w'∧len≤max l1 l2+1:=by
 obtain⟨m,hm,rfl⟩:=h1
 obtain⟨n,hn,rfl⟩:=h2
 by_cases hs:s1=s2
 ·have hs':(s1==s2)=true:=by simp[hs]
  rw[show sg s1 m+sg s2 n=sg s1 (m+n) from by rw[←hs,sg_add]]
  clear hs
  go_enter Tryz.func48,Tryz.ntmps48
  go_wp2_with fail
  have x:=(zb_new w s1 a1 l1 c1).below (below_alloc' (below_alloc _ (.cells #[.bool s2,.slice a2 l2 c2] 38)) (.cells #[.bool false,.slice none 0 0] 38))
  have x2:=(zb_new (w.alloc (.cells #[.bool s1,.slice a1 l1 c1] 38)) s2 a2 l2 c2).below (below_alloc _ (.cells #[.bool false,.slice none 0 0] 38))
  have y:=zb_new ((w.alloc (.cells #[.bool s1,.slice a1 l1 c1] 38)).alloc (.cells #[.bool s2,.slice a2 l2 c2] 38)) false none 0 0
  have b0:Below w.heap.size w (((w.alloc (.cells #[.bool s1,.slice a1 l1 c1] 38)).alloc (.cells #[.bool s2,.slice a2 l2 c2] 38)).alloc (.cells #[.bool false,.slice none 0 0] 38)):=below_alloc' (below_alloc' (below_alloc _ _) _) _
  rw[show((w.alloc (.cells #[.bool s1,.slice a1 l1 c1] 38)).alloc (.cells #[.bool s2,.slice a2 l2 c2] 38)).heap.size=w.heap.size+2 from by simp]at y
  rw[show(w.alloc (.cells #[.bool s1,.slice a1 l1 c1] 38)).heap.size=w.heap.size+1 from by simp]at x2
  generalize ((w.alloc (.cells #[.bool s1,.slice a1 l1 c1] 38)).alloc (.cells #[.bool s2,.slice a2 l2 c2] 38)).alloc (.cells #[.bool false,.slice none 0 0] 38)=wb at*
  have hpr:w.heap.size<w.heap.size+2:=by omega
  have hqr:w.heap.size+1<w.heap.size+2:=by omega
  have hpq:w.heap.size<w.heap.size+1:=by omega
  replace hm:=hm.below b0
  replace hn:=hn.below b0
  generalize hp:w.heap.size=p at*
  replace hp:=hide hp
  generalize p+2=r at*
  generalize p+1=q at*
  have hrb:=Nat.le_of_lt y.lt
  go_region_held3 (fun w'=>w'.cell? ⟨p,0,none⟩=some (.bool s1)∧w'.cell? ⟨p,1,none⟩=some (.slice a1 l1 c1)∧w'.cell? ⟨q,0,none⟩=some (.bool s2)∧w'.cell? ⟨q,1,none⟩=some (.slice a2 l2 c2)∧Below r wb w')
   ((refine zs2 x x2 hpr hqr ?_;first|(refine Below.mono ?_ hrb;focus ((with_reducible repeat' first|exact Below.refl _ _|assumption|refine grow_step (by assumption) ?_|refine grow_drew ?_|refine grow_alloc ?_ _|refine grow_drewN ?_ _);done))|(refine((Below.mono ?_ hrb).setCell (Nat.le_refl _) _).setCell (Nat.le_refl _) _;focus ((with_reducible repeat' first|exact Below.refl _ _|assumption|refine grow_step (by assumption) ?_|refine grow_drew ?_|refine grow_alloc ?_ _|refine grow_drewN ?_ _);done))))
   (first|(go_at_call 93;with_reducible refine(radd_n (Nm.below hm gw) (Nm.below hn gw) (by omega) (by omega)).mono ?_;rintro e w' ⟨ad,len,cap,rfl,hc,hg,hl'⟩)|(go_at_call 67;with_reducible refine(rnorm_n (zm_of (Nm.below (Cn.nm hc) gw)) (by omega)).mono ?_;rintro e w' ⟨s',ad',len',cap',rfl,hz,hg,hl2'⟩;have y':ZB w' r false none 0 0:=ZB.below y gw;have y0:=y'.c0;have y1:=y'.c1;have y2:=y'.f 0;have y3:=y'.f 1))
  go_wp2
  rename_i hH
  refine bodyPost_ret (results_cell_row rfl _ _ r 38 _ (0,0) _ rfl (zb_fin y' s' ad' len' cap') Tryz.underlying38 rfl k_f) rfl ?_
  exact⟨s',ad',len',cap',by simp,zb_zn y' hz _ _ _ _,hp.out.symm▸(b0.trans (hH.2.2.2.2.mono (Nat.le_of_lt hpr))),by omega⟩
 have hs':(s1==s2)=false:=by simp[hs]
 have hcm:(m<n→cmpI m n<0)∧(¬m<n→0≤cmpI m n):=by unfold cmpI;omega
 by_cases hlt:m<n
 ·rw[←sg_sub2 hs]
  clear hs
  have hcc:=hcm.1 hlt
  clear hcm
  go_enter Tryz.func48,Tryz.ntmps48
  go_wp2_with fail
  have x:=(zb_new w s1 a1 l1 c1).below (below_alloc' (below_alloc _ (.cells #[.bool s2,.slice a2 l2 c2] 38)) (.cells #[.bool false,.slice none 0 0] 38))
  have x2:=(zb_new (w.alloc (.cells #[.bool s1,.slice a1 l1 c1] 38)) s2 a2 l2 c2).below (below_alloc _ (.cells #[.bool false,.slice none 0 0] 38))
  have y:=zb_new ((w.alloc (.cells #[.bool s1,.slice a1 l1 c1] 38)).alloc (.cells #[.bool s2,.slice a2 l2 c2] 38)) false none 0 0
  have b0:Below w.heap.size w (((w.alloc (.cells #[.bool s1,.slice a1 l1 c1] 38)).alloc (.cells #[.bool s2,.slice a2 l2 c2] 38)).alloc (.cells #[.bool false,.slice none 0 0] 38)):=below_alloc' (below_alloc' (below_alloc _ _) _) _
  rw[show((w.alloc (.cells #[.bool s1,.slice a1 l1 c1] 38)).alloc (.cells #[.bool s2,.slice a2 l2 c2] 38)).heap.size=w.heap.size+2 from by simp]at y
  rw[show(w.alloc (.cells #[.bool s1,.slice a1 l1 c1] 38)).heap.size=w.heap.size+1 from by simp]at x2
  generalize ((w.alloc (.cells #[.bool s1,.slice a1 l1 c1] 38)).alloc (.cells #[.bool s2,.slice a2 l2 c2] 38)).alloc (.cells #[.bool false,.slice none 0 0] 38)=wb at*
  have hpr:w.heap.size<w.heap.size+2:=by omega
  have hqr:w.heap.size+1<w.heap.size+2:=by omega
  have hpq:w.heap.size<w.heap.size+1:=by omega
  replace hm:=hm.below b0
  replace hn:=hn.below b0
  generalize hp:w.heap.size=p at*
  replace hp:=hide hp
  generalize p+2=r at*
  generalize p+1=q at*
  have hrb:=Nat.le_of_lt y.lt
  refine(rcmp_n hm hn).mono ?_
  rintro e w1 ⟨rfl,k1⟩
  generalize cmpI m n=cc at*
  have bb:Below p w w1:=b0.trans (k1.mono (Nat.le_of_lt (Nat.lt_of_lt_of_le hpr hrb)))
  replace x:=x.below k1
  replace x2:=x2.below k1
  replace y:=y.below k1
  replace hm:=hm.below k1
  replace hn:=hn.below k1
  replace hrb:=Nat.le_of_lt y.lt
  replace b0:=bb
  clear k1 bb
  generalize w1=wb at*
  go_wp2_with fail
  go_region_held3 (fun w'=>w'.cell? ⟨p,0,none⟩=some (.bool s1)∧w'.cell? ⟨p,1,none⟩=some (.slice a1 l1 c1)∧w'.cell? ⟨q,0,none⟩=some (.bool s2)∧w'.cell? ⟨q,1,none⟩=some (.slice a2 l2 c2)∧Below r wb w')
   ((refine zs2 x x2 hpr hqr ?_;first|(refine Below.mono ?_ hrb;focus ((with_reducible repeat' first|exact Below.refl _ _|assumption|refine grow_step (by assumption) ?_|refine grow_drew ?_|refine grow_alloc ?_ _|refine grow_drewN ?_ _);done))|(refine((Below.mono ?_ hrb).setCell (Nat.le_refl _) _).setCell (Nat.le_refl _) _;focus ((with_reducible repeat' first|exact Below.refl _ _|assumption|refine grow_step (by assumption) ?_|refine grow_drew ?_|refine grow_alloc ?_ _|refine grow_drewN ?_ _);done))))
   (first|(go_at_call 95;with_reducible refine(rsub_n (Nm.below hn gw) (Nm.below hm gw) (by omega) (by omega)).mono ?_;rintro e w' ⟨ad,len,cap,rfl,hc,hg,hl'⟩)|(go_at_call 67;with_reducible refine(rnorm_n (zm_of (Nm.below (Cn.nm hc) gw)) (by omega)).mono ?_;rintro e w' ⟨s',ad',len',cap',rfl,hz,hg,hl2'⟩;have y':ZB w' r false none 0 0:=ZB.below y gw;have y0:=y'.c0;have y1:=y'.c1;have y2:=y'.f 0;have y3:=y'.f 1))
  go_wp2
  rename_i hH
  refine bodyPost_ret (results_cell_row rfl _ _ r 38 _ (0,0) _ rfl (zb_fin y' s' ad' len' cap') Tryz.underlying38 rfl k_f) rfl ?_
  exact⟨s',ad',len',cap',by simp,zb_zn y' hz _ _ _ _,hp.out.symm▸(b0.trans (hH.2.2.2.2.mono (Nat.le_of_lt hpr))),by omega⟩
 rw[←sg_sub1 hs]
 clear hs
 have hcc:=hcm.2 hlt
 clear hcm
 go_enter Tryz.func48,Tryz.ntmps48
 go_wp2_with fail
 have x:=(zb_new w s1 a1 l1 c1).below (below_alloc' (below_alloc _ (.cells #[.bool s2,.slice a2 l2 c2] 38)) (.cells #[.bool false,.slice none 0 0] 38))
 have x2:=(zb_new (w.alloc (.cells #[.bool s1,.slice a1 l1 c1] 38)) s2 a2 l2 c2).below (below_alloc _ (.cells #[.bool false,.slice none 0 0] 38))
 have y:=zb_new ((w.alloc (.cells #[.bool s1,.slice a1 l1 c1] 38)).alloc (.cells #[.bool s2,.slice a2 l2 c2] 38)) false none 0 0
 have b0:Below w.heap.size w (((w.alloc (.cells #[.bool s1,.slice a1 l1 c1] 38)).alloc (.cells #[.bool s2,.slice a2 l2 c2] 38)).alloc (.cells #[.bool false,.slice none 0 0] 38)):=below_alloc' (below_alloc' (below_alloc _ _) _) _
 rw[show((w.alloc (.cells #[.bool s1,.slice a1 l1 c1] 38)).alloc (.cells #[.bool s2,.slice a2 l2 c2] 38)).heap.size=w.heap.size+2 from by simp]at y
 rw[show(w.alloc (.cells #[.bool s1,.slice a1 l1 c1] 38)).heap.size=w.heap.size+1 from by simp]at x2
 generalize ((w.alloc (.cells #[.bool s1,.slice a1 l1 c1] 38)).alloc (.cells #[.bool s2,.slice a2 l2 c2] 38)).alloc (.cells #[.bool false,.slice none 0 0] 38)=wb at*
 have hpr:w.heap.size<w.heap.size+2:=by omega
 have hqr:w.heap.size+1<w.heap.size+2:=by omega
 have hpq:w.heap.size<w.heap.size+1:=by omega
 replace hm:=hm.below b0
 replace hn:=hn.below b0
 generalize hp:w.heap.size=p at*
 replace hp:=hide hp
 generalize p+2=r at*
 generalize p+1=q at*
 have hrb:=Nat.le_of_lt y.lt
 refine(rcmp_n hm hn).mono ?_
 rintro e w1 ⟨rfl,k1⟩
 generalize cmpI m n=cc at*
 have bb:Below p w w1:=b0.trans (k1.mono (Nat.le_of_lt (Nat.lt_of_lt_of_le hpr hrb)))
 replace x:=x.below k1
 replace x2:=x2.below k1
 replace y:=y.below k1
 replace hm:=hm.below k1
 replace hn:=hn.below k1
 replace hrb:=Nat.le_of_lt y.lt
 replace b0:=bb
 clear k1 bb
 generalize w1=wb at*
 go_wp2_with fail
 go_region_held3 (fun w'=>w'.cell? ⟨p,0,none⟩=some (.bool s1)∧w'.cell? ⟨p,1,none⟩=some (.slice a1 l1 c1)∧w'.cell? ⟨q,0,none⟩=some (.bool s2)∧w'.cell? ⟨q,1,none⟩=some (.slice a2 l2 c2)∧Below r wb w')
  ((refine zs2 x x2 hpr hqr ?_;first|(refine Below.mono ?_ hrb;focus ((with_reducible repeat' first|exact Below.refl _ _|assumption|refine grow_step (by assumption) ?_|refine grow_drew ?_|refine grow_alloc ?_ _|refine grow_drewN ?_ _);done))|(refine((Below.mono ?_ hrb).setCell (Nat.le_refl _) _).setCell (Nat.le_refl _) _;focus ((with_reducible repeat' first|exact Below.refl _ _|assumption|refine grow_step (by assumption) ?_|refine grow_drew ?_|refine grow_alloc ?_ _|refine grow_drewN ?_ _);done))))
  (first|(go_at_call 95;with_reducible refine(rsub_n (Nm.below hm gw) (Nm.below hn gw) (by omega) (by omega)).mono ?_;rintro e w' ⟨ad,len,cap,rfl,hc,hg,hl'⟩)|(go_at_call 67;with_reducible refine(rnorm_n (zm_of (Nm.below (Cn.nm hc) gw)) (by omega)).mono ?_;rintro e w' ⟨s',ad',len',cap',rfl,hz,hg,hl2'⟩;have y':ZB w' r false none 0 0:=ZB.below y gw;have y0:=y'.c0;have y1:=y'.c1;have y2:=y'.f 0;have y3:=y'.f 1))
 go_wp2
 rename_i hH
 refine bodyPost_ret (results_cell_row rfl _ _ r 38 _ (0,0) _ rfl (zb_fin y' s' ad' len' cap') Tryz.underlying38 rfl k_f) rfl ?_
 exact⟨s',ad',len',cap',by simp,zb_zn y' hz _ _ _ _,hp.out.symm▸(b0.trans (hH.2.2.2.2.mono (Nat.le_of_lt hpr))),by omega⟩
end Go.Proofs.YtaafoppaepcaeaaGreat.Lv
namespace Go.Proofs.YtaafoppaepcaeaaGreat.Cr
open Go.RowKit
theorem radd2_f {F:Nat}{s1 s2:Bool}{a1 a2:Option Addr}{l1 c1 l2 c2:Nat}{z1 z2:Int}{w:World}(hF:F≤w.heap.size)(h1:Zm w s1 a1 l1 c1 z1)(h2:Zm w s2 a2 l2 c2 z2)(hl1:l1≤17179869184)(hl2:l2≤17179869184):
  Calls Tryz.prog 48 #[.agg #[.bool s1,.slice a1 l1 c1],.agg #[.bool s2,.slice a2 l2 c2]] w fun e w'=> ∃s' ad len cap,e= .returned (.agg #[.bool s',.slice ad len cap])∧Zn w' s' ad len cap (z1+z2)∧Below w.heap.size w w'∧len≤max l1 l2+1∧Lv.Lo F ad len:=
 (Lv.radd2_n (.mk h1 hF) (.mk h2 hF) hl1 hl2).mono fun _ _ ⟨s',ad,len,cap,h1,h2,h3,h4⟩=>⟨s',ad,len,cap,h1,h2.old,h3,h4,h2.lo⟩
end Go.Proofs.YtaafoppaepcaeaaGreat.Cr

namespace Go.Proofs.YtaafoppaepcaeaaGreat
open Go.RowKit Go.Sort Go.Shelf
namespace Cr
open Pd (SN SV ZV plc plc_le al_b)

theorem plc_at {cs:List Int}(hu:cs.Pairwise (· < ·))(a:Int){j:Nat}(hj:j<cs.length):cs[j]≤a↔j<plc cs a:=by
 constructor
 ·intro h
  have e:plc cs a=plc (cs.take (j+1)) a+plc (cs.drop (j+1)) a:=by
   unfold plc
   rw[←List.countP_append,List.take_append_drop]
  have e1:plc (cs.take (j+1)) a=(cs.take (j+1)).length:=Pd.plc_all fun c hc=>by
   obtain⟨i,hi,rfl⟩:=List.mem_iff_getElem.1 hc
   rw[List.length_take]at hi
   rw[List.getElem_take]
   by_cases e:i=j
   ·subst e;exact h
   exact Int.le_trans (Int.le_of_lt (List.pairwise_iff_getElem.1 hu i j o_m hj o_m)) h
  rw[e,e1,List.length_take]
  omega
 intro h
 rcases Int.lt_or_le a cs[j]with hlt|hle
 ·have e:plc cs a=plc (cs.take j) a+plc (cs.drop j) a:=by
   unfold plc
   rw[←List.countP_append,List.take_append_drop]
  have e2:plc (cs.drop j) a=0:=List.countP_eq_zero.2 fun c hc=>by
   have:=lt_drop hu hj hlt c hc
   simp
   omega
  have e1:=plc_le (cs.take j) a
  rw[List.length_take]at e1
  omega
 exact hle
theorem nx_row {E:RE}(h:Wr E){a n:Int}{i:Nat}(hi:plc E.cs a=i)(han:a≤n)(hn: ∀(hlt:i<E.cs.length),n<E.cs[i]):plc E.cs n=i∧mm E n=bit (row E i) (n%E.p).toNat:=by
 have e:plc E.cs n=i:=by
  rw[←hi,←plc_same han]
  intro c hc ⟨h1,h2⟩
  obtain⟨j,hj,rfl⟩:=List.mem_iff_getElem.1 hc
  have:=plc_at h.up a hj
  rw[hi]at this
  by_cases hji:j<i
  ·have:=this.2 hji
   omega
  have h3:=hn o_m
  by_cases e:j=i
  ·subst e;omega
  have:=List.pairwise_iff_getElem.1 h.up i j o_m hj o_m
  omega
 refine⟨e,?_⟩
 unfold mm rowAt
 rw[e]
theorem nx_full {E:RE}(h:Wr E){a:Int}{i:Nat}(hi:plc E.cs a=i)(hno: ∀j:Nat,j<E.p→mm E (a+j)=false)(hin: ∀(hlt:i<E.cs.length) (j:Nat),j<E.p→a+j<E.cs[i]){u:Int}(hau:a≤u)(hu: ∀(hlt:i<E.cs.length),u<E.cs[i]):mm E u=false:=by
 have hp:(0:Int)<(E.p:Int):=by have:=h.p1;omega
 obtain⟨j,hj⟩: ∃j:Nat,(j:Int)=(u-a)%(E.p:Int):=⟨((u-a)%(E.p:Int)).toNat,Int.toNat_of_nonneg (Int.emod_nonneg _ o_m)⟩
 have hjp:j<E.p:=by have:=Int.emod_lt_of_pos (u-a) hp;omega
 have h1:=(nx_row h hi hau hu).2
 have h2:=(nx_row h hi (n:=a+j) o_m (fun hlt=>hin hlt j hjp)).2
 rw[hno j hjp]at h2
 have e:(a+(j:Int))%(E.p:Int)=u%(E.p:Int):=by
  rw[hj,Int.add_emod,Int.emod_emod_of_dvd _ (Int.dvd_refl _),←Int.add_emod]
  congr 1
  omega
 rw[e]at h2
 rw[h1,←h2]
theorem plc_cut {cs:List Int}(hu:cs.Pairwise (· < ·)){i:Nat}(hi:i<cs.length):plc cs cs[i]=i+1:=by
 have h1:=(plc_at hu cs[i] hi).1 (Int.le_refl _)
 have h2:=plc_le cs cs[i]
 by_cases h3:i+1<cs.length
 ·have h4:=plc_at hu cs[i] h3
  have h5:=List.pairwise_iff_getElem.1 hu i (i+1) hi h3 o_m
  by_cases h6:i+1<plc cs cs[i]
  ·have:=h4.2 h6
   omega
  omega
 omega
theorem nx_lt {E:RE}(h:Wr E){a:Int}{i:Nat}(hi:plc E.cs a=i)(hlt:i<E.cs.length):a<E.cs[i]:=by
 have:=plc_at h.up a hlt
 rw[hi]at this
 omega
theorem nx_le {E:RE}(h:Wr E){a:Int}{i:Nat}(hi:plc E.cs a=i)(hlt:i<E.cs.length):a≤E.cs[i]:=Int.le_of_lt (nx_lt h hi hlt)
theorem nx_next {E:RE}(_:Wr E){x a:Int}{i:Nat}(hlt:i<E.cs.length)(h1: ∀u,x≤u→u<a→mm E u=false)(h2: ∀u,a≤u→u<E.cs[i]→mm E u=false): ∀u,x≤u→u<E.cs[i]→mm E u=false:=fun u hu1 hu2=>by
 by_cases hua:u<a
 ·exact h1 u hu1 hua
 exact h2 u o_m hu2
def NsE (w':World)(en:Ending)(f:Int→Bool)(x:Int)(B:Nat):Prop:=
 (∃(v:Int) (z:ZV),x≤v∧(∀u,x≤u→u<v→f u=false)∧f v=true∧en= .returned (.tuple #[.agg #[.bool z.s,.slice z.a z.l z.c],.bool true])∧Zn w' z.s z.a z.l z.c v∧z.l≤B)∨
 ((∀u,x≤u→f u=false)∧en= .returned (.tuple #[.agg #[.bool false,.slice none 0 0],.bool false]))
def NxL (F:Nat)(en:Ending):Prop:=∀z:ZV,en= .returned (.tuple #[.agg #[.bool z.s,.slice z.a z.l z.c],.bool true])→Lv.Lo F z.a z.l
theorem next19_f {B:Nat}(hB:1073741827≤B)(hB2:B≤4294960000){w:World}{v:SV}{E:RE}{s:Bool}{a:Option Addr}{l c:Nat}{x:Int}(h:RS w v E)(hcn:v.cn≤134217728)(hx:Zm w s a l c x)(hl:l≤B):
  Calls Tryz.prog 25 #[.agg #[.int .i64 E.p,.slice v.ca v.cn v.cc,.slice v.ra v.rn v.rc],.agg #[.bool s,.slice a l c]] w fun e w'=>NsE w' e (mm E) x (B+1)∧NxL w.heap.size e∧Below w.heap.size w w':=by
 have b0:=below_alloc w (.cells #[.int .i64 E.p,.slice v.ca v.cn v.cc,.slice v.ra v.rn v.rc] 30)
 have b1:=below_alloc (w.alloc (.cells #[.int .i64 E.p,.slice v.ca v.cn v.cc,.slice v.ra v.rn v.rc] 30)) (.cells #[.bool s,.slice a l c] 38)
 have b2:=below_alloc ((w.alloc (.cells #[.int .i64 E.p,.slice v.ca v.cn v.cc,.slice v.ra v.rn v.rc] 30)).alloc (.cells #[.bool s,.slice a l c] 38)) (.cells #[.bool false,.slice none 0 0] 38)
 have kb:=hide (grow_step b2 (grow_step b1 b0))
 have yA:=hide ((sbr_new w E.p v).below (grow_step b2 b1))
 have yk:=(zb_new (w.alloc (.cells #[.int .i64 E.p,.slice v.ca v.cn v.cc,.slice v.ra v.rn v.rc] 30)) s a l c).below b2
 have yx:=zb_new ((w.alloc (.cells #[.int .i64 E.p,.slice v.ca v.cn v.cc,.slice v.ra v.rn v.rc] 30)).alloc (.cells #[.bool s,.slice a l c] 38)) false none 0 0
 have hs1:(w.alloc (.cells #[.int .i64 E.p,.slice v.ca v.cn v.cc,.slice v.ra v.rn v.rc] 30)).heap.size=w.heap.size+1:=by simp
 have hs2:((w.alloc (.cells #[.int .i64 E.p,.slice v.ca v.cn v.cc,.slice v.ra v.rn v.rc] 30)).alloc (.cells #[.bool s,.slice a l c] 38)).heap.size=w.heap.size+1+1:=by simp
 rw[hs1]at yk
 rw[hs2]at yx
 have hwf:=hide h.wf
 have hp1:=h.wf.p1
 have hp2:=h.wf.p2
 have hrn:=hide h.rn
 have hcl:=hide h.cn
 go_enter Tryz.func25,Tryz.ntmps25
 go_upto_region 1 with(fail)
 clear b0 b1 b2 hs1 hs2
 generalize ((w.alloc (.cells #[.int .i64 E.p,.slice v.ca v.cn v.cc,.slice v.ra v.rn v.rc] 30)).alloc (.cells #[.bool s,.slice a l c] 38)).alloc (.cells #[.bool false,.slice none 0 0] 38)=w1 at*
 obtain⟨bA,hbA⟩: ∃bA,w.heap.size=bA:=⟨_,rfl⟩
 rw[hbA]at yA yk ⊢
 obtain⟨bk,hbk⟩: ∃bk,bA+1=bk:=⟨_,rfl⟩
 rw[hbk]at yk ⊢
 obtain⟨bx,hbx⟩: ∃bx,bk+1=bx:=⟨_,rfl⟩
 have yx:ZB w1 bx false none 0 0:=by rw[←hbx,←hbk,←hbA];exact yx
 rw[hbx]
 have hge:Hid (w.heap.size≤bx):=hide o_m
 replace yx:=hide yx
 clear hbA hbk hbx
 have hlA:=yA.out.lt
 have hlX:=yx.out.lt
 have hno:=hide (rnorm_n (hx.below kb.out) o_m)
 have q0:=yk.c0
 have q1:=yk.c1
 go_wp2_with fail
 refine hno.out.mono ?_
 rintro e w2 ⟨s1,a1,l1,c1,rfl,hz1,k2,hl1⟩
 have b3:=below_alloc w2 (.cells #[.bool s1,.slice a1 l1 c1] 38)
 have ya:=hide (zb_new w2 s1 a1 l1 c1)
 replace hz1:=hide (hz1.zm.below b3)
 replace yA:=hide ((yA.out.below k2).below b3)
 replace yx:=hide ((yx.out.below k2).below b3)
 have hxl:=hide yx.out.lt
 have hAx:Hid (bA≠w2.heap.size∧bx≠w2.heap.size∧w.heap.size≤w2.heap.size):=hide (by have:=kb.out.size;have:=k2.size;omega)
 replace kb:=hide (grow_step b3 (grow_step k2 kb.out))
 clear b3 k2 hno q0 q1 yk hlA hlX
 go_upto_region 2 with(fail)
 generalize w2.alloc (.cells #[.bool s1,.slice a1 l1 c1] 38)=w3 at*
 obtain⟨ba,hba⟩: ∃ba,w2.heap.size=ba:=⟨_,rfl⟩
 rw[hba]at ya hAx ⊢
 clear hba
 have hwh:=hide (where_n (h.below kb.out) o_m hz1.out o_m)
 have q0:=ya.out.c0
 have q1:=ya.out.c1
 have q2:=yA.out.c0
 have q3:=yA.out.c1
 have q4:=yA.out.c2
 go_wp2_with fail
 refine hwh.out.mono ?_
 rintro e w4 ⟨rfl,k4⟩
 replace ya:=hide (ya.out.below k4)
 replace yA:=hide (yA.out.below k4)
 replace yx:=hide (yx.out.below k4)
 replace hz1:=hide (hz1.out.below k4)
 replace kb:=hide (grow_step k4 kb.out)
 clear hwh k4 q0 q1 q2 q3 q4
 have hpl:=plc_le E.cs x
 rw[hcl.out]at hpl
 go_wp2_with fail
 go_loopw [7] (fun vi wr=> ∃(i:Nat) (z:ZV) (at':Int),i≤v.cn+1∧vi= .int .i64 i∧ZB wr ba z.s z.a z.l z.c∧Zm wr z.s z.a z.l z.c at'∧z.l≤B∧x≤at'∧(∀u,x≤u→u<at'→mm E u=false)∧(i≤v.cn→plc E.cs at'=i)∧(i=v.cn+1→∀u,x≤u→mm E u=false)∧SBr wr bA E.p v∧ZB wr bx false none 0 0∧Below w.heap.size w wr) (fun vi _=>v.cn+1-(intOf vi).toNat)
 case atStart=>exact⟨_,⟨s1,a1,l1,c1⟩,x,by omega,rfl,ya.out,hz1.out,by show l1≤_;omega,Int.le_refl _,fun u h1 h2=>by omega,fun _=>rfl,fun h=>by omega,yA.out,yx.out,kb.out⟩
 case round=>
  clear ya hz1 yA yx
  obtain⟨i,z,at',hi,rfl,ya,hz,hzl,hxa,hno,hpi,hend,yA,yx,kr⟩:=hrel
  generalize wr=wo at*
  replace ya:=hide ya
  replace hz:=hide hz
  replace yA:=hide yA
  replace yx:=hide yx
  replace kr:=hide kr
  by_cases hin:i≤v.cn
  ·have hst: ∀(hlt:i<E.cs.length),at'<E.cs[i]:=fun hlt=>nx_lt hwf.out (hpi hin) hlt
   have qA1:=yA.out.c1
   go_wp2_with fail
   go_loopw [8] (fun vk wr=> ∃k:Nat,k≤E.p∧vk= .int .i64 k∧(∀j:Nat,j<k→mm E (at'+j)=false)∧(∀(hlt:i<E.cs.length) (j:Nat),j<k→at'+j<E.cs[i])∧Below wo.heap.size wo wr) (fun vk _=>E.p-(intOf vk).toNat)
   case atStart=>exact⟨0,Nat.zero_le _,rfl,fun j hj=>absurd hj (Nat.not_lt_zero _),fun _ j hj=>absurd hj (Nat.not_lt_zero _),Below.refl _ _⟩
   case round=>
    clear qA1
    obtain⟨k,hk,rfl,hmf,hmc,kx⟩:=hrel
    have qA0:=(yA.out.below kx).c0
    by_cases hkp:k<E.p
    ·have ya8:=hide (ya.out.below kx)
     have hz8:=hide (hz.out.below kx)
     have hkb:k≤4096:=by omega
     go_upto_region 8 with(fail)
     go_cut [9] (fun v9 wc=> ∃(b9:Nat) (z9:ZV),v9= .pointer (some ⟨b9,0,none⟩)∧Hid (ZB wc b9 z9.s z9.a z9.l z9.c)∧Hid (Zn wc z9.s z9.a z9.l z9.c (at'+k))∧z9.l≤B+1∧Lv.Lo w.heap.size z9.a z9.l∧Hid (Below wr.heap.size wr wc))
     case first=>
      refine wp_region_held_drew (S:=(fun w'=>(w'.cell? ⟨ba,0,none⟩=some (.bool z.s)∧w'.cell? ⟨ba,1,none⟩=some (.slice z.a z.l z.c)))) k_f (⟨(ya8.out.below (grow_drew (Below.refl _ _))).c0,(ya8.out.below (grow_drew (Below.refl _ _))).c1⟩) (fun hHeld=> ?_)
      show wpAnyH _ _ _ _ _ 6 _ _ _
      have kW:=grow_drew (Below.refl wr.heap.size wr)
      generalize wr.drew=wQ at*
      repeat' first
       |with_reducible exact AllReadyH.nil
       |(
        refine tkz 0 28 ?_
        (try simp only[pz]))
       |(
        refine tkz 1 29 ?_
        (try simp only[pz]))
       |(refine wpAnyH_ready (rs:=[2,4]) ?_ ?_ ?_;decide+kernel;simp)
       |(refine wpAnyH_ready (rs:=[3,4]) ?_ ?_ ?_;decide+kernel;simp)
       |(refine wpAnyH_ready (rs:=[4]) ?_ ?_ ?_;decide+kernel;simp)
       |(refine wpAnyH_ready (rs:=[5]) ?_ ?_ ?_;decide+kernel;simp)
       |(refine wpAnyH_ready (rs:=[3]) ?_ ?_ ?_;decide+kernel;simp)
       |(refine wpAnyH_ready (rs:=[2]) ?_ ?_ ?_;decide+kernel;simp)
       |(
        first
         |(
          refine AllReadyH.cons (i:=2) (o:=⟨some 30,_,_,_,_,_⟩) rfl (fun K hK=> ?_) ?_
          go_simp
          go_at_call 66;refine Calls.mono (num19_n (k:Int) o_m o_m _) ?_;rintro e wkA ⟨sA,aA,lA,cA,rfl,hzA,kA,hlA⟩
          try have z9:=z9.below kA
          have kW:=grow_step kA kW
          try go_wp2_with fail)
         |(
          refine AllReadyH.cons (i:=3) (o:=⟨some 31,_,_,_,_,_⟩) rfl (fun K hK=> ?_) ?_
          go_simp
          go_at_call 48;refine Calls.mono (radd2_f (F:=w.heap.size) (by have:=kW.size;have:=kx.size;have:=kr.out.size;omega) (hz8.out.below kW) hzA.zm o_m o_m) ?_;rintro e wkB ⟨sB,aB,lB,cB,rfl,hzB,kB,hlB,hoB⟩
          try have z9:=z9.below kB
          have kW:=grow_step kB kW
          try go_wp2_with fail)
         |(
          refine AllReadyH.cons (i:=4) (o:=⟨some 9,_,_,_,_,_⟩) rfl (fun K hK=> ?_) ?_
          obtain⟨wL,b9,eL,eb9,z9,hb9,kL,kW⟩:=al_b kW (.cells #[.bool false,.slice none 0 0] 38)
          replace z9:ZB wL b9 false none 0 0:=z9
          try have hzA:=hzA.below kL
          try have hzB:=hzB.below kL
          go_simp
          rw[eL.out]
          (try simp only[eb9.out]))
         |(
          refine AllReadyH.cons (i:=5) (o:=⟨none,_,_,_,_,_⟩) rfl (fun K hK=> ?_) ?_
          have f0:=z9.c0
          have f1:=z9.c1
          have f2:=z9.f 0
          have f3:=z9.f 1
          obtain⟨w8x,e8,z9,kZ,hzn,hzb⟩:=fst_z kW hb9 z9 sB aB lB cB
          have hzB:=hzn _ _ _ _ _ hzB
          go_simp
          rw[e8.out]
          clear f0 f1 f2 f3 hzn hzb
          have kW:=kZ)
        refine hK.out _ _ ?_ ?_
        ·first|with_reducible exact trivial|((try dsimp only);exact⟨(ya8.out.below kW).c0,(ya8.out.below kW).c1⟩)
        clear hK K hHeld;intro hHeld
        (try simp only[pz]))
      all_goals
       refine wpAnyH_done ?_ ?_ _
       ·decide+kernel
       have t1:=hide z9
       have t2:=hide hzB
       have t3:=hide kW
       have t4:lB≤B+1:=by omega
       clear kW hHeld z9 hzA hzB
       go_wp2_with fail
       go_meet
       case rel=>exact⟨b9,⟨sB,aB,lB,cB⟩,rfl,t1,t2,t4,hoB,t3⟩
     case rest=>
     obtain⟨b9,z9,rfl,y9,hn9,hn9l,hn9o,k5⟩:=hcut
     generalize wc=w5 at*
     have k5x:=hide (grow_step k5.out kx)
     clear k5 kx ya8 hz8
     have yA5:=yA.out.below k5x.out
     have qA1:=yA5.c1
     have hAl:=yA5.lt
     have h5:=hide (h.below (grow_step k5x.out kr.out))
     clear yA5
     go_upto_region 9 with(fail)
     go_cut [46] (fun v46 wc=> ∃bq:Bool,v46= .bool bq∧(bq=true↔ ∃hlt:i<E.cs.length,E.cs[i]≤at'+k)∧Hid (Below w5.heap.size w5 wc))
     case first=>
      by_cases hic:i<v.cn
      ·obtain⟨cb,co,zc,hvc,hcb,d0,d1,hzc,hzcl⟩:=h5.out.cu.2 i hic (by have:=hcl.out;omega)
       rw[hvc]at qA1
       clear hvc
       replace hzc:=hide hzc
       by_cases hlt:at'+k<E.cs[i]'(by have:=hcl.out;omega)
       ·have hbd:Hid (decide (at'+k<E.cs[i]'(by have:=hcl.out;omega))=true):=hide (by rw[decide_eq_true_iff];exact hlt)
        have hbq:Hid (false=true↔ ∃hl:i<E.cs.length,E.cs[i]≤at'+k):=hide ⟨fun h=>(by cases h),fun⟨_,h⟩=>absurd h o_m⟩
        refine wp_region_held_drew (S:=(fun w'=>(w'.cell? ⟨b9,0,none⟩=some (.bool z9.s)∧w'.cell? ⟨b9,1,none⟩=some (.slice z9.a z9.l z9.c))∧w'.cell? ⟨bA,1,none⟩=some (.slice (some ⟨cb,co,none⟩) v.cn v.cc)∧(w'.cell? ⟨cb,co+i*2,none⟩=some (.bool zc.s)∧w'.cell? ⟨cb,co+i*2+1,none⟩=some (.slice zc.a zc.l zc.c)))) k_f (⟨⟨(y9.out.below (grow_drew (Below.refl _ _))).c0,(y9.out.below (grow_drew (Below.refl _ _))).c1⟩,(Below.cell (p:=⟨bA,1,none⟩) (grow_drew (Below.refl _ _)) hAl).trans qA1,⟨(Below.cell (p:=⟨cb,_,none⟩) (grow_drew (Below.refl _ _)) hcb).trans d0,(Below.cell (p:=⟨cb,_,none⟩) (grow_drew (Below.refl _ _)) hcb).trans d1⟩⟩) (fun hHeld=> ?_)
        show wpAnyH _ _ _ _ _ 15 _ _ _
        have kW:=grow_drew (Below.refl w5.heap.size w5)
        generalize w5.drew=wQ at*
        refine tkz 0 32 ?_
        (try simp only[pz])
        refine tkz 1 33 ?_
        (try simp only[pz])
        refine tkz 2 34 ?_
        (try simp only[pz])
        refine tkz 3 35 ?_
        (try simp only[pz])
        refine tkz 4 36 ?_
        (try simp only[pz])
        refine tkz 5 37 ?_
        (try simp only[pz])
        refine tkz 6 38 ?_
        (try simp only[pz])
        refine tkz 7 39 ?_
        (try simp only[pz])
        refine tkz 8 40 ?_
        (try simp only[pz])
        refine tkz 9 41 ?_
        (try simp only[pz])
        refine tkz 10 42 ?_
        (try simp only[pz])
        refine tkz 11 43 ?_
        (try simp only[pz])
        refine ryz 12 (some 44) (fun K hK=> ?_) AllReadyH.nil
        go_simp
        go_at_call 68;refine Calls.mono (below19_n (hn9.out.zm.below kW) o_m (hzc.out.below kW) o_m) ?_;rintro e wkA ⟨rfl,kA⟩
        rw[hbd.out]
        have kW:=grow_step kA kW
        try go_wp2_with fail
        refine hK.out _ _ ?_ ?_
        ·first|with_reducible exact trivial|((try dsimp only);exact⟨⟨(y9.out.below kW).c0,(y9.out.below kW).c1⟩,(Below.cell (p:=⟨bA,1,none⟩) kW hAl).trans qA1,⟨(Below.cell (p:=⟨cb,_,none⟩) kW hcb).trans d0,(Below.cell (p:=⟨cb,_,none⟩) kW hcb).trans d1⟩⟩)
        clear hK K hHeld;intro hHeld
        (try simp only[pz])
        refine tkz 13 45 ?_
        (try simp only[pz])
        refine tkz 14 46 ?_
        (try simp only[pz])
        refine wpAnyH_done ?_ ?_ _
        ·decide+kernel
        have k9:=hide kW
        clear kW hHeld
        go_wp2_with fail
        go_meet
        case rel=>exact⟨false,rfl,(by first|exact hbq.out|simpa using hbq.out),k9⟩
       have hbd:Hid (decide (at'+k<E.cs[i]'(by have:=hcl.out;omega))=false):=hide (by rw[decide_eq_false_iff_not];exact hlt)
       have hbq:Hid (true=true↔ ∃hl:i<E.cs.length,E.cs[i]≤at'+k):=hide ⟨fun _=>⟨by have:=hcl.out;omega,by omega⟩,fun _=>rfl⟩
       refine wp_region_held_drew (S:=(fun w'=>(w'.cell? ⟨b9,0,none⟩=some (.bool z9.s)∧w'.cell? ⟨b9,1,none⟩=some (.slice z9.a z9.l z9.c))∧w'.cell? ⟨bA,1,none⟩=some (.slice (some ⟨cb,co,none⟩) v.cn v.cc)∧(w'.cell? ⟨cb,co+i*2,none⟩=some (.bool zc.s)∧w'.cell? ⟨cb,co+i*2+1,none⟩=some (.slice zc.a zc.l zc.c)))) k_f (⟨⟨(y9.out.below (grow_drew (Below.refl _ _))).c0,(y9.out.below (grow_drew (Below.refl _ _))).c1⟩,(Below.cell (p:=⟨bA,1,none⟩) (grow_drew (Below.refl _ _)) hAl).trans qA1,⟨(Below.cell (p:=⟨cb,_,none⟩) (grow_drew (Below.refl _ _)) hcb).trans d0,(Below.cell (p:=⟨cb,_,none⟩) (grow_drew (Below.refl _ _)) hcb).trans d1⟩⟩) (fun hHeld=> ?_)
       show wpAnyH _ _ _ _ _ 15 _ _ _
       have kW:=grow_drew (Below.refl w5.heap.size w5)
       generalize w5.drew=wQ at*
       refine tkz 0 32 ?_
       (try simp only[pz])
       refine tkz 1 33 ?_
       (try simp only[pz])
       refine tkz 2 34 ?_
       (try simp only[pz])
       refine tkz 3 35 ?_
       (try simp only[pz])
       refine tkz 4 36 ?_
       (try simp only[pz])
       refine tkz 5 37 ?_
       (try simp only[pz])
       refine tkz 6 38 ?_
       (try simp only[pz])
       refine tkz 7 39 ?_
       (try simp only[pz])
       refine tkz 8 40 ?_
       (try simp only[pz])
       refine tkz 9 41 ?_
       (try simp only[pz])
       refine tkz 10 42 ?_
       (try simp only[pz])
       refine tkz 11 43 ?_
       (try simp only[pz])
       refine ryz 12 (some 44) (fun K hK=> ?_) AllReadyH.nil
       go_simp
       go_at_call 68;refine Calls.mono (below19_n (hn9.out.zm.below kW) o_m (hzc.out.below kW) o_m) ?_;rintro e wkA ⟨rfl,kA⟩
       rw[hbd.out]
       have kW:=grow_step kA kW
       try go_wp2_with fail
       refine hK.out _ _ ?_ ?_
       ·first|with_reducible exact trivial|((try dsimp only);exact⟨⟨(y9.out.below kW).c0,(y9.out.below kW).c1⟩,(Below.cell (p:=⟨bA,1,none⟩) kW hAl).trans qA1,⟨(Below.cell (p:=⟨cb,_,none⟩) kW hcb).trans d0,(Below.cell (p:=⟨cb,_,none⟩) kW hcb).trans d1⟩⟩)
       clear hK K hHeld;intro hHeld
       (try simp only[pz])
       refine tkz 13 45 ?_
       (try simp only[pz])
       refine tkz 14 46 ?_
       (try simp only[pz])
       refine wpAnyH_done ?_ ?_ _
       ·decide+kernel
       have k9:=hide kW
       clear kW hHeld
       go_wp2_with fail
       go_meet
       case rel=>exact⟨true,rfl,(by first|exact hbq.out|simpa using hbq.out),k9⟩
      have hic2:decide ((i:Int)<(v.cn:Int))=false:=by rw[decide_eq_false_iff_not];omega
      have hbq:Hid (false=true↔ ∃hl:i<E.cs.length,E.cs[i]≤at'+k):=hide ⟨fun h=>(by cases h),fun⟨hl,_⟩=>absurd hl (by have:=hcl.out;omega)⟩
      refine wp_region_held_drew (S:=(fun w'=>w'.cell? ⟨bA,1,none⟩=some (.slice v.ca v.cn v.cc))) k_f ((Below.cell (p:=⟨bA,1,none⟩) (grow_drew (Below.refl _ _)) hAl).trans qA1) (fun hHeld=> ?_)
      show wpAnyH _ _ _ _ _ 15 _ _ _
      have kW:=grow_drew (Below.refl w5.heap.size w5)
      generalize w5.drew=wQ at*
      refine tkz 0 32 ?_
      (try simp only[pz])
      refine tkz 1 33 ?_
      (try simp only[pz])
      refine tkz 2 34 ?_
      (try simp only[pz])
      refine tkz 3 35 ?_
      (try simp only[pz])
      refine tkz 4 36 ?_
      (try simp only[pz])
      refine tkz 5 37 ?_
      (try simp only[pz])
      refine wpAnyH_take (i:=6) (oi:=⟨some 38,_,_,_,_,_⟩) (v:=undef) rfl (by decide+kernel) (by decide+kernel) (by decide+kernel) (fun _ _ _ h=>h) (Or.inr ⟨by rfl,rfl⟩) (by assumption) ?_
      (try simp only[pz])
      refine wpAnyH_take (i:=7) (oi:=⟨some 39,_,_,_,_,_⟩) (v:=undef) rfl (by decide+kernel) (by decide+kernel) (by decide+kernel) (fun _ _ _ h=>h) (Or.inr ⟨by rfl,rfl⟩) (by assumption) ?_
      (try simp only[pz])
      refine wpAnyH_take (i:=8) (oi:=⟨some 40,_,_,_,_,_⟩) (v:=undef) rfl (by decide+kernel) (by decide+kernel) (by decide+kernel) (fun _ _ _ h=>h) (Or.inr ⟨by rfl,rfl⟩) (by assumption) ?_
      (try simp only[pz])
      refine wpAnyH_take (i:=9) (oi:=⟨some 41,_,_,_,_,_⟩) (v:=undef) rfl (by decide+kernel) (by decide+kernel) (by decide+kernel) (fun _ _ _ h=>h) (Or.inr ⟨by rfl,rfl⟩) (by assumption) ?_
      (try simp only[pz])
      refine wpAnyH_take (i:=10) (oi:=⟨some 42,_,_,_,_,_⟩) (v:=undef) rfl (by decide+kernel) (by decide+kernel) (by decide+kernel) (fun _ _ _ h=>h) (Or.inr ⟨by rfl,rfl⟩) (by assumption) ?_
      (try simp only[pz])
      refine wpAnyH_take (i:=11) (oi:=⟨some 43,_,_,_,_,_⟩) (v:=undef) rfl (by decide+kernel) (by decide+kernel) (by decide+kernel) (fun _ _ _ h=>h) (Or.inr ⟨by rfl,rfl⟩) (by assumption) ?_
      (try simp only[pz])
      refine wpAnyH_take (i:=12) (oi:=⟨some 44,_,_,_,_,_⟩) (v:=undef) rfl (by decide+kernel) (by decide+kernel) (by decide+kernel) (fun _ _ _ h=>h) (Or.inr ⟨by rfl,rfl⟩) (by assumption) ?_
      (try simp only[pz])
      refine wpAnyH_take (i:=13) (oi:=⟨some 45,_,_,_,_,_⟩) (v:=undef) rfl (by decide+kernel) (by decide+kernel) (by decide+kernel) (fun _ _ _ h=>h) (Or.inr ⟨by rfl,rfl⟩) (by assumption) ?_
      (try simp only[pz])
      refine tkz 14 46 ?_
      (try simp only[pz])
      refine wpAnyH_done ?_ ?_ _
      ·decide+kernel
      have k9:=hide kW
      clear kW hHeld
      go_wp2_with fail
      go_meet
      case rel=>exact⟨false,rfl,(by first|exact hbq.out|simpa using hbq.out),k9⟩
     case rest=>
     obtain⟨bq,rfl,hbq,k6⟩:=hcut
     generalize wc=w6 at*
     replace y9:=hide (y9.out.below k6.out)
     replace hn9:=hide (hn9.out.below k6.out)
     have kx:=hide (grow_step k6.out k5x.out)
     clear k6 k5x qA1 hAl h5
     cases bq with
     |true=>
      obtain⟨hlt,hge9⟩:=hbq.1 rfl
      have hstr: ∀u,at'≤u→(∀(hlt:i<E.cs.length),u<E.cs[i])→mm E u=false:=fun u h1 h2=>by
       have h3:=h2 hlt
       obtain⟨j,hj⟩: ∃j:Nat,u=at'+j:=⟨(u-at').toNat,by omega⟩
       rw[hj]
       exact hmf j o_m
      clear hmf hmc hst hbq y9 hn9
      have hstr2:=hide hstr
      clear hstr
      have yaw:=ya.out.below kx.out
      have yAw:=yA.out.below kx.out
      have yxw:=yx.out.below kx.out
      have kw:=grow_step kx.out kr.out
      by_cases hic:i<v.cn
      ·obtain⟨cb,co,zc,hvc,hcb0,d0,d1,hzc,hzcl⟩:=h.cu.2 i hic (by have:=hcl.out;omega)
       have e0:=(Below.cell (p:=⟨cb,_,none⟩) kw hcb0).trans d0
       have e1:=(Below.cell (p:=⟨cb,_,none⟩) kw hcb0).trans d1
       have p1:=yAw.c1
       rw[hvc]at p1
       clear hvc
       have p2:=yaw.c0
       have p3:=yaw.c1
       have p4:=yaw.f 0
       have p5:=yaw.f 1
       have hnp:=(nx_next hwf.out (by have:=hcl.out;omega) (fun u h1 h2=>hno u h1 h2) (fun u h1 h2=>hstr2.out u h1 (fun _=>h2)))
       obtain⟨w8,e8,y8,k8,o8,-⟩:=Pd.est_z kw hAx.out.2.2 yaw zc.s zc.a zc.l zc.c
       have hz8:=hide (hzc.below k8)
       have hA8:=hide (yAw.only o8 hAx.out.1)
       have hx8:=hide (yxw.only o8 hAx.out.2.1)
       replace y8:=hide y8
       replace k8:=hide k8
       replace hnp:=hide hnp
       have hpc:=hide (plc_cut hwf.out.up (show i<E.cs.length by have:=hcl.out;omega))
       have hxc:Hid (x≤E.cs[i]'(by have:=hcl.out;omega)):=hide (Int.le_trans hxa (nx_le hwf.out (hpi hin) (by have:=hcl.out;omega)))
       clear yaw yAw yxw kw hstr2 hno o8 hcb0 d0 d1 hpi hend
       go_upto_region 13 with(fail)
       go_wp2_with fail
       rw[e8.out]
       go_wp2
       exact⟨⟨i+1,zc,E.cs[i]'(by have:=hcl.out;omega),by omega,by go_num,y8.out,hz8.out,by omega,hxc.out,hnp.out,fun _=>hpc.out,fun h9=>by omega,hA8.out,hx8.out,k8.out⟩,by simp[intOf];omega⟩
      have hie:i=v.cn:=by omega
      have p1:=yAw.c1
      have hall:Hid (∀u,x≤u→mm E u=false):=hide fun u hu=>by
       by_cases hua:u<at'
       ·exact hno u hu hua
       exact hstr2.out u o_m (fun hlt=>by have:=hcl.out;omega)
      replace hno:=hide hno
      replace yaw:=hide yaw
      replace yAw:=hide yAw
      replace yxw:=hide yxw
      replace kw:=hide kw
      have hz8:=hide (hz.out.below kx.out)
      clear hstr2 hpi hend
      go_wp2
      exact⟨⟨i+1,z,at',by omega,by go_num,yaw.out,hz8.out,hzl,hxa,hno.out,fun h9=>by omega,fun _=>hall.out,yAw.out,yxw.out,kw.out⟩,by simp[intOf];omega⟩
     |false=>
      have hin9: ∀(hlt:i<E.cs.length),at'+k<E.cs[i]:=fun hlt=>by
       rcases Int.lt_or_le (at'+k) E.cs[i]with h1|h1
       ·exact h1
       exact absurd (hbq.2 ⟨hlt,h1⟩) (by decide)
      have hrow:=(nx_row hwf.out (hpi hin) (n:=at'+k) o_m hin9).2
      have hml:((at'+k)%(E.p:Int)).toNat<E.p:=md_lt hp1 _
      obtain⟨m,hm⟩: ∃m,((at'+k)%(E.p:Int)).toNat=m:=⟨_,rfl⟩
      rw[hm]at hrow hml
      have yA6:=yA.out.below kx.out
      have qA0:=yA6.c0
      have qA2:=yA6.c2
      have hAl:=yA6.lt
      obtain⟨rA,oA,gA,hvA,hrA,cA,hgA,hlA⟩:=(h.below (grow_step kx.out kr.out)).row (i:=i) o_m
      rw[hvA]at qA2
      clear hvA
      have eA:=hgA.cell (i:=m) o_m
      have hgAl:=hgA.lt
      rw[←hrow]at eA
      obtain⟨x9,hx9⟩: ∃x9,mm E (at'+k)=x9:=⟨_,rfl⟩
      rw[hx9]at eA
      have hirn:i<v.rn:=by have:=hrn.out;omega
      replace hm:=hide hm
      clear hrow hbq hgA yA6
      go_upto_region 10 with(fail)
      refine wp_region_held_drew (S:=(fun w'=>(w'.cell? ⟨b9,0,none⟩=some (.bool z9.s)∧w'.cell? ⟨b9,1,none⟩=some (.slice z9.a z9.l z9.c))∧w'.cell? ⟨bA,0,none⟩=some (.int .i64 E.p)∧w'.cell? ⟨bA,2,none⟩=some (.slice (some ⟨rA,oA,none⟩) v.rn v.rc)∧w'.cell? ⟨rA,oA+i,none⟩=some (.slice (some ⟨gA,0,none⟩) E.p E.p)∧w'.cell? ⟨gA,m,none⟩=some (.bool x9))) k_f (⟨⟨(y9.out.below (grow_drew (Below.refl _ _))).c0,(y9.out.below (grow_drew (Below.refl _ _))).c1⟩,(Below.cell (p:=⟨bA,0,none⟩) (grow_drew (Below.refl _ _)) hAl).trans qA0,(Below.cell (p:=⟨bA,2,none⟩) (grow_drew (Below.refl _ _)) hAl).trans qA2,(Below.cell (p:=⟨rA,_,none⟩) (grow_drew (Below.refl _ _)) hrA).trans cA,(Below.cell (p:=⟨gA,_,none⟩) (grow_drew (Below.refl _ _)) hgAl).trans eA⟩) (fun hHeld=> ?_)
      show wpAnyH _ _ _ _ _ 11 _ _ _
      have kW:=grow_drew (Below.refl w6.heap.size w6)
      generalize w6.drew=wQ at*
      refine tkz 0 47 ?_
      (try simp only[pz])
      refine tkz 1 48 ?_
      (try simp only[pz])
      refine tkz 2 49 ?_
      (try simp only[pz])
      refine tkz 3 50 ?_
      (try simp only[pz])
      refine tkz 4 51 ?_
      (try simp only[pz])
      refine tkz 5 52 ?_
      (try simp only[pz])
      refine tkz 6 53 ?_
      (try simp only[pz])
      refine tkz 7 54 ?_
      (try simp only[pz])
      refine ryz 8 (some 55) (fun K hK=> ?_) AllReadyH.nil
      go_simp
      go_at_call 77;refine Calls.mono (modulo19_n (hn9.out.zm.below kW) o_m hp1 hp2) ?_;rintro e wkA ⟨rfl,kA⟩
      rw[hm.out]
      have kW:=grow_step kA kW
      try go_wp2_with fail
      refine hK.out _ _ ?_ ?_
      ·first|with_reducible exact trivial|((try dsimp only);exact⟨⟨(y9.out.below kW).c0,(y9.out.below kW).c1⟩,(Below.cell (p:=⟨bA,0,none⟩) kW hAl).trans qA0,(Below.cell (p:=⟨bA,2,none⟩) kW hAl).trans qA2,(Below.cell (p:=⟨rA,_,none⟩) kW hrA).trans cA,(Below.cell (p:=⟨gA,_,none⟩) kW hgAl).trans eA⟩)
      clear hK K hHeld;intro hHeld
      (try simp only[pz])
      refine tkz 9 56 ?_
      (try simp only[pz])
      refine tkz 10 57 ?_
      (try simp only[pz])
      refine wpAnyH_done ?_ ?_ _
      ·decide+kernel
      have k10:=hide kW
      clear kW hHeld
      generalize wkA=w7 at*
      have kx7:=hide (grow_step k10.out kx.out)
      replace y9:=hide (y9.out.below k10.out)
      replace hn9:=hide (hn9.out.below k10.out)
      clear k10 kx qA0 qA2 cA eA hrA hgAl hAl
      cases x9 with
      |true=>
       have yx7:=yx.out.below kx7.out
       obtain⟨w8,e8,y8,k8,o8,hzn⟩:=Pd.est_z (grow_step kx7.out kr.out) hge.out yx7 z9.s z9.a z9.l z9.c
       have hz8:=hide (hzn _ _ _ _ _ hn9.out)
       have q0:=y9.out.c0
       have q1:=y9.out.c1
       have p2:=yx7.c0
       have p3:=yx7.c1
       have p4:=yx7.f 0
       have p5:=yx7.f 1
       have hans:Hid (NsE w8 (.returned (.tuple #[.agg #[.bool z9.s,.slice z9.a z9.l z9.c],.bool true])) (mm E) x (B+1)∧NxL w.heap.size (.returned (.tuple #[.agg #[.bool z9.s,.slice z9.a z9.l z9.c],.bool true]))):=hide ⟨.inl ⟨at'+k,z9,by omega,fun u h1 h2=>by
        by_cases hua:u<at'
        ·exact hno u h1 hua
        ·obtain⟨j,hj⟩: ∃j:Nat,u=at'+j:=⟨(u-at').toNat,by omega⟩
         rw[hj]
         exact hmf j o_m,hx9,rfl,hz8.out,hn9l⟩,fun z h=>by
        simp at h
        rw[←h.2.1,←h.2.2.1]
        exact hn9o⟩
       replace k8:=hide k8
       replace y8:=hide y8
       clear yx7 hzn o8 hn9 hno hmf hmc hst hpi hend hin9
       go_wp2_with fail
       rw[e8.out]
       go_wp2
       refine bodyPost_ret (results_ct rfl _ _ bx 38 _ (0,0) _ rfl y8.out Tryz.underlying38 rfl k_f) rfl ?_
       exact⟨hans.out.1,hans.out.2,k8.out⟩
      |false=>
       have hmf2:Hid (∀j:Nat,j<k+1→mm E (at'+j)=false):=hide fun j hj=>by
        rcases Nat.lt_succ_iff_lt_or_eq.1 hj with h1|rfl
        ·exact hmf j h1
        exact hx9
       have hmc2:Hid (∀(hlt:i<E.cs.length) (j:Nat),j<k+1→at'+j<E.cs[i]):=hide fun hlt j hj=>by
        rcases Nat.lt_succ_iff_lt_or_eq.1 hj with h1|rfl
        ·exact hmc hlt j h1
        exact hin9 hlt
       clear hmf hmc hst hpi hend hno hin9 hx9
       go_wp2
       exact⟨⟨k+1,by omega,by go_num,hmf2.out,hmc2.out,kx7.out⟩,by simp[intOf];omega⟩
    obtain rfl:k=E.p:=by omega
    have hstr: ∀u,at'≤u→(∀(hlt:i<E.cs.length),u<E.cs[i])→mm E u=false:=fun u h1 h2=>nx_full hwf.out (hpi hin) hmf hmc h1 h2
    replace kx:=hide kx
    clear hmf hmc hst
    have hstr2:=hide hstr
    clear hstr
    have yaw:=ya.out.below kx.out
    have yAw:=yA.out.below kx.out
    have yxw:=yx.out.below kx.out
    have kw:=grow_step kx.out kr.out
    by_cases hic:i<v.cn
    ·obtain⟨cb,co,zc,hvc,hcb0,d0,d1,hzc,hzcl⟩:=h.cu.2 i hic (by have:=hcl.out;omega)
     have e0:=(Below.cell (p:=⟨cb,_,none⟩) kw hcb0).trans d0
     have e1:=(Below.cell (p:=⟨cb,_,none⟩) kw hcb0).trans d1
     have p1:=yAw.c1
     rw[hvc]at p1
     clear hvc
     have p2:=yaw.c0
     have p3:=yaw.c1
     have p4:=yaw.f 0
     have p5:=yaw.f 1
     have hnp:=(nx_next hwf.out (by have:=hcl.out;omega) (fun u h1 h2=>hno u h1 h2) (fun u h1 h2=>hstr2.out u h1 (fun _=>h2)))
     obtain⟨w8,e8,y8,k8,o8,-⟩:=Pd.est_z kw hAx.out.2.2 yaw zc.s zc.a zc.l zc.c
     have hz8:=hide (hzc.below k8)
     have hA8:=hide (yAw.only o8 hAx.out.1)
     have hx8:=hide (yxw.only o8 hAx.out.2.1)
     replace y8:=hide y8
     replace k8:=hide k8
     replace hnp:=hide hnp
     have hpc:=hide (plc_cut hwf.out.up (show i<E.cs.length by have:=hcl.out;omega))
     have hxc:Hid (x≤E.cs[i]'(by have:=hcl.out;omega)):=hide (Int.le_trans hxa (nx_le hwf.out (hpi hin) (by have:=hcl.out;omega)))
     clear yaw yAw yxw kw hstr2 hno o8 hcb0 d0 d1 hpi hend
     go_upto_region 13 with(fail)
     go_wp2_with fail
     rw[e8.out]
     go_wp2
     exact⟨⟨i+1,zc,E.cs[i]'(by have:=hcl.out;omega),by omega,by go_num,y8.out,hz8.out,by omega,hxc.out,hnp.out,fun _=>hpc.out,fun h9=>by omega,hA8.out,hx8.out,k8.out⟩,by simp[intOf];omega⟩
    have hie:i=v.cn:=by omega
    have p1:=yAw.c1
    have hall:Hid (∀u,x≤u→mm E u=false):=hide fun u hu=>by
     by_cases hua:u<at'
     ·exact hno u hu hua
     exact hstr2.out u o_m (fun hlt=>by have:=hcl.out;omega)
    replace hno:=hide hno
    replace yaw:=hide yaw
    replace yAw:=hide yAw
    replace yxw:=hide yxw
    replace kw:=hide kw
    have hz8:=hide (hz.out.below kx.out)
    clear hstr2 hpi hend
    go_wp2
    exact⟨⟨i+1,z,at',by omega,by go_num,yaw.out,hz8.out,hzl,hxa,hno.out,fun h9=>by omega,fun _=>hall.out,yAw.out,yxw.out,kw.out⟩,by simp[intOf];omega⟩
  obtain⟨w8,e8,y8,k8,o8,hzn⟩:=Pd.est_z kr.out hge.out yx.out false none 0 0
  have hans:Hid (NsE w8 (.returned (.tuple #[.agg #[.bool false,.slice none 0 0],.bool false])) (mm E) x (B+1)∧NxL w.heap.size (.returned (.tuple #[.agg #[.bool false,.slice none 0 0],.bool false]))):=hide ⟨.inr ⟨hend o_m,rfl⟩,fun z h=>by simp at h⟩
  have qA1:=yA.out.c1
  have p2:=yx.out.c0
  have p3:=yx.out.c1
  have p4:=yx.out.f 0
  have p5:=yx.out.f 1
  have hnd:decide ((i:Int)≤(v.cn:Int))=false:=by rw[decide_eq_false_iff_not];omega
  replace k8:=hide k8
  replace y8:=hide y8
  clear hno hend hpi hzn o8
  go_wp2_with fail
  rw[e8.out]
  go_wp2
  refine bodyPost_ret (results_ct rfl _ _ bx 38 _ (0,0) _ rfl y8.out Tryz.underlying38 rfl k_f) rfl ?_
  exact⟨hans.out.1,hans.out.2,k8.out⟩
theorem next19_n {B:Nat}(hB:1073741827≤B)(hB2:B≤4294960000){w:World}{v:SV}{E:RE}{s:Bool}{a:Option Addr}{l c:Nat}{x:Int}(h:RS w v E)(hcn:v.cn≤134217728)(hx:Zm w s a l c x)(hl:l≤B):
  Calls Tryz.prog 25 #[.agg #[.int .i64 E.p,.slice v.ca v.cn v.cc,.slice v.ra v.rn v.rc],.agg #[.bool s,.slice a l c]] w fun e w'=>NsE w' e (mm E) x (B+1)∧Below w.heap.size w w':=(next19_f hB hB2 h hcn hx hl).mono fun _ _ h=>⟨h.1,h.2.2⟩
end Cr
namespace Cr
open Pd (SN SV ZV plc plc_le al_b)

theorem nd_row {E:RE}(h:Wr E){a n:Int}{i:Nat}(hi:plc E.cs a=i)(hna:n≤a)(hn: ∀(j:Nat) (hj:j<E.cs.length),j+1=i→E.cs[j]≤n):plc E.cs n=i∧mm E n=bit (row E i) (n%E.p).toNat:=by
 have e:plc E.cs n=i:=by
  rw[←hi,plc_same hna]
  intro c hc ⟨h1,h2⟩
  obtain⟨t,ht,rfl⟩:=List.mem_iff_getElem.1 hc
  have hti:=(plc_at h.up a ht).1 h2
  rw[hi]at hti
  have hle:=plc_le E.cs a
  rw[hi]at hle
  have h3:=hn (i-1) o_m o_m
  by_cases e:t=i-1
  ·subst e;omega
  have:=List.pairwise_iff_getElem.1 h.up t (i-1) ht o_m o_m
  omega
 refine⟨e,?_⟩
 unfold mm rowAt
 rw[e]
theorem nd_full {E:RE}(h:Wr E){a:Int}{i:Nat}(hi:plc E.cs a=i)(hno: ∀j:Nat,j<E.p→mm E (a-j)=false)(hin: ∀(t:Nat) (ht:t<E.cs.length),t+1=i→∀j:Nat,j<E.p→E.cs[t]≤a-j){u:Int}(hua:u≤a)(hu: ∀(t:Nat) (ht:t<E.cs.length),t+1=i→E.cs[t]≤u):mm E u=false:=by
 have hp:(0:Int)<(E.p:Int):=by have:=h.p1;omega
 obtain⟨j,hj⟩: ∃j:Nat,(j:Int)=(a-u)%(E.p:Int):=⟨((a-u)%(E.p:Int)).toNat,Int.toNat_of_nonneg (Int.emod_nonneg _ o_m)⟩
 have hjp:j<E.p:=by have:=Int.emod_lt_of_pos (a-u) hp;omega
 have h1:=(nd_row h hi hua hu).2
 have h2:=(nd_row h hi (n:=a-j) o_m (fun t ht e=>hin t ht e j hjp)).2
 rw[hno j hjp]at h2
 have e:(a-(j:Int))%(E.p:Int)=u%(E.p:Int):=by
  rw[hj,Int.sub_emod,Int.emod_emod_of_dvd _ (Int.dvd_refl _),←Int.sub_emod]
  congr 1
  omega
 rw[e]at h2
 rw[h1,←h2]
theorem plc_pre {cs:List Int}(hu:cs.Pairwise (· < ·)){j:Nat}(hj:j<cs.length):plc cs (cs[j]-1)=j:=by
 have h1:=plc_at hu (cs[j]-1) hj
 rcases Nat.lt_trichotomy (plc cs (cs[j]-1)) j with h2|h2|h2
 ·have h3:=plc_at hu (cs[j]-1) (j:=plc cs (cs[j]-1)) o_m
  have h4:=List.pairwise_iff_getElem.1 hu _ j o_m hj h2
  have h5:=h3.1 o_m
  omega
 ·exact h2
 have:=h1.2 h2
 omega
theorem nd_ge {E:RE}(h:Wr E){a:Int}{j:Nat}(hi:plc E.cs a=j+1)(hj:j<E.cs.length):E.cs[j]≤a:=(plc_at h.up a hj).2 o_m
def LtE (w':World)(en:Ending)(f:Int→Bool)(x:Int)(B:Nat):Prop:=
 (∃(v:Int) (z:ZV),v≤x∧(∀u,v<u→u≤x→f u=false)∧f v=true∧en= .returned (.tuple #[.agg #[.bool z.s,.slice z.a z.l z.c],.bool true])∧Zn w' z.s z.a z.l z.c v∧z.l≤B)∨
 ((∀u,u≤x→f u=false)∧en= .returned (.tuple #[.agg #[.bool false,.slice none 0 0],.bool false]))
theorem last19_n {w:World}{v:SV}{E:RE}{s:Bool}{a:Option Addr}{l c:Nat}{x:Int}(h:RS w v E)(hcn:v.cn≤134217728)(hx:Zm w s a l c x)(hl:l≤2147483648):
  Calls Tryz.prog 27 #[.agg #[.int .i64 E.p,.slice v.ca v.cn v.cc,.slice v.ra v.rn v.rc],.agg #[.bool s,.slice a l c]] w fun e w'=>LtE w' e (mm E) x 2147483650∧Below w.heap.size w w':=by
 have b0:=below_alloc w (.cells #[.int .i64 E.p,.slice v.ca v.cn v.cc,.slice v.ra v.rn v.rc] 30)
 have b1:=below_alloc (w.alloc (.cells #[.int .i64 E.p,.slice v.ca v.cn v.cc,.slice v.ra v.rn v.rc] 30)) (.cells #[.bool s,.slice a l c] 38)
 have b2:=below_alloc ((w.alloc (.cells #[.int .i64 E.p,.slice v.ca v.cn v.cc,.slice v.ra v.rn v.rc] 30)).alloc (.cells #[.bool s,.slice a l c] 38)) (.cells #[.bool false,.slice none 0 0] 38)
 have kb:=hide (grow_step b2 (grow_step b1 b0))
 have yA:=hide ((sbr_new w E.p v).below (grow_step b2 b1))
 have yk:=(zb_new (w.alloc (.cells #[.int .i64 E.p,.slice v.ca v.cn v.cc,.slice v.ra v.rn v.rc] 30)) s a l c).below b2
 have yx:=zb_new ((w.alloc (.cells #[.int .i64 E.p,.slice v.ca v.cn v.cc,.slice v.ra v.rn v.rc] 30)).alloc (.cells #[.bool s,.slice a l c] 38)) false none 0 0
 have hs1:(w.alloc (.cells #[.int .i64 E.p,.slice v.ca v.cn v.cc,.slice v.ra v.rn v.rc] 30)).heap.size=w.heap.size+1:=by simp
 have hs2:((w.alloc (.cells #[.int .i64 E.p,.slice v.ca v.cn v.cc,.slice v.ra v.rn v.rc] 30)).alloc (.cells #[.bool s,.slice a l c] 38)).heap.size=w.heap.size+1+1:=by simp
 rw[hs1]at yk
 rw[hs2]at yx
 have hwf:=hide h.wf
 have hp1:=h.wf.p1
 have hp2:=h.wf.p2
 have hrn:=hide h.rn
 have hcl:=hide h.cn
 go_enter Tryz.func27,Tryz.ntmps27
 go_upto_region 1 with(fail)
 clear b0 b1 b2 hs1 hs2
 generalize ((w.alloc (.cells #[.int .i64 E.p,.slice v.ca v.cn v.cc,.slice v.ra v.rn v.rc] 30)).alloc (.cells #[.bool s,.slice a l c] 38)).alloc (.cells #[.bool false,.slice none 0 0] 38)=w1 at*
 obtain⟨bA,hbA⟩: ∃bA,w.heap.size=bA:=⟨_,rfl⟩
 rw[hbA]at yA yk ⊢
 obtain⟨bk,hbk⟩: ∃bk,bA+1=bk:=⟨_,rfl⟩
 rw[hbk]at yk ⊢
 obtain⟨bx,hbx⟩: ∃bx,bk+1=bx:=⟨_,rfl⟩
 have yx:ZB w1 bx false none 0 0:=by rw[←hbx,←hbk,←hbA];exact yx
 rw[hbx]
 have hge:Hid (w.heap.size≤bx):=hide o_m
 replace yx:=hide yx
 clear hbA hbk hbx
 have hlA:=yA.out.lt
 have hlX:=yx.out.lt
 have hno:=hide (rnorm_n (hx.below kb.out) o_m)
 have q0:=yk.c0
 have q1:=yk.c1
 go_wp2_with fail
 refine hno.out.mono ?_
 rintro e w2 ⟨s1,a1,l1,c1,rfl,hz1,k2,hl1⟩
 have b3:=below_alloc w2 (.cells #[.bool s1,.slice a1 l1 c1] 38)
 have ya:=hide (zb_new w2 s1 a1 l1 c1)
 replace hz1:=hide (hz1.zm.below b3)
 replace yA:=hide ((yA.out.below k2).below b3)
 replace yx:=hide ((yx.out.below k2).below b3)
 have hxl:=hide yx.out.lt
 have hAx:Hid (bA≠w2.heap.size∧bx≠w2.heap.size∧w.heap.size≤w2.heap.size):=hide (by have:=kb.out.size;have:=k2.size;omega)
 replace kb:=hide (grow_step b3 (grow_step k2 kb.out))
 clear b3 k2 hno q0 q1 yk hlA hlX
 go_upto_region 2 with(fail)
 generalize w2.alloc (.cells #[.bool s1,.slice a1 l1 c1] 38)=w3 at*
 obtain⟨ba,hba⟩: ∃ba,w2.heap.size=ba:=⟨_,rfl⟩
 rw[hba]at ya hAx ⊢
 clear hba
 have hwh:=hide (where_n (h.below kb.out) o_m hz1.out o_m)
 have q0:=ya.out.c0
 have q1:=ya.out.c1
 have q2:=yA.out.c0
 have q3:=yA.out.c1
 have q4:=yA.out.c2
 go_wp2_with fail
 refine hwh.out.mono ?_
 rintro e w4 ⟨rfl,k4⟩
 replace ya:=hide (ya.out.below k4)
 replace yA:=hide (yA.out.below k4)
 replace yx:=hide (yx.out.below k4)
 replace hz1:=hide (hz1.out.below k4)
 replace kb:=hide (grow_step k4 kb.out)
 clear hwh k4 q0 q1 q2 q3 q4
 have hpl:=plc_le E.cs x
 rw[hcl.out]at hpl
 go_wp2_with fail
 go_loopw [7] (fun vi wr=> ∃(i1:Nat) (z:ZV) (at':Int),i1≤v.cn+1∧vi= .int .i64 ((i1:Int)-1)∧ZB wr ba z.s z.a z.l z.c∧Zm wr z.s z.a z.l z.c at'∧z.l≤2147483649∧at'≤x∧(∀u,at'<u→u≤x→mm E u=false)∧(1≤i1→plc E.cs at'+1=i1)∧(i1=0→∀u,u≤x→mm E u=false)∧SBr wr bA E.p v∧ZB wr bx false none 0 0∧Below w.heap.size w wr) (fun vi _=>(intOf vi+1).toNat)
 case atStart=>exact⟨plc E.cs x+1,⟨s1,a1,l1,c1⟩,x,by omega,by congr 1;omega,ya.out,hz1.out,by show l1≤_;omega,Int.le_refl _,fun u h1 h2=>by omega,fun _=>rfl,fun h=>by omega,yA.out,yx.out,kb.out⟩
 case round=>
  clear ya hz1 yA yx
  obtain⟨i1,z,at',hi,hvi,ya,hz,hzl,hxa,hno,hpi1,hend,yA,yx,kr⟩:=hrel
  generalize wr=wo at*
  replace ya:=hide ya
  replace hz:=hide hz
  replace yA:=hide yA
  replace yx:=hide yx
  replace kr:=hide kr
  rcases Nat.eq_zero_or_pos i1 with rfl|hpos
  rotate_left
  ·obtain⟨i,rfl⟩: ∃i,i1=i+1:=⟨i1-1,by omega⟩
   replace hvi:_=Value.int .i64 (i:Int):=hvi.trans (by congr 1;omega)
   subst hvi
   have hpi:plc E.cs at'=i:=by have:=hpi1 o_m;omega
   clear hpi1 hend
   have qA1:=yA.out.c1
   go_wp2_with fail
   go_loopw [8] (fun vk wr=> ∃k:Nat,k≤E.p∧vk= .int .i64 k∧(∀j:Nat,j<k→mm E (at'-j)=false)∧(∀(t:Nat) (ht:t<E.cs.length),t+1=i→∀j:Nat,j<k→E.cs[t]≤at'-j)∧Below wo.heap.size wo wr) (fun vk _=>E.p-(intOf vk).toNat)
   case atStart=>exact⟨0,Nat.zero_le _,rfl,fun j hj=>absurd hj (Nat.not_lt_zero _),fun _ _ _ j hj=>absurd hj (Nat.not_lt_zero _),Below.refl _ _⟩
   case round=>
    clear qA1
    obtain⟨k,hk,rfl,hmf,hmc,kx⟩:=hrel
    have qA0:=(yA.out.below kx).c0
    by_cases hkp:k<E.p
    ·have ya8:=hide (ya.out.below kx)
     have hz8:=hide (hz.out.below kx)
     have hkb:k≤4096:=by omega
     go_upto_region 8 with(fail)
     go_cut [9] (fun v9 wc=> ∃(b9:Nat) (z9:ZV),v9= .pointer (some ⟨b9,0,none⟩)∧Hid (ZB wc b9 z9.s z9.a z9.l z9.c)∧Hid (Zn wc z9.s z9.a z9.l z9.c (at'-k))∧z9.l≤2147483650∧Hid (Below wr.heap.size wr wc))
     case first=>
      refine wp_region_held_drew (S:=(fun w'=>(w'.cell? ⟨ba,0,none⟩=some (.bool z.s)∧w'.cell? ⟨ba,1,none⟩=some (.slice z.a z.l z.c)))) k_f (⟨(ya8.out.below (grow_drew (Below.refl _ _))).c0,(ya8.out.below (grow_drew (Below.refl _ _))).c1⟩) (fun hHeld=> ?_)
      show wpAnyH _ _ _ _ _ 6 _ _ _
      have kW:=grow_drew (Below.refl wr.heap.size wr)
      generalize wr.drew=wQ at*
      repeat' first
       |with_reducible exact AllReadyH.nil
       |(
        refine tkz 0 25 ?_
        (try simp only[pz]))
       |(
        refine tkz 1 26 ?_
        (try simp only[pz]))
       |(refine wpAnyH_ready (rs:=[2,4]) ?_ ?_ ?_;decide+kernel;simp)
       |(refine wpAnyH_ready (rs:=[3,4]) ?_ ?_ ?_;decide+kernel;simp)
       |(refine wpAnyH_ready (rs:=[4]) ?_ ?_ ?_;decide+kernel;simp)
       |(refine wpAnyH_ready (rs:=[5]) ?_ ?_ ?_;decide+kernel;simp)
       |(refine wpAnyH_ready (rs:=[3]) ?_ ?_ ?_;decide+kernel;simp)
       |(refine wpAnyH_ready (rs:=[2]) ?_ ?_ ?_;decide+kernel;simp)
       |(
        first
         |(
          refine AllReadyH.cons (i:=2) (o:=⟨some 27,_,_,_,_,_⟩) rfl (fun K hK=> ?_) ?_
          go_simp
          go_at_call 66;refine Calls.mono (num19_n (k:Int) o_m o_m _) ?_;rintro e wkA ⟨sA,aA,lA,cA,rfl,hzA,kA,hlA⟩
          try have z9:=z9.below kA
          have kW:=grow_step kA kW
          try go_wp2_with fail)
         |(
          refine AllReadyH.cons (i:=3) (o:=⟨some 28,_,_,_,_,_⟩) rfl (fun K hK=> ?_) ?_
          go_simp
          go_at_call 53;refine Calls.mono (rsub2_n (hz8.out.below kW) hzA.zm o_m o_m) ?_;rintro e wkB ⟨sB,aB,lB,cB,rfl,hzB,kB,hlB⟩
          try have z9:=z9.below kB
          have kW:=grow_step kB kW
          try go_wp2_with fail)
         |(
          refine AllReadyH.cons (i:=4) (o:=⟨some 9,_,_,_,_,_⟩) rfl (fun K hK=> ?_) ?_
          obtain⟨wL,b9,eL,eb9,z9,hb9,kL,kW⟩:=al_b kW (.cells #[.bool false,.slice none 0 0] 38)
          replace z9:ZB wL b9 false none 0 0:=z9
          try have hzA:=hzA.below kL
          try have hzB:=hzB.below kL
          go_simp
          rw[eL.out]
          (try simp only[eb9.out]))
         |(
          refine AllReadyH.cons (i:=5) (o:=⟨none,_,_,_,_,_⟩) rfl (fun K hK=> ?_) ?_
          have f0:=z9.c0
          have f1:=z9.c1
          have f2:=z9.f 0
          have f3:=z9.f 1
          obtain⟨w8x,e8,z9,kZ,hzn,hzb⟩:=fst_z kW hb9 z9 sB aB lB cB
          have hzB:=hzn _ _ _ _ _ hzB
          go_simp
          rw[e8.out]
          clear f0 f1 f2 f3 hzn hzb
          have kW:=kZ)
        refine hK.out _ _ ?_ ?_
        ·first|with_reducible exact trivial|((try dsimp only);exact⟨(ya8.out.below kW).c0,(ya8.out.below kW).c1⟩)
        clear hK K hHeld;intro hHeld
        (try simp only[pz]))
      all_goals
       refine wpAnyH_done ?_ ?_ _
       ·decide+kernel
       have t1:=hide z9
       have t2:=hide hzB
       have t3:=hide kW
       have t4:lB≤2147483650:=by omega
       clear kW hHeld z9 hzA hzB
       go_wp2_with fail
       go_meet
       case rel=>exact⟨b9,⟨sB,aB,lB,cB⟩,rfl,t1,t2,t4,t3⟩
     case rest=>
     obtain⟨b9,z9,rfl,y9,hn9,hn9l,k5⟩:=hcut
     generalize wc=w5 at*
     have k5x:=hide (grow_step k5.out kx)
     clear k5 kx ya8 hz8
     have yA5:=yA.out.below k5x.out
     have qA1:=yA5.c1
     have hAl:=yA5.lt
     have h5:=hide (h.below (grow_step k5x.out kr.out))
     clear yA5
     go_upto_region 9 with(fail)
     go_cut [40] (fun v40 wc=> ∃bq:Bool,v40= .bool bq∧(bq=true↔ ∃(j:Nat) (hj:j<E.cs.length),j+1=i∧at'-k<E.cs[j])∧Hid (Below w5.heap.size w5 wc))
     case first=>
      rcases Nat.eq_zero_or_pos i with hi0|hip
      ·have hdz:Hid (decide ((0:Int)<(i:Int))=false):=hide (by rw[decide_eq_false_iff_not];omega)
       have hbq:Hid (false=true↔ ∃(j:Nat) (hj:j<E.cs.length),j+1=i∧at'-k<E.cs[j]):=hide ⟨fun h=>(by cases h),fun⟨_,_,e,_⟩=>absurd e o_m⟩
       clear qA1
       refine wp_region_held_drew (S:=(fun w'=>w'.cell? ⟨b9,0,none⟩=some (.bool z9.s)∧w'.cell? ⟨b9,1,none⟩=some (.slice z9.a z9.l z9.c))) k_f (⟨(y9.out.below (grow_drew (Below.refl _ _))).c0,(y9.out.below (grow_drew (Below.refl _ _))).c1⟩) (fun hHeld=> ?_)
       show wpAnyH _ _ _ _ _ 12 _ _ _
       have kW:=grow_drew (Below.refl w5.heap.size w5)
       generalize w5.drew=wQ at*
       refine tkz 0 29 ?_
       (try simp only[pz])
       refine wpAnyH_take (i:=1) (oi:=⟨some 30,_,_,_,_,_⟩) (v:=.bool false) rfl (by decide+kernel) (by decide+kernel) (by decide+kernel) (fun _ _ _ h=>h) (Or.inl ⟨by rfl,?_⟩) (by assumption) ?_
       skip
       ·intro wq hSw;(try dsimp only at hSw);go_simp;(first|done|omega|rw[hdz.out]|simp[hdz.out]|exact hdz.out)
       (try simp only[pz])
       refine tkz 2 31 ?_
       (try simp only[pz])
       refine wpAnyH_take (i:=3) (oi:=⟨some 32,_,_,_,_,_⟩) (v:=undef) rfl (by decide+kernel) (by decide+kernel) (by decide+kernel) (fun _ _ _ h=>h) (Or.inr ⟨by rfl,rfl⟩) (by assumption) ?_
       (try simp only[pz])
       refine wpAnyH_take (i:=4) (oi:=⟨some 33,_,_,_,_,_⟩) (v:=undef) rfl (by decide+kernel) (by decide+kernel) (by decide+kernel) (fun _ _ _ h=>h) (Or.inr ⟨by rfl,rfl⟩) (by assumption) ?_
       (try simp only[pz])
       refine wpAnyH_take (i:=5) (oi:=⟨some 34,_,_,_,_,_⟩) (v:=undef) rfl (by decide+kernel) (by decide+kernel) (by decide+kernel) (fun _ _ _ h=>h) (Or.inr ⟨by rfl,rfl⟩) (by assumption) ?_
       (try simp only[pz])
       refine wpAnyH_take (i:=6) (oi:=⟨some 35,_,_,_,_,_⟩) (v:=undef) rfl (by decide+kernel) (by decide+kernel) (by decide+kernel) (fun _ _ _ h=>h) (Or.inr ⟨by rfl,rfl⟩) (by assumption) ?_
       (try simp only[pz])
       refine wpAnyH_take (i:=7) (oi:=⟨some 36,_,_,_,_,_⟩) (v:=undef) rfl (by decide+kernel) (by decide+kernel) (by decide+kernel) (fun _ _ _ h=>h) (Or.inr ⟨by rfl,rfl⟩) (by assumption) ?_
       (try simp only[pz])
       refine wpAnyH_take (i:=8) (oi:=⟨some 37,_,_,_,_,_⟩) (v:=undef) rfl (by decide+kernel) (by decide+kernel) (by decide+kernel) (fun _ _ _ h=>h) (Or.inr ⟨by rfl,rfl⟩) (by assumption) ?_
       (try simp only[pz])
       refine wpAnyH_take (i:=9) (oi:=⟨some 38,_,_,_,_,_⟩) (v:=undef) rfl (by decide+kernel) (by decide+kernel) (by decide+kernel) (fun _ _ _ h=>h) (Or.inr ⟨by rfl,rfl⟩) (by assumption) ?_
       (try simp only[pz])
       refine wpAnyH_take (i:=10) (oi:=⟨some 39,_,_,_,_,_⟩) (v:=undef) rfl (by decide+kernel) (by decide+kernel) (by decide+kernel) (fun _ _ _ h=>h) (Or.inr ⟨by rfl,rfl⟩) (by assumption) ?_
       (try simp only[pz])
       refine tkz 11 40 ?_
       (try simp only[pz])
       refine wpAnyH_done ?_ ?_ _
       ·decide+kernel
       have k9:=hide kW
       clear kW hHeld
       go_wp2_with fail
       go_meet
       case rel=>exact⟨false,rfl,(by first|exact hbq.out|simpa using hbq.out),k9⟩
      obtain⟨j,hji⟩: ∃j,i=j+1:=⟨i-1,by omega⟩
      have hjl:j<E.cs.length:=by have:=hcl.out;omega
      obtain⟨cb,co,zc,hvc,hcb,d0,d1,hzc,hzcl⟩:=h5.out.cu.2 j (by have:=hcl.out;omega) hjl
      rw[hvc]at qA1
      clear hvc
      replace hzc:=hide hzc
      have hdz:Hid (decide ((0:Int)<(i:Int))=true):=hide (by rw[decide_eq_true_iff];omega)
      have hj1:Hid ((i:Int)-1=(j:Int)):=hide o_m
      have hjn:j<v.cn:=by have:=hcl.out;omega
      obtain⟨bq,hbd⟩: ∃bq,decide (at'-k<E.cs[j])=bq:=⟨_,rfl⟩
      have hbq:Hid (bq=true↔ ∃(j:Nat) (hj:j<E.cs.length),j+1=i∧at'-k<E.cs[j]):=hide (by
       rw[←hbd,decide_eq_true_iff]
       constructor
       ·intro h9;exact⟨j,hjl,hji.symm,h9⟩
       rintro⟨t,ht,e,h9⟩
       obtain rfl:t=j:=by omega
       exact h9)
      replace hbd:=hide hbd
      clear hji
      refine wp_region_held_drew (S:=(fun w'=>(w'.cell? ⟨b9,0,none⟩=some (.bool z9.s)∧w'.cell? ⟨b9,1,none⟩=some (.slice z9.a z9.l z9.c))∧w'.cell? ⟨bA,1,none⟩=some (.slice (some ⟨cb,co,none⟩) v.cn v.cc)∧(w'.cell? ⟨cb,co+j*2,none⟩=some (.bool zc.s)∧w'.cell? ⟨cb,co+j*2+1,none⟩=some (.slice zc.a zc.l zc.c)))) k_f (⟨⟨(y9.out.below (grow_drew (Below.refl _ _))).c0,(y9.out.below (grow_drew (Below.refl _ _))).c1⟩,(Below.cell (p:=⟨bA,1,none⟩) (grow_drew (Below.refl _ _)) hAl).trans qA1,⟨(Below.cell (p:=⟨cb,_,none⟩) (grow_drew (Below.refl _ _)) hcb).trans d0,(Below.cell (p:=⟨cb,_,none⟩) (grow_drew (Below.refl _ _)) hcb).trans d1⟩⟩) (fun hHeld=> ?_)
      show wpAnyH _ _ _ _ _ 12 _ _ _
      have kW:=grow_drew (Below.refl w5.heap.size w5)
      generalize w5.drew=wQ at*
      refine tkz 0 29 ?_
      (try simp only[pz])
      refine wpAnyH_take (i:=1) (oi:=⟨some 30,_,_,_,_,_⟩) (v:=.bool true) rfl (by decide+kernel) (by decide+kernel) (by decide+kernel) (fun _ _ _ h=>h) (Or.inl ⟨by rfl,?_⟩) (by assumption) ?_
      skip
      ·intro wq hSw;(try dsimp only at hSw);go_simp;(first|done|omega|rw[hdz.out]|simp[hdz.out]|exact hdz.out)
      (try simp only[pz])
      refine tkz 2 31 ?_
      (try simp only[pz])
      refine tkz 3 32 ?_
      (try simp only[pz])
      refine tkz 4 33 ?_
      (try simp only[pz])
      refine tkz 5 34 ?_
      (try simp only[pz])
      refine tkz 6 35 ?_
      (try simp only[pz])
      refine wpAnyH_take (i:=7) (oi:=⟨some 36,_,_,_,_,_⟩) (v:=.int .i64 (j:Int)) rfl (by decide+kernel) (by decide+kernel) (by decide+kernel) (fun _ _ _ h=>h) (Or.inl ⟨by rfl,?_⟩) (by assumption) ?_
      skip
      ·intro wq hSw;(try dsimp only at hSw);go_simp;(first|done|(rw[hj1.out,IntKind.wrap_i64];omega)|(rw[IntKind.wrap_i64];have:=hj1.out;omega))
      (try simp only[pz])
      refine tkz 8 37 ?_
      (try simp only[pz])
      refine tkz 9 38 ?_
      (try simp only[pz])
      refine ryz 10 (some 39) (fun K hK=> ?_) AllReadyH.nil
      go_simp
      go_at_call 68;refine Calls.mono (below19_n (hn9.out.zm.below kW) o_m (hzc.out.below kW) o_m) ?_;rintro e wkA ⟨rfl,kA⟩
      rw[hbd.out]
      have kW:=grow_step kA kW
      try go_wp2_with fail
      refine hK.out _ _ ?_ ?_
      ·first|with_reducible exact trivial|((try dsimp only);exact⟨⟨(y9.out.below kW).c0,(y9.out.below kW).c1⟩,(Below.cell (p:=⟨bA,1,none⟩) kW hAl).trans qA1,⟨(Below.cell (p:=⟨cb,_,none⟩) kW hcb).trans d0,(Below.cell (p:=⟨cb,_,none⟩) kW hcb).trans d1⟩⟩)
      clear hK K hHeld;intro hHeld
      (try simp only[pz])
      refine tkz 11 40 ?_
      (try simp only[pz])
      refine wpAnyH_done ?_ ?_ _
      ·decide+kernel
      have k9:=hide kW
      clear kW hHeld
      go_wp2_with fail
      go_meet
      case rel=>exact⟨bq,rfl,(by first|exact hbq.out|simpa using hbq.out),k9⟩
     case rest=>
     obtain⟨bq,rfl,hbq,k6⟩:=hcut
     generalize wc=w6 at*
     replace y9:=hide (y9.out.below k6.out)
     replace hn9:=hide (hn9.out.below k6.out)
     have kx:=hide (grow_step k6.out k5x.out)
     clear k6 k5x qA1 hAl h5
     cases bq with
     |true=>
      have hstr: ∀u,u≤at'→(∀(t:Nat) (ht:t<E.cs.length),t+1=i→E.cs[t]≤u)→mm E u=false:=fun u h1 h2=>by
       obtain⟨t,ht,et,h9⟩:=hbq.1 rfl
       have h3:=h2 t ht et
       obtain⟨j,hj⟩: ∃j:Nat,u=at'-j:=⟨(at'-u).toNat,by omega⟩
       rw[hj]
       exact hmf j o_m
      clear hmf hmc hbq y9 hn9
      have hstr2:=hide hstr
      clear hstr
      have yaw:=ya.out.below kx.out
      have yAw:=yA.out.below kx.out
      have yxw:=yx.out.below kx.out
      have kw:=grow_step kx.out kr.out
      have hic9:i<v.cn+1:=by omega
      rcases Nat.eq_zero_or_pos i with hi0|hip
      ·have hall:Hid (∀u,u≤x→mm E u=false):=hide fun u hu=>by
        by_cases hua:at'<u
        ·exact hno u hua hu
        exact hstr2.out u o_m (fun t ht e=>by omega)
       have p0:=yaw.c0
       replace hno:=hide hno
       replace yaw:=hide yaw
       replace yAw:=hide yAw
       replace yxw:=hide yxw
       replace kw:=hide kw
       have hz8:=hide (hz.out.below kx.out)
       have hdz:decide ((0:Int)<(i:Int))=false:=by rw[decide_eq_false_iff_not];omega
       clear hstr2 hpi
       go_wp2
       exact⟨⟨i,z,at',by omega,by go_num,yaw.out,hz8.out,hzl,hxa,hno.out,fun h9=>by omega,fun _=>hall.out,yAw.out,yxw.out,kw.out⟩,by simp[intOf] <;> omega⟩
      obtain⟨j,hji⟩: ∃j,i=j+1:=⟨i-1,by omega⟩
      have hjl:j<E.cs.length:=by have:=hcl.out;omega
      obtain⟨cb,co,zc,hvc,hcb0,d0,d1,hzc,hzcl⟩:=h.cu.2 j o_m hjl
      have e0:=(Below.cell (p:=⟨cb,_,none⟩) kw hcb0).trans d0
      have e1:=(Below.cell (p:=⟨cb,_,none⟩) kw hcb0).trans d1
      have hcb:cb<w6.heap.size:=Nat.lt_of_lt_of_le hcb0 kw.size
      have p1:=yAw.c1
      rw[hvc]at p1
      have hAl:=yAw.lt
      have hnp:Hid (∀u,E.cs[j]-1<u→u≤x→mm E u=false):=hide fun u h1 h2=>by
       by_cases hua:at'<u
       ·exact hno u hua h2
       exact hstr2.out u o_m (fun t ht e=>by
        obtain rfl:t=j:=by omega
        omega)
      have hpc:=hide (plc_pre hwf.out.up hjl)
      have hxc:Hid (E.cs[j]-1≤x):=hide (by have:=nd_ge hwf.out (a:=at') (j:=j) o_m hjl;omega)
      replace hzc:=hide (hzc.below kw)
      replace hvc:=hide hvc
      replace hcb0:=hide hcb0
      replace d0:=hide d0
      replace d1:=hide d1
      replace yaw:=hide yaw
      replace yAw:=hide yAw
      replace yxw:=hide yxw
      replace kw:=hide kw
      have hdz:decide ((0:Int)<(i:Int))=true:=by rw[decide_eq_true_iff];omega
      have hj1:Hid ((i:Int)-1=(j:Int)):=hide o_m
      have hjn:j<v.cn:=by have:=hcl.out;omega
      obtain⟨cv,hcv⟩: ∃cv,E.cs[j]=cv:=⟨_,rfl⟩
      rw[hcv]at hzc hnp hpc hxc
      clear hstr2 hno hpi hji hcv
      go_upto_region 13 with(fail)
      refine wp_region_held_drew (S:=(fun w'=>w'.cell? ⟨bA,1,none⟩=some (.slice (some ⟨cb,co,none⟩) v.cn v.cc)∧(w'.cell? ⟨cb,co+j*2,none⟩=some (.bool zc.s)∧w'.cell? ⟨cb,co+j*2+1,none⟩=some (.slice zc.a zc.l zc.c)))) k_f (⟨(Below.cell (p:=⟨bA,1,none⟩) (grow_drew (Below.refl _ _)) hAl).trans p1,⟨(Below.cell (p:=⟨cb,_,none⟩) (grow_drew (Below.refl _ _)) hcb).trans e0,(Below.cell (p:=⟨cb,_,none⟩) (grow_drew (Below.refl _ _)) hcb).trans e1⟩⟩) (fun hHeld=> ?_)
      show wpAnyH _ _ _ _ _ 9 _ _ _
      have kW:=grow_drew (Below.refl w6.heap.size w6)
      generalize w6.drew=wQ at*
      refine tkz 0 55 ?_
      (try simp only[pz])
      refine tkz 1 56 ?_
      (try simp only[pz])
      refine tkz 2 57 ?_
      (try simp only[pz])
      refine wpAnyH_take (i:=3) (oi:=⟨some 58,_,_,_,_,_⟩) (v:=.int .i64 (j:Int)) rfl (by decide+kernel) (by decide+kernel) (by decide+kernel) (fun _ _ _ h=>h) (Or.inl ⟨by rfl,?_⟩) (by assumption) ?_
      skip
      ·intro wq hSw;(try dsimp only at hSw);go_simp;(first|done|(rw[hj1.out,IntKind.wrap_i64];omega)|(rw[IntKind.wrap_i64];have:=hj1.out;omega))
      (try simp only[pz])
      refine tkz 4 59 ?_
      (try simp only[pz])
      refine tkz 5 60 ?_
      (try simp only[pz])
      refine ryz 6 (some 61) (fun K hK=> ?_) AllReadyH.nil
      go_simp
      go_at_call 66;refine Calls.mono (num19_n 1 o_m o_m _) ?_;rintro e wkA ⟨sA,aA,lA,cA,rfl,hzA,kA,hlA⟩
      have kW:=grow_step kA kW
      try go_wp2_with fail
      refine hK.out _ _ ?_ ?_
      ·first|with_reducible exact trivial|((try dsimp only);exact(by first|exact⟨(Below.cell (p:=⟨bA,1,none⟩) kW hAl).trans p1,⟨(Below.cell (p:=⟨cb,_,none⟩) kW hcb).trans e0,(Below.cell (p:=⟨cb,_,none⟩) kW hcb).trans e1⟩⟩|exact hS8))
      clear hK K hHeld;intro hHeld
      (try simp only[pz])
      refine ryz 7 (some 62) (fun K hK=> ?_) AllReadyH.nil
      go_simp
      go_at_call 53;refine Calls.mono (rsub2_n (hzc.out.below kW) hzA.zm o_m o_m) ?_;rintro e wkB ⟨sB,aB,lB,cB,rfl,hzB,kB,hlB⟩
      have kW:=grow_step kB kW
      try go_wp2_with fail
      refine hK.out _ _ ?_ ?_
      ·first|with_reducible exact trivial|((try dsimp only);exact(by first|exact⟨(Below.cell (p:=⟨bA,1,none⟩) kW hAl).trans p1,⟨(Below.cell (p:=⟨cb,_,none⟩) kW hcb).trans e0,(Below.cell (p:=⟨cb,_,none⟩) kW hcb).trans e1⟩⟩|exact hS8))
      clear hK K hHeld;intro hHeld
      (try simp only[pz])
      refine ryz 8 none (fun K hK=> ?_) AllReadyH.nil
      have yaK:=yaw.out.below kW
      have f0:=yaK.c0
      have f1:=yaK.c1
      have f2:=yaK.f 0
      have f3:=yaK.f 1
      obtain⟨w8,e8,y8,k8,o8,hzn⟩:=Pd.est_z (grow_step kW kw.out) hAx.out.2.2 yaK sB aB lB cB
      have hz8:=hzn _ _ _ _ _ hzB
      have hA8:=(yAw.out.below kW).only o8 hAx.out.1
      have hx8:=(yxw.out.below kW).only o8 hAx.out.2.1
      have hS8:w8.cell? ⟨bA,1,none⟩=some (.slice (some ⟨cb,co,none⟩) v.cn v.cc)∧(w8.cell? ⟨cb,co+j*2,none⟩=some (.bool zc.s)∧w8.cell? ⟨cb,co+j*2+1,none⟩=some (.slice zc.a zc.l zc.c)):=⟨by rw[←hvc.out];exact hA8.c1,⟨(Below.cell (p:=⟨cb,_,none⟩) k8 hcb0.out).trans d0.out,(Below.cell (p:=⟨cb,_,none⟩) k8 hcb0.out).trans d1.out⟩⟩
      go_simp
      rw[e8.out]
      clear f0 f1 f2 f3 hzn
      refine hK.out _ _ ?_ ?_
      ·first|with_reducible exact trivial|((try dsimp only);exact(by first|exact⟨(Below.cell (p:=⟨bA,1,none⟩) kW hAl).trans p1,⟨(Below.cell (p:=⟨cb,_,none⟩) kW hcb).trans e0,(Below.cell (p:=⟨cb,_,none⟩) kW hcb).trans e1⟩⟩|exact hS8))
      clear hK K hHeld;intro hHeld
      (try simp only[pz])
      refine wpAnyH_done ?_ ?_ _
      ·decide+kernel
      have k13:=hide k8
      have ya13:=hide y8
      have hz13:=hide hz8.zm
      have hA13:=hide hA8
      have hx13:=hide hx8
      clear hHeld k8 y8 hz8 hA8 hx8 hS8 o8
      go_wp2
      exact⟨⟨i,⟨sB,aB,lB,cB⟩,cv-1,by omega,by go_num,ya13.out,hz13.out,by show lB≤_;omega,hxc.out,hnp.out,fun _=>by have:=hpc.out;have:=hj1.out;omega,fun h9=>by omega,hA13.out,hx13.out,k13.out⟩,by simp[intOf] <;> omega⟩
      all_goals (exfalso;omega)
     |false=>
      have hin9: ∀(t:Nat) (ht:t<E.cs.length),t+1=i→E.cs[t]≤at'-k:=fun t ht et=>by
       rcases Int.lt_or_le (at'-k) E.cs[t]with h1|h1
       ·exact absurd (hbq.2 ⟨t,ht,et,h1⟩) (by decide)
       exact h1
      have hrow:=(nd_row hwf.out hpi (n:=at'-k) o_m hin9).2
      have hml:((at'-k)%(E.p:Int)).toNat<E.p:=md_lt hp1 _
      obtain⟨m,hm⟩: ∃m,((at'-k)%(E.p:Int)).toNat=m:=⟨_,rfl⟩
      rw[hm]at hrow hml
      have yA6:=yA.out.below kx.out
      have qA0:=yA6.c0
      have qA2:=yA6.c2
      have hAl:=yA6.lt
      obtain⟨rA,oA,gA,hvA,hrA,cA,hgA,hlA⟩:=(h.below (grow_step kx.out kr.out)).row (i:=i) o_m
      rw[hvA]at qA2
      clear hvA
      have eA:=hgA.cell (i:=m) o_m
      have hgAl:=hgA.lt
      rw[←hrow]at eA
      obtain⟨x9,hx9⟩: ∃x9,mm E (at'-k)=x9:=⟨_,rfl⟩
      rw[hx9]at eA
      have hirn:i<v.rn:=by have:=hrn.out;omega
      replace hm:=hide hm
      clear hrow hbq hgA yA6
      go_upto_region 10 with(fail)
      refine wp_region_held_drew (S:=(fun w'=>(w'.cell? ⟨b9,0,none⟩=some (.bool z9.s)∧w'.cell? ⟨b9,1,none⟩=some (.slice z9.a z9.l z9.c))∧w'.cell? ⟨bA,0,none⟩=some (.int .i64 E.p)∧w'.cell? ⟨bA,2,none⟩=some (.slice (some ⟨rA,oA,none⟩) v.rn v.rc)∧w'.cell? ⟨rA,oA+i,none⟩=some (.slice (some ⟨gA,0,none⟩) E.p E.p)∧w'.cell? ⟨gA,m,none⟩=some (.bool x9))) k_f (⟨⟨(y9.out.below (grow_drew (Below.refl _ _))).c0,(y9.out.below (grow_drew (Below.refl _ _))).c1⟩,(Below.cell (p:=⟨bA,0,none⟩) (grow_drew (Below.refl _ _)) hAl).trans qA0,(Below.cell (p:=⟨bA,2,none⟩) (grow_drew (Below.refl _ _)) hAl).trans qA2,(Below.cell (p:=⟨rA,_,none⟩) (grow_drew (Below.refl _ _)) hrA).trans cA,(Below.cell (p:=⟨gA,_,none⟩) (grow_drew (Below.refl _ _)) hgAl).trans eA⟩) (fun hHeld=> ?_)
      show wpAnyH _ _ _ _ _ 11 _ _ _
      have kW:=grow_drew (Below.refl w6.heap.size w6)
      generalize w6.drew=wQ at*
      refine tkz 0 41 ?_
      (try simp only[pz])
      refine tkz 1 42 ?_
      (try simp only[pz])
      refine tkz 2 43 ?_
      (try simp only[pz])
      refine tkz 3 44 ?_
      (try simp only[pz])
      refine tkz 4 45 ?_
      (try simp only[pz])
      refine tkz 5 46 ?_
      (try simp only[pz])
      refine tkz 6 47 ?_
      (try simp only[pz])
      refine tkz 7 48 ?_
      (try simp only[pz])
      refine ryz 8 (some 49) (fun K hK=> ?_) AllReadyH.nil
      go_simp
      go_at_call 77;refine Calls.mono (modulo19_n (hn9.out.zm.below kW) o_m hp1 hp2) ?_;rintro e wkA ⟨rfl,kA⟩
      rw[hm.out]
      have kW:=grow_step kA kW
      try go_wp2_with fail
      refine hK.out _ _ ?_ ?_
      ·first|with_reducible exact trivial|((try dsimp only);exact⟨⟨(y9.out.below kW).c0,(y9.out.below kW).c1⟩,(Below.cell (p:=⟨bA,0,none⟩) kW hAl).trans qA0,(Below.cell (p:=⟨bA,2,none⟩) kW hAl).trans qA2,(Below.cell (p:=⟨rA,_,none⟩) kW hrA).trans cA,(Below.cell (p:=⟨gA,_,none⟩) kW hgAl).trans eA⟩)
      clear hK K hHeld;intro hHeld
      (try simp only[pz])
      refine tkz 9 50 ?_
      (try simp only[pz])
      refine tkz 10 51 ?_
      (try simp only[pz])
      refine wpAnyH_done ?_ ?_ _
      ·decide+kernel
      have k10:=hide kW
      clear kW hHeld
      generalize wkA=w7 at*
      have kx7:=hide (grow_step k10.out kx.out)
      replace y9:=hide (y9.out.below k10.out)
      replace hn9:=hide (hn9.out.below k10.out)
      clear k10 kx qA0 qA2 cA eA hrA hgAl hAl
      cases x9 with
      |true=>
       have yx7:=yx.out.below kx7.out
       obtain⟨w8,e8,y8,k8,o8,hzn⟩:=Pd.est_z (grow_step kx7.out kr.out) hge.out yx7 z9.s z9.a z9.l z9.c
       have hz8:=hide (hzn _ _ _ _ _ hn9.out)
       have q0:=y9.out.c0
       have q1:=y9.out.c1
       have p2:=yx7.c0
       have p3:=yx7.c1
       have p4:=yx7.f 0
       have p5:=yx7.f 1
       have hans:Hid (LtE w8 (.returned (.tuple #[.agg #[.bool z9.s,.slice z9.a z9.l z9.c],.bool true])) (mm E) x 2147483650):=hide (.inl ⟨at'-k,z9,by omega,fun u h1 h2=>by
        by_cases hua:at'<u
        ·exact hno u hua h2
        obtain⟨j,hj⟩: ∃j:Nat,u=at'-j:=⟨(at'-u).toNat,by omega⟩
        rw[hj]
        exact hmf j o_m,hx9,rfl,hz8.out,hn9l⟩)
       replace k8:=hide k8
       replace y8:=hide y8
       clear yx7 hzn o8 hn9 hno hmf hmc hpi hin9
       go_wp2_with fail
       rw[e8.out]
       go_wp2
       refine bodyPost_ret (results_ct rfl _ _ bx 38 _ (0,0) _ rfl y8.out Tryz.underlying38 rfl k_f) rfl ?_
       exact⟨hans.out,k8.out⟩
      |false=>
       have hmf2:Hid (∀j:Nat,j<k+1→mm E (at'-j)=false):=hide fun j hj=>by
        rcases Nat.lt_succ_iff_lt_or_eq.1 hj with h1|rfl
        ·exact hmf j h1
        exact hx9
       have hmc2:Hid (∀(t:Nat) (ht:t<E.cs.length),t+1=i→∀j:Nat,j<k+1→E.cs[t]≤at'-j):=hide fun t ht et j hj=>by
        rcases Nat.lt_succ_iff_lt_or_eq.1 hj with h1|rfl
        ·exact hmc t ht et j h1
        exact hin9 t ht et
       clear hmf hmc hpi hno hin9 hx9
       go_wp2
       exact⟨⟨k+1,by omega,by go_num,hmf2.out,hmc2.out,kx7.out⟩,by simp[intOf] <;> omega⟩
    obtain rfl:k=E.p:=by omega
    have hstr: ∀u,u≤at'→(∀(t:Nat) (ht:t<E.cs.length),t+1=i→E.cs[t]≤u)→mm E u=false:=fun u h1 h2=>nd_full hwf.out hpi hmf hmc h1 h2
    replace kx:=hide kx
    clear hmf hmc
    have hstr2:=hide hstr
    clear hstr
    have yaw:=ya.out.below kx.out
    have yAw:=yA.out.below kx.out
    have yxw:=yx.out.below kx.out
    have kw:=grow_step kx.out kr.out
    have hic9:i<v.cn+1:=by omega
    rcases Nat.eq_zero_or_pos i with hi0|hip
    ·have hall:Hid (∀u,u≤x→mm E u=false):=hide fun u hu=>by
      by_cases hua:at'<u
      ·exact hno u hua hu
      exact hstr2.out u o_m (fun t ht e=>by omega)
     have p0:=yaw.c0
     replace hno:=hide hno
     replace yaw:=hide yaw
     replace yAw:=hide yAw
     replace yxw:=hide yxw
     replace kw:=hide kw
     have hz8:=hide (hz.out.below kx.out)
     have hdz:decide ((0:Int)<(i:Int))=false:=by rw[decide_eq_false_iff_not];omega
     clear hstr2 hpi
     go_wp2
     exact⟨⟨i,z,at',by omega,by go_num,yaw.out,hz8.out,hzl,hxa,hno.out,fun h9=>by omega,fun _=>hall.out,yAw.out,yxw.out,kw.out⟩,by simp[intOf] <;> omega⟩
    obtain⟨j,hji⟩: ∃j,i=j+1:=⟨i-1,by omega⟩
    have hjl:j<E.cs.length:=by have:=hcl.out;omega
    obtain⟨cb,co,zc,hvc,hcb0,d0,d1,hzc,hzcl⟩:=h.cu.2 j o_m hjl
    have e0:=(Below.cell (p:=⟨cb,_,none⟩) kw hcb0).trans d0
    have e1:=(Below.cell (p:=⟨cb,_,none⟩) kw hcb0).trans d1
    have hcb:cb<wr.heap.size:=Nat.lt_of_lt_of_le hcb0 kw.size
    have p1:=yAw.c1
    rw[hvc]at p1
    have hAl:=yAw.lt
    have hnp:Hid (∀u,E.cs[j]-1<u→u≤x→mm E u=false):=hide fun u h1 h2=>by
     by_cases hua:at'<u
     ·exact hno u hua h2
     exact hstr2.out u o_m (fun t ht e=>by
      obtain rfl:t=j:=by omega
      omega)
    have hpc:=hide (plc_pre hwf.out.up hjl)
    have hxc:Hid (E.cs[j]-1≤x):=hide (by have:=nd_ge hwf.out (a:=at') (j:=j) o_m hjl;omega)
    replace hzc:=hide (hzc.below kw)
    replace hvc:=hide hvc
    replace hcb0:=hide hcb0
    replace d0:=hide d0
    replace d1:=hide d1
    replace yaw:=hide yaw
    replace yAw:=hide yAw
    replace yxw:=hide yxw
    replace kw:=hide kw
    have hdz:decide ((0:Int)<(i:Int))=true:=by rw[decide_eq_true_iff];omega
    have hj1:Hid ((i:Int)-1=(j:Int)):=hide o_m
    have hjn:j<v.cn:=by have:=hcl.out;omega
    obtain⟨cv,hcv⟩: ∃cv,E.cs[j]=cv:=⟨_,rfl⟩
    rw[hcv]at hzc hnp hpc hxc
    clear hstr2 hno hpi hji hcv
    go_upto_region 13 with(fail)
    refine wp_region_held_drew (S:=(fun w'=>w'.cell? ⟨bA,1,none⟩=some (.slice (some ⟨cb,co,none⟩) v.cn v.cc)∧(w'.cell? ⟨cb,co+j*2,none⟩=some (.bool zc.s)∧w'.cell? ⟨cb,co+j*2+1,none⟩=some (.slice zc.a zc.l zc.c)))) k_f (⟨(Below.cell (p:=⟨bA,1,none⟩) (grow_drew (Below.refl _ _)) hAl).trans p1,⟨(Below.cell (p:=⟨cb,_,none⟩) (grow_drew (Below.refl _ _)) hcb).trans e0,(Below.cell (p:=⟨cb,_,none⟩) (grow_drew (Below.refl _ _)) hcb).trans e1⟩⟩) (fun hHeld=> ?_)
    show wpAnyH _ _ _ _ _ 9 _ _ _
    have kW:=grow_drew (Below.refl wr.heap.size wr)
    generalize wr.drew=wQ at*
    refine tkz 0 55 ?_
    (try simp only[pz])
    refine tkz 1 56 ?_
    (try simp only[pz])
    refine tkz 2 57 ?_
    (try simp only[pz])
    refine wpAnyH_take (i:=3) (oi:=⟨some 58,_,_,_,_,_⟩) (v:=.int .i64 (j:Int)) rfl (by decide+kernel) (by decide+kernel) (by decide+kernel) (fun _ _ _ h=>h) (Or.inl ⟨by rfl,?_⟩) (by assumption) ?_
    skip
    ·intro wq hSw;(try dsimp only at hSw);go_simp;(first|done|(rw[hj1.out,IntKind.wrap_i64];omega)|(rw[IntKind.wrap_i64];have:=hj1.out;omega))
    (try simp only[pz])
    refine tkz 4 59 ?_
    (try simp only[pz])
    refine tkz 5 60 ?_
    (try simp only[pz])
    refine ryz 6 (some 61) (fun K hK=> ?_) AllReadyH.nil
    go_simp
    go_at_call 66;refine Calls.mono (num19_n 1 o_m o_m _) ?_;rintro e wkA ⟨sA,aA,lA,cA,rfl,hzA,kA,hlA⟩
    have kW:=grow_step kA kW
    try go_wp2_with fail
    refine hK.out _ _ ?_ ?_
    ·first|with_reducible exact trivial|((try dsimp only);exact(by first|exact⟨(Below.cell (p:=⟨bA,1,none⟩) kW hAl).trans p1,⟨(Below.cell (p:=⟨cb,_,none⟩) kW hcb).trans e0,(Below.cell (p:=⟨cb,_,none⟩) kW hcb).trans e1⟩⟩|exact hS8))
    clear hK K hHeld;intro hHeld
    (try simp only[pz])
    refine ryz 7 (some 62) (fun K hK=> ?_) AllReadyH.nil
    go_simp
    go_at_call 53;refine Calls.mono (rsub2_n (hzc.out.below kW) hzA.zm o_m o_m) ?_;rintro e wkB ⟨sB,aB,lB,cB,rfl,hzB,kB,hlB⟩
    have kW:=grow_step kB kW
    try go_wp2_with fail
    refine hK.out _ _ ?_ ?_
    ·first|with_reducible exact trivial|((try dsimp only);exact(by first|exact⟨(Below.cell (p:=⟨bA,1,none⟩) kW hAl).trans p1,⟨(Below.cell (p:=⟨cb,_,none⟩) kW hcb).trans e0,(Below.cell (p:=⟨cb,_,none⟩) kW hcb).trans e1⟩⟩|exact hS8))
    clear hK K hHeld;intro hHeld
    (try simp only[pz])
    refine ryz 8 none (fun K hK=> ?_) AllReadyH.nil
    have yaK:=yaw.out.below kW
    have f0:=yaK.c0
    have f1:=yaK.c1
    have f2:=yaK.f 0
    have f3:=yaK.f 1
    obtain⟨w8,e8,y8,k8,o8,hzn⟩:=Pd.est_z (grow_step kW kw.out) hAx.out.2.2 yaK sB aB lB cB
    have hz8:=hzn _ _ _ _ _ hzB
    have hA8:=(yAw.out.below kW).only o8 hAx.out.1
    have hx8:=(yxw.out.below kW).only o8 hAx.out.2.1
    have hS8:w8.cell? ⟨bA,1,none⟩=some (.slice (some ⟨cb,co,none⟩) v.cn v.cc)∧(w8.cell? ⟨cb,co+j*2,none⟩=some (.bool zc.s)∧w8.cell? ⟨cb,co+j*2+1,none⟩=some (.slice zc.a zc.l zc.c)):=⟨by rw[←hvc.out];exact hA8.c1,⟨(Below.cell (p:=⟨cb,_,none⟩) k8 hcb0.out).trans d0.out,(Below.cell (p:=⟨cb,_,none⟩) k8 hcb0.out).trans d1.out⟩⟩
    go_simp
    rw[e8.out]
    clear f0 f1 f2 f3 hzn
    refine hK.out _ _ ?_ ?_
    ·first|with_reducible exact trivial|((try dsimp only);exact(by first|exact⟨(Below.cell (p:=⟨bA,1,none⟩) kW hAl).trans p1,⟨(Below.cell (p:=⟨cb,_,none⟩) kW hcb).trans e0,(Below.cell (p:=⟨cb,_,none⟩) kW hcb).trans e1⟩⟩|exact hS8))
    clear hK K hHeld;intro hHeld
    (try simp only[pz])
    refine wpAnyH_done ?_ ?_ _
    ·decide+kernel
    have k13:=hide k8
    have ya13:=hide y8
    have hz13:=hide hz8.zm
    have hA13:=hide hA8
    have hx13:=hide hx8
    clear hHeld k8 y8 hz8 hA8 hx8 hS8 o8
    go_wp2
    exact⟨⟨i,⟨sB,aB,lB,cB⟩,cv-1,by omega,by go_num,ya13.out,hz13.out,by show lB≤_;omega,hxc.out,hnp.out,fun _=>by have:=hpc.out;have:=hj1.out;omega,fun h9=>by omega,hA13.out,hx13.out,k13.out⟩,by simp[intOf] <;> omega⟩
    all_goals (exfalso;omega)
  replace hvi:_=Value.int .i64 (-1):=hvi.trans rfl
  subst hvi
  obtain⟨w8,e8,y8,k8,o8,hzn⟩:=Pd.est_z kr.out hge.out yx.out false none 0 0
  have hans:Hid (LtE w8 (.returned (.tuple #[.agg #[.bool false,.slice none 0 0],.bool false])) (mm E) x 2147483650):=hide (.inr ⟨hend rfl,rfl⟩)
  have qA1:=yA.out.c1
  have p2:=yx.out.c0
  have p3:=yx.out.c1
  have p4:=yx.out.f 0
  have p5:=yx.out.f 1
  replace k8:=hide k8
  replace y8:=hide y8
  clear hno hend hpi1 hzn o8
  go_wp2_with fail
  rw[e8.out]
  go_wp2
  refine bodyPost_ret (results_ct rfl _ _ bx 38 _ (0,0) _ rfl y8.out Tryz.underlying38 rfl k_f) rfl ?_
  exact⟨hans.out,k8.out⟩
end Cr
namespace Cr
open Pd (SN SV ZV plc plc_le al_b cntm cntm_le cntm_congr cntm_per)

def gm (E:RE)(i:Nat)(u:Int):Bool:=bit (row E i) (u%E.p).toNat
theorem gm_per (E:RE)(i:Nat)(lo:Int)(n:Nat):cntm (gm E i) lo n=n / E.p*cntm (gm E i) lo E.p+cntm (gm E i) lo (n%E.p):=by
 have h:=cntm_per (f:=gm E i) (lo:=lo) (p:=E.p) (L:=n) (fun k _=>by
  unfold gm
  rw[Int.add_emod_right]) (n / E.p) (n%E.p) (by
  rw[Nat.mul_comm]
  exact Nat.le_of_eq (Nat.div_add_mod n E.p))
 rw[←h]
 congr 1
 rw[Nat.mul_comm]
 exact(Nat.div_add_mod n E.p).symm
theorem gm_mm {E:RE}{lo:Int}{n:Nat}(h: ∀k:Nat,k<n→plc E.cs (lo+k)=plc E.cs lo):cntm (mm E) lo n=cntm (gm E (plc E.cs lo)) lo n:=
 cntm_congr fun k hk=>by
  unfold mm rowAt gm
  rw[h k hk]
theorem cntm_succ (f:Int→Bool)(lo:Int)(n:Nat):cntm f lo (n+1)=cntm f lo n+if f (lo+n)=true then 1 else 0:=rfl
theorem part19_n {w:World}{v:SV}{E:RE}{s s2:Bool}{a a2:Option Addr}{l c l2 c2:Nat}{lo:Int}{n:Nat}(h:RS w v E)(hcn:v.cn≤134217728)(hx:Zm w s a l c lo)(hl:l≤2147483650)(hn:Zm w s2 a2 l2 c2 (n:Int))(hl2:l2≤2147483660)(hst: ∀k:Nat,k<n→plc E.cs (lo+k)=plc E.cs lo):
  Calls Tryz.prog 70 #[.agg #[.int .i64 E.p,.slice v.ca v.cn v.cc,.slice v.ra v.rn v.rc],.agg #[.bool s,.slice a l c],.agg #[.bool s2,.slice a2 l2 c2]] w fun e w'=> ∃s' a' l' c',e= .returned (.agg #[.bool s',.slice a' l' c'])∧Zn w' s' a' l' c' (cntm (mm E) lo n:Nat)∧Below w.heap.size w w'∧l'≤l2+7:=by
 have b0:=below_alloc w (.cells #[.int .i64 E.p,.slice v.ca v.cn v.cc,.slice v.ra v.rn v.rc] 30)
 have b1:=below_alloc (w.alloc (.cells #[.int .i64 E.p,.slice v.ca v.cn v.cc,.slice v.ra v.rn v.rc] 30)) (.cells #[.bool s,.slice a l c] 38)
 have b2:=below_alloc ((w.alloc (.cells #[.int .i64 E.p,.slice v.ca v.cn v.cc,.slice v.ra v.rn v.rc] 30)).alloc (.cells #[.bool s,.slice a l c] 38)) (.cells #[.bool s2,.slice a2 l2 c2] 38)
 have b3:=below_alloc (((w.alloc (.cells #[.int .i64 E.p,.slice v.ca v.cn v.cc,.slice v.ra v.rn v.rc] 30)).alloc (.cells #[.bool s,.slice a l c] 38)).alloc (.cells #[.bool s2,.slice a2 l2 c2] 38)) (.cells #[.bool false,.slice none 0 0] 38)
 have kb:=hide (grow_step b3 (grow_step b2 (grow_step b1 b0)))
 have yA:=hide ((sbr_new w E.p v).below (grow_step b3 (grow_step b2 b1)))
 have yl:=(zb_new (w.alloc (.cells #[.int .i64 E.p,.slice v.ca v.cn v.cc,.slice v.ra v.rn v.rc] 30)) s a l c).below (grow_step b3 b2)
 have yn:=(zb_new ((w.alloc (.cells #[.int .i64 E.p,.slice v.ca v.cn v.cc,.slice v.ra v.rn v.rc] 30)).alloc (.cells #[.bool s,.slice a l c] 38)) s2 a2 l2 c2).below b3
 have yx:=zb_new (((w.alloc (.cells #[.int .i64 E.p,.slice v.ca v.cn v.cc,.slice v.ra v.rn v.rc] 30)).alloc (.cells #[.bool s,.slice a l c] 38)).alloc (.cells #[.bool s2,.slice a2 l2 c2] 38)) false none 0 0
 have hs1:(w.alloc (.cells #[.int .i64 E.p,.slice v.ca v.cn v.cc,.slice v.ra v.rn v.rc] 30)).heap.size=w.heap.size+1:=by simp
 have hs2:((w.alloc (.cells #[.int .i64 E.p,.slice v.ca v.cn v.cc,.slice v.ra v.rn v.rc] 30)).alloc (.cells #[.bool s,.slice a l c] 38)).heap.size=w.heap.size+1+1:=by simp
 have hs3:(((w.alloc (.cells #[.int .i64 E.p,.slice v.ca v.cn v.cc,.slice v.ra v.rn v.rc] 30)).alloc (.cells #[.bool s,.slice a l c] 38)).alloc (.cells #[.bool s2,.slice a2 l2 c2] 38)).heap.size=w.heap.size+1+1+1:=by simp
 rw[hs1]at yl
 rw[hs2]at yn
 rw[hs3]at yx
 have hwf:=hide h.wf
 have hp1:=h.wf.p1
 have hp2:=h.wf.p2
 have hrn:=hide h.rn
 have hcl:=hide h.cn
 have hval0:Hid (cntm (mm E) lo n=n / E.p*cntm (gm E (plc E.cs lo)) lo E.p+cntm (gm E (plc E.cs lo)) lo (n%E.p)):=hide (by rw[gm_mm hst,gm_per])
 obtain⟨pl,hpl⟩: ∃pl,plc E.cs lo=pl:=⟨_,rfl⟩
 have hplc:=plc_le E.cs lo
 rw[hcl.out]at hplc
 rw[hpl]at hval0 hplc
 replace hpl:=hide hpl
 clear hst
 go_enter Tryz.func70,Tryz.ntmps70
 go_upto_region 1 with(fail)
 clear b0 b1 b2 b3 hs1 hs2 hs3
 generalize (((w.alloc (.cells #[.int .i64 E.p,.slice v.ca v.cn v.cc,.slice v.ra v.rn v.rc] 30)).alloc (.cells #[.bool s,.slice a l c] 38)).alloc (.cells #[.bool s2,.slice a2 l2 c2] 38)).alloc (.cells #[.bool false,.slice none 0 0] 38)=w1 at*
 obtain⟨bA,hbA⟩: ∃bA,w.heap.size=bA:=⟨_,rfl⟩
 rw[hbA]at yA yl yn yx ⊢
 obtain⟨bl,hbl⟩: ∃bl,bA+1=bl:=⟨_,rfl⟩
 rw[hbl]at yl yn yx ⊢
 obtain⟨bn,hbn⟩: ∃bn,bl+1=bn:=⟨_,rfl⟩
 rw[hbn]at yn yx ⊢
 obtain⟨bx,hbx⟩: ∃bx,bn+1=bx:=⟨_,rfl⟩
 rw[hbx]at yx ⊢
 have hge:Hid (w.heap.size≤bx):=hide o_m
 have hlX:=yx.lt
 replace yx:=hide yx
 replace yl:=hide yl
 replace yn:=hide yn
 clear hbA hbl hbn hbx
 have hnum:=hide (num19_n (E.p:Int) o_m o_m w1)
 have q0:=yA.out.c0
 go_wp2_with fail
 refine hnum.out.mono ?_
 rintro e w2 ⟨s1,a1,l1,c1,rfl,hz1,k2,hl1⟩
 have b4:=below_alloc w2 (.cells #[.bool s1,.slice a1 l1 c1] 38)
 have yp:=hide (zb_new w2 s1 a1 l1 c1)
 replace hz1:=hide (hz1.zm.below b4)
 replace yA:=hide ((yA.out.below k2).below b4)
 replace yl:=hide ((yl.out.below k2).below b4)
 replace yn:=hide ((yn.out.below k2).below b4)
 replace yx:=hide ((yx.out.below k2).below b4)
 have hxl:=hide yx.out.lt
 replace kb:=hide (grow_step b4 (grow_step k2 kb.out))
 clear b4 k2 hnum q0 hlX
 go_upto_region 2 with(fail)
 generalize w2.alloc (.cells #[.bool s1,.slice a1 l1 c1] 38)=w3 at*
 obtain⟨bp,hbp⟩: ∃bp,w2.heap.size=bp:=⟨_,rfl⟩
 rw[hbp]at yp ⊢
 clear hbp
 have hfl:=hide (rfloor_n (hn.below kb.out) hz1.out o_m o_m o_m)
 have q0:=yn.out.c0
 have q1:=yn.out.c1
 have q2:=yp.out.c0
 have q3:=yp.out.c1
 go_wp2_with fail
 refine hfl.out.mono ?_
 rintro e w4 ⟨s3,a3,l3,c3,rfl,hz3,k4,hl3⟩
 have b5:=below_alloc w4 (.cells #[.bool s3,.slice a3 l3 c3] 38)
 have yf:=hide (zb_new w4 s3 a3 l3 c3)
 have hfx:Hid (w4.heap.size≠bx):=hide (by have:=(yx.out.below k4).lt;omega)
 replace hz3:=hide (hz3.zm.below b5)
 replace hz1:=hide ((hz1.out.below k4).below b5)
 replace yA:=hide ((yA.out.below k4).below b5)
 replace yl:=hide ((yl.out.below k4).below b5)
 replace yn:=hide ((yn.out.below k4).below b5)
 replace yp:=hide ((yp.out.below k4).below b5)
 replace yx:=hide ((yx.out.below k4).below b5)
 replace kb:=hide (grow_step b5 (grow_step k4 kb.out))
 clear b5 k4 hfl q0 q1 q2 q3 hxl
 go_upto_region 3 with(fail)
 generalize w4.alloc (.cells #[.bool s3,.slice a3 l3 c3] 38)=w5 at*
 obtain⟨bf,hbf⟩: ∃bf,w4.heap.size=bf:=⟨_,rfl⟩
 rw[hbf]at yf hfx ⊢
 clear hbf
 have hmo:=hide (rmod_n (hn.below kb.out) hz1.out o_m o_m o_m)
 have q0:=yn.out.c0
 have q1:=yn.out.c1
 have q2:=yp.out.c0
 have q3:=yp.out.c1
 go_wp2_with fail
 refine hmo.out.mono ?_
 rintro e w6 ⟨s4,a4,l4,c4,rfl,hz4,k6,hl4⟩
 have hem:(n:Int)%(E.p:Int)=((n%E.p:Nat):Int):=(Int.natCast_emod n E.p).symm
 have hLp:n%E.p<E.p:=Nat.mod_lt _ o_m
 have hdv:Hid ((n:Int) / (E.p:Int)=((n / E.p:Nat):Int)):=hide (Int.natCast_ediv n E.p).symm
 rw[hem]at hz4
 obtain⟨L,hL⟩: ∃L,n%E.p=L:=⟨_,rfl⟩
 rw[hL]at hz4 hLp hval0
 clear hem hL
 have hii:=hide (rint64_n hz4.zm o_m o_m)
 have hif:Hid (i64v (L:Int)= .tuple #[.int .i64 (L:Int),.bool true]):=hide (if_pos o_m)
 replace hz3:=hide (hz3.out.below k6)
 replace yA:=hide (yA.out.below k6)
 replace yl:=hide (yl.out.below k6)
 replace yf:=hide (yf.out.below k6)
 replace yx:=hide (yx.out.below k6)
 replace kb:=hide (grow_step k6 kb.out)
 clear k6 hmo q0 q1 q2 q3 hz1 yn yp hz4
 go_wp2_with fail
 refine hii.out.mono ?_
 rintro e w7 ⟨rfl,k7⟩
 rw[hif.out]
 replace hz3:=hide (hz3.out.below k7)
 replace yA:=hide (yA.out.below k7)
 replace yl:=hide (yl.out.below k7)
 replace yf:=hide (yf.out.below k7)
 replace yx:=hide (yx.out.below k7)
 replace kb:=hide (grow_step k7 kb.out)
 clear k7 hii hif
 go_wp2_with fail
 go_loopw [11,12,13] (fun va vb vi wr=> ∃i:Nat,i≤E.p∧va= .int .i64 (cntm (gm E pl) lo i:Nat)∧vb= .int .i64 (cntm (gm E pl) lo (min i L):Nat)∧vi= .int .i64 i∧Below w7.heap.size w7 wr) (fun _ _ vi _=>E.p-(intOf vi).toNat)
 case atStart=>exact⟨0,Nat.zero_le _,rfl,by rw[Nat.zero_min];rfl,rfl,Below.refl _ _⟩
 case round=>
  obtain⟨i,hi,rfl,rfl,rfl,k8⟩:=hrel
  replace hz3:=hide (hz3.out.below k8)
  replace yA:=hide (yA.out.below k8)
  replace yl:=hide (yl.out.below k8)
  replace yf:=hide (yf.out.below k8)
  replace yx:=hide (yx.out.below k8)
  have kr:=hide (grow_step k8 kb.out)
  have hce:=cntm_le (gm E pl) lo i
  have hcm:=cntm_le (gm E pl) lo (min i L)
  obtain⟨ce,hce1⟩: ∃ce,cntm (gm E pl) lo i=ce:=⟨_,rfl⟩
  obtain⟨cm,hcm1⟩: ∃cm,cntm (gm E pl) lo (min i L)=cm:=⟨_,rfl⟩
  rw[hce1]at hce ⊢
  rw[hcm1]at hcm ⊢
  replace hce1:=hide hce1
  replace hcm1:=hide hcm1
  replace k8:=hide k8
  by_cases hip:i<E.p
  ·have hml:((lo+i)%(E.p:Int)).toNat<E.p:=md_lt hp1 _
   obtain⟨m,hm⟩: ∃m,((lo+i)%(E.p:Int)).toNat=m:=⟨_,rfl⟩
   rw[hm]at hml
   obtain⟨rA,oA,gA,hvA,hrA,cR,hgA,hlA⟩:=(h.below kr.out).row (i:=pl) o_m
   have eA:=hgA.cell (i:=m) o_m
   have hgAl:=hgA.lt
   obtain⟨x9,hx9⟩: ∃x9,bit (row E pl) m=x9:=⟨_,rfl⟩
   rw[hx9]at eA
   have hgx:Hid (gm E pl (lo+i)=x9):=hide (by unfold gm;rw[hm];exact hx9)
   have qA0:=yA.out.c0
   have qA1:=yA.out.c1
   have qA2:=yA.out.c2
   rw[hvA]at qA2
   have hAl:=yA.out.lt
   have hwn:Hid (∀w',Below w.heap.size w w'→Calls Tryz.prog 69 #[.agg #[.int .i64 E.p,.slice v.ca v.cn v.cc,.slice (some ⟨rA,oA,none⟩) v.rn v.rc],.agg #[.bool s,.slice a l c]] w' fun e w''=>e= .returned (.int .i64 (pl:Nat))∧Below w'.heap.size w' w''):=hide fun w' k=>by
    have hwn:=where_n (h.below k) o_m (hx.below k) o_m
    rw[hvA,hpl.out]at hwn
    exact hwn
   have hplr:pl<v.rn:=by have:=hrn.out;omega
   replace hm:=hide hm
   clear hvA hx9 hgA
   go_upto_region 9 with(fail)
   refine wp_region_held_drew (S:=(fun w'=>(w'.cell? ⟨bl,0,none⟩=some (.bool s)∧w'.cell? ⟨bl,1,none⟩=some (.slice a l c))∧(w'.cell? ⟨bA,0,none⟩=some (.int .i64 E.p)∧w'.cell? ⟨bA,1,none⟩=some (.slice v.ca v.cn v.cc)∧w'.cell? ⟨bA,2,none⟩=some (.slice (some ⟨rA,oA,none⟩) v.rn v.rc))∧w'.cell? ⟨rA,oA+pl,none⟩=some (.slice (some ⟨gA,0,none⟩) E.p E.p)∧w'.cell? ⟨gA,m,none⟩=some (.bool x9))) k_f (⟨⟨(yl.out.below (grow_drew (Below.refl _ _))).c0,(yl.out.below (grow_drew (Below.refl _ _))).c1⟩,⟨(Below.cell (p:=⟨bA,0,none⟩) (grow_drew (Below.refl _ _)) hAl).trans qA0,(Below.cell (p:=⟨bA,1,none⟩) (grow_drew (Below.refl _ _)) hAl).trans qA1,(Below.cell (p:=⟨bA,2,none⟩) (grow_drew (Below.refl _ _)) hAl).trans qA2⟩,(Below.cell (p:=⟨rA,_,none⟩) (grow_drew (Below.refl _ _)) hrA).trans cR,(Below.cell (p:=⟨gA,_,none⟩) (grow_drew (Below.refl _ _)) hgAl).trans eA⟩) (fun hHeld=> ?_)
   show wpAnyH _ _ _ _ _ 17 _ _ _
   have kW:=grow_drew (Below.refl wr.heap.size wr)
   generalize wr.drew=wQ at*
   refine tkz 0 34 ?_
   (try simp only[pz])
   refine tkz 1 35 ?_
   (try simp only[pz])
   refine tkz 2 36 ?_
   (try simp only[pz])
   refine tkz 3 37 ?_
   (try simp only[pz])
   refine tkz 7 41 ?_
   (try simp only[pz])
   refine tkz 8 42 ?_
   (try simp only[pz])
   refine tkz 11 45 ?_
   (try simp only[pz])
   refine tkz 12 46 ?_
   (try simp only[pz])
   refine ryz 4 (some 38) (fun K hK=> ?_) AllReadyH.nil
   go_simp
   go_at_call 69;refine Calls.mono (hwn.out _ (grow_step kW kr.out)) ?_;rintro e wkA ⟨rfl,kA⟩
   have kW:=grow_step kA kW
   try go_wp2_with fail
   refine hK.out _ _ ?_ ?_
   ·first|with_reducible exact trivial|((try dsimp only);exact⟨⟨(yl.out.below kW).c0,(yl.out.below kW).c1⟩,⟨(Below.cell (p:=⟨bA,0,none⟩) kW hAl).trans qA0,(Below.cell (p:=⟨bA,1,none⟩) kW hAl).trans qA1,(Below.cell (p:=⟨bA,2,none⟩) kW hAl).trans qA2⟩,(Below.cell (p:=⟨rA,_,none⟩) kW hrA).trans cR,(Below.cell (p:=⟨gA,_,none⟩) kW hgAl).trans eA⟩)
   clear hK K hHeld;intro hHeld
   (try simp only[pz])
   refine tkz 5 39 ?_
   (try simp only[pz])
   refine tkz 6 40 ?_
   (try simp only[pz])
   refine ryz 9 (some 43) (fun K hK=> ?_) AllReadyH.nil
   go_simp
   go_at_call 66;refine Calls.mono (num19_n (i:Int) o_m o_m _) ?_;rintro e wkC ⟨sA,aA,lA,cA,rfl,hzA,kC,hlA⟩
   have kW:=grow_step kC kW
   try go_wp2_with fail
   refine hK.out _ _ ?_ ?_
   ·first|with_reducible exact trivial|((try dsimp only);exact⟨⟨(yl.out.below kW).c0,(yl.out.below kW).c1⟩,⟨(Below.cell (p:=⟨bA,0,none⟩) kW hAl).trans qA0,(Below.cell (p:=⟨bA,1,none⟩) kW hAl).trans qA1,(Below.cell (p:=⟨bA,2,none⟩) kW hAl).trans qA2⟩,(Below.cell (p:=⟨rA,_,none⟩) kW hrA).trans cR,(Below.cell (p:=⟨gA,_,none⟩) kW hgAl).trans eA⟩)
   clear hK K hHeld;intro hHeld
   (try simp only[pz])
   refine ryz 10 (some 44) (fun K hK=> ?_) AllReadyH.nil
   go_simp
   go_at_call 48;refine Calls.mono (radd2_n (hx.below (grow_step kW kr.out)) hzA.zm o_m o_m) ?_;rintro e wkB ⟨sB,aB,lB,cB,rfl,hzB,kB,hlB⟩
   have kW:=grow_step kB kW
   try go_wp2_with fail
   refine hK.out _ _ ?_ ?_
   ·first|with_reducible exact trivial|((try dsimp only);exact⟨⟨(yl.out.below kW).c0,(yl.out.below kW).c1⟩,⟨(Below.cell (p:=⟨bA,0,none⟩) kW hAl).trans qA0,(Below.cell (p:=⟨bA,1,none⟩) kW hAl).trans qA1,(Below.cell (p:=⟨bA,2,none⟩) kW hAl).trans qA2⟩,(Below.cell (p:=⟨rA,_,none⟩) kW hrA).trans cR,(Below.cell (p:=⟨gA,_,none⟩) kW hgAl).trans eA⟩)
   clear hK K hHeld;intro hHeld
   (try simp only[pz])
   refine ryz 13 (some 47) (fun K hK=> ?_) AllReadyH.nil
   go_simp
   go_at_call 77;refine Calls.mono (modulo19_n hzB.zm o_m hp1 hp2) ?_;rintro e wkD ⟨rfl,kD⟩
   rw[hm.out]
   have kW:=grow_step kD kW
   try go_wp2_with fail
   refine hK.out _ _ ?_ ?_
   ·first|with_reducible exact trivial|((try dsimp only);exact⟨⟨(yl.out.below kW).c0,(yl.out.below kW).c1⟩,⟨(Below.cell (p:=⟨bA,0,none⟩) kW hAl).trans qA0,(Below.cell (p:=⟨bA,1,none⟩) kW hAl).trans qA1,(Below.cell (p:=⟨bA,2,none⟩) kW hAl).trans qA2⟩,(Below.cell (p:=⟨rA,_,none⟩) kW hrA).trans cR,(Below.cell (p:=⟨gA,_,none⟩) kW hgAl).trans eA⟩)
   clear hK K hHeld;intro hHeld
   (try simp only[pz])
   refine tkz 14 48 ?_
   (try simp only[pz])
   refine tkz 15 49 ?_
   (try simp only[pz])
   refine tkz 16 14 ?_
   (try simp only[pz])
   refine wpAnyH_done ?_ ?_ _
   ·decide+kernel
   have k9:=hide (grow_step kW k8.out)
   clear kW hHeld kr hm
   cases x9 with
   |false=>
    have e1:Hid (cntm (gm E pl) lo (i+1)=ce):=hide (by rw[cntm_succ,hgx.out,hce1.out];rfl)
    have e2:Hid (cntm (gm E pl) lo (min (i+1) L)=cm):=hide (by
     by_cases hiL:i<L
     ·rw[show min (i+1) L=i+1 by omega,e1.out,←hcm1.out,show min i L=i by omega,hce1.out]
     rw[show min (i+1) L=min i L by omega,hcm1.out])
    go_wp2
    exact⟨⟨i+1,by omega,by rw[e1.out],by rw[e2.out],by go_num,k9.out⟩,by simp[intOf] <;> omega⟩
   |true=>
    have e1:Hid (cntm (gm E pl) lo (i+1)=ce+1):=hide (by rw[cntm_succ,hgx.out,hce1.out];rfl)
    by_cases hiL:i<L
    ·have hdl:decide ((i:Int)<(L:Int))=true:=by rw[decide_eq_true_iff];omega
     have e2:Hid (cntm (gm E pl) lo (min (i+1) L)=cm+1):=hide (by rw[show min (i+1) L=i+1 by omega,e1.out,←hcm1.out,show min i L=i by omega,hce1.out])
     go_wp2
     exact⟨⟨i+1,by omega,by rw[e1.out];go_num,by rw[e2.out];go_num,by go_num,k9.out⟩,by simp[intOf] <;> omega⟩
    have hdl:decide ((i:Int)<(L:Int))=false:=by rw[decide_eq_false_iff_not];omega
    have e2:Hid (cntm (gm E pl) lo (min (i+1) L)=cm):=hide (by rw[show min (i+1) L=min i L by omega,hcm1.out])
    go_wp2
    exact⟨⟨i+1,by omega,by rw[e1.out];go_num,by rw[e2.out],by go_num,k9.out⟩,by simp[intOf] <;> omega⟩
  obtain rfl:i=E.p:=by omega
  have hmin:min E.p L=L:=Nat.min_eq_right o_m
  have hval:Hid (((cntm (mm E) lo n:Nat):Int)=(n:Int) / (E.p:Int)*(ce:Int)+(cm:Int)):=hide (by
   rw[hval0.out,hdv.out,←hce1.out,←hcm1.out,hmin,Int.natCast_add,Int.natCast_mul])
  have qA0:=yA.out.c0
  clear hce1 hcm1 hmin k8
  go_upto_region 14 with(fail)
  refine wp_region_held_drew (S:=(fun w'=>w'.cell? ⟨bf,0,none⟩=some (.bool s3)∧w'.cell? ⟨bf,1,none⟩=some (.slice a3 l3 c3))) k_f (⟨(yf.out.below (grow_drew (Below.refl _ _))).c0,(yf.out.below (grow_drew (Below.refl _ _))).c1⟩) (fun hHeld=> ?_)
  show wpAnyH _ _ _ _ _ 8 _ _ _
  have kW:=grow_drew (Below.refl wr.heap.size wr)
  generalize wr.drew=wQ at*
  refine tkz 0 61 ?_
  (try simp only[pz])
  refine tkz 1 62 ?_
  (try simp only[pz])
  refine tkz 4 65 ?_
  (try simp only[pz])
  refine ryz 2 (some 63) (fun K hK=> ?_) AllReadyH.nil
  go_simp
  go_at_call 66;refine Calls.mono (num19_n (ce:Int) o_m o_m _) ?_;rintro e wkA ⟨sA,aA,lA,cA,rfl,hzA,kA,hlA⟩
  have kW:=grow_step kA kW
  try go_wp2_with fail
  refine hK.out _ _ ?_ ?_
  ·first|with_reducible exact trivial|((try dsimp only);exact(by first|exact⟨(yf.out.below kW).c0,(yf.out.below kW).c1⟩|exact hS8))
  clear hK K hHeld;intro hHeld
  (try simp only[pz])
  refine ryz 3 (some 64) (fun K hK=> ?_) AllReadyH.nil
  go_simp
  go_at_call 116;refine Calls.mono (rmul2_n (hz3.out.below kW) hzA.zm o_m o_m) ?_;rintro e wkB ⟨sB,aB,lB,cB,rfl,hzB,kB,hlB⟩
  have kW:=grow_step kB kW
  try go_wp2_with fail
  refine hK.out _ _ ?_ ?_
  ·first|with_reducible exact trivial|((try dsimp only);exact(by first|exact⟨(yf.out.below kW).c0,(yf.out.below kW).c1⟩|exact hS8))
  clear hK K hHeld;intro hHeld
  (try simp only[pz])
  refine ryz 5 (some 66) (fun K hK=> ?_) AllReadyH.nil
  go_simp
  go_at_call 66;refine Calls.mono (num19_n (cm:Int) o_m o_m _) ?_;rintro e wkC ⟨sC,aC,lC,cC,rfl,hzC,kC,hlC⟩
  try have hzB:=hzB.below kC
  have kW:=grow_step kC kW
  try go_wp2_with fail
  refine hK.out _ _ ?_ ?_
  ·first|with_reducible exact trivial|((try dsimp only);exact(by first|exact⟨(yf.out.below kW).c0,(yf.out.below kW).c1⟩|exact hS8))
  clear hK K hHeld;intro hHeld
  (try simp only[pz])
  refine ryz 6 (some 67) (fun K hK=> ?_) AllReadyH.nil
  go_simp
  go_at_call 48;refine Calls.mono (radd2_n hzB.zm hzC.zm o_m o_m) ?_;rintro e wkD ⟨sD,aD,lD,cD,rfl,hzD,kD,hlD⟩
  have kW:=grow_step kD kW
  try go_wp2_with fail
  refine hK.out _ _ ?_ ?_
  ·first|with_reducible exact trivial|((try dsimp only);exact(by first|exact⟨(yf.out.below kW).c0,(yf.out.below kW).c1⟩|exact hS8))
  clear hK K hHeld;intro hHeld
  (try simp only[pz])
  refine ryz 7 none (fun K hK=> ?_) AllReadyH.nil
  have yxK:=yx.out.below kW
  have f0:=yxK.c0
  have f1:=yxK.c1
  have f2:=yxK.f 0
  have f3:=yxK.f 1
  obtain⟨w8,e8,y8,k8,o8,hzn⟩:=Pd.est_z (grow_step kW kr.out) hge.out yxK sD aD lD cD
  have hz8:=hzn _ _ _ _ _ hzD
  have hf8:=(yf.out.below kW).only o8 hfx.out
  have hS8:w8.cell? ⟨bf,0,none⟩=some (.bool s3)∧w8.cell? ⟨bf,1,none⟩=some (.slice a3 l3 c3):=⟨hf8.c0,hf8.c1⟩
  go_simp
  rw[e8.out]
  clear f0 f1 f2 f3 hzn
  refine hK.out _ _ ?_ ?_
  ·first|with_reducible exact trivial|((try dsimp only);exact(by first|exact⟨(yf.out.below kW).c0,(yf.out.below kW).c1⟩|exact hS8))
  clear hK K hHeld;intro hHeld
  (try simp only[pz])
  refine wpAnyH_done ?_ ?_ _
  ·decide+kernel
  have k14:=hide k8
  have y14:=hide y8
  have hans:Hid (∃s' a' l' c',Ending.returned (Value.agg #[.bool sD,.slice aD lD cD])= .returned (.agg #[.bool s',.slice a' l' c'])∧Zn w8 s' a' l' c' (cntm (mm E) lo n:Nat)∧l'≤l2+7):=hide ⟨_,_,_,_,rfl,by rw[hval.out];exact hz8,by omega⟩
  clear hHeld k8 y8 hz8 hf8 hS8 o8
  go_wp2
  refine bodyPost_ret (results_cell_row rfl _ _ bx 38 _ (0,0) _ rfl y14.out Tryz.underlying38 rfl k_f) rfl ?_
  obtain⟨s',a',l',c',e9,z9,l9⟩:=hans.out
  exact⟨s',a',l',c',e9,z9,k14.out,l9⟩
end Cr
end Go.Proofs.YtaafoppaepcaeaaGreat
