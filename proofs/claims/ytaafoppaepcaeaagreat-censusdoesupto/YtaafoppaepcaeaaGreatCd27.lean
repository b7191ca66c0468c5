/-
 Several texts in one: Pf6,Pg6,Pg7,CrN,Pf5,CrP,CrR,LCensusDoes.
-/
import Derived.Test.YtaafoppaepcaeaaGreatCdT
import Derived.Test.YtaafoppaepcaeaaGreatCd26
import Derived.Test.YtaafoppaepcaeaaGreatCd09
import Derived.Test.YtaafoppaepcaeaaGreatCd22
import Derived.Lib.BufferMore
import Derived.Test.YtaafoppaepcaeaaGreatCd24
import Derived.Test.YtaafoppaepcaeaaGreatCd23
import Derived.Test.YtaafoppaepcaeaaGreatCd25
set_option maxRecDepth 100000
set_option maxHeartbeats 12800000
namespace Go.Proofs.YtaafoppaepcaeaaGreat
open Go.RowKit Go.Sort
namespace Pd

def Nx (w':World)(f:Int→Bool)(x d:Int)(B:Nat)(z:ZV)(b:Bool):Prop:=
 (b=true→∃v,d*x≤d*v∧(∀u,d*x≤d*u→d*u<d*v→f u=false)∧f v=true∧Zn w' z.s z.a z.l z.c v∧z.l≤B)∧(b=false→∀u,d*x≤d*u→f u=false)
theorem nx_one {w':World}{en:Ending}{f:Int→Bool}{x d:Int}{B:Nat}(h:Nst w' en f x d B): ∃(z:ZV) (b:Bool),en= .returned (.tuple #[.agg #[.bool z.s,.slice z.a z.l z.c],.bool b])∧Nx w' f x d B z b:=by
 rcases h with⟨v,z,h1,h2,h3,h4,h5,h6⟩|⟨h1,h2⟩
 ·exact⟨z,true,h4,⟨fun _=>⟨v,h1,h2,h3,h5,h6⟩,fun e=>(by cases e)⟩⟩
 exact⟨⟨false,none,0,0⟩,false,h2,⟨fun e=>(by cases e),fun _=>h1⟩⟩
end Pd
namespace Pd

end Pd
namespace Pd

theorem zn_len_pw {w:World}{s:Bool}{a:Option Addr}{l c K:Nat}{z:Int}(h:Zn w s a l c z)(hz:((z.natAbs:Nat):Int)<pw K):l≤K:=by
 obtain⟨m,⟨zs,h1,h2,h3⟩,h4,-⟩:=h
 have hm:=(Cn.nm ⟨zs,h1,h2,h3⟩).nonneg
 have e:((z.natAbs:Nat):Int)=m:=by rw[h4];cases s <;> simp[sg] <;> omega
 rcases Nat.lt_or_ge K l with hlt|hge
 ·have hl:=h1.1
  have h5:=canon_low h2 o_m
  have h6:=pw_mono (show K≤zs.length-1 by omega)
  omega
 exact hge
theorem zm_pw {w:World}{s:Bool}{a:Option Addr}{l c K:Nat}{z:Int}(h:Zm w s a l c z)(hK:l≤K):((z.natAbs:Nat):Int)<pw K:=by
 obtain⟨n,⟨xs,g1,g2⟩,rfl⟩:=h
 have h1:=vl_bd g1.2.2.2.1 xs.length
 have h2:vl xs xs.length=n:=g2
 have h3:=pw_mono (show xs.length≤K by rw[g1.1];exact hK)
 cases s <;> simp[sg] <;> omega
end Pd
end Go.Proofs.YtaafoppaepcaeaaGreat

namespace Go.Proofs.YtaafoppaepcaeaaGreat
open Go.RowKit Go.Sort Go.Shelf
namespace Cr
open Pd (SN SV ZV plc plc_le al_b cntI cntI_parts memI memI_len Pm zm_pw zn_len_pw)

variable {a:Option Addr}{x lo hi at':Int}{F l base n c bA bh bt:Nat}{w w' wr:World}{s:Bool}{xs:List Int}{vv:Value}
theorem natAbs_mid {a b:Int}{P:Int}(h1:a≤x)(h2:x≤b)(ha:((a.natAbs:Nat):Int)<P)(hb:((b.natAbs:Nat):Int)<P):((x.natAbs:Nat):Int)<P:=by omega
theorem ls_end {f:Int→Bool}(h1:lo≤at')(h2:at'=lo∨at'≤hi+1)(hn: ∀u,at'≤u→u≤hi→f u=false):memI f lo hi=memI f lo (at'-1):=by
 by_cases h:at'≤hi+1
 ·exact memI_end h1 hn h
 rw[memI_no o_m,memI_no o_m]
theorem cntI_mono (f:Int→Bool){lo u hi:Int}(h1:lo≤u)(h2:u≤hi):cntI f lo u≤cntI f lo hi:=by
 have:=cntI_parts f h1 h2
 omega
theorem lo_mono {G:Nat}(hFG:F≤G)(h:Lv.Lo G a l):Lv.Lo F a l:=h.imp id fun⟨b,off,e,h⟩=>⟨b,off,e,Nat.le_trans hFG h⟩
def Nx1 (f:Int→Bool)(w:World)(x:Int)(B:Nat)(z:ZV)(b:Bool):Prop:=
 (b=true∧∃u,x≤u∧(∀t,x≤t→t<u→f t=false)∧f u=true∧Zn w z.s z.a z.l z.c u∧z.l≤B)∨(b=false∧z=⟨false,none,0,0⟩∧∀t,x≤t→f t=false)
theorem Nx1.below {f:Int→Bool}{B:Nat}{z:ZV}{b:Bool}(h:Nx1 f w x B z b)(k:Below w.heap.size w w'):Nx1 f w' x B z b:=
 h.imp (fun⟨e,u,h1,h2,h3,h4,h5⟩=>⟨e,u,h1,h2,h3,h4.below k,h5⟩) id
theorem OI.only {b:Nat}{v:Value}{q:List ZV}(h:OI w base v n q)(o:Only b w w')(hb:v.ownBlock≠some b):OI w' base v n q:=by
 refine h.imp id fun h=>⟨⟨h.own.1,h.own.2.imp id ?_⟩,fun g n' cap e j h1 h2=>(Pd.cell_ne o ?_).trans (h.sp g n' cap e j h1 h2),h.ne⟩
 ·rintro rfl
  exact hb (by rw[e];rfl)
 rintro⟨g,cap,cur,h1,h2,h3,h4⟩
 refine⟨g,cap,cur,h1,h2,(o.block g ?_).trans h3,h4⟩
 rintro rfl
 exact hb (by rw[h1];rfl)
theorem zn_grown2 {g:Nat}(h:Zn w s a l c x)(hg:w.grownBy w' (some g))(hno: ∀off u,w.cell? ⟨g,off,none⟩=some u→∀k i,u≠ .int k i):Zn w' s a l c x:=by
 obtain⟨n,⟨xs,⟨h1,h2,h3,h4,h5⟩,hc,hv⟩,hs,hn⟩:=h
 refine⟨n,⟨xs,⟨h1,h2,h3,h4,h5.imp id ?_⟩,hc,hv⟩,hs,hn⟩
 rintro⟨a0,ha,h6⟩
 refine⟨a0,ha,?_⟩
 rcases Nat.eq_zero_or_pos l with h0|h0
 ·exact .inl h0
 rcases h6 with h6|⟨b,off,rfl,hb,hc⟩
 ·exact .inl h6
 refine .inr ⟨b,off,rfl,Nat.lt_of_lt_of_le hb hg.size,fun i hi=> ?_⟩
 have hne:b≠g:=fun e=>by
  subst e
  exact hno _ _ (hc 0 h0) _ _ rfl
 exact(World.cell?_of_block (a:=⟨b,off+i,none⟩) (hg.block b hb fun e=>hne (Option.some.inj e))).trans (hc i hi)
theorem OI.lt {v:Value}{q:List ZV}(h:OI w base v n q){g:Nat}(e:v.ownBlock=some g):g<w.heap.size:=by
 rcases h with⟨rfl,-,-⟩|h
 ·cases e
 obtain⟨-,g',c,-,-,-,-,ho,h5,-⟩:=h.any (by decide) Pd.zv_len
 rw[h5]at e
 cases e
 exact ho.lt
theorem zn_only {b:Nat}{s1:Bool}{ad:Option Addr}{len cap:Nat}{z:Int}(y:ZB w b s a l c)(o:Only b w w')(h:Zn w s1 ad len cap z):Zn w' s1 ad len cap z:=by
 obtain⟨n,⟨xs,hr,hc,hv⟩,hsg,hn⟩:=h
 have hap:=zb_apart y hr
 obtain⟨h1,h2,h3,h4,h5⟩:=hr
 refine⟨n,⟨xs,⟨h1,h2,h3,h4,h5.imp id ?_⟩,hc,hv⟩,hsg,hn⟩
 rintro⟨a0,ha,h6⟩
 refine⟨a0,ha,?_⟩
 rcases h6 with h6|⟨b',off,rfl,hb,hcell⟩
 ·exact .inl h6
 rcases hap b' off ha with h0|hne
 ·exact .inl h0
 exact .inr ⟨b',off,rfl,by rw[o.size];exact hb,fun i hi=>(World.cell?_of_block (a:=⟨b',off+i,none⟩) (o.block b' hne)).trans (hcell i hi)⟩
structure Pz (F:Nat) (w:World) (q:List ZV) (xs:List Int):Prop where
 len:q.length=xs.length
 nu: ∀i (h:i<q.length) (h':i<xs.length),Zn w q[i].s q[i].a q[i].l q[i].c xs[i]∧Lv.Lo F q[i].a q[i].l
theorem Pz.map {q:List ZV}(h:Pz F w q xs)(hk: ∀s a l c x,Zn w s a l c x→Zn w' s a l c x):Pz F w' q xs:=⟨h.len,fun i h1 h2=>⟨hk _ _ _ _ _ (h.nu i h1 h2).1,(h.nu i h1 h2).2⟩⟩
theorem Pz.below {q:List ZV}(h:Pz F w q xs)(k:Below w.heap.size w w'):Pz F w' q xs:=h.map fun _ _ _ _ _ z=>z.below k
theorem pz_nil (F:Nat)(w:World):Pz F w [] []:=⟨rfl,fun i h=>by simp at h⟩
theorem Pz.snoc {q:List ZV}{z:ZV}(h:Pz F w q xs)(h2:Zn w z.s z.a z.l z.c x)(h3:Lv.Lo F z.a z.l):Pz F w (q++ [z]) (xs++ [x]):=by
 have hl:=h.len
 refine⟨by simp[hl],fun i h1 h4=> ?_⟩
 by_cases hi:i<q.length
 ·rw[List.getElem_append_left hi,List.getElem_append_left o_m]
  exact h.nu i hi o_m
 obtain rfl:i=q.length:=by simp at h1;omega
 rw[List.getElem_append_right (Nat.le_refl _),List.getElem_append_right o_m]
 simp only[hl,Nat.sub_self,List.getElem_singleton]
 exact⟨h2,h3⟩
theorem OI.zn {v:Value}{q:List ZV}(h:OI w base v n q)(hg:w.grownBy w' v.ownBlock)(hz:Zn w s a l c x):Zn w' s a l c x:=by
 rcases h with⟨rfl,-,-⟩|h
 ·exact hz.below (Pd.below_grown (Below.refl _ _) hg (fun g e=>by cases e) (Nat.le_refl _))
 obtain⟨g,e,-⟩:=Pd.owi_blk h
 rw[e]at hg
 exact zn_grown2 hz hg (Pd.owi_no h e)
def LsE (w w':World)(e:Ending)(f:Int→Bool)(lo hi:Int):Prop:=Below w.heap.size w w'∧
 ((∃v n q,e= .returned (.tuple #[v,.int .i64 0])∧n≤1000∧OI w' w.heap.size v n q∧Pz w.heap.size w' q (memI f lo hi))∨(e= .returned (.tuple #[.slice none 0 0,.int .i64 2])∧1000<cntI f lo hi))
def LtR (w wr:World)(E:RE)(v:SV)(bA bh bt:Nat)(zh:ZV)(lo _hi:Int)(vv:Value)(n:Nat)(q:List ZV)(zt:ZV)(at':Int):Prop:=
 (OI wr w.heap.size vv n q∧Pz w.heap.size wr q (memI (mm E) lo (at'-1)))∧(ZB wr bt zt.s zt.a zt.l zt.c∧Zq w wr zt at')∧(SBr wr bA E.p v∧ZB wr bh zh.s zh.a zh.l zh.c)∧Below w.heap.size w wr∧∀g,vv.ownBlock=some g→g<wr.heap.size∧g≠bA∧g≠bh∧g≠bt
theorem LtR.below {E:RE}{v:SV}{zh:ZV}{q:List ZV}{zt:ZV}(h:LtR w wr E v bA bh bt zh lo hi vv n q zt at')(k:Below wr.heap.size wr w'):LtR w w' E v bA bh bt zh lo hi vv n q zt at':=
 ⟨⟨h.1.1.below k,h.1.2.below k⟩,⟨h.2.1.1.below k,h.2.1.2.below k⟩,⟨h.2.2.1.1.below k,h.2.2.1.2.below k⟩,grow_step k h.2.2.2.1,fun g e=>⟨Nat.lt_of_lt_of_le (h.2.2.2.2 g e).1 k.size,(h.2.2.2.2 g e).2⟩⟩
def LtA (w wr:World)(E:RE)(v:SV)(bA bh bt bX:Nat)(zh zt zx:ZV)(lo u:Int)(vv:Value)(n:Nat)(q:List ZV):Prop:=
 (OI wr w.heap.size vv n q∧Pz w.heap.size wr q (memI (mm E) lo u))∧(ZB wr bt zt.s zt.a zt.l zt.c∧ZB wr bX zx.s zx.a zx.l zx.c∧Zn wr zx.s zx.a zx.l zx.c u)∧(SBr wr bA E.p v∧ZB wr bh zh.s zh.a zh.l zh.c)∧Below w.heap.size w wr∧∀g,vv.ownBlock=some g→g<wr.heap.size∧g≠bA∧g≠bh∧g≠bt
theorem lt_app {E:RE}{v:SV}{bX:Nat}{zh zt zx:ZV}{u:Int}{v2:Value}{q:List ZV}(h:LtR w wr E v bA bh bt zh lo hi vv n q zt at')(y:ZB wr bX zx.s zx.a zx.l zx.c)(hX: ∀g,vv.ownBlock=some g→g≠bX)(hm:memI (mm E) lo u=memI (mm E) lo (at'-1)++ [u])(hz:Zn wr zx.s zx.a zx.l zx.c u)(hl:Lv.Lo w.heap.size zx.a zx.l)
  (ho:OI w' w.heap.size v2 (n+1) (q++ [zx]))(hg:wr.grownBy w' vv.ownBlock)(hv:v2.ownBlock=vv.ownBlock∨v2.ownBlock=some wr.heap.size):LtA w w' E v bA bh bt bX zh zt zx lo u v2 (n+1) (q++ [zx]):=by
 refine⟨⟨ho,by rw[hm];exact(h.1.2.snoc hz hl).map fun _ _ _ _ _ z=>OI.zn h.1.1 hg z⟩,⟨?_,?_,OI.zn h.1.1 hg hz⟩,⟨?_,?_⟩,OI.step h.1.1 hg h.2.2.2.1 h.2.2.2.1.size,fun g e=> ?_⟩
 ·exact(hg.block bt h.2.1.1.lt fun e=>(h.2.2.2.2 bt e.symm).2.2.2 rfl).trans h.2.1.1
 ·exact(hg.block bX y.lt fun e=>hX bX e.symm rfl).trans y
 ·exact(hg.block bA h.2.2.1.1.lt fun e=>(h.2.2.2.2 bA e.symm).2.1 rfl).trans h.2.2.1.1
 ·exact(hg.block bh h.2.2.1.2.lt fun e=>(h.2.2.2.2 bh e.symm).2.2.1 rfl).trans h.2.2.1.2
 rcases hv with hv|hv
 ·have h9:=h.2.2.2.2 g (by rw[←hv];exact e)
  exact⟨Nat.lt_of_lt_of_le h9.1 hg.size,h9.2⟩
 have hlt:=OI.lt ho e
 rw[hv]at e
 cases e
 refine⟨hlt,?_,?_,?_⟩
 ·exact fun e=>absurd h.2.2.1.1.lt o_m
 ·exact fun e=>absurd h.2.2.1.2.lt o_m
 exact fun e=>absurd h.2.1.1.lt o_m
theorem lt_store {wk wE:World}{E:RE}{v:SV}{bX:Nat}{zh zt zx:ZV}{u:Int}{q:List ZV}{sB:Bool}{aB:Option Addr}{lB cB:Nat}(h:LtA w wr E v bA bh bt bX zh zt zx lo u vv n q)(k:Below wr.heap.size wr wk)(o:Only bt wk wE)(y:ZB wE bt sB aB lB cB)(hz:Zn wE sB aB lB cB (u+1))(kE:Below w.heap.size w wE)(hA:bA≠bt)(hh:bh≠bt):LtR w wE E v bA bh bt zh lo hi vv n q ⟨sB,aB,lB,cB⟩ (u+1):=by
 have yk:=h.2.1.1.below k
 refine⟨⟨OI.only (OwE.below h.1.1 k) o fun e=>(h.2.2.2.2 bt e).2.2.2 rfl,?_⟩,⟨y,.inl hz⟩,⟨(h.2.2.1.1.below k).only o hA,(h.2.2.1.2.below k).only o hh⟩,kE,fun g e=>⟨Nat.lt_of_lt_of_le (h.2.2.2.2 g e).1 (Nat.le_trans k.size (Nat.le_of_eq o.size.symm)),(h.2.2.2.2 g e).2⟩⟩
 rw[show u+1-1=u by omega]
 exact(h.1.2.below k).map fun _ _ _ _ _ z=>zn_only yk o z
theorem list19_n {v:SV}{E:RE}{s2:Bool}{a2:Option Addr}{l2 c2:Nat}(h:RS w v E)(hcn:v.cn≤134217728)(hx:Zm w s a l c lo)(hl:l≤1073741826)(hn:Zm w s2 a2 l2 c2 hi)(hl2:l2≤1073741826):
  Calls Tryz.prog 23 #[.agg #[.int .i64 E.p,.slice v.ca v.cn v.cc,.slice v.ra v.rn v.rc],.agg #[.bool s,.slice a l c],.agg #[.bool s2,.slice a2 l2 c2]] w fun e w'=>LsE w w' e (mm E) lo hi:=by
 have b0:=below_alloc w (.cells #[.int .i64 E.p,.slice v.ca v.cn v.cc,.slice v.ra v.rn v.rc] 30)
 have b1:=below_alloc (w.alloc (.cells #[.int .i64 E.p,.slice v.ca v.cn v.cc,.slice v.ra v.rn v.rc] 30)) (.cells #[.bool s,.slice a l c] 38)
 have b2:=below_alloc ((w.alloc (.cells #[.int .i64 E.p,.slice v.ca v.cn v.cc,.slice v.ra v.rn v.rc] 30)).alloc (.cells #[.bool s,.slice a l c] 38)) (.cells #[.bool s2,.slice a2 l2 c2] 38)
 have kb:=hide (grow_step b2 (grow_step b1 b0))
 have yA:=hide ((sbr_new w E.p v).below (grow_step b2 b1))
 have yl:=(zb_new (w.alloc (.cells #[.int .i64 E.p,.slice v.ca v.cn v.cc,.slice v.ra v.rn v.rc] 30)) s a l c).below b2
 have yh:=zb_new ((w.alloc (.cells #[.int .i64 E.p,.slice v.ca v.cn v.cc,.slice v.ra v.rn v.rc] 30)).alloc (.cells #[.bool s,.slice a l c] 38)) s2 a2 l2 c2
 have hs1:(w.alloc (.cells #[.int .i64 E.p,.slice v.ca v.cn v.cc,.slice v.ra v.rn v.rc] 30)).heap.size=w.heap.size+1:=by simp
 have hs2:((w.alloc (.cells #[.int .i64 E.p,.slice v.ca v.cn v.cc,.slice v.ra v.rn v.rc] 30)).alloc (.cells #[.bool s,.slice a l c] 38)).heap.size=w.heap.size+1+1:=by simp
 rw[hs1]at yl
 rw[hs2]at yh
 have hwf:=hide h.wf
 have hp1:=h.wf.p1
 have hp2:=h.wf.p2
 have hrn:=hide h.rn
 have hcl:=hide h.cn
 go_enter Tryz.func23,Tryz.ntmps23
 go_upto_region 1 with(fail)
 clear b0 b1 b2 hs1 hs2
 generalize ((w.alloc (.cells #[.int .i64 E.p,.slice v.ca v.cn v.cc,.slice v.ra v.rn v.rc] 30)).alloc (.cells #[.bool s,.slice a l c] 38)).alloc (.cells #[.bool s2,.slice a2 l2 c2] 38)=w1 at*
 obtain⟨bA,hbA⟩: ∃bA,w.heap.size=bA:=⟨_,rfl⟩
 rw[hbA]at yA yl yh ⊢
 obtain⟨bl,hbl⟩: ∃bl,bA+1=bl:=⟨_,rfl⟩
 rw[hbl]at yl yh ⊢
 obtain⟨bh,hbh⟩: ∃bh,bl+1=bh:=⟨_,rfl⟩
 rw[hbh]at yh ⊢
 replace yl:=hide yl
 replace yh:=hide yh
 clear hbA hbl hbh
 have hct:=hide (count19_n (h.below kb.out) hcn (hx.below kb.out) o_m (hn.below kb.out) o_m)
 have q0:=yA.out.c0
 have q1:=yA.out.c1
 have q2:=yA.out.c2
 have q3:=yl.out.c0
 have q4:=yl.out.c1
 have q5:=yh.out.c0
 have q6:=yh.out.c1
 go_wp2_with fail
 refine hct.out.mono ?_
 rintro e w2 ⟨s1,a1,l1,c1,rfl,hz1,k2,hl1⟩
 have b3:=below_alloc w2 (.cells #[.bool s1,.slice a1 l1 c1] 38)
 have yn:=hide (zb_new w2 s1 a1 l1 c1)
 replace hz1:=hide (hz1.below b3)
 replace yA:=hide ((yA.out.below k2).below b3)
 replace yl:=hide ((yl.out.below k2).below b3)
 replace yh:=hide ((yh.out.below k2).below b3)
 replace kb:=hide (grow_step b3 (grow_step k2 kb.out))
 clear b3 k2 hct q0 q1 q2 q3 q4 q5 q6
 go_upto_region 2 with(fail)
 generalize w2.alloc (.cells #[.bool s1,.slice a1 l1 c1] 38)=w3 at*
 obtain⟨bn,hbn⟩: ∃bn,w2.heap.size=bn:=⟨_,rfl⟩
 rw[hbn]at yn ⊢
 clear hbn
 obtain⟨bq,hbd⟩: ∃bq,decide ((1000:Int)<(cntI (mm E) lo hi:Nat))=bq:=⟨_,rfl⟩
 have hbq:bq=true↔1000<cntI (mm E) lo hi:=by rw[←hbd,decide_eq_true_iff];omega
 replace hbd:=hide hbd
 refine wp_region_held_drew (S:=(fun w'=>w'.cell? ⟨bn,0,none⟩=some (.bool s1)∧w'.cell? ⟨bn,1,none⟩=some (.slice a1 l1 c1))) k_f (⟨(yn.out.below (grow_drew (Below.refl _ _))).c0,(yn.out.below (grow_drew (Below.refl _ _))).c1⟩) (fun hHeld=> ?_)
 show wpAnyH _ _ _ _ _ 4 _ _ _
 have kW:=grow_drew (Below.refl w3.heap.size w3)
 generalize w3.drew=wQ at*
 refine tkz 1 19 ?_
 (try simp only[pz])
 refine ryz 0 (some 18) (fun K hK=> ?_) AllReadyH.nil
 go_simp
 go_at_call 66;refine Calls.mono (num19_n 1000 o_m o_m _) ?_;rintro e wkA ⟨sA,aA,lA,cA,rfl,hzA,kA,hlA⟩
 have kW:=grow_step kA kW
 try go_wp2_with fail
 refine hK.out _ _ ?_ ?_
 ·first|with_reducible exact trivial|((try dsimp only);exact⟨(yn.out.below kW).c0,(yn.out.below kW).c1⟩)
 clear hK K hHeld;intro hHeld
 (try simp only[pz])
 refine ryz 2 (some 20) (fun K hK=> ?_) AllReadyH.nil
 go_simp
 go_at_call 68;refine Calls.mono (below19_n hzA.zm o_m (hz1.out.zm.below kW) o_m) ?_;rintro e wkB ⟨rfl,kB⟩
 rw[hbd.out]
 have kW:=grow_step kB kW
 try go_wp2_with fail
 refine hK.out _ _ ?_ ?_
 ·first|with_reducible exact trivial|((try dsimp only);exact⟨(yn.out.below kW).c0,(yn.out.below kW).c1⟩)
 clear hK K hHeld;intro hHeld
 (try simp only[pz])
 refine tkz 3 9 ?_
 (try simp only[pz])
 refine wpAnyH_done ?_ ?_ _
 ·decide+kernel
 have k2:=hide (grow_step kW kb.out)
 replace yA:=hide (yA.out.below kW)
 replace yl:=hide (yl.out.below kW)
 replace yh:=hide (yh.out.below kW)
 clear kW hHeld hbd hz1 yn kb hzA
 generalize wkB=w4 at*
 cases bq with
 |true=>
  have hlong:=hide (hbq.1 rfl)
  clear hbq
  go_wp2
  exact bodyPost_ret (results_tmp2 rfl _ _ _) rfl ⟨k2.out,.inr ⟨rfl,hlong.out⟩⟩
 |false=>
  have hshort:cntI (mm E) lo hi≤1000:=by
   rcases Nat.lt_or_ge 1000 (cntI (mm E) lo hi)with h9|h9
   ·exact absurd (hbq.2 h9) (by decide)
   exact h9
  clear hbq
  have q3:=yl.out.c0
  have q4:=yl.out.c1
  have b5:=below_alloc w4 (.cells #[.bool s,.slice a l c] 38)
  have yt:=hide (zb_new w4 s a l c)
  have hAt:Hid (w.heap.size≤w4.heap.size∧bA≠w4.heap.size∧bh≠w4.heap.size):=hide (by have:=yA.out.lt;have:=yh.out.lt;have:=k2.out.size;omega)
  replace yA:=hide (yA.out.below b5)
  replace yh:=hide (yh.out.below b5)
  replace k2:=hide (grow_step b5 k2.out)
  clear b5
  go_wp2_with fail
  clear q3 q4 yl
  generalize w4.alloc (.cells #[.bool s,.slice a l c] 38)=w5 at*
  obtain⟨bt,hbt⟩: ∃bt,w4.heap.size=bt:=⟨_,rfl⟩
  rw[hbt]at yt hAt ⊢
  clear hbt
  have hst:Hid (LtR w w5 E v bA bh bt ⟨s2,a2,l2,c2⟩ lo hi (.slice none 0 0) 0 [] ⟨s,a,l,c⟩ lo):=hide ⟨⟨.inl ⟨rfl,rfl,rfl⟩,by rw[memI_no o_m];exact pz_nil _ _⟩,⟨yt.out,.inr hx⟩,⟨yA.out,yh.out⟩,k2.out,fun g e=>by cases e⟩
  have hc0:Hid (0=cntI (mm E) lo (lo-1)):=hide (by rw[←memI_len,memI_no o_m];rfl)
  clear yt yA yh k2
  go_loopg [10] 1001 (fun gk v9 wr=> ∃(vv:Value) (n:Nat) (q:List ZV) (zt:ZV) (at':Int),vv=v9∧gk=1001-n∧n≤1000∧n=cntI (mm E) lo (at'-1)∧(lo≤at'∧(at'=lo∨at'≤hi+1))∧zt.l≤1073741828∧Hid (LtR w wr E v bA bh bt ⟨s2,a2,l2,c2⟩ lo hi vv n q zt at'))
  case atStart=>exact⟨_,0,[],⟨s,a,l,c⟩,lo,rfl,rfl,by omega,hc0.out,⟨Int.le_refl _,.inl rfl⟩,by show l≤_;omega,hst⟩
  case round=>
   clear hst hc0
   obtain⟨vv,n,q,zt,at',rfl,rfl,hnn,hnc,hat,hztl,hr⟩:=hrel
   replace hnc:=hide hnc
   have hnx:=hide (next19_f (B:=2147483648) o_m o_m (h.below hr.out.2.2.2.1) hcn (hr.out.2.1.2.zm hr.out.2.2.2.1) o_m)
   have q0:=hr.out.2.2.1.1.c0
   have q1:=hr.out.2.2.1.1.c1
   have q2:=hr.out.2.2.1.1.c2
   have q3:=hr.out.2.1.1.c0
   have q4:=hr.out.2.1.1.c1
   go_wp2_with fail
   refine hnx.out.mono ?_
   rintro e w6 ⟨hns,hnl,k6⟩
   obtain⟨zx,bq,rfl,hnq⟩:=hns.one
   have hlo:bq=true→Lv.Lo w.heap.size zx.a zx.l:=fun e=>by
    subst e
    exact lo_mono hr.out.2.2.2.1.size (hnl zx rfl)
   clear hnl
   have b6:=below_alloc w6 (.cells #[.bool zx.s,.slice zx.a zx.l zx.c] 38)
   have yx:=hide (zb_new w6 zx.s zx.a zx.l zx.c)
   replace hr:=hide (hr.out.below k6)
   have hXt:Hid (w6.heap.size≠bt∧∀g,vv.ownBlock=some g→g≠w6.heap.size):=hide ⟨by have:=hr.out.2.1.1.lt;omega,fun g e=>by have:=(hr.out.2.2.2.2 g e).1;omega⟩
   replace hr:=hide (hr.out.below b6)
   have hnq:Hid (Nx1 (mm E) (w6.alloc (.cells #[.bool zx.s,.slice zx.a zx.l zx.c] 38)) at' 2147483649 zx bq):=hide (Nx1.below hnq b6)
   clear hnx q0 q1 q2 q3 q4 k6 hns b6
   go_upto_region 8 with(fail)
   generalize w6.alloc (.cells #[.bool zx.s,.slice zx.a zx.l zx.c] 38)=w7 at*
   obtain⟨bX,hbX⟩: ∃bX,w6.heap.size=bX:=⟨_,rfl⟩
   rw[hbX]at yx hXt ⊢
   clear hbX
   rcases hnq.out with⟨rfl,u,h1,h2,h3,h4,h5⟩|⟨rfl,rfl,h1⟩
   ·obtain⟨bz,hbd⟩: ∃bz,decide (hi<u)=bz:=⟨_,rfl⟩
    have hbz:bz=true↔hi<u:=by rw[←hbd,decide_eq_true_iff]
    replace hbd:=hide hbd
    replace h2:=hide h2
    replace h3:=hide h3
    replace h4:=hide h4
    clear hnq
    have yh:=hide hr.out.2.2.1.2
    have hbl:=hide (below19_n (hn.below hr.out.2.2.2.1) o_m h4.out.zm o_m)
    have q0:=yh.out.c0
    have q1:=yh.out.c1
    have q2:=yx.out.c0
    have q3:=yx.out.c1
    go_wp2_with fail
    refine hbl.out.mono ?_
    rintro e w8 ⟨rfl,k8⟩
    rw[hbd.out]
    replace hr:=hide (hr.out.below k8)
    replace yx:=hide (yx.out.below k8)
    replace h4:=hide (h4.out.below k8)
    clear k8 hbl hbd yh q0 q1 q2 q3
    cases bz with
    |true=>
     have hend:=hide (ls_end hat.1 hat.2 (fun t h8 h9=>h2.out t h8 (by have:=hbz.1 rfl;omega)))
     clear hbz h2 h3 h4 yx
     have hall:Hid (LsE w w8 (.returned (.tuple #[vv,.int .i64 0])) (mm E) lo hi):=hide ⟨hr.out.2.2.2.1,.inl ⟨vv,n,q,rfl,hnn,hr.out.1.1,by rw[hend.out];exact hr.out.1.2⟩⟩
     clear hend
     go_wp2
     refine bodyPost_ret (results_tmp2 rfl _ _ _) rfl ?_
     exact hall.out
    |false=>
     have huh:u≤hi:=by
      rcases Int.lt_or_le hi u with h9|h9
      ·exact absurd (hbz.2 h9) (by decide)
      exact h9
     clear hbz
     have hlu:zx.l≤1073741826:=zn_len_pw h4.out (natAbs_mid (Int.le_trans hat.1 h1) huh (zm_pw hx hl) (zm_pw hn hl2))
     have hms:=hide (memI_snoc hat.1 h1 h2.out h3.out)
     have hn1:Hid (n+1=cntI (mm E) lo u):=hide (by rw[←memI_len,hms.out,List.length_append,memI_len,←hnc.out];rfl)
     have hn2:n+1≤1000:=by have:=hn1.out;have:=cntI_mono (mm E) (Int.le_trans hat.1 h1) huh;omega
     have bl:=below_alloc w8 (.cells #[.bool zx.s,.slice zx.a zx.l zx.c] 38)
     have src:=hide (zsrc w8 zx)
     have hrB:=hide (hr.out.below bl)
     have yxB:=hide (yx.out.below bl)
     have h4B:=hide (h4.out.below bl)
     have hlox:=hlo (by first|rfl|trivial)
     clear bl h2 h3 h4
     have q0:=yx.out.c0
     have q1:=yx.out.c1
     go_wp2_with(refine appe_wp Tryz.underlying23 Pd.infoI rfl (by decide) (by decide) Pd.zv_len Pd.zv_one rfl _ _ rfl rfl hrB.out.1.1 zx ⟨_,_,rfl,src.out⟩ o_m hrB.out.2.2.2.1.size ?_)
     intro v2 w9 ho2 hg2 hv2
     have hX8: ∀g,vv.ownBlock=some g→g≠bX:=hXt.out.2
     have hA9:=hide (lt_app hrB.out yxB.out hX8 hms.out h4B.out hlox (.inr ho2) hg2 (hv2.imp id fun e=>e.trans (by simp)))
     have hX9:=hXt.out.1
     clear ho2 hg2 hv2 hrB yxB h4B src hX8 hms hr yx hlox q0 q1
     go_upto_region 11 with(fail)
     have yX:=hide hA9.out.2.1.2.1
     have yt9:=hide hA9.out.2.1.1
     have hz9:=hide hA9.out.2.1.2.2
     have kr:=hide hA9.out.2.2.2.1
     refine wp_region_held_drew (S:=(fun w'=>(w'.cell? ⟨bX,0,none⟩=some (.bool zx.s)∧w'.cell? ⟨bX,1,none⟩=some (.slice zx.a zx.l zx.c)))) k_f (⟨(yX.out.below (grow_drew (Below.refl _ _))).c0,(yX.out.below (grow_drew (Below.refl _ _))).c1⟩) (fun hHeld=> ?_)
     show wpAnyH _ _ _ _ _ 4 _ _ _
     have kW:=grow_drew (Below.refl w9.heap.size w9)
     generalize w9.drew=wQ at*
     refine tkz 0 41 ?_
     (try simp only[pz])
     refine ryz 1 (some 42) (fun K hK=> ?_) AllReadyH.nil
     go_simp
     go_at_call 66;refine Calls.mono (num19_n 1 o_m o_m _) ?_;rintro e wkA ⟨sA,aA,lA,cA,rfl,hzA,kA,hlA⟩
     have kW:=grow_step kA kW
     try go_wp2_with fail
     refine hK.out _ _ ?_ ?_
     ·first|with_reducible exact trivial|((try dsimp only);exact(by first|exact⟨(yX.out.below kW).c0,(yX.out.below kW).c1⟩|exact hS8))
     clear hK K hHeld;intro hHeld
     (try simp only[pz])
     refine ryz 2 (some 43) (fun K hK=> ?_) AllReadyH.nil
     go_simp
     go_at_call 48;refine Calls.mono (radd2_n (hz9.out.below kW).zm hzA.zm o_m o_m) ?_;rintro e wkB ⟨sB,aB,lB,cB,rfl,hzB,kB,hlB⟩
     have kW:=grow_step kB kW
     try go_wp2_with fail
     refine hK.out _ _ ?_ ?_
     ·first|with_reducible exact trivial|((try dsimp only);exact(by first|exact⟨(yX.out.below kW).c0,(yX.out.below kW).c1⟩|exact hS8))
     clear hK K hHeld;intro hHeld
     (try simp only[pz])
     refine ryz 3 none (fun K hK=> ?_) AllReadyH.nil
     have ytK:=yt9.out.below kW
     have f0:=ytK.c0
     have f1:=ytK.c1
     have f2:=ytK.f 0
     have f3:=ytK.f 1
     obtain⟨wE,eE,yE,kE,oE,hznE⟩:=Pd.est_z (grow_step kW kr.out) hAt.out.1 ytK sB aB lB cB
     have hzE:=hznE _ _ _ _ _ hzB
     have hXE:=(yX.out.below kW).only oE hX9
     have kW0:=kW
     have hS8:wE.cell? ⟨bX,0,none⟩=some (.bool zx.s)∧wE.cell? ⟨bX,1,none⟩=some (.slice zx.a zx.l zx.c):=⟨hXE.c0,hXE.c1⟩
     go_simp
     rw[eE.out]
     clear f0 f1 f2 f3 hznE hXE ytK
     refine hK.out _ _ ?_ ?_
     ·first|with_reducible exact trivial|((try dsimp only);exact(by first|exact⟨(yX.out.below kW).c0,(yX.out.below kW).c1⟩|exact hS8))
     clear hK K hHeld;intro hHeld
     (try simp only[pz])
     refine wpAnyH_done ?_ ?_ _
     ·decide+kernel
     have hfin:Hid (LtR w wE E v bA bh bt ⟨s2,a2,l2,c2⟩ lo hi v2 (n+1) (q++ [zx]) ⟨sB,aB,lB,cB⟩ (u+1)):=hide (lt_store hA9.out kW0 oE yE hzE kE hAt.out.2.1 hAt.out.2.2)
     clear hHeld yE oE hzE kE kW0 hA9 yX yt9 hz9 kr hS8
     go_wp2_with fail
     go_roundg (1001-(n+1))
     case measure=>omega
     case rel=>exact⟨v2,n+1,q++ [zx],⟨sB,aB,lB,cB⟩,u+1,rfl,rfl,hn2,by rw[show u+1-1=u by omega];exact hn1.out,⟨by omega,.inr o_m⟩,by show lB≤_;omega,hfin⟩
   have hend:=hide (ls_end hat.1 hat.2 (fun t h8 _=>h1 t h8))
   clear h1 hnq
   clear yx
   have hall:Hid (LsE w w7 (.returned (.tuple #[vv,.int .i64 0])) (mm E) lo hi):=hide ⟨hr.out.2.2.2.1,.inl ⟨vv,n,q,rfl,hnn,hr.out.1.1,by rw[hend.out];exact hr.out.1.2⟩⟩
   clear hend
   go_wp2
   refine bodyPost_ret (results_tmp2 rfl _ _ _) rfl ?_
   exact hall.out
end Cr
end Go.Proofs.YtaafoppaepcaeaaGreat

namespace Go.Proofs.YtaafoppaepcaeaaGreat
open Go.RowKit Go.Sort
namespace Pd

def Fin (f:Int→Bool)(lo hi:Int):Prop:=(∀u,u≤lo→f u=false)∧∀u,hi≤u→f u=false
def FiO (D:PD)(w':World)(z:ZV)(b:Bool):Prop:=(b=true→∃lo hi,Ed D lo hi∧Fin (mem D) lo hi∧Zn w' z.s z.a z.l z.c (cntI (mem D) lo hi:Nat))∧(b=false→z=⟨false,none,0,0⟩)
theorem nx_nil {w':World}{en:Ending}{f:Int→Bool}{x d:Int}{B:Nat}(h:Nst w' en f x d B)(z:ZV)(b:Bool)(he:en= .returned (.tuple #[.agg #[.bool z.s,.slice z.a z.l z.c],.bool b])):b=false→z=⟨false,none,0,0⟩:=fun hb=>by
 subst hb
 rcases h with⟨v,z',-,-,-,h4,-⟩|⟨-,h2⟩
 ·rw[he]at h4
  simp at h4
 rw[he]at h2
 simp at h2
 obtain⟨h1,h3,h4,h5⟩:=h2
 cases z
 simp_all
def LeO (D:PD)(w':World)(z:ZV)(b:Bool):Prop:=(b=true→∃v,(∀u,u<v→mem D u=false)∧mem D v=true∧Zn w' z.s z.a z.l z.c v∧z.l≤8589942784)∧(b=false→∃lo hi,Ed D lo hi∧((∃v,v≤lo∧mem D v=true)∨ ∀u,mem D u=false))
def LeF (D:PD)(w':World)(z:ZV)(b:Bool):Prop:=LeO D w' z b∧(b=false→z=⟨false,none,0,0⟩)
def FiF (D:PD)(w':World)(z:ZV)(b:Bool):Prop:=FiO D w' z b∧(b=false→∃lo hi,Ed D lo hi∧((∃v,v≤lo∧mem D v=true)∨ ∃v,hi≤v∧mem D v=true))
theorem Finite_f {w:World}{bS:Nat}{D:PD}(hS:PS w bS D)(hf:D.cs.length≤1073741823):
  Calls Tryz.prog 30 #[.pointer (some ⟨bS,0,none⟩)] w fun e w'=> ∃(z:ZV) (b:Bool),e= .returned (.tuple #[.agg #[.bool z.s,.slice z.a z.l z.c],.bool b])∧FiF D w' z b∧Below w.heap.size w w':=by
 have b0:=below_alloc w (.cells #[.bool false,.slice none 0 0] 38)
 have y2:=hide (zb_new w false none 0 0)
 replace hS:=hide (hS.below b0)
 replace b0:=hide b0
 go_enter Tryz.func30,Tryz.ntmps30
 go_upto_region 1 with(fail)
 generalize w.alloc (.cells #[.bool false,.slice none 0 0] 38)=w0 at*
 obtain⟨b,hb⟩: ∃b,w.heap.size=b:=⟨_,rfl⟩
 rw[hb]at y2 ⊢
 replace hb:=hide hb
 have hen:=hide (ends_n hS.out hf)
 go_wp2_with fail
 refine hen.out.mono ?_
 rintro e w1 ⟨zl,zh,lo,hi,rfl,hed,hzl,hll,hzh,hhl,kN⟩
 have bl:=below_alloc w1 (.cells #[.bool zl.s,.slice zl.a zl.l zl.c] 38)
 have bh:=below_alloc (w1.alloc (.cells #[.bool zl.s,.slice zl.a zl.l zl.c] 38)) (.cells #[.bool zh.s,.slice zh.a zh.l zh.c] 38)
 have yl:=hide ((zb_new w1 zl.s zl.a zl.l zl.c).below bh)
 have yh:=zb_new (w1.alloc (.cells #[.bool zl.s,.slice zl.a zl.l zl.c] 38)) zh.s zh.a zh.l zh.c
 rw[show(w1.alloc (.cells #[.bool zl.s,.slice zl.a zl.l zl.c] 38)).heap.size=w1.heap.size+1 by simp]at yh
 replace yh:=hide yh
 have kA:=grow_step bh bl
 replace hzl:=hide (hzl.below kA)
 replace hzh:=hide (hzh.below kA)
 replace hed:=hide hed
 have pD:=hide ((hS.out.below kN).below kA)
 replace y2:=hide ((y2.out.below kN).below kA)
 have kw:=hide (grow_step kA (grow_step kN b0.out))
 clear hen kA bl bh hS b0 kN
 go_upto_region 4 with(fail)
 generalize (w1.alloc (.cells #[.bool zl.s,.slice zl.a zl.l zl.c] 38)).alloc (.cells #[.bool zh.s,.slice zh.a zh.l zh.c] 38)=w2 at*
 obtain⟨bl,hbl⟩: ∃c,w1.heap.size=c:=⟨_,rfl⟩
 rw[hbl]at yl yh ⊢
 clear hbl
 have hla:=hide (last_n (LL:=8589934592) pD.out hf hzl.out.zm o_m o_m o_m)
 have c0:=yl.out.c0
 have c1:=yl.out.c1
 go_wp2_with fail
 refine hla.out.mono ?_
 rintro e w3 ⟨kN,hN⟩
 obtain⟨z2,b2,he,hXb2⟩:=nx_one hN
 clear hN
 subst he
 have kA:=grow_step (below_alloc w3 (.cells #[.bool z2.s,.slice z2.a z2.l z2.c] 38)) kN
 replace hzl:=hide (hzl.out.below kA)
 replace hzh:=hide (hzh.out.below kA)
 replace pD:=hide (pD.out.below kA)
 replace y2:=hide (y2.out.below kA)
 replace yl:=hide (yl.out.below kA)
 replace yh:=hide (yh.out.below kA)
 replace kw:=hide (grow_step kA kw.out)
 clear hla kA kN c0 c1
 go_upto_if 26 with(fail)
 generalize w3.alloc (.cells #[.bool z2.s,.slice z2.a z2.l z2.c] 38)=w4 at*
 cases b2 with
 |true=>
  obtain⟨v,hv1,-,hv3,-,-⟩:=hXb2.1 rfl
  have hle:v≤lo:=by omega
  clear hXb2 hv1
  have f0:=y2.out.c0
  have f1:=y2.out.c1
  have f2:=y2.out.f 0
  have f3:=y2.out.f 1
  obtain⟨w8,e8,y8,k8,-,hzn⟩:=est_z kw.out (Nat.le_of_eq hb.out) y2.out false none 0 0
  replace y8:=hide y8
  replace k8:=hide k8
  clear hzn
  go_wp2
  rw[e8.out]
  exact bodyPost_ret (results_ct rfl _ _ b 38 _ (0,0) _ rfl y8.out Tryz.underlying38 rfl k_f) rfl ⟨⟨false,none,0,0⟩,false,rfl,⟨⟨fun e=>(by cases e),fun _=>rfl⟩,fun _=>⟨lo,hi,hed.out,.inl ⟨v,hle,hv3⟩⟩⟩,k8.out⟩
 |false=>
  have hv1:=hXb2.2 rfl
  clear hXb2
  have hla:=hide (next_n (LL:=8589934592) pD.out hf hzh.out.zm o_m o_m o_m)
  have c0:=yh.out.c0
  have c1:=yh.out.c1
  go_wp2_with fail
  refine hla.out.mono ?_
  rintro e w5 ⟨kN,hN⟩
  obtain⟨z3,b3,he,hXb3⟩:=nx_one hN
  clear hN
  subst he
  have kA:=grow_step (below_alloc w5 (.cells #[.bool z3.s,.slice z3.a z3.l z3.c] 38)) kN
  replace hzl:=hide (hzl.out.below kA)
  replace hzh:=hide (hzh.out.below kA)
  replace pD:=hide (pD.out.below kA)
  replace y2:=hide (y2.out.below kA)
  replace yl:=hide (yl.out.below kA)
  replace yh:=hide (yh.out.below kA)
  replace kw:=hide (grow_step kA kw.out)
  clear hla kA kN c0 c1
  go_upto_if 34 with(fail)
  generalize w5.alloc (.cells #[.bool z3.s,.slice z3.a z3.l z3.c] 38)=w6 at*
  cases b3 with
  |true=>
   obtain⟨v,hv4,-,hv5,-,-⟩:=hXb3.1 rfl
   have hge:hi≤v:=by omega
   clear hXb3 hv4
   have f0:=y2.out.c0
   have f1:=y2.out.c1
   have f2:=y2.out.f 0
   have f3:=y2.out.f 1
   obtain⟨w8,e8,y8,k8,-,hzn⟩:=est_z kw.out (Nat.le_of_eq hb.out) y2.out false none 0 0
   replace y8:=hide y8
   replace k8:=hide k8
   clear hzn
   go_wp2
   rw[e8.out]
   exact bodyPost_ret (results_ct rfl _ _ b 38 _ (0,0) _ rfl y8.out Tryz.underlying38 rfl k_f) rfl ⟨⟨false,none,0,0⟩,false,rfl,⟨⟨fun e=>(by cases e),fun _=>rfl⟩,fun _=>⟨lo,hi,hed.out,.inr ⟨v,hge,hv5⟩⟩⟩,k8.out⟩
  |false=>
   have hv2:=hXb3.2 rfl
   clear hXb3
   have hco:=hide (Count_n pD.out hf hzl.out.zm o_m hzh.out.zm o_m)
   have c0:=yl.out.c0
   have c1:=yl.out.c1
   have c2:=yh.out.c0
   have c3:=yh.out.c1
   go_wp2_with fail
   refine hco.out.mono ?_
   rintro e w7 ⟨zk,rfl,hzk,hkl,kN⟩
   have kA:=grow_step (below_alloc w7 (.cells #[.bool zk.s,.slice zk.a zk.l zk.c] 38)) kN
   replace hzk:=hide (hzk.below (below_alloc w7 (.cells #[.bool zk.s,.slice zk.a zk.l zk.c] 38)))
   have yk:=hide (zb_new w7 zk.s zk.a zk.l zk.c)
   replace y2:=hide (y2.out.below kA)
   replace kw:=hide (grow_step kA kw.out)
   clear hco kA kN c0 c1 c2 c3 yl yh hzl hzh pD
   go_upto_region 11 with(fail)
   generalize w7.alloc (.cells #[.bool zk.s,.slice zk.a zk.l zk.c] 38)=w9 at*
   have c0:=yk.out.c0
   have c1:=yk.out.c1
   have hfin:Hid (Fin (mem D) lo hi):=hide ⟨fun u hu=>hv1 u o_m,fun u hu=>hv2 u o_m⟩
   clear hv1 hv2
   have f0:=y2.out.c0
   have f1:=y2.out.c1
   have f2:=y2.out.f 0
   have f3:=y2.out.f 1
   obtain⟨w8,e8,y8,k8,-,hzn⟩:=est_z kw.out (Nat.le_of_eq hb.out) y2.out zk.s zk.a zk.l zk.c
   have hzk8:=hide (hzn _ _ _ _ _ hzk.out)
   replace y8:=hide y8
   replace k8:=hide k8
   clear hzn
   go_wp2
   rw[e8.out]
   exact bodyPost_ret (results_ct rfl _ _ b 38 _ (0,0) _ rfl y8.out Tryz.underlying38 rfl k_f) rfl ⟨zk,true,rfl,⟨⟨fun _=>⟨lo,hi,hed.out,hfin.out,hzk8.out⟩,fun e=>(by cases e)⟩,fun e=>(by cases e)⟩,k8.out⟩
theorem Least_f {w:World}{bS:Nat}{D:PD}(hS:PS w bS D)(hf:D.cs.length≤1073741823):
  Calls Tryz.prog 28 #[.pointer (some ⟨bS,0,none⟩)] w fun e w'=> ∃(z:ZV) (b:Bool),e= .returned (.tuple #[.agg #[.bool z.s,.slice z.a z.l z.c],.bool b])∧LeF D w' z b∧Below w.heap.size w w':=by
 have b0:=below_alloc w (.cells #[.bool false,.slice none 0 0] 38)
 have y2:=hide (zb_new w false none 0 0)
 replace hS:=hide (hS.below b0)
 replace b0:=hide b0
 go_enter Tryz.func28,Tryz.ntmps28
 go_upto_region 1 with(fail)
 generalize w.alloc (.cells #[.bool false,.slice none 0 0] 38)=w0 at*
 obtain⟨b,hb⟩: ∃b,w.heap.size=b:=⟨_,rfl⟩
 rw[hb]at y2 ⊢
 replace hb:=hide hb
 have hen:=hide (ends_n hS.out hf)
 go_wp2_with fail
 refine hen.out.mono ?_
 rintro e w1 ⟨zl,zh,lo,hi,rfl,hed,hzl,hll,hzh,hhl,kN⟩
 have bl:=below_alloc w1 (.cells #[.bool zl.s,.slice zl.a zl.l zl.c] 38)
 have bh:=below_alloc (w1.alloc (.cells #[.bool zl.s,.slice zl.a zl.l zl.c] 38)) (.cells #[.bool zh.s,.slice zh.a zh.l zh.c] 38)
 have yl:=hide ((zb_new w1 zl.s zl.a zl.l zl.c).below bh)
 have yh:=zb_new (w1.alloc (.cells #[.bool zl.s,.slice zl.a zl.l zl.c] 38)) zh.s zh.a zh.l zh.c
 rw[show(w1.alloc (.cells #[.bool zl.s,.slice zl.a zl.l zl.c] 38)).heap.size=w1.heap.size+1 by simp]at yh
 replace yh:=hide yh
 have kA:=grow_step bh bl
 replace hzl:=hide (hzl.below kA)
 replace hzh:=hide (hzh.below kA)
 replace hed:=hide hed
 have pD:=hide ((hS.out.below kN).below kA)
 replace y2:=hide ((y2.out.below kN).below kA)
 have kw:=hide (grow_step kA (grow_step kN b0.out))
 clear hen kA bl bh hS b0 kN
 go_upto_region 4 with(fail)
 generalize (w1.alloc (.cells #[.bool zl.s,.slice zl.a zl.l zl.c] 38)).alloc (.cells #[.bool zh.s,.slice zh.a zh.l zh.c] 38)=w2 at*
 obtain⟨bl,hbl⟩: ∃c,w1.heap.size=c:=⟨_,rfl⟩
 rw[hbl]at yl yh ⊢
 clear hbl
 have hla:=hide (last_n (LL:=8589934592) pD.out hf hzl.out.zm o_m o_m o_m)
 have c0:=yl.out.c0
 have c1:=yl.out.c1
 go_wp2_with fail
 refine hla.out.mono ?_
 rintro e w3 ⟨kN,hN⟩
 obtain⟨z2,b2,he,hXb2⟩:=nx_one hN
 clear hN
 subst he
 have kA:=grow_step (below_alloc w3 (.cells #[.bool z2.s,.slice z2.a z2.l z2.c] 38)) kN
 replace hzl:=hide (hzl.out.below kA)
 replace hzh:=hide (hzh.out.below kA)
 replace pD:=hide (pD.out.below kA)
 replace y2:=hide (y2.out.below kA)
 replace yl:=hide (yl.out.below kA)
 replace yh:=hide (yh.out.below kA)
 replace kw:=hide (grow_step kA kw.out)
 clear hla kA kN c0 c1
 go_upto_if 22 with(fail)
 generalize w3.alloc (.cells #[.bool z2.s,.slice z2.a z2.l z2.c] 38)=w4 at*
 cases b2 with
 |true=>
  obtain⟨v,hv1,-,hv3,-,-⟩:=hXb2.1 rfl
  have hle:v≤lo:=by omega
  clear hXb2 hv1
  have f0:=y2.out.c0
  have f1:=y2.out.c1
  have f2:=y2.out.f 0
  have f3:=y2.out.f 1
  obtain⟨w8,e8,y8,k8,-,hzn⟩:=est_z kw.out (Nat.le_of_eq hb.out) y2.out false none 0 0
  replace y8:=hide y8
  replace k8:=hide k8
  clear hzn
  go_wp2
  rw[e8.out]
  exact bodyPost_ret (results_ct rfl _ _ b 38 _ (0,0) _ rfl y8.out Tryz.underlying38 rfl k_f) rfl ⟨⟨false,none,0,0⟩,false,rfl,⟨⟨fun e=>(by cases e),fun _=>⟨lo,hi,hed.out,.inl ⟨v,hle,hv3⟩⟩⟩,fun _=>rfl⟩,k8.out⟩
 |false=>
  have hv1:=hXb2.2 rfl
  clear hXb2
  have hla:=hide (next_n (LL:=8589934592) pD.out hf hzl.out.zm o_m o_m o_m)
  have c0:=yl.out.c0
  have c1:=yl.out.c1
  go_wp2_with fail
  refine hla.out.mono ?_
  rintro e w5 ⟨kN,hN⟩
  have hN2:=nx_nil hN
  obtain⟨z3,b3,he,hXb3⟩:=nx_one hN
  have hz3:=hide (hN2 z3 b3 he)
  clear hN2
  clear hN
  subst he
  have hX3:=hide hXb3
  clear hXb3
  replace y2:=hide (y2.out.below kN)
  replace kw:=hide (grow_step kN kw.out)
  clear hla kN c0 c1 yl yh hzl hzh pD
  have hl:Hid (∀w',(∀s1 ad len cap z,Zn w5 s1 ad len cap z→Zn w' s1 ad len cap z)→LeF D w' z3 b3):=hide fun w' hz=>⟨⟨fun e=>(by
   obtain⟨v,h1,h2,h3,h4,h5⟩:=hX3.out.1 e
   exact⟨v,fun u hu=>(by
    by_cases h:u≤lo
    ·exact hv1 u o_m
    ·exact h2 u o_m o_m),h3,hz _ _ _ _ _ h4,h5⟩),fun e=>⟨lo,hi,hed.out,.inr fun u=>(by
    by_cases h:u≤lo
    ·exact hv1 u o_m
    exact hX3.out.2 e u o_m)⟩⟩,hz3.out⟩
  clear hX3 hv1 hz3
  have f0:=y2.out.c0
  have f1:=y2.out.c1
  have f2:=y2.out.f 0
  have f3:=y2.out.f 1
  obtain⟨w8,e8,y8,k8,-,hzn⟩:=est_z kw.out (Nat.le_of_eq hb.out) y2.out z3.s z3.a z3.l z3.c
  have hl8:=hide (hl.out w8 hzn)
  replace y8:=hide y8
  replace k8:=hide k8
  clear hzn
  go_wp2
  rw[e8.out]
  exact bodyPost_ret (results_ct rfl _ _ b 38 _ (0,0) _ rfl y8.out Tryz.underlying38 rfl k_f) rfl ⟨z3,b3,rfl,hl8.out,k8.out⟩
end Pd
end Go.Proofs.YtaafoppaepcaeaaGreat

namespace Go.Proofs.YtaafoppaepcaeaaGreat
open Go.RowKit Go.Sort Go.Shelf
namespace Cr
open Pd (PD ZV Wf mem plc cntI cntm cntm_none cntm_add Nst Ed LeF LeO FiF FiO)

variable {w w2:World}{f g:Int→Bool}{x:Int}
def Twin (w w2:World)(e e2:Ending):Prop:=∃(z y:ZV) (b:Bool) (v:Int),e= .returned (.tuple #[.agg #[.bool z.s,.slice z.a z.l z.c],.bool b])∧e2= .returned (.tuple #[.agg #[.bool y.s,.slice y.a y.l y.c],.bool b])∧Zn w z.s z.a z.l z.c v∧Zn w2 y.s y.a y.l y.c v
theorem tw_no (w w2:World){e e2:Ending}(h:e= .returned (.tuple #[.agg #[.bool false,.slice none 0 0],.bool false]))(h2:e2= .returned (.tuple #[.agg #[.bool false,.slice none 0 0],.bool false])):Twin w w2 e e2:=
 ⟨⟨false,none,0,0⟩,⟨false,none,0,0⟩,false,0,h,h2,Pd.zn_zero w,Pd.zn_zero w2⟩
theorem tw_next {e e2:Ending}{B B2:Nat}(hfg: ∀x,f x=g x)(h:Nst w e f x 1 B)(h2:NsE w2 e2 g x B2):Twin w w2 e e2:=by
 rcases h with⟨v,z,h1,h3,h4,rfl,h5,-⟩|⟨h1,rfl⟩ <;> rcases h2 with⟨v',z',k1,k3,k4,rfl,k5,-⟩|⟨k1,rfl⟩
 ·obtain rfl:v=v':=by
   rcases Int.lt_trichotomy v v' with h|h|h
   ·have:=k3 v o_m h
    rw[←hfg,h4]at this
    cases this
   ·exact h
   have:=h3 v' o_m o_m
   rw[hfg,k4]at this
   cases this
  exact⟨z,z',true,v,rfl,rfl,h5,k5⟩
 ·have:=k1 v o_m
  rw[←hfg,h4]at this
  cases this
 ·have:=h1 v' o_m
  rw[hfg,k4]at this
  cases this
 exact tw_no _ _ rfl rfl
theorem tw_last {e e2:Ending}{B B2:Nat}(hfg: ∀x,f x=g x)(h:Nst w e f x (-1) B)(h2:LtE w2 e2 g x B2):Twin w w2 e e2:=by
 rcases h with⟨v,z,h1,h3,h4,rfl,h5,-⟩|⟨h1,rfl⟩ <;> rcases h2 with⟨v',z',k1,k3,k4,rfl,k5,-⟩|⟨k1,rfl⟩
 ·obtain rfl:v=v':=by
   rcases Int.lt_trichotomy v v' with h|h|h
   ·have:=h3 v' o_m o_m
    rw[hfg,k4]at this
    cases this
   ·exact h
   have:=k3 v h o_m
   rw[←hfg,h4]at this
   cases this
  exact⟨z,z',true,v,rfl,rfl,h5,k5⟩
 ·have:=k1 v o_m
  rw[←hfg,h4]at this
  cases this
 ·have:=h1 v' o_m
  rw[hfg,k4]at this
  cases this
 exact tw_no _ _ rfl rfl
theorem mem_plc {D:PD}{y k:Int}(h:plc D.cs y=plc D.cs x)(e:y=x+(D.p:Int)*k):mem D y=mem D x:=by
 unfold mem
 rw[h,e,Int.add_mul_emod_self_left]
theorem step_low {p:Nat}(hp:1≤p)(v y:Int): ∃n:Int,0≤n∧v+(p:Int)*(-n)<y:=by
 refine⟨(v-y).natAbs+1,by omega,?_⟩
 have h1:((v-y).natAbs+1:Int)≤(p:Int)*((v-y).natAbs+1:Int):=by
  have:=Int.mul_le_mul_of_nonneg_right (show(1:Int)≤(p:Int)by omega) (show(0:Int)≤((v-y).natAbs+1:Int)by omega)
  omega
 rw[Int.mul_neg]
 omega
theorem low_any {D:PD}(hw:Wf D){lo hi v:Int}(he:Ed D lo hi)(hv:v≤lo)(hm:mem D v=true)(y:Int): ∃u,u<y∧mem D u=true:=by
 obtain⟨n,hn,hlt⟩:=step_low hw.p1 v y
 refine⟨v+(D.p:Int)*(-n),hlt,?_⟩
 have hle:v+(D.p:Int)*(-n)≤v:=by
  have:=Int.mul_nonneg (show(0:Int)≤(D.p:Int)by omega) hn
  rw[Int.mul_neg]
  omega
 refine(mem_plc ?_ rfl).trans hm
 have h0: ∀u,u≤lo→plc D.cs u=0:=fun u hu=>by
  rcases he with⟨e,-,-⟩|⟨h1,h2,e,-⟩
  ·rw[List.eq_nil_of_length_eq_zero e]
   rfl
  refine List.countP_eq_zero.2 fun c hc=> ?_
  obtain⟨i,hi,rfl⟩:=List.mem_iff_getElem.1 hc
  have:D.cs[0]≤D.cs[i]:=by
   rcases Nat.eq_zero_or_pos i with rfl|h
   ·exact Int.le_refl _
   exact Int.le_of_lt (List.pairwise_iff_getElem.1 hw.up 0 i h1 hi h)
  simp
  omega
 by_cases e:D.cs.length=0
 ·rw[List.eq_nil_of_length_eq_zero e]
  rfl
 rw[h0 _ (Int.le_trans hle hv),h0 _ hv]
theorem high_any {D:PD}(hw:Wf D){lo hi v:Int}(he:Ed D lo hi)(hv:hi≤v)(hm:mem D v=true)(y:Int): ∃u,y≤u∧mem D u=true:=by
 obtain⟨n,hn,hlt⟩:=step_low hw.p1 (-v) (-y)
 refine⟨v+(D.p:Int)*n,?_,?_⟩
 ·rw[Int.mul_neg]at hlt
  omega
 have hle:v≤v+(D.p:Int)*n:=by
  have:=Int.mul_nonneg (show(0:Int)≤(D.p:Int)by omega) hn
  omega
 refine(mem_plc ?_ rfl).trans hm
 have h0: ∀u,hi≤u→plc D.cs u=D.cs.length:=fun u hu=>by
  rcases he with⟨e,-,-⟩|⟨h1,h2,-,e⟩
  ·rw[List.eq_nil_of_length_eq_zero e]
   rfl
  refine Pd.plc_all fun c hc=> ?_
  obtain⟨i,hi',rfl⟩:=List.mem_iff_getElem.1 hc
  have:D.cs[i]≤D.cs[D.cs.length-1]:=by
   rcases Nat.lt_or_ge i (D.cs.length-1)with h|h
   ·exact Int.le_of_lt (List.pairwise_iff_getElem.1 hw.up i _ hi' h2 h)
   exact Int.le_of_eq (by congr 1;omega)
  omega
 rw[h0 _ (Int.le_trans hv hle),h0 _ hv]
theorem tw_least {z y:ZV}{b b2:Bool}{D:PD}(hw:Wf D)(hfg: ∀x,mem D x=g x)(h:LeF D w z b)(h2:LeE g w2 y b2):b=b2∧∃v,Zn w z.s z.a z.l z.c v∧Zn w2 y.s y.a y.l y.c v:=by
 obtain⟨⟨h1,h3⟩,h4⟩:=h
 obtain⟨k1,k3⟩:=h2
 cases b <;> cases b2
 ·obtain rfl:=h4 rfl
  obtain⟨rfl,-⟩:=k3 rfl
  exact⟨rfl,0,Pd.zn_zero w,Pd.zn_zero w2⟩
 ·exfalso
  obtain⟨u,a1,a2,-⟩:=k1 rfl
  obtain⟨lo,hi,he,⟨v,hv,hm⟩|hn⟩:=h3 rfl
  ·obtain⟨t,ht,hm⟩:=low_any hw he hv hm u
   rw[hfg,a1 t ht]at hm
   cases hm
  have:=hn u
  rw[hfg,a2]at this
  cases this
 ·exfalso
  obtain⟨v,a1,a2,-⟩:=h1 rfl
  obtain⟨-,hn|hn⟩:=k3 rfl
  ·obtain⟨u,hu,hm⟩:=hn v
   rw[←hfg,a1 u hu]at hm
   cases hm
  rw[hfg,hn]at a2
  cases a2
 obtain⟨v,a1,a2,a3,-⟩:=h1 rfl
 obtain⟨u,c1,c2,c3,-⟩:=k1 rfl
 obtain rfl:v=u:=by
  rcases Int.lt_trichotomy v u with h|h|h
  ·have:=c1 v h
   rw[←hfg,a2]at this
   cases this
  ·exact h
  have:=a1 u h
  rw[hfg,c2]at this
  cases this
 exact⟨rfl,v,a3,c3⟩
theorem cnt_wide {lo hi L H:Int}(h1:L≤lo)(h2:hi≤H)(h3:L≤H+1)(ha: ∀u,u<lo→f u=false)(hb: ∀u,hi<u→f u=false):cntI f lo hi=cntI f L H:=by
 unfold cntI
 by_cases h:lo≤hi+1
 ·have e:(H-L+1).toNat=(lo-L).toNat+((hi-lo+1).toNat+(H-hi).toNat):=by omega
  have e1:cntm f L (lo-L).toNat=0:=cntm_none fun k hk=>ha _ o_m
  have e2:cntm f (lo+((hi-lo+1).toNat:Int)) (H-hi).toNat=0:=cntm_none fun k hk=>hb _ o_m
  rw[e,cntm_add,cntm_add,show L+((lo-L).toNat:Int)=lo by omega,e1,e2]
  omega
 rw[show(hi-lo+1).toNat=0 by omega,cntm_none (n:=(H-L+1).toNat) fun k hk=> ?_]
 ·rfl
 by_cases e:L+(k:Int)<lo
 ·exact ha _ e
 exact hb _ o_m
theorem tw_finite {z y:ZV}{b b2:Bool}{D:PD}(hw:Wf D)(hfg: ∀x,mem D x=g x)(h:FiF D w z b)(h2:FiE g w2 y b2):b=b2∧∃v,Zn w z.s z.a z.l z.c v∧Zn w2 y.s y.a y.l y.c v:=by
 obtain⟨⟨h1,h4⟩,h3⟩:=h
 obtain⟨k1,k3⟩:=h2
 cases b <;> cases b2
 ·obtain rfl:=h4 rfl
  obtain⟨rfl,-⟩:=k3 rfl
  exact⟨rfl,0,Pd.zn_zero w,Pd.zn_zero w2⟩
 ·exfalso
  obtain⟨lo',hi',a1,a2,-⟩:=k1 rfl
  obtain⟨lo,hi,he,⟨v,hv,hm⟩|⟨v,hv,hm⟩⟩:=h3 rfl
  ·obtain⟨t,ht,hm⟩:=low_any hw he hv hm lo'
   rw[hfg,a1 t ht]at hm
   cases hm
  obtain⟨t,ht,hm⟩:=high_any hw he hv hm hi'
  rw[hfg,a2 t ht]at hm
  cases hm
 ·exfalso
  obtain⟨lo,hi,-,⟨a1,a2⟩,-⟩:=h1 rfl
  obtain⟨-,hn|hn⟩:=k3 rfl
  ·obtain⟨u,hu,hm⟩:=hn lo
   rw[←hfg,a1 u o_m]at hm
   cases hm
  obtain⟨u,hu,hm⟩:=hn hi
  rw[←hfg,a2 u hu]at hm
  cases hm
 obtain⟨lo,hi,-,⟨a1,a2⟩,a3⟩:=h1 rfl
 obtain⟨lo',hi',c1,c2,c3,-⟩:=k1 rfl
 have hf:mem D=g:=funext hfg
 rw[hf]at a1 a2 a3
 obtain⟨L,l1,l2⟩: ∃L:Int,L≤lo∧L≤lo':=⟨min lo lo',by omega,by omega⟩
 obtain⟨H,m1,m2,m3⟩: ∃H:Int,hi≤H∧hi'≤H∧L≤H:=⟨max (max hi hi') L,by omega,by omega,by omega⟩
 have e1:=cnt_wide (f:=g) l1 m1 o_m (fun u hu=>a1 u o_m) (fun u hu=>a2 u o_m)
 have e2:=cnt_wide (f:=g) l2 m2 o_m (fun u hu=>c1 u hu) (fun u hu=>c2 u o_m)
 rw[e1]at a3
 rw[e2]at c3
 exact⟨rfl,_,a3,c3⟩
end Cr
namespace Cr
open Pd (ZV PrF ZgF LsF cntI memI memI_len own_any zv_len)

variable {w w' w0:World}{F n F1 F2:Nat}{a:Option Addr}{x:Int}{xs:List Int}{e:Ending}{f:Int→Bool}
def HL (w:World)(F:Nat)(a:Option Addr)(n:Nat)(q:List ZV):Prop:=
 q.length=n∧∀i (h:i<q.length),∃g,a=some ⟨g,0,none⟩∧F≤g∧Pd.Own w g 38∧w.cell? ⟨g,i*2,none⟩=some (.bool q[i].s)∧w.cell? ⟨g,i*2+1,none⟩=some (.slice q[i].a q[i].l q[i].c)
theorem HL.keep {q:List ZV}(h:HL w F a n q)(hk: ∀g,F≤g→Pd.Own w g 38→w'.heap[g]? =w.heap[g]?):HL w' F a n q:=
 ⟨h.1,fun i hi=>by
  obtain⟨g,e,hF,ho,h1,h2⟩:=h.2 i hi
  have hb:=hk g hF ho
  obtain⟨cur,h0⟩:=ho
  exact⟨g,e,hF,⟨cur,hb.trans h0⟩,(World.cell?_of_block (a:=⟨g,i*2,none⟩) hb).trans h1,(World.cell?_of_block (a:=⟨g,i*2+1,none⟩) hb).trans h2⟩⟩
theorem HL.below {q:List ZV}(h:HL w F a n q)(k:Below w.heap.size w w'):HL w' F a n q:=h.keep fun g _ ho=>k.block g ho.lt
theorem HL.mono {G:Nat}{q:List ZV}(h:HL w G a n q)(hFG:F≤G):HL w F a n q:=
 ⟨h.1,fun i hi=>by
  obtain⟨g,e,hF,h1⟩:=h.2 i hi
  exact⟨g,e,Nat.le_trans hFG hF,h1⟩⟩
theorem hl_own {base:Nat}{v:Value}{q:List ZV}(h:w.ownsRow base 38 2 v n (Pd.encL ZV.enc q)): ∃a c,v= .slice a n c∧HL w base a n q:=by
 obtain⟨h1,a,c,rfl,-,-,h4⟩:=own_any (by decide) zv_len h
 refine⟨a,c,rfl,h1,fun i hi=> ?_⟩
 rcases h4 with⟨h4,-⟩|⟨g,e,hb,ho,-,hc⟩
 ·omega
 refine⟨g,e,hb,ho,?_,?_⟩
 ·have:=hc i hi 0 (by decide)
  rwa [Nat.add_zero]at this
 exact hc i hi 1 (by decide)
theorem hl_oi {base:Nat}{v:Value}{q:List ZV}(h:OI w base v n q): ∃a c,v= .slice a n c∧HL w base a n q:=by
 rcases h with⟨rfl,rfl,rfl⟩|h
 ·exact⟨none,0,rfl,rfl,fun i hi=>absurd hi (Nat.not_lt_zero _)⟩
 exact hl_own h.own
theorem zn_keep {s:Bool}{l c:Nat}(h:Zn w s a l c x)(hlo:Lv.Lo F a l)(hs:w.heap.size≤w'.heap.size)(hb: ∀g,F≤g→g<w.heap.size→w'.heap[g]? =w.heap[g]?):Zn w' s a l c x:=by
 obtain⟨n,⟨xs,⟨h1,h2,h3,h4,h5⟩,hc,hv⟩,hsg,hn⟩:=h
 refine⟨n,⟨xs,⟨h1,h2,h3,h4,h5.imp id ?_⟩,hc,hv⟩,hsg,hn⟩
 rintro⟨a0,ha,h6⟩
 refine⟨a0,ha,?_⟩
 rcases Nat.eq_zero_or_pos l with h0|h0
 ·exact .inl h0
 rcases h6 with h6|⟨b,off,rfl,hbl,hcell⟩
 ·exact .inl h6
 refine .inr ⟨b,off,rfl,Nat.lt_of_lt_of_le hbl hs,fun i hi=> ?_⟩
 have hF:F≤b:=by
  rcases hlo with h9|⟨b',off',e,h9⟩
  ·omega
  rw[ha]at e
  cases e
  exact h9
 exact(World.cell?_of_block (a:=⟨b,off+i,none⟩) (hb b hF hbl)).trans (hcell i hi)
theorem Pz.keep {q:List ZV}(h:Pz F w q xs)(hs:w.heap.size≤w'.heap.size)(hb: ∀g,F≤g→g<w.heap.size→w'.heap[g]? =w.heap[g]?):Pz F w' q xs:=
 ⟨h.len,fun i h1 h2=>⟨zn_keep (h.nu i h1 h2).1 (h.nu i h1 h2).2 hs hb,(h.nu i h1 h2).2⟩⟩
theorem zf_lo {z:ZV}(h:ZgF F w z x):Lv.Lo F z.a z.l:=by
 obtain⟨n,⟨⟨xs,hr,-⟩,-,hf⟩,-⟩:=h.zn
 rcases hf with⟨-,hf⟩|⟨b,ys,e,h0,-⟩
 ·have:=hr.2.1
  exact .inl o_m
 exact .inr ⟨b,0,e,h0⟩
theorem prf_pz {q:List ZV}(h:PrF F w q xs):Pz F w q xs:=⟨h.len,fun i h1 h2=>⟨(h.nu i h1 h2).zn.zn,zf_lo (h.nu i h1 h2)⟩⟩
def SpR (F1 F2:Nat)(w0 w:World)(q:List ZV):Prop:=∀z∈q,z.l=0∨ ∃b xs,z.a=some ⟨b,0,none⟩∧F1≤b∧b<F2∧Pd.Own w0 b 60∧Row w b xs∧z.l≤xs.length∧xs.length≤9223372036854775807
theorem sp_prf {q:List ZV}(h:PrF F w q xs):SpR F w.heap.size w w q:=fun z hz=>by
 obtain⟨i,hi,rfl⟩:=List.mem_iff_getElem.1 hz
 obtain⟨n,⟨⟨ys,hr,-⟩,-,hf⟩,-⟩:=(h.nu i hi (by rw[←h.len];exact hi)).zn
 have hle:=hr.2.1
 rcases hf with⟨-,hf⟩|⟨b,zs,e,h0,hrow,hl,hl2⟩
 ·exact .inl o_m
 exact .inr ⟨b,zs,e,h0,(Array.getElem?_eq_some_iff.1 hrow).1,⟨_,hrow⟩,hrow,by omega,by omega⟩
theorem SpR.below {q:List ZV}(h:SpR F1 F2 w0 w q)(k:Below w.heap.size w w'):SpR F1 F2 w0 w' q:=fun z hz=>(h z hz).imp id fun⟨b,xs,e,h1,h2,h3,h4,h5⟩=>⟨b,xs,e,h1,h2,h3,(k.block b (Array.getElem?_eq_some_iff.1 h4).1).trans h4,h5⟩
theorem SpR.base {q:List ZV}(h:SpR F1 F2 w0 w0 q)(k:Below w0.heap.size w0 w):SpR F1 F2 w w q:=fun z hz=>(h z hz).imp id fun⟨b,xs,e,h1,h2,_,h4,h5⟩=>
 have hr:=(k.block b (Array.getElem?_eq_some_iff.1 h4).1).trans h4
 ⟨b,xs,e,h1,h2,⟨_,hr⟩,hr,h5⟩
theorem SpR.set {b i:Nat}{q:List ZV}(h:SpR F1 F2 w0 w q)(x:Int):SpR F1 F2 w0 (w.setCell ⟨b,i,none⟩ (.int .u32 x)) q:=fun z hz=>(h z hz).imp id fun⟨b',xs,e,h1,h2,h3,h4,h5⟩=>by
 by_cases hb:b'=b
 ·subst hb
  exact⟨b',xs.set i x,e,h1,h2,h3,h4.set i x,by rw[List.length_set];exact h5⟩
 exact⟨b',xs,e,h1,h2,h3,((Only.set b i w (.int .u32 x)).block b' hb).trans h4,h5⟩
structure KS (F1 F2:Nat) (w w':World):Prop where
 os:w'.os=w.os
 tape:w'.tape=w.tape
 output:w'.output=w.output
 size:w.heap.size≤w'.heap.size
 blk: ∀k,k<w.heap.size→(k<F1∨F2≤k∨ ¬Pd.Own w k 60)→w'.heap[k]? =w.heap[k]?
theorem KS.refl (F1 F2:Nat)(w:World):KS F1 F2 w w:=⟨rfl,rfl,rfl,Nat.le_refl _,fun _ _ _=>rfl⟩
theorem KS.below {w'':World}(h:KS F1 F2 w w')(k:Below w'.heap.size w' w''):KS F1 F2 w w'':=
 ⟨k.os.trans h.os,k.tape.trans h.tape,k.output.trans h.output,Nat.le_trans h.size k.size,fun i h1 h2=>(k.block i (Nat.lt_of_lt_of_le h1 h.size)).trans (h.blk i h1 h2)⟩
theorem KS.bel (h:KS F1 F2 w w')(hF:F1≤w.heap.size):Below F1 w w':=⟨h.os,h.tape,h.output,h.size,fun k hk=>h.blk k (Nat.lt_of_lt_of_le hk hF) (.inl hk)⟩
theorem KS.set {b i:Nat}(h:KS F1 F2 w w')(h1:F1≤b)(h2:b<F2)(h3:Pd.Own w b 60)(v:Value):KS F1 F2 w (w'.setCell ⟨b,i,none⟩ v):=by
 have o:=Only.set b i w' v
 refine⟨o.os.trans h.os,o.tape.trans h.tape,o.output.trans h.output,Nat.le_trans h.size (Nat.le_of_eq o.size.symm),fun k hk hc=>(o.block k fun e=> ?_).trans (h.blk k hk hc)⟩
 subst e
 rcases hc with hc|hc|hc
 ·omega
 ·omega
 exact hc h3
theorem HL.ks {q:List ZV}(h:HL w F a n q)(k:KS F1 F2 w w'):HL w' F a n q:=h.keep fun g _ ho=>k.blk g ho.lt (.inr (.inr fun⟨cur,h9⟩=>by
 obtain⟨cur2,h8⟩:=ho
 rw[h8]at h9
 have e:=Option.some.inj h9
 injection e with _ e
 exact absurd e (by decide)))
theorem Pz.ks {q:List ZV}(h:Pz F w q xs)(k:KS F1 F2 w w')(hF:F2≤F):Pz F w' q xs:=h.keep k.size fun g h1 h2=>k.blk g h2 (.inr (.inl o_m))
theorem tw_get {w2:World}{z y:ZV}{b b2:Bool}(h:Twin w w2 (.returned (.tuple #[.agg #[.bool z.s,.slice z.a z.l z.c],.bool b])) (.returned (.tuple #[.agg #[.bool y.s,.slice y.a y.l y.c],.bool b2]))):b=b2∧∃v,Zn w z.s z.a z.l z.c v∧Zn w2 y.s y.a y.l y.c v:=by
 obtain⟨z',y',b',v,e1,e2,h1,h2⟩:=h
 simp at e1 e2
 obtain⟨⟨a1,a2,a3,a4⟩,rfl⟩:=e1
 obtain⟨⟨c1,c2,c3,c4⟩,rfl⟩:=e2
 rw[←a1,←a2,←a3,←a4]at h1
 rw[←c1,←c2,←c3,←c4]at h2
 exact⟨rfl,v,h1,h2⟩
theorem LtE.one {B:Nat}(h:LtE w' e f x B): ∃(z:ZV) (b:Bool),e= .returned (.tuple #[.agg #[.bool z.s,.slice z.a z.l z.c],.bool b]):=by
 rcases h with⟨v,z,-,-,-,h,-⟩|⟨-,h⟩
 ·exact⟨z,true,h⟩
 exact⟨⟨false,none,0,0⟩,false,h⟩
structure L3 (F1 F2:Nat) (w:World) (aa ab ac:Option Addr) (n:Nat) (qa qb qc:List ZV) (xs:List Int):Prop where
 ha:HL w F1 aa n qa
 hb:HL w F2 ab n qb
 hc:HL w F2 ac n qc
 pb:Pz F2 w qb xs
 pc:Pz F2 w qc xs
 ln:n=xs.length
theorem L3.below {aa ab ac:Option Addr}{qa qb qc:List ZV}(h:L3 F1 F2 w aa ab ac n qa qb qc xs)(k:Below w.heap.size w w'):L3 F1 F2 w' aa ab ac n qa qb qc xs:=
 ⟨h.ha.below k,h.hb.below k,h.hc.below k,h.pb.below k,h.pc.below k,h.ln⟩
theorem L3.ks {aa ab ac:Option Addr}{qa qb qc:List ZV}(h:L3 F1 F2 w aa ab ac n qa qb qc xs)(k:KS F1 F2 w w'):L3 F1 F2 w' aa ab ac n qa qb qc xs:=
 ⟨h.ha.ks k,h.hb.ks k,h.hc.ks k,h.pb.ks k (Nat.le_refl _),h.pc.ks k (Nat.le_refl _),h.ln⟩
theorem HL.at {q:List ZV}(h:HL w F a n q){i:Nat}(hi:i<n): ∃g z,a=some ⟨g,0,none⟩∧F≤g∧g<w.heap.size∧(∃hq:i<q.length,q[i]=z)∧w.cell? ⟨g,i*2,none⟩=some (.bool (ZV.s z))∧w.cell? ⟨g,i*2+1,none⟩=some (.slice z.a z.l z.c):=by
 obtain⟨hl,hc⟩:=h
 obtain⟨g,e,hF,ho,h1,h2⟩:=hc i o_m
 exact⟨g,_,e,hF,ho.lt,⟨by omega,rfl⟩,h1,h2⟩
theorem HL.same {g:Nat}{q:List ZV}(h:HL w F (some ⟨g,0,none⟩) n q){i:Nat}(_hi:i<n){z:ZV}(hz: ∃hq:i<q.length,q[i]=z):Pd.Own w g 38∧w.cell? ⟨g,i*2,none⟩=some (.bool z.s)∧w.cell? ⟨g,i*2+1,none⟩=some (.slice z.a z.l z.c):=by
 obtain⟨hq,rfl⟩:=hz
 obtain⟨g',e,-,h1,h2,h3⟩:=h.2 i hq
 cases e
 exact⟨h1,h2,h3⟩
theorem Pz.at {q:List ZV}(h:Pz F w q xs){i:Nat}{z:ZV}(hz: ∃hq:i<q.length,q[i]=z)(hx:i<xs.length):Zn w z.s z.a z.l z.c xs[i]:=by
 obtain⟨hq,rfl⟩:=hz
 exact(h.nu i hq hx).1
theorem SpR.at {q:List ZV}(h:SpR F1 F2 w0 w q){i:Nat}{z:ZV}(hz: ∃hq:i<q.length,q[i]=z):z.l=0∨ ∃b xs,z.a=some ⟨b,0,none⟩∧F1≤b∧b<F2∧Pd.Own w0 b 60∧Row w b xs∧z.l≤xs.length∧xs.length≤9223372036854775807:=by
 obtain⟨hq,rfl⟩:=hz
 exact h _ (List.getElem_mem hq)
def LsU (w w':World)(e:Ending)(er:Int)(xs:List Int)(N:List ZV→Prop):Prop:=∃a n c q,e= .returned (.tuple #[.slice a n c,.int .i64 er])∧n≤1000∧n=xs.length∧HL w' w.heap.size a n q∧N q∧Below w.heap.size w w'
def lsE (f:Int→Bool)(lo hi:Int):Int:=if 1000<cntI f lo hi then 2 else 0
def lsX (f:Int→Bool)(lo hi:Int):List Int:=if 1000<cntI f lo hi then []else memI f lo hi
theorem ls_u {lo hi:Int}(h:LsF w f lo hi e w'):LsU w w' e (lsE f lo hi) (lsX f lo hi) (fun q=>PrF w.heap.size w' q (lsX f lo hi)):=by
 obtain⟨k,⟨v,n,q,rfl,hn,ho,hp⟩|⟨rfl,hl⟩⟩:=h
 ·obtain⟨a,c,rfl,hh⟩:=hl_own ho
  have hq:q.length=n:=hh.1
  have hle: ¬1000<cntI f lo hi:=by have:=hp.len;rw[memI_len]at this;omega
  unfold lsE lsX
  rw[if_neg hle,if_neg hle]
  exact⟨a,n,c,q,rfl,hn,by rw[←hp.len];exact hq.symm,hh.mono o_m,hp,k⟩
 unfold lsE lsX
 rw[if_pos hl,if_pos hl]
 exact⟨none,0,0,[],rfl,by omega,rfl,⟨rfl,fun i hi=>absurd hi (Nat.not_lt_zero _)⟩,Pd.prf_nil _ _,k⟩
theorem ls_v {lo hi:Int}(h:LsE w w' e f lo hi):LsU w w' e (lsE f lo hi) (lsX f lo hi) (fun q=>Pz w.heap.size w' q (lsX f lo hi)):=by
 obtain⟨k,⟨v,n,q,rfl,hn,ho,hp⟩|⟨rfl,hl⟩⟩:=h
 ·obtain⟨a,c,rfl,hh⟩:=hl_oi ho
  have hq:q.length=n:=hh.1
  have hle: ¬1000<cntI f lo hi:=by have:=hp.len;rw[memI_len]at this;omega
  unfold lsE lsX
  rw[if_neg hle,if_neg hle]
  exact⟨a,n,c,q,rfl,hn,by rw[←hp.len];exact hq.symm,hh,hp,k⟩
 unfold lsE lsX
 rw[if_pos hl,if_pos hl]
 exact⟨none,0,0,[],rfl,by omega,rfl,⟨rfl,fun i hi=>absurd hi (Nat.not_lt_zero _)⟩,pz_nil _ _,k⟩
end Cr
namespace Cr
open Pd (SV ZV PD mem PrF MLs MkD PS Iw SLs pkN pkN_lt sets19_n known19_n pick19_n next_n last_n Count_n List_f Finite_f Least_f ints19_zn al_b)

variable {w:World}{b6 b7 b11 bS:Nat}{lo hi:Int}
structure CD (w:World) (b6 b7 b11 bS:Nat) (za zb:ZV) (v:SV) (D:PD) (E:RE) (lo hi:Int):Prop where
 y6:ZB w b6 za.s za.a za.l za.c
 y7:ZB w b7 zb.s zb.a zb.l zb.c
 ha:Zm w za.s za.a za.l za.c lo
 hb:Zm w zb.s zb.a zb.l zb.c hi
 yt:SBr w b11 E.p v
 hE:RS w v E
 pD:PS w bS D
 sm:Sim D E
 cs:D.cs.length≤4096
 cn:v.cn≤4096
theorem CD.below {w':World}{za zb:ZV}{v:SV}{D:PD}{E:RE}(h:CD w b6 b7 b11 bS za zb v D E lo hi)(k:Below w.heap.size w w'):CD w' b6 b7 b11 bS za zb v D E lo hi:=
 ⟨h.y6.below k,h.y7.below k,h.ha.below k,h.hb.below k,h.yt.below k,h.hE.below k,h.pD.below k,h.sm,h.cs,h.cn⟩
theorem list_cd {za zb:ZV}{v:SV}{D:PD}{E:RE}(h:CD w b6 b7 b11 bS za zb v D E lo hi)(hal:za.l≤1048576)(hbl:zb.l≤1048576):
  Calls Tryz.prog 22 #[.pointer (some ⟨bS,0,none⟩),.agg #[.bool za.s,.slice za.a za.l za.c],.agg #[.bool zb.s,.slice zb.a zb.l zb.c]] w fun e w'=>LsU w w' e (lsE (mem D) lo hi) (lsX (mem D) lo hi) (fun q=>PrF w.heap.size w' q (lsX (mem D) lo hi)):=
 (List_f h.pD (by have:=h.cs;omega) h.ha o_m h.hb o_m).mono fun _ _ h=>ls_u h
theorem list19_cd {za zb:ZV}{v:SV}{D:PD}{E:RE}(h:CD w b6 b7 b11 bS za zb v D E lo hi)(hal:za.l≤1048576)(hbl:zb.l≤1048576):
  Calls Tryz.prog 23 #[.agg #[.int .i64 E.p,.slice v.ca v.cn v.cc,.slice v.ra v.rn v.rc],.agg #[.bool za.s,.slice za.a za.l za.c],.agg #[.bool zb.s,.slice zb.a zb.l zb.c]] w fun e w'=>LsU w w' e (lsE (mem D) lo hi) (lsX (mem D) lo hi) (fun q=>Pz w.heap.size w' q (lsX (mem D) lo hi)):=
 (list19_n h.hE (by have:=h.cn;omega) h.ha o_m h.hb o_m).mono fun _ _ h'=>by
  rw[show mm E=mem D from funext fun x=>(h.sm.has x).symm]at h'
  exact ls_v h'
theorem censusDoes_walk {la:Option Addr}{ln lc:Nat}{R0:List MkD}{k:Int}{za zb zc:ZV}(hR0:MLs w la ln R0)(hn:ln≤1048576)(hk:Iw k)(ha:Zm w za.s za.a za.l za.c lo)(hal:za.l≤1048576)(hb:Zm w zb.s zb.a zb.l zb.c hi)(hbl:zb.l≤1048576):
  Calls Tryz.prog 4 #[.slice la ln lc,.agg #[.int .i64 k,.bool za.s,.slice za.a za.l za.c,.bool zb.s,.slice zb.a zb.l zb.c,.bool zc.s,.slice zc.a zc.l zc.c]] w fun e w'=>e= .returned (.bool true)∧Below w.heap.size w w':=by
 have b0:=below_alloc w (.cells #[.int .i64 k,.bool za.s,.slice za.a za.l za.c,.bool zb.s,.slice zb.a zb.l zb.c,.bool zc.s,.slice zc.a zc.l zc.c] 49)
 have y0:=heap_alloc_new w (.cells #[.int .i64 k,.bool za.s,.slice za.a za.l za.c,.bool zb.s,.slice zb.a zb.l zb.c,.bool zc.s,.slice zc.a zc.l zc.c] 49)
 obtain⟨k0,k1⟩:=hk
 replace hR0:=hide (hR0.below b0)
 replace ha:=hide (ha.below b0)
 replace hb:=hide (hb.below b0)
 have q0:=cell_of_row _ _ 0 _ _ (0,0) y0
 have q1:=cell_of_row _ _ 1 _ _ (0,0) y0
 have q2:=cell_of_row _ _ 2 _ _ (0,0) y0
 have q3:=cell_of_row _ _ 3 _ _ (0,0) y0
 have q4:=cell_of_row _ _ 4 _ _ (0,0) y0
 have hbt:w.heap.size<(w.alloc (.cells #[.int .i64 k,.bool za.s,.slice za.a za.l za.c,.bool zb.s,.slice zb.a zb.l zb.c,.bool zc.s,.slice zc.a zc.l zc.c] 49)).heap.size:=by simp
 replace b0:=hide b0
 clear y0
 go_enter Tryz.func4,Tryz.ntmps4
 go_upto_region 1 with(fail)
 generalize w.alloc (.cells #[.int .i64 k,.bool za.s,.slice za.a za.l za.c,.bool zb.s,.slice zb.a zb.l zb.c,.bool zc.s,.slice zc.a zc.l zc.c] 49)=w0 at*
 obtain⟨bt,hbw⟩: ∃bt,w.heap.size=bt:=⟨_,rfl⟩
 rw[hbw]at q0 q1 q2 q3 q4 hbt ⊢
 replace hbw:=hide hbw
 go_cut [5,6,7] (fun v5 v6 v7 wc=> ∃(b6 b7:Nat),v5= .int .i64 k∧v6= .pointer (some ⟨b6,0,none⟩)∧v7= .pointer (some ⟨b7,0,none⟩)∧Hid (ZB wc b6 za.s za.a za.l za.c)∧Hid (ZB wc b7 zb.s zb.a zb.l zb.c)∧Hid (Below w0.heap.size w0 wc))
 case first=>
  refine wp_region_held_drew (S:=(fun w'=>w'.cell? ⟨bt,0,none⟩=some (.int .i64 k)∧w'.cell? ⟨bt,1,none⟩=some (.bool za.s)∧w'.cell? ⟨bt,2,none⟩=some (.slice za.a za.l za.c)∧w'.cell? ⟨bt,3,none⟩=some (.bool zb.s)∧w'.cell? ⟨bt,4,none⟩=some (.slice zb.a zb.l zb.c))) k_f (⟨(Below.cell (p:=⟨bt,0,none⟩) (grow_drew (Below.refl _ _)) hbt).trans q0,(Below.cell (p:=⟨bt,1,none⟩) (grow_drew (Below.refl _ _)) hbt).trans q1,(Below.cell (p:=⟨bt,2,none⟩) (grow_drew (Below.refl _ _)) hbt).trans q2,(Below.cell (p:=⟨bt,3,none⟩) (grow_drew (Below.refl _ _)) hbt).trans q3,(Below.cell (p:=⟨bt,4,none⟩) (grow_drew (Below.refl _ _)) hbt).trans q4⟩) (fun hHeld=> ?_)
  show wpAnyH _ _ _ _ _ 11 _ _ _
  have kW:=grow_drew (Below.refl w0.heap.size w0)
  generalize w0.drew=wQ at*
  repeat' first
   |with_reducible exact AllReadyH.nil
   |(
    refine tkz 0 26 ?_
    (try simp only[pz]))
   |(
    refine tkz 1 27 ?_
    (try simp only[pz]))
   |(
    refine tkz 2 28 ?_
    (try simp only[pz]))
   |(
    refine tkz 3 29 ?_
    (try simp only[pz]))
   |(
    refine tkz 4 30 ?_
    (try simp only[pz]))
   |(
    refine tkz 5 31 ?_
    (try simp only[pz]))
   |(
    refine tkz 8 5 ?_
    (try simp only[pz]))
   |(refine wpAnyH_ready (rs:=[6,7]) ?_ ?_ ?_;decide+kernel;simp)
   |(refine wpAnyH_ready (rs:=[7]) ?_ ?_ ?_;decide+kernel;simp)
   |(refine wpAnyH_ready (rs:=[9]) ?_ ?_ ?_;decide+kernel;simp)
   |(refine wpAnyH_ready (rs:=[10]) ?_ ?_ ?_;decide+kernel;simp)
   |(refine wpAnyH_ready (rs:=[6]) ?_ ?_ ?_;decide+kernel;simp)
   |(
    first
     |(
      refine AllReadyH.cons (i:=6) (o:=⟨some 6,_,_,_,_,_⟩) rfl (fun K hK=> ?_) ?_
      obtain⟨wL,b6,eL,eb6,z6,hb6,kL,kW⟩:=al_b kW (.cells #[.bool false,.slice none 0 0] 38)
      try have hne:b6≠b7:=by have:=z7.lt;have:=eb6.out;omega
      replace z6:ZB wL b6 false none 0 0:=z6
      try have z7:=z7.below kL
      go_simp
      rw[eL.out]
      (try simp only[eb6.out]))
     |(
      refine AllReadyH.cons (i:=7) (o:=⟨some 7,_,_,_,_,_⟩) rfl (fun K hK=> ?_) ?_
      obtain⟨wL,b7,eL,eb7,z7,hb7,kL,kW⟩:=al_b kW (.cells #[.bool false,.slice none 0 0] 38)
      try have hne:b6≠b7:=by have:=z6.lt;have:=eb7.out;omega
      replace z7:ZB wL b7 false none 0 0:=z7
      try have z6:=z6.below kL
      go_simp
      rw[eL.out]
      (try simp only[eb7.out]))
     |(
      refine AllReadyH.cons (i:=9) (o:=⟨none,_,_,_,_,_⟩) rfl (fun K hK=> ?_) ?_
      have f0:=z6.c0
      have f1:=z6.c1
      have f2:=z6.f 0
      have f3:=z6.f 1
      obtain⟨w8x,e8,z6,kZ,hzn,hzb⟩:=fst_z kW hb6 z6 za.s za.a za.l za.c
      have z7:=hzb _ _ _ _ _ hne.symm z7
      go_simp
      rw[e8.out]
      clear f0 f1 f2 f3 hzn hzb
      have kW:=kZ)
     |(
      refine AllReadyH.cons (i:=10) (o:=⟨none,_,_,_,_,_⟩) rfl (fun K hK=> ?_) ?_
      have f0:=z7.c0
      have f1:=z7.c1
      have f2:=z7.f 0
      have f3:=z7.f 1
      obtain⟨w8x,e8,z7,kZ,hzn,hzb⟩:=fst_z kW hb7 z7 zb.s zb.a zb.l zb.c
      have z6:=hzb _ _ _ _ _ hne z6
      go_simp
      rw[e8.out]
      clear f0 f1 f2 f3 hzn hzb
      have kW:=kZ)
    refine hK.out _ _ ?_ ?_
    ·first|with_reducible exact trivial|((try dsimp only);exact⟨(Below.cell (p:=⟨bt,0,none⟩) kW hbt).trans q0,(Below.cell (p:=⟨bt,1,none⟩) kW hbt).trans q1,(Below.cell (p:=⟨bt,2,none⟩) kW hbt).trans q2,(Below.cell (p:=⟨bt,3,none⟩) kW hbt).trans q3,(Below.cell (p:=⟨bt,4,none⟩) kW hbt).trans q4⟩)
    clear hK K hHeld;intro hHeld
    (try simp only[pz]))
  all_goals
   refine wpAnyH_done ?_ ?_ _
   ·decide+kernel
   have y1:=hide z6
   have y2:=hide z7
   have y4:=hide kW
   clear kW hHeld z6 z7
   go_wp2_with fail
   go_meet
   case rel=>exact⟨b6,b7,rfl,rfl,rfl,y1,y2,y4⟩
 case rest=>
 obtain⟨b6,b7,rfl,rfl,rfl,y6,y7,kw⟩:=hcut
 generalize wc=w1 at*
 have hset:=hide (sets19_n (lc:=lc) (hR0.out.below kw.out) hn)
 replace hR0:=hide (hR0.out.below kw.out)
 replace ha:=hide (ha.out.below kw.out)
 replace hb:=hide (hb.out.below kw.out)
 replace kw:Hid (Below w.heap.size w w1):=hide (grow_step kw.out b0.out)
 clear b0 q0 q1 q2 q3 q4 hbt
 go_wp2_with fail
 refine hset.out.mono ?_
 rintro e w2 ⟨sa,sn,sc,Ds,rfl,hsa,hsl,hs1,hs2,hcs,hblt,kN⟩
 obtain⟨ba,hbal,rfl,-⟩:=hsl.get (i:=0) hs1 (by have:=hsl.1;omega)
 have hbu:=hide (build_n (lc:=lc) (hR0.out.below kN) hn)
 replace ha:=hide (ha.out.below kN)
 replace hb:=hide (hb.out.below kN)
 replace y6:=hide (y6.out.below kN)
 replace y7:=hide (y7.out.below kN)
 replace kw:=hide (grow_step kN kw.out)
 clear hsa hset kN hR0
 replace hsl:=hide hsl
 replace hcs:=hide hcs
 go_wp2_with fail
 refine hbu.out.mono ?_
 rintro e w3 ⟨ra,rn,rc,Es,rfl,hrl,hr1,-,hcsE,hbltE,kN⟩
 obtain⟨hds,hsim⟩:=sim_blt _ hblt hbltE (fun E hE=>by
  obtain⟨i,hi,rfl⟩:=List.mem_iff_getElem.1 hE
  obtain⟨_,_,_,_,_,_,_,h⟩:=hrl.2 i (by rw[←hrl.1];exact hi) hi
  exact h.wf)
 obtain rfl:rn=sn:=by rw[←hrl.1,←hsl.out.1,hsim.1]
 have hkn:=hide (known19_n w3)
 have hnil: ∀W:World,(binOp .eql 27 (.slice (some ⟨ba,0,none⟩) rn sc) (.slice none 0 0)).run Tryz.prog W= .ok (.bool false) W:=fun W=>Go.Lib.run_eql_slice_some_nil W _ _ _ Tryz.underlying27
 replace ha:=hide (ha.out.below kN)
 replace hb:=hide (hb.out.below kN)
 replace y6:=hide (y6.out.below kN)
 replace y7:=hide (y7.out.below kN)
 replace hsl:=hide (hsl.out.below kN)
 replace kw:=hide (grow_step kN kw.out)
 replace hrl:=hide hrl
 replace hcsE:=hide hcsE
 replace hsim:=hide hsim
 clear hbu kN hblt hbltE
 go_wp2_with fail
 refine hkn.out.mono ?_
 rintro e w4 ⟨rfl,kN⟩
 replace ha:=hide (ha.out.below kN)
 replace hb:=hide (hb.out.below kN)
 replace y6:=hide (y6.out.below kN)
 replace y7:=hide (y7.out.below kN)
 have hs:=hsl.out.below kN
 have hr:=hrl.out.below kN
 replace kw:=hide (grow_step kN kw.out)
 have hl:=hs.1
 have hlr:=hr.1
 have hji:=pkN_lt (c:=k) (n:=(rn:Int)) o_m
 have hci:=fun u:World=>hide (pick19_n k rn k0 k1 o_m o_m u)
 obtain⟨xi,hxi⟩: ∃xi,pkN k (rn:Int)=xi:=⟨_,rfl⟩
 rw[hxi]at hji hci
 obtain⟨yi,hyi⟩: ∃yi:Nat,(rn:Int)-1-(xi:Int)=(yi:Int):=⟨rn-1-xi,by omega⟩
 obtain⟨_,bS,e1,hba,dA,pD⟩:=hs.get (i:=yi) o_m o_m
 cases e1
 obtain⟨bE,v,rfl,hbE,d0,d1,d2,hE⟩:=hr.2 yi o_m o_m
 have hcD:=hcs.out _ (List.getElem_mem (show yi<Ds.length by omega))
 have hcE:=hcsE.out _ (List.getElem_mem (show yi<Es.length by omega))
 have hsm:=hsim.out.2 yi o_m
 rw[List.getD_eq_getElem?_getD,List.getD_eq_getElem?_getD,List.getElem?_eq_getElem (show yi<Ds.length by omega),List.getElem?_eq_getElem (show yi<Es.length by omega)]at hsm
 simp only[Option.getD_some]at hsm
 have hsm:=hide hsm
 generalize Ds[yi]'o_m=D at*
 generalize Es[yi]'o_m=E at*
 have hcv:v.cn≤4096:=by have:=hE.cn;omega
 replace pD:=hide pD
 replace hE:=hide hE
 clear hkn hsl kN hs hl hlr hr hrl hcs hcsE hsim hxi
 go_wp2_with fail
 refine(hci w4).out.mono ?_
 rintro e w5 ⟨rfl,kN⟩
 have gA:=(kN.cell (p:=⟨ba,yi,none⟩) hba).trans dA
 have g0:=(kN.cell (p:=⟨bE,yi*3,none⟩) hbE).trans d0
 have g1:=(kN.cell (p:=⟨bE,yi*3+1,none⟩) hbE).trans d1
 have g2:=(kN.cell (p:=⟨bE,yi*3+2,none⟩) hbE).trans d2
 replace hbE:=Nat.lt_of_lt_of_le hbE kN.size
 replace ha:=hide (ha.out.below kN)
 replace hb:=hide (hb.out.below kN)
 replace y6:=hide (y6.out.below kN)
 replace y7:=hide (y7.out.below kN)
 replace pD:=hide (pD.out.below kN)
 replace hE:=hide (hE.out.below kN)
 replace kw:=hide (grow_step kN kw.out)
 clear dA hba kN hnil d0 d1 d2
 go_upto_region 7 with(fail)
 go_wp2_with fail
 refine(hci w5).out.mono ?_
 rintro e w6 ⟨rfl,kN⟩
 have g0:=(kN.cell (p:=⟨bE,yi*3,none⟩) hbE).trans g0
 have g1:=(kN.cell (p:=⟨bE,yi*3+1,none⟩) hbE).trans g1
 have g2:=(kN.cell (p:=⟨bE,yi*3+2,none⟩) hbE).trans g2
 have kA:=grow_step (below_alloc w6 (.cells #[.int .i64 E.p,.slice v.ca v.cn v.cc,.slice v.ra v.rn v.rc] 30)) kN
 have hC:Hid (CD (w6.alloc (.cells #[.int .i64 E.p,.slice v.ca v.cn v.cc,.slice v.ra v.rn v.rc] 30)) b6 b7 w6.heap.size bS za zb v D E lo hi):=hide ⟨y6.out.below kA,y7.out.below kA,ha.out.below kA,hb.out.below kA,sbr_new w6 E.p v,hE.out.below kA,pD.out.below kA,hsm.out,hcD,hcv⟩
 replace kw:=hide (grow_step kA kw.out)
 clear hci kA kN ha hb y6 y7 hE pD gA hbE hsm hcE
 go_upto_region 8 with(fail)
 generalize w6.alloc (.cells #[.int .i64 E.p,.slice v.ca v.cn v.cc,.slice v.ra v.rn v.rc] 30)=w7 at*
 obtain⟨b11,hb11⟩: ∃c,w6.heap.size=c:=⟨_,rfl⟩
 rw[hb11]at hC ⊢
 clear hb11 g0 g1 g2 hji hyi hsm
 have hme:Hid (mm E=mem D):=hide (funext fun x=>(hC.out.sm.has x).symm)
 have hcs:D.cs.length≤1073741823:=by omega
 have hcn:v.cn≤134217728:=by omega
 have hco:=hide (Count_n hC.out.pD hcs hC.out.ha o_m hC.out.hb o_m)
 have c0:=hC.out.y6.c0
 have c1:=hC.out.y6.c1
 have c2:=hC.out.y7.c0
 have c3:=hC.out.y7.c1
 go_wp2_with fail
 refine hco.out.mono ?_
 rintro e w8 ⟨zk,rfl,hzk,-,kN⟩
 have kA:=grow_step (below_alloc w8 (.cells #[.bool zk.s,.slice zk.a zk.l zk.c] 38)) kN
 have yk:=hide (zb_new w8 zk.s zk.a zk.l zk.c)
 replace hzk:=hide (hzk.below (below_alloc w8 (.cells #[.bool zk.s,.slice zk.a zk.l zk.c] 38)))
 replace hC:=hide (hC.out.below kA)
 replace kw:=hide (grow_step kA kw.out)
 clear hco kA kN c0 c1 c2 c3
 go_upto_region 9 with(fail)
 generalize w8.alloc (.cells #[.bool zk.s,.slice zk.a zk.l zk.c] 38)=w9 at*
 obtain⟨b12,hb12⟩: ∃c,w8.heap.size=c:=⟨_,rfl⟩
 rw[hb12]at yk ⊢
 clear hb12
 refine wp_region_held_drew (S:=(fun w'=>(w'.cell? ⟨b12,0,none⟩=some (.bool zk.s)∧w'.cell? ⟨b12,1,none⟩=some (.slice zk.a zk.l zk.c))∧(w'.cell? ⟨b6,0,none⟩=some (.bool za.s)∧w'.cell? ⟨b6,1,none⟩=some (.slice za.a za.l za.c))∧(w'.cell? ⟨b7,0,none⟩=some (.bool zb.s)∧w'.cell? ⟨b7,1,none⟩=some (.slice zb.a zb.l zb.c))∧(w'.cell? ⟨b11,0,none⟩=some (.int .i64 E.p)∧w'.cell? ⟨b11,1,none⟩=some (.slice v.ca v.cn v.cc)∧w'.cell? ⟨b11,2,none⟩=some (.slice v.ra v.rn v.rc)))) k_f (⟨⟨(yk.out.below (grow_drew (Below.refl _ _))).c0,(yk.out.below (grow_drew (Below.refl _ _))).c1⟩,⟨(hC.out.y6.below (grow_drew (Below.refl _ _))).c0,(hC.out.y6.below (grow_drew (Below.refl _ _))).c1⟩,⟨(hC.out.y7.below (grow_drew (Below.refl _ _))).c0,(hC.out.y7.below (grow_drew (Below.refl _ _))).c1⟩,⟨(hC.out.yt.below (grow_drew (Below.refl _ _))).c0,(hC.out.yt.below (grow_drew (Below.refl _ _))).c1,(hC.out.yt.below (grow_drew (Below.refl _ _))).c2⟩⟩) (fun hHeld=> ?_)
 show wpAnyH _ _ _ _ _ 11 _ _ _
 have kW:=grow_drew (Below.refl w9.heap.size w9)
 generalize w9.drew=wQ at*
 refine tkz 0 78 ?_
 (try simp only[pz])
 refine tkz 1 79 ?_
 (try simp only[pz])
 refine tkz 2 80 ?_
 (try simp only[pz])
 refine tkz 3 81 ?_
 (try simp only[pz])
 refine tkz 4 82 ?_
 (try simp only[pz])
 refine tkz 5 83 ?_
 (try simp only[pz])
 refine tkz 6 84 ?_
 (try simp only[pz])
 refine ryz 7 (some 85) (fun K hK=> ?_) AllReadyH.nil
 go_simp
 go_at_call 21;refine Calls.mono (count19_n (hC.out.hE.below kW) hcn (hC.out.ha.below kW) o_m (hC.out.hb.below kW) o_m) ?_;rintro e wkA ⟨sA,aA,lA,cA,rfl,hzA,kA,-⟩
 rw[hme.out]at hzA
 have kW:=grow_step kA kW
 try go_wp2_with fail
 refine hK.out _ _ ?_ ?_
 ·first|with_reducible exact trivial|((try dsimp only);exact⟨⟨(yk.out.below kW).c0,(yk.out.below kW).c1⟩,⟨(hC.out.y6.below kW).c0,(hC.out.y6.below kW).c1⟩,⟨(hC.out.y7.below kW).c0,(hC.out.y7.below kW).c1⟩,⟨(hC.out.yt.below kW).c0,(hC.out.yt.below kW).c1,(hC.out.yt.below kW).c2⟩⟩)
 clear hK K hHeld;intro hHeld
 (try simp only[pz])
 refine ryz 8 (some 86) (fun K hK=> ?_) AllReadyH.nil
 go_simp
 go_at_call 20;refine Calls.mono (ints19_zn (z:=zk) (y:=⟨sA,aA,lA,cA⟩) (hzk.out.below kW) hzA) ?_;rintro e wkB ⟨rfl,kB⟩
 have kW:=grow_step kB kW
 try go_wp2_with fail
 refine hK.out _ _ ?_ ?_
 ·first|with_reducible exact trivial|((try dsimp only);exact⟨⟨(yk.out.below kW).c0,(yk.out.below kW).c1⟩,⟨(hC.out.y6.below kW).c0,(hC.out.y6.below kW).c1⟩,⟨(hC.out.y7.below kW).c0,(hC.out.y7.below kW).c1⟩,⟨(hC.out.yt.below kW).c0,(hC.out.yt.below kW).c1,(hC.out.yt.below kW).c2⟩⟩)
 clear hK K hHeld;intro hHeld
 (try simp only[pz])
 refine tkz 9 87 ?_
 (try simp only[pz])
 refine tkz 10 88 ?_
 (try simp only[pz])
 refine wpAnyH_done ?_ ?_ _
 ·decide+kernel
 replace hC:=hide (hC.out.below kW)
 replace kw:=hide (grow_step kW kw.out)
 clear kW hHeld hzk yk hzA
 generalize wkB=wA at*
 obtain⟨er,her⟩: ∃er,lsE (mem D) lo hi=er:=⟨_,rfl⟩
 obtain⟨xs,hxs⟩: ∃xs,lsX (mem D) lo hi=xs:=⟨_,rfl⟩
 have h1:=hide (list_cd hC.out hal hbl)
 rw[her,hxs]at h1
 have c0:=hC.out.y6.c0
 have c1:=hC.out.y6.c1
 have c2:=hC.out.y7.c0
 have c3:=hC.out.y7.c1
 go_wp2_with fail
 refine h1.out.mono ?_
 rintro e wB ⟨aa,n,ca,qa,rfl,hn9,hnx,hla,hpa,kN⟩
 have hF1:wA.heap.size≤wB.heap.size:=kN.size
 replace hnx:=hide hnx
 have hsp:=hide (sp_prf hpa)
 have hza:=hide (prf_pz hpa)
 replace hla:=hide hla
 have hCA:=hC
 replace hC:=hide (hC.out.below kN)
 have hkA:=hide kN
 clear h1 kN c0 c1 c2 c3 hpa
 have h1:=hide (list_cd hC.out hal hbl)
 rw[her,hxs]at h1
 have c0:=hC.out.y6.c0
 have c1:=hC.out.y6.c1
 have c2:=hC.out.y7.c0
 have c3:=hC.out.y7.c1
 go_wp2_with fail
 refine h1.out.mono ?_
 rintro e wC ⟨ab,nb,cb,qb,rfl,-,hnb,hlb,hpb,kN⟩
 obtain rfl:nb=n:=hnb.trans hnx.out.symm
 have hzb:=hide (prf_pz hpb)
 replace hlb:=hide hlb
 replace hsp:=hide (hsp.out.base kN)
 replace hza:=hide (hza.out.below kN)
 replace hla:=hide (hla.out.below kN)
 replace hC:=hide (hC.out.below kN)
 replace hkA:=hide (grow_step kN hkA.out)
 have hF2:wB.heap.size≤wC.heap.size:=kN.size
 clear h1 kN c0 c1 c2 c3 hpb hnb
 have h1:=hide (list19_cd hC.out hal hbl)
 rw[her,hxs]at h1
 clear her hxs
 have c0:=hC.out.y6.c0
 have c1:=hC.out.y6.c1
 have c2:=hC.out.y7.c0
 have c3:=hC.out.y7.c1
 have c4:=hC.out.yt.c0
 have c5:=hC.out.yt.c1
 have c6:=hC.out.yt.c2
 go_wp2_with fail
 refine h1.out.mono ?_
 rintro e wD ⟨ac,nc,cc,qc,rfl,-,hnc,hlc,hpc,kN⟩
 obtain rfl:nc=nb:=hnc.trans hnx.out.symm
 replace hsp:=hide (hsp.out.base kN)
 replace hza:=hide (hza.out.below kN)
 have h3:Hid (L3 wA.heap.size wB.heap.size wD aa ab ac nc qa qb qc xs):=hide ⟨hla.out.below kN,hlb.out.below kN,hlc.mono hF2,hzb.out.below kN,⟨hpc.len,fun i h1 h2=>⟨(hpc.nu i h1 h2).1,lo_mono hF2 (hpc.nu i h1 h2).2⟩⟩,hnx.out⟩
 replace hkA:=hide (grow_step kN hkA.out)
 clear h1 kN c0 c1 c2 c3 c4 c5 c6 hlc hpc hla hlb hzb hnx hnc hC
 go_wp2_with fail
 go_loopw [19] (fun vi wr=> ∃i:Nat,vi= .int .i64 i∧i≤nc∧Hid (Below wD.heap.size wD wr)) (fun vi _=>nc-(intOf vi).toNat)
 case atStart=>exact⟨0,rfl,Nat.zero_le _,hide (Below.refl _ _)⟩
 case round=>
  obtain⟨i,rfl,hii,kr⟩:=hrel
  by_cases hin:i<nc
  ·obtain⟨ga,zx,rfl,-,hga,hqa,a0,a1⟩:=(h3.out.ha.below kr.out).at hin
   obtain⟨gc,zy,rfl,-,hgc,hqc,d0,d1⟩:=(h3.out.hc.below kr.out).at hin
   have hix:i<xs.length:=by rw[←h3.out.ln];exact hin
   have hzx:=hide ((hza.out.below kr.out).at hqa hix)
   have hzy:=hide ((h3.out.pc.below kr.out).at hqc hix)
   clear hqa hqc
   go_upto_region 19 with(fail)
   refine wp_region_held_drew (S:=(fun w'=>(w'.cell? ⟨ga,i*2,none⟩=some (.bool zx.s)∧w'.cell? ⟨ga,i*2+1,none⟩=some (.slice zx.a zx.l zx.c))∧(w'.cell? ⟨gc,i*2,none⟩=some (.bool zy.s)∧w'.cell? ⟨gc,i*2+1,none⟩=some (.slice zy.a zy.l zy.c)))) k_f (⟨⟨(Below.cell (p:=⟨ga,i*2,none⟩) (grow_drew (Below.refl _ _)) hga).trans a0,(Below.cell (p:=⟨ga,i*2+1,none⟩) (grow_drew (Below.refl _ _)) hga).trans a1⟩,⟨(Below.cell (p:=⟨gc,i*2,none⟩) (grow_drew (Below.refl _ _)) hgc).trans d0,(Below.cell (p:=⟨gc,i*2+1,none⟩) (grow_drew (Below.refl _ _)) hgc).trans d1⟩⟩) (fun hHeld=> ?_)
   show wpAnyH _ _ _ _ _ 10 _ _ _
   have kW:=grow_drew (Below.refl wr.heap.size wr)
   generalize wr.drew=wQ at*
   refine tkz 0 133 ?_
   (try simp only[pz])
   refine tkz 1 134 ?_
   (try simp only[pz])
   refine tkz 2 135 ?_
   (try simp only[pz])
   refine tkz 3 136 ?_
   (try simp only[pz])
   refine tkz 4 137 ?_
   (try simp only[pz])
   refine tkz 5 138 ?_
   (try simp only[pz])
   refine tkz 6 139 ?_
   (try simp only[pz])
   refine tkz 7 140 ?_
   (try simp only[pz])
   refine ryz 8 (some 141) (fun K hK=> ?_) AllReadyH.nil
   go_simp
   go_at_call 20;refine Calls.mono (ints19_zn (z:=zx) (y:=zy) (hzx.out.below kW) (hzy.out.below kW)) ?_;rintro e wkB ⟨rfl,kB⟩
   have kW:=grow_step kB kW
   try go_wp2_with fail
   refine hK.out _ _ ?_ ?_
   ·first|with_reducible exact trivial|((try dsimp only);exact⟨⟨(Below.cell (p:=⟨ga,i*2,none⟩) kW hga).trans a0,(Below.cell (p:=⟨ga,i*2+1,none⟩) kW hga).trans a1⟩,⟨(Below.cell (p:=⟨gc,i*2,none⟩) kW hgc).trans d0,(Below.cell (p:=⟨gc,i*2+1,none⟩) kW hgc).trans d1⟩⟩)
   clear hK K hHeld;intro hHeld
   (try simp only[pz])
   refine tkz 9 142 ?_
   (try simp only[pz])
   refine wpAnyH_done ?_ ?_ _
   ·decide+kernel
   have kz:=hide (grow_step kW kr.out)
   clear kW hHeld
   go_wp2_with fail
   exact⟨⟨i+1,by go_num,by omega,kz.out⟩,by simp[intOf];omega⟩
  obtain rfl:nc=i:=by omega
  clear hza
  have h3E:=hide (h3.out.below kr.out)
  have hspE:=hide (hsp.out.base kr.out)
  have hkE:=hide (grow_step kr.out hkA.out)
  clear h3 hsp hkA kr hin hii
  generalize wr=wE at*
  go_wp2_with fail
  go_loopw [20] (fun vi wr=> ∃i:Nat,vi= .int .i64 i∧i≤nc∧Hid (KS wA.heap.size wB.heap.size wE wr)∧Hid (SpR wA.heap.size wB.heap.size wE wr qa)) (fun vi _=>nc-(intOf vi).toNat)
  case atStart=>exact⟨0,rfl,Nat.zero_le _,hide (KS.refl _ _ _),hspE⟩
  case round=>
   clear hspE
   obtain⟨i,rfl,hii,ks,sp⟩:=hrel
   by_cases hin:i<nc
   ·obtain⟨ga,zx,rfl,-,-,hqa,a0,a1⟩:=(h3E.out.ks ks.out).ha.at hin
    go_wp2_with fail
    go_loopw [21] (fun vk wv=> ∃k:Nat,vk= .int .i64 k∧k≤zx.l∧Hid (KS wA.heap.size wB.heap.size wE wv)∧Hid (SpR wA.heap.size wB.heap.size wE wv qa)) (fun vk _=>zx.l-(intOf vk).toNat)
    case atStart=>exact⟨0,rfl,Nat.zero_le _,ks,sp⟩
    case round=>
     clear ks sp a0 a1
     obtain⟨k,rfl,hkk,ks,sp⟩:=hrel
     obtain⟨hgo,a0,a1⟩:=(h3E.out.ks ks.out).ha.same hin hqa
     have hga:=hgo.lt
     by_cases hkl:k<zx.l
     ·rcases sp.out.at hqa with h0|⟨b,ys,e,hb1,hb2,hown,hrow,hly,hly2⟩
      ·omega
      have d0:=hrow.cell (i:=k) o_m
      have d1:=hrow.frozen k
      have hlb:=(Array.getElem?_eq_some_iff.1 hrow).1
      rw[e]at a1
      have hgb:ga≠b:=(hgo.ne hrow (by decide)).symm
      have hk9:(k:Int)+1≤9223372036854775807:=by omega
      clear hgo
      generalize zx.l=zl at*
      go_upto_region 27 with(fail)
      refine wp_region_held_drew (S:=(fun w'=>w'.cell? ⟨ga,i*2+1,none⟩=some (.slice (some ⟨b,0,none⟩) zl zx.c))) k_f (((Below.cell (p:=⟨ga,i*2+1,none⟩) (grow_drew (Below.refl _ _)) hga).trans a1)) (fun hHeld=> ?_)
      show wpAnyH _ _ _ _ _ 17 _ _ _
      have kW:=grow_drew (Below.refl wr.heap.size wr)
      generalize wr.drew=wQ at*
      refine tkz 0 159 ?_
      (try simp only[pz])
      refine tkz 1 160 ?_
      (try simp only[pz])
      refine tkz 2 161 ?_
      (try simp only[pz])
      refine tkz 3 162 ?_
      (try simp only[pz])
      refine tkz 4 163 ?_
      (try simp only[pz])
      refine tkz 5 164 ?_
      (try simp only[pz])
      refine tkz 6 165 ?_
      (try simp only[pz])
      refine tkz 7 166 ?_
      (try simp only[pz])
      refine tkz 8 167 ?_
      (try simp only[pz])
      refine tkz 9 168 ?_
      (try simp only[pz])
      refine tkz 10 169 ?_
      (try simp only[pz])
      refine tkz 11 170 ?_
      (try simp only[pz])
      refine tkz 12 171 ?_
      (try simp only[pz])
      refine ryz 13 (some 172) (fun K hK=> ?_) AllReadyH.nil
      have f0:=(Below.cell (p:=⟨b,k,none⟩) kW hlb).trans d0
      go_simp
      clear f0
      refine hK.out _ _ ?_ ?_
      ·first|with_reducible exact trivial|((try dsimp only);exact(by first|exact((Below.cell (p:=⟨ga,i*2+1,none⟩) kW hga).trans a1)|exact(Pd.cell_ne (Only.set b k _ _) hgb).trans ((Below.cell (p:=⟨ga,i*2+1,none⟩) kW hga).trans a1)))
      clear hK K hHeld;intro hHeld
      (try simp only[pz])
      refine tkz 14 173 ?_
      (try simp only[pz])
      refine tkz 15 174 ?_
      (try simp only[pz])
      refine ryz 16 none (fun K hK=> ?_) AllReadyH.nil
      have f0:=(Below.cell (p:=⟨b,k,none⟩) kW hlb).trans d0
      have f1:wQ.frozen? ⟨b,k,none⟩=false:=Row.frozen (show Row wQ b ys from(kW.block b hlb).trans hrow) k
      go_simp
      refine hK.out _ _ ?_ ?_
      ·first|with_reducible exact trivial|((try dsimp only);exact(by first|exact((Below.cell (p:=⟨ga,i*2+1,none⟩) kW hga).trans a1)|exact(Pd.cell_ne (Only.set b k _ _) hgb).trans ((Below.cell (p:=⟨ga,i*2+1,none⟩) kW hga).trans a1)))
      clear hK K hHeld;intro hHeld
      (try simp only[pz])
      refine wpAnyH_done ?_ ?_ _
      ·decide+kernel
      have ks9:=hide ((ks.out.below kW).set hb1 hb2 hown (i:=k) (.int .u32 (bits BinOp.xor IntKind.u32 (if IntKind.u32.signed=true then -1 else IntKind.u32.max) (lz ys k))))
      have sp9:=hide ((sp.out.below kW).set (b:=b) (i:=k) (bits BinOp.xor IntKind.u32 (if IntKind.u32.signed=true then -1 else IntKind.u32.max) (lz ys k)))
      clear kW hHeld hrow ks sp f0 f1
      go_wp2
      exact⟨⟨k+1,by go_num,by omega,ks9,sp9⟩,by simp[intOf];omega⟩
     obtain rfl:zx.l=k:=by omega
     have h3V:=hide (h3E.out.ks ks.out)
     obtain⟨gb,zb',rfl,-,hgb,hqb,b0,b1⟩:=h3V.out.hb.at hin
     obtain⟨gc,zc',rfl,-,hgc,hqc,d0,d1⟩:=h3V.out.hc.at hin
     have hix:i<xs.length:=by rw[←h3E.out.ln];exact hin
     have hzb:=hide (h3V.out.pb.at hqb hix)
     have hzc:=hide (h3V.out.pc.at hqc hix)
     clear hqb hqc h3V
     go_upto_region 28 with(fail)
     refine wp_region_held_drew (S:=(fun w'=>(w'.cell? ⟨gb,i*2,none⟩=some (.bool zb'.s)∧w'.cell? ⟨gb,i*2+1,none⟩=some (.slice zb'.a zb'.l zb'.c))∧(w'.cell? ⟨gc,i*2,none⟩=some (.bool zc'.s)∧w'.cell? ⟨gc,i*2+1,none⟩=some (.slice zc'.a zc'.l zc'.c)))) k_f (⟨⟨(Below.cell (p:=⟨gb,i*2,none⟩) (grow_drew (Below.refl _ _)) hgb).trans b0,(Below.cell (p:=⟨gb,i*2+1,none⟩) (grow_drew (Below.refl _ _)) hgb).trans b1⟩,⟨(Below.cell (p:=⟨gc,i*2,none⟩) (grow_drew (Below.refl _ _)) hgc).trans d0,(Below.cell (p:=⟨gc,i*2+1,none⟩) (grow_drew (Below.refl _ _)) hgc).trans d1⟩⟩) (fun hHeld=> ?_)
     show wpAnyH _ _ _ _ _ 10 _ _ _
     have kW:=grow_drew (Below.refl wr.heap.size wr)
     generalize wr.drew=wQ at*
     refine tkz 0 175 ?_
     (try simp only[pz])
     refine tkz 1 176 ?_
     (try simp only[pz])
     refine tkz 2 177 ?_
     (try simp only[pz])
     refine tkz 3 178 ?_
     (try simp only[pz])
     refine tkz 4 179 ?_
     (try simp only[pz])
     refine tkz 5 180 ?_
     (try simp only[pz])
     refine tkz 6 181 ?_
     (try simp only[pz])
     refine tkz 7 182 ?_
     (try simp only[pz])
     refine ryz 8 (some 183) (fun K hK=> ?_) AllReadyH.nil
     go_simp
     go_at_call 20;refine Calls.mono (ints19_zn (z:=zb') (y:=zc') (hzb.out.below kW) (hzc.out.below kW)) ?_;rintro e wkB ⟨rfl,kB⟩
     have kW:=grow_step kB kW
     try go_wp2_with fail
     refine hK.out _ _ ?_ ?_
     ·first|with_reducible exact trivial|((try dsimp only);exact⟨⟨(Below.cell (p:=⟨gb,i*2,none⟩) kW hgb).trans b0,(Below.cell (p:=⟨gb,i*2+1,none⟩) kW hgb).trans b1⟩,⟨(Below.cell (p:=⟨gc,i*2,none⟩) kW hgc).trans d0,(Below.cell (p:=⟨gc,i*2+1,none⟩) kW hgc).trans d1⟩⟩)
     clear hK K hHeld;intro hHeld
     (try simp only[pz])
     refine tkz 9 184 ?_
     (try simp only[pz])
     refine wpAnyH_done ?_ ?_ _
     ·decide+kernel
     have ks9:=hide (ks.out.below kW)
     have sp9:=hide (sp.out.below kW)
     clear kW hHeld ks sp
     go_wp2
     exact⟨⟨i+1,by go_num,by omega,ks9,sp9⟩,by simp[intOf];omega⟩
   obtain rfl:nc=i:=by omega
   have hwA:=hide (kw.out.size)
   have kA:=hide (hkE.out.trans (ks.out.bel hkE.out.size))
   have hsm:=hide hCA.out.sm
   have hme2:=hide (show ∀x,mem D x=mm E x from hCA.out.sm.has)
   have hwf:=hide hCA.out.pD.wf
   clear sp ks h3E hin hii hkE hme
   generalize wr=wF at*
   have hC:=hide (hCA.out.below kA.out)
   have hq:=hide (next_n (LL:=8589934592) hC.out.pD hcs hC.out.ha o_m o_m o_m)
   have c0:=hC.out.y6.c0
   have c1:=hC.out.y6.c1
   go_wp2_with fail
   refine hq.out.mono ?_
   rintro e wG ⟨kN,hN⟩
   obtain⟨zx,tx,he,-⟩:=Pd.nx_one hN
   subst he
   have bl:=below_alloc wG (.cells #[.bool zx.s,.slice zx.a zx.l zx.c] 38)
   have y22:=hide (zb_new wG zx.s zx.a zx.l zx.c)
   have g22:=hide (Nat.le_trans kA.out.size kN.size)
   replace kA:=hide (grow_step bl (grow_step kN kA.out))
   replace hC:=hide (hCA.out.below kA.out)
   have kx:=hide bl
   replace hN:=hide hN
   clear hq kN bl c0 c1
   go_upto_region 31 with(fail)
   generalize wG.alloc (.cells #[.bool zx.s,.slice zx.a zx.l zx.c] 38)=wH at*
   obtain⟨b22,hb22⟩: ∃c,wG.heap.size=c:=⟨_,rfl⟩
   rw[hb22]at y22 g22 ⊢
   have hl22:=hide y22.out.lt
   clear hb22
   have hq:=hide (next19_n (B:=1073741827) o_m o_m hC.out.hE hcn hC.out.ha o_m)
   have c0:=hC.out.y6.c0
   have c1:=hC.out.y6.c1
   have d0:=hC.out.yt.c0
   have d1:=hC.out.yt.c1
   have d2:=hC.out.yt.c2
   go_wp2_with fail
   refine hq.out.mono ?_
   rintro e wI ⟨hNE,kN⟩
   obtain⟨zy,ty,he,-⟩:=hNE.one
   subst he
   have kx2:=grow_step kN kx.out
   obtain⟨rfl,vx,hx,hy⟩:=tw_get (tw_next hme2.out hN.out hNE)
   have bl:=below_alloc wI (.cells #[.bool zy.s,.slice zy.a zy.l zy.c] 38)
   replace y22:=hide ((y22.out.below kN).below bl)
   have y24:=hide (zb_new wI zy.s zy.a zy.l zy.c)
   have g24:=hide (Nat.le_trans kA.out.size kN.size)
   have ne24:Hid (b22≠wI.heap.size):=hide (by have:=hl22.out;have:=kN.size;omega)
   replace hx:=hide ((hx.below kx2).below bl)
   replace hy:=hide (hy.below bl)
   replace kA:=hide (grow_step bl (grow_step kN kA.out))
   clear hq kN bl c0 c1 d0 d1 d2 kx kx2 hN hNE
   go_upto_region 32 with(fail)
   generalize wI.alloc (.cells #[.bool zy.s,.slice zy.a zy.l zy.c] 38)=wJ at*
   obtain⟨b24,hb24⟩: ∃c,wI.heap.size=c:=⟨_,rfl⟩
   rw[hb24]at y24 g24 ne24 ⊢
   clear hb24
   have hq:=hide (ints19_zn hx.out hy.out)
   have c0:=y22.out.c0
   have c1:=y22.out.c1
   have c2:=y24.out.c0
   have c3:=y24.out.c1
   have hbb:(tx !=tx)=false:=by simp
   have hbe:(tx==tx)=true:=by simp
   clear hbe
   go_wp2_with fail
   refine hq.out.mono ?_
   rintro e wK ⟨rfl,kN⟩
   replace y22:=hide (y22.out.below kN)
   replace y24:=hide (y24.out.below kN)
   replace kA:=hide (grow_step kN kA.out)
   replace hC:=hide (hCA.out.below kA.out)
   clear hq kN c0 c1 c2 c3 hx hy hbb
   go_upto_region 34 with(fail)
   have hq:=hide (last_n (LL:=8589934592) hC.out.pD hcs hC.out.hb o_m o_m o_m)
   have c0:=hC.out.y7.c0
   have c1:=hC.out.y7.c1
   go_wp2_with fail
   refine hq.out.mono ?_
   rintro e wL ⟨kN,hN⟩
   obtain⟨z1,t1,he,-⟩:=Pd.nx_one hN
   subst he
   have yK:=y22.out.below kN
   have f0:=yK.c0
   have f1:=yK.c1
   have f2:=yK.f 0
   have f3:=yK.f 1
   obtain⟨wM,e8,yM,kM,oM,hznM⟩:=Pd.est_z (grow_step kN kA.out) g22.out yK z1.s z1.a z1.l z1.c
   replace y24:=hide ((y24.out.below kN).only oM ne24.out.symm)
   replace y22:=hide yM
   replace kA:=hide kM
   replace hC:=hide (hCA.out.below kA.out)
   have hmv:Hid (∀s a l c x,Zn wL s a l c x→Zn wM s a l c x):=hide hznM
   replace hN:=hide hN
   clear hq kN yM kM oM hznM yK c0 c1
   go_upto_region 35 with(fail)
   rw[e8.out]
   clear f0 f1 f2 f3 e8
   have hq:=hide (last19_n hC.out.hE hcn hC.out.hb o_m)
   have c0:=hC.out.y7.c0
   have c1:=hC.out.y7.c1
   have d0:=hC.out.yt.c0
   have d1:=hC.out.yt.c1
   have d2:=hC.out.yt.c2
   go_wp2_with fail
   refine hq.out.mono ?_
   rintro e wN ⟨hNE,kN⟩
   obtain⟨y1,u1,he⟩:=hNE.one
   subst he
   have yK:=y24.out.below kN
   have f0:=yK.c0
   have f1:=yK.c1
   have f2:=yK.f 0
   have f3:=yK.f 1
   obtain⟨wO,e9,yM,kM,oM,hznM⟩:=Pd.est_z (grow_step kN kA.out) g24.out yK y1.s y1.a y1.l y1.c
   replace y22:=hide ((y22.out.below kN).only oM ne24.out)
   replace y24:=hide yM
   replace kA:=hide kM
   replace hC:=hide (hCA.out.below kA.out)
   obtain⟨rfl,vx,hx,hy⟩:=tw_get (tw_last hme2.out hN.out hNE)
   replace hx:=hide (hznM _ _ _ _ _ ((hmv.out _ _ _ _ _ hx).below kN))
   replace hy:=hide (hznM _ _ _ _ _ hy)
   clear hmv hN hNE
   clear hq kN yM kM oM hznM yK c0 c1 d0 d1 d2
   go_upto_region 36 with(fail)
   rw[e9.out]
   clear f0 f1 f2 f3 e9
   have hq:=hide (ints19_zn hx.out hy.out)
   have c0:=y22.out.c0
   have c1:=y22.out.c1
   have c2:=y24.out.c0
   have c3:=y24.out.c1
   have hbb:(t1 !=t1)=false:=by simp
   have hbe:(t1==t1)=true:=by simp
   clear hbe
   go_wp2_with fail
   refine hq.out.mono ?_
   rintro e wP ⟨rfl,kN⟩
   replace y22:=hide (y22.out.below kN)
   replace y24:=hide (y24.out.below kN)
   replace kA:=hide (grow_step kN kA.out)
   replace hC:=hide (hCA.out.below kA.out)
   clear hq kN c0 c1 c2 c3 hx hy hbb
   go_upto_region 38 with(fail)
   have hq:=hide (Least_f hC.out.pD hcs)
   go_wp2_with fail
   refine hq.out.mono ?_
   rintro e wQ ⟨z2,t2,rfl,hN,kN⟩
   have yK:=y22.out.below kN
   have f0:=yK.c0
   have f1:=yK.c1
   have f2:=yK.f 0
   have f3:=yK.f 1
   obtain⟨wR,e8,yM,kM,oM,hznM⟩:=Pd.est_z (grow_step kN kA.out) g22.out yK z2.s z2.a z2.l z2.c
   replace y24:=hide ((y24.out.below kN).only oM ne24.out.symm)
   replace y22:=hide yM
   replace kA:=hide kM
   replace hC:=hide (hCA.out.below kA.out)
   have hmv:Hid (∀s a l c x,Zn wQ s a l c x→Zn wR s a l c x):=hide hznM
   replace hN:=hide hN
   clear hq kN yM kM oM hznM yK
   go_upto_region 39 with(fail)
   rw[e8.out]
   clear f0 f1 f2 f3 e8
   have hq:=hide (least19_n hC.out.hE hcn)
   have d0:=hC.out.yt.c0
   have d1:=hC.out.yt.c1
   have d2:=hC.out.yt.c2
   go_wp2_with fail
   refine hq.out.mono ?_
   rintro e wS ⟨y2,u2,rfl,hNE,kN⟩
   have yK:=y24.out.below kN
   have f0:=yK.c0
   have f1:=yK.c1
   have f2:=yK.f 0
   have f3:=yK.f 1
   obtain⟨wT,e9,yM,kM,oM,hznM⟩:=Pd.est_z (grow_step kN kA.out) g24.out yK y2.s y2.a y2.l y2.c
   replace y22:=hide ((y22.out.below kN).only oM ne24.out)
   replace y24:=hide yM
   replace kA:=hide kM
   replace hC:=hide (hCA.out.below kA.out)
   obtain⟨rfl,vx,hx,hy⟩:=tw_least hwf.out hme2.out hN.out hNE
   replace hx:=hide (hznM _ _ _ _ _ ((hmv.out _ _ _ _ _ hx).below kN))
   replace hy:=hide (hznM _ _ _ _ _ hy)
   clear hmv hN hNE
   clear hq kN yM kM oM hznM yK d0 d1 d2
   go_upto_region 40 with(fail)
   rw[e9.out]
   clear f0 f1 f2 f3 e9
   have hq:=hide (ints19_zn hx.out hy.out)
   have c0:=y22.out.c0
   have c1:=y22.out.c1
   have c2:=y24.out.c0
   have c3:=y24.out.c1
   have hbb:(t2 !=t2)=false:=by simp
   have hbe:(t2==t2)=true:=by simp
   clear hbe
   go_wp2_with fail
   refine hq.out.mono ?_
   rintro e wU ⟨rfl,kN⟩
   replace y22:=hide (y22.out.below kN)
   replace y24:=hide (y24.out.below kN)
   replace kA:=hide (grow_step kN kA.out)
   replace hC:=hide (hCA.out.below kA.out)
   clear hq kN c0 c1 c2 c3 hx hy hbb
   go_upto_region 42 with(fail)
   have hq:=hide (Finite_f hC.out.pD hcs)
   go_wp2_with fail
   refine hq.out.mono ?_
   rintro e wV ⟨z3,t3,rfl,hN,kN⟩
   have yK:=y22.out.below kN
   have f0:=yK.c0
   have f1:=yK.c1
   have f2:=yK.f 0
   have f3:=yK.f 1
   obtain⟨wW,e8,yM,kM,oM,hznM⟩:=Pd.est_z (grow_step kN kA.out) g22.out yK z3.s z3.a z3.l z3.c
   replace y24:=hide ((y24.out.below kN).only oM ne24.out.symm)
   replace y22:=hide yM
   replace kA:=hide kM
   replace hC:=hide (hCA.out.below kA.out)
   have hmv:Hid (∀s a l c x,Zn wV s a l c x→Zn wW s a l c x):=hide hznM
   replace hN:=hide hN
   clear hq kN yM kM oM hznM yK
   go_upto_region 43 with(fail)
   rw[e8.out]
   clear f0 f1 f2 f3 e8
   have hq:=hide (finite19_n hC.out.hE hcn)
   have d0:=hC.out.yt.c0
   have d1:=hC.out.yt.c1
   have d2:=hC.out.yt.c2
   go_wp2_with fail
   refine hq.out.mono ?_
   rintro e wX ⟨y3,u3,rfl,hNE,kN⟩
   have yK:=y24.out.below kN
   have f0:=yK.c0
   have f1:=yK.c1
   have f2:=yK.f 0
   have f3:=yK.f 1
   obtain⟨wY,e9,yM,kM,oM,hznM⟩:=Pd.est_z (grow_step kN kA.out) g24.out yK y3.s y3.a y3.l y3.c
   replace y22:=hide ((y22.out.below kN).only oM ne24.out)
   replace y24:=hide yM
   replace kA:=hide kM
   replace hC:=hide (hCA.out.below kA.out)
   obtain⟨rfl,vx,hx,hy⟩:=tw_finite hwf.out hme2.out hN.out hNE
   replace hx:=hide (hznM _ _ _ _ _ ((hmv.out _ _ _ _ _ hx).below kN))
   replace hy:=hide (hznM _ _ _ _ _ hy)
   clear hmv hN hNE
   clear hq kN yM kM oM hznM yK d0 d1 d2
   go_upto_region 44 with(fail)
   rw[e9.out]
   clear f0 f1 f2 f3 e9
   have hq:=hide (ints19_zn hx.out hy.out)
   have c0:=y22.out.c0
   have c1:=y22.out.c1
   have c2:=y24.out.c0
   have c3:=y24.out.c1
   have hbb:(t3 !=t3)=false:=by simp
   have hbe:(t3==t3)=true:=by simp
   have kAw:=hide (grow_step kA.out kw.out)
   have hfin:=fun{W:World}(k:Below wY.heap.size wY W)=>hide (grow_step k kAw.out)
   clear hbb
   go_wp2_with fail
   refine hq.out.mono ?_
   rintro e wZ ⟨rfl,kN⟩
   have hf:=hfin kN
   clear hfin kN hq
   go_wp2
   exact bodyPost_ret (results_tmp rfl _ _ _) rfl ⟨rfl,hf.out⟩
end Cr
end Go.Proofs.YtaafoppaepcaeaaGreat
