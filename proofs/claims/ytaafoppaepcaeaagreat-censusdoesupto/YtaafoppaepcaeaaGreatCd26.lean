/-
 Several texts in one: CrJ,CrK,CrL,CrM,Pf3,Pg5.
-/
import Derived.Test.YtaafoppaepcaeaaGreatCdT
import Derived.Test.YtaafoppaepcaeaaGreatCd25
import Derived.Test.YtaafoppaepcaeaaGreatCd24
import Derived.Test.YtaafoppaepcaeaaGreatCd18
import Derived.Test.YtaafoppaepcaeaaGreatCd23
set_option maxRecDepth 100000
set_option maxHeartbeats 12800000
namespace Go.Proofs.YtaafoppaepcaeaaGreat
open Go.RowKit Go.Sort Go.Shelf
namespace Cr
open Pd (SN SV ZV plc plc_le al_b cntm cntI cntm_add)

variable {w wr w':World}{x lo hi:Int}
def Zq (w wr:World)(z:ZV)(x:Int):Prop:=Zn wr z.s z.a z.l z.c x∨Zm w z.s z.a z.l z.c x
theorem Zq.zm {z:ZV}(h:Zq w wr z x)(k:Below w.heap.size w wr):Zm wr z.s z.a z.l z.c x:=by
 rcases h with h|h
 ·exact h.zm
 exact h.below k
theorem Zq.below {z:ZV}(h:Zq w wr z x)(k:Below wr.heap.size wr w'):Zq w w' z x:=by
 rcases h with h|h
 ·exact .inl (h.below k)
 exact .inr h
theorem Zq.set {z:ZV}(h:Zq w wr z x)(k: ∀s ad len cap x,Zn wr s ad len cap x→Zn w' s ad len cap x):Zq w w' z x:=by
 rcases h with h|h
 ·exact .inl (k _ _ _ _ _ h)
 exact .inr h
theorem ct_same {E:RE}(h:Wr E){a st:Int}(hs: ∀(hl:plc E.cs a<E.cs.length),st≤E.cs[plc E.cs a]){u:Int}(h1:a≤u)(h2:u<st):plc E.cs u=plc E.cs a:=
 (nx_row h rfl h1 (fun hl=>by have:=hs hl;omega)).1
theorem ct_more (E:RE){lo a st:Int}(h1:lo≤a)(h2:a≤st):cntm (mm E) lo (a-lo).toNat+cntm (mm E) a (st-a).toNat=cntm (mm E) lo (st-lo).toNat:=by
 have h:=cntm_add (mm E) lo (a-lo).toNat (st-a).toNat
 rw[show lo+((a-lo).toNat:Int)=a by omega,show(a-lo).toNat+(st-a).toNat=(st-lo).toNat by omega]at h
 exact h.symm
def CtR (w wr:World)(E:RE)(v:SV)(bA bt ba be bx:Nat)(lo hi:Int)(ze zt za:ZV)(at':Int):Prop:=
 (lo≤at'∧(at'=lo∨at'≤hi+1))∧(SBr wr bA E.p v∧ZB wr bx false none 0 0)∧(ZB wr be ze.s ze.a ze.l ze.c∧Zn wr ze.s ze.a ze.l ze.c (hi+1))∧(ZB wr bt zt.s zt.a zt.l zt.c∧Zq w wr zt at'∧zt.l≤2147483649)∧
  (ZB wr ba za.s za.a za.l za.c∧Zn wr za.s za.a za.l za.c (cntm (mm E) lo (at'-lo).toNat:Nat)∧za.l≤2147483690+v.cn∧(at'<hi+1→za.l≤2147483680+plc E.cs at'))∧Below w.heap.size w wr
theorem CtR.below {E:RE}{v:SV}{bA bt ba be bx:Nat}{ze zt za:ZV}{at':Int}(h:CtR w wr E v bA bt ba be bx lo hi ze zt za at')(k:Below wr.heap.size wr w'):CtR w w' E v bA bt ba be bx lo hi ze zt za at':=
 ⟨h.1,⟨h.2.1.1.below k,h.2.1.2.below k⟩,⟨h.2.2.1.1.below k,h.2.2.1.2.below k⟩,⟨h.2.2.2.1.1.below k,h.2.2.2.1.2.1.below k,h.2.2.2.1.2.2⟩,⟨h.2.2.2.2.1.1.below k,h.2.2.2.2.1.2.1.below k,h.2.2.2.2.1.2.2⟩,grow_step k h.2.2.2.2.2⟩
theorem CtR.set {E:RE}{v:SV}{bA bt ba be bx g:Nat}{ze zt za:ZV}{at':Int}(h:CtR w wr E v bA bt ba be bx lo hi ze zt za at')(o:Only g wr w')(hne:bA≠g∧bx≠g∧be≠g∧bt≠g∧ba≠g)(hz: ∀s ad len cap x,Zn wr s ad len cap x→Zn w' s ad len cap x)(k:Below w.heap.size w w'):CtR w w' E v bA bt ba be bx lo hi ze zt za at':=
 ⟨h.1,⟨h.2.1.1.only o hne.1,h.2.1.2.only o hne.2.1⟩,⟨h.2.2.1.1.only o hne.2.2.1,hz _ _ _ _ _ h.2.2.1.2⟩,⟨h.2.2.2.1.1.only o hne.2.2.2.1,h.2.2.2.1.2.1.set hz,h.2.2.2.1.2.2⟩,⟨h.2.2.2.2.1.1.only o hne.2.2.2.2,hz _ _ _ _ _ h.2.2.2.2.1.2.1,h.2.2.2.2.1.2.2⟩,k⟩
def CtS (w wr:World)(E:RE)(v:SV)(bA bt ba be bx bs:Nat)(lo hi:Int)(ze zt zb zs:ZV)(st:Int):Prop:=
 (SBr wr bA E.p v∧ZB wr bx false none 0 0)∧(ZB wr be ze.s ze.a ze.l ze.c∧Zn wr ze.s ze.a ze.l ze.c (hi+1))∧ZB wr bt zt.s zt.a zt.l zt.c∧(ZB wr bs zs.s zs.a zs.l zs.c∧Zq w wr zs st)∧(ZB wr ba zb.s zb.a zb.l zb.c∧Zn wr zb.s zb.a zb.l zb.c (cntm (mm E) lo (st-lo).toNat:Nat)∧zb.l≤2147483690+v.cn∧(st<hi+1→zb.l≤2147483680+plc E.cs st))∧Below w.heap.size w wr
theorem count19_n {v:SV}{E:RE}{s s2:Bool}{a a2:Option Addr}{l c l2 c2:Nat}(h:RS w v E)(hcn:v.cn≤134217728)(hx:Zm w s a l c lo)(hl:l≤2147483648)(hn:Zm w s2 a2 l2 c2 hi)(hl2:l2≤2147483648):
  Calls Tryz.prog 21 #[.agg #[.int .i64 E.p,.slice v.ca v.cn v.cc,.slice v.ra v.rn v.rc],.agg #[.bool s,.slice a l c],.agg #[.bool s2,.slice a2 l2 c2]] w fun e w'=> ∃s' a' l' c',e= .returned (.agg #[.bool s',.slice a' l' c'])∧Zn w' s' a' l' c' (cntI (mm E) lo hi:Nat)∧Below w.heap.size w w'∧l'≤2415919200:=by
 have b0:=below_alloc w (.cells #[.int .i64 E.p,.slice v.ca v.cn v.cc,.slice v.ra v.rn v.rc] 30)
 have b1:=below_alloc (w.alloc (.cells #[.int .i64 E.p,.slice v.ca v.cn v.cc,.slice v.ra v.rn v.rc] 30)) (.cells #[.bool s,.slice a l c] 38)
 have b2:=below_alloc ((w.alloc (.cells #[.int .i64 E.p,.slice v.ca v.cn v.cc,.slice v.ra v.rn v.rc] 30)).alloc (.cells #[.bool s,.slice a l c] 38)) (.cells #[.bool s2,.slice a2 l2 c2] 38)
 have b3:=below_alloc (((w.alloc (.cells #[.int .i64 E.p,.slice v.ca v.cn v.cc,.slice v.ra v.rn v.rc] 30)).alloc (.cells #[.bool s,.slice a l c] 38)).alloc (.cells #[.bool s2,.slice a2 l2 c2] 38)) (.cells #[.bool false,.slice none 0 0] 38)
 have kb:=hide (grow_step b3 (grow_step b2 (grow_step b1 b0)))
 have yA:=hide ((sbr_new w E.p v).below (grow_step b3 (grow_step b2 b1)))
 have yl:=(zb_new (w.alloc (.cells #[.int .i64 E.p,.slice v.ca v.cn v.cc,.slice v.ra v.rn v.rc] 30)) s a l c).below (grow_step b3 b2)
 have yh:=(zb_new ((w.alloc (.cells #[.int .i64 E.p,.slice v.ca v.cn v.cc,.slice v.ra v.rn v.rc] 30)).alloc (.cells #[.bool s,.slice a l c] 38)) s2 a2 l2 c2).below b3
 have yx:=zb_new (((w.alloc (.cells #[.int .i64 E.p,.slice v.ca v.cn v.cc,.slice v.ra v.rn v.rc] 30)).alloc (.cells #[.bool s,.slice a l c] 38)).alloc (.cells #[.bool s2,.slice a2 l2 c2] 38)) false none 0 0
 have hs1:(w.alloc (.cells #[.int .i64 E.p,.slice v.ca v.cn v.cc,.slice v.ra v.rn v.rc] 30)).heap.size=w.heap.size+1:=by simp
 have hs2:((w.alloc (.cells #[.int .i64 E.p,.slice v.ca v.cn v.cc,.slice v.ra v.rn v.rc] 30)).alloc (.cells #[.bool s,.slice a l c] 38)).heap.size=w.heap.size+1+1:=by simp
 have hs3:(((w.alloc (.cells #[.int .i64 E.p,.slice v.ca v.cn v.cc,.slice v.ra v.rn v.rc] 30)).alloc (.cells #[.bool s,.slice a l c] 38)).alloc (.cells #[.bool s2,.slice a2 l2 c2] 38)).heap.size=w.heap.size+1+1+1:=by simp
 rw[hs1]at yl
 rw[hs2]at yh
 rw[hs3]at yx
 have hwf:=hide h.wf
 have hp1:=h.wf.p1
 have hp2:=h.wf.p2
 have hrn:=hide h.rn
 have hcl:=hide h.cn
 go_enter Tryz.func21,Tryz.ntmps21
 go_upto_region 1 with(fail)
 clear b0 b1 b2 b3 hs1 hs2 hs3
 generalize (((w.alloc (.cells #[.int .i64 E.p,.slice v.ca v.cn v.cc,.slice v.ra v.rn v.rc] 30)).alloc (.cells #[.bool s,.slice a l c] 38)).alloc (.cells #[.bool s2,.slice a2 l2 c2] 38)).alloc (.cells #[.bool false,.slice none 0 0] 38)=w1 at*
 obtain⟨bA,hbA⟩: ∃bA,w.heap.size=bA:=⟨_,rfl⟩
 rw[hbA]at yA yl yh yx ⊢
 obtain⟨bl,hbl⟩: ∃bl,bA+1=bl:=⟨_,rfl⟩
 rw[hbl]at yl yh yx ⊢
 obtain⟨bh,hbh⟩: ∃bh,bl+1=bh:=⟨_,rfl⟩
 rw[hbh]at yh yx ⊢
 obtain⟨bx,hbx⟩: ∃bx,bh+1=bx:=⟨_,rfl⟩
 rw[hbx]at yx ⊢
 have hge:Hid (w.heap.size≤bx):=hide o_m
 have hA0:=hide yA.out.lt
 have hX0:=hide yx.lt
 replace yx:=hide yx
 replace yl:=hide yl
 replace yh:=hide yh
 clear hbA hbl hbh hbx
 go_cut [7] (fun v7 wc=> ∃(be:Nat) (ze:ZV),v7= .pointer (some ⟨be,0,none⟩)∧w1.heap.size≤be∧Hid (ZB wc be ze.s ze.a ze.l ze.c)∧Hid (Zn wc ze.s ze.a ze.l ze.c (hi+1))∧ze.l≤2147483649∧Hid (Below w1.heap.size w1 wc))
 case first=>
  refine wp_region_held_drew (S:=(fun w'=>w'.cell? ⟨bh,0,none⟩=some (.bool s2)∧w'.cell? ⟨bh,1,none⟩=some (.slice a2 l2 c2))) k_f (⟨(yh.out.below (grow_drew (Below.refl _ _))).c0,(yh.out.below (grow_drew (Below.refl _ _))).c1⟩) (fun hHeld=> ?_)
  show wpAnyH _ _ _ _ _ 5 _ _ _
  have kW:=grow_drew (Below.refl w1.heap.size w1)
  generalize w1.drew=wQ at*
  repeat' first
   |with_reducible exact AllReadyH.nil
   |(
    refine tkz 0 12 ?_
    (try simp only[pz]))
   |(refine wpAnyH_ready (rs:=[1,3]) ?_ ?_ ?_;decide+kernel;simp)
   |(refine wpAnyH_ready (rs:=[2,3]) ?_ ?_ ?_;decide+kernel;simp)
   |(refine wpAnyH_ready (rs:=[3]) ?_ ?_ ?_;decide+kernel;simp)
   |(refine wpAnyH_ready (rs:=[4]) ?_ ?_ ?_;decide+kernel;simp)
   |(refine wpAnyH_ready (rs:=[2]) ?_ ?_ ?_;decide+kernel;simp)
   |(refine wpAnyH_ready (rs:=[1]) ?_ ?_ ?_;decide+kernel;simp)
   |(
    first
     |(
      refine AllReadyH.cons (i:=1) (o:=⟨some 13,_,_,_,_,_⟩) rfl (fun K hK=> ?_) ?_
      go_simp
      go_at_call 66;refine Calls.mono (num19_n 1 o_m o_m _) ?_;rintro e wkA ⟨sA,aA,lA,cA,rfl,hzA,kA,hlA⟩
      try have ye:=ye.below kA
      have kW:=grow_step kA kW
      try go_wp2_with fail)
     |(
      refine AllReadyH.cons (i:=2) (o:=⟨some 14,_,_,_,_,_⟩) rfl (fun K hK=> ?_) ?_
      go_simp
      go_at_call 48;refine Calls.mono (radd2_n (hn.below (grow_step kW kb.out)) hzA.zm o_m o_m) ?_;rintro e wkB ⟨sB,aB,lB,cB,rfl,hzB,kB,hlB⟩
      try have ye:=ye.below kB
      have kW:=grow_step kB kW
      try go_wp2_with fail)
     |(
      refine AllReadyH.cons (i:=3) (o:=⟨some 7,_,_,_,_,_⟩) rfl (fun K hK=> ?_) ?_
      obtain⟨wL,be,eL,ebe,ye,hbe,kL,kW⟩:=al_b kW (.cells #[.bool false,.slice none 0 0] 38)
      replace ye:ZB wL be false none 0 0:=ye
      try have hzA:=hzA.below kL
      try have hzB:=hzB.below kL
      go_simp
      rw[eL.out]
      (try simp only[ebe.out]))
     |(
      refine AllReadyH.cons (i:=4) (o:=⟨none,_,_,_,_,_⟩) rfl (fun K hK=> ?_) ?_
      have f0:=ye.c0
      have f1:=ye.c1
      have f2:=ye.f 0
      have f3:=ye.f 1
      obtain⟨w8x,e8,ye,kZ,hzn,hzb⟩:=fst_z kW hbe ye sB aB lB cB
      have hzB:=hzn _ _ _ _ _ hzB
      go_simp
      rw[e8.out]
      clear f0 f1 f2 f3 hzn hzb
      have kW:=kZ)
    refine hK.out _ _ ?_ ?_
    ·first|with_reducible exact trivial|((try dsimp only);exact⟨(yh.out.below kW).c0,(yh.out.below kW).c1⟩)
    clear hK K hHeld;intro hHeld
    (try simp only[pz]))
  all_goals
   refine wpAnyH_done ?_ ?_ _
   ·decide+kernel
   have t1:=hide ye
   have t2:=hide hzB
   have t3:=hide kW
   have t4:lB≤2147483649:=by omega
   have t5:=hbe
   clear kW hHeld ye hzA hzB
   go_wp2_with fail
   go_meet
   case rel=>exact⟨be,⟨sB,aB,lB,cB⟩,rfl,t5,t1,t2,t4,t3⟩
 case rest=>
 obtain⟨be,ze,rfl,hbe,ye,hze,hzel,k2⟩:=hcut
 generalize wc=w2 at*
 have hAe:Hid (w.heap.size≤be∧bA≠be∧bx≠be):=hide (by have:=hA0.out;have:=hX0.out;have:=kb.out.size;omega)
 replace yA:=hide (yA.out.below k2.out)
 replace yl:=hide (yl.out.below k2.out)
 replace yx:=hide (yx.out.below k2.out)
 replace kb:=hide (grow_step k2.out kb.out)
 clear k2 yh hbe hA0 hX0
 have hno:=hide (rnorm_n (hx.below kb.out) o_m)
 have q0:=yl.out.c0
 have q1:=yl.out.c1
 go_wp2_with fail
 refine hno.out.mono ?_
 rintro e w3 ⟨s1,a1,l1,c1,rfl,hz1,k3,hl1⟩
 have b4:=below_alloc w3 (.cells #[.bool s1,.slice a1 l1 c1] 38)
 have yt:=hide (zb_new w3 s1 a1 l1 c1)
 have hAt:Hid (w.heap.size≤w3.heap.size∧bA≠w3.heap.size∧bx≠w3.heap.size∧be≠w3.heap.size):=hide (by have:=(yA.out.below k3).lt;have:=(yx.out.below k3).lt;have:=(ye.out.below k3).lt;have:=kb.out.size;have:=k3.size;omega)
 replace hz1:=hide (hz1.below b4)
 replace hze:=hide ((hze.out.below k3).below b4)
 replace yA:=hide ((yA.out.below k3).below b4)
 replace ye:=hide ((ye.out.below k3).below b4)
 replace yx:=hide ((yx.out.below k3).below b4)
 replace kb:=hide (grow_step b4 (grow_step k3 kb.out))
 clear b4 k3 hno q0 q1 yl
 go_upto_region 3 with(fail)
 generalize w3.alloc (.cells #[.bool s1,.slice a1 l1 c1] 38)=w4 at*
 obtain⟨bt,hbt⟩: ∃bt,w3.heap.size=bt:=⟨_,rfl⟩
 rw[hbt]at yt hAt ⊢
 clear hbt
 have hnum:=hide (num19_n 0 o_m o_m w4)
 go_wp2_with fail
 refine hnum.out.mono ?_
 rintro e w5 ⟨s3,a3,l3,c3,rfl,hz3,k5,hl3⟩
 have b5:=below_alloc w5 (.cells #[.bool s3,.slice a3 l3 c3] 38)
 have yq:=hide (zb_new w5 s3 a3 l3 c3)
 have hAq:Hid (w.heap.size≤w5.heap.size∧bA≠w5.heap.size∧bx≠w5.heap.size∧be≠w5.heap.size∧bt≠w5.heap.size):=hide (by have:=(yA.out.below k5).lt;have:=(yx.out.below k5).lt;have:=(ye.out.below k5).lt;have:=(yt.out.below k5).lt;have:=kb.out.size;have:=k5.size;omega)
 replace hz3:=hide (hz3.below b5)
 replace hz1:=hide ((hz1.out.below k5).below b5)
 replace hze:=hide ((hze.out.below k5).below b5)
 replace yA:=hide ((yA.out.below k5).below b5)
 replace ye:=hide ((ye.out.below k5).below b5)
 replace yt:=hide ((yt.out.below k5).below b5)
 replace yx:=hide ((yx.out.below k5).below b5)
 replace kb:=hide (grow_step b5 (grow_step k5 kb.out))
 clear b5 k5 hnum
 go_upto_region 4 with(fail)
 generalize w5.alloc (.cells #[.bool s3,.slice a3 l3 c3] 38)=w6 at*
 obtain⟨ba,hba⟩: ∃ba,w5.heap.size=ba:=⟨_,rfl⟩
 rw[hba]at yq hAq ⊢
 clear hba
 have hst:Hid (CtR w w6 E v bA bt ba be bx lo hi ze ⟨s1,a1,l1,c1⟩ ⟨s3,a3,l3,c3⟩ lo):=hide ⟨⟨Int.le_refl _,.inl rfl⟩,⟨yA.out,yx.out⟩,⟨ye.out,hze.out⟩,⟨yt.out,.inl hz1.out,by show l1≤_;omega⟩,⟨yq.out,by rw[show(lo-lo).toNat=0 by omega];exact hz3.out,by show l3≤_;omega,fun _=>by show l3≤_;omega⟩,kb.out⟩
 clear yA ye yt yq yx kb hz1 hz3 hze
 go_loopg [] (hi+1-lo).toNat (fun gk wr=> ∃(zt za:ZV) (at':Int),Hid (CtR w wr E v bA bt ba be bx lo hi ze zt za at')∧gk=(hi+1-at').toNat)
 case atStart=>exact⟨_,_,lo,hst,rfl⟩
 case round=>
  obtain⟨zt,za,at',hc,rfl⟩:=hrel
  clear hst
  have hb:=hide (below19_n (hc.out.2.2.2.1.2.1.zm hc.out.2.2.2.2.2) (by have:=hc.out.2.2.2.1.2.2;omega) hc.out.2.2.1.2.zm o_m)
  have q0:=hc.out.2.2.2.1.1.c0
  have q1:=hc.out.2.2.2.1.1.c1
  have q2:=hc.out.2.2.1.1.c0
  have q3:=hc.out.2.2.1.1.c1
  go_wp2_with fail
  refine hb.out.mono ?_
  rintro e w7 ⟨rfl,k7⟩
  replace hc:=hide (hc.out.below k7)
  clear hb q0 q1 q2 q3 k7
  by_cases hlt:at'<hi+1
  ·rw[decide_eq_true hlt]
   have q2:=hc.out.2.2.1.1.c0
   have q3:=hc.out.2.2.1.1.c1
   have b8:=below_alloc w7 (.cells #[.bool ze.s,.slice ze.a ze.l ze.c] 38)
   have ys:=hide (zb_new w7 ze.s ze.a ze.l ze.c)
   have hsn:Hid (w.heap.size≤w7.heap.size∧bA≠w7.heap.size∧bx≠w7.heap.size∧be≠w7.heap.size∧bt≠w7.heap.size∧ba≠w7.heap.size):=hide (by have:=hc.out.2.1.1.lt;have:=hc.out.2.1.2.lt;have:=hc.out.2.2.1.1.lt;have:=hc.out.2.2.2.1.1.lt;have:=hc.out.2.2.2.2.1.1.lt;have:=hc.out.2.2.2.2.2.size;omega)
   replace hc:=hide (hc.out.below b8)
   clear b8
   go_upto_region 6 with(fail)
   clear q2 q3
   generalize w7.alloc (.cells #[.bool ze.s,.slice ze.a ze.l ze.c] 38)=w8 at*
   obtain⟨bs,hbs⟩: ∃bs,w7.heap.size=bs:=⟨_,rfl⟩
   rw[hbs]at ys hsn ⊢
   clear hbs
   have hwh:=hide (where_n (h.below hc.out.2.2.2.2.2) o_m (hc.out.2.2.2.1.2.1.zm hc.out.2.2.2.2.2) (by have:=hc.out.2.2.2.1.2.2;omega))
   have q0:=hc.out.2.2.2.1.1.c0
   have q1:=hc.out.2.2.2.1.1.c1
   have q2:=hc.out.2.1.1.c0
   have q3:=hc.out.2.1.1.c1
   have q4:=hc.out.2.1.1.c2
   go_wp2_with fail
   refine hwh.out.mono ?_
   rintro e w9 ⟨rfl,k9⟩
   replace hc:=hide (hc.out.below k9)
   replace ys:=hide (ys.out.below k9)
   clear hwh q0 q1 q2 q3 q4 k9
   obtain⟨i,hi'⟩: ∃i,plc E.cs at'=i:=⟨_,rfl⟩
   have hil:i≤v.cn:=by have:=plc_le E.cs at';have:=hcl.out;omega
   rw[hi']
   replace hi':=hide hi'
   have qA1:=hc.out.2.1.1.c1
   have hAl:=hc.out.2.1.1.lt
   go_upto_region 7 with(fail)
   go_cut [38] (fun v38 wc=> ∃bq:Bool,v38= .bool bq∧(bq=true↔ ∃hl:i<E.cs.length,E.cs[i]<hi+1)∧Hid (Below w9.heap.size w9 wc))
   case first=>
    by_cases hic:i<v.cn
    ·have hjl:i<E.cs.length:=by have:=hcl.out;omega
     obtain⟨cb,co,zc,hvc,hcb,e0,e1,hzc,hzcl⟩:=(h.below hc.out.2.2.2.2.2).cu.2 i hic hjl
     rw[hvc]at qA1
     clear hvc
     replace hzc:=hide hzc
     obtain⟨bq,hbd⟩: ∃bq,decide (E.cs[i]<hi+1)=bq:=⟨_,rfl⟩
     have hbq:Hid (bq=true↔ ∃hl:i<E.cs.length,E.cs[i]<hi+1):=hide (by
      rw[←hbd,decide_eq_true_iff]
      exact⟨fun h9=>⟨hjl,h9⟩,fun⟨_,h9⟩=>h9⟩)
     replace hbd:=hide hbd
     refine wp_region_held_drew (S:=(fun w'=>(w'.cell? ⟨be,0,none⟩=some (.bool ze.s)∧w'.cell? ⟨be,1,none⟩=some (.slice ze.a ze.l ze.c))∧w'.cell? ⟨bA,1,none⟩=some (.slice (some ⟨cb,co,none⟩) v.cn v.cc)∧(w'.cell? ⟨cb,co+i*2,none⟩=some (.bool zc.s)∧w'.cell? ⟨cb,co+i*2+1,none⟩=some (.slice zc.a zc.l zc.c)))) k_f (⟨⟨(hc.out.2.2.1.1.below (grow_drew (Below.refl _ _))).c0,(hc.out.2.2.1.1.below (grow_drew (Below.refl _ _))).c1⟩,(Below.cell (p:=⟨bA,1,none⟩) (grow_drew (Below.refl _ _)) hAl).trans qA1,⟨(Below.cell (p:=⟨cb,_,none⟩) (grow_drew (Below.refl _ _)) hcb).trans e0,(Below.cell (p:=⟨cb,_,none⟩) (grow_drew (Below.refl _ _)) hcb).trans e1⟩⟩) (fun hHeld=> ?_)
     show wpAnyH _ _ _ _ _ 14 _ _ _
     have kW:=grow_drew (Below.refl w9.heap.size w9)
     generalize w9.drew=wQ at*
     refine tkz 0 25 ?_
     (try simp only[pz])
     refine tkz 1 26 ?_
     (try simp only[pz])
     refine tkz 2 27 ?_
     (try simp only[pz])
     refine tkz 3 28 ?_
     (try simp only[pz])
     refine tkz 4 29 ?_
     (try simp only[pz])
     refine tkz 5 30 ?_
     (try simp only[pz])
     refine tkz 6 31 ?_
     (try simp only[pz])
     refine tkz 7 32 ?_
     (try simp only[pz])
     refine tkz 8 33 ?_
     (try simp only[pz])
     refine tkz 9 34 ?_
     (try simp only[pz])
     refine tkz 10 35 ?_
     (try simp only[pz])
     refine tkz 11 36 ?_
     (try simp only[pz])
     refine ryz 12 (some 37) (fun K hK=> ?_) AllReadyH.nil
     go_simp
     go_at_call 68;refine Calls.mono (below19_n (hzc.out.below kW) o_m (hc.out.2.2.1.2.zm.below kW) o_m) ?_;rintro e wkA ⟨rfl,kA⟩
     rw[hbd.out]
     have kW:=grow_step kA kW
     try go_wp2_with fail
     refine hK.out _ _ ?_ ?_
     ·first|with_reducible exact trivial|((try dsimp only);exact⟨⟨(hc.out.2.2.1.1.below kW).c0,(hc.out.2.2.1.1.below kW).c1⟩,(Below.cell (p:=⟨bA,1,none⟩) kW hAl).trans qA1,⟨(Below.cell (p:=⟨cb,_,none⟩) kW hcb).trans e0,(Below.cell (p:=⟨cb,_,none⟩) kW hcb).trans e1⟩⟩)
     clear hK K hHeld;intro hHeld
     (try simp only[pz])
     refine tkz 13 38 ?_
     (try simp only[pz])
     refine wpAnyH_done ?_ ?_ _
     ·decide+kernel
     have k9:=hide kW
     clear kW hHeld
     go_wp2_with fail
     go_meet
     case rel=>exact⟨bq,rfl,(by first|exact hbq.out|simpa using hbq.out),k9⟩
    have hic2:decide ((i:Int)<(v.cn:Int))=false:=by rw[decide_eq_false_iff_not];omega
    have hbq:Hid (false=true↔ ∃hl:i<E.cs.length,E.cs[i]<hi+1):=hide ⟨fun h=>(by cases h),fun⟨hl,_⟩=>absurd hl (by have:=hcl.out;omega)⟩
    refine wp_region_held_drew (S:=(fun w'=>w'.cell? ⟨bA,1,none⟩=some (.slice v.ca v.cn v.cc))) k_f ((Below.cell (p:=⟨bA,1,none⟩) (grow_drew (Below.refl _ _)) hAl).trans qA1) (fun hHeld=> ?_)
    show wpAnyH _ _ _ _ _ 14 _ _ _
    have kW:=grow_drew (Below.refl w9.heap.size w9)
    generalize w9.drew=wQ at*
    refine tkz 0 25 ?_
    (try simp only[pz])
    refine tkz 1 26 ?_
    (try simp only[pz])
    refine tkz 2 27 ?_
    (try simp only[pz])
    refine tkz 3 28 ?_
    (try simp only[pz])
    refine tkz 4 29 ?_
    (try simp only[pz])
    refine tkz 5 30 ?_
    (try simp only[pz])
    refine wpAnyH_take (i:=6) (oi:=⟨some 31,_,_,_,_,_⟩) (v:=undef) rfl (by decide+kernel) (by decide+kernel) (by decide+kernel) (fun _ _ _ h=>h) (Or.inr ⟨by rfl,rfl⟩) (by assumption) ?_
    (try simp only[pz])
    refine wpAnyH_take (i:=7) (oi:=⟨some 32,_,_,_,_,_⟩) (v:=undef) rfl (by decide+kernel) (by decide+kernel) (by decide+kernel) (fun _ _ _ h=>h) (Or.inr ⟨by rfl,rfl⟩) (by assumption) ?_
    (try simp only[pz])
    refine wpAnyH_take (i:=8) (oi:=⟨some 33,_,_,_,_,_⟩) (v:=undef) rfl (by decide+kernel) (by decide+kernel) (by decide+kernel) (fun _ _ _ h=>h) (Or.inr ⟨by rfl,rfl⟩) (by assumption) ?_
    (try simp only[pz])
    refine wpAnyH_take (i:=9) (oi:=⟨some 34,_,_,_,_,_⟩) (v:=undef) rfl (by decide+kernel) (by decide+kernel) (by decide+kernel) (fun _ _ _ h=>h) (Or.inr ⟨by rfl,rfl⟩) (by assumption) ?_
    (try simp only[pz])
    refine wpAnyH_take (i:=10) (oi:=⟨some 35,_,_,_,_,_⟩) (v:=undef) rfl (by decide+kernel) (by decide+kernel) (by decide+kernel) (fun _ _ _ h=>h) (Or.inr ⟨by rfl,rfl⟩) (by assumption) ?_
    (try simp only[pz])
    refine wpAnyH_take (i:=11) (oi:=⟨some 36,_,_,_,_,_⟩) (v:=undef) rfl (by decide+kernel) (by decide+kernel) (by decide+kernel) (fun _ _ _ h=>h) (Or.inr ⟨by rfl,rfl⟩) (by assumption) ?_
    (try simp only[pz])
    refine wpAnyH_take (i:=12) (oi:=⟨some 37,_,_,_,_,_⟩) (v:=undef) rfl (by decide+kernel) (by decide+kernel) (by decide+kernel) (fun _ _ _ h=>h) (Or.inr ⟨by rfl,rfl⟩) (by assumption) ?_
    (try simp only[pz])
    refine tkz 13 38 ?_
    (try simp only[pz])
    refine wpAnyH_done ?_ ?_ _
    ·decide+kernel
    have k9:=hide kW
    clear kW hHeld
    go_wp2_with fail
    go_meet
    case rel=>exact⟨false,rfl,(by first|exact hbq.out|simpa using hbq.out),k9⟩
   case rest=>
   obtain⟨bq,rfl,hbq,k10⟩:=hcut
   generalize wc=w10 at*
   replace hc:=hide (hc.out.below k10.out)
   replace ys:=hide (ys.out.below k10.out)
   clear k10 qA1 hAl
   cases bq with
   |true=>
    obtain⟨hjl,hlt9⟩:=hbq.1 rfl
    have hicn:i<v.cn:=by have:=hcl.out;omega
    have hsm:Hid (∀u,at'≤u→u<E.cs[i]→plc E.cs u=plc E.cs at'):=hide fun u h1 h2=>ct_same hwf.out (st:=E.cs[i]) (fun hl=>by
     have e:E.cs[plc E.cs at']=E.cs[i]:=by congr 1 <;> exact hi'.out
     omega) h1 h2
    have hpm:Hid (E.cs[i]<hi+1→plc E.cs at'+1≤plc E.cs E.cs[i]):=hide fun _=>by rw[plc_cut hwf.out.up hjl,hi'.out];omega
    have hst1:at'<E.cs[i]:=nx_lt hwf.out hi'.out hjl
    have hst2:E.cs[i]≤hi+1:=by omega
    obtain⟨cb,co,zc,hvc,hcb0,d0,d1,hzc,hzcl⟩:=h.cu.2 i hicn hjl
    have e0:=(Below.cell (p:=⟨cb,_,none⟩) hc.out.2.2.2.2.2 hcb0).trans d0
    have e1:=(Below.cell (p:=⟨cb,_,none⟩) hc.out.2.2.2.2.2 hcb0).trans d1
    have p1:=hc.out.2.1.1.c1
    rw[hvc]at p1
    clear hvc d0 d1 hcb0
    have p2:=ys.out.c0
    have p3:=ys.out.c1
    have p4:=ys.out.f 0
    have p5:=ys.out.f 1
    obtain⟨w11,e11,y11,k11,o11,hzn⟩:=Pd.est_z hc.out.2.2.2.2.2 hsn.out.1 ys.out zc.s zc.a zc.l zc.c
    replace hc:=hide (hc.out.set o11 hsn.out.2 hzn k11)
    have hzs:Hid (Zq w w11 zc E.cs[i]):=hide (.inr hzc)
    replace ys:=hide y11
    have hzsl:zc.l≤2147483649:=by omega
    generalize E.cs[i]=st at*
    clear hbq hzn o11 k11 y11 hzc hlt9
    go_upto_region 8 with(fail)
    go_wp2_with fail
    rw[e11.out]
    clear p1 p2 p3 p4 p5 e0 e1 e11
    generalize zc=zs at*
    have hdn:Hid ((((st-at').toNat:Nat):Int)=st-at'):=hide o_m
    have hsk:Hid (∀k:Nat,k<(st-at').toNat→plc E.cs (at'+k)=plc E.cs at'):=hide fun k hk=>hsm.out _ o_m o_m
    have hctm:Hid (cntm (mm E) lo (at'-lo).toNat+cntm (mm E) at' (st-at').toNat=cntm (mm E) lo (st-lo).toNat):=hide (ct_more E (by have:=hc.out.1;omega) o_m)
    have hzal:za.l≤2147483680+plc E.cs at':=hc.out.2.2.2.2.1.2.2.2 hlt
    have hpll:plc E.cs at'≤v.cn:=by rw[hi'.out];exact hil
    have hztl:=hc.out.2.2.2.1.2.2
    have hlo:lo≤at':=hc.out.1.1
    clear hsm
    go_upto_region 9 with(fail)
    go_cut [] (fun wc=> ∃zb:ZV,Hid (CtS w wc E v bA bt ba be bx bs lo hi ze zt zb zs st))
    case first=>
     refine wp_region_held_drew (S:=(fun w'=>(w'.cell? ⟨bA,0,none⟩=some (.int .i64 E.p)∧w'.cell? ⟨bA,1,none⟩=some (.slice v.ca v.cn v.cc)∧w'.cell? ⟨bA,2,none⟩=some (.slice v.ra v.rn v.rc))∧(w'.cell? ⟨bt,0,none⟩=some (.bool zt.s)∧w'.cell? ⟨bt,1,none⟩=some (.slice zt.a zt.l zt.c))∧(w'.cell? ⟨bs,0,none⟩=some (.bool zs.s)∧w'.cell? ⟨bs,1,none⟩=some (.slice zs.a zs.l zs.c)))) k_f (⟨⟨(hc.out.2.1.1.below (grow_drew (Below.refl _ _))).c0,(hc.out.2.1.1.below (grow_drew (Below.refl _ _))).c1,(hc.out.2.1.1.below (grow_drew (Below.refl _ _))).c2⟩,⟨(hc.out.2.2.2.1.1.below (grow_drew (Below.refl _ _))).c0,(hc.out.2.2.2.1.1.below (grow_drew (Below.refl _ _))).c1⟩,⟨(ys.out.below (grow_drew (Below.refl _ _))).c0,(ys.out.below (grow_drew (Below.refl _ _))).c1⟩⟩) (fun hHeld=> ?_)
     show wpAnyH _ _ _ _ _ 9 _ _ _
     have kW:=grow_drew (Below.refl w11.heap.size w11)
     generalize w11.drew=wQ at*
     repeat' first
      |with_reducible exact AllReadyH.nil
      |(
       refine tkz 1 45 ?_
       (try simp only[pz]))
      |(
       refine tkz 2 46 ?_
       (try simp only[pz]))
      |(
       refine tkz 3 47 ?_
       (try simp only[pz]))
      |(
       refine tkz 4 48 ?_
       (try simp only[pz]))
      |(refine wpAnyH_ready (rs:=[0,5]) ?_ ?_ ?_;decide+kernel;simp)
      |(refine wpAnyH_ready (rs:=[5]) ?_ ?_ ?_;decide+kernel;simp)
      |(refine wpAnyH_ready (rs:=[6]) ?_ ?_ ?_;decide+kernel;simp)
      |(refine wpAnyH_ready (rs:=[7]) ?_ ?_ ?_;decide+kernel;simp)
      |(refine wpAnyH_ready (rs:=[8]) ?_ ?_ ?_;decide+kernel;simp)
      |(refine wpAnyH_ready (rs:=[0,6]) ?_ ?_ ?_;decide+kernel;simp)
      |(refine wpAnyH_ready (rs:=[0]) ?_ ?_ ?_;decide+kernel;simp)
      |(
       first
        |(
         refine AllReadyH.cons (i:=0) (o:=⟨some 44,_,_,_,_,_⟩) rfl (fun K hK=> ?_) ?_
         have f0:=(hc.out.2.2.2.2.1.1.below kW).c0
         have f1:=(hc.out.2.2.2.2.1.1.below kW).c1
         go_simp
         clear f0 f1)
        |(
         refine AllReadyH.cons (i:=5) (o:=⟨some 49,_,_,_,_,_⟩) rfl (fun K hK=> ?_) ?_
         go_simp
         go_at_call 53;refine Calls.mono (rsub2_n ((hzs.out.below kW).zm (grow_step kW hc.out.2.2.2.2.2)) ((hc.out.2.2.2.1.2.1.below kW).zm (grow_step kW hc.out.2.2.2.2.2)) o_m o_m) ?_;rintro e wkA ⟨sA,aA,lA,cA,rfl,hzA,kA,hlA⟩
         have kW:=grow_step kA kW
         try go_wp2_with fail)
        |(
         refine AllReadyH.cons (i:=6) (o:=⟨some 50,_,_,_,_,_⟩) rfl (fun K hK=> ?_) ?_
         go_simp
         go_at_call 70;refine Calls.mono (part19_n (n:=(st-at').toNat) (h.below (grow_step kW hc.out.2.2.2.2.2)) hcn ((hc.out.2.2.2.1.2.1.below kW).zm (grow_step kW hc.out.2.2.2.2.2)) o_m (by rw[hdn.out];exact hzA.zm) o_m hsk.out) ?_;rintro e wkB ⟨sB,aB,lB,cB,rfl,hzB,kB,hlB⟩
         have kW:=grow_step kB kW
         try go_wp2_with fail)
        |(
         refine AllReadyH.cons (i:=7) (o:=⟨some 51,_,_,_,_,_⟩) rfl (fun K hK=> ?_) ?_
         go_simp
         go_at_call 48;refine Calls.mono (radd2_n (hc.out.2.2.2.2.1.2.1.below kW).zm hzB.zm o_m o_m) ?_;rintro e wkC ⟨sC,aC,lC,cC,rfl,hzC,kC,hlC⟩
         have kW:=grow_step kC kW
         try go_wp2_with fail)
        |(
         refine AllReadyH.cons (i:=8) (o:=⟨none,_,_,_,_,_⟩) rfl (fun K hK=> ?_) ?_
         have yqK:=hc.out.2.2.2.2.1.1.below kW
         have f0:=yqK.c0
         have f1:=yqK.c1
         have f2:=yqK.f 0
         have f3:=yqK.f 1
         obtain⟨wE,eE,yE,kE,oE,hznE⟩:=Pd.est_z (grow_step kW hc.out.2.2.2.2.2) hAq.out.1 yqK sC aC lC cC
         have hzE:=hznE _ _ _ _ _ hzC
         have hAE:=(hc.out.2.1.1.below kW).only oE hAq.out.2.1
         have hXE:=(hc.out.2.1.2.below kW).only oE hAq.out.2.2.1
         have heE:=(hc.out.2.2.1.1.below kW).only oE hAq.out.2.2.2.1
         have hnE:=hznE _ _ _ _ _ (hc.out.2.2.1.2.below kW)
         have htE:=(hc.out.2.2.2.1.1.below kW).only oE hAq.out.2.2.2.2
         have hsE:=(ys.out.below kW).only oE hsn.out.2.2.2.2.2.symm
         have hqE:=(hzs.out.below kW).set hznE
         have hS8:(wE.cell? ⟨bA,0,none⟩=some (.int .i64 E.p)∧wE.cell? ⟨bA,1,none⟩=some (.slice v.ca v.cn v.cc)∧wE.cell? ⟨bA,2,none⟩=some (.slice v.ra v.rn v.rc))∧(wE.cell? ⟨bt,0,none⟩=some (.bool zt.s)∧wE.cell? ⟨bt,1,none⟩=some (.slice zt.a zt.l zt.c))∧(wE.cell? ⟨bs,0,none⟩=some (.bool zs.s)∧wE.cell? ⟨bs,1,none⟩=some (.slice zs.a zs.l zs.c)):=⟨⟨hAE.c0,hAE.c1,hAE.c2⟩,⟨htE.c0,htE.c1⟩,⟨hsE.c0,hsE.c1⟩⟩
         go_simp
         rw[eE.out]
         clear f0 f1 f2 f3 hznE)
       refine hK.out _ _ ?_ ?_
       ·first|with_reducible exact trivial|((try dsimp only);exact(by first|exact⟨⟨(hc.out.2.1.1.below kW).c0,(hc.out.2.1.1.below kW).c1,(hc.out.2.1.1.below kW).c2⟩,⟨(hc.out.2.2.2.1.1.below kW).c0,(hc.out.2.2.2.1.1.below kW).c1⟩,⟨(ys.out.below kW).c0,(ys.out.below kW).c1⟩⟩|exact hS8))
       clear hK K hHeld;intro hHeld
       (try simp only[pz]))
     all_goals
      refine wpAnyH_done ?_ ?_ _
      ·decide+kernel
      have hfin:Hid (CtS w wE E v bA bt ba be bx bs lo hi ze zt ⟨sC,aC,lC,cC⟩ zs st):=hide ⟨⟨hAE,hXE⟩,⟨heE,hnE⟩,htE,⟨hsE,hqE⟩,⟨yE,by rw[←hctm.out,Int.natCast_add];exact hzE,by show lC≤_;omega,fun h9=>by have:=hpm.out h9;show lC≤_;omega⟩,kE⟩
      clear hHeld hAE hXE heE hnE htE hsE hqE hzE yE kE oE hS8
      go_wp2_with fail
      go_meet
      case rel=>exact⟨_,hfin⟩
    case rest=>
    obtain⟨zb,hs⟩:=hcut
    generalize wc=w12 at*
    clear hc ys hzs hdn hsk hctm
    have q0:=hs.out.2.2.2.1.1.c0
    have q1:=hs.out.2.2.2.1.1.c1
    have p2:=hs.out.2.2.1.c0
    have p3:=hs.out.2.2.1.c1
    have p4:=hs.out.2.2.1.f 0
    have p5:=hs.out.2.2.1.f 1
    obtain⟨w13,e13,y13,k13,o13,hzn⟩:=Pd.est_z hs.out.2.2.2.2.2 hAt.out.1 hs.out.2.2.1 zs.s zs.a zs.l zs.c
    have hfin:Hid (CtR w w13 E v bA bt ba be bx lo hi ze zs zb st):=hide ⟨⟨by omega,.inr hst2⟩,⟨hs.out.1.1.only o13 hAt.out.2.1,hs.out.1.2.only o13 hAt.out.2.2.1⟩,⟨hs.out.2.1.1.only o13 hAt.out.2.2.2,hzn _ _ _ _ _ hs.out.2.1.2⟩,⟨y13,hs.out.2.2.2.1.2.set hzn,hzsl⟩,⟨hs.out.2.2.2.2.1.1.only o13 hAq.out.2.2.2.2.symm,hzn _ _ _ _ _ hs.out.2.2.2.2.1.2.1,hs.out.2.2.2.2.1.2.2⟩,k13⟩
    clear y13 k13 o13 hzn hs
    go_wp2_with fail
    rw[e13.out]
    go_roundg (hi+1-st).toNat
    case measure=>omega
    case rel=>exact⟨zs,zb,st,hfin,rfl⟩
   |false=>
    obtain⟨st,hst⟩: ∃st,st=hi+1:=⟨_,rfl⟩
    have hsm:Hid (∀u,at'≤u→u<st→plc E.cs u=plc E.cs at'):=hide fun u h1 h2=>ct_same hwf.out (fun hl=>by
     rcases Int.lt_or_le E.cs[plc E.cs at'] (hi+1)with h3|h3
     ·have hl2:i<E.cs.length:=by rw[←hi'.out];exact hl
      have e:E.cs[plc E.cs at']=E.cs[i]:=by congr 1 <;> exact hi'.out
      exact absurd (hbq.2 ⟨hl2,by rw[←e];exact h3⟩) (by decide)
     omega) h1 h2
    have hpm:Hid (st<hi+1→plc E.cs at'+1≤plc E.cs st):=hide fun h9=>absurd h9 o_m
    have hst1:at'<st:=by omega
    have hst2:st≤hi+1:=by omega
    have hzs:Hid (Zq w w10 ze st):=hide (.inl (by rw[hst];exact hc.out.2.2.1.2))
    have hzsl:=hzel
    clear hbq hst
    obtain⟨zs,hzse⟩: ∃zs,ze=zs:=⟨_,rfl⟩
    rw[hzse]at hzs ys hzsl
    clear hzse
    have hdn:Hid ((((st-at').toNat:Nat):Int)=st-at'):=hide o_m
    have hsk:Hid (∀k:Nat,k<(st-at').toNat→plc E.cs (at'+k)=plc E.cs at'):=hide fun k hk=>hsm.out _ o_m o_m
    have hctm:Hid (cntm (mm E) lo (at'-lo).toNat+cntm (mm E) at' (st-at').toNat=cntm (mm E) lo (st-lo).toNat):=hide (ct_more E (by have:=hc.out.1;omega) o_m)
    have hzal:za.l≤2147483680+plc E.cs at':=hc.out.2.2.2.2.1.2.2.2 hlt
    have hpll:plc E.cs at'≤v.cn:=by rw[hi'.out];exact hil
    have hztl:=hc.out.2.2.2.1.2.2
    have hlo:lo≤at':=hc.out.1.1
    clear hsm
    go_upto_region 9 with(fail)
    go_cut [] (fun wc=> ∃zb:ZV,Hid (CtS w wc E v bA bt ba be bx bs lo hi ze zt zb zs st))
    case first=>
     refine wp_region_held_drew (S:=(fun w'=>(w'.cell? ⟨bA,0,none⟩=some (.int .i64 E.p)∧w'.cell? ⟨bA,1,none⟩=some (.slice v.ca v.cn v.cc)∧w'.cell? ⟨bA,2,none⟩=some (.slice v.ra v.rn v.rc))∧(w'.cell? ⟨bt,0,none⟩=some (.bool zt.s)∧w'.cell? ⟨bt,1,none⟩=some (.slice zt.a zt.l zt.c))∧(w'.cell? ⟨bs,0,none⟩=some (.bool zs.s)∧w'.cell? ⟨bs,1,none⟩=some (.slice zs.a zs.l zs.c)))) k_f (⟨⟨(hc.out.2.1.1.below (grow_drew (Below.refl _ _))).c0,(hc.out.2.1.1.below (grow_drew (Below.refl _ _))).c1,(hc.out.2.1.1.below (grow_drew (Below.refl _ _))).c2⟩,⟨(hc.out.2.2.2.1.1.below (grow_drew (Below.refl _ _))).c0,(hc.out.2.2.2.1.1.below (grow_drew (Below.refl _ _))).c1⟩,⟨(ys.out.below (grow_drew (Below.refl _ _))).c0,(ys.out.below (grow_drew (Below.refl _ _))).c1⟩⟩) (fun hHeld=> ?_)
     show wpAnyH _ _ _ _ _ 9 _ _ _
     have kW:=grow_drew (Below.refl w10.heap.size w10)
     generalize w10.drew=wQ at*
     repeat' first
      |with_reducible exact AllReadyH.nil
      |(
       refine tkz 1 45 ?_
       (try simp only[pz]))
      |(
       refine tkz 2 46 ?_
       (try simp only[pz]))
      |(
       refine tkz 3 47 ?_
       (try simp only[pz]))
      |(
       refine tkz 4 48 ?_
       (try simp only[pz]))
      |(refine wpAnyH_ready (rs:=[0,5]) ?_ ?_ ?_;decide+kernel;simp)
      |(refine wpAnyH_ready (rs:=[5]) ?_ ?_ ?_;decide+kernel;simp)
      |(refine wpAnyH_ready (rs:=[6]) ?_ ?_ ?_;decide+kernel;simp)
      |(refine wpAnyH_ready (rs:=[7]) ?_ ?_ ?_;decide+kernel;simp)
      |(refine wpAnyH_ready (rs:=[8]) ?_ ?_ ?_;decide+kernel;simp)
      |(refine wpAnyH_ready (rs:=[0,6]) ?_ ?_ ?_;decide+kernel;simp)
      |(refine wpAnyH_ready (rs:=[0]) ?_ ?_ ?_;decide+kernel;simp)
      |(
       first
        |(
         refine AllReadyH.cons (i:=0) (o:=⟨some 44,_,_,_,_,_⟩) rfl (fun K hK=> ?_) ?_
         have f0:=(hc.out.2.2.2.2.1.1.below kW).c0
         have f1:=(hc.out.2.2.2.2.1.1.below kW).c1
         go_simp
         clear f0 f1)
        |(
         refine AllReadyH.cons (i:=5) (o:=⟨some 49,_,_,_,_,_⟩) rfl (fun K hK=> ?_) ?_
         go_simp
         go_at_call 53;refine Calls.mono (rsub2_n ((hzs.out.below kW).zm (grow_step kW hc.out.2.2.2.2.2)) ((hc.out.2.2.2.1.2.1.below kW).zm (grow_step kW hc.out.2.2.2.2.2)) o_m o_m) ?_;rintro e wkA ⟨sA,aA,lA,cA,rfl,hzA,kA,hlA⟩
         have kW:=grow_step kA kW
         try go_wp2_with fail)
        |(
         refine AllReadyH.cons (i:=6) (o:=⟨some 50,_,_,_,_,_⟩) rfl (fun K hK=> ?_) ?_
         go_simp
         go_at_call 70;refine Calls.mono (part19_n (n:=(st-at').toNat) (h.below (grow_step kW hc.out.2.2.2.2.2)) hcn ((hc.out.2.2.2.1.2.1.below kW).zm (grow_step kW hc.out.2.2.2.2.2)) o_m (by rw[hdn.out];exact hzA.zm) o_m hsk.out) ?_;rintro e wkB ⟨sB,aB,lB,cB,rfl,hzB,kB,hlB⟩
         have kW:=grow_step kB kW
         try go_wp2_with fail)
        |(
         refine AllReadyH.cons (i:=7) (o:=⟨some 51,_,_,_,_,_⟩) rfl (fun K hK=> ?_) ?_
         go_simp
         go_at_call 48;refine Calls.mono (radd2_n (hc.out.2.2.2.2.1.2.1.below kW).zm hzB.zm o_m o_m) ?_;rintro e wkC ⟨sC,aC,lC,cC,rfl,hzC,kC,hlC⟩
         have kW:=grow_step kC kW
         try go_wp2_with fail)
        |(
         refine AllReadyH.cons (i:=8) (o:=⟨none,_,_,_,_,_⟩) rfl (fun K hK=> ?_) ?_
         have yqK:=hc.out.2.2.2.2.1.1.below kW
         have f0:=yqK.c0
         have f1:=yqK.c1
         have f2:=yqK.f 0
         have f3:=yqK.f 1
         obtain⟨wE,eE,yE,kE,oE,hznE⟩:=Pd.est_z (grow_step kW hc.out.2.2.2.2.2) hAq.out.1 yqK sC aC lC cC
         have hzE:=hznE _ _ _ _ _ hzC
         have hAE:=(hc.out.2.1.1.below kW).only oE hAq.out.2.1
         have hXE:=(hc.out.2.1.2.below kW).only oE hAq.out.2.2.1
         have heE:=(hc.out.2.2.1.1.below kW).only oE hAq.out.2.2.2.1
         have hnE:=hznE _ _ _ _ _ (hc.out.2.2.1.2.below kW)
         have htE:=(hc.out.2.2.2.1.1.below kW).only oE hAq.out.2.2.2.2
         have hsE:=(ys.out.below kW).only oE hsn.out.2.2.2.2.2.symm
         have hqE:=(hzs.out.below kW).set hznE
         have hS8:(wE.cell? ⟨bA,0,none⟩=some (.int .i64 E.p)∧wE.cell? ⟨bA,1,none⟩=some (.slice v.ca v.cn v.cc)∧wE.cell? ⟨bA,2,none⟩=some (.slice v.ra v.rn v.rc))∧(wE.cell? ⟨bt,0,none⟩=some (.bool zt.s)∧wE.cell? ⟨bt,1,none⟩=some (.slice zt.a zt.l zt.c))∧(wE.cell? ⟨bs,0,none⟩=some (.bool zs.s)∧wE.cell? ⟨bs,1,none⟩=some (.slice zs.a zs.l zs.c)):=⟨⟨hAE.c0,hAE.c1,hAE.c2⟩,⟨htE.c0,htE.c1⟩,⟨hsE.c0,hsE.c1⟩⟩
         go_simp
         rw[eE.out]
         clear f0 f1 f2 f3 hznE)
       refine hK.out _ _ ?_ ?_
       ·first|with_reducible exact trivial|((try dsimp only);exact(by first|exact⟨⟨(hc.out.2.1.1.below kW).c0,(hc.out.2.1.1.below kW).c1,(hc.out.2.1.1.below kW).c2⟩,⟨(hc.out.2.2.2.1.1.below kW).c0,(hc.out.2.2.2.1.1.below kW).c1⟩,⟨(ys.out.below kW).c0,(ys.out.below kW).c1⟩⟩|exact hS8))
       clear hK K hHeld;intro hHeld
       (try simp only[pz]))
     all_goals
      refine wpAnyH_done ?_ ?_ _
      ·decide+kernel
      have hfin:Hid (CtS w wE E v bA bt ba be bx bs lo hi ze zt ⟨sC,aC,lC,cC⟩ zs st):=hide ⟨⟨hAE,hXE⟩,⟨heE,hnE⟩,htE,⟨hsE,hqE⟩,⟨yE,by rw[←hctm.out,Int.natCast_add];exact hzE,by show lC≤_;omega,fun h9=>by have:=hpm.out h9;show lC≤_;omega⟩,kE⟩
      clear hHeld hAE hXE heE hnE htE hsE hqE hzE yE kE oE hS8
      go_wp2_with fail
      go_meet
      case rel=>exact⟨_,hfin⟩
    case rest=>
    obtain⟨zb,hs⟩:=hcut
    generalize wc=w12 at*
    clear hc ys hzs hdn hsk hctm
    have q0:=hs.out.2.2.2.1.1.c0
    have q1:=hs.out.2.2.2.1.1.c1
    have p2:=hs.out.2.2.1.c0
    have p3:=hs.out.2.2.1.c1
    have p4:=hs.out.2.2.1.f 0
    have p5:=hs.out.2.2.1.f 1
    obtain⟨w13,e13,y13,k13,o13,hzn⟩:=Pd.est_z hs.out.2.2.2.2.2 hAt.out.1 hs.out.2.2.1 zs.s zs.a zs.l zs.c
    have hfin:Hid (CtR w w13 E v bA bt ba be bx lo hi ze zs zb st):=hide ⟨⟨by omega,.inr hst2⟩,⟨hs.out.1.1.only o13 hAt.out.2.1,hs.out.1.2.only o13 hAt.out.2.2.1⟩,⟨hs.out.2.1.1.only o13 hAt.out.2.2.2,hzn _ _ _ _ _ hs.out.2.1.2⟩,⟨y13,hs.out.2.2.2.1.2.set hzn,hzsl⟩,⟨hs.out.2.2.2.2.1.1.only o13 hAq.out.2.2.2.2.symm,hzn _ _ _ _ _ hs.out.2.2.2.2.1.2.1,hs.out.2.2.2.2.1.2.2⟩,k13⟩
    clear y13 k13 o13 hzn hs
    go_wp2_with fail
    rw[e13.out]
    go_roundg (hi+1-st).toNat
    case measure=>omega
    case rel=>exact⟨zs,zb,st,hfin,rfl⟩
  rw[decide_eq_false hlt]
  have hval:Hid (cntm (mm E) lo (at'-lo).toNat=cntI (mm E) lo hi):=hide (by
   have:=hc.out.1
   unfold cntI
   congr 1
   omega)
  have hza:=hide hc.out.2.2.2.2.1
  have q0:=hza.out.1.c0
  have q1:=hza.out.1.c1
  have q2:=hc.out.2.1.2.c0
  have q3:=hc.out.2.1.2.c1
  have q4:=hc.out.2.1.2.f 0
  have q5:=hc.out.2.1.2.f 1
  obtain⟨w8,e8,y8,k8,o8,hzn⟩:=Pd.est_z hc.out.2.2.2.2.2 hge.out hc.out.2.1.2 za.s za.a za.l za.c
  have hans:Hid (Zn w8 za.s za.a za.l za.c (cntI (mm E) lo hi:Nat)∧za.l≤2415919200):=hide ⟨by rw[←hval.out];exact hzn _ _ _ _ _ hza.out.2.1,by have:=hza.out.2.2.1;omega⟩
  replace k8:=hide k8
  replace y8:=hide y8
  clear hzn o8 hc hza
  go_wp2_with fail
  rw[e8.out]
  go_wp2
  refine bodyPost_ret (results_cell_row rfl _ _ bx 38 _ (0,0) _ rfl y8.out Tryz.underlying38 rfl k_f) rfl ?_
  exact⟨_,_,_,_,rfl,hans.out.1,k8.out,hans.out.2⟩
end Cr
namespace Cr
open Pd (SN SV ZV plc plc_le al_b)

theorem NsE.one {w':World}{e:Ending}{f:Int→Bool}{x:Int}{B:Nat}(h:NsE w' e f x B): ∃(z:ZV) (b:Bool),e= .returned (.tuple #[.agg #[.bool z.s,.slice z.a z.l z.c],.bool b])∧
  ((b=true∧∃u,x≤u∧(∀t,x≤t→t<u→f t=false)∧f u=true∧Zn w' z.s z.a z.l z.c u∧z.l≤B)∨(b=false∧z=⟨false,none,0,0⟩∧∀t,x≤t→f t=false)):=by
 rcases h with⟨u,z,h1,h2,h3,rfl,h4,h5⟩|⟨h1,rfl⟩
 ·exact⟨z,true,rfl,.inl ⟨rfl,u,h1,h2,h3,h4,h5⟩⟩
 exact⟨⟨false,none,0,0⟩,false,rfl,.inr ⟨rfl,rfl,h1⟩⟩
def LeE (f:Int→Bool)(w':World)(z:ZV)(b:Bool):Prop:=(b=true→∃u,(∀t,t<u→f t=false)∧f u=true∧Zn w' z.s z.a z.l z.c u∧z.l≤2147483649)∧
 (b=false→z=⟨false,none,0,0⟩∧((∀lo:Int,∃u,u<lo∧f u=true)∨ ∀u,f u=false))
theorem le_next {f:Int→Bool}{w':World}{z:ZV}{b:Bool}{x:Int}(h0: ∀t,t<x→f t=false)(h:(b=true∧∃u,x≤u∧(∀t,x≤t→t<u→f t=false)∧f u=true∧Zn w' z.s z.a z.l z.c u∧z.l≤2147483649)∨(b=false∧z=⟨false,none,0,0⟩∧∀t,x≤t→f t=false)):LeE f w' z b:=by
 rcases h with⟨rfl,u,h1,h2,h3,h4,h5⟩|⟨rfl,rfl,h1⟩
 ·refine⟨fun _=>⟨u,fun t ht=> ?_,h3,h4,h5⟩,fun h=>(by cases h)⟩
  by_cases e:t<x
  ·exact h0 t e
  exact h2 t o_m ht
 refine⟨fun h=>(by cases h),fun _=>⟨rfl,.inr fun u=> ?_⟩⟩
 by_cases e:u<x
 ·exact h0 u e
 exact h1 u o_m
theorem low_inf {E:RE}(h:Wr E){j:Nat}(hj:j<E.p)(hb:bit (row E 0) j=true)(lo:Int): ∃u,u<lo∧mm E u=true:=by
 have hp:(0:Int)<(E.p:Int):=by have:=h.p1;omega
 obtain⟨m,hm1,hm2⟩: ∃m:Int,m<lo∧∀c∈E.cs,m<c:=by
  clear hb
  generalize E.cs=cs
  induction cs with
  |nil=>exact⟨lo-1,by omega,fun c hc=>absurd hc List.not_mem_nil⟩
  |cons c cs ih=>
   obtain⟨m,h1,h2⟩:=ih
   refine⟨min m (c-1),by omega,fun d hd=> ?_⟩
   rcases List.mem_cons.1 hd with rfl|hd
   ·omega
   have:=h2 d hd;omega
 refine⟨m-(m-j)%(E.p:Int),?_,?_⟩
 ·have:=Int.emod_nonneg (m-j) (show(E.p:Int)≠0 by omega);omega
 have h1:=Int.emod_nonneg (m-j) (show(E.p:Int)≠0 by omega)
 have e0:plc E.cs (m-(m-j)%(E.p:Int))=0:=by
  refine List.countP_eq_zero.2 fun c hc=> ?_
  have:=hm2 c hc
  simp
  omega
 have e1:(m-(m-j)%(E.p:Int))%(E.p:Int)=(j:Int):=by
  have h2:m-(m-j)%(E.p:Int)=j+(E.p:Int)*((m-j) / (E.p:Int)):=by
   have:=Int.mul_ediv_add_emod (m-j) (E.p:Int)
   omega
  rw[h2,Int.add_mul_emod_self_left]
  exact Int.emod_eq_of_lt o_m o_m
 unfold mm rowAt
 rw[e0,e1]
 exact hb
theorem low_no {E:RE}(h:Wr E)(hb: ∀j,j<E.p→bit (row E 0) j=false){u:Int}(hu: ∀c∈E.cs,u<c):mm E u=false:=by
 have e0:plc E.cs u=0:=by
  refine List.countP_eq_zero.2 fun c hc=> ?_
  have:=hu c hc
  simp
  omega
 unfold mm rowAt
 rw[e0]
 exact hb _ (md_lt h.p1 _)
theorem least19_n {w:World}{v:SV}{E:RE}(h:RS w v E)(hcn:v.cn≤134217728):
  Calls Tryz.prog 29 #[.agg #[.int .i64 E.p,.slice v.ca v.cn v.cc,.slice v.ra v.rn v.rc]] w fun e w'=> ∃(z:ZV) (b:Bool),e= .returned (.tuple #[.agg #[.bool z.s,.slice z.a z.l z.c],.bool b])∧LeE (mm E) w' z b∧Below w.heap.size w w':=by
 have b0:=below_alloc w (.cells #[.int .i64 E.p,.slice v.ca v.cn v.cc,.slice v.ra v.rn v.rc] 30)
 have b1:=below_alloc (w.alloc (.cells #[.int .i64 E.p,.slice v.ca v.cn v.cc,.slice v.ra v.rn v.rc] 30)) (.cells #[.bool false,.slice none 0 0] 38)
 have kb:=hide (grow_step b1 b0)
 have yA:=hide ((sbr_new w E.p v).below b1)
 have yx:=zb_new (w.alloc (.cells #[.int .i64 E.p,.slice v.ca v.cn v.cc,.slice v.ra v.rn v.rc] 30)) false none 0 0
 have hs1:(w.alloc (.cells #[.int .i64 E.p,.slice v.ca v.cn v.cc,.slice v.ra v.rn v.rc] 30)).heap.size=w.heap.size+1:=by simp
 rw[hs1]at yx
 have hwf:=hide h.wf
 have hp1:=h.wf.p1
 have hp2:=h.wf.p2
 have hrn:=hide h.rn
 have hcl:=hide h.cn
 go_enter Tryz.func29,Tryz.ntmps29
 go_upto_region 1 with(fail)
 clear b0 b1 hs1
 generalize (w.alloc (.cells #[.int .i64 E.p,.slice v.ca v.cn v.cc,.slice v.ra v.rn v.rc] 30)).alloc (.cells #[.bool false,.slice none 0 0] 38)=w1 at*
 obtain⟨bA,hbA⟩: ∃bA,w.heap.size=bA:=⟨_,rfl⟩
 rw[hbA]at yA yx ⊢
 obtain⟨bx,hbx⟩: ∃bx,bA+1=bx:=⟨_,rfl⟩
 rw[hbx]at yx ⊢
 have hge:Hid (w.heap.size≤bx):=hide o_m
 have hAx:Hid (bA≠bx):=hide o_m
 replace yx:=hide yx
 clear hbA hbx
 obtain⟨rA,oA,gA,hvA,hrA,cR,hgA,hlA⟩:=(h.below kb.out).row (i:=0) o_m
 rw[Nat.add_zero]at cR
 have hem:=hide (empty_n hgA hlA o_m)
 have q2:=yA.out.c2
 rw[hvA]at q2
 have hrn0:0<v.rn:=by have:=hrn.out;omega
 clear hvA
 go_wp2_with fail
 refine hem.out.mono ?_
 rintro e w2 ⟨low,rfl,hlw,k2⟩
 replace yA:=hide (yA.out.below k2)
 replace yx:=hide (yx.out.below k2)
 replace kb:=hide (grow_step k2 kb.out)
 clear k2 hem q2 cR hgA hrA hrn0
 cases low with
 |false=>
  have hans:Hid (LeE (mm E) w2 ⟨false,none,0,0⟩ false):=hide ⟨fun h=>(by cases h),fun _=>⟨rfl,.inl fun lo=>by
   have hne: ¬ ∀j,j<E.p→bit (row E 0) j=false:=fun h9=>by have:=hlw.2 h9;cases this
   obtain⟨j,hj⟩:=Classical.not_forall.1 hne
   obtain⟨hj1,hj2⟩:=Classical.not_imp.1 hj
   exact low_inf hwf.out hj1 (by simpa using hj2) lo⟩⟩
  clear hlw
  obtain⟨w8,e8,y8,k8,o8,hzn⟩:=Pd.est_z kb.out hge.out yx.out false none 0 0
  have hans2:Hid (LeE (mm E) w8 ⟨false,none,0,0⟩ false):=hide ⟨fun h=>(by cases h),hans.out.2⟩
  have f0:=yx.out.c0
  have f1:=yx.out.c1
  have f2:=yx.out.f 0
  have f3:=yx.out.f 1
  replace k8:=hide k8
  replace y8:=hide y8
  clear hans o8 hzn
  go_wp2_with fail
  rw[e8.out]
  go_wp2
  refine bodyPost_ret (results_ct rfl _ _ bx 38 _ (0,0) _ rfl y8.out Tryz.underlying38 rfl k_f) rfl ?_
  exact⟨⟨false,none,0,0⟩,false,rfl,hans2.out,k8.out⟩
 |true=>
  have hrow:=hide (hlw.1 rfl)
  clear hlw
  by_cases hc0:v.cn=0
  ·have hans:Hid (LeE (mm E) w2 ⟨false,none,0,0⟩ false):=hide ⟨fun h=>(by cases h),fun _=>⟨rfl,.inr fun u=>low_no hwf.out hrow.out fun c hc=>by
    have h0:E.cs= []:=List.eq_nil_of_length_eq_zero (by rw[hcl.out];exact hc0)
    rw[h0]at hc
    exact absurd hc List.not_mem_nil⟩⟩
   have hd0:decide ((v.cn:Int)=0)=true:=by rw[decide_eq_true_iff];omega
   have q1:=yA.out.c1
   obtain⟨w8,e8,y8,k8,o8,hzn⟩:=Pd.est_z kb.out hge.out yx.out false none 0 0
   have hans2:Hid (LeE (mm E) w8 ⟨false,none,0,0⟩ false):=hide ⟨fun h=>(by cases h),hans.out.2⟩
   have f0:=yx.out.c0
   have f1:=yx.out.c1
   have f2:=yx.out.f 0
   have f3:=yx.out.f 1
   replace k8:=hide k8
   replace y8:=hide y8
   clear hans o8 hzn
   go_wp2_with fail
   rw[e8.out]
   go_wp2
   refine bodyPost_ret (results_ct rfl _ _ bx 38 _ (0,0) _ rfl y8.out Tryz.underlying38 rfl k_f) rfl ?_
   exact⟨⟨false,none,0,0⟩,false,rfl,hans2.out,k8.out⟩
  have hcz:0<v.cn:=by omega
  have hjl:0<E.cs.length:=by rw[hcl.out];exact hcz
  have hd0:decide ((v.cn:Int)=0)=false:=by rw[decide_eq_false_iff_not];omega
  have hlow:Hid (∀t,t<E.cs[0]→mm E t=false):=hide fun t ht=>low_no hwf.out hrow.out fun c hc=>by
   obtain⟨i,hi,rfl⟩:=List.mem_iff_getElem.1 hc
   rcases Nat.eq_zero_or_pos i with rfl|hip
   ·exact ht
   have:=List.pairwise_iff_getElem.1 hwf.out.up 0 i hjl hi hip
   omega
  obtain⟨cb,co,zc,hvc,hcb0,d0,d1,hzc,hzcl⟩:=h.cu.2 0 hcz hjl
  rw[Nat.zero_mul,Nat.add_zero]at d0
  rw[Nat.zero_mul,Nat.add_zero]at d1
  have e0:=(Below.cell (p:=⟨cb,_,none⟩) kb.out hcb0).trans d0
  have e1:=(Below.cell (p:=⟨cb,_,none⟩) kb.out hcb0).trans d1
  have hcb:cb<w2.heap.size:=Nat.lt_of_lt_of_le hcb0 kb.out.size
  have p1:=yA.out.c1
  have hAl:=yA.out.lt
  have hnx:Hid (∀w',Below w.heap.size w w'→Calls Tryz.prog 25 #[.agg #[.int .i64 E.p,.slice (some ⟨cb,co,none⟩) v.cn v.cc,.slice v.ra v.rn v.rc],.agg #[.bool zc.s,.slice zc.a zc.l zc.c]] w' fun e w''=>NsE w'' e (mm E) E.cs[0] 2147483649∧Below w'.heap.size w' w''):=hide fun w' k=>by
   have hnx:=next19_n (B:=2147483648) o_m o_m (h.below k) hcn (hzc.below k) o_m
   rw[hvc]at hnx
   exact hnx
  rw[hvc]at p1
  replace hvc:=hide hvc
  replace hcb0:=hide hcb0
  replace d0:=hide d0
  replace d1:=hide d1
  go_upto_region 4 with(fail)
  refine wp_region_held_drew (S:=(fun w'=>(w'.cell? ⟨bA,0,none⟩=some (.int .i64 E.p)∧w'.cell? ⟨bA,1,none⟩=some (.slice (some ⟨cb,co,none⟩) v.cn v.cc)∧w'.cell? ⟨bA,2,none⟩=some (.slice v.ra v.rn v.rc))∧w'.cell? ⟨cb,co,none⟩=some (.bool zc.s)∧w'.cell? ⟨cb,co+1,none⟩=some (.slice zc.a zc.l zc.c))) k_f (⟨⟨(yA.out.below (grow_drew (Below.refl _ _))).c0,(Below.cell (p:=⟨bA,1,none⟩) (grow_drew (Below.refl _ _)) hAl).trans p1,(yA.out.below (grow_drew (Below.refl _ _))).c2⟩,(Below.cell (p:=⟨cb,_,none⟩) (grow_drew (Below.refl _ _)) hcb).trans e0,(Below.cell (p:=⟨cb,_,none⟩) (grow_drew (Below.refl _ _)) hcb).trans e1⟩) (fun hHeld=> ?_)
  show wpAnyH _ _ _ _ _ 10 _ _ _
  have kW:=grow_drew (Below.refl w2.heap.size w2)
  generalize w2.drew=wQ at*
  refine tkz 0 19 ?_
  (try simp only[pz])
  refine tkz 1 20 ?_
  (try simp only[pz])
  refine tkz 2 21 ?_
  (try simp only[pz])
  refine tkz 3 22 ?_
  (try simp only[pz])
  refine tkz 4 23 ?_
  (try simp only[pz])
  refine ryz 5 (some 24) (fun K hK=> ?_) AllReadyH.nil
  go_simp
  go_at_call 25;refine Calls.mono (hnx.out _ (grow_step kW kb.out)) ?_;rintro e wkA ⟨hns,kA⟩
  obtain⟨zn,bn,rfl,hnq⟩:=hns.one
  have kW:=grow_step kA kW
  try go_wp2_with fail
  refine hK.out _ _ ?_ ?_
  ·first|with_reducible exact trivial|((try dsimp only);exact(by first|exact⟨⟨(yA.out.below kW).c0,(Below.cell (p:=⟨bA,1,none⟩) kW hAl).trans p1,(yA.out.below kW).c2⟩,(Below.cell (p:=⟨cb,_,none⟩) kW hcb).trans e0,(Below.cell (p:=⟨cb,_,none⟩) kW hcb).trans e1⟩|exact hS8))
  clear hK K hHeld;intro hHeld
  (try simp only[pz])
  refine tkz 6 25 ?_
  (try simp only[pz])
  refine tkz 7 26 ?_
  (try simp only[pz])
  refine ryz 8 none (fun K hK=> ?_) AllReadyH.nil
  have yxK:=yx.out.below kW
  have f0:=yxK.c0
  have f1:=yxK.c1
  have f2:=yxK.f 0
  have f3:=yxK.f 1
  obtain⟨wE,eE,yE,kE,oE,hznE⟩:=Pd.est_z (grow_step kW kb.out) hge.out yxK zn.s zn.a zn.l zn.c
  have hAE:=(yA.out.below kW).only oE hAx.out
  have hS8:(wE.cell? ⟨bA,0,none⟩=some (.int .i64 E.p)∧wE.cell? ⟨bA,1,none⟩=some (.slice (some ⟨cb,co,none⟩) v.cn v.cc)∧wE.cell? ⟨bA,2,none⟩=some (.slice v.ra v.rn v.rc))∧wE.cell? ⟨cb,co,none⟩=some (.bool zc.s)∧wE.cell? ⟨cb,co+1,none⟩=some (.slice zc.a zc.l zc.c):=⟨⟨hAE.c0,by rw[←hvc.out];exact hAE.c1,hAE.c2⟩,(Below.cell (p:=⟨cb,_,none⟩) kE hcb0.out).trans d0.out,(Below.cell (p:=⟨cb,_,none⟩) kE hcb0.out).trans d1.out⟩
  go_simp
  rw[eE.out]
  clear f0 f1 f2 f3
  refine hK.out _ _ ?_ ?_
  ·first|with_reducible exact trivial|((try dsimp only);exact(by first|exact⟨⟨(yA.out.below kW).c0,(Below.cell (p:=⟨bA,1,none⟩) kW hAl).trans p1,(yA.out.below kW).c2⟩,(Below.cell (p:=⟨cb,_,none⟩) kW hcb).trans e0,(Below.cell (p:=⟨cb,_,none⟩) kW hcb).trans e1⟩|exact hS8))
  clear hK K hHeld;intro hHeld
  (try simp only[pz])
  refine tkz 9 3 ?_
  (try simp only[pz])
  refine wpAnyH_done ?_ ?_ _
  ·decide+kernel
  have hans:Hid (LeE (mm E) wE zn bn):=hide (le_next hlow.out (by
   rcases hnq with⟨hb,x,h1,h2,h3,h4,h5⟩|h6
   ·exact .inl ⟨hb,x,h1,h2,h3,hznE _ _ _ _ _ h4,h5⟩
   exact .inr h6))
  have kE2:=hide kE
  have yE2:=hide yE
  clear hHeld hS8 hAE kE yE oE hznE hnq
  go_wp2
  refine bodyPost_ret (results_ct rfl _ _ bx 38 _ (0,0) _ rfl yE2.out Tryz.underlying38 rfl k_f) rfl ?_
  exact⟨zn,bn,rfl,hans.out,kE2.out⟩
end Cr
namespace Cr
open Pd (SN SV ZV plc plc_le plc_all al_b cntI cntI_zero)

def FiE (f:Int→Bool)(w':World)(z:ZV)(b:Bool):Prop:=(b=true→∃lo hi,(∀u,u<lo→f u=false)∧(∀u,hi≤u→f u=false)∧Zn w' z.s z.a z.l z.c (cntI f lo hi:Nat)∧z.l≤2415919200)∧
 (b=false→z=⟨false,none,0,0⟩∧((∀lo:Int,∃u,u<lo∧f u=true)∨ ∀hi:Int,∃u,hi≤u∧f u=true))
theorem high_inf {E:RE}(h:Wr E){j:Nat}(hj:j<E.p)(hb:bit (row E E.cs.length) j=true)(hi:Int): ∃u,hi≤u∧mm E u=true:=by
 have hp:(0:Int)<(E.p:Int):=by have:=h.p1;omega
 obtain⟨m,hm1,hm2⟩: ∃m:Int,hi≤m∧∀c∈E.cs,c≤m:=by
  clear hb
  generalize E.cs=cs
  induction cs with
  |nil=>exact⟨hi,by omega,fun c hc=>absurd hc List.not_mem_nil⟩
  |cons c cs ih=>
   obtain⟨m,h1,h2⟩:=ih
   refine⟨max m c,by omega,fun d hd=> ?_⟩
   rcases List.mem_cons.1 hd with rfl|hd
   ·omega
   have:=h2 d hd;omega
 have h0:=Int.emod_nonneg (j-m) (show(E.p:Int)≠0 by omega)
 refine⟨m+(j-m)%(E.p:Int),by omega,?_⟩
 have e0:plc E.cs (m+(j-m)%(E.p:Int))=E.cs.length:=plc_all fun c hc=>by
  have:=hm2 c hc
  omega
 have e1:(m+(j-m)%(E.p:Int))%(E.p:Int)=(j:Int):=by
  have h2:m+(j-m)%(E.p:Int)=j+(E.p:Int)*(-((j-m) / (E.p:Int))):=by
   have:=Int.mul_ediv_add_emod (j-m) (E.p:Int)
   rw[Int.mul_neg]
   omega
  rw[h2,Int.add_mul_emod_self_left]
  exact Int.emod_eq_of_lt o_m o_m
 unfold mm rowAt
 rw[e0,e1]
 exact hb
theorem high_no {E:RE}(h:Wr E)(hb: ∀j,j<E.p→bit (row E E.cs.length) j=false){u:Int}(hu: ∀c∈E.cs,c≤u):mm E u=false:=by
 have e0:plc E.cs u=E.cs.length:=plc_all hu
 unfold mm rowAt
 rw[e0]
 exact hb _ (md_lt h.p1 _)
theorem not_bits {E:RE}{i:Nat}(h: ¬ ∀j,j<E.p→bit (row E i) j=false): ∃j,j<E.p∧bit (row E i) j=true:=by
 obtain⟨j,hj⟩:=Classical.not_forall.1 h
 obtain⟨hj1,hj2⟩:=Classical.not_imp.1 hj
 exact⟨j,hj1,by simpa using hj2⟩
theorem finite19_n {w:World}{v:SV}{E:RE}(h:RS w v E)(hcn:v.cn≤134217728):
  Calls Tryz.prog 31 #[.agg #[.int .i64 E.p,.slice v.ca v.cn v.cc,.slice v.ra v.rn v.rc]] w fun e w'=> ∃(z:ZV) (b:Bool),e= .returned (.tuple #[.agg #[.bool z.s,.slice z.a z.l z.c],.bool b])∧FiE (mm E) w' z b∧Below w.heap.size w w':=by
 have b0:=below_alloc w (.cells #[.int .i64 E.p,.slice v.ca v.cn v.cc,.slice v.ra v.rn v.rc] 30)
 have b1:=below_alloc (w.alloc (.cells #[.int .i64 E.p,.slice v.ca v.cn v.cc,.slice v.ra v.rn v.rc] 30)) (.cells #[.bool false,.slice none 0 0] 38)
 have kb:=hide (grow_step b1 b0)
 have yA:=hide ((sbr_new w E.p v).below b1)
 have yx:=zb_new (w.alloc (.cells #[.int .i64 E.p,.slice v.ca v.cn v.cc,.slice v.ra v.rn v.rc] 30)) false none 0 0
 have hs1:(w.alloc (.cells #[.int .i64 E.p,.slice v.ca v.cn v.cc,.slice v.ra v.rn v.rc] 30)).heap.size=w.heap.size+1:=by simp
 rw[hs1]at yx
 have hwf:=hide h.wf
 have hp1:=h.wf.p1
 have hp2:=h.wf.p2
 have hrn:=hide h.rn
 have hcl:=hide h.cn
 go_enter Tryz.func31,Tryz.ntmps31
 go_upto_region 1 with(fail)
 clear b0 b1 hs1
 generalize (w.alloc (.cells #[.int .i64 E.p,.slice v.ca v.cn v.cc,.slice v.ra v.rn v.rc] 30)).alloc (.cells #[.bool false,.slice none 0 0] 38)=w1 at*
 obtain⟨bA,hbA⟩: ∃bA,w.heap.size=bA:=⟨_,rfl⟩
 rw[hbA]at yA yx ⊢
 obtain⟨bx,hbx⟩: ∃bx,bA+1=bx:=⟨_,rfl⟩
 rw[hbx]at yx ⊢
 have hge:Hid (w.heap.size≤bx):=hide o_m
 have hAx:Hid (bA≠bx):=hide o_m
 replace yx:=hide yx
 clear hbA hbx
 obtain⟨rA,oA,gA,hvA,hrA,cR,hgA,hlA⟩:=(h.below kb.out).row (i:=0) o_m
 rw[Nat.add_zero]at cR
 have hem:=hide (empty_n hgA hlA o_m)
 have q2:=yA.out.c2
 rw[hvA,hrn.out]at q2
 clear hvA
 go_wp2_with fail
 refine hem.out.mono ?_
 rintro e w2 ⟨low,rfl,hlw,k2⟩
 replace yA:=hide (yA.out.below k2)
 replace yx:=hide (yx.out.below k2)
 replace kb:=hide (grow_step k2 kb.out)
 replace hlw:=hide hlw
 clear k2 hem q2 cR hgA hrA
 obtain⟨rA,oA,gA,hvA,hrA,cR,hgA,hlA⟩:=(h.below kb.out).row (i:=v.cn) o_m
 have hem:=hide (empty_n hgA hlA o_m)
 have q2:=yA.out.c2
 rw[hvA,hrn.out]at q2
 have hcl2:row E E.cs.length=row E v.cn:=by rw[hcl.out]
 clear hvA
 replace hcl2:=hide hcl2
 go_wp2_with fail
 refine hem.out.mono ?_
 rintro e w3 ⟨high,rfl,hhw,k3⟩
 replace yA:=hide (yA.out.below k3)
 replace yx:=hide (yx.out.below k3)
 replace kb:=hide (grow_step k3 kb.out)
 clear k3 hem q2 cR hgA hrA
 cases low with
 |false=>
  have hans:Hid (FiE (mm E) w3 ⟨false,none,0,0⟩ false):=hide ⟨fun h=>(by cases h),fun _=>⟨rfl,.inl fun lo=>by
   obtain⟨j,hj1,hj2⟩:=not_bits (fun h9=>by have:=hlw.out.2 h9;cases this)
   exact low_inf hwf.out hj1 hj2 lo⟩⟩
  clear hlw hhw
  obtain⟨w8,e8,y8,k8,o8,hzn⟩:=Pd.est_z kb.out hge.out yx.out false none 0 0
  have hans2:Hid (FiE (mm E) w8 ⟨false,none,0,0⟩ false):=hide ⟨fun h=>(by cases h),hans.out.2⟩
  have f0:=yx.out.c0
  have f1:=yx.out.c1
  have f2:=yx.out.f 0
  have f3:=yx.out.f 1
  replace k8:=hide k8
  replace y8:=hide y8
  clear hans o8 hzn
  go_wp2_with fail
  rw[e8.out]
  go_wp2
  refine bodyPost_ret (results_ct rfl _ _ bx 38 _ (0,0) _ rfl y8.out Tryz.underlying38 rfl k_f) rfl ?_
  exact⟨⟨false,none,0,0⟩,false,rfl,hans2.out,k8.out⟩
 |true=>
  have hrow:=hide (hlw.out.1 rfl)
  clear hlw
  cases high with
  |false=>
   have hans:Hid (FiE (mm E) w3 ⟨false,none,0,0⟩ false):=hide ⟨fun h=>(by cases h),fun _=>⟨rfl,.inr fun hi=>by
    obtain⟨j,hj1,hj2⟩:=not_bits (fun h9=>by have:=hhw.2 h9;cases this)
    exact high_inf hwf.out hj1 (by rw[hcl2.out];exact hj2) hi⟩⟩
   clear hhw
   obtain⟨w8,e8,y8,k8,o8,hzn⟩:=Pd.est_z kb.out hge.out yx.out false none 0 0
   have hans2:Hid (FiE (mm E) w8 ⟨false,none,0,0⟩ false):=hide ⟨fun h=>(by cases h),hans.out.2⟩
   have f0:=yx.out.c0
   have f1:=yx.out.c1
   have f2:=yx.out.f 0
   have f3:=yx.out.f 1
   replace k8:=hide k8
   replace y8:=hide y8
   clear hans o8 hzn
   go_wp2_with fail
   rw[e8.out]
   go_wp2
   refine bodyPost_ret (results_ct rfl _ _ bx 38 _ (0,0) _ rfl y8.out Tryz.underlying38 rfl k_f) rfl ?_
   exact⟨⟨false,none,0,0⟩,false,rfl,hans2.out,k8.out⟩
  |true=>
   have hrow2:Hid (∀j,j<E.p→bit (row E E.cs.length) j=false):=hide (by rw[hcl2.out];exact hhw.1 rfl)
   clear hhw
   by_cases hc0:v.cn=0
   ·have h0:Hid (∀u,mm E u=false):=hide fun u=>low_no hwf.out hrow.out fun c hc=>by
     have h0:E.cs= []:=List.eq_nil_of_length_eq_zero (by rw[hcl.out];exact hc0)
     rw[h0]at hc
     exact absurd hc List.not_mem_nil
    have hd0:decide ((v.cn:Int)=0)=true:=by rw[decide_eq_true_iff];omega
    have q1:=yA.out.c1
    have hnum:=hide (num19_n 0 o_m o_m w3)
    go_wp2_with fail
    refine hnum.out.mono ?_
    rintro e w4 ⟨s4,a4,l4,c4,rfl,hz4,k4,hl4⟩
    replace yx:=hide (yx.out.below k4)
    replace kb:=hide (grow_step k4 kb.out)
    clear k4 hnum
    obtain⟨w8,e8,y8,k8,o8,hzn⟩:=Pd.est_z kb.out hge.out yx.out s4 a4 l4 c4
    have hans:Hid (FiE (mm E) w8 ⟨s4,a4,l4,c4⟩ true):=hide ⟨fun _=>⟨0,0,fun u _=>h0.out u,fun u _=>h0.out u,by rw[cntI_zero fun u _ _=>h0.out u];exact hzn _ _ _ _ _ hz4,by show l4≤_;omega⟩,fun h=>(by cases h)⟩
    have f0:=yx.out.c0
    have f1:=yx.out.c1
    have f2:=yx.out.f 0
    have f3:=yx.out.f 1
    replace k8:=hide k8
    replace y8:=hide y8
    clear o8 hzn hz4
    go_wp2_with fail
    rw[e8.out]
    go_wp2
    refine bodyPost_ret (results_ct rfl _ _ bx 38 _ (0,0) _ rfl y8.out Tryz.underlying38 rfl k_f) rfl ?_
    exact⟨⟨s4,a4,l4,c4⟩,true,rfl,hans.out,k8.out⟩
   obtain⟨m,hm⟩: ∃m,v.cn=m+1:=⟨v.cn-1,by omega⟩
   have hcz:0<v.cn:=by omega
   have hmc:m<v.cn:=by omega
   have hjl:0<E.cs.length:=by rw[hcl.out];exact hcz
   have hml:m<E.cs.length:=by rw[hcl.out];exact hmc
   have hd0:decide ((v.cn:Int)=0)=false:=by rw[decide_eq_false_iff_not];omega
   have hj1:Hid ((v.cn:Int)-1=(m:Int)):=hide o_m
   have hlow:Hid (∀t,t<E.cs[0]→mm E t=false):=hide fun t ht=>low_no hwf.out hrow.out fun c hc=>by
    obtain⟨i,hi,rfl⟩:=List.mem_iff_getElem.1 hc
    rcases Nat.eq_zero_or_pos i with rfl|hip
    ·exact ht
    have:=List.pairwise_iff_getElem.1 hwf.out.up 0 i hjl hi hip
    omega
   have hhigh:Hid (∀t,E.cs[m]≤t→mm E t=false):=hide fun t ht=>high_no hwf.out hrow2.out fun c hc=>by
    obtain⟨i,hi,rfl⟩:=List.mem_iff_getElem.1 hc
    rcases Nat.lt_or_ge i m with hip|hip
    ·have:=List.pairwise_iff_getElem.1 hwf.out.up i m hi hml hip
     omega
    obtain rfl:i=m:=by have:=hcl.out;omega
    exact ht
   clear hm
   obtain⟨cb,co,zc,hvc,hcb0,d0,d1,hzc,hzcl⟩:=h.cu.2 0 hcz hjl
   rw[Nat.zero_mul,Nat.add_zero]at d0
   rw[Nat.zero_mul,Nat.add_zero]at d1
   obtain⟨cb',co',zd,hvd,hcb0',d2,d3,hzd,hzdl⟩:=h.cu.2 m hmc hml
   obtain⟨rfl,rfl⟩:cb'=cb∧co'=co:=by
    rw[hvc]at hvd
    injection hvd with hvd
    injection hvd with h1 h2
    exact⟨h1.symm,h2.symm⟩
   clear hvd hcb0'
   have e0:=(Below.cell (p:=⟨cb',_,none⟩) kb.out hcb0).trans d0
   have e1:=(Below.cell (p:=⟨cb',_,none⟩) kb.out hcb0).trans d1
   have e2:=(Below.cell (p:=⟨cb',_,none⟩) kb.out hcb0).trans d2
   have e3:=(Below.cell (p:=⟨cb',_,none⟩) kb.out hcb0).trans d3
   have hcb:cb'<w3.heap.size:=Nat.lt_of_lt_of_le hcb0 kb.out.size
   have p1:=yA.out.c1
   have hAl:=yA.out.lt
   have hct:Hid (∀w',Below w.heap.size w w'→Calls Tryz.prog 21 #[.agg #[.int .i64 E.p,.slice (some ⟨cb',co',none⟩) v.cn v.cc,.slice v.ra v.rn v.rc],.agg #[.bool zc.s,.slice zc.a zc.l zc.c],.agg #[.bool zd.s,.slice zd.a zd.l zd.c]] w' fun e w''=> ∃s' a' l' c',e= .returned (.agg #[.bool s',.slice a' l' c'])∧Zn w'' s' a' l' c' (cntI (mm E) E.cs[0] E.cs[m]:Nat)∧Below w'.heap.size w' w''∧l'≤2415919200):=hide fun w' k=>by
    have hct:=count19_n (h.below k) hcn (hzc.below k) o_m (hzd.below k) o_m
    rw[hvc]at hct
    exact hct
   rw[hvc]at p1
   replace hvc:=hide hvc
   replace hcb0:=hide hcb0
   replace d0:=hide d0
   replace d1:=hide d1
   replace d2:=hide d2
   replace d3:=hide d3
   generalize cb'=cb at*
   generalize co'=co at*
   go_upto_region 7 with(fail)
   refine wp_region_held_drew (S:=(fun w'=>(w'.cell? ⟨bA,0,none⟩=some (.int .i64 E.p)∧w'.cell? ⟨bA,1,none⟩=some (.slice (some ⟨cb,co,none⟩) v.cn v.cc)∧w'.cell? ⟨bA,2,none⟩=some (.slice v.ra v.rn v.rc))∧(w'.cell? ⟨cb,co,none⟩=some (.bool zc.s)∧w'.cell? ⟨cb,co+1,none⟩=some (.slice zc.a zc.l zc.c))∧(w'.cell? ⟨cb,co+m*2,none⟩=some (.bool zd.s)∧w'.cell? ⟨cb,co+m*2+1,none⟩=some (.slice zd.a zd.l zd.c)))) k_f (⟨⟨(yA.out.below (grow_drew (Below.refl _ _))).c0,(Below.cell (p:=⟨bA,1,none⟩) (grow_drew (Below.refl _ _)) hAl).trans p1,(yA.out.below (grow_drew (Below.refl _ _))).c2⟩,⟨(Below.cell (p:=⟨cb,_,none⟩) (grow_drew (Below.refl _ _)) hcb).trans e0,(Below.cell (p:=⟨cb,_,none⟩) (grow_drew (Below.refl _ _)) hcb).trans e1⟩,⟨(Below.cell (p:=⟨cb,_,none⟩) (grow_drew (Below.refl _ _)) hcb).trans e2,(Below.cell (p:=⟨cb,_,none⟩) (grow_drew (Below.refl _ _)) hcb).trans e3⟩⟩) (fun hHeld=> ?_)
   show wpAnyH _ _ _ _ _ 16 _ _ _
   have kW:=grow_drew (Below.refl w3.heap.size w3)
   generalize w3.drew=wQ at*
   refine tkz 0 32 ?_
   (try simp only[pz])
   refine tkz 1 33 ?_
   (try simp only[pz])
   refine tkz 2 34 ?_
   (try simp only[pz])
   refine tkz 3 35 ?_
   (try simp only[pz])
   refine tkz 4 36 ?_
   (try simp only[pz])
   refine tkz 5 37 ?_
   (try simp only[pz])
   refine tkz 6 38 ?_
   (try simp only[pz])
   refine tkz 7 39 ?_
   (try simp only[pz])
   refine tkz 8 40 ?_
   (try simp only[pz])
   refine tkz 9 41 ?_
   (try simp only[pz])
   refine wpAnyH_take (i:=10) (oi:=⟨some 42,_,_,_,_,_⟩) (v:=.int .i64 (m:Int)) rfl (by decide+kernel) (by decide+kernel) (by decide+kernel) (fun _ _ _ h=>h) (Or.inl ⟨by rfl,?_⟩) (by assumption) ?_
   skip
   ·intro wq hSw;(try dsimp only at hSw);go_simp;(first|done|(rw[hj1.out,IntKind.wrap_i64];omega)|(rw[IntKind.wrap_i64];have:=hj1.out;omega))
   (try simp only[pz])
   refine tkz 11 43 ?_
   (try simp only[pz])
   refine tkz 12 44 ?_
   (try simp only[pz])
   refine ryz 13 (some 45) (fun K hK=> ?_) AllReadyH.nil
   go_simp
   go_at_call 21;refine Calls.mono (hct.out _ (grow_step kW kb.out)) ?_;rintro e wkA ⟨sC,aC,lC,cC,rfl,hzC,kA,hlC⟩
   have kW:=grow_step kA kW
   try go_wp2_with fail
   refine hK.out _ _ ?_ ?_
   ·first|with_reducible exact trivial|((try dsimp only);exact(by first|exact⟨⟨(yA.out.below kW).c0,(Below.cell (p:=⟨bA,1,none⟩) kW hAl).trans p1,(yA.out.below kW).c2⟩,⟨(Below.cell (p:=⟨cb,_,none⟩) kW hcb).trans e0,(Below.cell (p:=⟨cb,_,none⟩) kW hcb).trans e1⟩,⟨(Below.cell (p:=⟨cb,_,none⟩) kW hcb).trans e2,(Below.cell (p:=⟨cb,_,none⟩) kW hcb).trans e3⟩⟩|exact hS8))
   clear hK K hHeld;intro hHeld
   (try simp only[pz])
   refine ryz 14 none (fun K hK=> ?_) AllReadyH.nil
   have yxK:=yx.out.below kW
   have f0:=yxK.c0
   have f1:=yxK.c1
   have f2:=yxK.f 0
   have f3:=yxK.f 1
   obtain⟨wE,eE,yE,kE,oE,hznE⟩:=Pd.est_z (grow_step kW kb.out) hge.out yxK sC aC lC cC
   have hAE:=(yA.out.below kW).only oE hAx.out
   have hS8:(wE.cell? ⟨bA,0,none⟩=some (.int .i64 E.p)∧wE.cell? ⟨bA,1,none⟩=some (.slice (some ⟨cb,co,none⟩) v.cn v.cc)∧wE.cell? ⟨bA,2,none⟩=some (.slice v.ra v.rn v.rc))∧(wE.cell? ⟨cb,co,none⟩=some (.bool zc.s)∧wE.cell? ⟨cb,co+1,none⟩=some (.slice zc.a zc.l zc.c))∧(wE.cell? ⟨cb,co+m*2,none⟩=some (.bool zd.s)∧wE.cell? ⟨cb,co+m*2+1,none⟩=some (.slice zd.a zd.l zd.c)):=⟨⟨hAE.c0,by rw[←hvc.out];exact hAE.c1,hAE.c2⟩,⟨(Below.cell (p:=⟨cb,_,none⟩) kE hcb0.out).trans d0.out,(Below.cell (p:=⟨cb,_,none⟩) kE hcb0.out).trans d1.out⟩,⟨(Below.cell (p:=⟨cb,_,none⟩) kE hcb0.out).trans d2.out,(Below.cell (p:=⟨cb,_,none⟩) kE hcb0.out).trans d3.out⟩⟩
   go_simp
   rw[eE.out]
   clear f0 f1 f2 f3
   refine hK.out _ _ ?_ ?_
   ·first|with_reducible exact trivial|((try dsimp only);exact(by first|exact⟨⟨(yA.out.below kW).c0,(Below.cell (p:=⟨bA,1,none⟩) kW hAl).trans p1,(yA.out.below kW).c2⟩,⟨(Below.cell (p:=⟨cb,_,none⟩) kW hcb).trans e0,(Below.cell (p:=⟨cb,_,none⟩) kW hcb).trans e1⟩,⟨(Below.cell (p:=⟨cb,_,none⟩) kW hcb).trans e2,(Below.cell (p:=⟨cb,_,none⟩) kW hcb).trans e3⟩⟩|exact hS8))
   clear hK K hHeld;intro hHeld
   (try simp only[pz])
   refine tkz 15 3 ?_
   (try simp only[pz])
   refine wpAnyH_done ?_ ?_ _
   ·decide+kernel
   have hans:Hid (FiE (mm E) wE ⟨sC,aC,lC,cC⟩ true):=hide ⟨fun _=>⟨_,_,hlow.out,hhigh.out,hznE _ _ _ _ _ hzC,hlC⟩,fun h=>(by cases h)⟩
   have kE2:=hide kE
   have yE2:=hide yE
   clear hHeld hS8 hAE kE yE oE hznE hzC
   go_wp2
   refine bodyPost_ret (results_ct rfl _ _ bx 38 _ (0,0) _ rfl yE2.out Tryz.underlying38 rfl k_f) rfl ?_
   exact⟨⟨sC,aC,lC,cC⟩,true,rfl,hans.out,kE2.out⟩
end Cr
namespace Cr
open Pd (cntm cntm_none mems mems_len mems_add mems_mem memI)

variable {f:Int→Bool}{lo:Int}
theorem mems_none {x:Int}{n:Nat}(h: ∀k:Nat,k<n→f (x+k)=false):mems f x n= []:=by
 apply List.eq_nil_of_length_eq_zero
 rw[mems_len,cntm_none h]
theorem mems_one {x:Int}(h:f x=true):mems f x 1= [x]:=by
 have hl:(mems f x 1).length=1:=by
  rw[mems_len]
  show 0+(if f (x+((0:Nat):Int))=true then 1 else 0)=1
  rw[show x+((0:Nat):Int)=x by omega,if_pos h]
 obtain⟨y,hy⟩:=List.length_eq_one_iff.1 hl
 have hm:y∈mems f x 1:=by rw[hy];exact List.mem_singleton_self y
 obtain⟨_,h2,h3⟩:=mems_mem hm
 rw[hy]
 congr 1
 omega
theorem memI_snoc {a v:Int}(h1:lo≤a)(h2:a≤v)(hn: ∀u,a≤u→u<v→f u=false)(hv:f v=true):memI f lo v=memI f lo (a-1)++ [v]:=by
 unfold memI
 rw[show(v-lo+1).toNat=(a-1-lo+1).toNat+((v-a).toNat+1)by omega,mems_add,mems_add,mems_none (n:=(v-a).toNat),List.nil_append,show lo+((a-1-lo+1).toNat:Int)+((v-a).toNat:Int)=v by omega,mems_one hv]
 intro k hk
 exact hn _ o_m o_m
theorem memI_end {a hi:Int}(h1:lo≤a)(hn: ∀u,a≤u→u≤hi→f u=false)(h2:a≤hi+1):memI f lo hi=memI f lo (a-1):=by
 unfold memI
 rw[show(hi-lo+1).toNat=(a-1-lo+1).toNat+(hi+1-a).toNat by omega,mems_add,mems_none (n:=(hi+1-a).toNat),List.append_nil]
 intro k hk
 exact hn _ o_m o_m
theorem memI_no {hi:Int}(h:hi<lo):memI f lo hi= []:=by
 unfold memI
 rw[show(hi-lo+1).toNat=0 by omega]
 exact mems_none fun k hk=>absurd hk (Nat.not_lt_zero _)
end Cr
end Go.Proofs.YtaafoppaepcaeaaGreat

namespace Go.Proofs.YtaafoppaepcaeaaGreat
open Go.RowKit Go.Sort
namespace Pd

theorem do19_n {w:World}{m:MkD}{zk zd:ZV}{la:Option Addr}{ln lc N:Nat}{Ds:List PD}(hk:Zm w zk.s zk.a zk.l zk.c m.x)(hkl:zk.l≤1048576)(hd:Zm w zd.s zd.a zd.l zd.c m.d)(hdl:zd.l≤1048576)(ik:Iw m.k)(ia:Iw m.a)(ib:Iw m.b)(hs:SLs w la ln Ds)(hn1:1≤ln)(hn2:ln≤1000)(hN:1≤N)(hN2:N≤65536)(hcs: ∀D∈Ds,D.cs.length≤N):
  Calls Tryz.prog 60 #[.agg #[.int .i64 m.k,.int .i64 m.a,.int .i64 m.b,.bool zk.s,.slice zk.a zk.l zk.c,.bool zd.s,.slice zd.a zd.l zd.c],.slice la ln lc] w fun e w'=>DoG w w' e m Ds N:=by
 have b0:=below_alloc w (.cells #[.int .i64 m.k,.int .i64 m.a,.int .i64 m.b,.bool zk.s,.slice zk.a zk.l zk.c,.bool zd.s,.slice zd.a zd.l zd.c] 40)
 have y0:=heap_alloc_new w (.cells #[.int .i64 m.k,.int .i64 m.a,.int .i64 m.b,.bool zk.s,.slice zk.a zk.l zk.c,.bool zd.s,.slice zd.a zd.l zd.c] 40)
 have hsl:Hid (Ds.length=ln):=hide hs.1
 obtain⟨ha1,ha2⟩:=ia
 obtain⟨hb1,hb2⟩:=ib
 obtain⟨hk1,hk2⟩:=ik
 replace hcs:=hide hcs
 replace hk:=hide (hk.below b0)
 replace hd:=hide (hd.below b0)
 replace hs:=hide (hs.below b0)
 have hpa:=pkN_lt (c:=m.a) (n:=(ln:Int)) o_m
 have hpb:=pkN_lt (c:=m.b) (n:=(ln:Int)) o_m
 have hpk:=pkN_lt (c:=m.k) (n:=8) o_m
 obtain⟨kk,hkk⟩: ∃kk,pkN m.k 8=kk:=⟨_,rfl⟩
 rw[hkk]at hpk
 replace hkk:=hide hkk
 obtain⟨ja,hja⟩: ∃ja,pkN m.a (ln:Int)=ja:=⟨_,rfl⟩
 rw[hja]at hpa
 obtain⟨jb,hjb⟩: ∃jb,pkN m.b (ln:Int)=jb:=⟨_,rfl⟩
 rw[hjb]at hpb
 have hjal:ja<Ds.length:=by rw[hsl.out];omega
 have hjbl:jb<Ds.length:=by rw[hsl.out];omega
 have hDR:Hid (∀err D,DoR m Ds err D↔DoR' m Ds[ja] Ds[jb] kk err D):=hide fun err D=>by
  unfold DoR
  rw[hsl.out,hja,hjb,hkk.out,List.getD_eq_getElem?_getD,List.getD_eq_getElem?_getD,List.getElem?_eq_getElem hjal,List.getElem?_eq_getElem hjbl]
  rfl
 have hcA:=hcs.out _ (List.getElem_mem hjal)
 have hcB:=hcs.out _ (List.getElem_mem hjbl)
 obtain⟨lb,sa,rfl,hlb,l0,hA⟩:=hs.out.get (show ja<ln by omega) hjal
 obtain⟨lb',sb,e,-,l1,hB⟩:=hs.out.get (show jb<ln by omega) hjbl
 cases e
 generalize Ds[ja]=A at*
 generalize Ds[jb]=B at*
 have q0:=cell_of_row _ _ 0 _ _ (0,0) y0
 have q1:=cell_of_row _ _ 1 _ _ (0,0) y0
 have q2:=cell_of_row _ _ 2 _ _ (0,0) y0
 have q3:=cell_of_row _ _ 3 _ _ (0,0) y0
 have q4:=cell_of_row _ _ 4 _ _ (0,0) y0
 have q5:=cell_of_row _ _ 5 _ _ (0,0) y0
 have q6:=cell_of_row _ _ 6 _ _ (0,0) y0
 have hbt:w.heap.size<(w.alloc (.cells #[.int .i64 m.k,.int .i64 m.a,.int .i64 m.b,.bool zk.s,.slice zk.a zk.l zk.c,.bool zd.s,.slice zd.a zd.l zd.c] 40)).heap.size:=by simp
 replace hA:=hide hA
 replace hB:=hide hB
 replace b0:=hide b0
 have hca:=hide (pick_n m.a ln ha1 ha2 o_m o_m (w.alloc (.cells #[.int .i64 m.k,.int .i64 m.a,.int .i64 m.b,.bool zk.s,.slice zk.a zk.l zk.c,.bool zd.s,.slice zd.a zd.l zd.c] 40)))
 rw[hja]at hca
 clear y0 hs
 go_enter Tryz.func60,Tryz.ntmps60
 go_upto_region 1 with(fail)
 generalize w.alloc (.cells #[.int .i64 m.k,.int .i64 m.a,.int .i64 m.b,.bool zk.s,.slice zk.a zk.l zk.c,.bool zd.s,.slice zd.a zd.l zd.c] 40)=w0 at*
 generalize hbw:w.heap.size=bt at*
 replace hbw:=hide hbw
 have haI:(ja:Int)<(ln:Int):=hpa
 go_wp2_with fail
 refine hca.out.mono ?_
 rintro e w1 ⟨rfl,k1⟩
 have kb:=hide k1
 have hcb:=hide (pick_n m.b ln hb1 hb2 o_m o_m w1)
 rw[hjb]at hcb
 have q1':=(k1.cell (p:=⟨bt,1,none⟩) hbt).trans q1
 have q2':=(k1.cell (p:=⟨bt,2,none⟩) hbt).trans q2
 have l0':=(k1.cell (p:=⟨lb,ja,none⟩) hlb).trans l0
 clear hca k1
 go_wp2_with fail
 have hbI:(jb:Int)<(ln:Int):=hpb
 refine hcb.out.mono ?_
 rintro e w2 ⟨rfl,k2⟩
 have kc:=hide (grow_step k2 kb.out)
 have hck:=hide (pick_n m.k 8 hk1 hk2 (by decide) (by decide) w2)
 rw[hkk.out]at hck
 have q0':=(kc.out.cell (p:=⟨bt,0,none⟩) hbt).trans q0
 have l1':=(kc.out.cell (p:=⟨lb,jb,none⟩) hlb).trans l1
 clear hcb k2 q1' q2' l0' q0 q1 q2
 go_wp2_with fail
 refine hck.out.mono ?_
 rintro e w3 ⟨rfl,k3⟩
 have kd:=hide (grow_step k3 kc.out)
 have q3':=(kd.out.cell (p:=⟨bt,3,none⟩) hbt).trans q3
 have q4':=(kd.out.cell (p:=⟨bt,4,none⟩) hbt).trans q4
 have q5':=(kd.out.cell (p:=⟨bt,5,none⟩) hbt).trans q5
 have q6':=(kd.out.cell (p:=⟨bt,6,none⟩) hbt).trans q6
 have hA3:=hide (hA.out.below kd.out)
 have hB3:=hide (hB.out.below kd.out)
 have hk3:=hide (hk.out.below kd.out)
 have hd3:=hide (hd.out.below kd.out)
 clear hck k3 q0' l1' l0 l1 q3 q4 q5 q6
 have hkv:kk=0∨kk=1∨kk=2∨kk=3∨kk=4∨kk=5∨kk=6∨kk=7:=by omega
 have kfin:=hide (fun(u:World) (ku:Below w3.heap.size w3 u)=>(show Below w.heap.size w u by rw[hbw.out];exact b0.out.trans ((grow_step ku kd.out).mono (Nat.le_of_lt hbt))))
 rcases hkv with rfl|rfl|rfl|rfl|rfl|rfl|rfl|rfl
 ·have hc:=hide (above_n hk3.out o_m)
  go_wp2_with fail
  refine hc.out.mono ?_
  rintro e w4 ⟨b,D,rfl,hps,k4,e1,e2,e3⟩
  have hR:=hide ((hDR.out 0 D).2 ⟨rfl,e1,e2,e3⟩)
  have hcl:D.cs.length≤2*N:=by rw[e2];simp only[List.length_cons,List.length_nil];omega
  have hps1:=hide hps
  have kf:=hide (kfin.out w4 k4)
  clear hc hps kfin q3' q4' q5' q6'
  go_wp2
  exact bodyPost_ret (results_tmp2 rfl _ _ _) rfl ⟨kf.out,.inr ⟨b,D,rfl,hps1.out,hcl,hR.out⟩⟩
 ·have hc:=hide (above_n hk3.out o_m)
  go_wp2_with fail
  refine hc.out.mono ?_
  rintro e w4 ⟨b,D,rfl,hps,k4,e1,e2,e3⟩
  have hR:=hide ((hDR.out 0 D).2 ⟨rfl,e1,e2,e3⟩)
  have hcl:D.cs.length≤2*N:=by rw[e2];simp only[List.length_cons,List.length_nil];omega
  have hps1:=hide hps
  have kf:=hide (kfin.out w4 k4)
  clear hc hps kfin q3' q4' q5' q6'
  go_wp2
  exact bodyPost_ret (results_tmp2 rfl _ _ _) rfl ⟨kf.out,.inr ⟨b,D,rfl,hps1.out,hcl,hR.out⟩⟩
 ·have hc:=hide (class_n (z:=zd) (y:=zk) ⟨hd3.out,by omega⟩ ⟨hk3.out,by omega⟩)
  go_wp2_with fail
  refine hc.out.mono ?_
  rintro e w4 ⟨k4,⟨he,rfl⟩|⟨he,b,D,rfl,hps,e1,e2,e3,e4⟩⟩
  ·have hR:=hide ((hDR.out _ A).2 ⟨rfl,fun h=>absurd h he⟩)
   have kf:=hide (kfin.out w4 k4)
   have he1:=hide he
   clear hc he kfin q3' q4' q5' q6'
   go_wp2
   exact bodyPost_ret (results_tmp2 rfl _ _ _) rfl ⟨kf.out,.inl ⟨_,A,he1.out,rfl,hR.out⟩⟩
  have hR:=hide ((hDR.out 0 D).2 ⟨he.symm,fun _=>e4⟩)
  have hcl:D.cs.length≤2*N:=by omega
  have hps1:=hide hps
  have kf:=hide (kfin.out w4 k4)
  clear hc hps kfin he e1 e2 e3 e4 q3' q4' q5' q6'
  go_wp2
  exact bodyPost_ret (results_tmp2 rfl _ _ _) rfl ⟨kf.out,.inr ⟨b,D,rfl,hps1.out,hcl,hR.out⟩⟩
 ·have hc:=hide (class_n (z:=zd) (y:=zk) ⟨hd3.out,by omega⟩ ⟨hk3.out,by omega⟩)
  go_wp2_with fail
  refine hc.out.mono ?_
  rintro e w4 ⟨k4,⟨he,rfl⟩|⟨he,b,D,rfl,hps,e1,e2,e3,e4⟩⟩
  ·have hR:=hide ((hDR.out _ A).2 ⟨rfl,fun h=>absurd h he⟩)
   have kf:=hide (kfin.out w4 k4)
   have he1:=hide he
   clear hc he kfin q3' q4' q5' q6'
   go_wp2
   exact bodyPost_ret (results_tmp2 rfl _ _ _) rfl ⟨kf.out,.inl ⟨_,A,he1.out,rfl,hR.out⟩⟩
  have hR:=hide ((hDR.out 0 D).2 ⟨he.symm,fun _=>e4⟩)
  have hcl:D.cs.length≤2*N:=by omega
  have hps1:=hide hps
  have kf:=hide (kfin.out w4 k4)
  clear hc hps kfin he e1 e2 e3 e4 q3' q4' q5' q6'
  go_wp2
  exact bodyPost_ret (results_tmp2 rfl _ _ _) rfl ⟨kf.out,.inr ⟨b,D,rfl,hps1.out,hcl,hR.out⟩⟩
 ·have hc:=hide (rest_n hA3.out o_m)
  go_wp2_with fail
  refine hc.out.mono ?_
  rintro e w4 ⟨b,D,rfl,hps,k4,e1,e2,e3⟩
  have hR:=hide ((hDR.out 0 D).2 ⟨rfl,e1,e2,e3⟩)
  have hcl:D.cs.length≤2*N:=by rw[e2];omega
  have hps1:=hide hps
  have kf:=hide (kfin.out w4 k4)
  clear hc hps kfin q3' q4' q5' q6'
  go_wp2
  exact bodyPost_ret (results_tmp2 rfl _ _ _) rfl ⟨kf.out,.inr ⟨b,D,rfl,hps1.out,hcl,hR.out⟩⟩
 ·have hc:=hide (meet_n hA3.out hB3.out o_m o_m)
  go_wp2_with fail
  refine hc.out.mono ?_
  rintro e w4 ⟨k4,⟨he,rfl⟩|⟨he,b,D,rfl,hps,e1,e2,e3,e4⟩⟩
  ·have hR:=hide ((hDR.out _ A).2 ⟨rfl,fun h=>absurd h he⟩)
   have kf:=hide (kfin.out w4 k4)
   have he1:=hide he
   clear hc he kfin q3' q4' q5' q6'
   go_wp2
   exact bodyPost_ret (results_tmp2 rfl _ _ _) rfl ⟨kf.out,.inl ⟨_,A,he1.out,rfl,hR.out⟩⟩
  have hR:=hide ((hDR.out 0 D).2 ⟨he.symm,fun _=>⟨e1,e3,e4⟩⟩)
  have hcl:D.cs.length≤2*N:=by omega
  have hps1:=hide hps
  have kf:=hide (kfin.out w4 k4)
  clear hc hps kfin he e1 e2 e3 e4 q3' q4' q5' q6'
  go_wp2
  exact bodyPost_ret (results_tmp2 rfl _ _ _) rfl ⟨kf.out,.inr ⟨b,D,rfl,hps1.out,hcl,hR.out⟩⟩
 ·have hc:=hide (meet_n hA3.out hB3.out o_m o_m)
  go_wp2_with fail
  refine hc.out.mono ?_
  rintro e w4 ⟨k4,⟨he,rfl⟩|⟨he,b,D,rfl,hps,e1,e2,e3,e4⟩⟩
  ·have hR:=hide ((hDR.out _ A).2 ⟨rfl,fun h=>absurd h he⟩)
   have kf:=hide (kfin.out w4 k4)
   have he1:=hide he
   clear hc he kfin q3' q4' q5' q6'
   go_wp2
   exact bodyPost_ret (results_tmp2 rfl _ _ _) rfl ⟨kf.out,.inl ⟨_,A,he1.out,rfl,hR.out⟩⟩
  have hR:=hide ((hDR.out 0 D).2 ⟨he.symm,fun _=>⟨e1,e3,e4⟩⟩)
  have hcl:D.cs.length≤2*N:=by omega
  have hps1:=hide hps
  have kf:=hide (kfin.out w4 k4)
  clear hc hps kfin he e1 e2 e3 e4 q3' q4' q5' q6'
  go_wp2
  exact bodyPost_ret (results_tmp2 rfl _ _ _) rfl ⟨kf.out,.inr ⟨b,D,rfl,hps1.out,hcl,hR.out⟩⟩
 have hc:=hide (join_n hA3.out hB3.out o_m o_m)
 go_wp2_with fail
 refine hc.out.mono ?_
 rintro e w4 ⟨k4,⟨he,rfl⟩|⟨he,b,D,rfl,hps,e1,e2,e3,e4⟩⟩
 ·have hR:=hide ((hDR.out _ A).2 ⟨rfl,fun h=>absurd h he⟩)
  have kf:=hide (kfin.out w4 k4)
  have he1:=hide he
  clear hc he kfin q3' q4' q5' q6'
  go_wp2
  exact bodyPost_ret (results_tmp2 rfl _ _ _) rfl ⟨kf.out,.inl ⟨_,A,he1.out,rfl,hR.out⟩⟩
 have hR:=hide ((hDR.out 0 D).2 ⟨he.symm,fun _=>⟨e1,e3,e4⟩⟩)
 have hcl:D.cs.length≤2*N:=by omega
 have hps1:=hide hps
 have kf:=hide (kfin.out w4 k4)
 clear hc hps kfin he e1 e2 e3 e4 q3' q4' q5' q6'
 go_wp2
 exact bodyPost_ret (results_tmp2 rfl _ _ _) rfl ⟨kf.out,.inr ⟨b,D,rfl,hps1.out,hcl,hR.out⟩⟩
theorem sets19_n {w:World}{la:Option Addr}{ln lc:Nat}{R:List MkD}(hR:MLs w la ln R)(hn:ln≤1048576):
  Calls Tryz.prog 15 #[.slice la ln lc] w fun e w'=> ∃a n c Ds,e= .returned (.slice a n c)∧a≠none∧SLs w' a n Ds∧1≤n∧n≤13∧(∀D∈Ds,D.cs.length≤4096)∧Blt R (min ln 12) Ds∧Below w.heap.size w w':=by
 have hno:=hide (none_n w)
 replace hR:=hide hR
 go_enter Tryz.func15,Tryz.ntmps15
 go_wp2_with fail
 refine hno.out.mono ?_
 rintro e w1 ⟨b0,D0,rfl,hps,k1,hm,hp,hc⟩
 have b1:=below_alloc w1 (.cells #[.pointer (some ⟨b0,0,none⟩)] 25)
 have o1:=hide (owz_lit (enc:=encp) (zc:=(Value.pointer none).cells) (e:=25) encp_len w1 [b0] 1 rfl (by decide) #[.pointer (some ⟨b0,0,none⟩)] rfl)
 have p1:=hide (pp_one (hps.below b1))
 have k2:=hide (grow_step b1 k1)
 have hB:Hid (Blt R 0 [D0]):=hide ⟨D0,rfl,hp,hc,hm⟩
 have hcs:Hid (∀D∈ [D0],D.cs.length≤2^0):=hide fun D h=>by rw[List.mem_singleton.1 h,hc];exact Nat.zero_le _
 have hob:Hid (OwP _ w.heap.size _ 1 [b0]):=hide ⟨⟨o1.out.own.1,.inr ⟨w1.heap.size,1,_,rfl,k1.size,heap_alloc_new w1 _,by decide,by decide,rfl,rfl⟩⟩,o1.out.sp,o1.out.ne⟩
 clear hno b1 hps k1 hm hp hc o1
 go_wp2_with fail
 go_loopw [3,4] (fun vo vi wr=> ∃(i n g c:Nat) (q:List Nat) (Ds:List PD),i≤12∧i≤ln∧vi= .int .i64 i∧vo= .slice (some ⟨g,0,none⟩) n c∧OwP wr w.heap.size (.slice (some ⟨g,0,none⟩) n c) n q∧Pp wr q Ds∧1≤n∧n≤i+1∧(∀D∈Ds,D.cs.length≤2^i)∧Blt R i Ds∧Below w.heap.size w wr) (fun _ vi _=>12-(intOf vi).toNat)
 case atStart=>exact⟨0,1,_,_,[b0],[D0],by decide,Nat.zero_le _,rfl,rfl,hob.out,p1.out,by decide,by decide,hcs.out,hB.out,k2.out⟩
 case round=>
  clear hob p1 hcs hB k2
  obtain⟨i,n,g,c,q,Ds,hi12,hil,rfl,rfl,ho,hp,hn1,hni,hcs,hbl2,kr⟩:=hrel
  by_cases hil2:i<ln
  ·by_cases hi2:i<12
   ·obtain⟨m,rfl⟩: ∃m,n=m+1:=⟨n-1,by omega⟩
    obtain⟨bl,hbl⟩:=owp_last ho hn1
    rw[Nat.add_sub_cancel]at hbl
    obtain⟨a',c',he,hsl⟩:=owp_sl ho hp
    cases he
    obtain⟨mb,mo,zk,zd,rfl,hmb,mc⟩:=(hR.out.below kr).get hil2
    obtain⟨x,hx⟩: ∃x,R.getD i ⟨0,0,0,0,0⟩=x:=⟨_,rfl⟩
    rw[hx]at mc
    have hpw:=pow_two_le hi12
    have hdo:=hide (do19_n (lc:=c) (N:=2^i) mc.nk mc.kl mc.nd mc.dl mc.ik mc.ia mc.ib hsl hn1 o_m hpw.1 o_m hcs)
    have e0:=mc.c0
    have e1:=mc.c1
    have e2:=mc.c2
    have e3:=mc.c3
    have e4:=mc.c4
    have e5:=mc.c5
    have e6:=mc.c6
    replace hx:=hide hx
    replace ho:=hide ho
    replace hp:=hide hp
    replace hcs:=hide hcs
    replace hbl2:=hide hbl2
    replace kr:=hide kr
    clear hsl mc hpw
    go_wp2_with fail
    refine hdo.out.mono ?_
    rintro e w4 ⟨k4,⟨err,D,he,rfl,hdr⟩|⟨b,D,rfl,hps,hcl,hdr⟩⟩
    ·have hne:(err==0)=false:=by rw[beq_eq_false_iff_ne];exact he
     have hb5:Hid (Blt R (i+1) Ds):=hide ⟨Ds,hbl2.out,.inl ⟨err,D,he,by rw[hx.out];exact hdr,rfl⟩⟩
     have hc5:Hid (∀D∈Ds,D.cs.length≤2^(i+1)):=hide fun D h=>Nat.le_trans (hcs.out D h) (Nat.pow_le_pow_right (by decide) (Nat.le_succ i))
     have ho5:=hide (ho.out.below k4)
     have hp5:=hide (hp.out.below k4)
     have k5:=hide (grow_step k4 kr.out)
     clear hdo he hdr k4 hbl e0 e1 e2 e3 e4 e5 e6 ho hp hcs hbl2 kr hx
     go_wp2
     go_roundw
     case measure=>simp[intOf];omega
     case rel=>exact⟨i+1,m+1,g,_,q,Ds,by omega,by omega,by go_num,rfl,ho5.out,hp5.out,hn1,by omega,hc5.out,hb5.out,k5.out⟩
    have hb5:Hid (Blt R (i+1) (Ds++ [D])):=hide ⟨Ds,hbl2.out,.inr ⟨D,by rw[hx.out];exact hdr,rfl⟩⟩
    have hc5:Hid (∀E∈Ds++ [D],E.cs.length≤2^(i+1)):=hide fun E h=>by
     rcases List.mem_append.1 h with h|h
     ·exact Nat.le_trans (hcs.out E h) (Nat.pow_le_pow_right (by decide) (Nat.le_succ i))
     rw[List.mem_singleton.1 h,Nat.pow_succ,Nat.mul_comm];exact hcl
    have b5:=below_alloc w4 (.cells #[.pointer (some ⟨b,0,none⟩)] 25)
    have ho5:=hide ((ho.out.below k4).below b5)
    have hp5:=hide (((hp.out.below k4).app (pp_one hps)).below b5)
    have k5:=hide (grow_step b5 (grow_step k4 kr.out))
    have s5:=hide (onep_src (w:=w4) (b:=b))
    clear hdo hdr k4 hbl e0 e1 e2 e3 e4 e5 e6 ho hp hcs hbl2 kr hx b5 hps hcl
    go_wp2_with(refine appz_wp (m:=1) Tryz.underlying27 infoP rfl (by decide) (by decide) encp_len encp_one rfl _ _ rfl rfl ho5.out [b] rfl (.inr ⟨_,_,rfl,s5.out⟩) o_m k5.out.size ?_)
    intro v6 w6 o6 g6 _
    have k6:=hide (owp_step ho5.out g6 k5.out k5.out.size)
    have p6:=hide (hp5.out.grown ho5.out g6)
    obtain⟨-,g',c',rfl⟩:=owp_form o6
    replace o6:=hide o6
    clear ho5 hp5 k5 s5 g6
    go_wp2
    go_roundw
    case measure=>simp[intOf];omega
    case rel=>exact⟨i+1,m+1+1,g',c',_,_,by omega,by omega,by go_num,rfl,o6.out,p6.out,by omega,by omega,hc5.out,hb5.out,k6.out⟩
   have hi2':i=12:=by omega
   obtain⟨m,rfl⟩: ∃m,n=m+1:=⟨n-1,by omega⟩
   obtain⟨bl,hbl⟩:=owp_last ho hn1
   rw[Nat.add_sub_cancel]at hbl
   obtain⟨a',c',he,hsl⟩:=owp_sl ho hp
   cases he
   have hsl1:=hide hsl
   have hk1:=hide kr
   have hbt:Hid (Blt R (min ln 12) Ds):=hide (by rw[show min ln 12=i by omega];exact hbl2)
   have hc1:Hid (∀D∈Ds,D.cs.length≤4096):=hide fun D h=>Nat.le_trans (hcs D h) (pow_two_le hi12).2
   clear ho hp hsl hcs hbl2 kr
   go_wp2
   exact bodyPost_ret (results_tmp rfl _ _ _) rfl ⟨_,_,_,Ds,rfl,(fun h=>by cases h),hsl1.out,hn1,by omega,hc1.out,hbt.out,hk1.out⟩
  have hi2':i=ln:=by omega
  obtain⟨m,rfl⟩: ∃m,n=m+1:=⟨n-1,by omega⟩
  obtain⟨bl,hbl⟩:=owp_last ho hn1
  rw[Nat.add_sub_cancel]at hbl
  obtain⟨a',c',he,hsl⟩:=owp_sl ho hp
  cases he
  have hsl1:=hide hsl
  have hk1:=hide kr
  have hbt:Hid (Blt R (min ln 12) Ds):=hide (by rw[show min ln 12=i by omega];exact hbl2)
  have hc1:Hid (∀D∈Ds,D.cs.length≤4096):=hide fun D h=>Nat.le_trans (hcs D h) (pow_two_le hi12).2
  clear ho hp hsl hcs hbl2 kr
  go_wp2
  exact bodyPost_ret (results_tmp rfl _ _ _) rfl ⟨_,_,_,Ds,rfl,(fun h=>by cases h),hsl1.out,hn1,by omega,hc1.out,hbt.out,hk1.out⟩
theorem pick19_n (c n:Int)(h0: -9223372036854775808≤c)(h1:c≤9223372036854775807)(hn0:0<n)(hn1:n≤9223372036854775807)(w:World):
  Calls Tryz.prog 18 #[.int .i64 c,.int .i64 n] w fun e w'=>e= .returned (.int .i64 (pkN c n))∧Below w.heap.size w w':=by
 have hp:=hide (pick_n c n h0 h1 hn0 hn1 w)
 go_enter Tryz.func18,Tryz.ntmps18
 go_wp2_with fail
 refine hp.out.mono ?_
 rintro e w1 ⟨rfl,k1⟩
 replace k1:=hide k1
 clear hp
 go_wp2
 exact bodyPost_ret (results_tmp rfl _ _ _) rfl ⟨rfl,k1.out⟩
end Pd
namespace Pd

end Pd
end Go.Proofs.YtaafoppaepcaeaaGreat
