/-
 Several texts in one: JM,JN,VT,VS.
-/
import Derived.Test.YtllfelooahplhaaGreatDoorSor37
namespace Go.Proofs.YtllfelooahplhaaGreatDoor
open Tm At
namespace Nt

def Dn (L:List Nd)(i y:Int):Prop:=∀Q:Int→Prop,Q i→(∀a b,Q a→okI L a→b∈(ndI L a).kids→Q b)→Q y
theorem dn_self (L:List Nd)(i:Int):Dn L i i:=fun _ h _=>h
theorem dn_kid {L:List Nd}{i a b:Int}(h:Dn L i a)(ho:okI L a)(hb:b∈(ndI L a).kids):Dn L i b:=fun Q h1 h2=>h2 a b (h Q h1 h2) ho hb
theorem dn_up {L:List Nd}{i a b:Int}(ho:okI L i)(ha:a∈(ndI L i).kids)(h:Dn L a b):Dn L i b:=fun Q h1 h2=>h Q (h2 i a h1 ho ha) h2
theorem dn_ok {L:List Nd}(hw:Wk L){i y:Int}(ho:okI L i)(h:Dn L i y):okI L y:=h (okI L) ho fun _ _ h1 _ h2=>hw.ok h1 h2
theorem dn_cases {L:List Nd}{i y:Int}(h:Dn L i y):y=i∨(okI L i∧∃z∈(ndI L i).kids,Dn L z y):=
 h (fun y=>y=i∨(okI L i∧∃z∈(ndI L i).kids,Dn L z y)) (.inl rfl) fun _ b ha ho hb=>ha.elim (fun e=> .inr ⟨e▸ho,b,e▸hb,dn_self L b⟩) fun⟨h1,z,hz,h2⟩=> .inr ⟨h1,z,hz,dn_kid h2 ho hb⟩
def Her (L:List Nd)(P:Int→Prop)(i:Int):Prop:=∀y,Dn L i y→P y
theorem her_iff {L:List Nd}{P:Int→Prop}{i:Int}(ho:okI L i):Her L P i↔P i∧∀z∈(ndI L i).kids,Her L P z:=
 ⟨fun h=>⟨h i (dn_self L i),fun _ hz y hy=>h y (dn_up ho hz hy)⟩,fun⟨h1,h2⟩ y hy=>(dn_cases hy).elim (fun e=>e▸h1) fun⟨_,_,hz,h⟩=>h2 _ hz y h⟩
theorem dn_app {L t:List Nd}(hw:Wk L){i y:Int}(ho:okI L i):Dn (L++t) i y↔Dn L i y:=by
 constructor
 ·intro h
  refine(h (fun y=>okI L y∧Dn L i y) ⟨ho,dn_self L i⟩ fun a b ⟨h1,h2⟩ _ hb=> ?_).2
  rw[ndI_app h1]at hb
  exact⟨hw.ok h1 hb,dn_kid h2 h1 hb⟩
 intro h
 refine(h (fun y=>okI L y∧Dn (L++t) i y) ⟨ho,dn_self _ i⟩ fun a b ⟨h1,h2⟩ _ hb=> ?_).2
 exact⟨hw.ok h1 hb,dn_kid h2 (okI_app h1) (by rw[ndI_app h1];exact hb)⟩
theorem her_le {L L':List Nd}(hw:Wk L)(hl: ∃t,L'=L++t){P P':Int→Prop}(hP: ∀y,okI L y→(P' y↔P y)){i:Int}(ho:okI L i):Her L' P' i↔Her L P i:=by
 obtain⟨t,rfl⟩:=hl
 exact⟨fun h y hy=>(hP y (dn_ok hw ho hy)).1 (h y ((dn_app hw ho).2 hy)),fun h y hy=>(hP y (dn_ok hw ho ((dn_app hw ho).1 hy))).2 (h y ((dn_app hw ho).1 hy))⟩
theorem her_rk {L:List Nd}{P:Int→Prop}{kd:Int}{ids:List Int}(hi: ∀x∈ids,Her L P x){x:Int}(hx:Rk L kd ids x):Her L P x:=
 hx (Her L P) hi fun _ z hy ho _ hz=>((her_iff ho).1 hy).2 z hz
theorem putE_node {nn kk:Int}{s:St}{n:Nd}(he:(putE nn kk s n).2.2=0):ndI (putE nn kk s n).1.L (putE nn kk s n).2.1=n:=by
 rcases putE_cases nn kk s n with⟨i,g1,e⟩|⟨_,er,g1,e,_⟩|⟨_,_,_,e⟩
 ·rw[e]
  show(s.L[((i:Int)).toNat]?).getD _=_
  rw[Int.toNat_natCast,g1]
  rfl
 ·rw[e]at he
  exact absurd he g1
 rw[e]
 show((s.L++ [n])[((s.L.length:Int)).toNat]?).getD _=_
 rw[Int.toNat_natCast]
 simp
theorem actJ_cases {nn kk:Int}{s:St}{kd:Int}{l:List Int}(hkd:kd=5∨kd=6)(hl: ∀x∈l,okI s.L x):
  (l= []∧actJ nn kk s kd l=(s,if kd=5 then 1 else 0,0))∨(∃x,(∀y,y∈l↔y=x)∧actJ nn kk s kd l=(s,x,0))∨(2≤(ris l).length∧actJ nn kk s kd l=putE nn kk s ⟨kd,0,[],0,0,ris l⟩):=by
 have ha:l.any (lck s.L.length)=false:=by
  rw[List.any_eq_false]
  intro x hx
  rw[okI_lck.2 (hl x hx)]
  simp
 have hm:=mem_ris l
 unfold actJ
 rw[if_neg o_m,ha,if_neg (by simp)]
 split
 ·rename_i e
  rw[e]at hm
  exact .inl ⟨List.eq_nil_iff_forall_not_mem.2 fun x hx=>List.not_mem_nil ((hm x).2 hx),rfl⟩
 ·rename_i x e
  rw[e]at hm
  exact .inr (.inl ⟨x,fun y=>by rw[←hm y,List.mem_singleton],rfl⟩)
 rename_i x y t e
 rw[e]
 exact .inr (.inr ⟨by simp,rfl⟩)
theorem SimpR.her {nn kk:Int}{s:St}{kd dual idle rul sg:Int}{ids:List Int}{r:St × Int × Int}(h:SimpR nn kk s kd dual idle rul sg ids r)(hkd:kd=5∨kd=6)(hr:rul=0∨rul=1)(hg:Gv kk s.L)(he:r.2.2=0)
  {P P':Int→Prop}(hP: ∀y,okI s.L y→(P' y↔P y))(h0:P 0)(h1:P 1)(hj:okI r.1.L r.2.1→(ndI r.1.L r.2.1).kind=kd→¬okI s.L r.2.1∨(∃l,(∀x,x∈l↔Need s.L sg dual (Mem s.L kd idle ids) x)∧(ndI r.1.L r.2.1).kids=ris l)→P' r.2.1)(hi: ∀x∈ids,Her s.L P x):Her r.1.L P' r.2.1:=by
 have hk:=h.kp hkd hr hg
 have hc: ∀x,(x=0∨x=1)→Her s.L P x:=fun x hx=>by
  rcases hx with rfl|rfl
  ·rw[her_iff hg.ok0,hg.n0];exact⟨h0,fun z hz=>by cases hz⟩
  rw[her_iff hg.ok1,hg.n1];exact⟨h1,fun z hz=>by cases hz⟩
 rcases h with⟨_,rfl⟩|⟨ho,⟨_,rfl⟩|⟨_,l,hl,rfl⟩⟩
 ·cases he
 ·exact(her_le hg.wk hk.le hP (by rcases hr with rfl|rfl;exact hg.ok0;exact hg.ok1)).2 (hc _ hr)
 have hlo: ∀x∈l,okI s.L x:=fun x hx=>((hl x).1 hx).1.1.2.1
 have hlh: ∀x∈l,Her s.L P x:=fun x hx=>her_rk hi ((hl x).1 hx).1.1.1
 rcases actJ_cases (nn:=nn) (kk:=kk) hkd hlo with⟨_,e⟩|⟨x,hx,e⟩|⟨h2,e⟩
 ·rw[e]at hk ⊢
  refine(her_le hg.wk hk.le hP ?_).2 (hc _ ?_)
  ·simp only
   split
   ·exact hg.ok1
   exact hg.ok0
  simp only
  split
  ·exact .inr rfl
  exact .inl rfl
 ·rw[e]at hk ⊢
  exact(her_le hg.wk hk.le hP (hlo x ((hx x).2 rfl))).2 (hlh x ((hx x).2 rfl))
 rw[e]at hk he hj ⊢
 have hn:=putE_node he
 have hok:=hk.ok he
 rw[her_iff hok,hn]
 refine⟨hj hok (by rw[hn]) (.inr ⟨l,hl,by rw[hn]⟩),fun z hz=> ?_⟩
 have hz':=(mem_ris l z).1 hz
 exact(her_le hg.wk hk.le hP (hlo z hz')).2 (hlh z hz')

structure Cl (L:List Nd) (kd dual idle rul sg:Int) (l:List Int):Prop where
 ok: ∀x∈l,okI L x∧(ndI L x).kind≠kd∧x≠idle∧x≠rul
 least: ∀x∈l,∀y∈l,(ndI L x).kind=2→(ndI L y).kind=2→(ndI L y).ps=(ndI L x).ps→¬sg*(ndI L y).k<sg*(ndI L x).k
 clash: ∀x∈l,∀y∈l,(ndI L x).kind=2→(ndI L y).kind=2→(ndI L y).ps=negP (ndI L x).ps→¬sg*((ndI L x).k+(ndI L y).k)≤sg
 opp: ∀x∈l,∀y∈l,¬((ndI L x).kind=3∧(ndI L y).kind=4∧(ndI L x).d=(ndI L y).d∧(ndI L x).ps=(ndI L y).ps∧(ndI L x).k=(ndI L y).k)
 need: ∀x∈l,(ndI L x).kind=dual→∀z∈(ndI L x).kids,z∉l
theorem Cl.set {L:List Nd}{kd dual idle rul sg:Int}{l k:List Int}(h:Cl L kd dual idle rul sg l)(e: ∀x,x∈k↔x∈l):Cl L kd dual idle rul sg k:=
 ⟨fun x hx=>h.ok x ((e x).1 hx),fun x hx y hy=>h.least x ((e x).1 hx) y ((e y).1 hy),fun x hx y hy=>h.clash x ((e x).1 hx) y ((e y).1 hy),fun x hx y hy=>h.opp x ((e x).1 hx) y ((e y).1 hy),fun x hx h1 z hz hzk=>h.need x ((e x).1 hx) h1 z hz ((e z).1 hzk)⟩
theorem Cl.app {L t:List Nd}{kd dual idle rul sg:Int}{l:List Int}(hl: ∀x∈l,okI L x):Cl (L++t) kd dual idle rul sg l↔Cl L kd dual idle rul sg l:=by
 have e: ∀x∈l,ndI (L++t) x=ndI L x:=fun x hx=>ndI_app (hl x hx)
 constructor
 ·intro h
  refine⟨fun x hx=>⟨hl x hx,?_⟩,fun x hx y hy=> ?_,fun x hx y hy=> ?_,fun x hx y hy=> ?_,fun x hx=> ?_⟩
  ·have:=(h.ok x hx).2;rw[e x hx]at this;exact this
  ·have:=h.least x hx y hy;rw[e x hx,e y hy]at this;exact this
  ·have:=h.clash x hx y hy;rw[e x hx,e y hy]at this;exact this
  ·have:=h.opp x hx y hy;rw[e x hx,e y hy]at this;exact this
  have:=h.need x hx;rw[e x hx]at this;exact this
 intro h
 refine⟨fun x hx=>⟨okI_app (hl x hx),?_⟩,fun x hx y hy=> ?_,fun x hx y hy=> ?_,fun x hx y hy=> ?_,fun x hx=> ?_⟩
 ·rw[e x hx];exact(h.ok x hx).2
 ·rw[e x hx,e y hy];exact h.least x hx y hy
 ·rw[e x hx,e y hy];exact h.clash x hx y hy
 ·rw[e x hx,e y hy];exact h.opp x hx y hy
 rw[e x hx];exact h.need x hx
theorem need_cl {L:List Nd}{kd dual idle rul sg:Int}{ids l:List Int}(hn: ¬(Mem L kd idle ids rul∨Clash L sg (Mem L kd idle ids)∨Oppos L (Mem L kd idle ids)))(hl: ∀x,x∈l↔Need L sg dual (Mem L kd idle ids) x):Cl L kd dual idle rul sg l:=by
 refine⟨fun x hx=> ?_,fun x hx y hy h1 h2 e=> ?_,fun x hx y hy h1 h2 e h3=> ?_,fun x hx y hy h1=> ?_,fun x hx h1 z hz hzl=> ?_⟩
 ·have h1:=((hl x).1 hx).1.1
  exact⟨h1.2.1,h1.2.2.1,h1.2.2.2,fun e=>hn (.inl (e▸h1))⟩
 ·exact(((hl x).1 hx).1.2 h1).2.2 y ((hl y).1 hy).1.1 h2 e
 ·exact hn (.inr (.inl ⟨x,y,((hl x).1 hx).1.2 h1,((hl y).1 hy).1.2 h2,e,h3⟩))
 ·exact hn (.inr (.inr ⟨x,y,((hl x).1 hx).1.1,((hl y).1 hy).1.1,h1⟩))
 exact((hl x).1 hx).2 ⟨h1,z,hz,((hl z).1 hzl).1⟩
theorem Cl.mem {L:List Nd}{kd dual idle rul sg:Int}{l:List Int}(h:Cl L kd dual idle rul sg l)(x:Int):Mem L kd idle l x↔x∈l:=by
 constructor
 ·rintro⟨h1,_⟩
  exact h1 (fun y=>y∈l) (fun _ hy=>hy) fun y z hy _ hk _=>absurd hk (h.ok y hy).2.1
 exact fun hx=>⟨rk_id hx,(h.ok x hx).1,(h.ok x hx).2.1,(h.ok x hx).2.2.1⟩
theorem Cl.simp {nn kk:Int}{s:St}{kd dual idle rul sg:Int}{ids l:List Int}(h:Cl s.L kd dual idle rul sg l)(ho: ∀x∈ids,okI s.L x)(hm: ∀x,Mem s.L kd idle ids x↔x∈l):SimpR nn kk s kd dual idle rul sg ids (actJ nn kk s kd l):=by
 have hst: ∀x,x∈l→(ndI s.L x).kind=2→Stay s.L sg (Mem s.L kd idle ids) x:=fun x hx hk=>⟨(hm x).2 hx,hk,fun y hy h1 e=>h.least x hx y ((hm y).1 hy) hk h1 e⟩
 refine .inr ⟨ho,.inr ⟨?_,l,fun x=>⟨fun hx=>⟨⟨(hm x).2 hx,hst x hx⟩,?_⟩,fun hx=>(hm x).1 hx.1.1⟩,rfl⟩⟩
 ·rintro(h1|⟨x,y,h1,h2,e,h3⟩|⟨x,y,h1,h2,e⟩)
  ·exact(h.ok rul ((hm rul).1 h1)).2.2.2 rfl
  ·exact h.clash x ((hm x).1 h1.1) y ((hm y).1 h2.1) h1.2.1 h2.2.1 e h3
  exact h.opp x ((hm x).1 h1) y ((hm y).1 h2) e
 rintro⟨h1,z,hz,hk⟩
 exact h.need x hx h1 z hz ((hm z).1 hk.1)
theorem cl_found {nn kk:Int}{s:St}{kd:Int}{x:Int}(hg:Gv kk s.L)(ho:okI s.L x)(hkd:kd=5∨kd=6)(hk:(ndI s.L x).kind=kd):actJ nn kk s kd (ndI s.L x).kids=(s,x,0):=by
 have hw:=hg.wk
 rcases hg.cases ho with⟨_,e⟩|⟨_,e⟩|⟨_,f,_,h3,_,e,_⟩|⟨_,kd',kids,h3,e,h5,h6,h7⟩|⟨_,kd',v,y,h3,e,_⟩
 ·rw[e]at hk;simp[cst]at hk;omega
 ·rw[e]at hk;simp[cst]at hk;omega
 ·rw[e]at hk;dsimp only at hk;omega
 ·have hkk:kd'=kd:=by rw[e]at hk;exact hk
  subst hkk
  rcases actJ_cases (nn:=nn) (kk:=kk) (s:=s) (l:=(ndI s.L x).kids) hkd (fun z hz=>hw.ok ho hz)with⟨h1,_⟩|⟨y,h1,_⟩|⟨h1,h2⟩
  ·rw[e]at h1;dsimp only at h1;rw[h1]at h5;simp at h5
  ·rw[e]at h1
   dsimp only at h1
   exfalso
   rcases kids with _|⟨a,_|⟨b,t⟩⟩
   ·simp at h5
   ·simp at h5
   have ha:=(h1 a).1 (by simp)
   have hb:=(h1 b).1 (by simp)
   have:=(List.pairwise_cons.1 h6).1 b (by simp)
   omega
  rw[h2]
  have hs:=ndI_some ho
  rw[e]at hs ⊢
  dsimp only
  rw[ris_id h6,putE_found hg.uq hs]
  have:=ho.1
  rw[Int.toNat_of_nonneg this]
 rw[e]at hk;dsimp only at hk;omega
def Law5 (kd dual idle rul sg:Int):Prop:=(kd=5∧dual=6∧idle=1∧rul=0∧sg=1)∨(kd=6∧dual=5∧idle=0∧rul=1∧sg= -1)
theorem rk_one {L:List Nd}{kd x:Int}(ho:okI L x)(hk:(ndI L x).kind=kd){y:Int}:Rk L kd [x] y↔y=x∨Rk L kd (ndI L x).kids y:=by
 constructor
 ·intro h
  refine h (fun y=>y=x∨Rk L kd (ndI L x).kids y) (fun y hy=> .inl (by simpa using hy)) fun a b ha hoa hka hb=> ?_
  rcases ha with rfl|ha
  ·exact .inr (rk_id hb)
  exact .inr (rk_kid ha hoa hka hb)
 rintro(rfl|h)
 ·exact rk_id (by simp)
 exact h (Rk L kd [x]) (fun a ha=>rk_kid (rk_id (by simp)) ho hk ha) fun a b ha hoa hka hb=>rk_kid ha hoa hka hb
theorem mem_one {L:List Nd}{kd idle x:Int}(ho:okI L x)(hk:(ndI L x).kind=kd){y:Int}:Mem L kd idle [x] y↔Mem L kd idle (ndI L x).kids y:=by
 unfold Mem
 rw[rk_one ho hk]
 constructor
 ·rintro⟨rfl|h,h2⟩
  ·exact absurd hk h2.2.1
  exact⟨h,h2⟩
 exact fun⟨h,h2⟩=>⟨.inr h,h2⟩
theorem SimpR.twice {nn kk:Int}{s:St}{kd dual idle rul sg:Int}{ids:List Int}{r:St × Int × Int}(h:SimpR nn kk s kd dual idle rul sg ids r)(hlw:Law5 kd dual idle rul sg)(hg:Gv kk s.L)(he:r.2.2=0){nn' kk':Int}{s':St}(hl: ∃t,s'.L=r.1.L++t)(hg':Gv kk' s'.L):SimpR nn' kk' s' kd dual idle rul sg [r.2.1] (s',r.2.1,0):=by
 have hkd:kd=5∨kd=6:=by unfold Law5 at hlw;omega
 have hrl:rul=0∨rul=1:=by unfold Law5 at hlw;omega
 have hk:=h.kp hkd hrl hg
 have hok:okI s'.L r.2.1:=by obtain⟨t,e⟩:=hl;rw[e];exact okI_app (hk.ok he)
 have hc: ∀x,x=0∨x=1→okI s'.L x∧(ndI s'.L x).kind=x:=fun x hx=>by
  rcases hx with rfl|rfl
  ·exact⟨hg'.ok0,by rw[hg'.n0];rfl⟩
  exact⟨hg'.ok1,by rw[hg'.n1];rfl⟩
 have hone: ∀x∈ [r.2.1],okI s'.L x:=fun x hx=>by rw[List.mem_singleton.1 hx];exact hok
 rcases h with⟨_,rfl⟩|⟨ho,⟨_,rfl⟩|⟨h1,l,hml,rfl⟩⟩
 ·cases he
 ·refine .inr ⟨hone,.inl ⟨.inl ⟨rk_id (by simp),hok,?_,?_⟩,rfl⟩⟩
  ·have:=hc rul hrl
   unfold Law5 at hlw
   omega
  unfold Law5 at hlw
  omega
 have hcl0:=need_cl h1 hml
 have hlo: ∀x∈l,okI s.L x:=fun x hx=>(hcl0.ok x hx).1
 have hle: ∃t,s'.L=s.L++t:=by
  obtain⟨t,e⟩:=hl
  obtain⟨t',e'⟩:=hk.le
  exact⟨t'++t,by rw[e,e',List.append_assoc]⟩
 have hcl:Cl s'.L kd dual idle rul sg l:=by
  obtain⟨t,e⟩:=hle
  rw[e]
  exact(Cl.app hlo).2 hcl0
 have hlo': ∀x∈l,okI s'.L x:=fun x hx=>(hcl.ok x hx).1
 rcases actJ_cases (nn:=nn) (kk:=kk) hkd hlo with⟨e0,e⟩|⟨x,hx,e⟩|⟨h2,e⟩
 ·rw[e]at hone ⊢
  simp only at hone ⊢
  have hi:(if kd=5 then(1:Int)else 0)=idle:=by unfold Law5 at hlw;split <;> omega
  rw[hi]at hone ⊢
  have hS:=Cl.simp (nn:=nn') (kk:=kk') (ids:=[idle]) (l:=[]) (hcl.set (k:=[]) (by rw[e0];simp)) hone fun x=>⟨fun hm=>by
   exfalso
   have hr:=hm.1 (fun y=>y=idle) (fun y hy=>by simpa using hy) fun y z hy _ hky _=>by
    subst hy
    have:=hc y (by unfold Law5 at hlw;omega)
    omega
   exact hm.2.2.2 hr,fun hx=>by cases hx⟩
  rcases actJ_cases (nn:=nn') (kk:=kk') (s:=s') (l:=[]) hkd (by simp)with⟨_,e3⟩|⟨x,hx,_⟩|⟨h2,_⟩
  ·rw[e3,hi]at hS
   exact hS
  ·exact absurd ((hx x).2 rfl) (by simp)
  rw[ris_id List.Pairwise.nil]at h2
  simp at h2
 ·rw[e]at hone ⊢
  simp only at hone ⊢
  have hxl:=(hx x).2 rfl
  have hS:=Cl.simp (nn:=nn') (kk:=kk') (ids:=[x]) (l:=[x]) (hcl.set fun y=>by rw[hx y,List.mem_singleton]) hone fun y=>by
   have:=Cl.mem (hcl.set (k:=[x]) fun y=>by rw[hx y,List.mem_singleton]) y
   exact this
  rcases actJ_cases (nn:=nn') (kk:=kk') (s:=s') (l:=[x]) hkd hone with⟨e3,_⟩|⟨y,hy,e3⟩|⟨h2,_⟩
  ·cases e3
  ·have:x=y:=(hy x).1 (by simp)
   subst this
   rw[e3]at hS
   exact hS
  rw[ris_id (List.pairwise_singleton _ _)]at h2
  simp at h2
 rw[e]at hone hok he hl hk ⊢
 have hn:=putE_node he
 have hok0:=hk.ok he
 have hn':ndI s'.L (putE nn kk s ⟨kd,0,[],0,0,ris l⟩).2.1=⟨kd,0,[],0,0,ris l⟩:=by
  obtain⟨t,e4⟩:=hl
  rw[e4,ndI_app hok0,hn]
 generalize (putE nn kk s ⟨kd,0,[],0,0,ris l⟩).2.1=x at*
 have hclr:=hcl.set (k:=ris l) (mem_ris l)
 have hS:=Cl.simp (nn:=nn') (kk:=kk') (ids:=[x]) (l:=ris l) hclr hone fun y=>by
  rw[mem_one hok (by rw[hn']),hn']
  exact hclr.mem y
 have hf:=cl_found (nn:=nn') hg' hok hkd (by rw[hn'])
 rw[hn']at hf
 dsimp only at hf
 rw[hf]at hS
 exact hS
def SmpP (L:List Nd)(y:Int):Prop:=((ndI L y).kind=5→Cl L 5 6 1 0 1 (ndI L y).kids)∧((ndI L y).kind=6→Cl L 6 5 0 1 (-1) (ndI L y).kids)
def Smp (L:List Nd)(i:Int):Prop:=Her L (SmpP L) i
theorem smpP_app {L L':List Nd}(hw:Wk L)(hl: ∃t,L'=L++t)(y:Int)(ho:okI L y):SmpP L' y↔SmpP L y:=by
 obtain⟨t,rfl⟩:=hl
 unfold SmpP
 rw[ndI_app ho,Cl.app fun x hx=>hw.ok ho hx,Cl.app fun x hx=>hw.ok ho hx]
theorem smp_le {L L':List Nd}(hw:Wk L)(hl: ∃t,L'=L++t){i:Int}(ho:okI L i):Smp L' i↔Smp L i:=her_le hw hl (smpP_app hw hl) ho
theorem SimpR.smp {nn kk:Int}{s:St}{kd dual idle rul sg:Int}{ids:List Int}{r:St × Int × Int}(h:SimpR nn kk s kd dual idle rul sg ids r)(hlw:Law5 kd dual idle rul sg)(hg:Gv kk s.L)(he:r.2.2=0)(hi: ∀x∈ids,Smp s.L x):Smp r.1.L r.2.1:=by
 have hkd:kd=5∨kd=6:=by unfold Law5 at hlw;omega
 have hrl:rul=0∨rul=1:=by unfold Law5 at hlw;omega
 have hk:=h.kp hkd hrl hg
 have h':=h
 rcases h' with⟨_,rfl⟩|⟨ho,⟨_,rfl⟩|⟨h1,l,hml,rfl⟩⟩
 ·cases he
 ·refine h.her hkd hrl hg he (P:=SmpP s.L) (smpP_app hg.wk hk.le) ?_ ?_ ?_ hi
  ·unfold SmpP;rw[hg.n0];exact⟨fun e=>by simp[cst]at e,fun e=>by simp[cst]at e⟩
  ·unfold SmpP;rw[hg.n1];exact⟨fun e=>by simp[cst]at e,fun e=>by simp[cst]at e⟩
  intro _ hkk _
  exfalso
  simp only at hkk
  rcases hrl with rfl|rfl
  ·rw[hg.n0]at hkk;simp[cst]at hkk;omega
  rw[hg.n1]at hkk;simp[cst]at hkk;omega
 have hcl0:=need_cl h1 hml
 have hlo: ∀x∈l,okI s.L x:=fun x hx=>(hcl0.ok x hx).1
 refine h.her hkd hrl hg he (P:=SmpP s.L) (smpP_app hg.wk hk.le) ?_ ?_ ?_ hi
 ·unfold SmpP;rw[hg.n0];exact⟨fun e=>by simp[cst]at e,fun e=>by simp[cst]at e⟩
 ·unfold SmpP;rw[hg.n1];exact⟨fun e=>by simp[cst]at e,fun e=>by simp[cst]at e⟩
 intro hok hkk hor
 rcases actJ_cases (nn:=nn) (kk:=kk) hkd hlo with⟨_,e⟩|⟨x,hx,e⟩|⟨h2,e⟩
 ·exfalso
  rw[e]at hkk
  simp only at hkk
  rcases hkd with rfl|rfl
  ·rw[if_pos rfl,hg.n1]at hkk;simp[cst]at hkk
  rw[if_neg (by decide),hg.n0]at hkk;simp[cst]at hkk
 ·exfalso
  rw[e]at hkk
  exact(hcl0.ok x ((hx x).2 rfl)).2.1 hkk
 rw[e]at hk he ⊢
 have hn:=putE_node he
 have hclr:Cl (putE nn kk s ⟨kd,0,[],0,0,ris l⟩).1.L kd dual idle rul sg (ris l):=by
  obtain⟨t,e4⟩:=hk.le
  rw[e4]
  exact((Cl.app hlo).2 hcl0).set (mem_ris l)
 unfold SmpP
 rw[hn]
 dsimp only
 unfold Law5 at hlw
 rcases hlw with⟨rfl,rfl,rfl,rfl,rfl⟩|⟨rfl,rfl,rfl,rfl,rfl⟩
 ·exact⟨fun _=>hclr,fun e=>by omega⟩
 exact⟨fun e=>by omega,fun _=>hclr⟩
end Nt
namespace Nt

def Prs (J:Int→Int→Prop):List Int→List Int→Prop
 | [],[]=>True
 |a::la,b::lb=>J a b∧Prs J la lb
 | [],_::_=>False
 |_::_,[]=>False
theorem prs_snoc {J:Int→Int→Prop}{a b:Int}(h:J a b): ∀{la lb:List Int},Prs J la lb→Prs J (la++ [a]) (lb++ [b])
 | [],[],_=>⟨h,trivial⟩
 |_::_,_::_,k=>⟨k.1,prs_snoc h k.2⟩
 | [],_::_,k=>False.elim k
 |_::_,[],k=>False.elim k
theorem prs_mono {J K:Int→Int→Prop}: ∀{la lb:List Int},(∀a∈la,∀b∈lb,J a b→K a b)→Prs J la lb→Prs K la lb
 | [],[],_,_=>trivial
 |a::_la,b::_lb,h,k=>⟨h a List.mem_cons_self b List.mem_cons_self k.1,prs_mono (fun a ha b hb=>h a (List.mem_cons_of_mem _ ha) b (List.mem_cons_of_mem _ hb)) k.2⟩
 | [],_::_,_,k=>False.elim k
 |_::_,[],_,k=>False.elim k
theorem prs_len {J:Int→Int→Prop}: ∀{la lb:List Int},Prs J la lb→la.length=lb.length
 | [],[],_=>rfl
 |_::_,_::_,k=>congrArg Nat.succ (prs_len k.2)
 | [],_::_,k=>False.elim k
 |_::_,[],k=>False.elim k
theorem prs_left {J:Int→Int→Prop}: ∀{la lb:List Int},Prs J la lb→∀a∈la,∃b∈lb,J a b
 | [],[],_,_a,ha=>absurd ha List.not_mem_nil
 |_x::_la,y::_lb,k,a,ha=>(List.mem_cons.1 ha).elim (fun e=>⟨y,List.mem_cons_self,e▸k.1⟩) fun h=>(prs_left k.2 a h).elim fun b hb=>⟨b,List.mem_cons_of_mem _ hb.1,hb.2⟩
 | [],_::_,k,_,_=>False.elim k
 |_::_,[],k,_,_=>False.elim k
theorem prs_right {J:Int→Int→Prop}: ∀{la lb:List Int},Prs J la lb→∀b∈lb,∃a∈la,J a b
 | [],[],_,_a,ha=>absurd ha List.not_mem_nil
 |x::_la,_y::_lb,k,b,hb=>(List.mem_cons.1 hb).elim (fun e=>⟨x,List.mem_cons_self,e▸k.1⟩) fun h=>(prs_right k.2 b h).elim fun a ha=>⟨a,List.mem_cons_of_mem _ ha.1,ha.2⟩
 | [],_::_,k,_,_=>False.elim k
 |_::_,[],k,_,_=>False.elim k
theorem prs_id : ∀{la lb:List Int},Prs (fun a b=>b=a) la lb→lb=la
 | [],[],_=>rfl
 |_::_,_::_,k=>by rw[k.1,prs_id k.2]
 | [],_::_,k=>False.elim k
 |_::_,[],k=>False.elim k

def ndA (a:Atm):Nd:=⟨a.kind,a.d,a.ps,a.k,0,[]⟩
def NegR (nn kk:Int)(s:St)(i:Int)(ks:List Int)(r:St × Int × Int):Prop:=
 ((ndI s.L i).kind=5∧SimpR nn kk s 6 5 0 1 (-1) ks r)∨((ndI s.L i).kind=6∧SimpR nn kk s 5 6 1 0 1 ks r)∨
 ((ndI s.L i).kind=7∧r=actB nn kk s 8 (ndI s.L i).var (ks.headD 0))∨((ndI s.L i).kind=8∧r=actB nn kk s 7 (ndI s.L i).var (ks.headD 0))∨
 ((ndI s.L i).kind<5∧r=putE nn kk s (ndA (negA (atmN (ndI s.L i)))))
def AgR (nn kk:Int)(s:St)(i:Int)(ks:List Int)(r:St × Int × Int):Prop:=
 ((ndI s.L i).kind=5∧SimpR nn kk s 5 6 1 0 1 ks r)∨((ndI s.L i).kind=6∧SimpR nn kk s 6 5 0 1 (-1) ks r)∨
 (((ndI s.L i).kind=7∨(ndI s.L i).kind=8)∧r=actB nn kk s (ndI s.L i).kind (ndI s.L i).var (ks.headD 0))∨
 ((ndI s.L i).kind<5∧r=(s,i,0))
theorem Gv.atm {kk:Int}{L:List Nd}(h:Gv kk L){i:Int}(hi:okI L i)(hk:(ndI L i).kind<5):Fit (atmN (ndI L i))∧(ndI L i).ps.length≤209716∧(ndI L i).kids= []∧ndI L i=ndA (atmN (ndI L i)):=by
 rcases h.cases hi with⟨_,e⟩|⟨_,e⟩|⟨_,f,h1,_,_,e,h5,_⟩|⟨_,kd,kids,h3,e,_⟩|⟨_,kd,v,x,h3,e,_⟩
 ·rw[e];exact⟨.inl ⟨.inl rfl,rfl,rfl,rfl⟩,by simp[cst],rfl,rfl⟩
 ·rw[e];exact⟨.inl ⟨.inr rfl,rfl,rfl,rfl⟩,by simp[cst],rfl,rfl⟩
 ·rw[e];exact⟨h1,h5,rfl,rfl⟩
 ·rw[e]at hk;dsimp only at hk;omega
 rw[e]at hk;dsimp only at hk;omega
theorem Gv.quant {kk:Int}{L:List Nd}(h:Gv kk L){i:Int}(hi:okI L i)(hk:(ndI L i).kind=7∨(ndI L i).kind=8): ∃x,(ndI L i).kids= [x]∧I64 (ndI L i).var∧ndI L i=⟨(ndI L i).kind,0,[],0,(ndI L i).var,[x]⟩∧okI L x:=by
 have hw:=h.wk
 rcases h.cases hi with⟨_,e⟩|⟨_,e⟩|⟨_,f,_,h2,_,e,_⟩|⟨_,kd,kids,h3,e,_⟩|⟨_,kd,v,x,h3,e,h5,h6⟩
 ·rw[e]at hk;simp[cst]at hk
 ·rw[e]at hk;simp[cst]at hk
 ·rw[e]at hk;dsimp only at hk;omega
 ·rw[e]at hk;dsimp only at hk;omega
 refine⟨x,by rw[e],by rw[e];exact h5,by rw[e],hw.ok hi (by rw[e];simp)⟩
theorem Gv.kinds {kk:Int}{L:List Nd}(h:Gv kk L){i:Int}(hi:okI L i):0≤(ndI L i).kind∧(ndI L i).kind≤8:=by
 rcases h.cases hi with⟨_,e⟩|⟨_,e⟩|⟨_,f,_,h2,_,e,_⟩|⟨_,kd,kids,h3,e,_⟩|⟨_,kd,v,x,h3,e,h5,h6⟩
 ·rw[e];simp[cst]
 ·rw[e];simp[cst]
 ·rw[e];dsimp only;omega
 ·rw[e];dsimp only;omega
 rw[e];dsimp only;omega
theorem negA_len {a:Atm}(h:a.ps.length≤209716):(negA a).ps.length≤209716:=by
 unfold negA
 split
 ·exact h
 split
 ·exact h
 split
 ·simpa [scl] using h
 split
 ·exact h
 split <;> exact h
theorem NegR.kp {nn kk:Int}{s:St}{i:Int}{ks:List Int}{r:St × Int × Int}(h:NegR nn kk s i ks r)(hg:Gv kk s.L)(hi:okI s.L i):Kp kk s r:=by
 rcases h with⟨_,h⟩|⟨_,h⟩|⟨hk,rfl⟩|⟨hk,rfl⟩|⟨hk,rfl⟩
 ·exact h.kp (.inr rfl) (.inr rfl) hg
 ·exact h.kp (.inl rfl) (.inl rfl) hg
 ·obtain⟨x,_,h1,_⟩:=hg.quant hi (.inl hk)
  exact kp_bind hg (.inr rfl) h1
 ·obtain⟨x,_,h1,_⟩:=hg.quant hi (.inr hk)
  exact kp_bind hg (.inl rfl) h1
 obtain⟨h1,h2,_⟩:=hg.atm hi hk
 exact kp_put hg (.inl ⟨_,h1.neg,rfl,negA_len h2⟩)
theorem AgR.kp {nn kk:Int}{s:St}{i:Int}{ks:List Int}{r:St × Int × Int}(h:AgR nn kk s i ks r)(hg:Gv kk s.L)(hi:okI s.L i):Kp kk s r:=by
 rcases h with⟨_,h⟩|⟨_,h⟩|⟨hk,rfl⟩|⟨hk,rfl⟩
 ·exact h.kp (.inl rfl) (.inl rfl) hg
 ·exact h.kp (.inr rfl) (.inr rfl) hg
 ·obtain⟨x,_,h1,_⟩:=hg.quant hi hk
  exact kp_bind hg hk h1
 exact kp_now hg fun _=>hi
def PlnP (L:List Nd)(y:Int):Prop:=(ndI L y).kind≠7∧(ndI L y).kind≠8
def Pln (L:List Nd)(i:Int):Prop:=Her L (PlnP L) i
theorem plnP_app {L L':List Nd}(hl: ∃t,L'=L++t)(y:Int)(ho:okI L y):PlnP L' y↔PlnP L y:=by
 obtain⟨t,rfl⟩:=hl
 unfold PlnP
 rw[ndI_app ho]
theorem pln_le {L L':List Nd}(hw:Wk L)(hl: ∃t,L'=L++t){i:Int}(ho:okI L i):Pln L' i↔Pln L i:=her_le hw hl (plnP_app hl) ho
def OppJ (L:List Nd)(i j:Int):Prop:=Pln L i→∀f,tv L f j↔ ¬tv L f i
def SamJ (L:List Nd)(i j:Int):Prop:=(Pln L i→∀f,tv L f j↔tv L f i)∧Smp L j∧(Smp L i→j=i)
theorem oppJ_le {L L':List Nd}(hw:Wk L)(hw2:Wk L')(hl: ∃t,L'=L++t){i j:Int}(hi:okI L i)(hj:okI L j)(h:OppJ L i j):OppJ L' i j:=fun hp f=>by
 rw[tv_le hw hw2 hl hi,tv_le hw hw2 hl hj]
 exact h ((pln_le hw hl hi).1 hp) f
theorem samJ_le {L L':List Nd}(hw:Wk L)(hw2:Wk L')(hl: ∃t,L'=L++t){i j:Int}(hi:okI L i)(hj:okI L j)(h:SamJ L i j):SamJ L' i j:=by
 refine⟨fun hp f=> ?_,(smp_le hw hl hj).2 h.2.1,fun hs=>h.2.2 ((smp_le hw hl hi).1 hs)⟩
 rw[tv_le hw hw2 hl hi,tv_le hw hw2 hl hj]
 exact h.1 ((pln_le hw hl hi).1 hp) f
theorem NegR.opp {nn kk:Int}{s:St}{i:Int}{ks:List Int}{r:St × Int × Int}(h:NegR nn kk s i ks r)(hg:Gv kk s.L)(hi:okI s.L i)(hks:Prs (OppJ s.L) (ndI s.L i).kids ks)(he:r.2.2=0):OppJ r.1.L i r.2.1:=by
 have hk:=h.kp hg hi
 intro hp f
 have hp:=(pln_le hg.wk hk.le hi).1 hp
 rw[tv_le hg.wk hk.gv.wk hk.le hi]
 have hpi:=(her_iff hi).1 hp
 rcases h with⟨hkd,h⟩|⟨hkd,h⟩|⟨hkd,rfl⟩|⟨hkd,rfl⟩|⟨hkd,rfl⟩
 ·rw[or_tv h hg he,tv_and hg.wk hi hkd]
  constructor
  ·rintro⟨x,hx,h1⟩ h2
   obtain⟨a,ha,h3⟩:=prs_right hks x hx
   exact(h3 (hpi.2 a ha) f).1 h1 (h2 a ha)
  intro h1
  refine Classical.byContradiction fun h2=>h1 fun a ha=> ?_
  obtain⟨b,hb,h3⟩:=prs_left hks a ha
  exact Classical.byContradiction fun h4=>h2 ⟨b,hb,(h3 (hpi.2 a ha) f).2 h4⟩
 ·rw[and_tv h hg he,tv_or hg.wk hi hkd]
  constructor
  ·rintro h1 ⟨a,ha,h2⟩
   obtain⟨b,hb,h3⟩:=prs_left hks a ha
   exact(h3 (hpi.2 a ha) f).1 (h1 b hb) h2
  intro h1 x hx
  obtain⟨a,ha,h3⟩:=prs_right hks x hx
  exact(h3 (hpi.2 a ha) f).2 fun h4=>h1 ⟨a,ha,h4⟩
 ·exact absurd hkd hpi.1.1
 ·exact absurd hkd hpi.1.2
 obtain⟨h1,_⟩:=hg.atm hi hkd
 have hn:=putE_node he
 have hlt:(negA (atmN (ndI s.L i))).kind<5:=by
  have:(atmN (ndI s.L i)).kind<5:=hkd
  unfold negA
  split
  ·simp
  split
  ·simp
  split
  ·simp
  split
  ·simp
  split
  ·simp
  exact this
 rw[tv_atm (by rw[hn];unfold ndA;dsimp only;omega) (by rw[hn];unfold ndA;dsimp only;omega),hn,tv_atm o_m o_m]
 exact negA_sat h1 f
theorem AgR.same {nn kk:Int}{s:St}{i:Int}{ks:List Int}{r:St × Int × Int}(h:AgR nn kk s i ks r)(hg:Gv kk s.L)(hi:okI s.L i)(hks:Prs (SamJ s.L) (ndI s.L i).kids ks)(he:r.2.2=0):SamJ r.1.L i r.2.1:=by
 have hk:=h.kp hg hi
 have hid:Smp s.L i→ks=(ndI s.L i).kids:=fun hs=>prs_id (prs_mono (fun a ha b _ hab=>hab.2.2 (((her_iff hi).1 hs).2 a ha)) hks)
 have hsm: ∀x∈ks,Smp s.L x:=fun x hx=>by
  obtain⟨a,_,h3⟩:=prs_right hks x hx
  exact h3.2.1
 have hsmp: ∀kd dual idle rul sg,Law5 kd dual idle rul sg→SimpR nn kk s kd dual idle rul sg ks r→(ndI s.L i).kind=kd→Smp r.1.L i→r.2.1=i:=by
  intro kd dual idle rul sg hlw hR hkd hs
  have hs:=(smp_le hg.wk hk.le hi).1 hs
  have hkd5:kd=5∨kd=6:=by unfold Law5 at hlw;omega
  have hcl:Cl s.L kd dual idle rul sg (ndI s.L i).kids:=by
   have h0:=((her_iff hi).1 hs).1
   unfold SmpP at h0
   unfold Law5 at hlw
   rcases hlw with⟨rfl,rfl,rfl,rfl,rfl⟩|⟨rfl,rfl,rfl,rfl,rfl⟩
   ·exact h0.1 hkd
   exact h0.2 hkd
  rw[hid hs]at hR
  have hS:=Cl.simp (nn:=nn) (kk:=kk) (s:=s) hcl (fun x hx=>hg.wk.ok hi hx) hcl.mem
  rw[cl_found hg hi hkd5 hkd]at hS
  rw[hR.uniq hS]
 rcases h with⟨hkd,h⟩|⟨hkd,h⟩|⟨hkd,rfl⟩|⟨hkd,rfl⟩
 ·refine⟨fun hp f=> ?_,h.smp (.inl ⟨rfl,rfl,rfl,rfl,rfl⟩) hg he hsm,fun hs=>hsmp 5 6 1 0 1 (.inl ⟨rfl,rfl,rfl,rfl,rfl⟩) h hkd hs⟩
  have hp:=(pln_le hg.wk hk.le hi).1 hp
  have hpi:=(her_iff hi).1 hp
  rw[tv_le hg.wk hk.gv.wk hk.le hi,and_tv h hg he,tv_and hg.wk hi hkd]
  constructor
  ·intro h1 a ha
   obtain⟨b,hb,h3⟩:=prs_left hks a ha
   exact(h3.1 (hpi.2 a ha) f).1 (h1 b hb)
  intro h1 x hx
  obtain⟨a,ha,h3⟩:=prs_right hks x hx
  exact(h3.1 (hpi.2 a ha) f).2 (h1 a ha)
 ·refine⟨fun hp f=> ?_,h.smp (.inr ⟨rfl,rfl,rfl,rfl,rfl⟩) hg he hsm,fun hs=>hsmp 6 5 0 1 (-1) (.inr ⟨rfl,rfl,rfl,rfl,rfl⟩) h hkd hs⟩
  have hp:=(pln_le hg.wk hk.le hi).1 hp
  have hpi:=(her_iff hi).1 hp
  rw[tv_le hg.wk hk.gv.wk hk.le hi,or_tv h hg he,tv_or hg.wk hi hkd]
  constructor
  ·rintro⟨x,hx,h1⟩
   obtain⟨a,ha,h3⟩:=prs_right hks x hx
   exact⟨a,ha,(h3.1 (hpi.2 a ha) f).1 h1⟩
  rintro⟨a,ha,h1⟩
  obtain⟨b,hb,h3⟩:=prs_left hks a ha
  exact⟨b,hb,(h3.1 (hpi.2 a ha) f).2 h1⟩
 ·obtain⟨x,h1,h2,h3,h4⟩:=hg.quant hi hkd
  rw[h1]at hks
  have hlen:=prs_len hks
  rcases ks with _|⟨y,_|⟨z,t⟩⟩
  ·simp at hlen
  ·have hj:=hks.1
   have e:actB nn kk s (ndI s.L i).kind (ndI s.L i).var y=putE nn kk s ⟨(ndI s.L i).kind,0,[],0,(ndI s.L i).var,[y]⟩∨(actB nn kk s (ndI s.L i).kind (ndI s.L i).var y).2.2=80:=by
    unfold actB
    rw[if_neg o_m]
    split
    ·exact .inr rfl
    exact .inl rfl
   have hy:okI s.L y∨(actB nn kk s (ndI s.L i).kind (ndI s.L i).var y).2.2=80:=by
    unfold actB okI
    rw[if_neg o_m]
    split
    ·exact .inr rfl
    exact .inl o_m
   simp only[List.headD_cons]at hk he ⊢
   rcases e with e|e
   ·rcases hy with hy|hy
    ·rw[e]at hk he ⊢
     have hn:=putE_node he
     refine⟨fun hp f=> ?_,?_,fun hs=> ?_⟩
     ·have hp:=(pln_le hg.wk hk.le hi).1 hp
      have hpi:=((her_iff hi).1 hp).1
      exact absurd hkd (by unfold PlnP at hpi;omega)
     ·unfold Smp
      rw[her_iff (hk.ok he)]
      refine⟨?_,?_⟩
      ·unfold SmpP
       rw[hn]
       dsimp only
       exact⟨fun e=>by omega,fun e=>by omega⟩
      rw[hn]
      intro z hz
      have ez:z=y:=by simpa using hz
      subst ez
      exact(smp_le hg.wk hk.le hy).2 hj.2.1
     have hs:=(smp_le hg.wk hk.le hi).1 hs
     have hyx:y=x:=hj.2.2 (((her_iff hi).1 hs).2 x (by rw[h1];simp))
     subst hyx
     rw[←h3,putE_found hg.uq (ndI_some hi)]
     exact Int.toNat_of_nonneg hi.1
    rw[hy]at he;cases he
   rw[e]at he;cases he
  simp at hlen
 refine⟨fun _ _=>Iff.rfl,?_,fun _=>rfl⟩
 have h4:=(hg.atm hi hkd).2.2.1
 unfold Smp
 simp only
 rw[her_iff hi,h4]
 exact⟨⟨fun e=>by omega,fun e=>by omega⟩,fun z hz=>by cases hz⟩
end Nt
namespace Nt

theorem dn_le {L:List Nd}(hw:Wk L){id x:Int}(hi:okI L id)(h:Dn L id x):okI L x∧x≤id:=
 h (fun y=>okI L y∧y≤id) ⟨hi,Int.le_refl _⟩ fun y z hy ho hz=>⟨hw.ok ho hz,by have:=hw y ho z hz;omega⟩
def DnL (L:List Nd)(id:Int)(l:List Int):Prop:=l.Pairwise (· < ·)∧∀m,m∈l↔Dn L id m
structure Rch (L:List Nd) (id n:Int) (r:Int→Bool) (acc:List Int):Prop where
 top:r id=true
 snd: ∀m,r m=true→Dn L id m
 cls: ∀y,n<y→r y=true→∀z∈(ndI L y).kids,r z=true
 mem: ∀m,m∈acc↔n<m∧r m=true
 dec:acc.Pairwise (· > ·)
 len:(acc.length:Int)≤id-n
theorem rch_0 (L:List Nd)(id:Int):Rch L id id (fun m=>decide (m=id)) []:=
 ⟨by simp,fun m h=>by rw[of_decide_eq_true h];exact(dn_self L id),fun y hy h=>by have:=of_decide_eq_true h;omega,fun m=>⟨fun h=>(by cases h),fun⟨h1,h2⟩=>by have:=of_decide_eq_true h2;omega⟩,List.Pairwise.nil,by simp⟩
theorem Rch.skip {L:List Nd}{id n:Int}{r:Int→Bool}{acc:List Int}(h:Rch L id n r acc)(hn:r n=false):Rch L id (n-1) r acc:=by
 refine⟨h.top,h.snd,fun y hy hr=> ?_,fun m=> ?_,h.dec,by have:=h.len;omega⟩
 ·refine h.cls y ?_ hr
  rcases Int.lt_or_eq_of_le (show n≤y by omega)with h1|rfl
  ·exact h1
  rw[hn]at hr
  cases hr
 rw[h.mem m]
 refine and_congr_left fun hr=>⟨fun h1=>by omega,fun h1=> ?_⟩
 rcases Int.lt_or_eq_of_le (show n≤m by omega)with h2|rfl
 ·exact h2
 rw[hn]at hr
 cases hr
theorem Rch.take {L:List Nd}(hw:Wk L){id n:Int}{r:Int→Bool}{acc:List Int}(h:Rch L id n r acc)(hn:r n=true)(ho:okI L n):Rch L id (n-1) (fun m=>r m||decide (m∈(ndI L n).kids)) (acc++ [n]):=by
 have hk: ∀y,n≤y→decide (y∈(ndI L n).kids)=false:=fun y hy=>decide_eq_false fun hm=>by have:=hw n ho y hm;omega
 refine⟨by rw[h.top];rfl,fun m hm=> ?_,fun y hy hr z hz=> ?_,fun m=> ?_,?_,?_⟩
 ·rcases Bool.or_eq_true_iff.1 hm with h1|h1
  ·exact h.snd m h1
  exact dn_kid (h.snd n hn) ho (of_decide_eq_true h1)
 ·have hr2:r y=true:=by simpa [hk y o_m] using hr
  rcases Int.lt_or_eq_of_le (show n≤y by omega)with h1|rfl
  ·exact Bool.or_eq_true_iff.2 (.inl (h.cls y h1 hr2 z hz))
  exact Bool.or_eq_true_iff.2 (.inr (decide_eq_true hz))
 ·rw[mem_snoc,h.mem m]
  constructor
  ·rintro(⟨h1,h2⟩|rfl)
   ·exact⟨by omega,by rw[h2];rfl⟩
   exact⟨by omega,by rw[hn];rfl⟩
  rintro⟨h1,h2⟩
  rcases Int.lt_or_eq_of_le (show n≤m by omega)with h3|rfl
  ·exact .inl ⟨h3,by simpa [hk m o_m] using h2⟩
  exact .inr rfl
 ·rw[List.pairwise_append]
  refine⟨h.dec,List.pairwise_singleton _ _,fun x hx y hy=> ?_⟩
  rw[List.mem_singleton.1 hy]
  exact((h.mem x).1 hx).1
 have:=h.len
 rw[List.length_append,List.length_singleton]
 omega
theorem Rch.done {L:List Nd}(hw:Wk L){id:Int}(hi:okI L id){r:Int→Bool}{acc:List Int}(h:Rch L id (-1) r acc):DnL L id acc.reverse:=by
 refine⟨List.pairwise_reverse.2 h.dec,fun m=> ?_⟩
 rw[List.mem_reverse,h.mem m]
 refine⟨fun h1=>h.snd m h1.2,fun h1=>⟨by have:=(dn_le hw hi h1).1.1;omega,?_⟩⟩
 exact h1 (fun y=>r y=true) h.top fun y z hy ho hz=>h.cls y (by have:=ho.1;omega) hy z hz
end Nt
end Go.Proofs.YtllfelooahplhaaGreatDoor

namespace Go.Proofs.YtllfelooahplhaaGreatDoor
open Go.RowKit Go.Sort Go.Shelf
open Tm At
namespace Nt

theorem mem_app9 {L t:List Nd}(hw:Wk L){kd idle:Int}{ids:List Int}(ho: ∀x∈ids,okI L x):Mem (L++t) kd idle ids=Mem L kd idle ids:=by
 funext x
 refine propext ⟨fun⟨hr,_,hk,hi⟩=> ?_,fun⟨hr,h1,hk,hi⟩=> ?_⟩
 ·have h:=hr (fun y=>okI L y∧Rk L kd ids y) (fun y hy=>⟨ho y hy,rk_id hy⟩) fun y z hy _ hkd hz=>by
   rw[ndI_app hy.1]at hkd hz
   exact⟨hw.ok hy.1 hz,rk_kid hy.2 hy.1 hkd hz⟩
  rw[ndI_app h.1]at hk
  exact⟨h.2,h.1,hk,hi⟩
 have h:=hr (fun y=>Rk (L++t) kd ids y) (fun y hy=>rk_id hy) fun y z hy hy1 hkd hz=>rk_kid hy (okI_app hy1) (by rw[ndI_app hy1];exact hkd) (by rw[ndI_app hy1];exact hz)
 exact⟨h,okI_app h1,by rw[ndI_app h1];exact hk,hi⟩
theorem stay_app9 {L t:List Nd}{sg:Int}{M:Int→Prop}(hM: ∀y,M y→okI L y)(x:Int):Stay (L++t) sg M x↔Stay L sg M x:=by
 unfold Stay
 constructor
 ·rintro⟨h1,h2,h3⟩
  rw[ndI_app (hM x h1)]at h2
  refine⟨h1,h2,fun y hy=> ?_⟩
  have h4:=h3 y hy
  rw[ndI_app (hM x h1),ndI_app (hM y hy)]at h4
  exact h4
 rintro⟨h1,h2,h3⟩
 rw[ndI_app (hM x h1)]
 refine⟨h1,h2,fun y hy=> ?_⟩
 rw[ndI_app (hM y hy)]
 exact h3 y hy
theorem clash_app9 {L t:List Nd}{sg:Int}{M:Int→Prop}(hM: ∀y,M y→okI L y):Clash (L++t) sg M↔Clash L sg M:=by
 unfold Clash
 refine exists_congr fun x=>exists_congr fun y=> ?_
 rw[stay_app9 hM,stay_app9 hM]
 refine and_congr_right fun h1=>and_congr_right fun h2=> ?_
 rw[ndI_app (hM x h1.1),ndI_app (hM y h2.1)]
theorem oppos_app9 {L t:List Nd}{M:Int→Prop}(hM: ∀y,M y→okI L y):Oppos (L++t) M↔Oppos L M:=by
 unfold Oppos
 refine exists_congr fun x=>exists_congr fun y=>and_congr_right fun h1=>and_congr_right fun h2=> ?_
 rw[ndI_app (hM x h1),ndI_app (hM y h2)]
theorem keep_app9 {L t:List Nd}{sg:Int}{M:Int→Prop}(hM: ∀y,M y→okI L y)(x:Int):Keep (L++t) sg M x↔Keep L sg M x:=by
 unfold Keep
 refine and_congr_right fun h1=> ?_
 rw[ndI_app (hM x h1),stay_app9 hM]
theorem need_app9 {L t:List Nd}{sg dual:Int}{M:Int→Prop}(hM: ∀y,M y→okI L y)(x:Int):Need (L++t) sg dual M x↔Need L sg dual M x:=by
 unfold Need
 simp only[keep_app9 hM]
 refine and_congr_right fun h1=> ?_
 rw[ndI_app (hM x h1.1)]
theorem ris_two_ne {l:List Int}(h:2≤(ris l).length){x:Int}(hx: ∀y,y∈l↔y=x):False:=by
 have hr:=ris_rises l
 have hm: ∀y,y∈ris l→y=x:=fun y hy=>(hx y).1 ((mem_ris l y).1 hy)
 rcases hq:ris l with _|⟨a,_|⟨b,q⟩⟩
 ·rw[hq]at h
  simp at h
 ·rw[hq]at h
  simp at h
 rw[hq]at hr hm
 have h1:=hm a (by simp)
 have h2:=hm b (by simp)
 have h3:=(List.pairwise_cons.1 hr).1 b (by simp)
 omega
theorem ris_nil9 :ris []= []:=ris_id List.Pairwise.nil
theorem actJ_again {nn kk nn' kk':Int}{s s':St}{kd:Int}{l:List Int}(hkd:kd=5∨kd=6)(hg:Gv kk s.L)(hl: ∀x∈l,okI s.L x)(he:(actJ nn kk s kd l).2.2=0)(hle: ∃t,s'.L=(actJ nn kk s kd l).1.L++t)(hg':Gv kk' s'.L):actJ nn' kk' s' kd l=(s',(actJ nn kk s kd l).2.1,0):=by
 have hk:=kp_join (nn:=nn) hg hkd hl
 have hl': ∀x∈l,okI s'.L x:=fun x hx=>by
  obtain⟨t,e⟩:=hle
  obtain⟨t2,e2⟩:=hk.le
  rw[e,e2]
  exact okI_app (okI_app (hl x hx))
 rcases actJ_cases (nn:=nn) (kk:=kk) hkd hl with⟨e0,e⟩|⟨x,hx,e⟩|⟨h2,e⟩
 ·rcases actJ_cases (nn:=nn') (kk:=kk') hkd hl' with⟨_,e3⟩|⟨x,hx,_⟩|⟨h2,_⟩
  ·rw[e3,e]
  ·exact absurd ((hx x).2 rfl) (by rw[e0];simp)
  exact absurd h2 (by rw[e0,ris_nil9];simp)
 ·rcases actJ_cases (nn:=nn') (kk:=kk') hkd hl' with⟨e0,_⟩|⟨x',hx',e3⟩|⟨h2,_⟩
  ·exact absurd ((hx x).2 rfl) (by rw[e0];simp)
  ·rw[e3,e,(hx x').1 ((hx' x').2 rfl)]
  exact(ris_two_ne h2 hx).elim
 rcases actJ_cases (nn:=nn') (kk:=kk') hkd hl' with⟨e0,_⟩|⟨x',hx',e3⟩|⟨_,e3⟩
 ·exact absurd h2 (by rw[e0,ris_nil9];simp)
 ·exact(ris_two_ne h2 hx').elim
 rw[e]at he hle hk ⊢
 rw[e3]
 have hnd:=putE_node he
 have hok:=hk.ok he
 obtain⟨t,et⟩:=hle
 have hat:s'.L[(putE nn kk s ⟨kd,0,[],0,0,ris l⟩).2.1.toNat]? =some ⟨kd,0,[],0,0,ris l⟩:=by
  obtain⟨h5,h6⟩:=ndI_at (L:=s'.L) (i:=(putE nn kk s ⟨kd,0,[],0,0,ris l⟩).2.1) (by rw[et];exact okI_app hok)
  rw[List.getElem?_eq_getElem h5,←h6,et,ndI_app hok,hnd]
 rw[putE_found hg'.uq hat]
 have:=hok.1
 rw[Int.toNat_of_nonneg this]
theorem SimpR.same {nn kk:Int}{s:St}{kd dual idle rul sg:Int}{ids:List Int}{r:St × Int × Int}(h:SimpR nn kk s kd dual idle rul sg ids r)(hkd:kd=5∨kd=6)(hr:rul=0∨rul=1)(hg:Gv kk s.L)(he:r.2.2=0){nn' kk':Int}{s':St}(hl: ∃t,s'.L=r.1.L++t)(hg':Gv kk' s'.L):SimpR nn' kk' s' kd dual idle rul sg ids (s',r.2.1,0):=by
 have hk:=h.kp hkd hr hg
 obtain⟨t,et⟩: ∃t,s'.L=s.L++t:=by
  obtain⟨t,e⟩:=hl
  obtain⟨t',e'⟩:=hk.le
  exact⟨t'++t,by rw[e,e',List.append_assoc]⟩
 rcases h with⟨_,rfl⟩|⟨ho,h⟩
 ·cases he
 have hM: ∀y,Mem s.L kd idle ids y→okI s.L y:=fun y hy=>hy.2.1
 have ho': ∀x∈ids,okI s'.L x:=fun x hx=>by rw[et];exact okI_app (ho x hx)
 have e1:Mem s'.L kd idle ids=Mem s.L kd idle ids:=by rw[et];exact mem_app9 hg.wk ho
 have e2:Clash s'.L sg (Mem s.L kd idle ids)↔Clash s.L sg (Mem s.L kd idle ids):=by rw[et];exact clash_app9 hM
 have e3:Oppos s'.L (Mem s.L kd idle ids)↔Oppos s.L (Mem s.L kd idle ids):=by rw[et];exact oppos_app9 hM
 have e4: ∀x,Need s'.L sg dual (Mem s.L kd idle ids) x↔Need s.L sg dual (Mem s.L kd idle ids) x:=fun x=>by rw[et];exact need_app9 hM x
 refine .inr ⟨ho',?_⟩
 rw[e1,e2,e3]
 rcases h with⟨h1,rfl⟩|⟨h1,l,hml,rfl⟩
 ·exact .inl ⟨h1,rfl⟩
 exact .inr ⟨h1,l,fun x=>(hml x).trans (e4 x).symm,(actJ_again hkd hg (fun x hx=>hM x ((hml x).1 hx).1.1) he hl hg').symm⟩
end Nt
end Go.Proofs.YtllfelooahplhaaGreatDoor
