/-
 Several texts in one: JQ,J7,JA.
-/
import Derived.Test.YtllfelooahplhaaGreatDoorSbn36
import Derived.Test.YtllfelooahplhaaGreatDoorSbn37
set_option maxRecDepth 100000
set_option maxHeartbeats 1600000
namespace Go.Proofs.YtllfelooahplhaaGreatDoor
open Go.RowKit Go.Sort Go.Shelf
open Tm At
namespace Nt

def zNR :NR:=⟨0,false,none,0,0,none,0,0,false,none,0,0,0,none,0,0⟩
theorem node8_no {w:World}{pa pm:Nat}{L:List Nd}{F:Nat→Prop}(h:AX w pa pm L F){i:Int}(hi: ¬okI L i):Calls Tryz.prog 43 #[.pointer (some ⟨pa,0,none⟩),.int .i64 i] w fun e w'=>e= .returned (.tuple #[.agg (nE zNR),.bool false])∧Below w.heap.size w w':=by
 obtain⟨C,nv,bm,X,D,hA,-,-⟩:=h.ar
 have hlk:=hide (lacks_n (hA.below (below_alloc w (.cells #[.int .i64 0,.bool false,.slice none 0 0,.slice none 0 0,.bool false,.slice none 0 0,.int .i64 0,.slice none 0 0] 77))) i)
 rw[decide_eq_true (by unfold okI at hi;omega)]at hlk
 have b0:=below_alloc w (.cells #[.int .i64 0,.bool false,.slice none 0 0,.slice none 0 0,.bool false,.slice none 0 0,.int .i64 0,.slice none 0 0] 77)
 have y:=NB.new w 0 false none 0 0 none 0 0 false none 0 0 0 none 0 0
 go_enter Tryz.func43,Tryz.ntmps43
 go_wp2_with(go_at_call 52;refine hlk.out.mono ?_;rintro e w1 ⟨rfl,rfl⟩)
 replace b0:=hide b0
 clear hA hlk h hi
 generalize hpe:w.heap.size=p at*
 generalize w.alloc (.cells #[.int .i64 0,.bool false,.slice none 0 0,.slice none 0 0,.bool false,.slice none 0 0,.int .i64 0,.slice none 0 0] 77)=w2 at*
 refine bodyPost_ret (results_ct rfl _ _ p 77 _ (0,0) _ rfl y Tryz.underlying77 rfl k_f) rfl ?_
 exact⟨rfl,b0.out⟩
theorem Gv.numb {kk:Int}{L:List Nd}(hV:Gv kk L)(h0:0≤kk){i:Int}(hi:okI L i): ∀z∈nums (ndI L i),(lim z:Int)≤kk:=by
 have hc: ∀q:Int,∀z∈nums (cst q),(lim z:Int)≤kk:=fun q z hz=>by
  have:z=0:=by simpa [nums,cst] using hz
  rw[this,lim_0]
  exact h0
 rcases hV.cases hi with⟨_,e⟩|⟨_,e⟩|⟨h2,_⟩|⟨h2,_⟩|⟨h2,_⟩
 ·rw[e];exact hc 0
 ·rw[e];exact hc 1
 all_goals exact(hV.wn i.toNat _ o_m (ndI_some hi)).2
theorem Gv.var {kk:Int}{L:List Nd}(hV:Gv kk L){i:Int}(hi:okI L i):I64 (ndI L i).var:=by
 have h0:I64 0:=by unfold I64;omega
 rcases hV.cases hi with⟨_,e⟩|⟨_,e⟩|⟨_,f,_,_,_,e,_⟩|⟨_,kd,kids,_,e,_⟩|⟨_,kd,v,x,_,e,h5,_⟩
 ·rw[e];exact h0
 ·rw[e];exact h0
 ·rw[e];exact h0
 ·rw[e];exact h0
 rw[e];exact h5
theorem Gv.parts {kk:Int}{L:List Nd}(hV:Gv kk L){i:Int}(hi:okI L i):(ndI L i).ps.length≤209716:=by
 rcases hV.cases hi with⟨_,e⟩|⟨_,e⟩|⟨_,f,_,_,_,e,h5,_⟩|⟨_,kd,kids,_,e,_⟩|⟨_,kd,v,x,_,e,_⟩
 ·rw[e];simp[cst]
 ·rw[e];simp[cst]
 ·rw[e];exact h5
 ·rw[e];simp
 rw[e];simp
theorem nd_nc {kk:Int}{L:List Nd}(hV:Gv kk L)(h0:0≤kk){B:Nat}(hkk:kk≤(B:Int))(hL:L.length≤1048576){i:Int}(hi:okI L i){w w':World}{e:Ending}(h:NDF w w' e (ndI L i)):
  ∃x:NR,e= .returned (.tuple #[.agg (nE x),.bool true])∧NC (fun b=>w.heap.size≤b) w' x (ndI L i) B∧Below w.heap.size w w':=by
 obtain⟨⟨kd,sd,ad,ld,cd,ap,np,cp,sk,ak,lk,ck,vr,ka,kn,kc⟩,rfl,e1,e2,hd,nd,hp,hk,nk,hI,hnew,k⟩:=h
 dsimp only at e1 e2 hd nd hp hk nk hI hnew
 subst e1 e2
 have hkn:=hV.kinds hi
 have hz:=hV.numb h0 hi
 have hkd:=(hV.kids hi).1
 have hl1:=hI.1
 have hl2:=hp.1
 have hi2:=hi.2
 have hps:=hV.parts hi
 have hm: ∀p∈(ndI L i).ps,lim p.2≤B:=fun p hp=>by
  have:=hz p.2 (by unfold Nt.nums;exact List.mem_cons_of_mem _ (List.mem_cons_of_mem _ (List.mem_map_of_mem hp)))
  omega
 refine⟨⟨(ndI L i).kind,sd,ad,ld,cd,ap,np,cp,sk,ak,lk,ck,(ndI L i).var,ka,kn,kc⟩,rfl,⟨rfl,by unfold I64;omega,hd,nd,?_,?_,?_,hk,nk,?_,rfl,hV.var hi,hI,hnew,?_⟩,k⟩
 ·dsimp only
  rw[zn_limb hd]
  have:=hz (ndI L i).d (by unfold Nt.nums;exact List.mem_cons_self)
  omega
 ·refine⟨hp.1,?_⟩
  rcases hp.2 with h1|⟨b,off,e1,e0,e2,e3⟩
  ·exact .inl h1
  refine .inr ⟨b,off,e1,e0,e2,fun j hj=> ?_⟩
  obtain⟨s,a,l,c,g1,g2,g3,g4,g5,g6,g7⟩:=e3 j hj
  exact⟨s,a,l,c,g1,g2,g3,g4,g5,by rw[zn_limb g4];exact hm _ (List.getElem_mem hj),g7⟩
 ·dsimp only
  omega
 ·dsimp only
  rw[zn_limb hk]
  have:=hz (ndI L i).k (by unfold Nt.nums;exact List.mem_cons_of_mem _ List.mem_cons_self)
  omega
 dsimp only
 omega
def NX (w w':World)(e:Ending)(L:List Nd)(i:Int)(B:Nat):Prop:=
 (okI L i∧∃x:NR,e= .returned (.tuple #[.agg (nE x),.bool true])∧NC (fun b=>w.heap.size≤b) w' x (ndI L i) B∧Below w.heap.size w w')∨
 (¬okI L i∧e= .returned (.tuple #[.agg (nE zNR),.bool false])∧Below w.heap.size w w')
theorem node9_n {w:World}{pa pm:Nat}{kk:Int}{L:List Nd}{F:Nat→Prop}(h:AX w pa pm L F)(hV:Gv kk L)(h0:0≤kk){B:Nat}(hkk:kk≤(B:Int))(hL:L.length≤1048576)(i:Int):
  Calls Tryz.prog 43 #[.pointer (some ⟨pa,0,none⟩),.int .i64 i] w fun e w'=>NX w w' e L i B:=by
 by_cases hi:okI L i
 ·obtain⟨h2,e⟩:=ndI_at hi
  have hc:=node8_f h h2
  rw[Int.toNat_of_nonneg hi.1]at hc
  refine hc.mono ?_
  intro e' w' hn
  rw[←e]at hn
  exact .inl ⟨hi,nd_nc hV h0 hkk hL hi hn⟩
 exact(node8_no h hi).mono fun e w' hh=> .inr ⟨hi,hh⟩
end Nt
end Go.Proofs.YtllfelooahplhaaGreatDoor

namespace Go.Proofs.YtllfelooahplhaaGreatDoor
open Go.RowKit Go.Sort Go.Shelf
open Tm
namespace Nt
namespace Od

theorem cmpI_anti (x y:Int):cmpI y x= -cmpI x y:=by unfold cmpI;split <;> split <;> (try split) <;> (try split) <;> omega
theorem cmpI_zero {x y:Int}:cmpI x y=0↔x=y:=by unfold cmpI;split <;> (try split) <;> omega
theorem cmpI_trans (x y z:Int)(h1:cmpI x y≤0)(h2:cmpI y z≤0):cmpI x z≤0∧(cmpI x z=0→cmpI x y=0∧cmpI y z=0):=by
 unfold cmpI at*
 omega
theorem ordQ_anti (p q:Int × Int):ordQ q p= -ordQ p q:=by
 unfold ordQ
 rw[cmpI_anti p.1 q.1,cmpI_anti p.2 q.2]
 by_cases h:cmpI p.1 q.1=0
 ·simp[h]
 have h': -cmpI p.1 q.1≠0:=by omega
 simp[h]
theorem ordQ_zero {p q:Int × Int}:ordQ p q=0↔p=q:=by
 unfold ordQ
 constructor
 ·intro h
  by_cases h1:cmpI p.1 q.1=0
  ·simp[h1]at h
   exact Prod.ext (cmpI_zero.1 h1) (cmpI_zero.1 h)
  simp[h1]at h
 rintro rfl
 simp[cmpI_zero.2]
theorem ordQ_trans (p q r:Int × Int)(h1:ordQ p q≤0)(h2:ordQ q r≤0):ordQ p r≤0∧(ordQ p r=0→ordQ p q=0∧ordQ q r=0):=by
 unfold ordQ at*
 have t1:=cmpI_trans p.1 q.1 r.1
 have t2:=cmpI_trans p.2 q.2 r.2
 have z1:=@cmpI_zero p.1 q.1
 have z2:=@cmpI_zero q.1 r.1
 have z3:=@cmpI_zero p.1 r.1
 split at h1 <;> split at h2 <;> split <;> omega
theorem ordL_anti : ∀ps qs:List (Int × Int),ordL qs ps= -ordL ps qs
 | [],[]=>rfl
 | [],_::_=>rfl
 |_::_,[]=>rfl
 |p::ps,q::qs=>by
  unfold ordL
  rw[ordQ_anti p q,ordL_anti ps qs]
  by_cases h:ordQ p q=0
  ·simp[h]
  have h': -ordQ p q≠0:=by omega
  simp[h]
theorem ordL_zero : ∀{ps qs:List (Int × Int)},ordL ps qs=0↔ps=qs
 | [],[]=>by simp[ordL]
 | [],_::_=>by simp[ordL]
 |_::_,[]=>by simp[ordL]
 |p::ps,q::qs=>by
  unfold ordL
  have:=@ordL_zero ps qs
  by_cases h:ordQ p q=0
  ·have e:=ordQ_zero.1 h
   subst e
   simp[h,this]
  have hne:p≠q:=fun e=>h (ordQ_zero.2 e)
  simp[h,hne]
theorem ordL_trans : ∀ps qs rs:List (Int × Int),ordL ps qs≤0→ordL qs rs≤0→ordL ps rs≤0∧(ordL ps rs=0→ordL ps qs=0∧ordL qs rs=0)
 | [],[],[]=>by simp[ordL]
 | [],[],_::_=>by simp[ordL]
 | [],_::_,[]=>by simp[ordL]
 | [],_::_,_::_=>by simp[ordL]
 |_::_,[],_=>by simp[ordL]
 |_::_,_::_,[]=>by simp[ordL]
 |p::ps,q::qs,r::rs=>by
  unfold ordL
  intro h1 h2
  have t1:=ordQ_trans p q r
  have t2:=ordL_trans ps qs rs
  have z1:=@ordQ_zero p q
  have z2:=@ordQ_zero q r
  have z3:=@ordQ_zero p r
  by_cases e1:ordQ p q=0
  ·have:=z1.1 e1
   subst this
   by_cases e2:ordQ p r=0
   ·simp[e1,e2]at h1 h2 ⊢
    exact t2 h1 h2
   simp[e1,e2]at h1 h2 ⊢
   omega
  by_cases e2:ordQ q r=0
  ·have:=z2.1 e2
   subst this
   simp[e1,e2]at h1 h2 ⊢
   omega
  simp only[e1,e2,ne_eq,not_false_eq_true,if_true]at h1 h2
  have:=t1 h1 h2
  have e3:ordQ p r≠0:=fun e=>e1 (this.2 e).1
  simp[e1,e2,e3]
  omega

structure Lin {α:Type}(f:α→α→Int):Prop where
 anti: ∀x y,f y x= -f x y
 trans: ∀x y z,f x y≤0→f y z≤0→f x z≤0∧(f x z=0→f x y=0∧f y z=0)
theorem Lin.swo {α:Type}{f:α→α→Int}(h:Lin f):SWO (ltOf f) where
 irrefl x:=by
  unfold ltOf
  rw[decide_eq_false_iff_not]
  have:=h.anti x x
  omega
 trans x y z h1 h2:=by
  unfold ltOf at*
  rw[decide_eq_true_eq]at*
  have:=h.trans x y z o_m o_m
  omega
 ntrans x y z h1 h2:=by
  unfold ltOf at*
  rw[decide_eq_false_iff_not]at*
  have a1:=h.anti x y
  have a2:=h.anti y z
  have a3:=h.anti x z
  have:=h.trans z y x o_m o_m
  omega
def lex {α:Type}(f g:α→α→Int)(x y:α):Int:=if f x y≠0 then f x y else g x y
theorem lex_pos {α:Type}{f:α→α→Int}(g:α→α→Int){x y:α}(h:f x y≠0):lex f g x y=f x y:=if_pos h
theorem lex_neg {α:Type}{f:α→α→Int}(g:α→α→Int){x y:α}(h:f x y=0):lex f g x y=g x y:=if_neg (fun e=>e h)
theorem Lin.lex {α:Type}{f g:α→α→Int}(hf:Lin f)(hg:Lin g):Lin (lex f g) where
 anti x y:=by
  have a1:=hf.anti x y
  by_cases e:f x y=0
  ·rw[lex_neg g e,lex_neg g (show f y x=0 by omega)]
   exact hg.anti x y
  rw[lex_pos g e,lex_pos g (show f y x≠0 by omega)]
  exact a1
 trans x y z:=by
  have b1:=hf.trans x y z
  have b2:=hg.trans x y z
  have a1:=hf.anti x y
  have a2:=hf.anti y z
  have a3:=hf.anti x z
  have b3:=hf.trans z y x
  intro h1 h2
  by_cases e1:f x y=0
  ·rw[lex_neg g e1]at h1 ⊢
   by_cases e2:f y z=0
   ·have e3:f x z=0:=by
     have c1:=(b1 o_m o_m).1
     have c2:=(b3 o_m o_m).1
     omega
    rw[lex_neg g e2]at h2 ⊢
    rw[lex_neg g e3]
    exact b2 h1 h2
   rw[lex_pos g e2]at h2
   have c1:=b1 o_m h2
   have e3:f x z≠0:=fun e=>e2 (c1.2 e).2
   rw[lex_pos g e3]
   exact⟨c1.1,fun e=>absurd e e3⟩
  rw[lex_pos g e1]at h1
  have h2':f y z≤0:=by
   by_cases e2:f y z=0
   ·omega
   rwa [lex_pos g e2]at h2
  have c1:=b1 h1 h2'
  have e3:f x z≠0:=fun e=>e1 (c1.2 e).1
  rw[lex_pos g e3]
  exact⟨c1.1,fun e=>absurd e e3⟩
theorem tot_cmp {α:Type}(k:α→Int):Lin (fun x y=>cmpI (k x) (k y)):=⟨fun _ _=>cmpI_anti _ _,fun _ _ _=>cmpI_trans _ _ _⟩
theorem tot_ord {α:Type}(k:α→List (Int × Int)):Lin (fun x y=>ordL (k x) (k y)):=⟨fun _ _=>ordL_anti _ _,fun _ _ _=>ordL_trans _ _ _⟩
theorem Lin.on {α β:Type}{f:β→β→Int}(h:Lin f)(k:α→β):Lin (fun x y=>f (k x) (k y)):=⟨fun _ _=>h.anti _ _,fun _ _ _=>h.trans _ _ _⟩
end Od
open Od
def bI (b:Bool):Int:=if b then 0 else 1
theorem neg_cmp {ps qs:List (Int × Int)}(h:neg1 ps≠neg1 qs):cmpI (ps.headD (0,0)).2 (qs.headD (0,0)).2=cmpI (bI (neg1 ps)) (bI (neg1 qs)):=by
 have hh: ∀l:List (Int × Int),neg1 l=decide ((l.headD (0,0)).2<0):=fun l=>by cases l <;> simp[neg1]
 rw[hh ps,hh qs]at h ⊢
 generalize (ps.headD (0,0)).2=a at*
 generalize (qs.headD (0,0)).2=b at*
 by_cases ha:a<0
 ·by_cases hb:b<0
  ·simp[ha,hb]at h
  rw[cmpI_lt o_m,decide_eq_true ha,decide_eq_false hb,cmpI_lt (by decide)]
 by_cases hb:b<0
 ·rw[cmpI_gt o_m,decide_eq_false ha,decide_eq_true hb,cmpI_gt (by decide)]
 simp[ha,hb]at h
theorem ordS_lex (sg:Int)(n m:Nd):ordS sg n.ps n.k m.ps m.k=lex (fun x y:Nd=>ordL (lnP x.ps) (lnP y.ps)) (lex (fun x y:Nd=>cmpI (bI (neg1 x.ps)) (bI (neg1 y.ps))) (fun x y:Nd=>cmpI (sg*x.k) (sg*y.k))) n m:=by
 unfold ordS
 by_cases h1:ordL (lnP n.ps) (lnP m.ps)=0
 ·rw[if_neg (fun e=>e h1),lex_neg (f:=fun x y:Nd=>ordL (lnP x.ps) (lnP y.ps)) _ h1]
  by_cases h:neg1 n.ps=neg1 m.ps
  ·rw[if_neg (fun e=>e h),lex_neg (f:=fun x y:Nd=>cmpI (bI (neg1 x.ps)) (bI (neg1 y.ps))) _ (by rw[h,cmpI_zero])]
  have h2:cmpI (bI (neg1 n.ps)) (bI (neg1 m.ps))≠0:=by
   rw[Ne,cmpI_zero]
   intro e
   apply h
   cases hn:neg1 n.ps <;> cases hm:neg1 m.ps <;> simp[hn,hm,bI]at e ⊢
  rw[if_pos h,lex_pos (f:=fun x y:Nd=>cmpI (bI (neg1 x.ps)) (bI (neg1 y.ps))) _ h2,neg_cmp h]
 rw[if_pos h1,lex_pos (f:=fun x y:Nd=>ordL (lnP x.ps) (lnP y.ps)) _ h1]
theorem totS (sg:Int):Lin (fun n m:Nd=>ordS sg n.ps n.k m.ps m.k):=by
 have e:(fun n m:Nd=>ordS sg n.ps n.k m.ps m.k)=lex (fun x y:Nd=>ordL (lnP x.ps) (lnP y.ps)) (lex (fun x y:Nd=>cmpI (bI (neg1 x.ps)) (bI (neg1 y.ps))) (fun x y:Nd=>cmpI (sg*x.k) (sg*y.k))):=funext fun n=>funext fun m=>ordS_lex sg n m
 rw[e]
 exact(tot_ord fun x:Nd=>lnP x.ps).lex ((tot_cmp fun x:Nd=>bI (neg1 x.ps)).lex (tot_cmp fun x:Nd=>sg*x.k))
theorem totD :Lin ordD:=(tot_cmp fun x:Nd=>x.d).lex ((tot_ord fun x:Nd=>lnP x.ps).lex (tot_cmp fun x:Nd=>x.k))
theorem tz_tz (t:Bool)(z:Int):tz t (tz t z)=z:=by cases t <;> simp[tz]
theorem tP_tP (t:Bool)(ps:List (Int × Int)):tP t (tP t ps)=ps:=by
 induction ps with
 |nil=>rfl
 |cons p ps ih=>
  have e:tP t (tP t (p::ps))=(p.1,tz t (tz t p.2))::tP t (tP t ps):=rfl
  rw[e,ih,tz_tz]
theorem ln_same {ps qs:List (Int × Int)}(h1:lnP ps=lnP qs)(h2:neg1 ps=neg1 qs):ps=qs:=by
 unfold lnP at h1
 rw[h2]at h1
 have:=congrArg (tP (neg1 qs)) h1
 rwa [tP_tP,tP_tP]at this
theorem tP_not (t:Bool)(ps:List (Int × Int)):tP t (tP (!t) ps)=negP ps:=by
 induction ps with
 |nil=>rfl
 |cons p ps ih=>
  have e:tP t (tP (!t) (p::ps))=(p.1,tz t (tz (!t) p.2))::tP t (tP (!t) ps):=rfl
  have e2:negP (p::ps)=(p.1,-p.2)::negP ps:=rfl
  rw[e,e2,ih]
  cases t <;> simp[tz]
theorem ln_neg {ps qs:List (Int × Int)}(h1:lnP ps=lnP qs)(h2:neg1 ps≠neg1 qs):qs=negP ps:=by
 unfold lnP at h1
 have h3:neg1 ps= !neg1 qs:=by cases h:neg1 ps <;> cases h':neg1 qs <;> simp[h,h']at h2 ⊢
 rw[h3]at h1
 have h4:=congrArg (tP (neg1 qs)) h1
 rw[tP_tP,tP_not]at h4
 exact h4.symm
end Nt
end Go.Proofs.YtllfelooahplhaaGreatDoor

namespace Go.Proofs.YtllfelooahplhaaGreatDoor
open Go.RowKit Go.Sort Go.Shelf
open Tm At
namespace Nt

theorem clashA {F G:Nat→Prop}{w:World}{i j:Int}{x y:NR}{n m:Nd}{B bl bo:Nat}{kd dual idle rul:Int}{so:Bool}{ao:Option Addr}{lo co:Nat}(hL:LwB w bl kd dual idle rul 49)(hO:ZB w bo so ao lo co)(ho:Zn w so ao lo co 1)(hlo:lo≤1)(hx:NC F w x n B)(hy:NC G w y m B)(hB:B≤2097152):
  Calls Tryz.prog 158 #[.agg (mE i x),.agg (mE j y),.pointer (some ⟨bl,0,none⟩),.pointer (some ⟨bo,0,none⟩)] w fun e w'=>e= .returned (.bool (decide (cmpI (1*(n.k+m.k)) (1*1)≤0)))∧Below w.heap.size w w':=by
 have b0:=(gr_alloc w (.cells (mE i x) 155)).trans (gr_alloc _ (.cells (mE j y) 155))
 have zx:M9B _ w.heap.size i x:=M9B.below (heap_alloc_new w (.cells (mE i x) 155)) (below_alloc _ (.cells (mE j y) 155))
 have zy:M9B ((w.alloc (.cells (mE i x) 155)).alloc (.cells (mE j y) 155)) (w.alloc (.cells (mE i x) 155)).heap.size j y:=heap_alloc_new _ _
 rw[show(w.alloc (.cells (mE i x) 155)).heap.size=w.heap.size+1 from by simp]at zy
 have zl:=hL.below b0.b
 have zo:=hO.below b0.b
 have hA:Hid (∀w',Below ((w.alloc (.cells (mE i x) 155)).alloc (.cells (mE j y) 155)).heap.size ((w.alloc (.cells (mE i x) 155)).alloc (.cells (mE j y) 155)) w'→Calls Tryz.prog 64 #[.agg #[.bool x.sk,.slice x.ak x.lk x.ck],.agg #[.bool y.sk,.slice y.ak y.lk y.ck]] w' fun e w''=> ∃s' ad len cap,e= .returned (.agg #[.bool s',.slice ad len cap])∧Zn w'' s' ad len cap (n.k+m.k)∧Below w'.heap.size w' w''∧len≤2097153):=hide fun w' k=>(zadd_n (hx.zk.below (grow_step k b0.b)).zm (hy.zk.below (grow_step k b0.b)).zm (by have:=hx.hlk;omega) (by have:=hy.hlk;omega)).mono fun e w'' ⟨s',ad,len,cap,h1,h2,h3,h4⟩=>⟨s',ad,len,cap,h1,h2,h3,by have:=hx.hlk;have:=hy.hlk;omega⟩
 have hC:Hid (∀w' w'' s' ad len cap,Below ((w.alloc (.cells (mE i x) 155)).alloc (.cells (mE j y) 155)).heap.size ((w.alloc (.cells (mE i x) 155)).alloc (.cells (mE j y) 155)) w'→Zn w'' s' ad len cap (n.k+m.k)→len≤2097153→Below ((w.alloc (.cells (mE i x) 155)).alloc (.cells (mE j y) 155)).heap.size ((w.alloc (.cells (mE i x) 155)).alloc (.cells (mE j y) 155)) w''→Calls Tryz.prog 49 #[.agg #[.bool s',.slice ad len cap],.agg #[.bool so,.slice ao lo co]] w'' fun e w3=>e= .returned (.int .i64 (cmpI (1*(n.k+m.k)) (1*1)))∧Gr w'' w3):=hide fun w' w'' s' ad len cap _ hz hl k=>by
  rw[Int.one_mul,Int.one_mul]
  exact zcmp_g hz.zm (ho.below (grow_step k b0.b)).zm o_m o_m
 replace b0:=hide b0
 generalize cmpI (1*(n.k+m.k)) (1*1)=oc at*
 clear hL hO ho
 clear hx hy
 obtain⟨kd1,sd1,ad1,ld1,cd1,ap1,np1,cp1,sk1,ak1,lk1,ck1,vr1,ka1,kn1,kc1⟩:=x
 obtain⟨kd2,sd2,ad2,ld2,cd2,ap2,np2,cp2,sk2,ak2,lk2,ck2,vr2,ka2,kn2,kc2⟩:=y
 simp only[mE]at*
 go_enter Tryz.func158,Tryz.ntmps158
 go_wp2_with fail
 generalize (w.alloc (.cells #[.int .i64 i,.int .i64 kd1,.bool sd1,.slice ad1 ld1 cd1,.slice ap1 np1 cp1,.bool sk1,.slice ak1 lk1 ck1,.int .i64 vr1,.slice ka1 kn1 kc1] 155)).alloc (.cells #[.int .i64 j,.int .i64 kd2,.bool sd2,.slice ad2 ld2 cd2,.slice ap2 np2 cp2,.bool sk2,.slice ak2 lk2 ck2,.int .i64 vr2,.slice ka2 kn2 kc2] 155)=wB0 at*
 generalize w.heap.size=p at*
 generalize p+1=q at*
 have hS:Hid (∀w',Below wB0.heap.size wB0 w'→w'.cell? ⟨p,5,none⟩=some (.bool sk1)∧w'.cell? ⟨p,6,none⟩=some (.slice ak1 lk1 ck1)∧w'.cell? ⟨q,5,none⟩=some (.bool sk2)∧w'.cell? ⟨q,6,none⟩=some (.slice ak2 lk2 ck2)∧w'.cell? ⟨bl,4,none⟩=some (.func (.func 49) #[] #[])∧w'.cell? ⟨bo,0,none⟩=some (.bool so)∧w'.cell? ⟨bo,1,none⟩=some (.slice ao lo co)∧Below wB0.heap.size wB0 w'):=hide fun w' k=>⟨(k.cell (p:=⟨p,5,none⟩) zx.lt).trans (zx.c 5),(k.cell (p:=⟨p,6,none⟩) zx.lt).trans (zx.c 6),(k.cell (p:=⟨q,5,none⟩) zy.lt).trans (zy.c 5),(k.cell (p:=⟨q,6,none⟩) zy.lt).trans (zy.c 6),(k.cell (p:=⟨bl,4,none⟩) zl.lt).trans zl.c4,(k.cell (p:=⟨bo,0,none⟩) zo.lt).trans zo.c0,(k.cell (p:=⟨bo,1,none⟩) zo.lt).trans zo.c1,k⟩
 clear zx zy zl zo
 go_region_held3 (fun w'=>w'.cell? ⟨p,5,none⟩=some (.bool sk1)∧w'.cell? ⟨p,6,none⟩=some (.slice ak1 lk1 ck1)∧w'.cell? ⟨q,5,none⟩=some (.bool sk2)∧w'.cell? ⟨q,6,none⟩=some (.slice ak2 lk2 ck2)∧w'.cell? ⟨bl,4,none⟩=some (.func (.func 49) #[] #[])∧w'.cell? ⟨bo,0,none⟩=some (.bool so)∧w'.cell? ⟨bo,1,none⟩=some (.slice ao lo co)∧Below wB0.heap.size wB0 w') ((refine hS.out _ ?_;(with_reducible repeat' first|exact Below.refl _ _|assumption|refine grow_step (by assumption) ?_|refine grow_drew ?_|refine grow_alloc ?_ _|refine grow_drewN ?_ _)))
  (first|(go_at_call 64;refine Calls.mono (hA.out _ gw) ?_;rintro e w3 ⟨s',ad',len',cap',rfl,hz3,hg3,hl3⟩)|(go_at_call 49;refine Calls.mono (hC.out w3 _ s' ad' len' cap' gw (hz3.below gw) hl3 gw) ?_;rintro e w4 ⟨rfl,hg4'⟩;have hg4:=hg4'.b))
 rename_i hH
 have kf:=hide (grow_step hH.2.2.2.2.2.2.2 b0.out.b)
 clear hH hS hA hC
 go_wp2
 go_ret
 exact⟨rfl,kf.out⟩

theorem clashO {F G:Nat→Prop}{w:World}{i j:Int}{x y:NR}{n m:Nd}{B bl bo:Nat}{kd dual idle rul:Int}{so:Bool}{ao:Option Addr}{lo co:Nat}(hL:LwB w bl kd dual idle rul 51)(hO:ZB w bo so ao lo co)(ho:Zn w so ao lo co 1)(hlo:lo≤1)(hx:NC F w x n B)(hy:NC G w y m B)(hB:B≤2097152):
  Calls Tryz.prog 158 #[.agg (mE i x),.agg (mE j y),.pointer (some ⟨bl,0,none⟩),.pointer (some ⟨bo,0,none⟩)] w fun e w'=>e= .returned (.bool (decide (cmpI ((-1)*(n.k+m.k)) ((-1)*1)≤0)))∧Below w.heap.size w w':=by
 have b0:=(gr_alloc w (.cells (mE i x) 155)).trans (gr_alloc _ (.cells (mE j y) 155))
 have zx:M9B _ w.heap.size i x:=M9B.below (heap_alloc_new w (.cells (mE i x) 155)) (below_alloc _ (.cells (mE j y) 155))
 have zy:M9B ((w.alloc (.cells (mE i x) 155)).alloc (.cells (mE j y) 155)) (w.alloc (.cells (mE i x) 155)).heap.size j y:=heap_alloc_new _ _
 rw[show(w.alloc (.cells (mE i x) 155)).heap.size=w.heap.size+1 from by simp]at zy
 have zl:=hL.below b0.b
 have zo:=hO.below b0.b
 have hA:Hid (∀w',Below ((w.alloc (.cells (mE i x) 155)).alloc (.cells (mE j y) 155)).heap.size ((w.alloc (.cells (mE i x) 155)).alloc (.cells (mE j y) 155)) w'→Calls Tryz.prog 64 #[.agg #[.bool x.sk,.slice x.ak x.lk x.ck],.agg #[.bool y.sk,.slice y.ak y.lk y.ck]] w' fun e w''=> ∃s' ad len cap,e= .returned (.agg #[.bool s',.slice ad len cap])∧Zn w'' s' ad len cap (n.k+m.k)∧Below w'.heap.size w' w''∧len≤2097153):=hide fun w' k=>(zadd_n (hx.zk.below (grow_step k b0.b)).zm (hy.zk.below (grow_step k b0.b)).zm (by have:=hx.hlk;omega) (by have:=hy.hlk;omega)).mono fun e w'' ⟨s',ad,len,cap,h1,h2,h3,h4⟩=>⟨s',ad,len,cap,h1,h2,h3,by have:=hx.hlk;have:=hy.hlk;omega⟩
 have hC:Hid (∀w' w'' s' ad len cap,Below ((w.alloc (.cells (mE i x) 155)).alloc (.cells (mE j y) 155)).heap.size ((w.alloc (.cells (mE i x) 155)).alloc (.cells (mE j y) 155)) w'→Zn w'' s' ad len cap (n.k+m.k)→len≤2097153→Below ((w.alloc (.cells (mE i x) 155)).alloc (.cells (mE j y) 155)).heap.size ((w.alloc (.cells (mE i x) 155)).alloc (.cells (mE j y) 155)) w''→Calls Tryz.prog 51 #[.agg #[.bool s',.slice ad len cap],.agg #[.bool so,.slice ao lo co]] w'' fun e w3=>e= .returned (.int .i64 (cmpI ((-1)*(n.k+m.k)) ((-1)*1)))∧Gr w'' w3):=hide fun w' w'' s' ad len cap _ hz hl k=>falling_g hz.zm (ho.below (grow_step k b0.b)).zm o_m o_m
 replace b0:=hide b0
 generalize cmpI ((-1)*(n.k+m.k)) ((-1)*1)=oc at*
 clear hL hO ho
 clear hx hy
 obtain⟨kd1,sd1,ad1,ld1,cd1,ap1,np1,cp1,sk1,ak1,lk1,ck1,vr1,ka1,kn1,kc1⟩:=x
 obtain⟨kd2,sd2,ad2,ld2,cd2,ap2,np2,cp2,sk2,ak2,lk2,ck2,vr2,ka2,kn2,kc2⟩:=y
 simp only[mE]at*
 go_enter Tryz.func158,Tryz.ntmps158
 go_wp2_with fail
 generalize (w.alloc (.cells #[.int .i64 i,.int .i64 kd1,.bool sd1,.slice ad1 ld1 cd1,.slice ap1 np1 cp1,.bool sk1,.slice ak1 lk1 ck1,.int .i64 vr1,.slice ka1 kn1 kc1] 155)).alloc (.cells #[.int .i64 j,.int .i64 kd2,.bool sd2,.slice ad2 ld2 cd2,.slice ap2 np2 cp2,.bool sk2,.slice ak2 lk2 ck2,.int .i64 vr2,.slice ka2 kn2 kc2] 155)=wB0 at*
 generalize w.heap.size=p at*
 generalize p+1=q at*
 have hS:Hid (∀w',Below wB0.heap.size wB0 w'→w'.cell? ⟨p,5,none⟩=some (.bool sk1)∧w'.cell? ⟨p,6,none⟩=some (.slice ak1 lk1 ck1)∧w'.cell? ⟨q,5,none⟩=some (.bool sk2)∧w'.cell? ⟨q,6,none⟩=some (.slice ak2 lk2 ck2)∧w'.cell? ⟨bl,4,none⟩=some (.func (.func 51) #[] #[])∧w'.cell? ⟨bo,0,none⟩=some (.bool so)∧w'.cell? ⟨bo,1,none⟩=some (.slice ao lo co)∧Below wB0.heap.size wB0 w'):=hide fun w' k=>⟨(k.cell (p:=⟨p,5,none⟩) zx.lt).trans (zx.c 5),(k.cell (p:=⟨p,6,none⟩) zx.lt).trans (zx.c 6),(k.cell (p:=⟨q,5,none⟩) zy.lt).trans (zy.c 5),(k.cell (p:=⟨q,6,none⟩) zy.lt).trans (zy.c 6),(k.cell (p:=⟨bl,4,none⟩) zl.lt).trans zl.c4,(k.cell (p:=⟨bo,0,none⟩) zo.lt).trans zo.c0,(k.cell (p:=⟨bo,1,none⟩) zo.lt).trans zo.c1,k⟩
 clear zx zy zl zo
 go_region_held3 (fun w'=>w'.cell? ⟨p,5,none⟩=some (.bool sk1)∧w'.cell? ⟨p,6,none⟩=some (.slice ak1 lk1 ck1)∧w'.cell? ⟨q,5,none⟩=some (.bool sk2)∧w'.cell? ⟨q,6,none⟩=some (.slice ak2 lk2 ck2)∧w'.cell? ⟨bl,4,none⟩=some (.func (.func 51) #[] #[])∧w'.cell? ⟨bo,0,none⟩=some (.bool so)∧w'.cell? ⟨bo,1,none⟩=some (.slice ao lo co)∧Below wB0.heap.size wB0 w') ((refine hS.out _ ?_;(with_reducible repeat' first|exact Below.refl _ _|assumption|refine grow_step (by assumption) ?_|refine grow_drew ?_|refine grow_alloc ?_ _|refine grow_drewN ?_ _)))
  (first|(go_at_call 64;refine Calls.mono (hA.out _ gw) ?_;rintro e w3 ⟨s',ad',len',cap',rfl,hz3,hg3,hl3⟩)|(go_at_call 51;refine Calls.mono (hC.out w3 _ s' ad' len' cap' gw (hz3.below gw) hl3 gw) ?_;rintro e w4 ⟨rfl,hg4'⟩;have hg4:=hg4'.b))
 rename_i hH
 have kf:=hide (grow_step hH.2.2.2.2.2.2.2 b0.out.b)
 clear hH hS hA hC
 go_wp2
 go_ret
 exact⟨rfl,kf.out⟩

end Nt
end Go.Proofs.YtllfelooahplhaaGreatDoor
