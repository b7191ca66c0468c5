/-
 Several texts in one: U1,U2,EK.
-/
import Derived.Test.YtbgpddlcfiiiaaaGreatDoorSbmT
import Derived.Test.YtbgpddlcfiiiaaaGreatDoorSbm35
namespace Go.Proofs.YtbgpddlcfiiiaaaGreatDoor
open Tm At
namespace Nt

variable {L:List Nd}{v x y kd:Int}{ids:List Int}
def Bds (n:Nd)(v:Int):Prop:=(n.kind=7∨n.kind=8)∧n.var=v
def Dv (L:List Nd)(v x y:Int):Prop:=∀Q:Int→Prop,Q x→(∀a b,Q a→okI L a→¬Bds (ndI L a) v→b∈(ndI L a).kids→Q b)→Q y
def Fv (L:List Nd)(v x:Int):Prop:=∃y,Dv L v x y∧∃c,(v,c)∈(ndI L y).ps
theorem dv_self (L:List Nd)(v x:Int):Dv L v x x:=fun _ h _=>h
theorem dv_kid {a b:Int}(h:Dv L v x a)(ho:okI L a)(hn: ¬Bds (ndI L a) v)(hb:b∈(ndI L a).kids):Dv L v x b:=fun Q h1 h2=>h2 a b (h Q h1 h2) ho hn hb
theorem dv_up {k:Int}(ho:okI L x)(hn: ¬Bds (ndI L x) v)(hk:k∈(ndI L x).kids)(h:Dv L v k y):Dv L v x y:=fun Q h1 h2=>h Q (h2 x k h1 ho hn hk) h2
theorem dv_dn (h:Dv L v x y):Dn L x y:=fun Q h1 h2=>h Q h1 fun a b ha ho _ hb=>h2 a b ha ho hb
theorem dv_cases (h:Dv L v x y):y=x∨(okI L x∧¬Bds (ndI L x) v∧∃k∈(ndI L x).kids,Dv L v k y):=
 h (fun y=>y=x∨(okI L x∧¬Bds (ndI L x) v∧∃k∈(ndI L x).kids,Dv L v k y)) (.inl rfl) fun a b ha ho hn hb=>by
  rcases ha with rfl|⟨h1,h2,k,hk,hr⟩
  ·exact .inr ⟨ho,hn,b,hb,dv_self L v b⟩
  exact .inr ⟨h1,h2,k,hk,dv_kid hr ho hn hb⟩
theorem fv_iff (ho:okI L x):Fv L v x↔(∃c,(v,c)∈(ndI L x).ps)∨(¬Bds (ndI L x) v∧∃k∈(ndI L x).kids,Fv L v k):=by
 constructor
 ·rintro⟨y,hy,hc⟩
  rcases dv_cases hy with rfl|⟨_,hn,k,hk,hr⟩
  ·exact .inl hc
  exact .inr ⟨hn,k,hk,y,hr,hc⟩
 rintro(hc|⟨hn,k,hk,y,hr,hc⟩)
 ·exact⟨x,dv_self L v x,hc⟩
 exact⟨y,dv_up ho hn hk hr,hc⟩
theorem dv_app {t:List Nd}(hw:Wk L){v x y:Int}(ho:okI L x):Dv (L++t) v x y↔Dv L v x y:=by
 constructor
 ·intro h
  exact(h (fun y=>okI L y∧Dv L v x y) ⟨ho,dv_self L v x⟩ fun a b ha _ hn hb=>by
   rw[ndI_app ha.1]at hn hb
   exact⟨hw.ok ha.1 hb,dv_kid ha.2 ha.1 hn hb⟩).2
 intro h
 exact h (fun y=>Dv (L++t) v x y) (dv_self _ v x) fun a b ha hao hn hb=>dv_kid ha (okI_app hao) (by rw[ndI_app hao];exact hn) (by rw[ndI_app hao];exact hb)
theorem fv_le {L':List Nd}(hw:Wk L)(hl: ∃t,L'=L++t){v x:Int}(ho:okI L x):Fv L' v x↔Fv L v x:=by
 obtain⟨t,rfl⟩:=hl
 refine exists_congr fun y=> ?_
 rw[dv_app hw ho]
 refine and_congr_right fun h=> ?_
 rw[ndI_app (dn_ok hw ho (dv_dn h))]
theorem fv_pln (hp:Pln L x):Fv L v x↔ ∃y,Dn L x y∧∃c,(v,c)∈(ndI L y).ps:=by
 refine⟨fun⟨y,hy,hc⟩=>⟨y,dv_dn hy,hc⟩,fun⟨y,hy,hc⟩=>⟨y,?_,hc⟩⟩
 exact(hy (fun y=>Dn L x y∧Dv L v x y) ⟨dn_self L x,dv_self L v x⟩ fun a b ha ho hb=>⟨dn_kid ha.1 ho hb,dv_kid ha.2 ho (fun hn=>hn.1.elim (hp a ha.1).1 (hp a ha.1).2) hb⟩).2

def Co (L:List Nd):Nat→Int→Nat
 |0,_=>0
 |m+1,i=>if(ndI L i).kind=5∨(ndI L i).kind=6 then((ndI L i).kids.map fun k=>1+Co L m k).sum else 1
def co (L:List Nd)(i:Int):Nat:=Co L (i.toNat+1) i
theorem co_fuel (hw:Wk L): ∀(m:Nat) (i:Int) (q:Nat),okI L i→i<(m:Int)→i<(q:Int)→Co L m i=Co L q i
 |0,i,q,ho,hm,hq=>by have:=ho.1;omega
 |m+1,i,0,ho,hm,hq=>by have:=ho.1;omega
 |m+1,i,q+1,ho,hm,hq=>by
  have ih: ∀z∈(ndI L i).kids,Co L m z=Co L q z:=fun z hz=>co_fuel hw m z q (hw.ok ho hz) (by have:=hw i ho z hz;omega) (by have:=hw i ho z hz;omega)
  have e:(ndI L i).kids.map (fun k=>1+Co L m k)=(ndI L i).kids.map (fun k=>1+Co L q k):=List.map_congr_left fun z hz=>by rw[ih z hz]
  simp only[Co]
  rw[e]
theorem co_join (hw:Wk L){i:Int}(ho:okI L i)(hk:(ndI L i).kind=5∨(ndI L i).kind=6):co L i=((ndI L i).kids.map fun k=>1+co L k).sum:=by
 unfold co
 simp only[Co]
 rw[if_pos hk]
 congr 1
 exact List.map_congr_left fun z hz=>by rw[co_fuel hw _ z (z.toNat+1) (hw.ok ho hz) (by have:=hw i ho z hz;omega) (by have:=hw i ho z hz;omega)];rfl
theorem co_atm {i:Int}(hk: ¬((ndI L i).kind=5∨(ndI L i).kind=6)):co L i=1:=by
 unfold co
 simp only[Co]
 rw[if_neg hk]
theorem co_app {t:List Nd}(hw:Wk L)(hw2:Wk (L++t)): ∀(m:Nat) {i:Int},i<(m:Int)→okI L i→co (L++t) i=co L i
 |0,i,hm,ho=>by have:=ho.1;omega
 |m+1,i,hm,ho=>by
  have e:=ndI_app (t:=t) ho
  by_cases hk:(ndI L i).kind=5∨(ndI L i).kind=6
  ·rw[co_join hw ho hk,co_join hw2 (okI_app ho) (by rw[e];exact hk),e]
   congr 1
   exact List.map_congr_left fun z hz=>by rw[co_app hw hw2 m (by have:=hw i ho z hz;omega) (hw.ok ho hz)]
  rw[co_atm hk,co_atm (by rw[e];exact hk)]
theorem co_le {L':List Nd}(hw:Wk L)(hw2:Wk L')(hl: ∃t,L'=L++t){i:Int}(ho:okI L i):co L' i=co L i:=by
 obtain⟨t,rfl⟩:=hl
 exact co_app hw hw2 (i.toNat+1) (by have:=ho.1;omega) ho
theorem sum_split (f:Int→Nat)(p:Int→Bool): ∀l:List Int,(l.map f).sum=((l.filter p).map f).sum+((l.filter fun x=> !p x).map f).sum
 | []=>rfl
 |x::l=>by
  have ih:=sum_split f p l
  by_cases h:p x=true
  ·simp[h,ih]
   omega
  simp[h,ih]
  omega
theorem sum_cover {A:Int→Int→Prop}(f g:Int→Nat): ∀(ks l:List Int),l.Nodup→(∀m∈l,∃k∈ks,A k m)→(∀k∈ks,∀l':List Int,l'.Nodup→(∀m∈l',A k m)→(l'.map f).sum≤g k)→(l.map f).sum≤(ks.map g).sum
 | [],l,_,h,_=>by
  have:l= []:=List.eq_nil_iff_forall_not_mem.2 fun m hm=>by obtain⟨k,hk,_⟩:=h m hm;cases hk
  subst this
  simp
 |k::ks,l,hn,h,hk=>by
  classical
  rw[sum_split f (fun m=>decide (A k m)) l,List.map_cons,List.sum_cons]
  refine Nat.add_le_add (hk k List.mem_cons_self _ (hn.filter _) fun m hm=>of_decide_eq_true (List.mem_filter.1 hm).2) (sum_cover f g ks _ (hn.filter _) (fun m hm=> ?_) fun k' hk'=>hk k' (List.mem_cons_of_mem _ hk'))
  obtain⟨h1,h2⟩:=List.mem_filter.1 hm
  obtain⟨k',hk',hA⟩:=h m h1
  rcases List.mem_cons.1 hk' with rfl|hk'
  ·simp[hA]at h2
  exact⟨k',hk',hA⟩
theorem rk_self (hk:(ndI L x).kind≠kd)(h:Rk L kd [x] y):y=x:=
 h (fun y=>y=x) (fun _ hy=>List.mem_singleton.1 hy) fun _ _ ha _ hb _=>absurd (ha▸hb) hk
theorem rk_mem (h:Rk L kd ids y): ∃x∈ids,Rk L kd [x] y:=
 h (fun y=> ∃x∈ids,Rk L kd [x] y) (fun y hy=>⟨y,hy,rk_id (List.mem_singleton.2 rfl)⟩) fun _ _ ⟨x,hx,hr⟩ ho hk hb=>⟨x,hx,rk_kid hr ho hk hb⟩
theorem mem_cost (hw:Wk L){kd:Int}(hkd:kd=5∨kd=6): ∀(n:Nat) (x:Int),x<(n:Int)→okI L x→∀l:List Int,l.Nodup→(∀m∈l,Rk L kd [x] m∧(ndI L m).kind≠kd)→(l.map fun m=>1+co L m).sum≤1+co L x
 |0,x,hx,ho,_,_,_=>by have:=ho.1;omega
 |n+1,x,hx,ho,l,hn,hl=>by
  by_cases hk:(ndI L x).kind=kd
  ·have h1:(l.map fun m=>1+co L m).sum≤((ndI L x).kids.map fun m=>1+co L m).sum:=by
    refine sum_cover (A:=fun k m=>Rk L kd [k] m∧(ndI L m).kind≠kd) _ _ _ l hn (fun m hm=> ?_) fun k hk' l' hn' hl'=>mem_cost hw hkd n k (by have:=hw x ho k hk';omega) (hw.ok ho hk') l' hn' hl'
    obtain⟨h2,h3⟩:=hl m hm
    rcases(rk_one ho hk).1 h2 with rfl|h4
    ·exact absurd hk h3
    obtain⟨k,hk',h5⟩:=rk_mem h4
    exact⟨k,hk',h5,h3⟩
   rw[co_join hw ho (by rw[hk];exact hkd)]
   omega
  have h1: ∀m∈l,m=x:=fun m hm=>rk_self hk (hl m hm).1
  match l,hn with
  | [],_=>simp
  | [m],_=>rw[h1 m List.mem_cons_self];simp
  |m::m2::l2,hn=>
   have e1:=h1 m List.mem_cons_self
   have e2:=h1 m2 (List.mem_cons_of_mem _ List.mem_cons_self)
   exact absurd (show m∈m2::l2 by rw[e1,e2];exact List.mem_cons_self) (List.nodup_cons.1 hn).1
theorem SimpR.co {nn kk:Int}{s:St}{dual idle rul sg:Int}{r:St × Int × Int}(h:SimpR nn kk s kd dual idle rul sg ids r)(hlw:Law5 kd dual idle rul sg)(hg:Gv kk s.L)(he:r.2.2=0)(hne:ids≠ []):co r.1.L r.2.1≤(ids.map fun x=>1+co s.L x).sum:=by
 have hkd:kd=5∨kd=6:=hlw.imp (fun h=>h.1) fun h=>h.1
 have hr:rul=0∨rul=1:=hlw.elim (fun h=> .inl h.2.2.2.1) fun h=> .inr h.2.2.2.1
 have hk:=h.kp hkd hr hg
 have h1:1≤(ids.map fun x=>1+Nt.co s.L x).sum:=by
  cases ids with
  |nil=>exact absurd rfl hne
  |cons a l=>rw[List.map_cons,List.sum_cons];omega
 have hc: ∀x,x=0∨x=1→Nt.co s.L x=1:=fun x hx=>co_atm (by rcases hx with rfl|rfl;rw[hg.n0];simp[cst];rw[hg.n1];simp[cst])
 rcases h with⟨_,rfl⟩|⟨ho,⟨_,rfl⟩|⟨_,l,hl,rfl⟩⟩
 ·cases he
 ·rw[hc _ hr]
  exact h1
 have hlo: ∀x∈l,okI s.L x:=fun x hx=>((hl x).1 hx).1.1.2.1
 have hcov: ∀q:List Int,q.Nodup→(∀x∈q,x∈l)→(q.map fun x=>1+Nt.co s.L x).sum≤(ids.map fun x=>1+Nt.co s.L x).sum:=fun q hn hq=>by
  refine sum_cover (A:=fun k m=>Rk s.L kd [k] m∧(ndI s.L m).kind≠kd) _ _ ids q hn (fun m hm=> ?_) fun k hk' l' hn' hl'=>mem_cost hg.wk hkd (k.toNat+1) k (by have:=(ho k hk').1;omega) (ho k hk') l' hn' hl'
  have h2:=((hl m).1 (hq m hm)).1.1
  obtain⟨k,hk',h5⟩:=rk_mem h2.1
  exact⟨k,hk',h5,h2.2.2.1⟩
 rcases actJ_cases (nn:=nn) (kk:=kk) hkd hlo with⟨_,e⟩|⟨x,hx,e⟩|⟨h2,e⟩
 ·rw[e]
  simp only
  rw[hc _ (by split;exact .inr rfl;exact .inl rfl)]
  exact h1
 ·rw[e]
  have:=hcov [x] (by simp) (fun y hy=>(hx y).2 (List.mem_singleton.1 hy))
  simp at this ⊢
  omega
 rw[e]at hk he ⊢
 have hn:=putE_node he
 have hok:=hk.ok he
 rw[co_join hk.gv.wk hok (by rw[hn];exact hkd),hn]
 have hrl: ∀x∈ris l,x∈l:=fun x hx=>(mem_ris l x).1 hx
 have e2:(ris l).map (fun k=>1+Nt.co (putE nn kk s ⟨kd,0,[],0,0,ris l⟩).1.L k)=(ris l).map (fun k=>1+Nt.co s.L k):=List.map_congr_left fun z hz=>by rw[co_le hg.wk hk.gv.wk hk.le (hlo z (hrl z hz))]
 dsimp only
 rw[e2]
 exact hcov _ ((ris_rises l).imp fun h=>Int.ne_of_lt h) hrl
theorem SimpR.fv {nn kk:Int}{s:St}{dual idle rul sg:Int}{r:St × Int × Int}(h:SimpR nn kk s kd dual idle rul sg ids r)(hlw:Law5 kd dual idle rul sg)(hg:Gv kk s.L)(he:r.2.2=0){v:Int}(hf:Fv r.1.L v r.2.1): ∃x∈ids,Fv s.L v x:=by
 have hkd:kd=5∨kd=6:=hlw.imp (fun h=>h.1) fun h=>h.1
 have hr:rul=0∨rul=1:=hlw.elim (fun h=> .inl h.2.2.2.1) fun h=> .inr h.2.2.2.1
 have hk:=h.kp hkd hr hg
 have hc: ∀x,x=0∨x=1→¬Fv s.L v x:=fun x hx hf=>by
  rcases hx with rfl|rfl
  ·rw[fv_iff hg.ok0,hg.n0]at hf
   simp[cst]at hf
  rw[fv_iff hg.ok1,hg.n1]at hf
  simp[cst]at hf
 have hup: ∀x∈ids,∀m,Rk s.L kd [x] m→okI s.L x→okI s.L m∧(Fv s.L v m→Fv s.L v x):=fun x _ m hm hox=>
  hm (fun m=>okI s.L m∧(Fv s.L v m→Fv s.L v x)) (fun y hy=>by rw[List.mem_singleton.1 hy];exact⟨hox,fun h=>h⟩) fun a b ha hao hka hb=>⟨hg.wk.ok hao hb,fun hf=>ha.2 ((fv_iff hao).2 (.inr ⟨fun hn=>by have:=hn.1;omega,b,hb,hf⟩))⟩
 rcases h with⟨_,rfl⟩|⟨ho,⟨_,rfl⟩|⟨_,l,hl,rfl⟩⟩
 ·cases he
 ·exact absurd hf (hc _ hr)
 have hlo: ∀x∈l,okI s.L x:=fun x hx=>((hl x).1 hx).1.1.2.1
 have hlf: ∀m∈l,Fv s.L v m→∃x∈ids,Fv s.L v x:=fun m hm hf=>by
  obtain⟨x,hx,hr'⟩:=rk_mem ((hl m).1 hm).1.1.1
  exact⟨x,hx,(hup x hx m hr' (ho x hx)).2 hf⟩
 rcases actJ_cases (nn:=nn) (kk:=kk) hkd hlo with⟨_,e⟩|⟨x,hx,e⟩|⟨h2,e⟩
 ·rw[e]at hf
  exact absurd hf (hc _ (by simp only;split;exact .inr rfl;exact .inl rfl))
 ·rw[e]at hf
  exact hlf x ((hx x).2 rfl) hf
 rw[e]at hk he hf
 have hn:=putE_node he
 have hok:=hk.ok he
 rw[fv_iff hok,hn]at hf
 rcases hf with⟨c,hc'⟩|⟨_,k,hk',hf⟩
 ·cases hc'
 have hkl:=(mem_ris l k).1 hk'
 exact hlf k hkl ((fv_le hg.wk hk.le (hlo k hkl)).1 hf)
end Nt
namespace Nt

variable {T:Atm→Atm→Prop}{nn kk:Int}{s:St}{r:St × Int × Int}{L:List Nd}
def TuR (T:Atm→Atm→Prop)(nn kk:Int)(s:St)(i:Int)(ks:List Int)(r:St × Int × Int):Prop:=
 ((ndI s.L i).kind=5∧SimpR nn kk s 5 6 1 0 1 ks r)∨((ndI s.L i).kind=6∧SimpR nn kk s 6 5 0 1 (-1) ks r)∨
 (((ndI s.L i).kind=7∨(ndI s.L i).kind=8)∧r=actB nn kk s (ndI s.L i).kind (ndI s.L i).var (ks.headD 0))∨
 ((ndI s.L i).kind<5∧∃a',T (atmN (ndI s.L i)) a'∧a'.ps.length≤209716∧r=putE nn kk s (ndA a'))
def TFit (T:Atm→Atm→Prop):Prop:=∀a a',T a a'→Fit a'
theorem TuR.kp (hT:TFit T){nn kk:Int}{s:St}{i:Int}{ks:List Int}{r:St × Int × Int}(h:TuR T nn kk s i ks r)(hg:Gv kk s.L)(hi:okI s.L i):Kp kk s r:=by
 rcases h with⟨_,h⟩|⟨_,h⟩|⟨hk,rfl⟩|⟨hk,a',ha,hl,rfl⟩
 ·exact h.kp (.inl rfl) (.inl rfl) hg
 ·exact h.kp (.inr rfl) (.inr rfl) hg
 ·obtain⟨x,_,h1,_⟩:=hg.quant hi hk
  exact kp_bind hg hk h1
 exact kp_put hg (.inl ⟨_,hT _ _ ha,rfl,hl⟩)
theorem putE_er {n:Nd}(he:(putE nn kk s n).2.2≠0):(putE nn kk s n).1.er≠0:=by
 rcases putE_cases nn kk s n with⟨i,g1,e⟩|⟨_,er,g1,e,_⟩|⟨_,_,_,e⟩
 ·rw[e]at he
  exact absurd rfl he
 ·rw[e]
  exact g1
 rw[e]at he
 exact absurd rfl he
theorem SimpR.er {kd dual idle rul sg:Int}{ids:List Int}(h:SimpR nn kk s kd dual idle rul sg ids r)(hkd:kd=5∨kd=6)(ho: ∀x∈ids,okI s.L x)(he:r.2.2≠0):r.1.er≠0:=by
 rcases h with⟨⟨x,hx,hn⟩,_⟩|⟨_,⟨_,rfl⟩|⟨_,l,hl,rfl⟩⟩
 ·exact absurd (ho x hx) hn
 ·exact absurd rfl he
 rcases actJ_cases (nn:=nn) (kk:=kk) hkd (fun x hx=>((hl x).1 hx).1.1.2.1)with⟨_,e⟩|⟨x,_,e⟩|⟨_,e⟩
 ·rw[e]at he
  exact absurd rfl he
 ·rw[e]at he
  exact absurd rfl he
 rw[e]at he ⊢
 exact putE_er he
theorem TuR.er {i:Int}{ks:List Int}(h:TuR T nn kk s i ks r)(hg:Gv kk s.L)(hi:okI s.L i)(ho: ∀x∈ks,okI s.L x)(hl:ks.length=(ndI s.L i).kids.length)(he:r.2.2≠0):r.1.er≠0:=by
 rcases h with⟨_,h⟩|⟨_,h⟩|⟨hk,rfl⟩|⟨hk,a',ha,_,rfl⟩
 ·exact h.er (.inl rfl) ho he
 ·exact h.er (.inr rfl) ho he
 ·obtain⟨x,hx,h1,_⟩:=hg.quant hi hk
  rw[hx]at hl
  obtain⟨y,rfl⟩:=List.length_eq_one_iff.1 hl
  have hy:=ho y (by simp)
  unfold actB at he ⊢
  rw[if_neg (fun h=>h hk),if_neg (by unfold okI at hy;simp;omega)]at he ⊢
  exact putE_er he
 exact putE_er he
structure TuJ (T:Atm→Atm→Prop) (L:List Nd) (i j:Int):Prop where
 pl:Pln L i→Pln L j
 tv:Pln L i→∀f g,(∀y,Dn L i y→(ndI L y).kind<5→∀a',T (atmN (ndI L y)) a'→(Sat a' f↔Sat (atmN (ndI L y)) g))→(tv L f j↔tv L g i)
 fv: ∀u,Fv L u j→∃y,Dv L u i y∧(ndI L y).kind<5∧∃a',T (atmN (ndI L y)) a'∧∃c,(u,c)∈a'.ps
 co:co L j≤co L i
theorem tuj_le {L':List Nd}(hw:Wk L)(hw2:Wk L')(hl: ∃t,L'=L++t){i j:Int}(hi:okI L i)(hj:okI L j)(h:TuJ T L i j):TuJ T L' i j:=by
 have hn: ∀y,Dn L' i y→Dn L i y∧ndI L' y=ndI L y:=fun y hy=>by
  obtain⟨t,rfl⟩:=hl
  have h1:=(dn_app hw hi).1 hy
  exact⟨h1,ndI_app (dn_ok hw hi h1)⟩
 have hn2: ∀y,Dn L i y→Dn L' i y∧ndI L' y=ndI L y:=fun y hy=>by
  obtain⟨t,rfl⟩:=hl
  exact⟨(dn_app hw hi).2 hy,ndI_app (dn_ok hw hi hy)⟩
 refine⟨fun hp=>(pln_le hw hl hj).2 (h.pl ((pln_le hw hl hi).1 hp)),fun hp f g hf=> ?_,fun u hu=> ?_,?_⟩
 ·rw[tv_le hw hw2 hl hi,tv_le hw hw2 hl hj]
  refine h.tv ((pln_le hw hl hi).1 hp) f g fun y hy hk a' ha=> ?_
  have h1:=hn2 y hy
  rw[←h1.2]at ha hk ⊢
  exact hf y h1.1 hk a' ha
 ·obtain⟨y,hy,hk,a',ha,hc⟩:=h.fv u ((fv_le hw hl hj).1 hu)
  have h1:=hn2 y (dv_dn hy)
  rw[←h1.2]at ha hk
  refine⟨y,?_,hk,a',ha,hc⟩
  obtain⟨t,rfl⟩:=hl
  exact(dv_app hw hi).2 hy
 rw[co_le hw hw2 hl hi,co_le hw hw2 hl hj]
 exact h.co
theorem Gv.ps_atm (h:Gv kk L){i:Int}(hi:okI L i){p:Int × Int}(hp:p∈(ndI L i).ps):(ndI L i).kind<5:=by
 rcases h.cases hi with⟨_,e⟩|⟨_,e⟩|⟨_,f,hf,_,_,e,_⟩|⟨_,kd,kids,_,e,_⟩|⟨_,kd,v,x,_,e,_⟩
 ·rw[e]at hp;simp[cst]at hp
 ·rw[e]at hp;simp[cst]at hp
 ·rw[e]
  have:=(fit_kind hf).2
  dsimp only
  omega
 ·rw[e]at hp;simp at hp
 rw[e]at hp;simp at hp
theorem tv_same (hw:Wk L)(f g:Int→Int): ∀(n:Nat) (i:Int),i<(n:Int)→okI L i→Pln L i→(∀y,Dn L i y→(ndI L y).kind≠5→(ndI L y).kind≠6→(Sat (atmN (ndI L y)) f↔Sat (atmN (ndI L y)) g))→(tv L f i↔tv L g i)
 |0,i,hn,ho,_,_=>by have:=ho.1;omega
 |n+1,i,hn,ho,hp,h=>by
  have ih: ∀z∈(ndI L i).kids,(tv L f z↔tv L g z):=fun z hz=>tv_same hw f g n z (by have:=hw i ho z hz;omega) (hw.ok ho hz) (((her_iff ho).1 hp).2 z hz) fun y hy=>h y (dn_up ho hz hy)
  by_cases h5:(ndI L i).kind=5
  ·rw[tv_and hw ho h5,tv_and hw ho h5]
   exact⟨fun h z hz=>(ih z hz).1 (h z hz),fun h z hz=>(ih z hz).2 (h z hz)⟩
  by_cases h6:(ndI L i).kind=6
  ·rw[tv_or hw ho h6,tv_or hw ho h6]
   exact⟨fun⟨z,hz,h⟩=>⟨z,hz,(ih z hz).1 h⟩,fun⟨z,hz,h⟩=>⟨z,hz,(ih z hz).2 h⟩⟩
  rw[tv_atm h5 h6,tv_atm h5 h6]
  exact h i (dn_self L i) h5 h6
theorem tuj_stay (hg:Gv kk L){i:Int}(hi:okI L i)(h: ∀y,Dn L i y→(ndI L y).kind<5→T (atmN (ndI L y)) (atmN (ndI L y))):TuJ T L i i:=by
 refine⟨fun hp=>hp,fun hp f g hf=> ?_,fun u hu=> ?_,Nat.le_refl _⟩
 ·refine tv_same hg.wk f g (i.toNat+1) i (by have:=hi.1;omega) hi hp fun y hy h5 h6=> ?_
  have hp1:=hp y hy
  have hk:=hg.kinds (dn_ok hg.wk hi hy)
  have hlt:(ndI L y).kind<5:=by unfold PlnP at hp1;omega
  exact hf y hy hlt _ (h y hy hlt)
 obtain⟨y,hy,c,hc⟩:=hu
 have hlt:=hg.ps_atm (dn_ok hg.wk hi (dv_dn hy)) hc
 exact⟨y,hy,hlt,_,h y (dv_dn hy) hlt,c,hc⟩
theorem prs_sum {J:Int→Int→Prop}{f g:Int→Nat}: ∀{la lb:List Int},(∀a b,J a b→g b≤f a)→Prs J la lb→(lb.map g).sum≤(la.map f).sum
 | [],[],_,_=>Nat.le_refl _
 |a::la,b::lb,hj,h=>by
  rw[List.map_cons,List.map_cons,List.sum_cons,List.sum_cons]
  exact Nat.add_le_add (hj a b h.1) (prs_sum hj h.2)
 | [],_::_,_,h=>False.elim h
 |_::_,[],_,h=>False.elim h
theorem simp_tuj {i:Int}{ks:List Int}{kd dual idle rul sg:Int}(h:SimpR nn kk s kd dual idle rul sg ks r)(hlw:Law5 kd dual idle rul sg)(hkd:(ndI s.L i).kind=kd)(hg:Gv kk s.L)(hi:okI s.L i)(hks:Prs (TuJ T s.L) (ndI s.L i).kids ks)(he:r.2.2=0)
  (hs: ∀f,tv r.1.L f r.2.1↔if kd=5 then ∀x∈ks,tv s.L f x else ∃x∈ks,tv s.L f x):TuJ T r.1.L i r.2.1:=by
 have hk5:kd=5∨kd=6:=hlw.imp (fun h=>h.1) fun h=>h.1
 have hr:rul=0∨rul=1:=hlw.elim (fun h=> .inl h.2.2.2.1) fun h=> .inr h.2.2.2.1
 have hk:=h.kp hk5 hr hg
 have hne:ks≠ []:=fun e=>by
  subst e
  have h1:=prs_len hks
  rcases hg.cases hi with⟨_,e⟩|⟨_,e⟩|⟨_,f,hf,_,_,e,_⟩|⟨_,kd',kids,_,e,h9,_⟩|⟨_,kd',v,x,_,e,_⟩
  ·rw[e]at hkd;simp[cst]at hkd;omega
  ·rw[e]at hkd;simp[cst]at hkd;omega
  ·rw[e]at hkd
   have:=(fit_kind hf).2
   dsimp only at hkd
   omega
  ·rw[e]at h1
   simp at h1
   subst h1
   simp at h9
  rw[e]at h1;simp at h1
 have hup: ∀k∈(ndI s.L i).kids,∀y,Dn s.L k y→Dn s.L i y:=fun k hk' y hy=>dn_up hi hk' hy
 have hnb: ∀u,¬Bds (ndI s.L i) u:=fun u hb=>by have:=hb.1;omega
 have hdn: ∀y,Dn s.L i y→Dn r.1.L i y∧ndI r.1.L y=ndI s.L y:=fun y hy=>by
  obtain⟨t,e⟩:=hk.le
  rw[e]
  exact⟨(dn_app hg.wk hi).2 hy,ndI_app (dn_ok hg.wk hi hy)⟩
 refine⟨fun hp=> ?_,fun hp f g hf=> ?_,fun u hu=> ?_,?_⟩
 ·have hp:=(pln_le hg.wk hk.le hi).1 hp
  have hpi:=(her_iff hi).1 hp
  refine h.her hk5 hr hg he (P:=PlnP s.L) (plnP_app hk.le) (by unfold PlnP;rw[hg.n0];simp[cst]) (by unfold PlnP;rw[hg.n1];simp[cst]) (fun _ h1 _=>by unfold PlnP;rw[h1];omega) fun x hx=> ?_
  obtain⟨a,ha,h3⟩:=prs_right hks x hx
  exact h3.pl (hpi.2 a ha)
 ·have hp:=(pln_le hg.wk hk.le hi).1 hp
  have hpi:=(her_iff hi).1 hp
  have hkid: ∀a∈(ndI s.L i).kids,∀b,TuJ T s.L a b→(tv s.L f b↔tv s.L g a):=fun a ha b hab=>hab.tv (hpi.2 a ha) f g fun y hy hlt a' hT=>by
   have h1:=hdn y (hup a ha y hy)
   rw[←h1.2]at hT hlt ⊢
   exact hf y h1.1 hlt a' hT
  rw[hs f,tv_le hg.wk hk.gv.wk hk.le hi]
  rcases hk5 with rfl|rfl
  ·rw[if_pos rfl,tv_and hg.wk hi hkd]
   constructor
   ·intro h1 a ha
    obtain⟨b,hb,h3⟩:=prs_left hks a ha
    exact(hkid a ha b h3).1 (h1 b hb)
   intro h1 x hx
   obtain⟨a,ha,h3⟩:=prs_right hks x hx
   exact(hkid a ha x h3).2 (h1 a ha)
  rw[if_neg (by decide),tv_or hg.wk hi hkd]
  constructor
  ·rintro⟨x,hx,h1⟩
   obtain⟨a,ha,h3⟩:=prs_right hks x hx
   exact⟨a,ha,(hkid a ha x h3).1 h1⟩
  rintro⟨a,ha,h1⟩
  obtain⟨b,hb,h3⟩:=prs_left hks a ha
  exact⟨b,hb,(hkid a ha b h3).2 h1⟩
 ·obtain⟨x,hx,hf⟩:=h.fv hlw hg he hu
  obtain⟨a,ha,h3⟩:=prs_right hks x hx
  obtain⟨y,hy,hlt,a',hT,hc⟩:=h3.fv u hf
  have hy2:=dv_up hi (hnb u) ha hy
  have h1:=hdn y (dv_dn hy2)
  rw[←h1.2]at hlt hT
  refine⟨y,?_,hlt,a',hT,hc⟩
  obtain⟨t,e⟩:=hk.le
  rw[e]
  exact(dv_app hg.wk hi).2 hy2
 refine Nat.le_trans (h.co hlw hg he hne) ?_
 rw[co_le hg.wk hk.gv.wk hk.le hi,co_join hg.wk hi (by rw[hkd];exact hk5)]
 exact prs_sum (fun a b hab=>Nat.add_le_add_left hab.co 1) hks
theorem TuR.tuj (hT:TFit T){nn kk:Int}{s:St}{i:Int}{ks:List Int}{r:St × Int × Int}(h:TuR T nn kk s i ks r)(hg:Gv kk s.L)(hi:okI s.L i)(hks:Prs (TuJ T s.L) (ndI s.L i).kids ks)(hyk: ∀k∈ks,okI s.L k)(he:r.2.2=0):TuJ T r.1.L i r.2.1:=by
 have hk:=h.kp hT hg hi
 have hdn: ∀y,Dn s.L i y→Dn r.1.L i y∧ndI r.1.L y=ndI s.L y:=fun y hy=>by
  obtain⟨t,e⟩:=hk.le
  rw[e]
  exact⟨(dn_app hg.wk hi).2 hy,ndI_app (dn_ok hg.wk hi hy)⟩
 rcases h with⟨hkd,h⟩|⟨hkd,h⟩|⟨hkd,rfl⟩|⟨hkd,a',ha,_,rfl⟩
 ·exact simp_tuj h (.inl ⟨rfl,rfl,rfl,rfl,rfl⟩) hkd hg hi hks he fun f=>by rw[if_pos rfl];exact and_tv h hg he f
 ·exact simp_tuj h (.inr ⟨rfl,rfl,rfl,rfl,rfl⟩) hkd hg hi hks he fun f=>by rw[if_neg (by decide)];exact or_tv h hg he f
 ·obtain⟨x,hx,_,hx3,hx4⟩:=hg.quant hi hkd
  rw[hx]at hks
  match ks,hks with
  | [y],⟨hxy,_⟩=>
   have hpe:actB nn kk s (ndI s.L i).kind (ndI s.L i).var ([y].headD 0)=putE nn kk s ⟨(ndI s.L i).kind,0,[],0,(ndI s.L i).var,[y]⟩:=by
    have hy:okI s.L y:=hyk y (by simp)
    unfold actB
    rw[if_neg (fun h=>h hkd),List.headD_cons,if_neg (by unfold okI at hy;omega)]
   rw[hpe]at he hk hdn ⊢
   have hn:=putE_node he
   have hok:=hk.ok he
   have h1:=hdn i (dn_self s.L i)
   have hy:okI s.L y:=hyk y (by simp)
   have hxm:x∈(ndI s.L i).kids:=by rw[hx];simp
   refine⟨fun hp=> ?_,fun hp=> ?_,fun u hu=> ?_,?_⟩
   ·exact absurd hkd fun h=>by
     have:=(hp i (dn_self _ i))
     unfold PlnP at this
     rw[h1.2]at this
     omega
   ·exact absurd hkd fun h=>by
     have:=(hp i (dn_self _ i))
     unfold PlnP at this
     rw[h1.2]at this
     omega
   ·rw[fv_iff hok,hn]at hu
    rcases hu with⟨c,hc⟩|⟨hnb,k,hk',hf⟩
    ·cases hc
    obtain rfl:k=y:=by simpa using hk'
    have hf2:=(fv_le hg.wk hk.le hy).1 hf
    obtain⟨z,hz,hlt,a',hT',hc⟩:=hxy.fv u hf2
    have hz2:=dv_up hi (fun hb=>hnb hb) hxm hz
    have h2:=hdn z (dv_dn hz2)
    rw[←h2.2]at hlt hT'
    refine⟨z,?_,hlt,a',hT',hc⟩
    obtain⟨t,e⟩:=hk.le
    rw[e]
    exact(dv_app hg.wk hi).2 hz2
   rw[co_atm (by rw[hn];dsimp only;omega),co_atm (by rw[h1.2];omega)]
   exact Nat.le_refl _
 have hn:=putE_node he
 have hok:=hk.ok he
 have hfit:=hT _ _ ha
 have hk4:=fit_kind hfit
 have hkr:(ndI (putE nn kk s (ndA a')).1.L (putE nn kk s (ndA a')).2.1).kind<5:=by rw[hn];unfold ndA;dsimp only;omega
 have hatm:atmN (ndI (putE nn kk s (ndA a')).1.L (putE nn kk s (ndA a')).2.1)=a':=by rw[hn];rfl
 have h1:=hdn i (dn_self s.L i)
 refine⟨fun _=> ?_,fun hp f g hf=> ?_,fun u hu=> ?_,?_⟩
 ·unfold Pln
  rw[her_iff hok]
  refine⟨by unfold PlnP;omega,fun z hz=> ?_⟩
  rw[hn]at hz
  cases hz
 ·rw[tv_atm o_m o_m,hatm,tv_atm (by rw[h1.2];omega) (by rw[h1.2];omega)]
  exact hf i (dn_self _ i) (by rw[h1.2];exact hkd) a' (by rw[h1.2];exact ha)
 ·rw[fv_iff hok]at hu
  rcases hu with⟨c,hc⟩|⟨_,k,hk',_⟩
  ·rw[hn]at hc
   exact⟨i,dv_self _ u i,by rw[h1.2];exact hkd,a',by rw[h1.2];exact ha,c,hc⟩
  rw[hn]at hk'
  cases hk'
 rw[co_atm o_m,co_atm (by rw[h1.2];omega)]
 exact Nat.le_refl _
end Nt
end Go.Proofs.YtbgpddlcfiiiaaaGreatDoor

namespace Go.Proofs.YtbgpddlcfiiiaaaGreatDoor
open Go.RowKit Go.Sort Go.Shelf
open Tm At
namespace Nt
namespace S12
set_option maxRecDepth 100000 in
set_option maxHeartbeats 6400000 in
theorem built_g {w:World}{pa pm:Nat}{nn kk:Int}{s:St}{F:Nat→Prop}{ad:Option Addr}{n c:Nat}{R:List Mk}{B:Nat}
  (hG:AG w pa pm nn kk s F)(h2:2≤s.L.length)(hR: ∀w',ButF (fun b=>b=pm∨F b) w w'→ML w' ad n R B)(hnR:InF (fun b=> ¬F b∧b≠pm∧b<w.heap.size) ad n)(hrl:R.length=n)(hn:n≤1048576)(hB:B≤1048576)(htab: ∀w',ButF (fun b=>b=pm∨F b) w w'→Tab w'):
  Calls Tryz.prog 7 #[.pointer (some ⟨pa,0,none⟩),.slice ad n c] w fun e w'=>BT w w' e pa pm nn kk F (runW nn kk (s,[0,1]) (R.take 40)):=by
 have hms:=hG.mb.lt
 have hin:In s [0,1]:=⟨by simp,fun x hx=>by simp at hx;omega⟩
 go_enter Tryz.func7,Tryz.ntmps7
 go_wp2_with fail
 obtain⟨i0,hi,hz0,hz1,hz2⟩:=info_parts infoI
 have b0:=below_alloc w (.cells #[.int .i64 0,.int .i64 1] 3)
 have hst:Hid (LI w (w.alloc (.cells #[.int .i64 0,.int .i64 1] 3)) pa pm nn kk F (s,[0,1]) (.slice (some ⟨w.heap.size,0,none⟩) 2 2) F):=hide ⟨own_two w 0 1,fun g e hg=>by cases e;exact absurd (hG.fl _ hg) (Nat.lt_irrefl _),hG.below b0,fun b hb=> .inl hb,butF_below b0⟩
 clear hG
 generalize w.alloc (.cells #[.int .i64 0,.int .i64 1] 3)=wb at*
 clear b0
 go_loopw [5,6] (fun vv i wr=> ∃(t:Nat) (F':Nat→Prop),t≤n∧t≤40∧i= .int .i64 t∧Hid (LI w wr pa pm nn kk F (runW nn kk (s,[0,1]) (R.take t)) vv F')) (fun _ i _=>40-(intOf i).toNat)
 case atStart=>exact⟨0,F,Nat.zero_le _,Nat.zero_le _,rfl,hst⟩
 case round=>
  obtain⟨t,F',ht,ht4,rfl,hli⟩:=hrel
  have hinp:=run_in (nn:=nn) (kk:=kk) (R.take t) hin
  have hlen:=run_len nn kk (R.take t) (s,[0,1])
  rw[List.length_take]at hlen
  have hlen2:(runW nn kk (s,[0,1]) (R.take t)).2.length≤42:=by simp at hlen;omega
  clear hlen
  have hLl:((runW nn kk (s,[0,1]) (R.take t)).1.L.length:Int)≤2002:=by have h1:=hli.out.ag.ln;have h3:=hli.out.ag.cn;have h4:=hli.out.ag.n2;omega
  have hx64: ∀x∈(runW nn kk (s,[0,1]) (R.take t)).2,I64 x:=fun x hx=>by have:=hinp.2 x hx;unfold I64;omega
  obtain⟨a5,c5,rfl⟩:=own_slice hli.out.row
  by_cases htn:t<n∧t<40
  ·have htw:=hide (htab wr hli.out.but)
   rcases(hR wr hli.out.but).2 with h|⟨bR,oR,rfl,hbR,hMA⟩
   ·omega
   have hbRw:=hnR bR oR rfl o_m
   obtain⟨sd,ad1,ld,cd,ap,np,cp,sk,ak,lk,ck,ka,kn,kc,hm9,hzd,hld,hPr,hnp,hzk,hlk,hks,hkn,hik,hiv⟩:=hMA t o_m
   clear hMA
   have hsn:Hid (runW nn kk (s,[0,1]) (R.take (t+1))=stepW nn kk (runW nn kk (s,[0,1]) (R.take t)) R[t]):=hide (by rw[List.take_succ_eq_append_getElem o_m,run_snoc])
   generalize R[t]=m at*
   generalize runW nn kk (s,[0,1]) (R.take t)=p at*
   obtain⟨st,ids⟩:=p
   dsimp only at hinp hlen2 hLl hx64
   have hflr:=hli.out.ag.fl
   have hsubr: ¬(bR=pm∨F' bR):=fun hf=>by
    rcases hf with hf|hf
    ·exact hbRw.2.1 hf
    rcases hli.out.sub bR hf with h9|h9
    ·exact hbRw.1 h9
    have:=hbRw.2.2
    omega
   have hpr:pm<wr.heap.size:=hli.out.ag.mb.lt
   obtain⟨a9,c9,e9,hIL,hNew⟩:=row_il (l:=ids) hli.out.row hx64
   cases e9
   have hof:=hide (of_n (ad:=ad1) (kd:=m.kind) (xk:=m.xk) (sd:=sd) (ld:=ld) (cd:=cd) (ap:=ap) (np:=np) (cp:=cp) (sk:=sk) (ak:=ak) (lk:=lk) (ck:=ck) (v:=m.v) (kc:=kc) (ic:=c5) hks o_m hIL hinp.1 (show ids.length≤1000 by omega))
   unfold mkv at hof
   have v0:=hm9.c0
   have v1:=hm9.c1
   have v2:=hm9.c2
   have v3:=hm9.c3
   have v4:=hm9.c4
   have v5:=hm9.c5
   have v6:=hm9.c6
   have v7:=hm9.c7
   have v8:=hm9.c8
   clear hIL hNew
   replace hli:=hide hli.out
   dsimp only
   go_wp2_with fail
   refine hof.out.mono ?_
   clear v0 v1 v2 v3 v4 v5 v6 v7 v8 hof
   rintro e w1 ⟨aO,cO,rfl,hIO,hnO,k1⟩
   have hm91:=hm9.below k1
   replace hzd:=hzd.below k1
   replace hPr:=hPr.below k1
   replace hzk:=hzk.below k1
   have hli1:=hide (hli.out.below k1)
   have htw1:=hide (htw.out.below k1)
   clear hli htw hm9 k1 hks
   have hwh:=hide (what_n (w:=w1) (ad:=ad1) (xk:=m.xk) (sd:=sd) (ld:=ld) (cd:=cd) (ap:=ap) (np:=np) (cp:=cp) (sk:=sk) (ak:=ak) (lk:=lk) (ck:=ck) (v:=m.v) (ka:=ka) (kn:=kn) (kc:=kc) hik)
   unfold mkv at hwh
   have v0:=hm91.c0
   have v1:=hm91.c1
   have v2:=hm91.c2
   have v3:=hm91.c3
   have v4:=hm91.c4
   have v5:=hm91.c5
   have v6:=hm91.c6
   have v7:=hm91.c7
   have v8:=hm91.c8
   go_wp2_with fail
   refine hwh.out.mono ?_
   clear v0 v1 v2 v3 v4 v5 v6 v7 v8 hwh
   rintro e w2 ⟨rfl,k2⟩
   have hm92:=hm91.below k2
   replace hzd:=hzd.below k2
   replace hPr:=hPr.below k2
   replace hzk:=hzk.below k2
   replace hIO:=hIO.below k2
   have hli2:=hide (hli1.out.below k2)
   have htw2:=hide (htw1.out.below k2)
   clear hli1 htw1 hm91 k2
   have hofi: ∀x∈ofI m.kids ids,0≤x∧x<(st.L.length:Int):=fun x hx=>hinp.2 x (ofI_mem hinp.1 hx)
   have hofl:=ofI_len (ks:=m.kids) (ids:=ids)
   have v0:=hm92.c0
   have v1:=hm92.c1
   have v2:=hm92.c2
   have v3:=hm92.c3
   have v4:=hm92.c4
   have v5:=hm92.c5
   have v6:=hm92.c6
   have v7:=hm92.c7
   have v8:=hm92.c8
   rcases whatI_cases m.kind with hw|hw|hw|hw|hw
   ·rw[hw]
    have hask:Hid (wants nn kk st ids m=asked nn kk st (atomA m.xk m.xd m.xp m.xt)):=hide (by unfold wants ask;rw[if_pos hw])
    go_wp2_with fail
    refine(atom_ao hli2.out.ag hzd hld hPr hzk hlk hnp hB htw2.out).mono ?_
    clear v0 v1 v2 v3 v4 v5 v6 v7 v8
    rintro e w3 ⟨x3,e3,rfl,hno,hyes,F3,hG3,hF3,hB3⟩
    rw[←hask.out]at hno hyes hG3
    have hli3:=hide (hli2.out.asked hG3 hF3 hB3 hms)
    clear hG3 hF3 hB3 hli2 hask hzd hPr hzk hIO htw2 hm92
    cases ho:(wants nn kk st ids m).2 with
    |none=>
     have he3:(e3==0)=false:=by simpa using hno ho
     have hst3:Hid (LI w w3 pa pm nn kk F (runW nn kk (s,[0,1]) (R.take (t+1))) (.slice a5 ids.length c5) F3):=hide (by rw[hsn.out];unfold stepW;rw[ho];simpa using hli3.out)
     clear hli3 hno hyes ho
     go_wp2
     exact⟨⟨t+1,F3,by omega,by omega,by go_num,hst3⟩,by simp[intOf];omega⟩
    |some i=>
     obtain⟨rfl,rfl⟩:=hyes i ho
     have hbase:=hide (show w.heap.size≤w3.heap.size from hli3.out.but.size)
     clear hno hyes
     go_wp2_with(at_builtin;refine wpList_append_own_at _ rfl _ _ 33 rfl w.heap.size 3 i0 _ 1 8 Tryz.underlying33 hi hz0 hz1 hz2 rfl (by decide) _ _ _ rfl (hli3.out.row.alloc _) ⟨w3.heap.size,0,none⟩ 1 1 [.int .i64 x3] rfl rfl (by simpa using cell_one_new w3 (.int .i64 x3) 3) (by simp[Value.oneCell']) (by unfold maxLen;dsimp only;omega) (by dsimp only;omega) (by have:=hbase.out;simp;omega) ?_;intro v' w4 hown' hgrow hnil hat')
     have hst3:Hid (LI w w4 pa pm nn kk F (runW nn kk (s,[0,1]) (R.take (t+1))) v' F3):=hide (by rw[hsn.out];unfold stepW;rw[ho];exact hli3.out.append hown' hgrow hat' hms)
     exact⟨⟨t+1,F3,by omega,by omega,by go_num,hst3⟩,by simp[intOf];omega⟩
   ·rw[hw]
    have hask:Hid (wants nn kk st ids m=asked nn kk st (joinA 5 (ofI m.kids ids))):=hide (by unfold wants ask;rw[if_neg o_m,if_pos hw])
    go_wp2_with fail
    refine(join_ao (.inl rfl) hli2.out.ag hIO o_m hofi htw2.out).mono ?_
    clear v0 v1 v2 v3 v4 v5 v6 v7 v8
    rintro e w3 ⟨x3,e3,rfl,hno,hyes,F3,hG3,hF3,hB3⟩
    rw[←hask.out]at hno hyes hG3
    have hli3:=hide (hli2.out.asked hG3 hF3 hB3 hms)
    clear hG3 hF3 hB3 hli2 hask hzd hPr hzk hIO htw2 hm92
    cases ho:(wants nn kk st ids m).2 with
    |none=>
     have he3:(e3==0)=false:=by simpa using hno ho
     have hst3:Hid (LI w w3 pa pm nn kk F (runW nn kk (s,[0,1]) (R.take (t+1))) (.slice a5 ids.length c5) F3):=hide (by rw[hsn.out];unfold stepW;rw[ho];simpa using hli3.out)
     clear hli3 hno hyes ho
     go_wp2
     exact⟨⟨t+1,F3,by omega,by omega,by go_num,hst3⟩,by simp[intOf];omega⟩
    |some i=>
     obtain⟨rfl,rfl⟩:=hyes i ho
     have hbase:=hide (show w.heap.size≤w3.heap.size from hli3.out.but.size)
     clear hno hyes
     go_wp2_with(at_builtin;refine wpList_append_own_at _ rfl _ _ 33 rfl w.heap.size 3 i0 _ 1 8 Tryz.underlying33 hi hz0 hz1 hz2 rfl (by decide) _ _ _ rfl (hli3.out.row.alloc _) ⟨w3.heap.size,0,none⟩ 1 1 [.int .i64 x3] rfl rfl (by simpa using cell_one_new w3 (.int .i64 x3) 3) (by simp[Value.oneCell']) (by unfold maxLen;dsimp only;omega) (by dsimp only;omega) (by have:=hbase.out;simp;omega) ?_;intro v' w4 hown' hgrow hnil hat')
     have hst3:Hid (LI w w4 pa pm nn kk F (runW nn kk (s,[0,1]) (R.take (t+1))) v' F3):=hide (by rw[hsn.out];unfold stepW;rw[ho];exact hli3.out.append hown' hgrow hat' hms)
     exact⟨⟨t+1,F3,by omega,by omega,by go_num,hst3⟩,by simp[intOf];omega⟩
   ·rw[hw]
    have hask:Hid (wants nn kk st ids m=asked nn kk st (joinA 6 (ofI m.kids ids))):=hide (by unfold wants ask;rw[if_neg o_m,if_neg o_m,if_pos hw])
    go_wp2_with fail
    refine(join_ao (.inr rfl) hli2.out.ag hIO o_m hofi htw2.out).mono ?_
    clear v0 v1 v2 v3 v4 v5 v6 v7 v8
    rintro e w3 ⟨x3,e3,rfl,hno,hyes,F3,hG3,hF3,hB3⟩
    rw[←hask.out]at hno hyes hG3
    have hli3:=hide (hli2.out.asked hG3 hF3 hB3 hms)
    clear hG3 hF3 hB3 hli2 hask hzd hPr hzk hIO htw2 hm92
    cases ho:(wants nn kk st ids m).2 with
    |none=>
     have he3:(e3==0)=false:=by simpa using hno ho
     have hst3:Hid (LI w w3 pa pm nn kk F (runW nn kk (s,[0,1]) (R.take (t+1))) (.slice a5 ids.length c5) F3):=hide (by rw[hsn.out];unfold stepW;rw[ho];simpa using hli3.out)
     clear hli3 hno hyes ho
     go_wp2
     exact⟨⟨t+1,F3,by omega,by omega,by go_num,hst3⟩,by simp[intOf];omega⟩
    |some i=>
     obtain⟨rfl,rfl⟩:=hyes i ho
     have hbase:=hide (show w.heap.size≤w3.heap.size from hli3.out.but.size)
     clear hno hyes
     go_wp2_with(at_builtin;refine wpList_append_own_at _ rfl _ _ 33 rfl w.heap.size 3 i0 _ 1 8 Tryz.underlying33 hi hz0 hz1 hz2 rfl (by decide) _ _ _ rfl (hli3.out.row.alloc _) ⟨w3.heap.size,0,none⟩ 1 1 [.int .i64 x3] rfl rfl (by simpa using cell_one_new w3 (.int .i64 x3) 3) (by simp[Value.oneCell']) (by unfold maxLen;dsimp only;omega) (by dsimp only;omega) (by have:=hbase.out;simp;omega) ?_;intro v' w4 hown' hgrow hnil hat')
     have hst3:Hid (LI w w4 pa pm nn kk F (runW nn kk (s,[0,1]) (R.take (t+1))) v' F3):=hide (by rw[hsn.out];unfold stepW;rw[ho];exact hli3.out.append hown' hgrow hat' hms)
     exact⟨⟨t+1,F3,by omega,by omega,by go_num,hst3⟩,by simp[intOf];omega⟩
   ·rw[hw]
    have hask:Hid (wants nn kk st ids m=asked nn kk st (.inr ⟨7,0,[],0,pick m.v 4,[(ofI m.kids ids).headD 0]⟩)):=hide (by unfold wants ask;rw[if_neg o_m,if_neg o_m,if_neg o_m,if_pos hw])
    have hone:=ofI_ne (ks:=m.kids) (ids:=ids)
    have hpos:0<(ofI m.kids ids).length:=List.length_pos_iff.2 hone
    rcases hIO.2 with h|⟨bO,oO,rfl,hbO,hcO⟩
    ·omega
    have hx0:(ofI m.kids ids)[0]=(ofI m.kids ids).headD 0:=head_get hpos
    have cO:=(hcO 0 hpos).1
    rw[hx0,Nat.add_zero]at cO
    have hx0i:=hofi _ (List.getElem_mem hpos)
    rw[hx0]at hx0i
    have hbOn:wr.heap.size≤bO:=hnO bO oO rfl hpos
    clear hcO hx0 hone
    generalize (ofI m.kids ids).headD 0=x0 at*
    clear v0 v1 v2 v3 v4 v5 v6 v7 v8 hIO hofi
    generalize (ofI m.kids ids).length=lO at*
    have kD:=grow_drew (Below.refl w2.heap.size w2)
    go_wp2_with fail
    refine wp_region_held_drew (S:=(fun w'=>w'.cell? ⟨bR,oR+t*9,none⟩=some (.int .i64 m.kind)∧w'.cell? ⟨bR,oR+t*9+1,none⟩=some (.int .i64 m.xk)∧w'.cell? ⟨bR,oR+t*9+2,none⟩=some (.bool sd)∧w'.cell? ⟨bR,oR+t*9+3,none⟩=some (.slice ad1 ld cd)∧w'.cell? ⟨bR,oR+t*9+4,none⟩=some (.slice ap np cp)∧w'.cell? ⟨bR,oR+t*9+5,none⟩=some (.bool sk)∧w'.cell? ⟨bR,oR+t*9+6,none⟩=some (.slice ak lk ck)∧w'.cell? ⟨bR,oR+t*9+7,none⟩=some (.int .i64 m.v)∧w'.cell? ⟨bR,oR+t*9+8,none⟩=some (.slice ka kn kc)∧w'.cell? ⟨bO,oO,none⟩=some (.int .i64 x0))) k_f (m9_S (hm92.below kD) ((kD.cell (p:=⟨bO,oO,none⟩) hbO).trans cO)) (fun hHeld=> ?_)
    show wpAnyH _ _ _ _ _ 15 _ _ _
    refine tkz 0 63 ?_
    (try simp only[pz])
    refine tkz 1 64 ?_
    (try simp only[pz])
    refine tkz 2 65 ?_
    (try simp only[pz])
    refine tkz 3 66 ?_
    (try simp only[pz])
    refine tkz 4 67 ?_
    (try simp only[pz])
    refine tkz 6 69 ?_
    (try simp only[pz])
    refine tkz 7 70 ?_
    (try simp only[pz])
    refine tkz 8 71 ?_
    (try simp only[pz])
    refine ryz 5 (some 68) (fun K hK=> ?_) AllReadyH.nil
    go_simp
    have hvar:=var_n (w:=w2.drew) (ad:=ad1) (kd:=m.kind) (xk:=m.xk) (sd:=sd) (ld:=ld) (cd:=cd) (ap:=ap) (np:=np) (cp:=cp) (sk:=sk) (ak:=ak) (lk:=lk) (ck:=ck) (ka:=ka) (kn:=kn) (kc:=kc) hiv
    unfold mkv at hvar
    refine Calls.mono hvar ?_
    clear hvar
    rintro e w2b ⟨rfl,k2b⟩
    replace k2b:=grow_step k2b (grow_drew (Below.refl _ _))
    have hm92:=hm92.below k2b
    have cO:=(k2b.cell (p:=⟨bO,oO,none⟩) hbO).trans cO
    have hli2:=hide (hli2.out.below k2b)
    have htw2:=hide (htw2.out.below k2b)
    have hbR2:bR<w2b.heap.size:=World.block_lt_of_cell? w2b _ hm92.c0
    have hbO2:bO<w2b.heap.size:=World.block_lt_of_cell? w2b _ cO
    (try go_wp2_with fail)
    refine hK.out _ _ ?_ ?_
    ·(try dsimp only);exact m9_S hm92 cO
    clear hK K hHeld;intro hHeld
    (try simp only[pz])
    refine ryz 9 (some 72) (fun K hK=> ?_) AllReadyH.nil
    go_simp
    refine Calls.mono (bind_ao (kd:=7) (.inl rfl) hli2.out.ag (by have:=pick_lt m.v (n:=4) (by decide);unfold I64;omega) hx0i htw2.out) ?_
    rintro e w3 ⟨x3,e3,rfl,hno,hyes,F3,hG3,hF3,hB3⟩
    have hm93:=hm92.move (w':=w3) (hB3.block bR hbR2 hsubr)
    have cO3:=(World.cell?_of_block (a:=⟨bO,oO,none⟩) (hB3.block bO hbO2 fun hf=>by rcases hf with rfl|hf;omega;have:=hflr _ hf;omega)).trans cO
    (try go_wp2_with fail)
    refine hK.out _ _ ?_ ?_
    ·(try dsimp only);exact m9_S hm93 cO3
    clear hK K hHeld;intro hHeld
    (try simp only[pz])
    refine ryz 10 (some 62) (fun K hK=> ?_) AllReadyH.nil
    go_simp
    refine hK.out _ _ ?_ ?_
    ·(try dsimp only);exact m9_S hm93 cO3
    clear hK K hHeld;intro hHeld
    (try simp only[pz])
    refine tkz 11 73 ?_
    (try simp only[pz])
    refine tkz 12 74 ?_
    (try simp only[pz])
    refine ryz 13 (some 8) (fun K hK=> ?_) AllReadyH.nil
    go_simp
    refine hK.out _ _ ?_ ?_
    ·(try dsimp only);exact m9_S hm93 cO3
    clear hK K hHeld;intro hHeld
    (try simp only[pz])
    refine ryz 14 (some 9) (fun K hK=> ?_) AllReadyH.nil
    go_simp
    refine hK.out _ _ ?_ ?_
    ·(try dsimp only);exact m9_S hm93 cO3
    clear hK K hHeld;intro hHeld
    (try simp only[pz])
    refine wpAnyH_done k_f ?_ _
    rw[←hask.out]at hno hyes hG3
    have hli3:=hide (hli2.out.asked hG3 hF3 hB3 hms)
    clear hG3 hF3 hB3 hli2 hask hzd hPr hzk htw2 hm92 hm93 cO cO3 hHeld
    cases ho:(wants nn kk st ids m).2 with
    |none=>
     have he3:(e3==0)=false:=by simpa using hno ho
     have hst3:Hid (LI w w3 pa pm nn kk F (runW nn kk (s,[0,1]) (R.take (t+1))) (.slice a5 ids.length c5) F3):=hide (by rw[hsn.out];unfold stepW;rw[ho];simpa using hli3.out)
     clear hli3 hno hyes ho
     go_wp2
     exact⟨⟨t+1,F3,by omega,by omega,by go_num,hst3⟩,by simp[intOf];omega⟩
    |some i=>
     obtain⟨rfl,rfl⟩:=hyes i ho
     have hbase:=hide (show w.heap.size≤w3.heap.size from hli3.out.but.size)
     clear hno hyes
     go_wp2_with(at_builtin;refine wpList_append_own_at _ rfl _ _ 33 rfl w.heap.size 3 i0 _ 1 8 Tryz.underlying33 hi hz0 hz1 hz2 rfl (by decide) _ _ _ rfl (hli3.out.row.alloc _) ⟨w3.heap.size,0,none⟩ 1 1 [.int .i64 x3] rfl rfl (by simpa using cell_one_new w3 (.int .i64 x3) 3) (by simp[Value.oneCell']) (by unfold maxLen;dsimp only;omega) (by dsimp only;omega) (by have:=hbase.out;simp;omega) ?_;intro v' w4 hown' hgrow hnil hat')
     have hst3:Hid (LI w w4 pa pm nn kk F (runW nn kk (s,[0,1]) (R.take (t+1))) v' F3):=hide (by rw[hsn.out];unfold stepW;rw[ho];exact hli3.out.append hown' hgrow hat' hms)
     exact⟨⟨t+1,F3,by omega,by omega,by go_num,hst3⟩,by simp[intOf];omega⟩
   rw[hw]
   have hask:Hid (wants nn kk st ids m=asked nn kk st (.inr ⟨8,0,[],0,pick m.v 4,[(ofI m.kids ids).headD 0]⟩)):=hide (by unfold wants ask;rw[if_neg o_m,if_neg o_m,if_neg o_m,if_neg o_m])
   have hone:=ofI_ne (ks:=m.kids) (ids:=ids)
   have hpos:0<(ofI m.kids ids).length:=List.length_pos_iff.2 hone
   rcases hIO.2 with h|⟨bO,oO,rfl,hbO,hcO⟩
   ·omega
   have hx0:(ofI m.kids ids)[0]=(ofI m.kids ids).headD 0:=head_get hpos
   have cO:=(hcO 0 hpos).1
   rw[hx0,Nat.add_zero]at cO
   have hx0i:=hofi _ (List.getElem_mem hpos)
   rw[hx0]at hx0i
   have hbOn:wr.heap.size≤bO:=hnO bO oO rfl hpos
   clear hcO hx0 hone
   generalize (ofI m.kids ids).headD 0=x0 at*
   clear v0 v1 v2 v3 v4 v5 v6 v7 v8 hIO hofi
   generalize (ofI m.kids ids).length=lO at*
   have kD:=grow_drew (Below.refl w2.heap.size w2)
   go_wp2_with fail
   refine wp_region_held_drew (S:=(fun w'=>w'.cell? ⟨bR,oR+t*9,none⟩=some (.int .i64 m.kind)∧w'.cell? ⟨bR,oR+t*9+1,none⟩=some (.int .i64 m.xk)∧w'.cell? ⟨bR,oR+t*9+2,none⟩=some (.bool sd)∧w'.cell? ⟨bR,oR+t*9+3,none⟩=some (.slice ad1 ld cd)∧w'.cell? ⟨bR,oR+t*9+4,none⟩=some (.slice ap np cp)∧w'.cell? ⟨bR,oR+t*9+5,none⟩=some (.bool sk)∧w'.cell? ⟨bR,oR+t*9+6,none⟩=some (.slice ak lk ck)∧w'.cell? ⟨bR,oR+t*9+7,none⟩=some (.int .i64 m.v)∧w'.cell? ⟨bR,oR+t*9+8,none⟩=some (.slice ka kn kc)∧w'.cell? ⟨bO,oO,none⟩=some (.int .i64 x0))) k_f (m9_S (hm92.below kD) ((kD.cell (p:=⟨bO,oO,none⟩) hbO).trans cO)) (fun hHeld=> ?_)
   show wpAnyH _ _ _ _ _ 15 _ _ _
   refine tkz 0 78 ?_
   (try simp only[pz])
   refine tkz 1 79 ?_
   (try simp only[pz])
   refine tkz 2 80 ?_
   (try simp only[pz])
   refine tkz 3 81 ?_
   (try simp only[pz])
   refine tkz 4 82 ?_
   (try simp only[pz])
   refine tkz 6 84 ?_
   (try simp only[pz])
   refine tkz 7 85 ?_
   (try simp only[pz])
   refine tkz 8 86 ?_
   (try simp only[pz])
   refine ryz 5 (some 83) (fun K hK=> ?_) AllReadyH.nil
   go_simp
   have hvar:=var_n (w:=w2.drew) (ad:=ad1) (kd:=m.kind) (xk:=m.xk) (sd:=sd) (ld:=ld) (cd:=cd) (ap:=ap) (np:=np) (cp:=cp) (sk:=sk) (ak:=ak) (lk:=lk) (ck:=ck) (ka:=ka) (kn:=kn) (kc:=kc) hiv
   unfold mkv at hvar
   refine Calls.mono hvar ?_
   clear hvar
   rintro e w2b ⟨rfl,k2b⟩
   replace k2b:=grow_step k2b (grow_drew (Below.refl _ _))
   have hm92:=hm92.below k2b
   have cO:=(k2b.cell (p:=⟨bO,oO,none⟩) hbO).trans cO
   have hli2:=hide (hli2.out.below k2b)
   have htw2:=hide (htw2.out.below k2b)
   have hbR2:bR<w2b.heap.size:=World.block_lt_of_cell? w2b _ hm92.c0
   have hbO2:bO<w2b.heap.size:=World.block_lt_of_cell? w2b _ cO
   (try go_wp2_with fail)
   refine hK.out _ _ ?_ ?_
   ·(try dsimp only);exact m9_S hm92 cO
   clear hK K hHeld;intro hHeld
   (try simp only[pz])
   refine ryz 9 (some 87) (fun K hK=> ?_) AllReadyH.nil
   go_simp
   refine Calls.mono (bind_ao (kd:=8) (.inr rfl) hli2.out.ag (by have:=pick_lt m.v (n:=4) (by decide);unfold I64;omega) hx0i htw2.out) ?_
   rintro e w3 ⟨x3,e3,rfl,hno,hyes,F3,hG3,hF3,hB3⟩
   have hm93:=hm92.move (w':=w3) (hB3.block bR hbR2 hsubr)
   have cO3:=(World.cell?_of_block (a:=⟨bO,oO,none⟩) (hB3.block bO hbO2 fun hf=>by rcases hf with rfl|hf;omega;have:=hflr _ hf;omega)).trans cO
   (try go_wp2_with fail)
   refine hK.out _ _ ?_ ?_
   ·(try dsimp only);exact m9_S hm93 cO3
   clear hK K hHeld;intro hHeld
   (try simp only[pz])
   refine ryz 10 (some 77) (fun K hK=> ?_) AllReadyH.nil
   go_simp
   refine hK.out _ _ ?_ ?_
   ·(try dsimp only);exact m9_S hm93 cO3
   clear hK K hHeld;intro hHeld
   (try simp only[pz])
   refine tkz 11 88 ?_
   (try simp only[pz])
   refine tkz 12 89 ?_
   (try simp only[pz])
   refine ryz 13 (some 8) (fun K hK=> ?_) AllReadyH.nil
   go_simp
   refine hK.out _ _ ?_ ?_
   ·(try dsimp only);exact m9_S hm93 cO3
   clear hK K hHeld;intro hHeld
   (try simp only[pz])
   refine ryz 14 (some 9) (fun K hK=> ?_) AllReadyH.nil
   go_simp
   refine hK.out _ _ ?_ ?_
   ·(try dsimp only);exact m9_S hm93 cO3
   clear hK K hHeld;intro hHeld
   (try simp only[pz])
   refine wpAnyH_done k_f ?_ _
   rw[←hask.out]at hno hyes hG3
   have hli3:=hide (hli2.out.asked hG3 hF3 hB3 hms)
   clear hG3 hF3 hB3 hli2 hask hzd hPr hzk htw2 hm92 hm93 cO cO3 hHeld
   cases ho:(wants nn kk st ids m).2 with
   |none=>
    have he3:(e3==0)=false:=by simpa using hno ho
    have hst3:Hid (LI w w3 pa pm nn kk F (runW nn kk (s,[0,1]) (R.take (t+1))) (.slice a5 ids.length c5) F3):=hide (by rw[hsn.out];unfold stepW;rw[ho];simpa using hli3.out)
    clear hli3 hno hyes ho
    go_wp2
    exact⟨⟨t+1,F3,by omega,by omega,by go_num,hst3⟩,by simp[intOf];omega⟩
   |some i=>
    obtain⟨rfl,rfl⟩:=hyes i ho
    have hbase:=hide (show w.heap.size≤w3.heap.size from hli3.out.but.size)
    clear hno hyes
    go_wp2_with(at_builtin;refine wpList_append_own_at _ rfl _ _ 33 rfl w.heap.size 3 i0 _ 1 8 Tryz.underlying33 hi hz0 hz1 hz2 rfl (by decide) _ _ _ rfl (hli3.out.row.alloc _) ⟨w3.heap.size,0,none⟩ 1 1 [.int .i64 x3] rfl rfl (by simpa using cell_one_new w3 (.int .i64 x3) 3) (by simp[Value.oneCell']) (by unfold maxLen;dsimp only;omega) (by dsimp only;omega) (by have:=hbase.out;simp;omega) ?_;intro v' w4 hown' hgrow hnil hat')
    have hst3:Hid (LI w w4 pa pm nn kk F (runW nn kk (s,[0,1]) (R.take (t+1))) v' F3):=hide (by rw[hsn.out];unfold stepW;rw[ho];exact hli3.out.append hown' hgrow hat' hms)
    exact⟨⟨t+1,F3,by omega,by omega,by go_num,hst3⟩,by simp[intOf];omega⟩
  have htk:R.take t=R.take 40:=by
   by_cases h5:t=40
   ·rw[h5]
   rw[List.take_of_length_le o_m,List.take_of_length_le o_m]
  rw[htk]at hli hx64
  have hfin:=hide (hli.out.bt hx64)
  clear hli hx64
  go_wp2
  all_goals
   go_ret
   exact hfin.out

theorem built_n {w0 w:World}{pa pm:Nat}{nn kk:Int}{s:St}{F:Nat→Prop}{ad:Option Addr}{n c:Nat}{R:List Mk}{B:Nat}
  (hG:AG w pa pm nn kk s F)(hF: ∀b,F b→w0.heap.size≤b)(hpm:w0.heap.size≤pm)(h2:2≤s.L.length)(hR:ML w0 ad n R B)(hn:n≤1048576)(hB:B≤1048576)(k0:Below w0.heap.size w0 w)(htab:Tab w0):
  Calls Tryz.prog 7 #[.pointer (some ⟨pa,0,none⟩),.slice ad n c] w fun e w'=>BT w w' e pa pm nn kk F (runW nn kk (s,[0,1]) (R.take 40)):=by
 have key: ∀w',ButF (fun b=>b=pm∨F b) w w'→Below w0.heap.size w0 w':=fun w' h=>k0.trans (h.below (fun b hb=>hb.elim (fun e=>by omega) (hF b)) k0.size)
 refine built_g hG h2 (fun w' h=>hR.below (key w' h)) (fun b off e h0=> ?_) hR.1 hn hB fun w' h=>htab.below (key w' h)
 rcases hR.2 with h9|⟨b1,o1,e1,h1,_⟩
 ·omega
 rw[e1]at e
 cases e
 have:=k0.size
 exact⟨fun hf=>by have:=hF _ hf;omega,by omega,by omega⟩
end S12
end Nt
end Go.Proofs.YtbgpddlcfiiiaaaGreatDoor
