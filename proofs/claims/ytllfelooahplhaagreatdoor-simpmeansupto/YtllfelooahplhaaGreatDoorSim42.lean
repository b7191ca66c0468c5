/-
 Several texts in one: JL,JM,JN.
-/
import Derived.Test.YtllfelooahplhaaGreatDoorSim41
namespace Go.Proofs.YtllfelooahplhaaGreatDoor
open Tm At
namespace Nt

def atmN (n:Nd):Atm:=⟨n.kind,n.d,n.ps,n.k⟩
def Tv (L:List Nd)(f:Int→Int):Nat→Int→Prop
 |0,_=>False
 |m+1,i=>((ndI L i).kind=5∧∀z∈(ndI L i).kids,Tv L f m z)∨((ndI L i).kind=6∧∃z∈(ndI L i).kids,Tv L f m z)∨((ndI L i).kind≠5∧(ndI L i).kind≠6∧Sat (atmN (ndI L i)) f)
theorem tv_fuel {L:List Nd}(hw:Wk L)(f:Int→Int): ∀(m:Nat) (i:Int) (q:Nat),okI L i→i<(m:Int)→i<(q:Int)→(Tv L f m i↔Tv L f q i)
 |0,i,q,ho,hm,hq=>by have:=ho.1;omega
 |m+1,i,0,ho,hm,hq=>by have:=ho.1;omega
 |m+1,i,q+1,ho,hm,hq=>by
  have ih: ∀z∈(ndI L i).kids,(Tv L f m z↔Tv L f q z):=fun z hz=>tv_fuel hw f m z q (hw.ok ho hz) (by have:=hw i ho z hz;omega) (by have:=hw i ho z hz;omega)
  simp only[Tv]
  constructor
  ·rintro(⟨h1,h2⟩|⟨h1,z,hz,h2⟩|h)
   ·exact .inl ⟨h1,fun z hz=>(ih z hz).1 (h2 z hz)⟩
   ·exact .inr (.inl ⟨h1,z,hz,(ih z hz).1 h2⟩)
   exact .inr (.inr h)
  rintro(⟨h1,h2⟩|⟨h1,z,hz,h2⟩|h)
  ·exact .inl ⟨h1,fun z hz=>(ih z hz).2 (h2 z hz)⟩
  ·exact .inr (.inl ⟨h1,z,hz,(ih z hz).2 h2⟩)
  exact .inr (.inr h)
def tv (L:List Nd)(f:Int→Int)(i:Int):Prop:=Tv L f (i.toNat+1) i
theorem tv_any {L:List Nd}(hw:Wk L)(f:Int→Int){i:Int}(ho:okI L i){m:Nat}(hm:i<(m:Int)):Tv L f m i↔tv L f i:=
 tv_fuel hw f m i _ ho hm (by have:=ho.1;omega)
theorem tv_and {L:List Nd}(hw:Wk L){f:Int→Int}{i:Int}(ho:okI L i)(hk:(ndI L i).kind=5):tv L f i↔ ∀z∈(ndI L i).kids,tv L f z:=by
 have e: ∀z∈(ndI L i).kids,(Tv L f i.toNat z↔tv L f z):=fun z hz=>tv_any hw f (hw.ok ho hz) (by have:=hw i ho z hz;omega)
 unfold tv
 simp only[Tv]
 rw[hk]
 constructor
 ·rintro(⟨_,h2⟩|⟨h1,_⟩|⟨h1,_⟩)
  ·exact fun z hz=>(e z hz).1 (h2 z hz)
  ·omega
  exact absurd rfl h1
 exact fun h=> .inl ⟨rfl,fun z hz=>(e z hz).2 (h z hz)⟩
theorem tv_or {L:List Nd}(hw:Wk L){f:Int→Int}{i:Int}(ho:okI L i)(hk:(ndI L i).kind=6):tv L f i↔ ∃z∈(ndI L i).kids,tv L f z:=by
 have e: ∀z∈(ndI L i).kids,(Tv L f i.toNat z↔tv L f z):=fun z hz=>tv_any hw f (hw.ok ho hz) (by have:=hw i ho z hz;omega)
 unfold tv
 simp only[Tv]
 rw[hk]
 constructor
 ·rintro(⟨h1,_⟩|⟨_,z,hz,h2⟩|⟨_,h1,_⟩)
  ·omega
  ·exact⟨z,hz,(e z hz).1 h2⟩
  exact absurd rfl h1
 exact fun⟨z,hz,h⟩=> .inr (.inl ⟨rfl,z,hz,(e z hz).2 h⟩)
theorem tv_atm {L:List Nd}{f:Int→Int}{i:Int}(h5:(ndI L i).kind≠5)(h6:(ndI L i).kind≠6):tv L f i↔Sat (atmN (ndI L i)) f:=by
 unfold tv
 simp only[Tv]
 exact⟨fun h=>h.elim (fun h=>absurd h.1 h5) fun h=>h.elim (fun h=>absurd h.1 h6) fun h=>h.2.2,fun h=> .inr (.inr ⟨h5,h6,h⟩)⟩
theorem tv_app {L t:List Nd}(hw:Wk L)(hw2:Wk (L++t)){f:Int→Int}: ∀(m:Nat) {i:Int},i<(m:Int)→okI L i→(tv (L++t) f i↔tv L f i)
 |0,i,hm,ho=>by have:=ho.1;omega
 |m+1,i,hm,ho=>by
  have e:=ndI_app (t:=t) ho
  have ho2:=okI_app (t:=t) ho
  have ih: ∀z∈(ndI L i).kids,(tv (L++t) f z↔tv L f z):=fun z hz=>tv_app hw hw2 m (by have:=hw i ho z hz;omega) (hw.ok ho hz)
  by_cases h5:(ndI L i).kind=5
  ·rw[tv_and hw ho h5,tv_and hw2 ho2 (by rw[e];exact h5),e]
   exact⟨fun h z hz=>(ih z hz).1 (h z hz),fun h z hz=>(ih z hz).2 (h z hz)⟩
  by_cases h6:(ndI L i).kind=6
  ·rw[tv_or hw ho h6,tv_or hw2 ho2 (by rw[e];exact h6),e]
   exact⟨fun⟨z,hz,h⟩=>⟨z,hz,(ih z hz).1 h⟩,fun⟨z,hz,h⟩=>⟨z,hz,(ih z hz).2 h⟩⟩
  rw[tv_atm h5 h6,tv_atm (by rw[e];exact h5) (by rw[e];exact h6),e]
theorem tv_le {L L':List Nd}(hw:Wk L)(hw2:Wk L')(hl: ∃t,L'=L++t){f:Int→Int}{i:Int}(ho:okI L i):tv L' f i↔tv L f i:=by
 obtain⟨t,rfl⟩:=hl
 exact tv_app hw hw2 (i.toNat+1) (by have:=ho.1;omega) ho

structure Tl (L:List Nd) (kd dual idle rul sg:Int) (T:Int→Prop):Prop where
 all: ∀i,okI L i→(ndI L i).kind=kd→(T i↔ ∀z∈(ndI L i).kids,T z)
 one: ∀i,okI L i→(ndI L i).kind=dual→(T i↔ ∃z∈(ndI L i).kids,T z)
 idle:T idle
 rul: ¬T rul
 less: ∀x y,okI L x→okI L y→(ndI L x).kind=2→(ndI L y).kind=2→(ndI L y).ps=(ndI L x).ps→sg*(ndI L x).k≤sg*(ndI L y).k→T x→T y
 clash: ∀x y,okI L x→okI L y→(ndI L x).kind=2→(ndI L y).kind=2→(ndI L y).ps=negP (ndI L x).ps→sg*((ndI L x).k+(ndI L y).k)≤sg→T x→T y→False
 opp: ∀x y,okI L x→okI L y→(ndI L x).kind=3→(ndI L y).kind=4→(ndI L x).d=(ndI L y).d→(ndI L x).ps=(ndI L y).ps→(ndI L x).k=(ndI L y).k→T x→T y→False
theorem negP_scl (ps:List (Int × Int)):negP ps=scl (-1) ps:=by
 unfold negP scl
 congr 1
 funext p
 rw[Int.neg_one_mul]
theorem sat2 {n:Nd}{f:Int→Int}(h:n.kind=2):Sat (atmN n) f↔0<n.k+ev n.ps f:=by
 unfold Sat atmN
 dsimp only
 rw[h]
 simp
theorem sat3 {n:Nd}{f:Int→Int}(h:n.kind=3):Sat (atmN n) f↔n.d∣n.k+ev n.ps f:=by
 unfold Sat atmN
 dsimp only
 rw[h]
 simp
theorem sat4 {n:Nd}{f:Int→Int}(h:n.kind=4):Sat (atmN n) f↔ ¬n.d∣n.k+ev n.ps f:=by
 unfold Sat atmN
 dsimp only
 rw[h]
 simp
theorem tv2 {L:List Nd}{f:Int→Int}{x:Int}(h:(ndI L x).kind=2):tv L f x↔0<(ndI L x).k+ev (ndI L x).ps f:=(tv_atm o_m o_m).trans (sat2 h)
theorem tv3 {L:List Nd}{f:Int→Int}{x:Int}(h:(ndI L x).kind=3):tv L f x↔(ndI L x).d∣(ndI L x).k+ev (ndI L x).ps f:=(tv_atm o_m o_m).trans (sat3 h)
theorem tv4 {L:List Nd}{f:Int→Int}{x:Int}(h:(ndI L x).kind=4):tv L f x↔ ¬(ndI L x).d∣(ndI L x).k+ev (ndI L x).ps f:=(tv_atm o_m o_m).trans (sat4 h)
theorem tv_0 {kk:Int}{L:List Nd}(h:Gv kk L)(f:Int→Int): ¬tv L f 0:=by
 rw[tv_atm (by rw[h.n0];simp[cst]) (by rw[h.n0];simp[cst]),h.n0]
 simp[Sat,atmN,cst]
theorem tv_1 {kk:Int}{L:List Nd}(h:Gv kk L)(f:Int→Int):tv L f 1:=by
 rw[tv_atm (by rw[h.n1];simp[cst]) (by rw[h.n1];simp[cst]),h.n1]
 simp[Sat,atmN,cst]
theorem tl_and {kk:Int}{L:List Nd}(h:Gv kk L)(f:Int→Int):Tl L 5 6 1 0 1 (tv L f) where
 all i ho hk:=tv_and h.wk ho hk
 one i ho hk:=tv_or h.wk ho hk
 idle:=tv_1 h f
 rul:=tv_0 h f
 less x y _ _ h1 h2 e h3:=by
  rw[tv2 h1,tv2 h2,e]
  omega
 clash x y _ _ h1 h2 e h3:=by
  rw[tv2 h1,tv2 h2,e,negP_scl,ev_scl]
  omega
 opp x y _ _ h1 h2 e1 e2 e3:=by
  rw[tv3 h1,tv4 h2,e1,e2,e3]
  exact fun a b=>b a
theorem tl_or {kk:Int}{L:List Nd}(h:Gv kk L)(f:Int→Int):Tl L 6 5 0 1 (-1) (fun i=> ¬tv L f i) where
 all i ho hk:=by
  rw[tv_or h.wk ho hk]
  exact⟨fun h z hz k=>h ⟨z,hz,k⟩,fun h ⟨z,hz,k⟩=>h z hz k⟩
 one i ho hk:=by
  rw[tv_and h.wk ho hk]
  exact⟨fun h=>Classical.byContradiction fun k=>h fun z hz=>Classical.byContradiction fun e=>k ⟨z,hz,e⟩,fun⟨z,hz,k⟩ h=>k (h z hz)⟩
 idle:=tv_0 h f
 rul:=fun k=>k (tv_1 h f)
 less x y _ _ h1 h2 e h3:=by
  rw[tv2 h1,tv2 h2,e]
  omega
 clash x y _ _ h1 h2 e h3:=by
  rw[tv2 h1,tv2 h2,e,negP_scl,ev_scl]
  omega
 opp x y _ _ h1 h2 e1 e2 e3:=by
  rw[tv3 h1,tv4 h2,e1,e2,e3]
  exact fun a b=>b a
theorem Tl.reach {L:List Nd}{kd dual idle rul sg:Int}{T:Int→Prop}(h:Tl L kd dual idle rul sg T){ids:List Int}(hi: ∀x∈ids,T x){x:Int}(hx:Rk L kd ids x):T x:=
 hx T hi fun y z hy ho hk hz=>(h.all y ho hk).1 hy z hz
theorem Tl.back {L:List Nd}(hw:Wk L){kd dual idle rul sg:Int}{T:Int→Prop}(h:Tl L kd dual idle rul sg T){ids:List Int}(ho: ∀x∈ids,okI L x)(hm: ∀x,Mem L kd idle ids x→T x): ∀x∈ids,T x:=by
 have key: ∀(m:Nat) (x:Int),x<(m:Int)→okI L x→Rk L kd ids x→T x:=by
  intro m
  induction m with
  |zero=>intro x hx h0;have:=h0.1;omega
  |succ m ih=>
   intro x hx h0 hr
   by_cases hk:(ndI L x).kind=kd
   ·rw[h.all x h0 hk]
    exact fun z hz=>ih z (by have:=hw x h0 z hz;omega) (hw.ok h0 hz) (rk_kid hr h0 hk hz)
   by_cases hi:x=idle
   ·rw[hi];exact h.idle
   exact hm x ⟨hr,h0,hk,hi⟩
 exact fun x hx=>key (x.toNat+1) x (by have:=(ho x hx).1;omega) (ho x hx) (rk_id hx)
theorem stay_some {L:List Nd}(sg:Int)(M:Int→Prop)(N:Nat)(hM: ∀x,M x→0≤x∧x<(N:Int)): ∀x,M x→(ndI L x).kind=2→∃y,Stay L sg M y∧(ndI L y).ps=(ndI L x).ps∧sg*(ndI L y).k≤sg*(ndI L x).k:=by
 intro x hx hk
 have key: ∀m:Nat,(∃y,M y∧(ndI L y).kind=2∧(ndI L y).ps=(ndI L x).ps∧sg*(ndI L y).k≤sg*(ndI L x).k∧∀z,M z→(ndI L z).kind=2→(ndI L z).ps=(ndI L x).ps→z<(m:Int)→¬sg*(ndI L z).k<sg*(ndI L y).k):=by
  intro m
  induction m with
  |zero=>exact⟨x,hx,hk,rfl,Int.le_refl _,fun z hz _ _ h=>by have:=hM z hz;omega⟩
  |succ m ih=>
   obtain⟨y,h1,h2,h3,h4,h5⟩:=ih
   by_cases hz:M (m:Int)∧(ndI L (m:Int)).kind=2∧(ndI L (m:Int)).ps=(ndI L x).ps∧sg*(ndI L (m:Int)).k<sg*(ndI L y).k
   ·refine⟨m,hz.1,hz.2.1,hz.2.2.1,by omega,fun z k1 k2 k3 k4=> ?_⟩
    by_cases e:z=(m:Int)
    ·rw[e];omega
    have:=h5 z k1 k2 k3 o_m
    omega
   refine⟨y,h1,h2,h3,h4,fun z k1 k2 k3 k4=> ?_⟩
   by_cases e:z=(m:Int)
   ·subst e
    exact fun h=>hz ⟨k1,k2,k3,h⟩
   exact h5 z k1 k2 k3 o_m
 obtain⟨y,h1,h2,h3,h4,h5⟩:=key N
 exact⟨y,⟨h1,h2,fun z k1 k2 k3=>h5 z k1 k2 (k3.trans h3) (hM z k1).2⟩,h3,h4⟩
theorem Tl.need {L:List Nd}{kd dual idle rul sg:Int}{T:Int→Prop}(h:Tl L kd dual idle rul sg T){ids:List Int}(hw:Wk L)(hn: ∀x,Need L sg dual (Mem L kd idle ids) x→T x): ∀x,Mem L kd idle ids x→T x:=by
 have hk: ∀(m:Nat) (x:Int),x<(m:Int)→Keep L sg (Mem L kd idle ids) x→T x:=by
  intro m
  induction m with
  |zero=>intro x hx hk;have:=hk.1.2.1.1;omega
  |succ m ih=>
   intro x hx hk
   by_cases e:(ndI L x).kind=dual∧∃z∈(ndI L x).kids,Keep L sg (Mem L kd idle ids) z
   ·obtain⟨e1,z,hz,hkz⟩:=e
    have:=hw x hk.1.2.1 z hz
    exact(h.one x hk.1.2.1 e1).2 ⟨z,hz,ih z o_m hkz⟩
   exact hn x ⟨hk,e⟩
 intro x hx
 by_cases h2:(ndI L x).kind=2
 ·obtain⟨y,h3,h4,h5⟩:=stay_some (L:=L) sg (Mem L kd idle ids) L.length (fun z hz=>hz.2.1) x hx h2
  exact h.less y x h3.1.2.1 hx.2.1 h3.2.1 h2 h4.symm h5 (hk (y.toNat+1) y (by have:=h3.1.2.1.1;omega) ⟨h3.1,fun _=>h3⟩)
 exact hk (x.toNat+1) x (by have:=hx.2.1.1;omega) ⟨hx,fun e=>absurd e h2⟩
theorem actJ_T {nn kk:Int}{s:St}{kd idle:Int}{l:List Int}{T':Int→Prop}(hkd:(kd=5∧idle=1)∨(kd=6∧idle=0))(hg:Gv kk s.L)(hl: ∀x∈l,okI s.L x)(he:(actJ nn kk s kd l).2.2=0)
  (h1: ∀i,okI (actJ nn kk s kd l).1.L i→(ndI (actJ nn kk s kd l).1.L i).kind=kd→(T' i↔ ∀z∈(ndI (actJ nn kk s kd l).1.L i).kids,T' z))(h2:T' idle):T' (actJ nn kk s kd l).2.1↔ ∀x∈l,T' x:=by
 have ha:l.any (lck s.L.length)=false:=by
  rw[List.any_eq_false]
  intro x hx
  rw[okI_lck.2 (hl x hx)]
  simp
 have hm:=mem_ris l
 have hkp:=kp_join (nn:=nn) (kd:=kd) (l:=l) hg o_m hl
 unfold actJ at he h1 hkp ⊢
 rw[if_neg o_m,ha,if_neg (by simp)]at he h1 hkp ⊢
 split at he
 ·rename_i e
  rw[e]at hm h1 hkp
  simp only
  have hl0: ∀x∈l,T' x:=fun x hx=>absurd ((hm x).2 hx) (by simp)
  rcases hkd with⟨e1,e2⟩|⟨e1,e2⟩
  ·rw[if_pos e1,←e2]
   exact⟨fun _=>hl0,fun _=>h2⟩
  rw[if_neg o_m,←e2]
  exact⟨fun _=>hl0,fun _=>h2⟩
 ·rename_i x e
  rw[e]at hm
  simp only
  exact⟨fun h y hy=>by have:=(hm y).2 hy;rw[List.mem_singleton]at this;rw[this];exact h,fun h=>h x ((hm x).1 (by simp))⟩
 rename_i x y t e
 rw[e]at hm h1 hkp
 simp only at h1 hkp ⊢
 have hok:=hkp.ok he
 have hnd:ndI (putE nn kk s ⟨kd,0,[],0,0,x::y::t⟩).1.L (putE nn kk s ⟨kd,0,[],0,0,x::y::t⟩).2.1=⟨kd,0,[],0,0,x::y::t⟩:=by
  rcases putE_cases nn kk s ⟨kd,0,[],0,0,x::y::t⟩with⟨i,g1,e⟩|⟨_,er,g1,e,_⟩|⟨_,_,_,e⟩
  ·rw[e]
   simp only
   show(s.L[((i:Int)).toNat]?).getD _=_
   rw[Int.toNat_natCast,g1]
   rfl
  ·rw[e]at he
   exact absurd he g1
  rw[e]
  simp only
  show((s.L++ [_])[((s.L.length:Int)).toNat]?).getD _=_
  rw[Int.toNat_natCast]
  simp
 rw[h1 _ hok (by rw[hnd]),hnd]
 exact⟨fun h z hz=>h z ((hm z).2 hz),fun h z hz=>h z ((hm z).1 hz)⟩
theorem SimpR.says {nn kk:Int}{s:St}{kd dual idle rul sg:Int}{ids:List Int}{r:St × Int × Int}(h:SimpR nn kk s kd dual idle rul sg ids r)(hkd:(kd=5∧dual=6∧idle=1)∨(kd=6∧dual=5∧idle=0))(hg:Gv kk s.L)(he:r.2.2=0)
  {T T':Int→Prop}(hT:Tl s.L kd dual idle rul sg T)(hT':Tl r.1.L kd dual idle rul sg T')(hs: ∀i,okI s.L i→(T' i↔T i)):T' r.2.1↔ ∀x∈ids,T x:=by
 rcases h with⟨_,rfl⟩|⟨ho,⟨h1,rfl⟩|⟨h1,l,hl,rfl⟩⟩
 ·cases he
 ·refine⟨fun h=>absurd h hT'.rul,fun hx=> ?_⟩
  exfalso
  rcases h1 with h1|⟨x,y,h2,h3,h4,h5⟩|⟨x,y,h2,h3,h4,h5,h6,h7,h8⟩
  ·exact hT.rul (hT.reach hx h1.1)
  ·exact hT.clash x y h2.1.2.1 h3.1.2.1 h2.2.1 h3.2.1 h4 h5 (hT.reach hx h2.1.1) (hT.reach hx h3.1.1)
  exact hT.opp x y h2.2.1 h3.2.1 h4 h5 h6 h7 h8 (hT.reach hx h2.1) (hT.reach hx h3.1)
 have hlo: ∀x∈l,okI s.L x:=fun x hx=>((hl x).1 hx).1.1.2.1
 rw[actJ_T (idle:=idle) o_m hg hlo he hT'.all hT'.idle]
 constructor
 ·intro h
  exact hT.back hg.wk ho (hT.need hg.wk fun x hx=>(hs x hx.1.1.2.1).1 (h x ((hl x).2 hx)))
 intro h x hx
 exact(hs x (hlo x hx)).2 (hT.reach h ((hl x).1 hx).1.1.1)
theorem SimpR.kp {nn kk:Int}{s:St}{kd dual idle rul sg:Int}{ids:List Int}{r:St × Int × Int}(h:SimpR nn kk s kd dual idle rul sg ids r)(hkd:kd=5∨kd=6)(hr:rul=0∨rul=1)(hg:Gv kk s.L):Kp kk s r:=by
 rcases h with⟨_,rfl⟩|⟨ho,⟨h1,rfl⟩|⟨h1,l,hl,rfl⟩⟩
 ·exact kp_now hg fun e=>by cases e
 ·exact kp_now hg fun _=>by rcases hr with rfl|rfl;exact hg.ok0;exact hg.ok1
 exact kp_join hg hkd fun x hx=>((hl x).1 hx).1.1.2.1
theorem and_tv {nn kk:Int}{s:St}{ids:List Int}{r:St × Int × Int}(h:SimpR nn kk s 5 6 1 0 1 ids r)(hg:Gv kk s.L)(he:r.2.2=0)(f:Int→Int):tv r.1.L f r.2.1↔ ∀x∈ids,tv s.L f x:=by
 have hk:=h.kp (.inl rfl) (.inl rfl) hg
 exact h.says (.inl ⟨rfl,rfl,rfl⟩) hg he (tl_and hg f) (tl_and hk.gv f) fun i hi=>tv_le hg.wk hk.gv.wk hk.le hi
theorem or_tv {nn kk:Int}{s:St}{ids:List Int}{r:St × Int × Int}(h:SimpR nn kk s 6 5 0 1 (-1) ids r)(hg:Gv kk s.L)(he:r.2.2=0)(f:Int→Int):tv r.1.L f r.2.1↔ ∃x∈ids,tv s.L f x:=by
 have hk:=h.kp (.inr rfl) (.inr rfl) hg
 have h1:=h.says (.inr ⟨rfl,rfl,rfl⟩) hg he (tl_or hg f) (tl_or hk.gv f) fun i hi=>not_congr (tv_le hg.wk hk.gv.wk hk.le hi)
 constructor
 ·intro h2
  refine Classical.byContradiction fun h3=>h1.2 (fun x hx h4=>h3 ⟨x,hx,h4⟩) h2
 rintro⟨x,hx,h2⟩
 exact Classical.byContradiction fun h3=>h1.1 h3 x hx h2
end Nt
namespace Nt

def Dn (L:List Nd)(i y:Int):Prop:=∀Q:Int→Prop,Q i→(∀a b,Q a→okI L a→b∈(ndI L a).kids→Q b)→Q y
theorem dn_self (L:List Nd)(i:Int):Dn L i i:=fun _ h _=>h
theorem dn_kid {L:List Nd}{i a b:Int}(h:Dn L i a)(ho:okI L a)(hb:b∈(ndI L a).kids):Dn L i b:=fun Q h1 h2=>h2 a b (h Q h1 h2) ho hb
theorem dn_up {L:List Nd}{i a b:Int}(ho:okI L i)(ha:a∈(ndI L i).kids)(h:Dn L a b):Dn L i b:=fun Q h1 h2=>h Q (h2 i a h1 ho ha) h2
theorem dn_ok {L:List Nd}(hw:Wk L){i y:Int}(ho:okI L i)(h:Dn L i y):okI L y:=h (okI L) ho fun _ _ h1 _ h2=>hw.ok h1 h2
theorem dn_cases {L:List Nd}{i y:Int}(h:Dn L i y):y=i∨(okI L i∧∃z∈(ndI L i).kids,Dn L z y):=
 h (fun y=>y=i∨(okI L i∧∃z∈(ndI L i).kids,Dn L z y)) (.inl rfl) fun _ b ha ho hb=>ha.elim (fun e=> .inr ⟨e▸ho,b,e▸hb,dn_self L b⟩) fun⟨h1,z,hz,h2⟩=> .inr ⟨h1,z,hz,dn_kid h2 ho hb⟩
def Her (L:List Nd)(P:Int→Prop)(i:Int):Prop:=∀y,Dn L i y→P y
theorem her_iff {L:List Nd}{P:Int→Prop}{i:Int}(ho:okI L i):Her L P i↔P i∧∀z∈(ndI L i).kids,Her L P z:=
 ⟨fun h=>⟨h i (dn_self L i),fun _ hz y hy=>h y (dn_up ho hz hy)⟩,fun⟨h1,h2⟩ y hy=>(dn_cases hy).elim (fun e=>e▸h1) fun⟨_,_,hz,h⟩=>h2 _ hz y h⟩
theorem dn_app {L t:List Nd}(hw:Wk L){i y:Int}(ho:okI L i):Dn (L++t) i y↔Dn L i y:=by
 constructor
 ·intro h
  refine(h (fun y=>okI L y∧Dn L i y) ⟨ho,dn_self L i⟩ fun a b ⟨h1,h2⟩ _ hb=> ?_).2
  rw[ndI_app h1]at hb
  exact⟨hw.ok h1 hb,dn_kid h2 h1 hb⟩
 intro h
 refine(h (fun y=>okI L y∧Dn (L++t) i y) ⟨ho,dn_self _ i⟩ fun a b ⟨h1,h2⟩ _ hb=> ?_).2
 exact⟨hw.ok h1 hb,dn_kid h2 (okI_app h1) (by rw[ndI_app h1];exact hb)⟩
theorem her_le {L L':List Nd}(hw:Wk L)(hl: ∃t,L'=L++t){P P':Int→Prop}(hP: ∀y,okI L y→(P' y↔P y)){i:Int}(ho:okI L i):Her L' P' i↔Her L P i:=by
 obtain⟨t,rfl⟩:=hl
 exact⟨fun h y hy=>(hP y (dn_ok hw ho hy)).1 (h y ((dn_app hw ho).2 hy)),fun h y hy=>(hP y (dn_ok hw ho ((dn_app hw ho).1 hy))).2 (h y ((dn_app hw ho).1 hy))⟩
theorem her_rk {L:List Nd}{P:Int→Prop}{kd:Int}{ids:List Int}(hi: ∀x∈ids,Her L P x){x:Int}(hx:Rk L kd ids x):Her L P x:=
 hx (Her L P) hi fun _ z hy ho _ hz=>((her_iff ho).1 hy).2 z hz
theorem putE_node {nn kk:Int}{s:St}{n:Nd}(he:(putE nn kk s n).2.2=0):ndI (putE nn kk s n).1.L (putE nn kk s n).2.1=n:=by
 rcases putE_cases nn kk s n with⟨i,g1,e⟩|⟨_,er,g1,e,_⟩|⟨_,_,_,e⟩
 ·rw[e]
  show(s.L[((i:Int)).toNat]?).getD _=_
  rw[Int.toNat_natCast,g1]
  rfl
 ·rw[e]at he
  exact absurd he g1
 rw[e]
 show((s.L++ [n])[((s.L.length:Int)).toNat]?).getD _=_
 rw[Int.toNat_natCast]
 simp
theorem actJ_cases {nn kk:Int}{s:St}{kd:Int}{l:List Int}(hkd:kd=5∨kd=6)(hl: ∀x∈l,okI s.L x):
  (l= []∧actJ nn kk s kd l=(s,if kd=5 then 1 else 0,0))∨(∃x,(∀y,y∈l↔y=x)∧actJ nn kk s kd l=(s,x,0))∨(2≤(ris l).length∧actJ nn kk s kd l=putE nn kk s ⟨kd,0,[],0,0,ris l⟩):=by
 have ha:l.any (lck s.L.length)=false:=by
  rw[List.any_eq_false]
  intro x hx
  rw[okI_lck.2 (hl x hx)]
  simp
 have hm:=mem_ris l
 unfold actJ
 rw[if_neg o_m,ha,if_neg (by simp)]
 split
 ·rename_i e
  rw[e]at hm
  exact .inl ⟨List.eq_nil_iff_forall_not_mem.2 fun x hx=>List.not_mem_nil ((hm x).2 hx),rfl⟩
 ·rename_i x e
  rw[e]at hm
  exact .inr (.inl ⟨x,fun y=>by rw[←hm y,List.mem_singleton],rfl⟩)
 rename_i x y t e
 rw[e]
 exact .inr (.inr ⟨by simp,rfl⟩)
theorem SimpR.her {nn kk:Int}{s:St}{kd dual idle rul sg:Int}{ids:List Int}{r:St × Int × Int}(h:SimpR nn kk s kd dual idle rul sg ids r)(hkd:kd=5∨kd=6)(hr:rul=0∨rul=1)(hg:Gv kk s.L)(he:r.2.2=0)
  {P P':Int→Prop}(hP: ∀y,okI s.L y→(P' y↔P y))(h0:P 0)(h1:P 1)(hj:okI r.1.L r.2.1→(ndI r.1.L r.2.1).kind=kd→¬okI s.L r.2.1∨(∃l,(∀x,x∈l↔Need s.L sg dual (Mem s.L kd idle ids) x)∧(ndI r.1.L r.2.1).kids=ris l)→P' r.2.1)(hi: ∀x∈ids,Her s.L P x):Her r.1.L P' r.2.1:=by
 have hk:=h.kp hkd hr hg
 have hc: ∀x,(x=0∨x=1)→Her s.L P x:=fun x hx=>by
  rcases hx with rfl|rfl
  ·rw[her_iff hg.ok0,hg.n0];exact⟨h0,fun z hz=>by cases hz⟩
  rw[her_iff hg.ok1,hg.n1];exact⟨h1,fun z hz=>by cases hz⟩
 rcases h with⟨_,rfl⟩|⟨ho,⟨_,rfl⟩|⟨_,l,hl,rfl⟩⟩
 ·cases he
 ·exact(her_le hg.wk hk.le hP (by rcases hr with rfl|rfl;exact hg.ok0;exact hg.ok1)).2 (hc _ hr)
 have hlo: ∀x∈l,okI s.L x:=fun x hx=>((hl x).1 hx).1.1.2.1
 have hlh: ∀x∈l,Her s.L P x:=fun x hx=>her_rk hi ((hl x).1 hx).1.1.1
 rcases actJ_cases (nn:=nn) (kk:=kk) hkd hlo with⟨_,e⟩|⟨x,hx,e⟩|⟨h2,e⟩
 ·rw[e]at hk ⊢
  refine(her_le hg.wk hk.le hP ?_).2 (hc _ ?_)
  ·simp only
   split
   ·exact hg.ok1
   exact hg.ok0
  simp only
  split
  ·exact .inr rfl
  exact .inl rfl
 ·rw[e]at hk ⊢
  exact(her_le hg.wk hk.le hP (hlo x ((hx x).2 rfl))).2 (hlh x ((hx x).2 rfl))
 rw[e]at hk he hj ⊢
 have hn:=putE_node he
 have hok:=hk.ok he
 rw[her_iff hok,hn]
 refine⟨hj hok (by rw[hn]) (.inr ⟨l,hl,by rw[hn]⟩),fun z hz=> ?_⟩
 have hz':=(mem_ris l z).1 hz
 exact(her_le hg.wk hk.le hP (hlo z hz')).2 (hlh z hz')

structure Cl (L:List Nd) (kd dual idle rul sg:Int) (l:List Int):Prop where
 ok: ∀x∈l,okI L x∧(ndI L x).kind≠kd∧x≠idle∧x≠rul
 least: ∀x∈l,∀y∈l,(ndI L x).kind=2→(ndI L y).kind=2→(ndI L y).ps=(ndI L x).ps→¬sg*(ndI L y).k<sg*(ndI L x).k
 clash: ∀x∈l,∀y∈l,(ndI L x).kind=2→(ndI L y).kind=2→(ndI L y).ps=negP (ndI L x).ps→¬sg*((ndI L x).k+(ndI L y).k)≤sg
 opp: ∀x∈l,∀y∈l,¬((ndI L x).kind=3∧(ndI L y).kind=4∧(ndI L x).d=(ndI L y).d∧(ndI L x).ps=(ndI L y).ps∧(ndI L x).k=(ndI L y).k)
 need: ∀x∈l,(ndI L x).kind=dual→∀z∈(ndI L x).kids,z∉l
theorem Cl.set {L:List Nd}{kd dual idle rul sg:Int}{l k:List Int}(h:Cl L kd dual idle rul sg l)(e: ∀x,x∈k↔x∈l):Cl L kd dual idle rul sg k:=
 ⟨fun x hx=>h.ok x ((e x).1 hx),fun x hx y hy=>h.least x ((e x).1 hx) y ((e y).1 hy),fun x hx y hy=>h.clash x ((e x).1 hx) y ((e y).1 hy),fun x hx y hy=>h.opp x ((e x).1 hx) y ((e y).1 hy),fun x hx h1 z hz hzk=>h.need x ((e x).1 hx) h1 z hz ((e z).1 hzk)⟩
theorem Cl.app {L t:List Nd}{kd dual idle rul sg:Int}{l:List Int}(hl: ∀x∈l,okI L x):Cl (L++t) kd dual idle rul sg l↔Cl L kd dual idle rul sg l:=by
 have e: ∀x∈l,ndI (L++t) x=ndI L x:=fun x hx=>ndI_app (hl x hx)
 constructor
 ·intro h
  refine⟨fun x hx=>⟨hl x hx,?_⟩,fun x hx y hy=> ?_,fun x hx y hy=> ?_,fun x hx y hy=> ?_,fun x hx=> ?_⟩
  ·have:=(h.ok x hx).2;rw[e x hx]at this;exact this
  ·have:=h.least x hx y hy;rw[e x hx,e y hy]at this;exact this
  ·have:=h.clash x hx y hy;rw[e x hx,e y hy]at this;exact this
  ·have:=h.opp x hx y hy;rw[e x hx,e y hy]at this;exact this
  have:=h.need x hx;rw[e x hx]at this;exact this
 intro h
 refine⟨fun x hx=>⟨okI_app (hl x hx),?_⟩,fun x hx y hy=> ?_,fun x hx y hy=> ?_,fun x hx y hy=> ?_,fun x hx=> ?_⟩
 ·rw[e x hx];exact(h.ok x hx).2
 ·rw[e x hx,e y hy];exact h.least x hx y hy
 ·rw[e x hx,e y hy];exact h.clash x hx y hy
 ·rw[e x hx,e y hy];exact h.opp x hx y hy
 rw[e x hx];exact h.need x hx
theorem need_cl {L:List Nd}{kd dual idle rul sg:Int}{ids l:List Int}(hn: ¬(Mem L kd idle ids rul∨Clash L sg (Mem L kd idle ids)∨Oppos L (Mem L kd idle ids)))(hl: ∀x,x∈l↔Need L sg dual (Mem L kd idle ids) x):Cl L kd dual idle rul sg l:=by
 refine⟨fun x hx=> ?_,fun x hx y hy h1 h2 e=> ?_,fun x hx y hy h1 h2 e h3=> ?_,fun x hx y hy h1=> ?_,fun x hx h1 z hz hzl=> ?_⟩
 ·have h1:=((hl x).1 hx).1.1
  exact⟨h1.2.1,h1.2.2.1,h1.2.2.2,fun e=>hn (.inl (e▸h1))⟩
 ·exact(((hl x).1 hx).1.2 h1).2.2 y ((hl y).1 hy).1.1 h2 e
 ·exact hn (.inr (.inl ⟨x,y,((hl x).1 hx).1.2 h1,((hl y).1 hy).1.2 h2,e,h3⟩))
 ·exact hn (.inr (.inr ⟨x,y,((hl x).1 hx).1.1,((hl y).1 hy).1.1,h1⟩))
 exact((hl x).1 hx).2 ⟨h1,z,hz,((hl z).1 hzl).1⟩
theorem Cl.mem {L:List Nd}{kd dual idle rul sg:Int}{l:List Int}(h:Cl L kd dual idle rul sg l)(x:Int):Mem L kd idle l x↔x∈l:=by
 constructor
 ·rintro⟨h1,_⟩
  exact h1 (fun y=>y∈l) (fun _ hy=>hy) fun y z hy _ hk _=>absurd hk (h.ok y hy).2.1
 exact fun hx=>⟨rk_id hx,(h.ok x hx).1,(h.ok x hx).2.1,(h.ok x hx).2.2.1⟩
theorem Cl.simp {nn kk:Int}{s:St}{kd dual idle rul sg:Int}{ids l:List Int}(h:Cl s.L kd dual idle rul sg l)(ho: ∀x∈ids,okI s.L x)(hm: ∀x,Mem s.L kd idle ids x↔x∈l):SimpR nn kk s kd dual idle rul sg ids (actJ nn kk s kd l):=by
 have hst: ∀x,x∈l→(ndI s.L x).kind=2→Stay s.L sg (Mem s.L kd idle ids) x:=fun x hx hk=>⟨(hm x).2 hx,hk,fun y hy h1 e=>h.least x hx y ((hm y).1 hy) hk h1 e⟩
 refine .inr ⟨ho,.inr ⟨?_,l,fun x=>⟨fun hx=>⟨⟨(hm x).2 hx,hst x hx⟩,?_⟩,fun hx=>(hm x).1 hx.1.1⟩,rfl⟩⟩
 ·rintro(h1|⟨x,y,h1,h2,e,h3⟩|⟨x,y,h1,h2,e⟩)
  ·exact(h.ok rul ((hm rul).1 h1)).2.2.2 rfl
  ·exact h.clash x ((hm x).1 h1.1) y ((hm y).1 h2.1) h1.2.1 h2.2.1 e h3
  exact h.opp x ((hm x).1 h1) y ((hm y).1 h2) e
 rintro⟨h1,z,hz,hk⟩
 exact h.need x hx h1 z hz ((hm z).1 hk.1)
theorem cl_found {nn kk:Int}{s:St}{kd:Int}{x:Int}(hg:Gv kk s.L)(ho:okI s.L x)(hkd:kd=5∨kd=6)(hk:(ndI s.L x).kind=kd):actJ nn kk s kd (ndI s.L x).kids=(s,x,0):=by
 have hw:=hg.wk
 rcases hg.cases ho with⟨_,e⟩|⟨_,e⟩|⟨_,f,_,h3,_,e,_⟩|⟨_,kd',kids,h3,e,h5,h6,h7⟩|⟨_,kd',v,y,h3,e,_⟩
 ·rw[e]at hk;simp[cst]at hk;omega
 ·rw[e]at hk;simp[cst]at hk;omega
 ·rw[e]at hk;dsimp only at hk;omega
 ·have hkk:kd'=kd:=by rw[e]at hk;exact hk
  subst hkk
  rcases actJ_cases (nn:=nn) (kk:=kk) (s:=s) (l:=(ndI s.L x).kids) hkd (fun z hz=>hw.ok ho hz)with⟨h1,_⟩|⟨y,h1,_⟩|⟨h1,h2⟩
  ·rw[e]at h1;dsimp only at h1;rw[h1]at h5;simp at h5
  ·rw[e]at h1
   dsimp only at h1
   exfalso
   rcases kids with _|⟨a,_|⟨b,t⟩⟩
   ·simp at h5
   ·simp at h5
   have ha:=(h1 a).1 (by simp)
   have hb:=(h1 b).1 (by simp)
   have:=(List.pairwise_cons.1 h6).1 b (by simp)
   omega
  rw[h2]
  have hs:=ndI_some ho
  rw[e]at hs ⊢
  dsimp only
  rw[ris_id h6,putE_found hg.uq hs]
  have:=ho.1
  rw[Int.toNat_of_nonneg this]
 rw[e]at hk;dsimp only at hk;omega
def Law5 (kd dual idle rul sg:Int):Prop:=(kd=5∧dual=6∧idle=1∧rul=0∧sg=1)∨(kd=6∧dual=5∧idle=0∧rul=1∧sg= -1)
def SmpP (L:List Nd)(y:Int):Prop:=((ndI L y).kind=5→Cl L 5 6 1 0 1 (ndI L y).kids)∧((ndI L y).kind=6→Cl L 6 5 0 1 (-1) (ndI L y).kids)
def Smp (L:List Nd)(i:Int):Prop:=Her L (SmpP L) i
theorem smpP_app {L L':List Nd}(hw:Wk L)(hl: ∃t,L'=L++t)(y:Int)(ho:okI L y):SmpP L' y↔SmpP L y:=by
 obtain⟨t,rfl⟩:=hl
 unfold SmpP
 rw[ndI_app ho,Cl.app fun x hx=>hw.ok ho hx,Cl.app fun x hx=>hw.ok ho hx]
theorem smp_le {L L':List Nd}(hw:Wk L)(hl: ∃t,L'=L++t){i:Int}(ho:okI L i):Smp L' i↔Smp L i:=her_le hw hl (smpP_app hw hl) ho
theorem SimpR.smp {nn kk:Int}{s:St}{kd dual idle rul sg:Int}{ids:List Int}{r:St × Int × Int}(h:SimpR nn kk s kd dual idle rul sg ids r)(hlw:Law5 kd dual idle rul sg)(hg:Gv kk s.L)(he:r.2.2=0)(hi: ∀x∈ids,Smp s.L x):Smp r.1.L r.2.1:=by
 have hkd:kd=5∨kd=6:=by unfold Law5 at hlw;omega
 have hrl:rul=0∨rul=1:=by unfold Law5 at hlw;omega
 have hk:=h.kp hkd hrl hg
 have h':=h
 rcases h' with⟨_,rfl⟩|⟨ho,⟨_,rfl⟩|⟨h1,l,hml,rfl⟩⟩
 ·cases he
 ·refine h.her hkd hrl hg he (P:=SmpP s.L) (smpP_app hg.wk hk.le) ?_ ?_ ?_ hi
  ·unfold SmpP;rw[hg.n0];exact⟨fun e=>by simp[cst]at e,fun e=>by simp[cst]at e⟩
  ·unfold SmpP;rw[hg.n1];exact⟨fun e=>by simp[cst]at e,fun e=>by simp[cst]at e⟩
  intro _ hkk _
  exfalso
  simp only at hkk
  rcases hrl with rfl|rfl
  ·rw[hg.n0]at hkk;simp[cst]at hkk;omega
  rw[hg.n1]at hkk;simp[cst]at hkk;omega
 have hcl0:=need_cl h1 hml
 have hlo: ∀x∈l,okI s.L x:=fun x hx=>(hcl0.ok x hx).1
 refine h.her hkd hrl hg he (P:=SmpP s.L) (smpP_app hg.wk hk.le) ?_ ?_ ?_ hi
 ·unfold SmpP;rw[hg.n0];exact⟨fun e=>by simp[cst]at e,fun e=>by simp[cst]at e⟩
 ·unfold SmpP;rw[hg.n1];exact⟨fun e=>by simp[cst]at e,fun e=>by simp[cst]at e⟩
 intro hok hkk hor
 rcases actJ_cases (nn:=nn) (kk:=kk) hkd hlo with⟨_,e⟩|⟨x,hx,e⟩|⟨h2,e⟩
 ·exfalso
  rw[e]at hkk
  simp only at hkk
  rcases hkd with rfl|rfl
  ·rw[if_pos rfl,hg.n1]at hkk;simp[cst]at hkk
  rw[if_neg (by decide),hg.n0]at hkk;simp[cst]at hkk
 ·exfalso
  rw[e]at hkk
  exact(hcl0.ok x ((hx x).2 rfl)).2.1 hkk
 rw[e]at hk he ⊢
 have hn:=putE_node he
 have hclr:Cl (putE nn kk s ⟨kd,0,[],0,0,ris l⟩).1.L kd dual idle rul sg (ris l):=by
  obtain⟨t,e4⟩:=hk.le
  rw[e4]
  exact((Cl.app hlo).2 hcl0).set (mem_ris l)
 unfold SmpP
 rw[hn]
 dsimp only
 unfold Law5 at hlw
 rcases hlw with⟨rfl,rfl,rfl,rfl,rfl⟩|⟨rfl,rfl,rfl,rfl,rfl⟩
 ·exact⟨fun _=>hclr,fun e=>by omega⟩
 exact⟨fun e=>by omega,fun _=>hclr⟩
end Nt
namespace Nt

def Prs (J:Int→Int→Prop):List Int→List Int→Prop
 | [],[]=>True
 |a::la,b::lb=>J a b∧Prs J la lb
 | [],_::_=>False
 |_::_,[]=>False
theorem prs_snoc {J:Int→Int→Prop}{a b:Int}(h:J a b): ∀{la lb:List Int},Prs J la lb→Prs J (la++ [a]) (lb++ [b])
 | [],[],_=>⟨h,trivial⟩
 |_::_,_::_,k=>⟨k.1,prs_snoc h k.2⟩
 | [],_::_,k=>False.elim k
 |_::_,[],k=>False.elim k
theorem prs_mono {J K:Int→Int→Prop}: ∀{la lb:List Int},(∀a∈la,∀b∈lb,J a b→K a b)→Prs J la lb→Prs K la lb
 | [],[],_,_=>trivial
 |a::_la,b::_lb,h,k=>⟨h a List.mem_cons_self b List.mem_cons_self k.1,prs_mono (fun a ha b hb=>h a (List.mem_cons_of_mem _ ha) b (List.mem_cons_of_mem _ hb)) k.2⟩
 | [],_::_,_,k=>False.elim k
 |_::_,[],_,k=>False.elim k
theorem prs_len {J:Int→Int→Prop}: ∀{la lb:List Int},Prs J la lb→la.length=lb.length
 | [],[],_=>rfl
 |_::_,_::_,k=>congrArg Nat.succ (prs_len k.2)
 | [],_::_,k=>False.elim k
 |_::_,[],k=>False.elim k
theorem prs_left {J:Int→Int→Prop}: ∀{la lb:List Int},Prs J la lb→∀a∈la,∃b∈lb,J a b
 | [],[],_,_a,ha=>absurd ha List.not_mem_nil
 |_x::_la,y::_lb,k,a,ha=>(List.mem_cons.1 ha).elim (fun e=>⟨y,List.mem_cons_self,e▸k.1⟩) fun h=>(prs_left k.2 a h).elim fun b hb=>⟨b,List.mem_cons_of_mem _ hb.1,hb.2⟩
 | [],_::_,k,_,_=>False.elim k
 |_::_,[],k,_,_=>False.elim k
theorem prs_right {J:Int→Int→Prop}: ∀{la lb:List Int},Prs J la lb→∀b∈lb,∃a∈la,J a b
 | [],[],_,_a,ha=>absurd ha List.not_mem_nil
 |x::_la,_y::_lb,k,b,hb=>(List.mem_cons.1 hb).elim (fun e=>⟨x,List.mem_cons_self,e▸k.1⟩) fun h=>(prs_right k.2 b h).elim fun a ha=>⟨a,List.mem_cons_of_mem _ ha.1,ha.2⟩
 | [],_::_,k,_,_=>False.elim k
 |_::_,[],k,_,_=>False.elim k
theorem prs_id : ∀{la lb:List Int},Prs (fun a b=>b=a) la lb→lb=la
 | [],[],_=>rfl
 |_::_,_::_,k=>by rw[k.1,prs_id k.2]
 | [],_::_,k=>False.elim k
 |_::_,[],k=>False.elim k

def ndA (a:Atm):Nd:=⟨a.kind,a.d,a.ps,a.k,0,[]⟩
def NegR (nn kk:Int)(s:St)(i:Int)(ks:List Int)(r:St × Int × Int):Prop:=
 ((ndI s.L i).kind=5∧SimpR nn kk s 6 5 0 1 (-1) ks r)∨((ndI s.L i).kind=6∧SimpR nn kk s 5 6 1 0 1 ks r)∨
 ((ndI s.L i).kind=7∧r=actB nn kk s 8 (ndI s.L i).var (ks.headD 0))∨((ndI s.L i).kind=8∧r=actB nn kk s 7 (ndI s.L i).var (ks.headD 0))∨
 ((ndI s.L i).kind<5∧r=putE nn kk s (ndA (negA (atmN (ndI s.L i)))))
def AgR (nn kk:Int)(s:St)(i:Int)(ks:List Int)(r:St × Int × Int):Prop:=
 ((ndI s.L i).kind=5∧SimpR nn kk s 5 6 1 0 1 ks r)∨((ndI s.L i).kind=6∧SimpR nn kk s 6 5 0 1 (-1) ks r)∨
 (((ndI s.L i).kind=7∨(ndI s.L i).kind=8)∧r=actB nn kk s (ndI s.L i).kind (ndI s.L i).var (ks.headD 0))∨
 ((ndI s.L i).kind<5∧r=(s,i,0))
theorem Gv.atm {kk:Int}{L:List Nd}(h:Gv kk L){i:Int}(hi:okI L i)(hk:(ndI L i).kind<5):Fit (atmN (ndI L i))∧(ndI L i).ps.length≤209716∧(ndI L i).kids= []∧ndI L i=ndA (atmN (ndI L i)):=by
 rcases h.cases hi with⟨_,e⟩|⟨_,e⟩|⟨_,f,h1,_,_,e,h5,_⟩|⟨_,kd,kids,h3,e,_⟩|⟨_,kd,v,x,h3,e,_⟩
 ·rw[e];exact⟨.inl ⟨.inl rfl,rfl,rfl,rfl⟩,by simp[cst],rfl,rfl⟩
 ·rw[e];exact⟨.inl ⟨.inr rfl,rfl,rfl,rfl⟩,by simp[cst],rfl,rfl⟩
 ·rw[e];exact⟨h1,h5,rfl,rfl⟩
 ·rw[e]at hk;dsimp only at hk;omega
 rw[e]at hk;dsimp only at hk;omega
theorem Gv.quant {kk:Int}{L:List Nd}(h:Gv kk L){i:Int}(hi:okI L i)(hk:(ndI L i).kind=7∨(ndI L i).kind=8): ∃x,(ndI L i).kids= [x]∧I64 (ndI L i).var∧ndI L i=⟨(ndI L i).kind,0,[],0,(ndI L i).var,[x]⟩∧okI L x:=by
 have hw:=h.wk
 rcases h.cases hi with⟨_,e⟩|⟨_,e⟩|⟨_,f,_,h2,_,e,_⟩|⟨_,kd,kids,h3,e,_⟩|⟨_,kd,v,x,h3,e,h5,h6⟩
 ·rw[e]at hk;simp[cst]at hk
 ·rw[e]at hk;simp[cst]at hk
 ·rw[e]at hk;dsimp only at hk;omega
 ·rw[e]at hk;dsimp only at hk;omega
 refine⟨x,by rw[e],by rw[e];exact h5,by rw[e],hw.ok hi (by rw[e];simp)⟩
theorem Gv.kinds {kk:Int}{L:List Nd}(h:Gv kk L){i:Int}(hi:okI L i):0≤(ndI L i).kind∧(ndI L i).kind≤8:=by
 rcases h.cases hi with⟨_,e⟩|⟨_,e⟩|⟨_,f,_,h2,_,e,_⟩|⟨_,kd,kids,h3,e,_⟩|⟨_,kd,v,x,h3,e,h5,h6⟩
 ·rw[e];simp[cst]
 ·rw[e];simp[cst]
 ·rw[e];dsimp only;omega
 ·rw[e];dsimp only;omega
 rw[e];dsimp only;omega
theorem negA_len {a:Atm}(h:a.ps.length≤209716):(negA a).ps.length≤209716:=by
 unfold negA
 split
 ·exact h
 split
 ·exact h
 split
 ·simpa [scl] using h
 split
 ·exact h
 split <;> exact h
theorem NegR.kp {nn kk:Int}{s:St}{i:Int}{ks:List Int}{r:St × Int × Int}(h:NegR nn kk s i ks r)(hg:Gv kk s.L)(hi:okI s.L i):Kp kk s r:=by
 rcases h with⟨_,h⟩|⟨_,h⟩|⟨hk,rfl⟩|⟨hk,rfl⟩|⟨hk,rfl⟩
 ·exact h.kp (.inr rfl) (.inr rfl) hg
 ·exact h.kp (.inl rfl) (.inl rfl) hg
 ·obtain⟨x,_,h1,_⟩:=hg.quant hi (.inl hk)
  exact kp_bind hg (.inr rfl) h1
 ·obtain⟨x,_,h1,_⟩:=hg.quant hi (.inr hk)
  exact kp_bind hg (.inl rfl) h1
 obtain⟨h1,h2,_⟩:=hg.atm hi hk
 exact kp_put hg (.inl ⟨_,h1.neg,rfl,negA_len h2⟩)
theorem AgR.kp {nn kk:Int}{s:St}{i:Int}{ks:List Int}{r:St × Int × Int}(h:AgR nn kk s i ks r)(hg:Gv kk s.L)(hi:okI s.L i):Kp kk s r:=by
 rcases h with⟨_,h⟩|⟨_,h⟩|⟨hk,rfl⟩|⟨hk,rfl⟩
 ·exact h.kp (.inl rfl) (.inl rfl) hg
 ·exact h.kp (.inr rfl) (.inr rfl) hg
 ·obtain⟨x,_,h1,_⟩:=hg.quant hi hk
  exact kp_bind hg hk h1
 exact kp_now hg fun _=>hi
def PlnP (L:List Nd)(y:Int):Prop:=(ndI L y).kind≠7∧(ndI L y).kind≠8
def Pln (L:List Nd)(i:Int):Prop:=Her L (PlnP L) i
theorem plnP_app {L L':List Nd}(hl: ∃t,L'=L++t)(y:Int)(ho:okI L y):PlnP L' y↔PlnP L y:=by
 obtain⟨t,rfl⟩:=hl
 unfold PlnP
 rw[ndI_app ho]
theorem pln_le {L L':List Nd}(hw:Wk L)(hl: ∃t,L'=L++t){i:Int}(ho:okI L i):Pln L' i↔Pln L i:=her_le hw hl (plnP_app hl) ho
def OppJ (L:List Nd)(i j:Int):Prop:=Pln L i→∀f,tv L f j↔ ¬tv L f i
def SamJ (L:List Nd)(i j:Int):Prop:=(Pln L i→∀f,tv L f j↔tv L f i)∧Smp L j∧(Smp L i→j=i)
theorem oppJ_le {L L':List Nd}(hw:Wk L)(hw2:Wk L')(hl: ∃t,L'=L++t){i j:Int}(hi:okI L i)(hj:okI L j)(h:OppJ L i j):OppJ L' i j:=fun hp f=>by
 rw[tv_le hw hw2 hl hi,tv_le hw hw2 hl hj]
 exact h ((pln_le hw hl hi).1 hp) f
theorem samJ_le {L L':List Nd}(hw:Wk L)(hw2:Wk L')(hl: ∃t,L'=L++t){i j:Int}(hi:okI L i)(hj:okI L j)(h:SamJ L i j):SamJ L' i j:=by
 refine⟨fun hp f=> ?_,(smp_le hw hl hj).2 h.2.1,fun hs=>h.2.2 ((smp_le hw hl hi).1 hs)⟩
 rw[tv_le hw hw2 hl hi,tv_le hw hw2 hl hj]
 exact h.1 ((pln_le hw hl hi).1 hp) f
theorem NegR.opp {nn kk:Int}{s:St}{i:Int}{ks:List Int}{r:St × Int × Int}(h:NegR nn kk s i ks r)(hg:Gv kk s.L)(hi:okI s.L i)(hks:Prs (OppJ s.L) (ndI s.L i).kids ks)(he:r.2.2=0):OppJ r.1.L i r.2.1:=by
 have hk:=h.kp hg hi
 intro hp f
 have hp:=(pln_le hg.wk hk.le hi).1 hp
 rw[tv_le hg.wk hk.gv.wk hk.le hi]
 have hpi:=(her_iff hi).1 hp
 rcases h with⟨hkd,h⟩|⟨hkd,h⟩|⟨hkd,rfl⟩|⟨hkd,rfl⟩|⟨hkd,rfl⟩
 ·rw[or_tv h hg he,tv_and hg.wk hi hkd]
  constructor
  ·rintro⟨x,hx,h1⟩ h2
   obtain⟨a,ha,h3⟩:=prs_right hks x hx
   exact(h3 (hpi.2 a ha) f).1 h1 (h2 a ha)
  intro h1
  refine Classical.byContradiction fun h2=>h1 fun a ha=> ?_
  obtain⟨b,hb,h3⟩:=prs_left hks a ha
  exact Classical.byContradiction fun h4=>h2 ⟨b,hb,(h3 (hpi.2 a ha) f).2 h4⟩
 ·rw[and_tv h hg he,tv_or hg.wk hi hkd]
  constructor
  ·rintro h1 ⟨a,ha,h2⟩
   obtain⟨b,hb,h3⟩:=prs_left hks a ha
   exact(h3 (hpi.2 a ha) f).1 (h1 b hb) h2
  intro h1 x hx
  obtain⟨a,ha,h3⟩:=prs_right hks x hx
  exact(h3 (hpi.2 a ha) f).2 fun h4=>h1 ⟨a,ha,h4⟩
 ·exact absurd hkd hpi.1.1
 ·exact absurd hkd hpi.1.2
 obtain⟨h1,_⟩:=hg.atm hi hkd
 have hn:=putE_node he
 have hlt:(negA (atmN (ndI s.L i))).kind<5:=by
  have:(atmN (ndI s.L i)).kind<5:=hkd
  unfold negA
  split
  ·simp
  split
  ·simp
  split
  ·simp
  split
  ·simp
  split
  ·simp
  exact this
 rw[tv_atm (by rw[hn];unfold ndA;dsimp only;omega) (by rw[hn];unfold ndA;dsimp only;omega),hn,tv_atm o_m o_m]
 exact negA_sat h1 f
theorem AgR.same {nn kk:Int}{s:St}{i:Int}{ks:List Int}{r:St × Int × Int}(h:AgR nn kk s i ks r)(hg:Gv kk s.L)(hi:okI s.L i)(hks:Prs (SamJ s.L) (ndI s.L i).kids ks)(he:r.2.2=0):SamJ r.1.L i r.2.1:=by
 have hk:=h.kp hg hi
 have hid:Smp s.L i→ks=(ndI s.L i).kids:=fun hs=>prs_id (prs_mono (fun a ha b _ hab=>hab.2.2 (((her_iff hi).1 hs).2 a ha)) hks)
 have hsm: ∀x∈ks,Smp s.L x:=fun x hx=>by
  obtain⟨a,_,h3⟩:=prs_right hks x hx
  exact h3.2.1
 have hsmp: ∀kd dual idle rul sg,Law5 kd dual idle rul sg→SimpR nn kk s kd dual idle rul sg ks r→(ndI s.L i).kind=kd→Smp r.1.L i→r.2.1=i:=by
  intro kd dual idle rul sg hlw hR hkd hs
  have hs:=(smp_le hg.wk hk.le hi).1 hs
  have hkd5:kd=5∨kd=6:=by unfold Law5 at hlw;omega
  have hcl:Cl s.L kd dual idle rul sg (ndI s.L i).kids:=by
   have h0:=((her_iff hi).1 hs).1
   unfold SmpP at h0
   unfold Law5 at hlw
   rcases hlw with⟨rfl,rfl,rfl,rfl,rfl⟩|⟨rfl,rfl,rfl,rfl,rfl⟩
   ·exact h0.1 hkd
   exact h0.2 hkd
  rw[hid hs]at hR
  have hS:=Cl.simp (nn:=nn) (kk:=kk) (s:=s) hcl (fun x hx=>hg.wk.ok hi hx) hcl.mem
  rw[cl_found hg hi hkd5 hkd]at hS
  rw[hR.uniq hS]
 rcases h with⟨hkd,h⟩|⟨hkd,h⟩|⟨hkd,rfl⟩|⟨hkd,rfl⟩
 ·refine⟨fun hp f=> ?_,h.smp (.inl ⟨rfl,rfl,rfl,rfl,rfl⟩) hg he hsm,fun hs=>hsmp 5 6 1 0 1 (.inl ⟨rfl,rfl,rfl,rfl,rfl⟩) h hkd hs⟩
  have hp:=(pln_le hg.wk hk.le hi).1 hp
  have hpi:=(her_iff hi).1 hp
  rw[tv_le hg.wk hk.gv.wk hk.le hi,and_tv h hg he,tv_and hg.wk hi hkd]
  constructor
  ·intro h1 a ha
   obtain⟨b,hb,h3⟩:=prs_left hks a ha
   exact(h3.1 (hpi.2 a ha) f).1 (h1 b hb)
  intro h1 x hx
  obtain⟨a,ha,h3⟩:=prs_right hks x hx
  exact(h3.1 (hpi.2 a ha) f).2 (h1 a ha)
 ·refine⟨fun hp f=> ?_,h.smp (.inr ⟨rfl,rfl,rfl,rfl,rfl⟩) hg he hsm,fun hs=>hsmp 6 5 0 1 (-1) (.inr ⟨rfl,rfl,rfl,rfl,rfl⟩) h hkd hs⟩
  have hp:=(pln_le hg.wk hk.le hi).1 hp
  have hpi:=(her_iff hi).1 hp
  rw[tv_le hg.wk hk.gv.wk hk.le hi,or_tv h hg he,tv_or hg.wk hi hkd]
  constructor
  ·rintro⟨x,hx,h1⟩
   obtain⟨a,ha,h3⟩:=prs_right hks x hx
   exact⟨a,ha,(h3.1 (hpi.2 a ha) f).1 h1⟩
  rintro⟨a,ha,h1⟩
  obtain⟨b,hb,h3⟩:=prs_left hks a ha
  exact⟨b,hb,(h3.1 (hpi.2 a ha) f).2 h1⟩
 ·obtain⟨x,h1,h2,h3,h4⟩:=hg.quant hi hkd
  rw[h1]at hks
  have hlen:=prs_len hks
  rcases ks with _|⟨y,_|⟨z,t⟩⟩
  ·simp at hlen
  ·have hj:=hks.1
   have e:actB nn kk s (ndI s.L i).kind (ndI s.L i).var y=putE nn kk s ⟨(ndI s.L i).kind,0,[],0,(ndI s.L i).var,[y]⟩∨(actB nn kk s (ndI s.L i).kind (ndI s.L i).var y).2.2=80:=by
    unfold actB
    rw[if_neg o_m]
    split
    ·exact .inr rfl
    exact .inl rfl
   have hy:okI s.L y∨(actB nn kk s (ndI s.L i).kind (ndI s.L i).var y).2.2=80:=by
    unfold actB okI
    rw[if_neg o_m]
    split
    ·exact .inr rfl
    exact .inl o_m
   simp only[List.headD_cons]at hk he ⊢
   rcases e with e|e
   ·rcases hy with hy|hy
    ·rw[e]at hk he ⊢
     have hn:=putE_node he
     refine⟨fun hp f=> ?_,?_,fun hs=> ?_⟩
     ·have hp:=(pln_le hg.wk hk.le hi).1 hp
      have hpi:=((her_iff hi).1 hp).1
      exact absurd hkd (by unfold PlnP at hpi;omega)
     ·unfold Smp
      rw[her_iff (hk.ok he)]
      refine⟨?_,?_⟩
      ·unfold SmpP
       rw[hn]
       dsimp only
       exact⟨fun e=>by omega,fun e=>by omega⟩
      rw[hn]
      intro z hz
      have ez:z=y:=by simpa using hz
      subst ez
      exact(smp_le hg.wk hk.le hy).2 hj.2.1
     have hs:=(smp_le hg.wk hk.le hi).1 hs
     have hyx:y=x:=hj.2.2 (((her_iff hi).1 hs).2 x (by rw[h1];simp))
     subst hyx
     rw[←h3,putE_found hg.uq (ndI_some hi)]
     exact Int.toNat_of_nonneg hi.1
    rw[hy]at he;cases he
   rw[e]at he;cases he
  simp at hlen
 refine⟨fun _ _=>Iff.rfl,?_,fun _=>rfl⟩
 have h4:=(hg.atm hi hkd).2.2.1
 unfold Smp
 simp only
 rw[her_iff hi,h4]
 exact⟨⟨fun e=>by omega,fun e=>by omega⟩,fun z hz=>by cases hz⟩
end Nt
end Go.Proofs.YtllfelooahplhaaGreatDoor
