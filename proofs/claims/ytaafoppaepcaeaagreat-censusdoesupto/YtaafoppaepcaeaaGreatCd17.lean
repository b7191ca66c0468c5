/-
 Several texts in one: PdW,PdO,PdQ,PdR,PdS,PdT,PdU,PdY2.
-/
import Derived.Test.YtaafoppaepcaeaaGreatCd16
import Derived.Test.YtaafoppaepcaeaaGreatCd09
namespace Go.Proofs.YtaafoppaepcaeaaGreat
open Go.RowKit
namespace Pd

variable {f:Int→Bool}{lo:Int}
def cntm (f:Int→Bool)(lo:Int):Nat→Nat
 |0=>0
 |n+1=>cntm f lo n+if f (lo+n)=true then 1 else 0
theorem cntm_le (f:Int→Bool)(lo:Int)(n:Nat):cntm f lo n≤n:=by
 induction n with
 |zero=>exact Nat.le_refl _
 |succ n ih=>
  simp only[cntm]
  split <;> omega
theorem cntm_congr {g:Int→Bool}{lo':Int}{n:Nat}(h: ∀k:Nat,k<n→f (lo+k)=g (lo'+k)):cntm f lo n=cntm g lo' n:=by
 induction n with
 |zero=>rfl
 |succ n ih=>
  simp only[cntm]
  rw[ih fun k hk=>h k o_m,h n o_m]
theorem cntm_add (f:Int→Bool)(lo:Int)(m n:Nat):cntm f lo (m+n)=cntm f lo m+cntm f (lo+m) n:=by
 induction n with
 |zero=>rfl
 |succ n ih=>
  show cntm f lo (m+n)+(if f (lo+((m+n:Nat):Int))=true then 1 else 0)=_
  rw[ih]
  simp only[cntm]
  rw[show lo+((m+n:Nat):Int)=lo+(m:Int)+(n:Int)by omega]
  omega
theorem cntm_none {n:Nat}(h: ∀k:Nat,k<n→f (lo+k)=false):cntm f lo n=0:=by
 induction n with
 |zero=>rfl
 |succ n ih=>
  simp only[cntm]
  rw[ih fun k hk=>h k o_m,h n o_m]
  rfl
theorem cntm_per {p:Nat}{L:Nat}(h: ∀k:Nat,k+p<L→f (lo+k+p)=f (lo+k))(q r:Nat)(hL:q*p+r≤L):cntm f lo (q*p+r)=q*cntm f lo p+cntm f lo r:=by
 induction q generalizing lo L with
 |zero=>simp
 |succ q ih=>
  have e:(q+1)*p+r=p+(q*p+r):=by rw[Nat.add_mul];omega
  rw[e,cntm_add]
  have hs: ∀k:Nat,k<q*p+r→f (lo+p+k)=f (lo+k):=fun k hk=>by
   have:=h k o_m
   rw[←this]
   congr 1
   omega
  rw[cntm_congr (g:=f) (lo':=lo) hs,ih h o_m,Nat.add_mul]
  omega
def cntI (f:Int→Bool)(lo hi:Int):Nat:=cntm f lo (hi-lo+1).toNat
theorem cntI_none (f:Int→Bool){lo hi:Int}(h:hi<lo):cntI f lo hi=0:=by
 unfold cntI
 rw[show(hi-lo+1).toNat=0 by omega]
 rfl
theorem cntI_parts (f:Int→Bool){a b c:Int}(h1:a≤b)(h2:b≤c):cntI f a b+cntI f (b+1) c=cntI f a c:=by
 unfold cntI
 rw[show(c-a+1).toNat=(b-a+1).toNat+(c-(b+1)+1).toNat by omega,cntm_add]
 congr 2
 omega
theorem cntI_zero {a b:Int}(h: ∀x,a≤x→x≤b→f x=false):cntI f a b=0:=by
 unfold cntI
 exact cntm_none fun k hk=>h _ o_m o_m
end Pd
namespace Pd

variable {w w':World}{zc:Array Value}{v:Value}{n base sz:Nat}{e:TypeId}
def SpZ (w:World)(zc:Array Value)(v:Value):Prop:=∀g n cap,v= .slice (some ⟨g,0,none⟩) n cap→∀j,n*zc.size≤j→j<cap*zc.size→w.cell? ⟨g,j,none⟩=some zc[j%zc.size]!
theorem SpZ.below (h:SpZ w zc v)(hb:Below w.heap.size w w'):SpZ w' zc v:=fun g n cap e j h1 h2=>by
 have hc:=h g n cap e j h1 h2
 exact(hb.cell (p:=⟨g,j,none⟩) (World.block_lt_of_cell? w ⟨g,j,none⟩ hc)).trans hc
theorem zero_get (z:Array Value)(k j:Nat)(h:j<k*z.size):(Builtin.zeroCells z k)[j]? =some z[j%z.size]!:=by
 simp[Builtin.zeroCells,h]
theorem mod_shift {a j:Nat}(h:n*a≤j):(j-n*a)%a=j%a:=by
 have e:j=(j-n*a)+n*a:=by omega
 conv=>rhs;rw[e]
 rw[Nat.add_mul_mod_self_right]
theorem spzm {P:Program}{t ty:TypeId}{i:TypeInfo}{z:Value}{size bytes:Nat}(ht:P.underlying t=some (.slice e))(hi:P.info? e=some i)(hz:i.zero=some z)
  (hsize:i.size=size)(hby:i.bytes=bytes)(hzs:z.cells.size=size)
  {v:Value}{n m:Nat}{xs:List Value}(hown:w.ownsRow base e size v n xs)(hsp:SpZ w z.cells v)(hne:v≠ .slice none 0 0)
  {a:Addr}{c:Nat}{news:List Value}(hl:news.length=m*size)(hnews: ∀j u,news[j]? =some u→w.cell? (a.add j)=some u)(h1: ∀u∈news,u.oneCell'=true)
  (h63:n+m≤maxLen)(hbytes:(n+m)*bytes≤140737488355328){v':Value}{w':World}(hr:(Builtin.append_ #[t,t] ty #[v,.slice (some a) m c]).run P w= .ok v' w'):SpZ w' z.cells v'∧v'≠ .slice none 0 0:=by
 subst hsize
 subst hby
 have hmx:n+m≤9223372036854775807:=by simp only[maxLen]at h63;omega
 rcases hown.2 with⟨rfl,rfl⟩|⟨g,cap,cur,rfl,hbg,hg,hnc,hcm,hcs,htake⟩
 ·exact absurd rfl hne
 by_cases hroom:n+m≤cap
 ·have hfit:n*i.size+news.length≤cur.size:=by rw[hl,hcs,←Nat.add_mul];exact Nat.mul_le_mul_right _ hroom
  have hr2:=run_append_room (P:=P) w t ty e i ht hi g n cap cur hg a m c news hl hnews h1 hroom hfit
  rw[hr2]at hr
  simp only[Result.ok.injEq]at hr
  obtain⟨rfl,rfl⟩:=hr
  refine⟨?_,fun h=>by cases h⟩
  intro g' n' cap' he j hj1 hj2
  simp only[Value.slice.injEq,Option.some.injEq,Addr.mk.injEq]at he
  obtain⟨⟨rfl,_⟩,rfl,rfl⟩:=he
  have hold:=hsp g n cap rfl j (by rw[Nat.add_mul]at hj1;omega) hj2
  rw[cell_of_row w g j _ _ (0,0) hg]at hold
  rw[cell_of_row _ g j _ _ (0,0) (setRow_heap w g cur _ e _ hg)]
  rw[←hold]
  rw[hzs]at hj1 hj2
  rw[Nat.add_mul]at hj1
  have e1:(cur.toList.take (n*i.size)++news).length=n*i.size+m*i.size:=by
   rw[List.length_append,List.length_take,Array.length_toList,hl,hcs]
   have:n*i.size≤cap*i.size:=Nat.mul_le_mul_right _ hnc
   omega
  rw[List.getElem?_toArray,List.getElem?_append_right o_m,e1,List.getElem?_drop,Array.getElem?_toList]
  congr 1
  omega
 have holds: ∀j u,xs[j]? =some u→w.cell? ((⟨g,0,none⟩:Addr).add j)=some u:=hown.cells (g:=g) rfl
 have hr2:=run_append_grow (P:=P) w t ty e i z ht hi hz ⟨g,0,none⟩ n cap xs hown.1 holds a m c news hl hnews o_m o_m (growslice_fits o_m hbytes)
 rw[hr2]at hr
 simp only[Result.ok.injEq]at hr
 obtain⟨rfl,rfl⟩:=hr
 refine⟨?_,fun h=>by cases h⟩
 intro g' n' cap' he j hj1 hj2
 have hge:=grownCap_ge w (n+m) cap e
 simp only[Value.slice.injEq,Option.some.injEq,Addr.mk.injEq]at he
 obtain⟨⟨rfl,_⟩,rfl,rfl⟩:=he
 have hlen:(xs.toArray++news.toArray).size=(n+m)*z.cells.size:=by rw[Array.size_append,List.size_toArray,List.size_toArray,hown.1,hl,hzs,Nat.add_mul]
 have hm:(grownCap w (n+m) cap e-(n+m))*z.cells.size=grownCap w (n+m) cap e*z.cells.size-(n+m)*z.cells.size:=Nat.sub_mul _ _ _
 have key:=cell_of_row _ w.heap.size j _ _ (0,0) (heap_alloc_new w.drew (.cells (xs.toArray++news.toArray++Builtin.zeroCells z.cells (grownCap w (n+m) cap e-(n+m))) e))
 refine key.trans ?_
 rw[Array.getElem?_append_right o_m,zero_get _ _ _ (by rw[hlen,hm];omega),hlen,mod_shift hj1]
structure OwZ {α:Type}(enc:α→List Value) (zc:Array Value) (e:TypeId) (sz:Nat) (w:World) (base:Nat) (v:Value) (n:Nat) (q:List α):Prop where
 own:w.ownsRow base e sz v n (encL enc q)
 sp:SpZ w zc v
 ne:v≠ .slice none 0 0
theorem OwZ.any {α:Type}{enc:α→List Value}{q:List α}(h:OwZ enc zc e sz w base v n q)(hsz:0<sz)(henc: ∀x,(enc x).length=sz):
  q.length=n∧∃g c,v= .slice (some ⟨g,0,none⟩) n c∧n≤c∧c≤9223372036854775807∧base≤g∧Own w g e∧v.ownBlock=some g∧∀i (h:i<q.length) j,j<sz→w.cell? ⟨g,i*sz+j,none⟩=(enc q[i])[j]?:=by
 obtain⟨h1,a,c,rfl,h2,h3,h4⟩:=own_any hsz henc h.own
 refine⟨h1,?_⟩
 rcases h4 with⟨h4,h5⟩|⟨g,rfl,h6,h7,h8,h9⟩
 ·rcases h.own.2 with⟨he,h0⟩|⟨g,cap,cur,he,-⟩
  ·exact absurd he h.ne
  rw[he]at h5;cases h5
 exact⟨g,c,rfl,h2,h3,h6,h7,h8,h9⟩
theorem OwZ.all {α:Type}{enc:α→List Value}{q:List α}(h:OwZ enc zc e sz w base v n q)(hsz:0<sz)(hzs:zc.size=sz){R:Value→Prop}(henc: ∀x,∀u∈enc x,R u)(hz: ∀j,j<sz→R zc[j]!){g:Nat}(hg:v.ownBlock=some g):
  ∀off u,w.cell? ⟨g,off,none⟩=some u→R u:=by
 intro off u hu
 rcases h.own.2 with⟨he,-⟩|⟨g',cap,cur,he,hb,hcur,hc,hm,hs,ht⟩
 ·exact absurd he h.ne
 subst he
 cases hg
 have hcell:=cell_of_row w g' off _ _ (0,0) hcur
 by_cases h1:off<n*sz
 ·have:u∈encL enc q:=by
   rw[←ht]
   refine List.mem_iff_getElem?.2 ⟨off,?_⟩
   rw[List.getElem?_take,if_pos h1,Array.getElem?_toList,←hcell,hu]
  obtain⟨x,-,hx⟩:=List.mem_flatMap.1 this
  exact henc x u hx
 by_cases h2:off<cap*sz
 ·have:=h.sp g' n cap rfl off (by rw[hzs];omega) (by rw[hzs];exact h2)
  rw[hu]at this
  cases this
  rw[hzs]
  exact hz _ (Nat.mod_lt _ hsz)
 rw[hcell,Array.getElem?_eq_none o_m]at hu
 cases hu
theorem encL_one {α:Type}{enc:α→List Value}(h: ∀x,∀u∈enc x,u.oneCell'=true)(l:List α): ∀u∈encL enc l,u.oneCell'=true:=fun u hu=>by
 obtain⟨x,-,hx⟩:=List.mem_flatMap.1 hu
 exact h x u hx
theorem appz {α:Type}{enc:α→List Value}{T:TypeId}{z:Value}{by':Nat}(hT:Tryz.prog.underlying T=some (.slice e))(hI:(Tryz.prog.info? e).map (fun i=>(i.zero,i.size,i.bytes))=some (some z,sz,by'))(hzs:z.cells.size=sz)(hsz:0<sz)(hby:by'≤128)
  (henc: ∀x,(enc x).length=sz)(hone: ∀x,∀u∈enc x,u.oneCell'=true){w:World}{base n m:Nat}{v:Value}{l:List α}(h:OwZ enc z.cells e sz w base v n l)(ts:List α)(hm:ts.length=m){src:Value}(hsrc:(src= .slice none 0 0∧m=0)∨ ∃a c,src= .slice (some a) m c∧∀j u,(encL enc ts)[j]? =some u→w.cell? (a.add j)=some u)(h63:n+m≤1073741825)(hbase:base≤w.heap.size)(ty:TypeId):
  ∃v' w',(Builtin.append_ #[T,T] ty #[v,src]).run Tryz.prog w= .ok v' w'∧OwZ enc z.cells e sz w' base v' (n+m) (l++ts)∧w.grownBy w' v.ownBlock∧(v'.ownBlock=v.ownBlock∨v'.ownBlock=some w.heap.size):=by
 obtain⟨i0,hi,hz0,hz1,hz2⟩:=info_parts hI
 rcases hsrc with⟨rfl,rfl⟩|⟨a,c,rfl,hc⟩
 ·obtain rfl:ts= []:=List.eq_nil_of_length_eq_zero hm
  refine⟨v,w,run_append_owned_none w base T ty e i0 sz hT hi v n _ h.own,?_,⟨rfl,rfl,rfl,Nat.le_refl _,fun _ _ _=>rfl⟩,.inl rfl⟩
  rw[List.append_nil,Nat.add_zero]
  exact h
 have hmul:(n+m)*by'≤1073741825*128:=Nat.mul_le_mul h63 hby
 have hl:(encL enc ts).length=m*sz:=by rw[encL_length henc,hm]
 obtain⟨v',w',h1,h2,h3,-,h5⟩:=run_append_own_at (P:=Tryz.prog) w base T ty e i0 z sz by' hT hi hz0 hz1 hz2 hzs hsz v n (encL enc l) h.own a m c (encL enc ts) hl hc (encL_one hone ts) (by unfold maxLen;omega) o_m hbase
 obtain⟨h6,h7⟩:=spzm hT hi hz0 hz1 hz2 hzs h.own h.sp h.ne hl hc (encL_one hone ts) (by unfold maxLen;omega) o_m h1
 refine⟨v',w',h1,⟨?_,h6,h7⟩,h3,h5⟩
 rw[encL_append]
 exact h2
theorem owz_lit {α:Type}{enc:α→List Value}(henc: ∀x,(enc x).length=sz)(w:World)(l:List α)(n:Nat)(hn:l.length=n)(hn2:n≤1073741824)(cs:Array Value)(hcs:cs.toList=encL enc l):
  OwZ enc zc e sz (w.alloc (.cells cs e)) w.heap.size (.slice (some ⟨w.heap.size,0,none⟩) n n) n l:=by
 have hlen:=encL_length henc l
 refine⟨?_,fun g n' cap he j h1 h2=> ?_,fun h=>by cases h⟩
 ·rw[←hcs]
  exact World.ownsRow_lit w cs n (Nat.le_refl _) (by unfold maxLen;omega) (by rw[←Array.length_toList,hcs,hlen,hn])
 simp only[Value.slice.injEq]at he
 obtain⟨-,rfl,rfl⟩:=he
 omega
theorem OwZ.below {α:Type}{enc:α→List Value}{q:List α}(h:OwZ enc zc e sz w base v n q)(k:Below w.heap.size w w'):OwZ enc zc e sz w' base v n q:=
 ⟨own_below h.own k,h.sp.below k,h.ne⟩
theorem zm_grown {s:Bool}{a:Option Addr}{l c:Nat}{x:Int}{g:Nat}(h:Zm w s a l c x)(hg:w.grownBy w' (some g))(hno: ∀off u,w.cell? ⟨g,off,none⟩=some u→∀k i,u≠ .int k i):Zm w' s a l c x:=by
 obtain⟨n,⟨xs,⟨h1,h2,h3,h4,h5⟩,hv⟩,hs⟩:=h
 refine⟨n,⟨xs,⟨h1,h2,h3,h4,h5.imp id ?_⟩,hv⟩,hs⟩
 rintro⟨a0,ha,h6⟩
 refine⟨a0,ha,?_⟩
 rcases Nat.eq_zero_or_pos l with h0|h0
 ·exact .inl h0
 rcases h6 with h6|⟨b,off,rfl,hb,hc⟩
 ·exact .inl h6
 refine .inr ⟨b,off,rfl,Nat.lt_of_lt_of_le hb hg.size,fun i hi=> ?_⟩
 have hne:b≠g:=fun e=>by
  subst e
  exact hno _ _ (hc 0 h0) _ _ rfl
 exact(World.cell?_of_block (a:=⟨b,off+i,none⟩) (hg.block b hb fun e=>hne (Option.some.inj e))).trans (hc i hi)
theorem ps_grown {b:Nat}{D:PD}{g:Nat}(h:PS w b D)(hg:w.grownBy w' (some g))(ho:Own w g e)(h1:78≠e)(h2:60≠e)(h3:111≠e)(hp: ∀off u,w.cell? ⟨g,off,none⟩=some u→∃p,u= .pointer p):PS w' b D:=by
 obtain⟨v,hb,hc,hr⟩:=h.blk
 have hO: ∀t,t≠e→∀g',some g=some g'→∃e,Own w g' e∧t≠e:=fun t ht g' eg=>by cases eg;exact⟨e,ho,ht⟩
 have hcell: ∀b' o u,b'<w.heap.size→w.cell? ⟨b',o,none⟩=some u→(∀p,u≠ .pointer p)→w'.cell? ⟨b',o,none⟩=some u:=fun b' o u hb' hu hn=>by
  have hne:b'≠g:=fun e=>by
   subst e
   obtain⟨p,rfl⟩:=hp _ _ hu
   exact hn p rfl
  exact(World.cell?_of_block (a:=⟨b',o,none⟩) (hg.block b' hb' fun e=>hne (Option.some.inj e))).trans hu
 refine⟨h.wf,v,hb.grown hg (hO _ h1),⟨hc.len,hc.cap,hc.at'.imp id ?_⟩,⟨hr.len,hr.cap,hr.at'.imp id ?_⟩⟩
 ·rintro⟨b',off,e',hb',q,hq,hcl⟩
  exact⟨b',off,e',Nat.lt_of_lt_of_le hb' hg.size,q,⟨hq.len,fun i a1 a2=>(hq.nu i a1 a2).grown hg (hO _ h2)⟩,fun i hi=>⟨hcell _ _ _ hb' (hcl i hi).1 (fun p h=>by cases h),hcell _ _ _ hb' (hcl i hi).2 (fun p h=>by cases h)⟩⟩
 rintro⟨b',off,e',hb',hcl⟩
 refine⟨b',off,e',Nat.lt_of_lt_of_le hb' hg.size,fun i hi=> ?_⟩
 obtain⟨g1,q1,q2⟩:=hcl i hi
 exact⟨g1,hcell _ _ _ hb' q1 (fun p h=>by cases h),q2.grown hg (hO _ h3)⟩
end Pd
namespace Pd

variable {w w':World}{xs:List Int}{base n:Nat}{v:Value}
theorem appz_wp {α:Type}{enc:α→List Value}{T e:TypeId}{z:Value}{sz by':Nat}(hT:Tryz.prog.underlying T=some (.slice e))(hI:(Tryz.prog.info? e).map (fun i=>(i.zero,i.size,i.bytes))=some (some z,sz,by'))(hzs:z.cells.size=sz)(hsz:0<sz)(hby:by'≤128)
  (henc: ∀x,(enc x).length=sz)(hone: ∀x,∀u∈enc x,u.oneCell'=true){w:World}{base n m:Nat}{v:Value}{l:List α}{ops:Array Oper}{rest:List Oper}{o:Oper}{a:Act}{Q:Exit→Act→World→Prop}(hgd:o.guard=none)(s x:Operand)(ho:o.op= .call {callee:=.builtin .append,args:=#[s,x],argTypes:=#[T,T]})(hs:a.eval s=v)
  (h:OwZ enc z.cells e sz w base v n l)(ts:List α)(hm:ts.length=m)(hx:(a.eval x= .slice none 0 0∧m=0)∨ ∃ad c,a.eval x= .slice (some ad) m c∧∀j u,(encL enc ts)[j]? =some u→w.cell? (ad.add j)=some u)(h63:n+m≤1073741825)(hbase:base≤w.heap.size)
  (hK: ∀v' w',OwZ enc z.cells e sz w' base v' (n+m) (l++ts)→w.grownBy w' v.ownBlock→(v'.ownBlock=v.ownBlock∨v'.ownBlock=some w.heap.size)→wpList Tryz.prog ops Q rest (a.put o.dst v') w'):wpList Tryz.prog ops Q (o::rest) a w:=by
 refine wpList_plain hgd fun K hK2=> ?_
 obtain⟨v',w',hr,h2,h3,h4⟩:=appz hT hI hzs hsz hby henc hone h ts hm (src:=a.eval x) (hx.imp id fun⟨ad,c,e1,e2⟩=>⟨ad,c,e1,e2⟩) h63 hbase o.type
 unfold Oper.wp execOp
 simp only[ho,resolve,invoke,builtin,Sem.run_bind,Sem.run_pure,Result.andThen_ok,List.map_toArray,List.map_cons,List.map_nil,hs,hr]
 exact hK2 _ _ (hK v' w' h2 h3 h4)
structure Pm (w:World) (q:List ZV) (xs:List Int):Prop where
 len:q.length=xs.length
 nu: ∀i (h:i<q.length) (h':i<xs.length),Zm w q[i].s q[i].a q[i].l q[i].c xs[i]∧q[i].l≤1073741826
theorem Pm.below {q:List ZV}(h:Pm w q xs)(k:Below w.heap.size w w'):Pm w' q xs:=⟨h.len,fun i h1 h2=>⟨(h.nu i h1 h2).1.below k,(h.nu i h1 h2).2⟩⟩
theorem pm_nil (w:World):Pm w [] []:=⟨rfl,fun i h=>by simp at h⟩
theorem Pm.grown {q:List ZV}{g:Nat}(h:Pm w q xs)(hg:w.grownBy w' (some g))(hno: ∀off u,w.cell? ⟨g,off,none⟩=some u→∀k i,u≠ .int k i):Pm w' q xs:=⟨h.len,fun i h1 h2=>⟨zm_grown (h.nu i h1 h2).1 hg hno,(h.nu i h1 h2).2⟩⟩
theorem Pm.app {q r:List ZV}{ys:List Int}(h:Pm w q xs)(h2:Pm w r ys):Pm w (q++r) (xs++ys):=by
 have hl:=h.len
 have hl2:=h2.len
 refine⟨by simp[hl,hl2],fun i h1 h3=> ?_⟩
 by_cases hi:i<q.length
 ·rw[List.getElem_append_left hi,List.getElem_append_left o_m]
  exact h.nu i hi o_m
 rw[List.getElem_append_right o_m,List.getElem_append_right o_m]
 have:=h2.nu (i-q.length) (by simp at h1;omega) (by simp at h1;omega)
 simpa [hl] using this
theorem pm_one {z:ZV}{x:Int}(h:Zm w z.s z.a z.l z.c x)(hl:z.l≤1073741826):Pm w [z] [x]:=⟨rfl,fun i h1 h2=>by
 obtain rfl:i=0:=by simp at h1;omega
 exact⟨h,hl⟩⟩
abbrev zI :Value:=.agg #[.bool false,.slice none 0 0]
abbrev OwI (w:World) (base:Nat) (v:Value) (n:Nat) (q:List ZV):Prop:=OwZ ZV.enc zI.cells 38 2 w base v n q
theorem owi_no {q:List ZV}(h:OwI w base v n q){g:Nat}(hg:v.ownBlock=some g): ∀off u,w.cell? ⟨g,off,none⟩=some u→∀k i,u≠ .int k i:=by
 refine h.all (by decide) rfl (R:=fun u=> ∀k i,u≠ .int k i) (fun x u hu=> ?_) (fun j hj=> ?_) hg
 ·simp only[ZV.enc,List.mem_cons,List.not_mem_nil,or_false]at hu
  rcases hu with rfl|rfl <;> exact fun k i h=>by cases h
 match j,hj with
 |0,_=>exact fun k i h=>by cases h
 |1,_=>exact fun k i h=>by cases h
theorem owi_blk {q:List ZV}(h:OwI w base v n q): ∃g,v.ownBlock=some g∧base≤g:=by
 obtain⟨-,g,c,-,-,-,h1,-,h2,-⟩:=h.any (by decide) zv_len
 exact⟨g,h2,h1⟩
def encp (b:Nat):List Value:=[.pointer (some ⟨b,0,none⟩)]
theorem encp_len (b:Nat):(encp b).length=1:=rfl
theorem encp_one (b:Nat): ∀u∈encp b,u.oneCell'=true:=fun u hu=>by
 obtain rfl:u=_:=by simpa [encp] using hu
 rfl
theorem infoP :(Tryz.prog.info? 25).map (fun i=>(i.zero,i.size,i.bytes))=some (some (.pointer none),1,8):=by kernel_rfl
structure Pp (w:World) (q:List Nat) (Ds:List PD):Prop where
 len:q.length=Ds.length
 st: ∀i (h:i<q.length) (h':i<Ds.length),PS w q[i] Ds[i]
theorem Pp.below {q:List Nat}{Ds:List PD}(h:Pp w q Ds)(k:Below w.heap.size w w'):Pp w' q Ds:=⟨h.len,fun i h1 h2=>(h.st i h1 h2).below k⟩
theorem Pp.app {q r:List Nat}{xs ys:List PD}(h:Pp w q xs)(h2:Pp w r ys):Pp w (q++r) (xs++ys):=by
 have hl:=h.len
 have hl2:=h2.len
 refine⟨by simp[hl,hl2],fun i h1 h3=> ?_⟩
 by_cases hi:i<q.length
 ·rw[List.getElem_append_left hi,List.getElem_append_left o_m]
  exact h.st i hi o_m
 rw[List.getElem_append_right o_m,List.getElem_append_right o_m]
 have:=h2.st (i-q.length) (by simp at h1;omega) (by simp at h1;omega)
 simpa [hl] using this
theorem pp_one {b:Nat}{D:PD}(h:PS w b D):Pp w [b] [D]:=⟨rfl,fun i h1 h2=>by
 obtain rfl:i=0:=by simp at h1;omega
 exact h⟩
def SLs (w:World)(ad:Option Addr)(n:Nat)(Ds:List PD):Prop:=
 Ds.length=n∧(n=0∨ ∃b q,ad=some ⟨b,0,none⟩∧b<w.heap.size∧Pp w q Ds∧∀i (h:i<q.length),w.cell? ⟨b,i,none⟩=some (.pointer (some ⟨q[i],0,none⟩)))
theorem SLs.below {ad:Option Addr}{Ds:List PD}(h:SLs w ad n Ds)(k:Below w.heap.size w w'):SLs w' ad n Ds:=by
 refine⟨h.1,h.2.imp id ?_⟩
 rintro⟨b,q,e,hb,hq,hc⟩
 exact⟨b,q,e,Nat.lt_of_lt_of_le hb k.size,hq.below k,fun i hi=>(k.cell (p:=⟨b,i,none⟩) hb).trans (hc i hi)⟩
theorem SLs.get {ad:Option Addr}{Ds:List PD}(h:SLs w ad n Ds){i:Nat}(hi:i<n)(hi':i<Ds.length): ∃b s,ad=some ⟨b,0,none⟩∧b<w.heap.size∧w.cell? ⟨b,i,none⟩=some (.pointer (some ⟨s,0,none⟩))∧PS w s Ds[i]:=by
 obtain⟨hl,h0|⟨b,q,e,hb,hq,hc⟩⟩:=h
 ·omega
 have hql:=hq.len
 exact⟨b,q[i]'o_m,e,hb,hc i o_m,hq.st i o_m hi'⟩
abbrev OwP (w:World) (base:Nat) (v:Value) (n:Nat) (q:List Nat):Prop:=OwZ encp (Value.pointer none).cells 25 1 w base v n q
theorem owp_ptr {q:List Nat}(h:OwP w base v n q){g:Nat}(hg:v.ownBlock=some g): ∀off u,w.cell? ⟨g,off,none⟩=some u→∃p,u= .pointer p:=by
 refine h.all (by decide) rfl (R:=fun u=> ∃p,u= .pointer p) (fun x u hu=> ?_) (fun j hj=> ?_) hg
 ·obtain rfl:u=_:=by simpa [encp] using hu
  exact⟨_,rfl⟩
 match j,hj with
 |0,_=>exact⟨_,rfl⟩
theorem Pp.grown {q r:List Nat}{Ds:List PD}(h:Pp w r Ds)(ho:OwP w base v n q)(hg:w.grownBy w' v.ownBlock):Pp w' r Ds:=by
 obtain⟨-,g,c,-,-,-,h1,hO,h2,-⟩:=ho.any (by decide) encp_len
 rw[h2]at hg
 exact⟨h.len,fun i a1 a2=>ps_grown (h.st i a1 a2) hg hO (by decide) (by decide) (by decide) (owp_ptr ho h2)⟩
theorem owp_sl {q:List Nat}{Ds:List PD}(h:OwP w base v n q)(hq:Pp w q Ds): ∃a c,v= .slice a n c∧SLs w a n Ds:=by
 obtain⟨h1,g,c,rfl,h2,h3,h4,ho,h5,hc⟩:=h.any (by decide) encp_len
 refine⟨_,c,rfl,by rw[←hq.len,h1],.inr ⟨g,q,rfl,ho.lt,hq,fun i hi=> ?_⟩⟩
 have:=hc i hi 0 (by decide)
 rw[Nat.mul_one,Nat.add_zero]at this
 exact this
end Pd
namespace Pd

theorem enc_at {q:List ZV}{j:Nat}{u:Value}(h:(encL ZV.enc q)[j]? =some u): ∃i k,∃hi:i<q.length,k<2∧j=i*2+k∧(q[i]).enc[k]? =some u:=by
 induction q generalizing j with
 |nil=>simp[encL]at h
 |cons x r ih=>
  have e:encL ZV.enc (x::r)=x.enc++encL ZV.enc r:=rfl
  rw[e]at h
  by_cases hj:j<2
  ·rw[List.getElem?_append_left (by rw[zv_len];exact hj)]at h
   exact⟨0,j,by simp,hj,by omega,h⟩
  rw[List.getElem?_append_right (by rw[zv_len];omega),zv_len]at h
  obtain⟨i,k,hi,hk,e1,e2⟩:=ih h
  exact⟨i+1,k,by simp;omega,hk,by omega,e2⟩
end Pd
namespace Pd

def pkN (c n:Int):Nat:=((if c<0 then -(c+1)else c)%n).toNat
theorem pkN_lt {c n:Int}(hn:0<n):(pkN c n:Int)<n:=by
 unfold pkN
 have h1:=Int.emod_lt_of_pos (if c<0 then -(c+1)else c) hn
 have h2:=Int.emod_nonneg (if c<0 then -(c+1)else c) (show n≠0 by omega)
 omega
theorem pick_n (c n:Int)(h0: -9223372036854775808≤c)(h1:c≤9223372036854775807)(hn0:0<n)(hn1:n≤9223372036854775807)(w:World):
  Calls Tryz.prog 41 #[.int .i64 c,.int .i64 n] w fun e w'=>e= .returned (.int .i64 (pkN c n))∧Below w.heap.size w w':=by
 have hne:(n==0)=false:=by rw[beq_eq_false_iff_ne];omega
 by_cases hc:c<0
 ·have hr:=Int.emod_lt_of_pos (-(c+1)) hn0
  have hr0:=Int.emod_nonneg (-(c+1)) (show n≠0 from by omega)
  go_enter Tryz.func41,Tryz.ntmps41
  go_wp2
  go_ret
  refine⟨ret_int ?_,Below.refl _ _⟩
  unfold pkN
  rw[if_pos hc,Int.toNat_of_nonneg hr0,←Int.tmod_eq_emod_of_nonneg (show 0≤-(c+1) from by omega),Int.neg_tmod]
 have hr:=Int.emod_lt_of_pos c hn0
 have hr0:=Int.emod_nonneg c (show n≠0 from by omega)
 go_enter Tryz.func41,Tryz.ntmps41
 go_wp2
 go_ret
 refine⟨ret_int ?_,Below.refl _ _⟩
 unfold pkN
 rw[if_neg o_m,Int.toNat_of_nonneg hr0]
def DoR' (m:MkD)(A B:PD)(k:Nat)(err:Int)(D:PD):Prop:=
 match k with
 |0|1=>err=0∧D.p=1∧D.cs= [m.x+1]∧∀x,mem D x=decide (m.x<x)
 |2|3=>err=clErr m.d∧(err=0→D=⟨m.d.natAbs,[],[adB (List.replicate (wn m.d.natAbs) 0) (m.x%(m.d.natAbs:Int)).toNat]⟩)
 |4=>err=0∧D.p=A.p∧D.cs=A.cs∧∀x,mem D x= !mem A x
 |5|6=>err=jErr (Nat.lcm A.p B.p)∧(err=0→D.p=Nat.lcm A.p B.p∧(∀x,mem D x=(mem A x&&mem B x))∧Jx (bits .and .u64) A B D)
 |_=>err=jErr (Nat.lcm A.p B.p)∧(err=0→D.p=Nat.lcm A.p B.p∧(∀x,mem D x=(mem A x||mem B x))∧Jx (bits .or .u64) A B D)
def DoR (m:MkD)(Ds:List PD)(err:Int)(D:PD):Prop:=DoR' m (Ds.getD (pkN m.a Ds.length) ⟨1,[],[]⟩) (Ds.getD (pkN m.b Ds.length) ⟨1,[],[]⟩) (pkN m.k 8) err D
def DoG (w w':World)(en:Ending)(m:MkD)(Ds:List PD)(N:Nat):Prop:=
 Below w.heap.size w w'∧((∃err D,err≠0∧en= .returned (.tuple #[.pointer none,.int .i64 err])∧DoR m Ds err D)∨(∃b D,en= .returned (.tuple #[.pointer (some ⟨b,0,none⟩),.int .i64 0])∧PS w' b D∧D.cs.length≤2*N∧DoR m Ds 0 D))
end Pd
namespace Pd

variable {w:World}{n base:Nat}
def NoneD (D:PD):Prop:=D.p=1∧D.cs= []∧∀x,mem D x=false
def Blt (R:List MkD):Nat→List PD→Prop
 |0,Ds=> ∃D,Ds= [D]∧NoneD D
 |i+1,Ds=> ∃Ds0,Blt R i Ds0∧((∃err D,err≠0∧DoR (R.getD i ⟨0,0,0,0,0⟩) Ds0 err D∧Ds=Ds0)∨ ∃D,DoR (R.getD i ⟨0,0,0,0,0⟩) Ds0 0 D∧Ds=Ds0++ [D])
theorem MLs.get {ad:Option Addr}{R:List MkD}(h:MLs w ad n R){i:Nat}(hi:i<n): ∃b off zk zd,ad=some ⟨b,off,none⟩∧b<w.heap.size∧MKc w b (off+i*7) (R.getD i ⟨0,0,0,0,0⟩) zk zd:=by
 obtain⟨hl,h0|⟨b,off,e,hb,hc⟩⟩:=h
 ·omega
 obtain⟨zk,zd,h1⟩:=hc i o_m
 refine⟨b,off,zk,zd,e,hb,?_⟩
 rw[List.getD_eq_getElem?_getD,List.getElem?_eq_getElem o_m]
 exact h1
theorem onep_src {b:Nat}: ∀j u,(encL encp [b])[j]? =some u→(w.alloc (.cells #[.pointer (some ⟨b,0,none⟩)] 25)).cell? ((⟨w.heap.size,0,none⟩:Addr).add j)=some u:=fun j u hu=>by
 rw[Addr.add_lit,Nat.zero_add,cell_of_row _ _ _ _ _ (0,0) (heap_alloc_new w _)]
 simpa [encL,encp] using hu
theorem owp_form {v:Value}{q:List Nat}(h:OwP w base v n q):q.length=n∧∃g c,v= .slice (some ⟨g,0,none⟩) n c:=by
 obtain⟨h1,g,c,rfl,-⟩:=h.any (by decide) encp_len
 exact⟨h1,g,c,rfl⟩
theorem owp_step {w0 w':World}{v:Value}{q:List Nat}(h:OwP w base v n q)(hg:w.grownBy w' v.ownBlock)(k:Below base w0 w)(hb:base≤w.heap.size):Below base w0 w':=by
 obtain⟨-,g,c,-,-,-,h1,-,h2,-⟩:=h.any (by decide) encp_len
 exact below_grown k hg (fun g' e=>by rw[h2]at e;cases e;exact h1) hb
theorem owp_last {g c:Nat}{q:List Nat}(h:OwP w base (.slice (some ⟨g,0,none⟩) n c) n q)(hn:1≤n): ∃b,w.cell? ⟨g,n-1,none⟩=some (.pointer (some ⟨b,0,none⟩)):=by
 obtain⟨h1,g',c',e,-,-,-,-,-,hc⟩:=h.any (by decide) encp_len
 cases e
 have:=hc (n-1) o_m 0 (by decide)
 rw[Nat.mul_one,Nat.add_zero]at this
 exact⟨_,this⟩
theorem pow_two_le {i:Nat}(h:i≤12):1≤2^i∧2^i≤4096:=⟨Nat.one_le_two_pow,Nat.pow_le_pow_right (by decide) h⟩
end Pd
namespace Pd

theorem period_b {w:World}{b:Nat}{D:PD}(h:PS w b D):Calls Tryz.prog 36 #[.pointer (some ⟨b,0,none⟩)] w fun e w'=>e= .returned (.int .i64 D.p)∧Below w.heap.size w w':=(period_n h).mono fun _ _ ⟨h1,h2⟩=>⟨h1,by rw[h2];exact Below.refl _ _⟩
end Pd
namespace Pd

variable {g:Int→Bool}{p:Nat}{S:List Int}
def Sg (g:Int→Bool)(p:Nat)(S:List Int):Prop:=∀u,(∀s∈S,¬(u<s∧s≤u+p))→g (u+p)=g u
theorem sg_none (h:Sg g p S)(hp:1≤p){u e:Int}(hS: ∀s∈S,s≤u∨e≤s)(h0: ∀i:Nat,i<p→g (u+i)=false)(n:Nat):u+n<e→g (u+n)=false:=by
 induction n using Nat.strongRecOn with
 |ind n ih=>
  intro hn
  by_cases hnp:n<p
  ·exact h0 n hnp
  have e1:=h (u+((n-p:Nat):Int)) (fun s hs h2=>by
   rcases hS s hs with h3|h3 <;> omega)
  rw[show u+(n:Int)=u+((n-p:Nat):Int)+p by omega,e1]
  exact ih (n-p) o_m o_m
theorem sg_below (h:Sg g p S)(hp:1≤p){u s:Int}(hu:u<s)(hS: ∀t∈S,t≤u∨s≤t)(h0: ∀i:Nat,i<(if s-u<p then(s-u).toNat else p)→g (u+i)=false): ∀v,u≤v→v<s→g v=false:=by
 intro v h1 h2
 by_cases hc:s-u<p
 ·rw[if_pos hc]at h0
  have:=h0 (v-u).toNat o_m
  rwa [show u+((v-u).toNat:Int)=v by omega]at this
 rw[if_neg hc]at h0
 have:=sg_none h hp hS h0 (v-u).toNat o_m
 rwa [show u+((v-u).toNat:Int)=v by omega]at this
theorem sg_above (h:Sg g p S)(hp:1≤p){u:Int}(hS: ∀t∈S,t≤u)(h0: ∀i:Nat,i<p→g (u+i)=false): ∀v,u≤v→g v=false:=by
 intro v h1
 have:=sg_none h hp (e:=v+1) (fun t ht=> .inl (hS t ht)) h0 (v-u).toNat o_m
 rwa [show u+((v-u).toNat:Int)=v by omega]at this
theorem sg_up {D:PD}:Sg (mem D) D.p D.cs:=fun u h=>by
 have e:plc D.cs (u+D.p)=plc D.cs u:=by
  unfold plc
  refine List.countP_congr fun c hc=> ?_
  have:=h c hc
  simp only[decide_eq_true_eq]
  omega
 unfold mem
 rw[e,Int.add_emod_right]
theorem sg_down {D:PD}:Sg (fun u=>mem D (-u)) D.p (D.cs.map fun c=>1-c):=fun u h=>by
 have:=sg_up (D:=D) (-u-D.p) fun c hc h2=>h (1-c) (List.mem_map.2 ⟨c,hc,rfl⟩) o_m
 rw[show -u-(D.p:Int)+D.p= -u by omega]at this
 show mem D (-(u+D.p))=mem D (-u)
 rw[show -(u+(D.p:Int))= -u-D.p by omega]
 exact this.symm
end Pd
end Go.Proofs.YtaafoppaepcaeaaGreat
