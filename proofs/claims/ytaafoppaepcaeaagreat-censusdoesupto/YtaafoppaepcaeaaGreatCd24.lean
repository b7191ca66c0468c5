/-
 Several texts in one: Cr7,Cr8,Cr9,CrA,CrB,CrC,CrD,CrE,CrF.
-/
import Derived.Test.YtaafoppaepcaeaaGreatCdT
import Derived.Test.YtaafoppaepcaeaaGreatCd23
import Derived.Test.YtaafoppaepcaeaaGreatCd17
import Derived.Test.YtaafoppaepcaeaaGreatCd16
import Derived.Test.YtaafoppaepcaeaaGreatCd18
set_option maxRecDepth 100000
set_option maxHeartbeats 6400000
namespace Go.Proofs.YtaafoppaepcaeaaGreat
open Go.RowKit Go.Sort Go.Shelf
namespace Cr
open Pd (SN SV ZV plc)

theorem lcm_n {p q:Nat}(hp1:1≤p)(hp2:p≤4096)(hq1:1≤q)(hq2:q≤4096)(w:World):
  Calls Tryz.prog 52 #[.int .i64 p,.int .i64 q] w fun e w'=>e= .returned (.int .i64 (Nat.lcm p q:Nat))∧w'=w:=by
 have hm:Nat.lcm p q≤16777216:=Nat.le_trans (Nat.le_of_dvd (Nat.mul_pos hp1 hq1) (Nat.lcm_dvd_mul p q)) (Nat.le_trans (Nat.mul_le_mul hp2 hq2) (by decide))
 have h0:0<Nat.lcm p q:=Nat.lcm_pos hp1 hq1
 obtain⟨m,hm0⟩:=Nat.dvd_lcm_left p q
 go_enter Tryz.func52,Tryz.ntmps52
 go_wp2_with fail
 go_loopw [5] (fun vn wr=> ∃k:Nat,1≤k∧vn= .int .i64 (p*k:Nat)∧p*k≤Nat.lcm p q∧wr=w) (fun vn _=>Nat.lcm p q-(intOf vn).toNat)
 case atStart=>exact⟨1,by decide,by rw[Nat.mul_one],by rw[Nat.mul_one];exact Nat.le_of_dvd h0 (Nat.dvd_lcm_left p q),rfl⟩
 case round=>
  obtain⟨k,hk,rfl,hle,rfl⟩:=hrel
  by_cases hd:q∣p*k
  ·have he:p*k=Nat.lcm p q:=Nat.le_antisymm hle (Nat.le_of_dvd (Nat.mul_pos hp1 hk) (Nat.lcm_dvd (Nat.dvd_mul_right p k) hd))
   have hz:(((p*k:Nat):Int)%(q:Int) !=0)=false:=by
    rw[bne_eq_false_iff_eq]
    exact_mod_cast Nat.mod_eq_zero_of_dvd hd
   replace he:=hide he
   clear hm0 hd hle
   generalize p*k=n at*
   go_wp2
   exact bodyPost_ret (results_tmp rfl _ _ _) rfl ⟨by rw[←he.out];rfl,rfl⟩
  have hlt:p*k<Nat.lcm p q:=by
   rcases Nat.lt_or_ge (p*k) (Nat.lcm p q)with h|h
   ·exact h
   exact absurd (by rw[show p*k=Nat.lcm p q by omega];exact Nat.dvd_lcm_right p q) hd
  have hkm:k<m:=by
   rcases Nat.lt_or_ge k m with h|h
   ·exact h
   have:=Nat.mul_le_mul_left p h
   omega
  have hnx:p*(k+1)≤Nat.lcm p q:=by rw[hm0];exact Nat.mul_le_mul_left p hkm
  rw[Nat.mul_add,Nat.mul_one]at hnx
  have hz:(((p*k:Nat):Int)%(q:Int) !=0)=true:=by
   rw[bne_iff_ne]
   intro h
   exact hd (Nat.dvd_of_mod_eq_zero (by exact_mod_cast h))
  have hgo:Hid ((p*(k+1):Nat)=p*k+p):=hide (by rw[Nat.mul_add,Nat.mul_one])
  obtain⟨n,hpk⟩: ∃n,p*k=n:=⟨_,rfl⟩
  rw[hpk]at hz hnx hgo hlt hle ⊢
  replace hpk:=hide hpk
  clear hm0 hd hkm
  generalize hL:Nat.lcm p q=L at*
  go_wp2
  exact⟨⟨k+1,by omega,by rw[hgo.out];go_num,by rw[hgo.out];omega,trivial⟩,by simp[intOf];omega⟩
def obm (meet x y:Bool):Bool:=x&&y|| !meet&&(x||y)
theorem obm_true (x y:Bool):obm true x y=(x&&y):=by cases x <;> cases y <;> rfl
theorem obm_false (x y:Bool):obm false x y=(x||y):=by cases x <;> cases y <;> rfl
theorem both_set {ob:Bool→Bool→Bool}{a b l:List Bool}{q k:Nat}(hk:k<q)(hl:l.length=q)(h:l.take k=(both ob a b q).take k):(l.set k (ob (bit a (k%a.length)) (bit b (k%b.length)))).take (k+1)=(both ob a b q).take (k+1):=by
 rw[List.take_succ_eq_append_getElem (by rw[List.length_set];omega),List.take_succ_eq_append_getElem (by rw[both_len];omega),List.take_set_of_le (Nat.le_refl k),h,List.getElem_set_self]
 congr 2
 unfold both
 simp
theorem both_n {w:World}{ga gb q n m:Nat}{a b:List Bool}{meet:Bool}(ha:BB w ga a)(hb:BB w gb b)(hn:a.length=n)(hm:b.length=m)(hn1:1≤n)(hm1:1≤m)(hq:q≤16777216)(hnb:n≤4096)(hmb:m≤4096):
  Calls Tryz.prog 129 #[.slice (some ⟨ga,0,none⟩) n n,.slice (some ⟨gb,0,none⟩) m m,.int .i64 q,.bool meet] w fun e w'=> ∃g,e= .returned (.slice (some ⟨g,0,none⟩) q q)∧BB w' g (both (obm meet) a b q)∧w.heap.size≤g∧Below w.heap.size w w':=by
 have hmk:=run_mkB q o_m
 have b1:=below_alloc w (.cells (Bv (List.replicate q false)) 4)
 have y1:=bb_new w (List.replicate q false)
 have ha1:=hide (ha.below b1)
 have hb1:=hide (hb.below b1)
 have hag:Hid (ga≠w.heap.size):=hide (Nat.ne_of_lt ha.lt)
 have hbg:Hid (gb≠w.heap.size):=hide (Nat.ne_of_lt hb.lt)
 go_enter Tryz.func129,Tryz.ntmps129
 go_upto_region 2 with(fail)
 clear hmk ha hb
 generalize w.alloc (.cells (Bv (List.replicate q false)) 4)=w1 at*
 obtain⟨g,hg⟩: ∃g,w.heap.size=g:=⟨_,rfl⟩
 have hgw:Hid (w.heap.size≤g):=hide o_m
 rw[hg]at y1 hag hbg ⊢
 clear hg
 replace b1:=hide b1
 replace y1:=hide y1
 go_wp2_with fail
 go_loopw [10] (fun vi wr=> ∃(k:Nat) (l:List Bool),k≤q∧vi= .int .i64 k∧BB wr g l∧l.length=q∧l.take k=(both (obm meet) a b q).take k∧Only g w1 wr) (fun vi _=>q-(intOf vi).toNat)
 case atStart=>exact⟨0,_,Nat.zero_le _,rfl,y1.out,List.length_replicate,rfl,Only.refl _ _⟩
 case round=>
  obtain⟨k,l,hk,rfl,hy,hl,htk,hon⟩:=hrel
  by_cases hkq:k<q
  ·have ea:=(ha1.out.only hon hag.out).cell (i:=k%n) (by rw[hn];exact Nat.mod_lt _ hn1)
   have eb:=(hb1.out.only hon hbg.out).cell (i:=k%m) (by rw[hm];exact Nat.mod_lt _ hm1)
   have hst:=hide (both_set hkq hl htk)
   rw[hn,hm]at hst
   have hcg:=hy.cell (i:=k) o_m
   have hfr:=hy.f k
   have y2:=hide (hy.set k (obm meet (bit a (k%n)) (bit b (k%m))))
   have ho2:=hide (hon.trans (Only.set g k wr (.bool (obm meet (bit a (k%n)) (bit b (k%m))))))
   have hl2:Hid ((l.set k (obm meet (bit a (k%n)) (bit b (k%m)))).length=q):=hide (by rw[List.length_set,hl])
   obtain⟨xa,hxa⟩: ∃xa,bit a (k%n)=xa:=⟨_,rfl⟩
   obtain⟨xb,hxb⟩: ∃xb,bit b (k%m)=xb:=⟨_,rfl⟩
   rw[hxa]at ea hst y2 ho2 hl2
   rw[hxb]at eb hst y2 ho2 hl2
   have hia:(k:Int)%(n:Int)=((k%n:Nat):Int):=by omega
   have hib:(k:Int)%(m:Int)=((k%m:Nat):Int):=by omega
   have hla:k%n<n:=Nat.mod_lt _ hn1
   have hlb:k%m<m:=Nat.mod_lt _ hm1
   clear hxa hxb hy htk hon
   generalize k%n=ia at*
   generalize k%m=ib at*
   cases xa <;> cases xb <;> cases meet
   all_goals
    simp only[show obm true true true=true from rfl,show obm true true false=false from rfl,show obm true false true=false from rfl,show obm true false false=false from rfl,show obm false true true=true from rfl,show obm false true false=true from rfl,show obm false false true=true from rfl,show obm false false false=false from rfl]at y2 ho2 hl2 hst
    go_wp2
    exact⟨⟨k+1,_,by omega,by go_num,y2.out,hl2.out,hst.out,ho2.out⟩,by simp[intOf];omega⟩
  obtain rfl:k=q:=by omega
  have hfin:Hid (l=both (obm meet) a b k):=hide (by
   rw[List.take_of_length_le o_m,List.take_of_length_le (by rw[both_len];exact Nat.le_refl _)]at htk
   exact htk)
  have kf:=hide (b1.out.trans (hon.below hgw.out))
  replace hy:=hide hy
  clear htk hon
  go_wp2
  exact bodyPost_ret (results_tmp rfl _ _ _) rfl ⟨g,rfl,by rw[←hfin.out];exact hy.out,hgw.out,kf.out⟩
theorem row_ext {a b:List Bool}(hl:a.length=b.length)(h: ∀j,j<a.length→bit a j=bit b j):a=b:=by
 refine List.ext_getElem hl fun i h1 h2=> ?_
 have:=h i h1
 unfold bit at this
 simpa [List.getD,h1,h2] using this
theorem same_n {w:World}{ga gb n:Nat}{a b:List Bool}(ha:BB w ga a)(hb:BB w gb b)(hn:a.length=n)(hm:b.length=n)(hnb:n≤16777216):
  Calls Tryz.prog 130 #[.slice (some ⟨ga,0,none⟩) n n,.slice (some ⟨gb,0,none⟩) n n] w fun e w'=>e= .returned (.bool (decide (a=b)))∧Below w.heap.size w w':=by
 go_enter Tryz.func130,Tryz.ntmps130
 go_wp2_with fail
 go_loopw [5] (fun vi wr=> ∃k:Nat,k≤n∧vi= .int .i64 k∧(∀j,j<k→bit a j=bit b j)∧Below w.heap.size w wr) (fun vi _=>n-(intOf vi).toNat)
 case atStart=>exact⟨0,Nat.zero_le _,rfl,fun j hj=>absurd hj (Nat.not_lt_zero _),Below.refl _ _⟩
 case round=>
  obtain⟨k,hk,rfl,hsm,kr⟩:=hrel
  by_cases hkn:k<n
  ·have ea:=(ha.below kr).cell (i:=k) o_m
   have eb:=(hb.below kr).cell (i:=k) o_m
   by_cases he:bit a k=bit b k
   ·have hnx:Hid (∀j,j<k+1→bit a j=bit b j):=hide fun j hj=>by
     rcases Nat.lt_succ_iff_lt_or_eq.1 hj with h|rfl
     ·exact hsm j h
     exact he
    rw[he]at ea
    generalize bit b k=x at*
    have hx:(x !=x)=false:=by simp
    replace kr:=hide kr
    clear hsm
    go_wp2_with fail
    go_quiet (fail)
    go_wp2
    exact⟨⟨k+1,by omega,by go_num,hnx.out,grow_step (below_drewN _ _ _) kr.out⟩,by simp[intOf];omega⟩
   have hne:Hid (decide (a=b)=false):=hide (by
    rw[decide_eq_false_iff_not]
    rintro rfl
    exact he rfl)
   generalize bit b k=x at*
   generalize bit a k=y at*
   replace kr:=hide kr
   clear hsm
   cases x <;> cases y <;> first|exact absurd rfl he|skip
   all_goals
    clear he
    go_wp2_with fail
    go_quiet (fail)
    go_wp2
    exact bodyPost_ret (results_tmp rfl _ _ _) rfl ⟨by rw[hne.out];rfl,grow_step (below_drewN _ _ _) kr.out⟩
  obtain rfl:k=n:=by omega
  have he:Hid (decide (a=b)=true):=hide (by rw[decide_eq_true_iff];exact row_ext o_m fun j hj=>hsm j o_m)
  clear hsm
  replace kr:=hide kr
  go_wp2
  exact bodyPost_ret (results_tmp rfl _ _ _) rfl ⟨by rw[he.out];rfl,kr.out⟩
end Cr
namespace Cr
open Pd (SN SV ZV plc OwZ SpZ appz OwI zI Pm encL)

variable {e:TypeId}{sz base n:Nat}{w w':World}{v:Value}
theorem appz_nil {α:Type}{enc:α→List Value}{T:TypeId}{z:Value}{by':Nat}(hT:Tryz.prog.underlying T=some (.slice e))(hI:(Tryz.prog.info? e).map (fun i=>(i.zero,i.size,i.bytes))=some (some z,sz,by'))(hzs:z.cells.size=sz)(hsz:0<sz)(hby:by'≤128)
  (henc: ∀x,(enc x).length=sz){w:World}{base m:Nat}(ts:List α)(hm:ts.length=m)(hm0:0<m){ad:Addr}{c:Nat}(hc: ∀j u,(encL enc ts)[j]? =some u→w.cell? (ad.add j)=some u)(h63:m≤1073741825)(hbase:base≤w.heap.size)(ty:TypeId):
  ∃v' w',(Builtin.append_ #[T,T] ty #[.slice none 0 0,.slice (some ad) m c]).run Tryz.prog w= .ok v' w'∧OwZ enc z.cells e sz w' base v' m ts∧w.grownBy w' none∧v'.ownBlock=some w.heap.size:=by
 obtain⟨i0,hi,hz0,hz1,hz2⟩:=info_parts hI
 subst hz1
 subst hz2
 have hmul:m*i0.bytes≤1073741825*128:=Nat.mul_le_mul h63 hby
 have hl:(encL enc ts).length=m*i0.size:=by rw[Pd.encL_length henc,hm]
 refine⟨_,_,run_append_nil (P:=Tryz.prog) w T ty e i0 z hT hi hz0 ad m c (encL enc ts) hl hc hm0 o_m o_m,⟨?_,?_,fun h=>by cases h⟩,?_,rfl⟩
 ·have hml:m≤maxLen:=by unfold maxLen;omega
  have hrow:=heap_alloc_new w.drew (.cells ((encL enc ts).toArray++Builtin.zeroCells z.cells (grownCap w m 0 e-m)) e)
  have hge:=grownCap_ge w m 0 e
  have hle:=grownCap_le_maxLen w m 0 e hml
  refine⟨hl,.inr ⟨w.heap.size,grownCap w m 0 e,_,rfl,hbase,hrow,hge,hle,?_,?_⟩⟩
  ·rw[Array.size_append,List.size_toArray,hl,size_zeroCells,hzs,←Nat.add_mul,Nat.add_sub_cancel' hge]
  rw[Array.toList_append,List.take_left' (by simpa using hl)]
 ·intro g' n' cap' he j hj1 hj2
  have hge:=grownCap_ge w m 0 e
  simp only[Value.slice.injEq,Option.some.injEq,Addr.mk.injEq]at he
  obtain⟨⟨rfl,_⟩,rfl,rfl⟩:=he
  have hlen:(encL enc ts).toArray.size=m*z.cells.size:=by rw[List.size_toArray,hl,hzs]
  have hm2:(grownCap w m 0 e-m)*z.cells.size=grownCap w m 0 e*z.cells.size-m*z.cells.size:=Nat.sub_mul _ _ _
  have key:=cell_of_row _ w.heap.size j _ _ (0,0) (heap_alloc_new w.drew (.cells ((encL enc ts).toArray++Builtin.zeroCells z.cells (grownCap w m 0 e-m)) e))
  refine key.trans ?_
  rw[Array.getElem?_append_right o_m,Pd.zero_get _ _ _ (by rw[hlen,hm2];omega),hlen,Pd.mod_shift hj1]
 exact⟨rfl,rfl,rfl,by simp,fun k hk _=>heap_alloc_old w.drew _ hk⟩
def OwE {α:Type}(enc:α→List Value)(zc:Array Value)(e:TypeId)(sz:Nat)(w:World)(base:Nat)(v:Value)(n:Nat)(l:List α):Prop:=(v= .slice none 0 0∧n=0∧l= [])∨OwZ enc zc e sz w base v n l
theorem OwE.below {α:Type}{enc:α→List Value}{zc:Array Value}{q:List α}(h:OwE enc zc e sz w base v n q)(k:Below w.heap.size w w'):OwE enc zc e sz w' base v n q:=h.imp id fun h=>h.below k
theorem appe_wp {α:Type}{enc:α→List Value}{T:TypeId}{z:Value}{by':Nat}(hT:Tryz.prog.underlying T=some (.slice e))(hI:(Tryz.prog.info? e).map (fun i=>(i.zero,i.size,i.bytes))=some (some z,sz,by'))(hzs:z.cells.size=sz)(hsz:0<sz)(hby:by'≤128)
  (henc: ∀x,(enc x).length=sz)(hone: ∀x,∀u∈enc x,u.oneCell'=true){w:World}{base n:Nat}{v:Value}{l:List α}{ops:Array Oper}{rest:List Oper}{o:Oper}{a:Act}{Q:Exit→Act→World→Prop}(hgd:o.guard=none)(s x:Operand)(ho:o.op= .call {callee:=.builtin .append,args:=#[s,x],argTypes:=#[T,T]})(hs:a.eval s=v)
  (h:OwE enc z.cells e sz w base v n l)(t:α)(hx: ∃ad c,a.eval x= .slice (some ad) 1 c∧∀j u,(enc t)[j]? =some u→w.cell? (ad.add j)=some u)(h63:n≤1073741824)(hbase:base≤w.heap.size)
  (hK: ∀v' w',OwZ enc z.cells e sz w' base v' (n+1) (l++ [t])→w.grownBy w' v.ownBlock→(v'.ownBlock=v.ownBlock∨v'.ownBlock=some w.heap.size)→wpList Tryz.prog ops Q rest (a.put o.dst v') w'):wpList Tryz.prog ops Q (o::rest) a w:=by
 have e1:encL enc [t]=enc t:=by simp[encL]
 refine wpList_plain hgd fun K hK2=> ?_
 obtain⟨ad,c,hx1,hx2⟩:=hx
 rcases h with⟨rfl,rfl,rfl⟩|h
 ·obtain⟨v',w',hr,h2,h3,h4⟩:=appz_nil hT hI hzs hsz hby henc (w:=w) (base:=base) [t] (m:=1) rfl (by decide) (ad:=ad) (c:=c) (by rw[e1];exact hx2) (by decide) hbase o.type
  unfold Oper.wp execOp
  simp only[ho,resolve,invoke,builtin,Sem.run_bind,Sem.run_pure,Result.andThen_ok,List.map_toArray,List.map_cons,List.map_nil,hs,hx1,hr]
  exact hK2 _ _ (hK v' w' (by rw[Nat.zero_add];exact h2) h3 (.inr h4))
 obtain⟨v',w',hr,h2,h3,h4⟩:=appz hT hI hzs hsz hby henc hone h [t] (m:=1) rfl (src:=.slice (some ad) 1 c) (.inr ⟨ad,c,rfl,by rw[e1];exact hx2⟩) o_m hbase o.type
 unfold Oper.wp execOp
 simp only[ho,resolve,invoke,builtin,Sem.run_bind,Sem.run_pure,Result.andThen_ok,List.map_toArray,List.map_cons,List.map_nil,hs,hx1,hr]
 exact hK2 _ _ (hK v' w' h2 h3 h4)
abbrev OI (w:World) (base:Nat) (v:Value) (n:Nat) (q:List ZV):Prop:=OwE ZV.enc zI.cells 38 2 w base v n q
theorem OI.pm {q r:List ZV}{xs:List Int}(h:OI w base v n q)(hp:Pm w r xs)(hg:w.grownBy w' v.ownBlock):Pm w' r xs:=by
 rcases h with⟨rfl,-,-⟩|h
 ·exact hp.below (Pd.below_grown (Below.refl _ _) hg (fun g e=>by cases e) (Nat.le_refl _))
 obtain⟨g,e,-⟩:=Pd.owi_blk h
 rw[e]at hg
 exact hp.grown hg (Pd.owi_no h e)
theorem OI.cn {q:List ZV}{xs:List Int}(h:OI w base v n q)(hp:Pm w q xs): ∃a c,v= .slice a n c∧CN w a n xs∧n≤c∧c≤9223372036854775807:=by
 have hl:=hp.len
 rcases h with⟨rfl,rfl,rfl⟩|h
 ·exact⟨none,0,rfl,⟨hl.symm,fun i hi=>absurd hi (Nat.not_lt_zero _)⟩,Nat.le_refl _,by decide⟩
 obtain⟨h1,g,c,rfl,h2,h3,h4,ho,h5,hc⟩:=h.any (by decide) Pd.zv_len
 refine⟨_,c,rfl,⟨by omega,fun i hi hi'=>⟨g,0,q[i]'o_m,rfl,ho.lt,?_,?_,(hp.nu i o_m hi').1,(hp.nu i o_m hi').2⟩⟩,h2,h3⟩
 ·have:=hc i o_m 0 (by decide)
  rw[Nat.zero_add]
  rwa [Nat.add_zero]at this
 rw[Nat.zero_add]
 exact hc i o_m 1 (by decide)
theorem OI.step {w0:World}{q:List ZV}(h:OI w base v n q)(hg:w.grownBy w' v.ownBlock)(k:Below base w0 w)(hb:base≤w.heap.size):Below base w0 w':=by
 rcases h with⟨rfl,-,-⟩|h
 ·exact Pd.below_grown k hg (fun g e=>by cases e) hb
 obtain⟨g,e,h1⟩:=Pd.owi_blk h
 exact Pd.below_grown k hg (fun g' e'=>by rw[e]at e';cases e';exact h1) hb
end Cr
namespace Cr
open Pd (SN SV ZV plc OwZ OwI zI Pm encL)

variable {A l B:List Int}{i k:Nat}
structure Mg (A B:List Int) (i k:Nat) (l:List Int):Prop where
 up:l.Pairwise (· < ·)
 mem: ∀c,c∈l↔c∈A.take i∨c∈B.take k
 la: ∀c∈l,∀d∈A.drop i,c<d
 lb: ∀c∈l,∀d∈B.drop k,c<d
theorem mg_zero (A B:List Int):Mg A B 0 0 []:=⟨List.Pairwise.nil,fun c=>by simp,fun c h=>absurd h List.not_mem_nil,fun c h=>absurd h List.not_mem_nil⟩
theorem up_drop (h:A.Pairwise (· < ·)){i:Nat}(hi:i<A.length): ∀d∈A.drop (i+1),A[i]<d:=fun d hd=>by
 obtain⟨j,hj,rfl⟩:=List.mem_iff_getElem.1 hd
 rw[List.length_drop]at hj
 rw[List.getElem_drop]
 exact List.pairwise_iff_getElem.1 h i _ hi o_m o_m
theorem up_snoc (h:l.Pairwise (· < ·)){x:Int}(hx: ∀c∈l,c<x):(l++ [x]).Pairwise (· < ·):=by
 rw[List.pairwise_append]
 exact⟨h,List.pairwise_singleton _ _,fun a ha b hb=>by rw[List.mem_singleton.1 hb];exact hx a ha⟩
theorem dr_mem (hi:i<A.length):A[i]∈A.drop i:=by
 rw[List.drop_eq_getElem_cons hi]
 exact List.mem_cons_self
theorem dr_sub (hi:i<A.length){d:Int}(h:d∈A.drop (i+1)):d∈A.drop i:=by
 rw[List.drop_eq_getElem_cons hi]
 exact List.mem_cons_of_mem _ h
theorem tk_mem (hi:i<A.length)(c:Int):c∈A.take (i+1)↔c∈A.take i∨c=A[i]:=by
 rw[List.take_succ_eq_append_getElem hi,List.mem_append,List.mem_singleton]
theorem mg_a (h:Mg A B i k l)(hA:A.Pairwise (· < ·))(hi:i<A.length)(hb: ∀d∈B.drop k,A[i]<d):Mg A B (i+1) k (l++ [A[i]]):=by
 refine⟨up_snoc h.up fun c hc=>h.la c hc _ (dr_mem hi),fun c=> ?_,fun c hc d hd=> ?_,fun c hc d hd=> ?_⟩
 ·rw[List.mem_append,List.mem_singleton,h.mem,tk_mem hi]
  constructor
  ·rintro((h|h)|h)
   ·exact .inl (.inl h)
   ·exact .inr h
   exact .inl (.inr h)
  rintro((h|h)|h)
  ·exact .inl (.inl h)
  ·exact .inr h
  exact .inl (.inr h)
 ·rcases List.mem_append.1 hc with hc|hc
  ·exact h.la c hc d (dr_sub hi hd)
  rw[List.mem_singleton.1 hc];exact up_drop hA hi d hd
 rcases List.mem_append.1 hc with hc|hc
 ·exact h.lb c hc d hd
 rw[List.mem_singleton.1 hc];exact hb d hd
theorem mg_swap (h:Mg A B i k l):Mg B A k i l:=⟨h.up,fun c=>(h.mem c).trans Or.comm,h.lb,h.la⟩
theorem mg_b (h:Mg A B i k l)(hB:B.Pairwise (· < ·))(hk:k<B.length)(ha: ∀d∈A.drop i,B[k]<d):Mg A B i (k+1) (l++ [B[k]]):=mg_swap (mg_a (mg_swap h) hB hk ha)
theorem mg_ab (h:Mg A B i k l)(hA:A.Pairwise (· < ·))(hB:B.Pairwise (· < ·))(hi:i<A.length)(hk:k<B.length)(he:A[i]=B[k]):Mg A B (i+1) (k+1) (l++ [A[i]]):=by
 refine⟨up_snoc h.up fun c hc=>h.la c hc _ (dr_mem hi),fun c=> ?_,fun c hc d hd=> ?_,fun c hc d hd=> ?_⟩
 ·rw[List.mem_append,List.mem_singleton,h.mem,tk_mem hi,tk_mem hk,←he]
  constructor
  ·rintro((h|h)|h)
   ·exact .inl (.inl h)
   ·exact .inr (.inl h)
   exact .inl (.inr h)
  rintro((h|h)|(h|h))
  ·exact .inl (.inl h)
  ·exact .inr h
  ·exact .inl (.inr h)
  exact .inr h
 ·rcases List.mem_append.1 hc with hc|hc
  ·exact h.la c hc d (dr_sub hi hd)
  rw[List.mem_singleton.1 hc];exact up_drop hA hi d hd
 rcases List.mem_append.1 hc with hc|hc
 ·exact h.lb c hc d (dr_sub hk hd)
 rw[List.mem_singleton.1 hc,he];exact up_drop hB hk d hd
theorem lt_drop (hB:B.Pairwise (· < ·)){k:Nat}(hk:k<B.length){x:Int}(h:x<B[k]): ∀d∈B.drop k,x<d:=fun d hd=>by
 rw[List.drop_eq_getElem_cons hk]at hd
 rcases List.mem_cons.1 hd with rfl|hd
 ·exact h
 exact Int.lt_trans h (up_drop hB hk d hd)
theorem no_drop (hk:B.length≤k){x:Int}: ∀d∈B.drop k,x<d:=fun d hd=>by
 rw[List.drop_eq_nil_of_le hk]at hd
 exact absurd hd List.not_mem_nil
theorem zsrc (w:World)(z:ZV): ∀j u,(ZV.enc z)[j]? =some u→(w.alloc (.cells #[.bool z.s,.slice z.a z.l z.c] 38)).cell? ((⟨w.heap.size,0,none⟩:Addr).add j)=some u:=fun j u hu=>by
 rw[Addr.add_lit,Nat.zero_add,cell_of_row _ _ _ _ _ (0,0) (heap_alloc_new w _)]
 simpa [Pd.ZV.enc] using hu
theorem cuts_n {w:World}{aa ba:Option Addr}{an ac bn bc:Nat}(ha:CN w aa an A)(hb:CN w ba bn B)(hA:A.Pairwise (· < ·))(hB:B.Pairwise (· < ·))(han:an≤268435456)(hbn:bn≤268435456):
  Calls Tryz.prog 51 #[.slice aa an ac,.slice ba bn bc] w fun e w'=> ∃(la:Option Addr) (ln lc:Nat) (l:List Int),e= .returned (.slice la ln lc)∧CN w' la ln l∧l.Pairwise (· < ·)∧(∀c,c∈l↔c∈A∨c∈B)∧ln≤an+bn∧ln≤lc∧lc≤9223372036854775807∧Below w.heap.size w w':=by
 have hal:=ha.1
 have hbl:=hb.1
 replace ha:=hide ha
 replace hb:=hide hb
 go_enter Tryz.func51,Tryz.ntmps51
 go_wp2_with fail
 go_loopw [5,6,7] (fun vo vi vk wr=> ∃(i k n:Nat) (q:List ZV) (l:List Int) (v:Value),vi= .int .i64 i∧vk= .int .i64 k∧vo=v∧OI wr w.heap.size v n q∧Pm wr q l∧i≤an∧k≤bn∧n≤i+k∧Mg A B i k l∧Below w.heap.size w wr) (fun _ vi vk _=>an+bn-((intOf vi).toNat+(intOf vk).toNat))
 case atStart=>exact⟨0,0,0,[],[],_,rfl,rfl,rfl,.inl ⟨rfl,rfl,rfl⟩,Pd.pm_nil w,Nat.zero_le _,Nat.zero_le _,Nat.zero_le _,mg_zero A B,Below.refl _ _⟩
 case round=>
  obtain⟨i,k,n,q,l,v,rfl,rfl,rfl,ho,hp,hi,hk,hn,hm,kr⟩:=hrel
  replace ho:=hide ho
  replace hp:=hide hp
  replace hm:=hide hm
  by_cases hia:i<an
  ·obtain⟨ab,ao,za,rfl,hab,a0,a1,hza,hla⟩:=(ha.out.below kr).2 i hia o_m
   by_cases hkb:k<bn
   ·obtain⟨bb,bo,zb,rfl,hbb,b0,b1,hzb,hlb⟩:=(hb.out.below kr).2 k hkb o_m
    replace kr:=hide kr
    have hne1:((i:Int)==(an:Int))=false:=by rw[beq_eq_false_iff_ne];omega
    have hne2:((k:Int)==(bn:Int))=false:=by rw[beq_eq_false_iff_ne];omega
    rcases Int.lt_trichotomy (A[i]'o_m) (B[k]'o_m)with hlt|hlt|hlt
    ·have hms:=hide (mg_a hm.out hA o_m (lt_drop hB o_m hlt))
     have hv:Hid (cmpI (A[i]'o_m) (B[k]'o_m)= -1):=hide (by unfold cmpI;split <;> (try split) <;> omega)
     clear hm
     generalize A[i]'o_m=xa at*
     generalize B[k]'o_m=xb at*
     replace hza:=hide hza
     replace hzb:=hide hzb
     clear hlt
     go_upto_region 6 with(fail)
     refine wp_region_held_drew (S:=(fun w'=>(w'.cell? ⟨ab,ao+i*2,none⟩=some (.bool za.s)∧w'.cell? ⟨ab,ao+i*2+1,none⟩=some (.slice za.a za.l za.c))∧(w'.cell? ⟨bb,bo+k*2,none⟩=some (.bool zb.s)∧w'.cell? ⟨bb,bo+k*2+1,none⟩=some (.slice zb.a zb.l zb.c)))) k_f (⟨⟨(Below.cell (p:=⟨ab,_,none⟩) (grow_drew (Below.refl _ _)) hab).trans a0,(Below.cell (p:=⟨ab,_,none⟩) (grow_drew (Below.refl _ _)) hab).trans a1⟩,⟨(Below.cell (p:=⟨bb,_,none⟩) (grow_drew (Below.refl _ _)) hbb).trans b0,(Below.cell (p:=⟨bb,_,none⟩) (grow_drew (Below.refl _ _)) hbb).trans b1⟩⟩) (fun hHeld=> ?_)
     show wpAnyH _ _ _ _ _ 10 _ _ _
     have kW:=grow_drew (Below.refl wr.heap.size wr)
     generalize wr.drew=wQ at*
     refine tkz 0 19 ?_
     (try simp only[pz])
     refine tkz 1 20 ?_
     (try simp only[pz])
     refine tkz 2 21 ?_
     (try simp only[pz])
     refine tkz 3 22 ?_
     (try simp only[pz])
     refine tkz 4 23 ?_
     (try simp only[pz])
     refine tkz 5 24 ?_
     (try simp only[pz])
     refine tkz 6 25 ?_
     (try simp only[pz])
     refine tkz 7 26 ?_
     (try simp only[pz])
     refine ryz 8 (some 27) (fun K hK=> ?_) AllReadyH.nil
     go_simp
     go_at_call 99;refine Calls.mono (rcmp2_n (hza.out.below kW) (hzb.out.below kW) o_m o_m) ?_;rintro e wkA ⟨rfl,kA⟩
     rw[hv.out]
     have kW:=grow_step kA kW
     try go_wp2_with fail
     refine hK.out _ _ ?_ ?_
     ·first|with_reducible exact trivial|((try dsimp only);exact⟨⟨(Below.cell (p:=⟨ab,_,none⟩) kW hab).trans a0,(Below.cell (p:=⟨ab,_,none⟩) kW hab).trans a1⟩,⟨(Below.cell (p:=⟨bb,_,none⟩) kW hbb).trans b0,(Below.cell (p:=⟨bb,_,none⟩) kW hbb).trans b1⟩⟩)
     clear hK K hHeld;intro hHeld
     (try simp only[pz])
     refine tkz 9 8 ?_
     (try simp only[pz])
     refine wpAnyH_done ?_ ?_ _
     ·decide+kernel
     have kQ:=hide kW
     clear kW hHeld
     have a0:=(Below.cell (p:=⟨ab,_,none⟩) kQ.out hab).trans a0
     have a1:=(Below.cell (p:=⟨ab,_,none⟩) kQ.out hab).trans a1
     have b0:=(Below.cell (p:=⟨bb,_,none⟩) kQ.out hbb).trans b0
     have b1:=(Below.cell (p:=⟨bb,_,none⟩) kQ.out hbb).trans b1
     have hzq:=hide (hza.out.below kQ.out)
     clear hza hzb
     have bl:=below_alloc wkA (.cells #[.bool za.s,.slice za.a za.l za.c] 38)
     have src:=hide (zsrc wkA za)
     have o1:=hide ((ho.out.below kQ.out).below bl)
     have p1:=hide (((hp.out.below kQ.out).app (Pd.pm_one hzq.out o_m)).below bl)
     have k1:=hide (grow_step bl (grow_step kQ.out kr.out))
     clear bl ho hp hzq
     go_wp2_with(refine appe_wp Tryz.underlying23 Pd.infoI rfl (by decide) (by decide) Pd.zv_len Pd.zv_one rfl _ _ rfl rfl o1.out za ⟨_,_,rfl,src.out⟩ o_m k1.out.size ?_)
     intro v2 w2 ho2 hg2 hv2
     have p2:=hide (OI.pm o1.out p1.out hg2)
     have k2:=hide (OI.step o1.out hg2 k1.out k1.out.size)
     have o2:=hide (show OI w2 w.heap.size v2 (n+1) (q++ [za]) from .inr ho2)
     clear ho2 hg2 hv2 o1 p1 k1 src
     go_wp2
     exact⟨⟨i+1,k,n+1,_,_,v2,by go_num,by go_num,rfl,o2.out,p2.out,by omega,by omega,by omega,hms.out,k2.out⟩,by simp[intOf];omega⟩
    ·have hms:=hide (mg_ab hm.out hA hB o_m o_m hlt)
     have hv:Hid (cmpI (A[i]'o_m) (B[k]'o_m)=0):=hide (by unfold cmpI;split <;> (try split) <;> omega)
     clear hm
     generalize A[i]'o_m=xa at*
     generalize B[k]'o_m=xb at*
     replace hza:=hide hza
     replace hzb:=hide hzb
     clear hlt
     go_upto_region 6 with(fail)
     refine wp_region_held_drew (S:=(fun w'=>(w'.cell? ⟨ab,ao+i*2,none⟩=some (.bool za.s)∧w'.cell? ⟨ab,ao+i*2+1,none⟩=some (.slice za.a za.l za.c))∧(w'.cell? ⟨bb,bo+k*2,none⟩=some (.bool zb.s)∧w'.cell? ⟨bb,bo+k*2+1,none⟩=some (.slice zb.a zb.l zb.c)))) k_f (⟨⟨(Below.cell (p:=⟨ab,_,none⟩) (grow_drew (Below.refl _ _)) hab).trans a0,(Below.cell (p:=⟨ab,_,none⟩) (grow_drew (Below.refl _ _)) hab).trans a1⟩,⟨(Below.cell (p:=⟨bb,_,none⟩) (grow_drew (Below.refl _ _)) hbb).trans b0,(Below.cell (p:=⟨bb,_,none⟩) (grow_drew (Below.refl _ _)) hbb).trans b1⟩⟩) (fun hHeld=> ?_)
     show wpAnyH _ _ _ _ _ 10 _ _ _
     have kW:=grow_drew (Below.refl wr.heap.size wr)
     generalize wr.drew=wQ at*
     refine tkz 0 19 ?_
     (try simp only[pz])
     refine tkz 1 20 ?_
     (try simp only[pz])
     refine tkz 2 21 ?_
     (try simp only[pz])
     refine tkz 3 22 ?_
     (try simp only[pz])
     refine tkz 4 23 ?_
     (try simp only[pz])
     refine tkz 5 24 ?_
     (try simp only[pz])
     refine tkz 6 25 ?_
     (try simp only[pz])
     refine tkz 7 26 ?_
     (try simp only[pz])
     refine ryz 8 (some 27) (fun K hK=> ?_) AllReadyH.nil
     go_simp
     go_at_call 99;refine Calls.mono (rcmp2_n (hza.out.below kW) (hzb.out.below kW) o_m o_m) ?_;rintro e wkA ⟨rfl,kA⟩
     rw[hv.out]
     have kW:=grow_step kA kW
     try go_wp2_with fail
     refine hK.out _ _ ?_ ?_
     ·first|with_reducible exact trivial|((try dsimp only);exact⟨⟨(Below.cell (p:=⟨ab,_,none⟩) kW hab).trans a0,(Below.cell (p:=⟨ab,_,none⟩) kW hab).trans a1⟩,⟨(Below.cell (p:=⟨bb,_,none⟩) kW hbb).trans b0,(Below.cell (p:=⟨bb,_,none⟩) kW hbb).trans b1⟩⟩)
     clear hK K hHeld;intro hHeld
     (try simp only[pz])
     refine tkz 9 8 ?_
     (try simp only[pz])
     refine wpAnyH_done ?_ ?_ _
     ·decide+kernel
     have kQ:=hide kW
     clear kW hHeld
     have a0:=(Below.cell (p:=⟨ab,_,none⟩) kQ.out hab).trans a0
     have a1:=(Below.cell (p:=⟨ab,_,none⟩) kQ.out hab).trans a1
     have b0:=(Below.cell (p:=⟨bb,_,none⟩) kQ.out hbb).trans b0
     have b1:=(Below.cell (p:=⟨bb,_,none⟩) kQ.out hbb).trans b1
     have hzq:=hide (hza.out.below kQ.out)
     clear hza hzb
     have bl:=below_alloc wkA (.cells #[.bool za.s,.slice za.a za.l za.c] 38)
     have src:=hide (zsrc wkA za)
     have o1:=hide ((ho.out.below kQ.out).below bl)
     have p1:=hide (((hp.out.below kQ.out).app (Pd.pm_one hzq.out o_m)).below bl)
     have k1:=hide (grow_step bl (grow_step kQ.out kr.out))
     clear bl ho hp hzq
     go_wp2_with(refine appe_wp Tryz.underlying23 Pd.infoI rfl (by decide) (by decide) Pd.zv_len Pd.zv_one rfl _ _ rfl rfl o1.out za ⟨_,_,rfl,src.out⟩ o_m k1.out.size ?_)
     intro v2 w2 ho2 hg2 hv2
     have p2:=hide (OI.pm o1.out p1.out hg2)
     have k2:=hide (OI.step o1.out hg2 k1.out k1.out.size)
     have o2:=hide (show OI w2 w.heap.size v2 (n+1) (q++ [za]) from .inr ho2)
     clear ho2 hg2 hv2 o1 p1 k1 src
     go_wp2
     exact⟨⟨i+1,k+1,n+1,_,_,v2,by go_num,by go_num,rfl,o2.out,p2.out,by omega,by omega,by omega,hms.out,k2.out⟩,by simp[intOf];omega⟩
    have hms:=hide (mg_b hm.out hB o_m (lt_drop hA o_m hlt))
    have hv:Hid (cmpI (A[i]'o_m) (B[k]'o_m)=1):=hide (by unfold cmpI;split <;> (try split) <;> omega)
    clear hm
    generalize A[i]'o_m=xa at*
    generalize B[k]'o_m=xb at*
    replace hza:=hide hza
    replace hzb:=hide hzb
    clear hlt
    go_upto_region 6 with(fail)
    refine wp_region_held_drew (S:=(fun w'=>(w'.cell? ⟨ab,ao+i*2,none⟩=some (.bool za.s)∧w'.cell? ⟨ab,ao+i*2+1,none⟩=some (.slice za.a za.l za.c))∧(w'.cell? ⟨bb,bo+k*2,none⟩=some (.bool zb.s)∧w'.cell? ⟨bb,bo+k*2+1,none⟩=some (.slice zb.a zb.l zb.c)))) k_f (⟨⟨(Below.cell (p:=⟨ab,_,none⟩) (grow_drew (Below.refl _ _)) hab).trans a0,(Below.cell (p:=⟨ab,_,none⟩) (grow_drew (Below.refl _ _)) hab).trans a1⟩,⟨(Below.cell (p:=⟨bb,_,none⟩) (grow_drew (Below.refl _ _)) hbb).trans b0,(Below.cell (p:=⟨bb,_,none⟩) (grow_drew (Below.refl _ _)) hbb).trans b1⟩⟩) (fun hHeld=> ?_)
    show wpAnyH _ _ _ _ _ 10 _ _ _
    have kW:=grow_drew (Below.refl wr.heap.size wr)
    generalize wr.drew=wQ at*
    refine tkz 0 19 ?_
    (try simp only[pz])
    refine tkz 1 20 ?_
    (try simp only[pz])
    refine tkz 2 21 ?_
    (try simp only[pz])
    refine tkz 3 22 ?_
    (try simp only[pz])
    refine tkz 4 23 ?_
    (try simp only[pz])
    refine tkz 5 24 ?_
    (try simp only[pz])
    refine tkz 6 25 ?_
    (try simp only[pz])
    refine tkz 7 26 ?_
    (try simp only[pz])
    refine ryz 8 (some 27) (fun K hK=> ?_) AllReadyH.nil
    go_simp
    go_at_call 99;refine Calls.mono (rcmp2_n (hza.out.below kW) (hzb.out.below kW) o_m o_m) ?_;rintro e wkA ⟨rfl,kA⟩
    rw[hv.out]
    have kW:=grow_step kA kW
    try go_wp2_with fail
    refine hK.out _ _ ?_ ?_
    ·first|with_reducible exact trivial|((try dsimp only);exact⟨⟨(Below.cell (p:=⟨ab,_,none⟩) kW hab).trans a0,(Below.cell (p:=⟨ab,_,none⟩) kW hab).trans a1⟩,⟨(Below.cell (p:=⟨bb,_,none⟩) kW hbb).trans b0,(Below.cell (p:=⟨bb,_,none⟩) kW hbb).trans b1⟩⟩)
    clear hK K hHeld;intro hHeld
    (try simp only[pz])
    refine tkz 9 8 ?_
    (try simp only[pz])
    refine wpAnyH_done ?_ ?_ _
    ·decide+kernel
    have kQ:=hide kW
    clear kW hHeld
    have a0:=(Below.cell (p:=⟨ab,_,none⟩) kQ.out hab).trans a0
    have a1:=(Below.cell (p:=⟨ab,_,none⟩) kQ.out hab).trans a1
    have b0:=(Below.cell (p:=⟨bb,_,none⟩) kQ.out hbb).trans b0
    have b1:=(Below.cell (p:=⟨bb,_,none⟩) kQ.out hbb).trans b1
    have hzq:=hide (hzb.out.below kQ.out)
    clear hza hzb
    have bl:=below_alloc wkA (.cells #[.bool zb.s,.slice zb.a zb.l zb.c] 38)
    have src:=hide (zsrc wkA zb)
    have o1:=hide ((ho.out.below kQ.out).below bl)
    have p1:=hide (((hp.out.below kQ.out).app (Pd.pm_one hzq.out o_m)).below bl)
    have k1:=hide (grow_step bl (grow_step kQ.out kr.out))
    clear bl ho hp hzq
    go_wp2_with(refine appe_wp Tryz.underlying23 Pd.infoI rfl (by decide) (by decide) Pd.zv_len Pd.zv_one rfl _ _ rfl rfl o1.out zb ⟨_,_,rfl,src.out⟩ o_m k1.out.size ?_)
    intro v2 w2 ho2 hg2 hv2
    have p2:=hide (OI.pm o1.out p1.out hg2)
    have k2:=hide (OI.step o1.out hg2 k1.out k1.out.size)
    have o2:=hide (show OI w2 w.heap.size v2 (n+1) (q++ [zb]) from .inr ho2)
    clear ho2 hg2 hv2 o1 p1 k1 src
    go_wp2
    exact⟨⟨i,k+1,n+1,_,_,v2,by go_num,by go_num,rfl,o2.out,p2.out,by omega,by omega,by omega,hms.out,k2.out⟩,by simp[intOf];omega⟩
   obtain rfl:k=bn:=by omega
   have hne1:((i:Int)==(an:Int))=false:=by rw[beq_eq_false_iff_ne];omega
   have hms:=hide (mg_a hm.out hA o_m (no_drop o_m))
   have kQ:=hide (Below.refl wr.heap.size wr)
   clear hm
   replace kr:=hide kr
   have hzq:=hide hza
   clear hza
   have bl:=below_alloc wr (.cells #[.bool za.s,.slice za.a za.l za.c] 38)
   have src:=hide (zsrc wr za)
   have o1:=hide ((ho.out.below kQ.out).below bl)
   have p1:=hide (((hp.out.below kQ.out).app (Pd.pm_one hzq.out o_m)).below bl)
   have k1:=hide (grow_step bl (grow_step kQ.out kr.out))
   clear bl ho hp hzq
   go_wp2_with(refine appe_wp Tryz.underlying23 Pd.infoI rfl (by decide) (by decide) Pd.zv_len Pd.zv_one rfl _ _ rfl rfl o1.out za ⟨_,_,rfl,src.out⟩ o_m k1.out.size ?_)
   intro v2 w2 ho2 hg2 hv2
   have p2:=hide (OI.pm o1.out p1.out hg2)
   have k2:=hide (OI.step o1.out hg2 k1.out k1.out.size)
   have o2:=hide (show OI w2 w.heap.size v2 (n+1) (q++ [za]) from .inr ho2)
   clear ho2 hg2 hv2 o1 p1 k1 src
   go_wp2
   exact⟨⟨i+1,k,n+1,_,_,v2,by go_num,by go_num,rfl,o2.out,p2.out,by omega,by omega,by omega,hms.out,k2.out⟩,by simp[intOf];omega⟩
  obtain rfl:i=an:=by omega
  by_cases hkb:k<bn
  ·obtain⟨bb,bo,zb,rfl,hbb,b0,b1,hzb,hlb⟩:=(hb.out.below kr).2 k hkb o_m
   have hms:=hide (mg_b hm.out hB o_m (no_drop o_m))
   have kQ:=hide (Below.refl wr.heap.size wr)
   clear hm
   replace kr:=hide kr
   have hzq:=hide hzb
   clear hzb
   have bl:=below_alloc wr (.cells #[.bool zb.s,.slice zb.a zb.l zb.c] 38)
   have src:=hide (zsrc wr zb)
   have o1:=hide ((ho.out.below kQ.out).below bl)
   have p1:=hide (((hp.out.below kQ.out).app (Pd.pm_one hzq.out o_m)).below bl)
   have k1:=hide (grow_step bl (grow_step kQ.out kr.out))
   clear bl ho hp hzq
   go_wp2_with(refine appe_wp Tryz.underlying23 Pd.infoI rfl (by decide) (by decide) Pd.zv_len Pd.zv_one rfl _ _ rfl rfl o1.out zb ⟨_,_,rfl,src.out⟩ o_m k1.out.size ?_)
   intro v2 w2 ho2 hg2 hv2
   have p2:=hide (OI.pm o1.out p1.out hg2)
   have k2:=hide (OI.step o1.out hg2 k1.out k1.out.size)
   have o2:=hide (show OI w2 w.heap.size v2 (n+1) (q++ [zb]) from .inr ho2)
   clear ho2 hg2 hv2 o1 p1 k1 src
   go_wp2
   exact⟨⟨i,k+1,n+1,_,_,v2,by go_num,by go_num,rfl,o2.out,p2.out,by omega,by omega,by omega,hms.out,k2.out⟩,by simp[intOf];omega⟩
  obtain rfl:k=bn:=by omega
  obtain⟨ra,rc,rfl,hcn,h1,h2⟩:=OI.cn ho.out hp.out
  have hup:=hide hm.out.up
  have hmem:Hid (∀c,c∈l↔c∈A∨c∈B):=hide (fun c=>by rw[hm.out.mem,List.take_of_length_le o_m,List.take_of_length_le o_m])
  replace hcn:=hide hcn
  replace kr:=hide kr
  clear ho hp hm
  go_wp2
  exact bodyPost_ret (results_tmp rfl _ _ _) rfl ⟨ra,n,rc,l,rfl,hcn.out,hup.out,hmem.out,hn,h1,h2,kr.out⟩
end Cr
namespace Cr
open Pd (SN SV ZV plc OwZ OwI zI Pm encL SpZ encr grown_only)

theorem appe_run {α:Type}{enc:α→List Value}{T e:TypeId}{z:Value}{sz by':Nat}(hT:Tryz.prog.underlying T=some (.slice e))(hI:(Tryz.prog.info? e).map (fun i=>(i.zero,i.size,i.bytes))=some (some z,sz,by'))(hzs:z.cells.size=sz)(hsz:0<sz)(hby:by'≤128)
  (henc: ∀x,(enc x).length=sz)(hone: ∀x,∀u∈enc x,u.oneCell'=true){w:World}{base n:Nat}{v:Value}{l:List α}(h:Pd.OwZ enc z.cells e sz w base v n l∨(v= .slice none 0 0∧n=0∧l= []))(t:α){ad:Addr}{c:Nat}(hx: ∀j u,(enc t)[j]? =some u→w.cell? (ad.add j)=some u)(h63:n≤1073741824)(hbase:base≤w.heap.size)(ty:TypeId):
  ∃v' w',(Builtin.append_ #[T,T] ty #[v,.slice (some ad) 1 c]).run Tryz.prog w= .ok v' w'∧OwZ enc z.cells e sz w' base v' (n+1) (l++ [t])∧w.grownBy w' v.ownBlock∧(v'.ownBlock=v.ownBlock∨v'.ownBlock=some w.heap.size):=by
 have e1:encL enc [t]=enc t:=by simp[encL]
 rcases h with h|⟨rfl,rfl,rfl⟩
 ·exact Pd.appz hT hI hzs hsz hby henc hone h [t] (m:=1) rfl (src:=.slice (some ad) 1 c) (.inr ⟨ad,c,rfl,by rw[e1];exact hx⟩) o_m hbase ty
 obtain⟨v',w',hr,h2,h3,h4⟩:=appz_nil hT hI hzs hsz hby henc (w:=w) (base:=base) [t] (m:=1) rfl (by decide) (ad:=ad) (c:=c) (by rw[e1];exact hx) (by decide) hbase ty
 exact⟨v',w',hr,by rw[Nat.zero_add];exact h2,h3,.inr h4⟩
theorem OI.flip {w:World}{base:Nat}{v:Value}{n:Nat}{q:List ZV}(h:OI w base v n q):OwI w base v n q∨(v= .slice none 0 0∧n=0∧q= []):=h.symm
theorem owz_grown {α:Type}{enc:α→List Value}{zc:Array Value}{e e2:TypeId}{sz:Nat}{w w':World}{base:Nat}{v:Value}{n:Nat}{q:List α}{o:Option Nat}(h:OwZ enc zc e sz w base v n q)(hg:w.grownBy w' o)(ho: ∀g,o=some g→Pd.Own w g e2)(hne:e≠e2):OwZ enc zc e sz w' base v n q:=by
 refine⟨Pd.own_grown h.own hg ho hne,fun g n' cap he j h1 h2=> ?_,h.ne⟩
 have hc:=h.sp g n' cap he j h1 h2
 have hlt:=World.block_lt_of_cell? w ⟨g,j,none⟩ hc
 refine(World.cell?_of_block (a:=⟨g,j,none⟩) (hg.block g hlt fun e3=> ?_)).trans hc
 have hb:=(Pd.own_blk h.own g (by rw[he];rfl)).2
 obtain⟨cur,hb⟩:=hb
 exact(ho g e3.symm).ne hb hne rfl
theorem oi_grown {w w':World}{base n:Nat}{v:Value}{q:List ZV}{o:Option Nat}{e2:TypeId}(h:OI w base v n q)(hg:w.grownBy w' o)(ho: ∀g,o=some g→Pd.Own w g e2)(hne:38≠e2):OI w' base v n q:=h.imp id fun h=>owz_grown h hg ho hne
theorem BB.grown {w w':World}{g:Nat}{l:List Bool}{o:Option Nat}{e2:TypeId}(h:BB w g l)(hg:w.grownBy w' o)(ho: ∀g,o=some g→Pd.Own w g e2)(hne:4≠e2):BB w' g l:=
 (hg.block g h.lt fun e=>(ho g e.symm).ne h hne rfl).trans h
theorem SBr.grown {w w':World}{b p:Nat}{v:SV}{o:Option Nat}{e2:TypeId}(h:SBr w b p v)(hg:w.grownBy w' o)(ho: ∀g,o=some g→Pd.Own w g e2)(hne:30≠e2):SBr w' b p v:=
 (hg.block b h.lt fun e=>(ho b e.symm).ne h hne rfl).trans h
theorem SBr.own {w:World}{b p:Nat}{v:SV}(h:SBr w b p v):Pd.Own w b 30:=⟨_,h⟩
theorem sbr_noint {w:World}{b p:Nat}{v:SV}(h:SBr w b p v): ∀off u,w.cell? ⟨b,off,none⟩=some u→∀i,u≠ .int .u32 i:=fun off u hu i=>by
 rw[cell_of_row w b off _ _ (0,0) h]at hu
 rcases off with _|_|_|off <;> simp at hu <;> subst hu <;> intro h <;> cases h
abbrev OR (q:Nat) (w:World) (base:Nat) (v:Value) (n:Nat) (l:List Nat):Prop:=OwZ (encr q) (Value.slice none 0 0).cells 80 1 w base v n l
theorem infoRB :(Tryz.prog.info? 80).map (fun i=>(i.zero,i.size,i.bytes))=some (some (.slice none 0 0),1,24):=by kernel_rfl
theorem or_noint {q:Nat}{w:World}{base n:Nat}{v:Value}{l:List Nat}(h:OR q w base v n l){g:Nat}(hg:v.ownBlock=some g): ∀off u,w.cell? ⟨g,off,none⟩=some u→∀k i,u≠ .int k i:=by
 refine h.all (by decide) rfl (R:=fun u=> ∀k i,u≠ .int k i) (fun x u hu=> ?_) (fun j hj=> ?_) hg
 ·simp only[encr,List.mem_cons,List.not_mem_nil,or_false]at hu
  subst hu
  exact fun k i h=>by cases h
 match j,hj with
 |0,_=>exact fun k i h=>by cases h
structure Rb (w:World) (qR:List Nat) (rs:List (List Bool)):Prop where
 len:qR.length=rs.length
 row: ∀i (h:i<qR.length) (h':i<rs.length),BB w qR[i] rs[i]
theorem Rb.below {w w':World}{q:List Nat}{R:List (List Bool)}(h:Rb w q R)(k:Below w.heap.size w w'):Rb w' q R:=⟨h.len,fun i h1 h2=>(h.row i h1 h2).below k⟩
theorem Rb.grown {w w':World}{q:List Nat}{R:List (List Bool)}{o:Option Nat}{e2:TypeId}(h:Rb w q R)(hg:w.grownBy w' o)(ho: ∀g,o=some g→Pd.Own w g e2)(hne:4≠e2):Rb w' q R:=⟨h.len,fun i h1 h2=>(h.row i h1 h2).grown hg ho hne⟩
theorem Rb.snoc {w:World}{q:List Nat}{R:List (List Bool)}{g:Nat}{xs:List Bool}(h:Rb w q R)(hx:BB w g xs):Rb w (q++ [g]) (R++ [xs]):=by
 have hl:=h.len
 refine⟨by simp[hl],fun i h1 h2=> ?_⟩
 by_cases hi:i<q.length
 ·rw[List.getElem_append_left hi,List.getElem_append_left o_m]
  exact h.row i hi o_m
 obtain rfl:i=q.length:=by simp at h1;omega
 have e1:(q++ [g])[q.length]=g:=by simp
 have e2:(R++ [xs])[q.length]'h2=xs:=by simp[hl]
 rw[e1,e2]
 exact hx
theorem pm_only {w w':World}{q:List ZV}{xs:List Int}{b:Nat}(h:Pm w q xs)(hx: ∀off u,w.cell? ⟨b,off,none⟩=some u→∀i,u≠ .int .u32 i)(ho:Only b w w'):Pm w' q xs:=
 ⟨h.len,fun i h1 h2=>⟨zm_onlyu (h.nu i h1 h2).1 (fun j x e=>hx j _ e x rfl) ho,(h.nu i h1 h2).2⟩⟩
structure JM (w0:World) (n0 b9 gr:Nat) (w5:World) (q:Nat) (wr:World) (v:SV) (qC:List ZV) (cs:List Int) (qR:List Nat) (rs:List (List Bool)):Prop where
 y:SBr wr b9 q v
 oc:OI wr w5.heap.size (.slice v.ca v.cn v.cc) v.cn qC
 pm:Pm wr qC cs
 og:OR q wr n0 (.slice v.ra v.rn v.rc) v.rn qR
 rb:Rb wr qR rs
 kp: ∀b,b<w5.heap.size→b≠b9→b≠gr→wr.heap[b]? =w5.heap[b]?
 ob: ∀g,Value.ownBlock (.slice v.ra v.rn v.rc)=some g→g=gr∨w5.heap.size≤g
 bl:Below n0 w0 wr
 sz:w5.heap.size≤wr.heap.size
variable {w0:World}{n0 b9 gr:Nat}{w5:World}{q:Nat}{wr:World}{v:SV}{qC:List ZV}{cs:List Int}{qR:List Nat}{rs:List (List Bool)}
theorem JM.below {w':World}(h:JM w0 n0 b9 gr w5 q wr v qC cs qR rs)(hn:n0≤w5.heap.size)(k:Below wr.heap.size wr w'):JM w0 n0 b9 gr w5 q w' v qC cs qR rs:=
 ⟨h.y.below k,h.oc.below k,h.pm.below k,h.og.below k,h.rb.below k,fun b h1 h2 h3=>(k.block b (Nat.lt_of_lt_of_le h1 h.sz)).trans (h.kp b h1 h2 h3),h.ob,h.bl.trans (k.mono (Nat.le_trans hn h.sz)),Nat.le_trans h.sz k.size⟩
theorem JM.cut {w2:World}(h:JM w0 n0 b9 gr w5 q wr v qC cs qR rs)(hn:n0≤w5.heap.size)(hb9:n0≤b9){z:ZV}{x:Int}(hz:Zm wr z.s z.a z.l z.c x)(hl:z.l≤1073741826){ca:Option Addr}{cc:Nat}(ho:OwI w2 w5.heap.size (.slice ca (v.cn+1) cc) (v.cn+1) (qC++ [z]))(hg:wr.grownBy w2 (Value.ownBlock (.slice v.ca v.cn v.cc))):
  JM w0 n0 b9 gr w5 q (w2.setCell ⟨b9,1,none⟩ (.slice ca (v.cn+1) cc)) ⟨ca,v.cn+1,cc,v.ra,v.rn,v.rc⟩ (qC++ [z]) (cs++ [x]) qR rs:=by
 have hob: ∀g,Value.ownBlock (.slice v.ca v.cn v.cc)=some g→w5.heap.size≤g∧Pd.Own wr g 38:=fun g e=>by
  rcases h.oc with⟨e2,-,-⟩|h2
  ·rw[e2]at e;cases e
  exact Pd.own_blk h2.own g e
 have y2:=h.y.grown hg (fun g e=>(hob g e).2) (by decide)
 have hO: ∀g,some b9=some g→Pd.Own w2 g 30:=fun g e=>by cases e;exact y2.own
 have ho9:=Only.set b9 1 w2 (.slice ca (v.cn+1) cc)
 have hg9:=grown_only ho9
 have bl2:Below n0 w0 w2:=Pd.below_grown h.bl hg (fun g e=>Nat.le_trans hn (hob g e).1) (Nat.le_trans hn h.sz)
 refine⟨?_,.inr (owz_grown ho hg9 hO (by decide)),pm_only ((OI.pm h.oc (h.pm.app (Pd.pm_one hz hl)) hg)) (sbr_noint y2) ho9,owz_grown (owz_grown h.og hg (fun g e=>(hob g e).2) (by decide)) hg9 hO (by decide),(h.rb.grown hg (fun g e=>(hob g e).2) (by decide)).grown hg9 hO (by decide),fun b h1 h2 h3=> ?_,h.ob,?_,?_⟩
 ·exact heap_setCell_same w2 b9 1 _ _ (.slice ca (v.cn+1) cc) y2
 ·refine(ho9.block b h2).trans ((hg.block b (Nat.lt_of_lt_of_le h1 h.sz) fun e=> ?_).trans (h.kp b h1 h2 h3))
  have:=(hob b e.symm).1
  omega
 ·exact bl2.trans (ho9.below hb9)
 rw[ho9.size]
 exact Nat.le_trans h.sz hg.size
theorem JM.rowS {w2:World}(h:JM w0 n0 b9 gr w5 q wr v qC cs qR rs)(hn:n0≤w5.heap.size)(hb9:n0≤b9){g:Nat}{r:List Bool}(hr:BB wr g r){ra:Option Addr}{rc:Nat}(ho:OR q w2 n0 (.slice ra (v.rn+1) rc) (v.rn+1) (qR++ [g]))(hg:wr.grownBy w2 (Value.ownBlock (.slice v.ra v.rn v.rc)))(hob2:Value.ownBlock (.slice ra (v.rn+1) rc)=Value.ownBlock (.slice v.ra v.rn v.rc)∨Value.ownBlock (.slice ra (v.rn+1) rc)=some wr.heap.size):
  JM w0 n0 b9 gr w5 q (w2.setCell ⟨b9,2,none⟩ (.slice ra (v.rn+1) rc)) ⟨v.ca,v.cn,v.cc,ra,v.rn+1,rc⟩ qC cs (qR++ [g]) (rs++ [r]):=by
 have hob:=Pd.own_blk h.og.own
 have y2:=h.y.grown hg (fun g e=>(hob g e).2) (by decide)
 have hO: ∀g,some b9=some g→Pd.Own w2 g 30:=fun g e=>by cases e;exact y2.own
 have ho9:=Only.set b9 2 w2 (.slice ra (v.rn+1) rc)
 have hg9:=grown_only ho9
 have bl2:Below n0 w0 w2:=Pd.below_grown h.bl hg (fun g e=>(hob g e).1) (Nat.le_trans hn h.sz)
 obtain⟨-,go,gc,e0,-,-,hgo,-,e1,-⟩:=h.og.any (by decide) (Pd.encr_len q)
 have hpm:Pm w2 qC cs:=by
  rw[e1]at hg
  exact h.pm.grown hg (or_noint h.og e1)
 refine⟨?_,oi_grown (oi_grown h.oc hg (fun g e=>(hob g e).2) (by decide)) hg9 hO (by decide),pm_only hpm (sbr_noint y2) ho9,owz_grown ho hg9 hO (by decide),(((h.rb.grown hg (fun g e=>(hob g e).2) (by decide))).snoc (hr.grown hg (fun g e=>(hob g e).2) (by decide))).grown hg9 hO (by decide),fun b h1 h2 h3=> ?_,fun g e=> ?_,?_,?_⟩
 ·exact heap_setCell_same w2 b9 2 _ _ (.slice ra (v.rn+1) rc) y2
 ·refine(ho9.block b h2).trans ((hg.block b (Nat.lt_of_lt_of_le h1 h.sz) fun e=> ?_).trans (h.kp b h1 h2 h3))
  rcases h.ob b e.symm with h4|h4
  ·exact h3 h4
  omega
 ·rcases hob2 with h4|h4
  ·exact h.ob g (h4▸e)
  rw[h4]at e
  cases e
  exact .inr h.sz
 ·exact bl2.trans (ho9.below hb9)
 rw[ho9.size]
 exact Nat.le_trans h.sz hg.size
theorem JM.ccn (h:JM w0 n0 b9 gr w5 q wr v qC cs qR rs):cs.length=v.cn:=by
 have h1:=h.pm.len
 rcases h.oc with⟨-,e,rfl⟩|h2
 ·rw[e];exact h1.symm
 rw[←h1];exact(h2.any (by decide) Pd.zv_len).1
theorem JM.cob (h:JM w0 n0 b9 gr w5 q wr v qC cs qR rs): ∀g,Value.ownBlock (.slice v.ca v.cn v.cc)=some g→Pd.Own wr g 38:=fun g e=>by
 rcases h.oc with⟨e2,-,-⟩|h2
 ·rw[e2]at e;cases e
 exact(Pd.own_blk h2.own g e).2
theorem rs_of {n1 n2:Nat}(hoc:OI wr n1 (.slice v.ca v.cn v.cc) v.cn qC)(hpm:Pm wr qC cs)(hog:OR q wr n2 (.slice v.ra v.rn v.rc) v.rn qR)(hrb:Rb wr qR rs)(hw:Wr ⟨q,cs,rs⟩):RS wr v ⟨q,cs,rs⟩:=by
 obtain⟨a,c,e,h1,h2,h3⟩:=OI.cn hoc hpm
 simp only[Value.slice.injEq]at e
 obtain⟨rfl,-,rfl⟩:=e
 obtain⟨g1,go,gc,e2,g2,g3,g4,g5,-,gcl⟩:=hog.any (by decide) (Pd.encr_len q)
 simp only[Value.slice.injEq]at e2
 obtain⟨e2,-,rfl⟩:=e2
 have hl:=hrb.len
 refine⟨hw,h1,⟨show rs.length=v.rn by omega,go,0,e2,g5,fun i hi=>⟨qR[i]'o_m,?_,?_⟩⟩,h2,h3⟩
 ·have:=gcl i o_m 0 (by decide)
  rw[Nat.mul_one,Nat.add_zero]at this
  rw[Nat.zero_add,this]
  have hr:(rs.getD i []).length=q:=by
   have e3:rs.getD i []=rs[i]'o_m:=by simp[List.getD,show i<rs.length by omega]
   rw[e3]
   exact hw.row _ (List.getElem_mem _)
  rw[show(RE.mk q cs rs).rs=rs from rfl,hr]
  rfl
 have e3:(RE.mk q cs rs).rs.getD i []=rs[i]'o_m:=by simp[List.getD,show i<rs.length by omega]
 rw[e3]
 exact hrb.row i o_m o_m
theorem JM.toRS (h:JM w0 n0 b9 gr w5 q wr v qC cs qR rs)(hw:Wr ⟨q,cs,rs⟩):RS wr v ⟨q,cs,rs⟩:=rs_of h.oc h.pm h.og h.rb hw
end Cr
namespace Cr
open Pd (SN SV ZV plc OwZ OwI zI Pm encL SpZ encr grown_only al_b jErr)

theorem fst_s {v w:World}{b p:Nat}{u:SV}(k:Below v.heap.size v w)(hb:v.heap.size≤b)(h:SBr w b p u)(p':Nat)(u':SV): ∃w8,Hid (((w.setCell ⟨b,0,none⟩ (.int .i64 p')).setCell ⟨b,1,none⟩ (.slice u'.ca u'.cn u'.cc)).setCell ⟨b,2,none⟩ (.slice u'.ra u'.rn u'.rc)=w8)∧SBr w8 b p' u'∧Below v.heap.size v w8∧Only b w w8:=
 ⟨_,rfl,sbr_fin h,k.trans ((only3 b w _ _ _).below hb),only3 b w _ _ _⟩
theorem or_lit {w:World}{q g gr base:Nat}(hb:base≤gr)(h:w.heap[gr]? =some (.cells #[.slice (some ⟨g,0,none⟩) q q] 80 (0,0))):OR q w base (.slice (some ⟨gr,0,none⟩) 1 1) 1 [g]:=by
 refine⟨⟨rfl,.inr ⟨gr,1,_,rfl,hb,h,Nat.le_refl _,by unfold maxLen;omega,rfl,rfl⟩⟩,fun g' n cap he j h1 h2=> ?_,fun h=>by cases h⟩
 simp only[Value.slice.injEq]at he
 obtain⟨-,rfl,rfl⟩:=he
 omega
theorem cn_keep {w5 wr:World}{la:Option Addr}{ln b9 gr p:Nat}{v9:SV}{l:List Int}(h:CN w5 la ln l)(hk: ∀b,b<w5.heap.size→b≠b9→b≠gr→wr.heap[b]? =w5.heap[b]?)(hs:w5.heap.size≤wr.heap.size)(y:SBr w5 b9 p v9){t:Option Addr}{n1 n2:Nat}(hg:w5.heap[gr]? =some (.cells #[.slice t n1 n2] 80 (0,0))):CN wr la ln l:=by
 have c9: ∀off u,w5.cell? ⟨b9,off,none⟩=some u→(∀i,u≠ .int .u32 i)∧∀s,u≠ .bool s:=fun off u hu=>by
  rw[cell_of_row w5 b9 off _ _ (0,0) y]at hu
  rcases off with _|_|_|off <;> simp at hu <;> subst hu <;> exact⟨fun i h=>(by cases h),fun s h=>(by cases h)⟩
 have cg: ∀off u,w5.cell? ⟨gr,off,none⟩=some u→(∀i,u≠ .int .u32 i)∧∀s,u≠ .bool s:=fun off u hu=>by
  rw[cell_of_row w5 gr off _ _ (0,0) hg]at hu
  rcases off with _|off <;> simp at hu <;> subst hu <;> exact⟨fun i h=>(by cases h),fun s h=>(by cases h)⟩
 refine⟨h.1,fun i hi hi'=> ?_⟩
 obtain⟨b,off,z,e,hb,h1,h2,h3,h4⟩:=h.2 i hi hi'
 have hbk:=hk b hb (by rintro rfl;exact(c9 _ _ h1).2 _ rfl) (by rintro rfl;exact(cg _ _ h1).2 _ rfl)
 refine⟨b,off,z,e,Nat.lt_of_lt_of_le hb hs,(World.cell?_of_block (a:=⟨b,_,none⟩) hbk).trans h1,(World.cell?_of_block (a:=⟨b,_,none⟩) hbk).trans h2,?_,h4⟩
 obtain⟨n,⟨zs,⟨g1,g2,g3,g4,g5⟩,hv⟩,hsg⟩:=h3
 refine⟨n,⟨zs,⟨g1,g2,g3,g4,?_⟩,hv⟩,hsg⟩
 rcases g5 with g5|⟨a,ea,g5|⟨b',off',rfl,hb',hc⟩⟩
 ·exact .inl g5
 ·exact .inr ⟨a,ea,.inl g5⟩
 by_cases h0:z.l=0
 ·exact .inr ⟨_,ea,.inl h0⟩
 have hbk':=hk b' hb' (by rintro rfl;exact(c9 _ _ (hc 0 o_m)).1 _ rfl) (by rintro rfl;exact(cg _ _ (hc 0 o_m)).1 _ rfl)
 exact .inr ⟨_,ea,.inr ⟨b',off',rfl,Nat.lt_of_lt_of_le hb' hs,fun i hi=>(World.cell?_of_block (a:=⟨b',_,none⟩) hbk').trans (hc i hi)⟩⟩
theorem place_n' {w:World}{v:SV}{E:RE}{s:Bool}{a:Option Addr}{l c:Nat}{x:Int}{ra:Option Addr}(hvA:v.ra=ra)(h:RS w v E)(hcn:v.cn≤1073741824)(hx:Zm w s a l c x)(hl:l≤17179869184):
  Calls Tryz.prog 55 #[.agg #[.int .i64 E.p,.slice v.ca v.cn v.cc,.slice ra v.rn v.rc],.agg #[.bool s,.slice a l c]] w fun e w'=>e= .returned (.int .i64 (plc E.cs x:Nat))∧Below w.heap.size w w':=by
 subst hvA
 exact place_n h hcn hx hl
def JnR (meet:Bool)(A B E:RE):Prop:=∃l:List Int,l.Pairwise (· < ·)∧(∀c,c∈l↔c∈A.cs∨c∈B.cs)∧Jn (Nat.lcm A.p B.p) l (jf (obm meet) A B (Nat.lcm A.p B.p)) l.length E∧l.length≤A.cs.length+B.cs.length
theorem joined_n {w:World}{va vb:SV}{A B:RE}{meet:Bool}(hA:RS w va A)(hB:RS w vb B)(hna:va.cn≤134217728)(hnb:vb.cn≤134217728):
  Calls Tryz.prog 92 #[.agg #[.int .i64 A.p,.slice va.ca va.cn va.cc,.slice va.ra va.rn va.rc],.agg #[.int .i64 B.p,.slice vb.ca vb.cn vb.cc,.slice vb.ra vb.rn vb.rc],.bool meet] w fun e w'=> ∃E,AnS w w' e (jErr (Nat.lcm A.p B.p)) E∧(jErr (Nat.lcm A.p B.p)=0→JnR meet A B E):=by
 have b0:=below_alloc w (.cells #[.int .i64 A.p,.slice va.ca va.cn va.cc,.slice va.ra va.rn va.rc] 30)
 have b1:=below_alloc (w.alloc (.cells #[.int .i64 A.p,.slice va.ca va.cn va.cc,.slice va.ra va.rn va.rc] 30)) (.cells #[.int .i64 B.p,.slice vb.ca vb.cn vb.cc,.slice vb.ra vb.rn vb.rc] 30)
 have b2:=below_alloc ((w.alloc (.cells #[.int .i64 A.p,.slice va.ca va.cn va.cc,.slice va.ra va.rn va.rc] 30)).alloc (.cells #[.int .i64 B.p,.slice vb.ca vb.cn vb.cc,.slice vb.ra vb.rn vb.rc] 30)) (.cells #[.int .i64 0,.slice none 0 0,.slice none 0 0] 30)
 have kb:=hide (grow_step b2 (grow_step b1 b0))
 have yA:=hide ((sbr_new w A.p va).below (grow_step b2 b1))
 have yB:=(sbr_new (w.alloc (.cells #[.int .i64 A.p,.slice va.ca va.cn va.cc,.slice va.ra va.rn va.rc] 30)) B.p vb).below b2
 have y0:=sbr_new ((w.alloc (.cells #[.int .i64 A.p,.slice va.ca va.cn va.cc,.slice va.ra va.rn va.rc] 30)).alloc (.cells #[.int .i64 B.p,.slice vb.ca vb.cn vb.cc,.slice vb.ra vb.rn vb.rc] 30)) 0 ⟨none,0,0,none,0,0⟩
 have hs1:(w.alloc (.cells #[.int .i64 A.p,.slice va.ca va.cn va.cc,.slice va.ra va.rn va.rc] 30)).heap.size=w.heap.size+1:=by simp
 have hs2:((w.alloc (.cells #[.int .i64 A.p,.slice va.ca va.cn va.cc,.slice va.ra va.rn va.rc] 30)).alloc (.cells #[.int .i64 B.p,.slice vb.ca vb.cn vb.cc,.slice vb.ra vb.rn vb.rc] 30)).heap.size=w.heap.size+1+1:=by simp
 rw[hs1]at yB
 rw[hs2]at y0
 have pA:=hA.wf
 have pB:=hB.wf
 have hpa1:=pA.p1
 have hpa2:=pA.p2
 have hpb1:=pB.p1
 have hpb2:=pB.p2
 go_enter Tryz.func92,Tryz.ntmps92
 go_upto_region 1 with(fail)
 clear b0 b1 b2 hs1 hs2
 generalize ((w.alloc (.cells #[.int .i64 A.p,.slice va.ca va.cn va.cc,.slice va.ra va.rn va.rc] 30)).alloc (.cells #[.int .i64 B.p,.slice vb.ca vb.cn vb.cc,.slice vb.ra vb.rn vb.rc] 30)).alloc (.cells #[.int .i64 0,.slice none 0 0,.slice none 0 0] 30)=w1 at*
 obtain⟨bA,hbA⟩: ∃bA,w.heap.size=bA:=⟨_,rfl⟩
 rw[hbA]at yA yB ⊢
 obtain⟨bB,hbB⟩: ∃bB,bA+1=bB:=⟨_,rfl⟩
 rw[hbB]at yB ⊢
 obtain⟨bx,hbx⟩: ∃bx,bB+1=bx:=⟨_,rfl⟩
 have y0:SBr w1 bx 0 ⟨none,0,0,none,0,0⟩:=by rw[←hbx,←hbB,←hbA];exact y0
 rw[hbx]
 have hge:Hid (w.heap.size≤bx∧w.heap.size≤bA∧w.heap.size≤bB∧bA≠bx∧bB≠bx):=hide o_m
 replace y0:=hide y0
 replace yB:=hide yB
 clear hbA hbB hbx
 have hlc:=hide (lcm_n hpa1 hpa2 hpb1 hpb2 w1)
 have q0:=yA.out.c0
 have q1:=yB.out.c0
 obtain⟨q,hq⟩: ∃q,Nat.lcm A.p B.p=q:=⟨_,rfl⟩
 rw[hq]at hlc
 have hq1:1≤q:=by rw[←hq];exact Nat.lcm_pos hpa1 hpb1
 have hqm:q≤16777216:=by rw[←hq];exact Nat.le_trans (Nat.le_of_dvd (Nat.mul_pos hpa1 hpb1) (Nat.lcm_dvd_mul _ _)) (Nat.le_trans (Nat.mul_le_mul hpa2 hpb2) (by decide))
 go_wp2_with fail
 refine hlc.out.mono ?_
 rintro e w2 ⟨rfl,rfl⟩
 clear hlc q0 q1
 have kk:=hide (Below.refl w2.heap.size w2)
 by_cases hbig:4096<q
 ·have hgt:decide ((4096:Int)<(q:Int))=true:=by rw[decide_eq_true_iff];omega
  have herr:Hid (jErr (Nat.lcm A.p B.p)=180):=hide (by rw[hq];exact if_pos hbig)
  have c0:=y0.out.c0
  have c1:=y0.out.c1
  have c2:=y0.out.c2
  have f0:=y0.out.f 0
  have f1:=y0.out.f 1
  have f2:=y0.out.f 2
  have ho:=only3 bx w2 (.int .i64 0) (.slice none 0 0) (.slice none 0 0)
  have hfin:=hide (sbr_fin (p':=0) (v':=⟨none,0,0,none,0,0⟩) y0.out)
  have kf:=hide (kb.out.trans (ho.below hge.out.1))
  clear ho y0 yA yB kb hA hB pA pB hq kk
  go_wp2
  refine bodyPost_ret (results_ct rfl _ _ bx 30 _ (0,0) _ rfl hfin.out Tryz.underlying30 rfl k_f) rfl ?_
  exact⟨A,⟨kf.out,.inl ⟨by rw[herr.out];decide,by rw[herr.out];rfl⟩⟩,fun h=>absurd h (by rw[herr.out];decide)⟩
 have hgt:decide ((4096:Int)<(q:Int))=false:=by rw[decide_eq_false_iff_not];omega
 have herr:Hid (jErr (Nat.lcm A.p B.p)=0):=hide (by rw[hq];exact if_neg hbig)
 obtain⟨rA,oA,gA,hvA,hrA,cA,hgA,hlA⟩:=(hA.below kb.out).row (i:=0) o_m
 obtain⟨rB,oB,gB,hvB,hrB,cB,hgB,hlB⟩:=(hB.below kb.out).row (i:=0) o_m
 have qA:=yA.out.c2
 have qB:=yB.out.c2
 rw[Nat.add_zero]at cA cB
 rw[hvA]at qA
 rw[hvB]at qB
 have hAl:=yA.out.lt
 have hBl:=yB.out.lt
 have hxl:=hide y0.out.lt
 replace hgA:=hide hgA
 replace hgB:=hide hgB
 have hnrA:0<va.rn:=by have:=hA.rn;omega
 have hnrB:0<vb.rn:=by have:=hB.rn;omega
 go_upto_region 4 with(fail)
 go_cut [9] (fun v9 wc=> ∃b9 gr g0:Nat,v9= .pointer (some ⟨b9,0,none⟩)∧Hid (SBr wc b9 q ⟨none,0,0,some ⟨gr,0,none⟩,1,1⟩)∧Hid (wc.heap[gr]? =some (.cells #[.slice (some ⟨g0,0,none⟩) q q] 80 (0,0)))∧Hid (BB wc g0 (both (obm meet) (row A 0) (row B 0) q))∧w2.heap.size≤b9∧w2.heap.size≤gr∧Hid (Below w2.heap.size w2 wc))
 case first=>
  refine wp_region_held_drew (S:=(fun w'=>(w'.cell? ⟨bA,2,none⟩=some (.slice (some ⟨rA,oA,none⟩) va.rn va.rc)∧w'.cell? ⟨rA,oA,none⟩=some (.slice (some ⟨gA,0,none⟩) A.p A.p))∧(w'.cell? ⟨bB,2,none⟩=some (.slice (some ⟨rB,oB,none⟩) vb.rn vb.rc)∧w'.cell? ⟨rB,oB,none⟩=some (.slice (some ⟨gB,0,none⟩) B.p B.p)))) k_f (⟨⟨(Below.cell (p:=⟨bA,2,none⟩) (grow_drew (Below.refl _ _)) hAl).trans qA,(Below.cell (p:=⟨rA,_,none⟩) (grow_drew (Below.refl _ _)) hrA).trans cA⟩,⟨(Below.cell (p:=⟨bB,2,none⟩) (grow_drew (Below.refl _ _)) hBl).trans qB,(Below.cell (p:=⟨rB,_,none⟩) (grow_drew (Below.refl _ _)) hrB).trans cB⟩⟩) (fun hHeld=> ?_)
  show wpAnyH _ _ _ _ _ 14 _ _ _
  have kW:=grow_drew (Below.refl w2.heap.size w2)
  generalize w2.drew=wQ at*
  repeat' first
   |with_reducible exact AllReadyH.nil
   |(
    refine tkz 0 22 ?_
    (try simp only[pz]))
   |(
    refine tkz 1 23 ?_
    (try simp only[pz]))
   |(
    refine tkz 2 24 ?_
    (try simp only[pz]))
   |(
    refine tkz 3 25 ?_
    (try simp only[pz]))
   |(
    refine tkz 4 26 ?_
    (try simp only[pz]))
   |(
    refine tkz 5 27 ?_
    (try simp only[pz]))
   |(
    refine tkz 6 28 ?_
    (try simp only[pz]))
   |(
    refine tkz 7 29 ?_
    (try simp only[pz]))
   |(
    refine tkz 8 30 ?_
    (try simp only[pz]))
   |(
    refine tkz 9 31 ?_
    (try simp only[pz]))
   |(refine wpAnyH_ready (rs:=[10,12]) ?_ ?_ ?_;decide+kernel;simp)
   |(refine wpAnyH_ready (rs:=[11,12]) ?_ ?_ ?_;decide+kernel;simp)
   |(refine wpAnyH_ready (rs:=[12]) ?_ ?_ ?_;decide+kernel;simp)
   |(refine wpAnyH_ready (rs:=[13]) ?_ ?_ ?_;decide+kernel;simp)
   |(refine wpAnyH_ready (rs:=[11]) ?_ ?_ ?_;decide+kernel;simp)
   |(refine wpAnyH_ready (rs:=[10]) ?_ ?_ ?_;decide+kernel;simp)
   |(
    first
     |(
      refine AllReadyH.cons (i:=10) (o:=⟨some 32,_,_,_,_,_⟩) rfl (fun K hK=> ?_) ?_
      go_simp
      go_at_call 129;refine Calls.mono (both_n (q:=q) (hgA.out.below kW) (hgB.out.below kW) hlA hlB o_m o_m o_m o_m o_m) ?_;rintro e wkA ⟨g0,rfl,hg0,hge0,kA⟩
      try have z9:=z9.below kA
      have kW:=grow_step kA kW
      try go_wp2_with fail)
     |(
      refine AllReadyH.cons (i:=11) (o:=⟨some 33,_,_,_,_,_⟩) rfl (fun K hK=> ?_) ?_
      go_simp
      go_at_call 40;refine Calls.mono (whole_o hg0 (both_len _ _ _ _) o_m o_m) ?_;rintro e wkB ⟨gr,rfl,hger,hgr,hg1,kB⟩
      have hgw2:=Nat.le_trans kW.size hger
      try have z9:=z9.below kB
      have kW:=grow_step kB kW
      try go_wp2_with fail)
     |(
      refine AllReadyH.cons (i:=12) (o:=⟨some 9,_,_,_,_,_⟩) rfl (fun K hK=> ?_) ?_
      obtain⟨wL,b9,eL,eb9,z9,hb9,kL,kW⟩:=al_b kW (.cells #[.int .i64 0,.slice none 0 0,.slice none 0 0] 30)
      replace z9:SBr wL b9 0 ⟨none,0,0,none,0,0⟩:=z9
      try have hg0:=hg0.below kL
      try have hg1:=hg1.below kL
      try have hgr:=(kL.block _ (Array.getElem?_eq_some_iff.1 hgr).1).trans hgr
      go_simp
      rw[eL.out]
      (try simp only[eb9.out]))
     |(
      refine AllReadyH.cons (i:=13) (o:=⟨none,_,_,_,_,_⟩) rfl (fun K hK=> ?_) ?_
      have f0:=z9.c0
      have f1:=z9.c1
      have f2:=z9.c2
      have f3:=z9.f 0
      have f4:=z9.f 1
      have f5:=z9.f 2
      obtain⟨w8x,e8,y9,kZ,oZ⟩:=fst_s kW hb9 z9 q ⟨none,0,0,some ⟨gr,0,none⟩,1,1⟩
      go_simp
      rw[e8.out]
      clear f0 f1 f2 f3 f4 f5
      have kW:=kZ)
    refine hK.out _ _ ?_ ?_
    ·first|with_reducible exact trivial|((try dsimp only);exact⟨⟨(Below.cell (p:=⟨bA,2,none⟩) kW hAl).trans qA,(Below.cell (p:=⟨rA,_,none⟩) kW hrA).trans cA⟩,⟨(Below.cell (p:=⟨bB,2,none⟩) kW hBl).trans qB,(Below.cell (p:=⟨rB,_,none⟩) kW hrB).trans cB⟩⟩)
    clear hK K hHeld;intro hHeld
    (try simp only[pz]))
  all_goals
   refine wpAnyH_done ?_ ?_ _
   ·decide+kernel
   have n9:gr≠b9:=by
    rintro rfl
    have:=hgr.symm.trans z9
    simp at this
   have n8:g0≠b9:=by
    rintro rfl
    have:=hg1.symm.trans z9
    simp at this
   have t1:=hide y9
   have t2:=hide ((oZ.block _ n9).trans hgr)
   have t3:=hide (hg1.only oZ n8)
   have t4:=hide kW
   have t5:w2.heap.size≤gr:=hgw2
   clear kW hHeld z9 hg0 hg1 hgr oZ y9
   go_wp2_with fail
   go_meet
   case rel=>exact⟨b9,gr,g0,rfl,t1,t2,t3,hb9,t5,t4⟩
 case rest=>
 obtain⟨b9,gr,g0,rfl,y9,hgr,hg0,hb9,hgrw,kc⟩:=hcut
 generalize wc=w3 at*
 have hw2:=kb.out.size
 replace kb:=hide (grow_step kc.out kb.out)
 replace yA:=hide (yA.out.below kc.out)
 replace yB:=hide (yB.out.below kc.out)
 replace y0:=hide (y0.out.below kc.out)
 clear kc cA cB hgA hgB qA qB hvA hvB hrA hrB hlA hlB kk
 have hcu:=hide (cuts_n (ac:=va.cc) (bc:=vb.cc) (hA.cu.below kb.out) (hB.cu.below kb.out) pA.up pB.up o_m o_m)
 have q0:=yA.out.c1
 have q1:=yB.out.c1
 go_wp2_with fail
 refine hcu.out.mono ?_
 rintro e w5 ⟨la,ln,lc,l,rfl,hl,hlu,hlm,hln,hlc1,hlc2,k5⟩
 have hor:OR q w5 w.heap.size (.slice (some ⟨gr,0,none⟩) 1 1) 1 [g0]:=or_lit o_m ((k5.block _ (Array.getElem?_eq_some_iff.1 hgr.out).1).trans hgr.out)
 have hgr5:=hide ((k5.block _ (Array.getElem?_eq_some_iff.1 hgr.out).1).trans hgr.out)
 have hJ0:Hid (JM w w.heap.size b9 gr w5 q w5 ⟨none,0,0,some ⟨gr,0,none⟩,1,1⟩ [] [] [g0] [both (obm meet) (row A 0) (row B 0) q]):=hide ⟨y9.out.below k5,.inl ⟨rfl,rfl,rfl⟩,Pd.pm_nil w5,hor,⟨rfl,fun i h h'=>by
  obtain rfl:i=0:=by simp at h;omega
  exact hg0.out.below k5⟩,fun b _ _ _=>rfl,fun g e=>by cases e;exact .inl rfl,grow_step k5 kb.out,Nat.le_refl _⟩
 have hb9w:Hid (w.heap.size≤b9):=hide o_m
 have hyA:=hide (yA.out.below k5)
 have hyB:=hide (yB.out.below k5)
 have hy0:=hide (y0.out.below k5)
 have hy9:=hide (y9.out.below k5)
 have hn5:Hid (w.heap.size≤w5.heap.size):=hide (by have:=kb.out.size;have:=k5.size;omega)
 have hne:Hid ((bA≠b9∧bA≠gr)∧(bB≠b9∧bB≠gr)∧(bx≠b9∧bx≠gr)):=hide (by have:=hAl;have:=hBl;have:=hxl.out;omega)
 have hfl:Hid (∀x,(jf (obm meet) A B q x).length=q):=hide fun x=>both_len _ _ _ _
 have hff:Hid (∀x y,x≤y→(∀c∈l,¬(x<c∧c≤y))→jf (obm meet) A B q x=jf (obm meet) A B q y):=hide (jf_same hlm)
 have hj0:Hid (Jn q l (jf (obm meet) A B q) 0 (whole (both (obm meet) (row A 0) (row B 0) q))):=hide (jn_zero (both_len _ _ _ _) fun x hx=>jf_low hlm x hx)
 have hll:=hl.1
 replace hl:=hide hl
 replace hlu:=hide hlu
 replace hlm:=hide hlm
 clear hcu q0 q1 k5 hor hgr hg0 kb yA yB y0 y9 hgrw
 go_wp2_with fail
 go_loopw [11] (fun vi wr=> ∃(k:Nat) (E:RE) (v:SV) (qC:List ZV) (qR:List Nat),k≤ln∧vi= .int .i64 k∧JM w w.heap.size b9 gr w5 q wr v qC E.cs qR E.rs∧Jn q l (jf (obm meet) A B q) k E∧v.cn≤k) (fun vi _=>ln-(intOf vi).toNat)
 case atStart=>exact⟨0,_,_,_,_,Nat.zero_le _,rfl,hJ0.out,hj0.out,Nat.le_refl _⟩
 case round=>
  obtain⟨k,E,v,qC,qR,hk,rfl,hJ,hjn,hcnk⟩:=hrel
  have yA:Hid (SBr wr bA A.p va):=hide ((hJ.kp bA hyA.out.lt hne.out.1.1 hne.out.1.2).trans hyA.out)
  have yB:Hid (SBr wr bB B.p vb):=hide ((hJ.kp bB hyB.out.lt hne.out.2.1.1 hne.out.2.1.2).trans hyB.out)
  have y0:Hid (SBr wr bx 0 ⟨none,0,0,none,0,0⟩):=hide ((hJ.kp bx hy0.out.lt hne.out.2.2.1 hne.out.2.2.2).trans hy0.out)
  replace hJ:=hide hJ
  replace hjn:=hide hjn
  by_cases hkl:k<ln
  ·obtain⟨lb,lo,z,rfl,hlb,z0,z1,hz,hzl⟩:=(cn_keep hl.out hJ.out.kp hJ.out.sz hy9.out hgr5.out).2 k hkl o_m
   obtain⟨x,hx⟩: ∃x,l[k]'o_m=x:=⟨_,rfl⟩
   rw[hx]at hz
   have hAr:=hide (hA.below hJ.out.bl)
   have hBr:=hide (hB.below hJ.out.bl)
   obtain⟨pA',hpA⟩: ∃p,plc A.cs x=p:=⟨_,rfl⟩
   obtain⟨pB',hpB⟩: ∃p,plc B.cs x=p:=⟨_,rfl⟩
   have hpAl:pA'<va.cn+1:=by have:=pA.pl x;have:=hAr.out.cn;omega
   have hpBl:pB'<vb.cn+1:=by have:=pB.pl x;have:=hBr.out.cn;omega
   obtain⟨rA,oA,gA,hvA,hrA,cA,hgA,hlA⟩:=hAr.out.row hpAl
   obtain⟨rB,oB,gB,hvB,hrB,cB,hgB,hlB⟩:=hBr.out.row hpBl
   have hrow:Hid (both (obm meet) (row A pA') (row B pB') q=jf (obm meet) A B q x):=hide (by unfold jf rowAt;rw[hpA,hpB])
   have qA0:=yA.out.c0
   have qA1:=yA.out.c1
   have qA2:=yA.out.c2
   have qB0:=yB.out.c0
   have qB1:=yB.out.c1
   have qB2:=yB.out.c2
   rw[hvA]at qA2
   rw[hvB]at qB2
   have hAl:=yA.out.lt
   have hBl:=yB.out.lt
   have hrnA:pA'<va.rn:=by have:=hAr.out.rn;omega
   have hrnB:pB'<vb.rn:=by have:=hBr.out.rn;omega
   replace hgA:=hide hgA
   replace hgB:=hide hgB
   replace hz:=hide hz
   replace hpA:=hide hpA
   replace hpB:=hide hpB
   clear hA hB pA pB
   go_upto_region 9 with(fail)
   refine wp_region_held_drew (S:=(fun w'=>(w'.cell? ⟨bA,0,none⟩=some (.int .i64 A.p)∧w'.cell? ⟨bA,1,none⟩=some (.slice va.ca va.cn va.cc)∧w'.cell? ⟨bA,2,none⟩=some (.slice (some ⟨rA,oA,none⟩) va.rn va.rc)∧w'.cell? ⟨rA,oA+pA',none⟩=some (.slice (some ⟨gA,0,none⟩) A.p A.p))∧(w'.cell? ⟨bB,0,none⟩=some (.int .i64 B.p)∧w'.cell? ⟨bB,1,none⟩=some (.slice vb.ca vb.cn vb.cc)∧w'.cell? ⟨bB,2,none⟩=some (.slice (some ⟨rB,oB,none⟩) vb.rn vb.rc)∧w'.cell? ⟨rB,oB+pB',none⟩=some (.slice (some ⟨gB,0,none⟩) B.p B.p))∧(w'.cell? ⟨lb,lo+k*2,none⟩=some (.bool z.s)∧w'.cell? ⟨lb,lo+k*2+1,none⟩=some (.slice z.a z.l z.c)))) k_f (⟨⟨(Below.cell (p:=⟨bA,0,none⟩) (grow_drew (Below.refl _ _)) hAl).trans qA0,(Below.cell (p:=⟨bA,1,none⟩) (grow_drew (Below.refl _ _)) hAl).trans qA1,(Below.cell (p:=⟨bA,2,none⟩) (grow_drew (Below.refl _ _)) hAl).trans qA2,(Below.cell (p:=⟨rA,_,none⟩) (grow_drew (Below.refl _ _)) hrA).trans cA⟩,⟨(Below.cell (p:=⟨bB,0,none⟩) (grow_drew (Below.refl _ _)) hBl).trans qB0,(Below.cell (p:=⟨bB,1,none⟩) (grow_drew (Below.refl _ _)) hBl).trans qB1,(Below.cell (p:=⟨bB,2,none⟩) (grow_drew (Below.refl _ _)) hBl).trans qB2,(Below.cell (p:=⟨rB,_,none⟩) (grow_drew (Below.refl _ _)) hrB).trans cB⟩,⟨(Below.cell (p:=⟨lb,_,none⟩) (grow_drew (Below.refl _ _)) hlb).trans z0,(Below.cell (p:=⟨lb,_,none⟩) (grow_drew (Below.refl _ _)) hlb).trans z1⟩⟩) (fun hHeld=> ?_)
   show wpAnyH _ _ _ _ _ 24 _ _ _
   have kW:=grow_drew (Below.refl wr.heap.size wr)
   generalize wr.drew=wQ at*
   refine tkz 0 45 ?_
   (try simp only[pz])
   refine tkz 1 46 ?_
   (try simp only[pz])
   refine tkz 2 47 ?_
   (try simp only[pz])
   refine tkz 3 48 ?_
   (try simp only[pz])
   refine tkz 4 49 ?_
   (try simp only[pz])
   refine tkz 5 50 ?_
   (try simp only[pz])
   refine tkz 6 51 ?_
   (try simp only[pz])
   refine tkz 10 55 ?_
   (try simp only[pz])
   refine tkz 11 56 ?_
   (try simp only[pz])
   refine tkz 12 57 ?_
   (try simp only[pz])
   refine tkz 13 58 ?_
   (try simp only[pz])
   refine tkz 14 59 ?_
   (try simp only[pz])
   refine tkz 15 60 ?_
   (try simp only[pz])
   refine tkz 16 61 ?_
   (try simp only[pz])
   refine tkz 20 65 ?_
   (try simp only[pz])
   refine tkz 21 66 ?_
   (try simp only[pz])
   refine ryz 7 (some 52) (fun K hK=> ?_) AllReadyH.nil
   go_simp
   go_at_call 55;refine Calls.mono (place_n' (hvA:=hvA) (hAr.out.below kW) o_m (hz.out.below kW) o_m) ?_;rintro e wkA ⟨rfl,kA⟩
   rw[hpA.out]
   have kW:=grow_step kA kW
   try go_wp2_with fail
   refine hK.out _ _ ?_ ?_
   ·first|with_reducible exact trivial|((try dsimp only);exact⟨⟨(Below.cell (p:=⟨bA,0,none⟩) kW hAl).trans qA0,(Below.cell (p:=⟨bA,1,none⟩) kW hAl).trans qA1,(Below.cell (p:=⟨bA,2,none⟩) kW hAl).trans qA2,(Below.cell (p:=⟨rA,_,none⟩) kW hrA).trans cA⟩,⟨(Below.cell (p:=⟨bB,0,none⟩) kW hBl).trans qB0,(Below.cell (p:=⟨bB,1,none⟩) kW hBl).trans qB1,(Below.cell (p:=⟨bB,2,none⟩) kW hBl).trans qB2,(Below.cell (p:=⟨rB,_,none⟩) kW hrB).trans cB⟩,⟨(Below.cell (p:=⟨lb,_,none⟩) kW hlb).trans z0,(Below.cell (p:=⟨lb,_,none⟩) kW hlb).trans z1⟩⟩)
   clear hK K hHeld;intro hHeld
   (try simp only[pz])
   refine tkz 8 53 ?_
   (try simp only[pz])
   refine tkz 9 54 ?_
   (try simp only[pz])
   refine ryz 17 (some 62) (fun K hK=> ?_) AllReadyH.nil
   go_simp
   go_at_call 55;refine Calls.mono (place_n' (hvA:=hvB) (hBr.out.below kW) o_m (hz.out.below kW) o_m) ?_;rintro e wkB ⟨rfl,kB⟩
   rw[hpB.out]
   have kW:=grow_step kB kW
   try go_wp2_with fail
   refine hK.out _ _ ?_ ?_
   ·first|with_reducible exact trivial|((try dsimp only);exact⟨⟨(Below.cell (p:=⟨bA,0,none⟩) kW hAl).trans qA0,(Below.cell (p:=⟨bA,1,none⟩) kW hAl).trans qA1,(Below.cell (p:=⟨bA,2,none⟩) kW hAl).trans qA2,(Below.cell (p:=⟨rA,_,none⟩) kW hrA).trans cA⟩,⟨(Below.cell (p:=⟨bB,0,none⟩) kW hBl).trans qB0,(Below.cell (p:=⟨bB,1,none⟩) kW hBl).trans qB1,(Below.cell (p:=⟨bB,2,none⟩) kW hBl).trans qB2,(Below.cell (p:=⟨rB,_,none⟩) kW hrB).trans cB⟩,⟨(Below.cell (p:=⟨lb,_,none⟩) kW hlb).trans z0,(Below.cell (p:=⟨lb,_,none⟩) kW hlb).trans z1⟩⟩)
   clear hK K hHeld;intro hHeld
   (try simp only[pz])
   refine tkz 18 63 ?_
   (try simp only[pz])
   refine tkz 19 64 ?_
   (try simp only[pz])
   refine ryz 22 (some 67) (fun K hK=> ?_) AllReadyH.nil
   go_simp
   go_at_call 129;refine Calls.mono (both_n (q:=q) (hgA.out.below kW) (hgB.out.below kW) hlA hlB o_m o_m o_m o_m o_m) ?_;rintro e wkC ⟨g,rfl,hg,hgge,kC⟩
   have kW:=grow_step kC kW
   try go_wp2_with fail
   refine hK.out _ _ ?_ ?_
   ·first|with_reducible exact trivial|((try dsimp only);exact⟨⟨(Below.cell (p:=⟨bA,0,none⟩) kW hAl).trans qA0,(Below.cell (p:=⟨bA,1,none⟩) kW hAl).trans qA1,(Below.cell (p:=⟨bA,2,none⟩) kW hAl).trans qA2,(Below.cell (p:=⟨rA,_,none⟩) kW hrA).trans cA⟩,⟨(Below.cell (p:=⟨bB,0,none⟩) kW hBl).trans qB0,(Below.cell (p:=⟨bB,1,none⟩) kW hBl).trans qB1,(Below.cell (p:=⟨bB,2,none⟩) kW hBl).trans qB2,(Below.cell (p:=⟨rB,_,none⟩) kW hrB).trans cB⟩,⟨(Below.cell (p:=⟨lb,_,none⟩) kW hlb).trans z0,(Below.cell (p:=⟨lb,_,none⟩) kW hlb).trans z1⟩⟩)
   clear hK K hHeld;intro hHeld
   (try simp only[pz])
   refine tkz 23 12 ?_
   (try simp only[pz])
   refine wpAnyH_done ?_ ?_ _
   ·decide+kernel
   have hJ2:=hide (hJ.out.below hn5.out kW)
   have hzk:=hide (hz.out.below kW)
   have z0:=(Below.cell (p:=⟨lb,_,none⟩) kW hlb).trans z0
   have z1:=(Below.cell (p:=⟨lb,_,none⟩) kW hlb).trans z1
   have hlb:=Nat.lt_of_lt_of_le hlb kW.size
   rw[hrow.out]at hg
   replace hg:=hide hg
   clear kW hHeld hJ hz qA0 qA1 qA2 qB0 qB1 qB2 cA cB hrA hrB hAl hBl hgA hgB hAr hBr hlA hlB
   generalize wkC=wE at*
   obtain⟨hqR,gl,gc,evR,hgc1,hgc2,hgl0,hglo,-,hglc⟩:=hJ2.out.og.any (by decide) (Pd.encr_len q)
   simp only[Value.slice.injEq]at evR
   obtain⟨evR,-,rfl⟩:=evR
   have hrbl:=hJ2.out.rb.len
   have hjl:=hjn.out.len
   obtain⟨m,hm⟩: ∃m,v.rn=m+1:=⟨E.cs.length,by omega⟩
   have hmE:m=E.cs.length:=by omega
   have c9:=hJ2.out.y.c2
   rw[evR,hm]at c9
   have clast:=hglc m o_m 0 (by decide)
   rw[Nat.mul_one,Nat.add_zero]at clast
   have blast:=hJ2.out.rb.row m o_m o_m
   have erow:E.rs[m]'o_m=row E E.cs.length:=by
    unfold row
    rw[←hmE]
    simp[List.getD,show m<E.rs.length by omega]
   rw[erow]at blast
   have hlast:(row E E.cs.length).length=q:=by rw[←erow];exact hjn.out.row _ (List.getElem_mem _)
   obtain⟨gq,hgq⟩: ∃gq,qR[m]'o_m=gq:=⟨_,rfl⟩
   rw[hgq]at blast clast
   replace clast:wE.cell? ⟨gl,m,none⟩=some (.slice (some ⟨gq,0,none⟩) q q):=clast
   have hsm:=hide (same_n hg.out blast (hfl.out x) hlast o_m)
   have hmb:m≤268435456:=by have:=hJ2.out.ccn;omega
   replace hmE:=hide hmE
   replace hm:=hide hm
   replace hrbl:=hide hrbl
   replace hjl:=hide hjl
   replace hqR:=hide hqR
   replace hgl0:=hide hgl0
   clear erow hlast blast hglc hgc1 hgc2
   go_wp2_with fail
   refine hsm.out.mono ?_
   rintro e wF ⟨rfl,kF⟩
   replace hJ2:=hide (hJ2.out.below hn5.out kF)
   replace hg:=hide (hg.out.below kF)
   replace hzk:=hide (hzk.out.below kF)
   replace z0:=(Below.cell (p:=⟨lb,_,none⟩) kF hlb).trans z0
   replace z1:=(Below.cell (p:=⟨lb,_,none⟩) kF hlb).trans z1
   replace hlb:=Nat.lt_of_lt_of_le hlb kF.size
   have hst:=jn_step hjn.out (show k<l.length by omega) hlu.out hfl.out hff.out
   rw[hx]at hst
   clear kF clast c9 hsm hgl0 hglo hqR hrbl hjl
   by_cases hs:row E E.cs.length=jf (obm meet) A B q x
   ·have hdc:decide (jf (obm meet) A B q x=row E E.cs.length)=true:=by rw[decide_eq_true_iff];exact hs.symm
    rw[hdc]
    have hst2:Hid (Jn q l (jf (obm meet) A B q) (k+1) E):=hide (by unfold layE at hst;rw[if_pos hs]at hst;exact hst)
    clear hst hs hdc z0 z1
    go_wp2
    exact⟨⟨k+1,E,v,qC,qR,by omega,by go_num,hJ2.out,hst2.out,by omega⟩,by simp[intOf];omega⟩
   have hdc:decide (jf (obm meet) A B q x=row E E.cs.length)=false:=by rw[decide_eq_false_iff_not];exact fun h=>hs h.symm
   rw[hdc]
   have hst2:Hid (Jn q l (jf (obm meet) A B q) (k+1) ⟨E.p,E.cs++ [x],E.rs++ [jf (obm meet) A B q x]⟩):=hide (by unfold layE at hst;rw[if_neg hs]at hst;exact hst)
   clear hst hs hdc
   have c91:=hJ2.out.y.c1
   have hb9l:=hJ2.out.y.lt
   go_upto_region 12 with(fail)
   go_cut [] (fun wc=> ∃(v5:SV) (qC5:List ZV),v5.ra=v.ra∧v5.rn=v.rn∧v5.rc=v.rc∧v5.cn=v.cn+1∧Hid (JM w w.heap.size b9 gr w5 q wc v5 qC5 (E.cs++ [x]) qR E.rs)∧Hid (BB wc g (jf (obm meet) A B q x)))
   case first=>
    refine wp_region_held_drew (S:=(fun _=>True)) k_f (trivial) (fun hHeld=> ?_)
    show wpAnyH _ _ _ _ _ 10 _ _ _
    have kW:=grow_drew (Below.refl wF.heap.size wF)
    generalize wF.drew=wQ at*
    repeat' first
     |with_reducible exact AllReadyH.nil
     |(
      refine tkz 0 80 ?_
      (try simp only[pz]))
     |(
      refine tkz 2 82 ?_
      (try simp only[pz]))
     |(
      refine tkz 3 83 ?_
      (try simp only[pz]))
     |(
      refine tkz 4 84 ?_
      (try simp only[pz]))
     |(
      refine tkz 8 88 ?_
      (try simp only[pz]))
     |(refine wpAnyH_ready (rs:=[1,5]) ?_ ?_ ?_;decide+kernel;simp)
     |(refine wpAnyH_ready (rs:=[5]) ?_ ?_ ?_;decide+kernel;simp)
     |(refine wpAnyH_ready (rs:=[6]) ?_ ?_ ?_;decide+kernel;simp)
     |(refine wpAnyH_ready (rs:=[7]) ?_ ?_ ?_;decide+kernel;simp)
     |(refine wpAnyH_ready (rs:=[9]) ?_ ?_ ?_;decide+kernel;simp)
     |(refine wpAnyH_ready (rs:=[1,6]) ?_ ?_ ?_;decide+kernel;simp)
     |(refine wpAnyH_ready (rs:=[1]) ?_ ?_ ?_;decide+kernel;simp)
     |(
      first
       |(
        refine AllReadyH.cons (i:=1) (o:=⟨some 81,_,_,_,_,_⟩) rfl (fun K hK=> ?_) ?_
        have u9:=(Below.cell (p:=⟨b9,1,none⟩) kW hb9l).trans c91
        go_simp)
       |(
        refine AllReadyH.cons (i:=5) (o:=⟨some 85,_,_,_,_,_⟩) rfl (fun K hK=> ?_) ?_
        have u0:=(Below.cell (p:=⟨lb,_,none⟩) kW hlb).trans z0
        have u1:=(Below.cell (p:=⟨lb,_,none⟩) kW hlb).trans z1
        go_simp)
       |(
        refine AllReadyH.cons (i:=6) (o:=⟨some 86,_,_,_,_,_⟩) rfl (fun K hK=> ?_) ?_
        obtain⟨wL,b86,eL,e86,c86,-,kL,kW⟩:=al_b kW (.cells #[.bool z.s,.slice z.a z.l z.c] 38)
        go_simp
        rw[eL.out]
        (try simp only[e86.out]))
       |(
        refine AllReadyH.cons (i:=7) (o:=⟨some 87,_,_,_,_,_⟩) rfl (fun K hK=> ?_) ?_
        have hJc:=hide (hJ2.out.below hn5.out kW)
        have hzw:=hide (hzk.out.below kW)
        have hgw:=hide (hg.out.below kW)
        refine Pd.anyH_append rfl _ _ 23 rfl _ _ rfl rfl _ (appe_run Tryz.underlying23 Pd.infoI rfl (by decide) (by decide) Pd.zv_len Pd.zv_one (OI.flip hJc.out.oc) z (ad:=⟨b86,0,none⟩) (c:=1) (fun j u hu=>by rw[Addr.add_lit,Nat.zero_add];exact Pd.zv_cells (show ZB _ _ z.s z.a z.l z.c from c86) j u hu) o_m hJc.out.sz _) ?_
        rintro v' wD ⟨hoD,hgD,-⟩
        obtain⟨-,gv,cv,rfl,-⟩:=hoD.any (by decide) Pd.zv_len
        have yD:=hJc.out.y.grown hgD hJc.out.cob (by decide)
        have hgD2:=hgw.out.grown hgD hJc.out.cob (by decide))
       |(
        refine AllReadyH.cons (i:=9) (o:=⟨none,_,_,_,_,_⟩) rfl (fun K hK=> ?_) ?_
        have f0:=yD.c1
        have f1:=yD.f 1
        go_simp
        have hJ3:=hide (hJc.out.cut hn5.out hb9w.out hzw.out hzl hoD hgD)
        have hg3:=hide (hgD2.grown (grown_only (Only.set b9 1 wD (.slice (some ⟨gv,0,none⟩) (v.cn+1) cv))) (fun g' e=>by cases e;exact yD.own) (by decide)))
      refine hK.out _ _ ?_ ?_
      ·first|with_reducible exact trivial|((try dsimp only);exact trivial)
      clear hK K hHeld;intro hHeld
      (try simp only[pz]))
    all_goals
     refine wpAnyH_done ?_ ?_ _
     ·decide+kernel
     clear hHeld
     go_wp2_with fail
     go_meet
     case rel=>exact⟨⟨some ⟨gv,0,none⟩,v.cn+1,cv,v.ra,v.rn,v.rc⟩,_,rfl,rfl,rfl,rfl,hJ3,hg3⟩
   case rest=>
   obtain⟨v5,qC5,e1,e2,e3,e4,hJ5,hg5⟩:=hcut
   generalize wc=wG at*
   have hr5:v5.rn≤1073741824:=by rw[e2,hm.out];omega
   have hcn5:Hid (v5.cn≤k+1):=hide o_m
   clear e1 e2 e3 e4
   clear c91 hb9l z0 z1 hJ2 hg hzk hjn
   have c92:=hJ5.out.y.c2
   have bl:=below_alloc wG (.cells #[.slice (some ⟨g,0,none⟩) q q] 80)
   have hJ6:=hide (hJ5.out.below hn5.out bl)
   have hg6:=hide (hg5.out.below bl)
   have src:Hid (∀j u,(encr q g)[j]? =some u→(wG.alloc (.cells #[.slice (some ⟨g,0,none⟩) q q] 80)).cell? ((⟨wG.heap.size,0,none⟩:Addr).add j)=some u):=hide fun j u hu=>by
    rw[Addr.add_lit,Nat.zero_add,cell_of_row _ _ _ _ _ (0,0) (heap_alloc_new wG _)]
    simpa [encr] using hu
   have hbs:Hid (w.heap.size≤(wG.alloc (.cells #[.slice (some ⟨g,0,none⟩) q q] 80)).heap.size):=hide hJ6.out.bl.size
   clear bl hJ5 hg5
   go_wp2_with(refine appe_wp Tryz.underlying28 infoRB rfl (by decide) (by decide) (Pd.encr_len q) (Pd.encr_one q) rfl _ _ rfl rfl (.inr hJ6.out.og) g ⟨_,_,rfl,src.out⟩ hr5 hbs.out ?_)
   intro v2 wH ho2 hg2 hv2
   obtain⟨-,gv,cv,rfl,-⟩:=ho2.any (by decide) (Pd.encr_len q)
   have y2:=hJ6.out.y.grown hg2 (fun g' e=>(Pd.own_blk hJ6.out.og.own g' e).2) (by decide)
   have hJ7:=hide (hJ6.out.rowS hn5.out hb9w.out hg6.out ho2 hg2 (hv2.imp id fun e=>e.trans (by simp)))
   have d2:=y2.c2
   have f2:=y2.f 2
   clear ho2 hg2 hv2 y2 hJ6 hg6 src hbs
   go_wp2
   exact⟨⟨k+1,⟨E.p,E.cs++ [x],E.rs++ [jf (obm meet) A B q x]⟩,_,_,_,by omega,by go_num,hJ7.out,hst2.out,hcn5.out⟩,by simp[intOf];omega⟩
  obtain rfl:k=ln:=by omega
  obtain⟨p',cs',rs'⟩:=E
  obtain rfl:p'=q:=hjn.out.p
  have hjq:Jn p' l (jf (obm meet) A B p') l.length ⟨p',cs',rs'⟩:=by rw[hll];exact hjn.out
  have hjE:Hid (JnR meet A B ⟨p',cs',rs'⟩):=hide ⟨l,hlu.out,hlm.out,by rw[hq];exact hjq,by have:=hA.cn;have:=hB.cn;omega⟩
  have hwr:=(jn_end pA pB hq1 o_m (by rw[←hq];exact Nat.dvd_lcm_left _ _) (by rw[←hq];exact Nat.dvd_lcm_right _ _) hjq).1
  have hrs:=hJ.out.toRS hwr
  have t0:=hJ.out.y.c0
  have t1:=hJ.out.y.c1
  have t2:=hJ.out.y.c2
  have c0:=y0.out.c0
  have c1:=y0.out.c1
  have c2:=y0.out.c2
  have f0:=y0.out.f 0
  have f1:=y0.out.f 1
  have f2:=y0.out.f 2
  have hfin:=hide (sbr_fin (p':=p') (v':=v) y0.out)
  have ho:=only3 bx wr (.int .i64 p') (.slice v.ca v.cn v.cc) (.slice v.ra v.rn v.rc)
  have kf:=hide (hJ.out.bl.trans (ho.below hge.out.1))
  have hr2:=hide (rs_only hrs y0.out ho)
  clear hrs ho hJ hjn hjq hwr hq hll hA hB pA pB y0 yA yB
  go_wp2
  refine bodyPost_ret (results_ct rfl _ _ bx 30 _ (0,0) _ rfl hfin.out Tryz.underlying30 rfl k_f) rfl ?_
  exact⟨⟨p',cs',rs'⟩,⟨kf.out,.inr ⟨herr.out,v,rfl,hr2.out⟩⟩,fun _=>hjE.out⟩
end Cr
namespace Cr
open Pd (SN SV ZV plc OwZ OwI zI Pm encL SpZ encr grown_only al_b)

theorem cn_list {w:World}{ad:Option Addr}{n:Nat}{xs:List Int}(h:CN w ad n xs)(h0:0<n): ∃(b off:Nat) (q:List ZV),ad=some ⟨b,off,none⟩∧q.length=n∧Pm w q xs∧∀j u,(encL ZV.enc q)[j]? =some u→w.cell? ((⟨b,off,none⟩:Addr).add j)=some u:=by
 have hl:=h.1
 obtain⟨b,off,-,rfl,-⟩:=h.2 0 h0 o_m
 have f: ∀i:Fin n,∃z:ZV,w.cell? ⟨b,off+i.1*2,none⟩=some (.bool (ZV.s z))∧w.cell? ⟨b,off+i.1*2+1,none⟩=some (.slice z.a z.l z.c)∧Zm w z.s z.a z.l z.c (xs[i.1]'o_m)∧z.l≤1073741826:=fun i=>by
  obtain⟨b',off',z,e,-,h1,h2,h3,h4⟩:=h.2 i.1 i.2 o_m
  cases e
  exact⟨z,h1,h2,h3,h4⟩
 refine⟨b,off,List.ofFn fun i=>Classical.choose (f i),rfl,List.length_ofFn,⟨by rw[List.length_ofFn,hl],fun i h1 h2=> ?_⟩,fun j u hu=> ?_⟩
 ·rw[List.getElem_ofFn]
  rw[List.length_ofFn]at h1
  exact(Classical.choose_spec (f ⟨i,h1⟩)).2.2
 obtain⟨i,k,hi,hk,rfl,e⟩:=Pd.enc_at hu
 rw[List.getElem_ofFn]at e
 rw[List.length_ofFn]at hi
 have hs:=Classical.choose_spec (f ⟨i,hi⟩)
 rw[Addr.add_lit]
 rcases(show k=0∨k=1 by omega)with rfl|rfl
 ·rw[←e,←Nat.add_assoc,Nat.add_zero]
  exact hs.1
 rw[←e,←Nat.add_assoc]
 exact hs.2.1
theorem run_app_none (w:World)(ad:Option Addr)(c:Nat)(ty:TypeId):(Builtin.append_ #[23,23] ty #[.slice none 0 0,.slice ad 0 c]).run Tryz.prog w= .ok (.slice none 0 0) w:=by
 obtain⟨i0,hi,hz0,hz1,hz2⟩:=info_parts Pd.infoI
 cases ad <;> simp[Builtin.append_,run_underlying Tryz.underlying23,sizeOf,typeInfo,hi,Builtin.lenOf,Builtin.firstCells,loadCells,loadCellsFrom]
theorem app_cuts {w:World}{base:Nat}{ad:Option Addr}{n c:Nat}{xs:List Int}(h:CN w ad n xs)(hn:n≤134217728)(hb:base≤w.heap.size)(ty:TypeId):
  ∃(a':Option Addr) (c':Nat) (q:List ZV) (w':World),(Builtin.append_ #[23,23] ty #[.slice none 0 0,.slice ad n c]).run Tryz.prog w= .ok (.slice a' n c') w'∧OI w' base (.slice a' n c') n q∧Pm w' q xs∧w.grownBy w' none:=by
 obtain⟨i0,hi,hz0,hz1,hz2⟩:=info_parts Pd.infoI
 by_cases h0:n=0
 ·subst h0
  obtain rfl:xs= []:=List.eq_nil_of_length_eq_zero h.1
  exact⟨none,0,[],w,run_app_none w ad c ty,.inl ⟨rfl,rfl,rfl⟩,Pd.pm_nil w,⟨rfl,rfl,rfl,Nat.le_refl _,fun _ _ _=>rfl⟩⟩
 obtain⟨b,off,q,rfl,hq,hp,hc⟩:=cn_list h o_m
 obtain⟨v',w',hr,h2,h3,h4⟩:=appz_nil Tryz.underlying23 Pd.infoI rfl (by decide) (by decide) Pd.zv_len (w:=w) (base:=base) q hq o_m (ad:=⟨b,off,none⟩) (c:=c) hc o_m hb ty
 obtain⟨-,g,cap,rfl,-⟩:=h2.any (by decide) Pd.zv_len
 exact⟨_,cap,q,w',hr,.inr h2,hp.below (Pd.below_grown (v:=.slice none 0 0) (Below.refl _ _) h3 (fun g e=>by cases e) (Nat.le_refl _)),h3⟩
theorem cuts_wp {w:World}{base n c:Nat}{ad:Option Addr}{xs:List Int}{ops:Array Oper}{rest:List Oper}{o:Oper}{a:Act}{Q:Exit→Act→World→Prop}(hgd:o.guard=none)(s x:Operand)(ho:o.op= .call {callee:=.builtin .append,args:=#[s,x],argTypes:=#[23,23]})(hs:a.eval s= .slice none 0 0)(hx:a.eval x= .slice ad n c)
  (h:CN w ad n xs)(hn:n≤134217728)(hbase:base≤w.heap.size)
  (hK: ∀a' c' q w',OI w' base (.slice a' n c') n q→Pm w' q xs→w.grownBy w' none→wpList Tryz.prog ops Q rest (a.put o.dst (.slice a' n c')) w'):wpList Tryz.prog ops Q (o::rest) a w:=by
 refine wpList_plain hgd fun K hK2=> ?_
 obtain⟨a',c',q,w',hr,h2,h3,h4⟩:=app_cuts h hn hbase o.type
 unfold Oper.wp execOp
 simp only[ho,resolve,invoke,builtin,Sem.run_bind,Sem.run_pure,Result.andThen_ok,List.map_toArray,List.map_cons,List.map_nil,hs,hx]
 rw[hr]
 exact hK2 _ _ (hK a' c' q w' h2 h3 h4)
abbrev OE (q:Nat) (w:World) (base:Nat) (v:Value) (n:Nat) (l:List Nat):Prop:=OwE (encr q) (Value.slice none 0 0).cells 80 1 w base v n l
theorem oe_blk {q:Nat}{w:World}{base n:Nat}{v:Value}{l:List Nat}(h:OE q w base v n l): ∀g,v.ownBlock=some g→base≤g∧Pd.Own w g 80:=fun g e=>by
 rcases h with⟨rfl,-,-⟩|h
 ·cases e
 exact Pd.own_blk h.own g e
theorem oe_pm {q:Nat}{w w':World}{base n:Nat}{v:Value}{l:List Nat}{r:List ZV}{xs:List Int}(h:OE q w base v n l)(hp:Pm w r xs)(hg:w.grownBy w' v.ownBlock):Pm w' r xs:=by
 rcases h with⟨rfl,-,-⟩|h
 ·exact hp.below (Pd.below_grown (Below.refl _ _) hg (fun g e=>by cases e) (Nat.le_refl _))
 obtain⟨-,g,c,-,-,-,-,-,e,-⟩:=h.any (by decide) (Pd.encr_len q)
 rw[e]at hg
 exact hp.grown hg (or_noint h e)
structure JR (w0:World) (n0 b9 bA bx p q:Nat) (vA:SV) (wr:World) (v:SV) (qC:List ZV) (cs:List Int) (qR:List Nat) (rs:List (List Bool)):Prop where
 y:SBr wr b9 q v
 yA:SBr wr bA p vA
 yx:SBr wr bx 0 ⟨none,0,0,none,0,0⟩
 ne:bA≠b9∧bx≠b9
 oc:OI wr n0 (.slice v.ca v.cn v.cc) v.cn qC
 pm:Pm wr qC cs
 og:OE q wr n0 (.slice v.ra v.rn v.rc) v.rn qR
 rb:Rb wr qR rs
 bl:Below n0 w0 wr
 sz:n0≤wr.heap.size
variable {w0:World}{n0 b9 bA bx p q:Nat}{vA:SV}{wr:World}{v:SV}{qC:List ZV}{cs:List Int}{qR:List Nat}{rs:List (List Bool)}
theorem JR.below {w':World}(h:JR w0 n0 b9 bA bx p q vA wr v qC cs qR rs)(k:Below wr.heap.size wr w'):JR w0 n0 b9 bA bx p q vA w' v qC cs qR rs:=
 ⟨h.y.below k,h.yA.below k,h.yx.below k,h.ne,h.oc.below k,h.pm.below k,h.og.below k,h.rb.below k,h.bl.trans (k.mono h.sz),Nat.le_trans h.sz k.size⟩
theorem JR.rowS {w2:World}(h:JR w0 n0 b9 bA bx p q vA wr v qC cs qR rs)(hb9:n0≤b9){g:Nat}{r:List Bool}(hr:BB wr g r){ra:Option Addr}{rc:Nat}(ho:OR q w2 n0 (.slice ra (v.rn+1) rc) (v.rn+1) (qR++ [g]))(hg:wr.grownBy w2 (Value.ownBlock (.slice v.ra v.rn v.rc))):
  JR w0 n0 b9 bA bx p q vA (w2.setCell ⟨b9,2,none⟩ (.slice ra (v.rn+1) rc)) ⟨v.ca,v.cn,v.cc,ra,v.rn+1,rc⟩ qC cs (qR++ [g]) (rs++ [r]):=by
 have hob:=oe_blk h.og
 have y2:=h.y.grown hg (fun g e=>(hob g e).2) (by decide)
 have hO: ∀g,some b9=some g→Pd.Own w2 g 30:=fun g e=>by cases e;exact y2.own
 have ho9:=Only.set b9 2 w2 (.slice ra (v.rn+1) rc)
 have hg9:=grown_only ho9
 have bl2:Below n0 w0 w2:=Pd.below_grown h.bl hg (fun g e=>(hob g e).1) h.sz
 exact⟨heap_setCell_same w2 b9 2 _ _ (.slice ra (v.rn+1) rc) y2,(h.yA.grown hg (fun g e=>(hob g e).2) (by decide)).only ho9 h.ne.1,(h.yx.grown hg (fun g e=>(hob g e).2) (by decide)).only ho9 h.ne.2,h.ne,oi_grown (oi_grown h.oc hg (fun g e=>(hob g e).2) (by decide)) hg9 hO (by decide),pm_only (oe_pm h.og h.pm hg) (sbr_noint y2) ho9,.inr (owz_grown ho hg9 hO (by decide)),(((h.rb.grown hg (fun g e=>(hob g e).2) (by decide))).snoc (hr.grown hg (fun g e=>(hob g e).2) (by decide))).grown hg9 hO (by decide),bl2.trans (ho9.below hb9),by rw[ho9.size];exact Nat.le_trans h.sz hg.size⟩
theorem JR.toRS (h:JR w0 n0 b9 bA bx p q vA wr v qC cs qR rs)(hw:Wr ⟨q,cs,rs⟩):RS wr v ⟨q,cs,rs⟩:=by
 have hl:=h.rb.len
 have hwl:=hw.len
 rcases h.og with⟨-,-,e⟩|hog
 ·rw[e]at hl
  have:rs.length=cs.length+1:=hwl
  simp at hl
  omega
 exact rs_of h.oc h.pm hog h.rb hw
theorem rowmap_set {l r:List Bool}{p k:Nat}(hk:k<p)(hl:l.length=p)(hr:r.length=p)(h:l.take k=(r.map fun b=> !b).take k):(l.set k (!bit r k)).take (k+1)=(r.map fun b=> !b).take (k+1):=by
 rw[List.take_succ_eq_append_getElem (by rw[List.length_set];omega),List.take_succ_eq_append_getElem (by rw[List.length_map];omega),List.take_set_of_le (Nat.le_refl k),h,List.getElem_set_self,List.getElem_map]
 congr 2
 unfold bit
 simp[List.getD,show k<r.length by omega]
theorem rest_snoc {E:RE}{i:Nat}(hi:i<E.rs.length):((E.rs.take i).map fun r=>r.map fun b=> !b)++ [(row E i).map fun b=> !b]=(E.rs.take (i+1)).map fun r=>r.map fun b=> !b:=by
 rw[List.take_succ_eq_append_getElem hi,List.map_append]
 congr 1
 unfold row
 simp[List.getD,hi]
theorem rest_n {w:World}{u:SV}{E:RE}(h:RS w u E)(hna:u.cn≤134217728):
  Calls Tryz.prog 45 #[.agg #[.int .i64 E.p,.slice u.ca u.cn u.cc,.slice u.ra u.rn u.rc]] w fun e w'=> ∃v':SV,e= .returned (.agg #[.int .i64 E.p,.slice v'.ca v'.cn v'.cc,.slice v'.ra v'.rn v'.rc])∧RS w' v' (restE E)∧Below w.heap.size w w':=by
 have b0:=below_alloc w (.cells #[.int .i64 E.p,.slice u.ca u.cn u.cc,.slice u.ra u.rn u.rc] 30)
 have b2:=below_alloc (w.alloc (.cells #[.int .i64 E.p,.slice u.ca u.cn u.cc,.slice u.ra u.rn u.rc] 30)) (.cells #[.int .i64 0,.slice none 0 0,.slice none 0 0] 30)
 have yA:=hide ((sbr_new w E.p u).below b2)
 have y0:=sbr_new (w.alloc (.cells #[.int .i64 E.p,.slice u.ca u.cn u.cc,.slice u.ra u.rn u.rc] 30)) 0 ⟨none,0,0,none,0,0⟩
 have kb:=hide (grow_step b2 b0)
 have hs1:(w.alloc (.cells #[.int .i64 E.p,.slice u.ca u.cn u.cc,.slice u.ra u.rn u.rc] 30)).heap.size=w.heap.size+1:=by simp
 rw[hs1]at y0
 have hwf:=h.wf
 have hp1:=hwf.p1
 have hp2:=hwf.p2
 go_enter Tryz.func45,Tryz.ntmps45
 go_upto_region 1 with(fail)
 clear b0 b2 hs1
 generalize (w.alloc (.cells #[.int .i64 E.p,.slice u.ca u.cn u.cc,.slice u.ra u.rn u.rc] 30)).alloc (.cells #[.int .i64 0,.slice none 0 0,.slice none 0 0] 30)=w1 at*
 obtain⟨bA,hbA⟩: ∃bA,w.heap.size=bA:=⟨_,rfl⟩
 rw[hbA]at yA ⊢
 obtain⟨bx,hbx⟩: ∃bx,bA+1=bx:=⟨_,rfl⟩
 have y0:SBr w1 bx 0 ⟨none,0,0,none,0,0⟩:=by rw[←hbx,←hbA];exact y0
 rw[hbx]
 have hge:Hid (w.heap.size≤bx∧w.heap.size≤bA∧bA≠bx):=hide o_m
 replace y0:=hide y0
 clear hbA hbx
 have q0:=yA.out.c0
 have b3:=below_alloc w1 (.cells #[.int .i64 E.p,.slice none 0 0,.slice none 0 0] 30)
 have hfin:Hid (SBr (w1.alloc (.cells #[.int .i64 E.p,.slice none 0 0,.slice none 0 0] 30)) w1.heap.size E.p ⟨none,0,0,none,0,0⟩):=hide (heap_alloc_new w1 _)
 have hA3:=hide (yA.out.below b3)
 have h03:=hide (y0.out.below b3)
 have k3:=hide (grow_step b3 kb.out)
 have hgt:Hid (bA≠w1.heap.size∧bx≠w1.heap.size∧w.heap.size≤w1.heap.size):=hide ⟨Nat.ne_of_lt yA.out.lt,Nat.ne_of_lt y0.out.lt,kb.out.size⟩
 clear b3 yA y0 kb
 go_upto_region 2 with(fail)
 clear q0
 generalize w1.alloc (.cells #[.int .i64 E.p,.slice none 0 0,.slice none 0 0] 30)=w3 at*
 obtain⟨b3,hb3⟩: ∃b3,w1.heap.size=b3:=⟨_,rfl⟩
 rw[hb3]at hfin hgt ⊢
 clear hb3
 have d0:=hfin.out.c1
 have d1:=hA3.out.c1
 have hsz3:Hid (w.heap.size≤w3.heap.size):=hide k3.out.size
 go_wp2_with(refine cuts_wp rfl _ _ rfl rfl rfl (h.cu.below k3.out) hna hsz3.out ?_)
 intro a' c' q w4 hoc hpm hg4
 have k4:Below w3.heap.size w3 w4:=Pd.below_grown (v:=.slice none 0 0) (Below.refl _ _) hg4 (fun g e=>by cases e) (Nat.le_refl _)
 have y4:=hfin.out.below k4
 have e1:=y4.c1
 have e2:=y4.f 1
 have ho:=Only.set b3 1 w4 (.slice a' u.cn c')
 have hg9:=grown_only ho
 have hJ0:Hid (JR w w.heap.size b3 bA bx E.p E.p u (w4.setCell ⟨b3,1,none⟩ (.slice a' u.cn c')) ⟨a',u.cn,c',none,0,0⟩ q E.cs [] []):=hide
  ⟨heap_setCell_same w4 b3 1 _ _ (.slice a' u.cn c') y4,(hA3.out.below k4).only ho hgt.out.1,(h03.out.below k4).only ho hgt.out.2.1,⟨hgt.out.1,hgt.out.2.1⟩,oi_grown hoc hg9 (fun g e=>by cases e;exact y4.own) (by decide),pm_only hpm (sbr_noint y4) ho,.inl ⟨rfl,rfl,rfl⟩,⟨rfl,fun i h1=>absurd h1 (Nat.not_lt_zero _)⟩,(grow_step k4 k3.out).trans (ho.below hgt.out.2.2),by rw[ho.size];exact Nat.le_trans hsz3.out k4.size⟩
 have hb3:Hid (w.heap.size≤b3):=hide hgt.out.2.2
 clear hoc hpm hg4 k4 y4 ho hg9 d0 d1 hfin hA3 h03 k3 hgt hsz3
 go_upto_region 3 with(fail)
 generalize w4.setCell ⟨b3,1,none⟩ (.slice a' u.cn c')=w5 at*
 clear e1 e2
 have hrb:u.rn≤134217729:=by have:=h.rn;omega
 have hrn:=hide h.rn
 have hln:=hide h.ro.len
 go_wp2_with fail
 go_loopw [4] (fun vi wr=> ∃(i:Nat) (v:SV) (qC:List ZV) (qR:List Nat),i≤u.rn∧vi= .int .i64 i∧v.rn=i∧JR w w.heap.size b3 bA bx E.p E.p u wr v qC E.cs qR ((E.rs.take i).map fun r=>r.map fun b=> !b)) (fun vi _=>u.rn-(intOf vi).toNat)
 case atStart=>exact⟨0,_,_,_,Nat.zero_le _,rfl,rfl,hJ0.out⟩
 case round=>
  obtain⟨i,v,qC,qR,hi,rfl,hvi,hJ⟩:=hrel
  generalize wr=wo at*
  replace hJ:=hide hJ
  replace hvi:=hide hvi
  have q2:=hJ.out.yA.c2
  by_cases hin:i<u.rn
  ·obtain⟨rA,oA,gA,hvA,hrA,cA,hgA,hlA⟩:=(h.below hJ.out.bl).row (i:=i) (by have:=hrn.out;omega)
   rw[hvA]at q2 ⊢
   have q0:=hJ.out.yA.c0
   have hmk:=run_mkB E.p o_m
   have b6:=below_alloc wo (.cells (Bv (List.replicate E.p false)) 4)
   have y6:=bb_new wo (List.replicate E.p false)
   have hJ6:=hide (hJ.out.below b6)
   have hgA6:=hgA.below b6
   have hAl:=hJ.out.yA.lt
   have hgAl:=hgA.lt
   have cA6:=(Below.cell (p:=⟨rA,_,none⟩) b6 hrA).trans cA
   go_upto_region 7 with(fail)
   have k6:=hide b6
   clear q0 q2 hmk cA b6 hgA
   generalize wo.alloc (.cells (Bv (List.replicate E.p false)) 4)=w6 at*
   obtain⟨g,hg⟩: ∃g,wo.heap.size=g:=⟨_,rfl⟩
   rw[hg]at y6 hAl hgAl hrA ⊢
   replace y6:=hide y6
   replace hgA6:=hide hgA6
   replace hg:=hide hg
   have u0:=hJ6.out.yA.c0
   have u2:=hJ6.out.yA.c2
   rw[hvA]at u2
   go_wp2_with fail
   go_loopw [6] (fun vj wq=> ∃(k:Nat) (l:List Bool),k≤E.p∧vj= .int .i64 k∧BB wq g l∧l.length=E.p∧l.take k=((row E i).map fun b=> !b).take k∧Only g w6 wq) (fun vj _=>E.p-(intOf vj).toNat)
   case atStart=>exact⟨0,_,Nat.zero_le _,rfl,y6.out,List.length_replicate,rfl,Only.refl _ _⟩
   case round=>
    obtain⟨k,l,hk,rfl,hy,hl,htk,hon⟩:=hrel
    have u0':=(World.cell?_of_block (a:=⟨bA,0,none⟩) (hon.block bA o_m)).trans u0
    by_cases hkp:k<E.p
    ·have u2':=(World.cell?_of_block (a:=⟨bA,2,none⟩) (hon.block bA o_m)).trans u2
     have cA':=(World.cell?_of_block (a:=⟨rA,oA+i,none⟩) (hon.block rA o_m)).trans cA6
     have ea:=(hgA6.out.only hon o_m).cell (i:=k) o_m
     have hcg:=hy.cell (i:=k) o_m
     have hfr:=hy.f k
     have hst:=hide (rowmap_set hkp hl hlA htk)
     have y2:=hide (hy.set k (!bit (row E i) k))
     have ho2:=hide (hon.trans (Only.set g k wr (.bool (!bit (row E i) k))))
     have hl2:Hid ((l.set k (!bit (row E i) k)).length=E.p):=hide (by rw[List.length_set,hl])
     clear hy htk hon u0 u2 cA6
     generalize bit (row E i) k=x at*
     go_wp2
     exact⟨⟨k+1,_,by omega,by go_num,y2.out,hl2.out,hst.out,ho2.out⟩,by simp[intOf];omega⟩
    obtain rfl:k=E.p:=by omega
    have hfin:l=(row E i).map fun b=> !b:=by
     rw[List.take_of_length_le o_m,List.take_of_length_le (by rw[List.length_map];omega)]at htk
     exact htk
    have kq:Below wo.heap.size wo wr:=k6.out.trans (hon.below (Nat.le_of_eq hg.out))
    have hJq:=hide (hJ.out.below kq)
    rw[hfin]at hy
    have bl:=below_alloc wr (.cells #[.slice (some ⟨g,0,none⟩) E.p E.p] 80)
    have c92:=hJq.out.y.c2
    have hJ8:=hide (hJq.out.below bl)
    have hg8:=hide (hy.below bl)
    have src:Hid (∀j u,(encr E.p g)[j]? =some u→(wr.alloc (.cells #[.slice (some ⟨g,0,none⟩) E.p E.p] 80)).cell? ((⟨wr.heap.size,0,none⟩:Addr).add j)=some u):=hide fun j u hu=>by
     rw[Addr.add_lit,Nat.zero_add,cell_of_row _ _ _ _ _ (0,0) (heap_alloc_new wr _)]
     simpa [encr] using hu
    have hbs:=hide hJ8.out.sz
    have hr8:v.rn≤1073741824:=by rw[hvi.out];have:=hrn.out;omega
    clear bl hJq hy htk hon hJ hJ6 k6 u0 u2 cA6 kq hl hfin y6 hgA6
    go_wp2_with(refine appe_wp Tryz.underlying28 infoRB rfl (by decide) (by decide) (Pd.encr_len E.p) (Pd.encr_one E.p) rfl _ _ rfl rfl hJ8.out.og g ⟨_,_,rfl,src.out⟩ hr8 hbs.out ?_)
    intro v2 wH ho2 hg2 hv2
    obtain⟨-,gv,cv,rfl,-⟩:=ho2.any (by decide) (Pd.encr_len E.p)
    have y2:=hJ8.out.y.grown hg2 (fun g' e=>(oe_blk hJ8.out.og g' e).2) (by decide)
    have hJ7:=hJ8.out.rowS hb3.out hg8.out ho2 hg2
    rw[rest_snoc (by have:=hln.out;omega)]at hJ7
    replace hJ7:=hide hJ7
    have d2:=y2.c2
    have f2:=y2.f 2
    clear ho2 hg2 hv2 y2 hJ8 hg8 src hbs
    go_wp2
    exact⟨⟨i+1,_,_,_,by omega,by go_num,by show v.rn+1=i+1;rw[hvi.out],hJ7.out⟩,by simp[intOf];omega⟩
  have hiu:i=u.rn:=by omega
  have htk:(E.rs.take i).map (fun r=>r.map fun b=> !b)=(restE E).rs:=by
   rw[List.take_of_length_le (by have:=hln.out;omega)]
   rfl
  rw[htk]at hJ
  have hrs:=hJ.out.toRS (rest_wr hwf)
  have t0:=hJ.out.y.c0
  have t1:=hJ.out.y.c1
  have t2:=hJ.out.y.c2
  have yx:=hJ.out.yx
  have c0:=yx.c0
  have c1:=yx.c1
  have c2:=yx.c2
  have f0:=yx.f 0
  have f1:=yx.f 1
  have f2:=yx.f 2
  have hfin:=hide (sbr_fin (p':=E.p) (v':=v) yx)
  have ho:=only3 bx wo (.int .i64 E.p) (.slice v.ca v.cn v.cc) (.slice v.ra v.rn v.rc)
  have kf:=hide (hJ.out.bl.trans (ho.below hge.out.1))
  have hr2:=hide (rs_only hrs yx ho)
  subst hiu
  clear hrs ho hJ htk yx hwf h hvi
  go_wp2
  refine bodyPost_ret (results_cell_row rfl _ _ bx 30 _ (0,0) _ rfl hfin.out Tryz.underlying30 rfl k_f) rfl ?_
  exact⟨v,by simp,hr2.out,kf.out⟩
end Cr
namespace Cr
open Pd (SN SV ZV plc MkD pkN pkN_lt pick_n Iw jErr clErr)

theorem meet_n {w:World}{va vb:SV}{A B:RE}(hA:RS w va A)(hB:RS w vb B)(hna:va.cn≤134217728)(hnb:vb.cn≤134217728):
  Calls Tryz.prog 46 #[.agg #[.int .i64 A.p,.slice va.ca va.cn va.cc,.slice va.ra va.rn va.rc],.agg #[.int .i64 B.p,.slice vb.ca vb.cn vb.cc,.slice vb.ra vb.rn vb.rc]] w fun e w'=> ∃E,AnS w w' e (jErr (Nat.lcm A.p B.p)) E∧(jErr (Nat.lcm A.p B.p)=0→JnR true A B E):=by
 have b0:=below_alloc w (.cells #[.int .i64 A.p,.slice va.ca va.cn va.cc,.slice va.ra va.rn va.rc] 30)
 have b1:=below_alloc (w.alloc (.cells #[.int .i64 A.p,.slice va.ca va.cn va.cc,.slice va.ra va.rn va.rc] 30)) (.cells #[.int .i64 B.p,.slice vb.ca vb.cn vb.cc,.slice vb.ra vb.rn vb.rc] 30)
 have b2:=below_alloc ((w.alloc (.cells #[.int .i64 A.p,.slice va.ca va.cn va.cc,.slice va.ra va.rn va.rc] 30)).alloc (.cells #[.int .i64 B.p,.slice vb.ca vb.cn vb.cc,.slice vb.ra vb.rn vb.rc] 30)) (.cells #[.int .i64 0,.slice none 0 0,.slice none 0 0] 30)
 have kb:=hide (grow_step b2 (grow_step b1 b0))
 have yA:=hide ((sbr_new w A.p va).below (grow_step b2 b1))
 have yB:=(sbr_new (w.alloc (.cells #[.int .i64 A.p,.slice va.ca va.cn va.cc,.slice va.ra va.rn va.rc] 30)) B.p vb).below b2
 have y0:=sbr_new ((w.alloc (.cells #[.int .i64 A.p,.slice va.ca va.cn va.cc,.slice va.ra va.rn va.rc] 30)).alloc (.cells #[.int .i64 B.p,.slice vb.ca vb.cn vb.cc,.slice vb.ra vb.rn vb.rc] 30)) 0 ⟨none,0,0,none,0,0⟩
 have hs1:(w.alloc (.cells #[.int .i64 A.p,.slice va.ca va.cn va.cc,.slice va.ra va.rn va.rc] 30)).heap.size=w.heap.size+1:=by simp
 have hs2:((w.alloc (.cells #[.int .i64 A.p,.slice va.ca va.cn va.cc,.slice va.ra va.rn va.rc] 30)).alloc (.cells #[.int .i64 B.p,.slice vb.ca vb.cn vb.cc,.slice vb.ra vb.rn vb.rc] 30)).heap.size=w.heap.size+1+1:=by simp
 rw[hs1]at yB
 rw[hs2]at y0
 go_enter Tryz.func46,Tryz.ntmps46
 go_upto_region 1 with(fail)
 clear b0 b1 b2 hs1 hs2
 generalize ((w.alloc (.cells #[.int .i64 A.p,.slice va.ca va.cn va.cc,.slice va.ra va.rn va.rc] 30)).alloc (.cells #[.int .i64 B.p,.slice vb.ca vb.cn vb.cc,.slice vb.ra vb.rn vb.rc] 30)).alloc (.cells #[.int .i64 0,.slice none 0 0,.slice none 0 0] 30)=w1 at*
 obtain⟨bA,hbA⟩: ∃bA,w.heap.size=bA:=⟨_,rfl⟩
 rw[hbA]at yA yB ⊢
 obtain⟨bB,hbB⟩: ∃bB,bA+1=bB:=⟨_,rfl⟩
 rw[hbB]at yB ⊢
 obtain⟨bx,hbx⟩: ∃bx,bB+1=bx:=⟨_,rfl⟩
 have y0:SBr w1 bx 0 ⟨none,0,0,none,0,0⟩:=by rw[←hbx,←hbB,←hbA];exact y0
 rw[hbx]
 have hge:Hid (w.heap.size≤bx):=hide o_m
 replace y0:=hide y0
 clear hbA hbB hbx
 have q0:=yA.out.c0
 have q1:=yA.out.c1
 have q2:=yA.out.c2
 have q3:=yB.c0
 have q4:=yB.c1
 have q5:=yB.c2
 have hj:=hide (joined_n (meet:=true) (hA.below kb.out) (hB.below kb.out) hna hnb)
 clear yA yB hA hB
 go_wp2_with fail
 refine hj.out.mono ?_
 rintro e w2 ⟨E,⟨k2,hor⟩,hjr⟩
 have y2:=y0.out.below k2
 have c0:=y2.c0
 have c1:=y2.c1
 have c2:=y2.c2
 have f0:=y2.f 0
 have f1:=y2.f 1
 have f2:=y2.f 2
 replace hjr:=hide hjr
 rcases hor with⟨he,rfl⟩|⟨he,v,rfl,hv⟩
 ·have ho:=only3 bx w2 (.int .i64 0) (.slice none 0 0) (.slice none 0 0)
  have hfin:=hide (sbr_fin (p':=0) (v':=⟨none,0,0,none,0,0⟩) y2)
  have kf:=hide ((grow_step k2 kb.out).trans (ho.below hge.out))
  replace he:=hide he
  clear ho y2 k2 kb y0 hj q0 q1 q2 q3 q4 q5
  go_wp2
  refine bodyPost_ret (results_ct rfl _ _ bx 30 _ (0,0) _ rfl hfin.out Tryz.underlying30 rfl k_f) rfl ?_
  exact⟨E,⟨kf.out,.inl ⟨he.out,rfl⟩⟩,hjr.out⟩
 have ho:=only3 bx w2 (.int .i64 E.p) (.slice v.ca v.cn v.cc) (.slice v.ra v.rn v.rc)
 have hfin:=hide (sbr_fin (p':=E.p) (v':=v) y2)
 have kf:=hide ((grow_step k2 kb.out).trans (ho.below hge.out))
 have hr:=hide (rs_only hv y2 ho)
 replace he:=hide he
 clear ho y2 k2 kb y0 hj q0 q1 q2 q3 q4 q5 hv
 go_wp2
 refine bodyPost_ret (results_ct rfl _ _ bx 30 _ (0,0) _ rfl hfin.out Tryz.underlying30 rfl k_f) rfl ?_
 exact⟨E,⟨kf.out,.inr ⟨he.out,v,rfl,hr.out⟩⟩,hjr.out⟩
theorem join_n {w:World}{va vb:SV}{A B:RE}(hA:RS w va A)(hB:RS w vb B)(hna:va.cn≤134217728)(hnb:vb.cn≤134217728):
  Calls Tryz.prog 47 #[.agg #[.int .i64 A.p,.slice va.ca va.cn va.cc,.slice va.ra va.rn va.rc],.agg #[.int .i64 B.p,.slice vb.ca vb.cn vb.cc,.slice vb.ra vb.rn vb.rc]] w fun e w'=> ∃E,AnS w w' e (jErr (Nat.lcm A.p B.p)) E∧(jErr (Nat.lcm A.p B.p)=0→JnR false A B E):=by
 have b0:=below_alloc w (.cells #[.int .i64 A.p,.slice va.ca va.cn va.cc,.slice va.ra va.rn va.rc] 30)
 have b1:=below_alloc (w.alloc (.cells #[.int .i64 A.p,.slice va.ca va.cn va.cc,.slice va.ra va.rn va.rc] 30)) (.cells #[.int .i64 B.p,.slice vb.ca vb.cn vb.cc,.slice vb.ra vb.rn vb.rc] 30)
 have b2:=below_alloc ((w.alloc (.cells #[.int .i64 A.p,.slice va.ca va.cn va.cc,.slice va.ra va.rn va.rc] 30)).alloc (.cells #[.int .i64 B.p,.slice vb.ca vb.cn vb.cc,.slice vb.ra vb.rn vb.rc] 30)) (.cells #[.int .i64 0,.slice none 0 0,.slice none 0 0] 30)
 have kb:=hide (grow_step b2 (grow_step b1 b0))
 have yA:=hide ((sbr_new w A.p va).below (grow_step b2 b1))
 have yB:=(sbr_new (w.alloc (.cells #[.int .i64 A.p,.slice va.ca va.cn va.cc,.slice va.ra va.rn va.rc] 30)) B.p vb).below b2
 have y0:=sbr_new ((w.alloc (.cells #[.int .i64 A.p,.slice va.ca va.cn va.cc,.slice va.ra va.rn va.rc] 30)).alloc (.cells #[.int .i64 B.p,.slice vb.ca vb.cn vb.cc,.slice vb.ra vb.rn vb.rc] 30)) 0 ⟨none,0,0,none,0,0⟩
 have hs1:(w.alloc (.cells #[.int .i64 A.p,.slice va.ca va.cn va.cc,.slice va.ra va.rn va.rc] 30)).heap.size=w.heap.size+1:=by simp
 have hs2:((w.alloc (.cells #[.int .i64 A.p,.slice va.ca va.cn va.cc,.slice va.ra va.rn va.rc] 30)).alloc (.cells #[.int .i64 B.p,.slice vb.ca vb.cn vb.cc,.slice vb.ra vb.rn vb.rc] 30)).heap.size=w.heap.size+1+1:=by simp
 rw[hs1]at yB
 rw[hs2]at y0
 go_enter Tryz.func47,Tryz.ntmps47
 go_upto_region 1 with(fail)
 clear b0 b1 b2 hs1 hs2
 generalize ((w.alloc (.cells #[.int .i64 A.p,.slice va.ca va.cn va.cc,.slice va.ra va.rn va.rc] 30)).alloc (.cells #[.int .i64 B.p,.slice vb.ca vb.cn vb.cc,.slice vb.ra vb.rn vb.rc] 30)).alloc (.cells #[.int .i64 0,.slice none 0 0,.slice none 0 0] 30)=w1 at*
 obtain⟨bA,hbA⟩: ∃bA,w.heap.size=bA:=⟨_,rfl⟩
 rw[hbA]at yA yB ⊢
 obtain⟨bB,hbB⟩: ∃bB,bA+1=bB:=⟨_,rfl⟩
 rw[hbB]at yB ⊢
 obtain⟨bx,hbx⟩: ∃bx,bB+1=bx:=⟨_,rfl⟩
 have y0:SBr w1 bx 0 ⟨none,0,0,none,0,0⟩:=by rw[←hbx,←hbB,←hbA];exact y0
 rw[hbx]
 have hge:Hid (w.heap.size≤bx):=hide o_m
 replace y0:=hide y0
 clear hbA hbB hbx
 have q0:=yA.out.c0
 have q1:=yA.out.c1
 have q2:=yA.out.c2
 have q3:=yB.c0
 have q4:=yB.c1
 have q5:=yB.c2
 have hj:=hide (joined_n (meet:=false) (hA.below kb.out) (hB.below kb.out) hna hnb)
 clear yA yB hA hB
 go_wp2_with fail
 refine hj.out.mono ?_
 rintro e w2 ⟨E,⟨k2,hor⟩,hjr⟩
 have y2:=y0.out.below k2
 have c0:=y2.c0
 have c1:=y2.c1
 have c2:=y2.c2
 have f0:=y2.f 0
 have f1:=y2.f 1
 have f2:=y2.f 2
 replace hjr:=hide hjr
 rcases hor with⟨he,rfl⟩|⟨he,v,rfl,hv⟩
 ·have ho:=only3 bx w2 (.int .i64 0) (.slice none 0 0) (.slice none 0 0)
  have hfin:=hide (sbr_fin (p':=0) (v':=⟨none,0,0,none,0,0⟩) y2)
  have kf:=hide ((grow_step k2 kb.out).trans (ho.below hge.out))
  replace he:=hide he
  clear ho y2 k2 kb y0 hj q0 q1 q2 q3 q4 q5
  go_wp2
  refine bodyPost_ret (results_ct rfl _ _ bx 30 _ (0,0) _ rfl hfin.out Tryz.underlying30 rfl k_f) rfl ?_
  exact⟨E,⟨kf.out,.inl ⟨he.out,rfl⟩⟩,hjr.out⟩
 have ho:=only3 bx w2 (.int .i64 E.p) (.slice v.ca v.cn v.cc) (.slice v.ra v.rn v.rc)
 have hfin:=hide (sbr_fin (p':=E.p) (v':=v) y2)
 have kf:=hide ((grow_step k2 kb.out).trans (ho.below hge.out))
 have hr:=hide (rs_only hv y2 ho)
 replace he:=hide he
 clear ho y2 k2 kb y0 hj q0 q1 q2 q3 q4 q5 hv
 go_wp2
 refine bodyPost_ret (results_ct rfl _ _ bx 30 _ (0,0) _ rfl hfin.out Tryz.underlying30 rfl k_f) rfl ?_
 exact⟨E,⟨kf.out,.inr ⟨he.out,v,rfl,hr.out⟩⟩,hjr.out⟩
def LSr (w:World)(ad:Option Addr)(n:Nat)(Es:List RE):Prop:=
 Es.length=n∧∀i (_:i<n) (h:i<Es.length),∃b v,ad=some ⟨b,0,none⟩∧b<w.heap.size∧w.cell? ⟨b,i*3,none⟩=some (.int .i64 Es[i].p)∧w.cell? ⟨b,i*3+1,none⟩=some (.slice (SV.ca v) v.cn v.cc)∧w.cell? ⟨b,i*3+2,none⟩=some (.slice v.ra v.rn v.rc)∧RS w v Es[i]
theorem LSr.below {w w':World}{ad:Option Addr}{n:Nat}{Es:List RE}(h:LSr w ad n Es)(k:Below w.heap.size w w'):LSr w' ad n Es:=by
 refine⟨h.1,fun i hi hi'=> ?_⟩
 obtain⟨b,v,e,hb,h1,h2,h3,h4⟩:=h.2 i hi hi'
 exact⟨b,v,e,Nat.lt_of_lt_of_le hb k.size,(k.cell (p:=⟨b,_,none⟩) hb).trans h1,(k.cell (p:=⟨b,_,none⟩) hb).trans h2,(k.cell (p:=⟨b,_,none⟩) hb).trans h3,h4.below k⟩
def DoE' (m:MkD)(A B:RE)(k:Nat)(err:Int)(E:RE):Prop:=
 match k with
 |0|1=>err=0∧E=aboveE m.x
 |2|3=>err=clErr m.d∧E=classE m.d m.x
 |4=>err=0∧E=restE A
 |5|6=>err=jErr (Nat.lcm A.p B.p)∧(err=0→JnR true A B E)
 |_=>err=jErr (Nat.lcm A.p B.p)∧(err=0→JnR false A B E)
def DoE (m:MkD)(Es:List RE)(err:Int)(E:RE):Prop:=DoE' m (Es.getD (pkN m.a Es.length) ⟨1,[],[]⟩) (Es.getD (pkN m.b Es.length) ⟨1,[],[]⟩) (pkN m.k 8) err E
theorem do18_n {w:World}{m:MkD}{zk zd:ZV}{la:Option Addr}{ln lc N:Nat}{Es:List RE}(hk:Zm w zk.s zk.a zk.l zk.c m.x)(hkl:zk.l≤1048576)(hd:Zm w zd.s zd.a zd.l zd.c m.d)(hdl:zd.l≤1048576)(ik:Iw m.k)(ia:Iw m.a)(ib:Iw m.b)(hs:LSr w la ln Es)(hn1:1≤ln)(hn2:ln≤1000)(hN2:N≤65536)(hcs: ∀E∈Es,E.cs.length≤N):
  Calls Tryz.prog 9 #[.agg #[.int .i64 m.k,.int .i64 m.a,.int .i64 m.b,.bool zk.s,.slice zk.a zk.l zk.c,.bool zd.s,.slice zd.a zd.l zd.c],.slice la ln lc] w fun e w'=> ∃err E,AnS w w' e err E∧DoE m Es err E:=by
 have b0:=below_alloc w (.cells #[.int .i64 m.k,.int .i64 m.a,.int .i64 m.b,.bool zk.s,.slice zk.a zk.l zk.c,.bool zd.s,.slice zd.a zd.l zd.c] 40)
 have b1:=below_alloc (w.alloc (.cells #[.int .i64 m.k,.int .i64 m.a,.int .i64 m.b,.bool zk.s,.slice zk.a zk.l zk.c,.bool zd.s,.slice zd.a zd.l zd.c] 40)) (.cells #[.int .i64 0,.slice none 0 0,.slice none 0 0] 30)
 have y0:=(heap_alloc_new w (.cells #[.int .i64 m.k,.int .i64 m.a,.int .i64 m.b,.bool zk.s,.slice zk.a zk.l zk.c,.bool zd.s,.slice zd.a zd.l zd.c] 40))
 have yx:=sbr_new (w.alloc (.cells #[.int .i64 m.k,.int .i64 m.a,.int .i64 m.b,.bool zk.s,.slice zk.a zk.l zk.c,.bool zd.s,.slice zd.a zd.l zd.c] 40)) 0 ⟨none,0,0,none,0,0⟩
 have hsm:(w.alloc (.cells #[.int .i64 m.k,.int .i64 m.a,.int .i64 m.b,.bool zk.s,.slice zk.a zk.l zk.c,.bool zd.s,.slice zd.a zd.l zd.c] 40)).heap.size=w.heap.size+1:=by simp
 rw[hsm]at yx
 have y1:=(b1.block w.heap.size (by simp)).trans y0
 have kb:=hide (grow_step b1 b0)
 have hsl:Hid (Es.length=ln):=hide hs.1
 obtain⟨ha1,ha2⟩:=ia
 obtain⟨hb1,hb2⟩:=ib
 obtain⟨hk1,hk2⟩:=ik
 replace hk:=hide (hk.below kb.out)
 replace hd:=hide (hd.below kb.out)
 replace hs:=hide (hs.below kb.out)
 have hpa:=pkN_lt (c:=m.a) (n:=(ln:Int)) o_m
 have hpb:=pkN_lt (c:=m.b) (n:=(ln:Int)) o_m
 have hpk:=pkN_lt (c:=m.k) (n:=8) o_m
 obtain⟨kk,hkk⟩: ∃kk,pkN m.k 8=kk:=⟨_,rfl⟩
 rw[hkk]at hpk
 replace hkk:=hide hkk
 obtain⟨ja,hja⟩: ∃ja,pkN m.a (ln:Int)=ja:=⟨_,rfl⟩
 rw[hja]at hpa
 obtain⟨jb,hjb⟩: ∃jb,pkN m.b (ln:Int)=jb:=⟨_,rfl⟩
 rw[hjb]at hpb
 have hjal:ja<Es.length:=by rw[hsl.out];omega
 have hjbl:jb<Es.length:=by rw[hsl.out];omega
 have hDR:Hid (∀err E,DoE m Es err E↔DoE' m Es[ja] Es[jb] kk err E):=hide fun err E=>by
  unfold DoE
  rw[hsl.out,hja,hjb,hkk.out,List.getD_eq_getElem?_getD,List.getD_eq_getElem?_getD,List.getElem?_eq_getElem hjal,List.getElem?_eq_getElem hjbl]
  rfl
 have hcA:=hcs _ (List.getElem_mem hjal)
 have hcB:=hcs _ (List.getElem_mem hjbl)
 obtain⟨lb,va,rfl,hlb,a0,a1,a2,hA⟩:=hs.out.2 ja o_m hjal
 obtain⟨lb',vb,e,-,e0,e1,e2,hB⟩:=hs.out.2 jb o_m hjbl
 cases e
 generalize Es[ja]=A at*
 generalize Es[jb]=B at*
 have hca:=hA.cn
 have hcb:=hB.cn
 go_enter Tryz.func9,Tryz.ntmps9
 go_upto_region 1 with(fail)
 clear b0 b1 y0 hsm hs hcs
 generalize (w.alloc (.cells #[.int .i64 m.k,.int .i64 m.a,.int .i64 m.b,.bool zk.s,.slice zk.a zk.l zk.c,.bool zd.s,.slice zd.a zd.l zd.c] 40)).alloc (.cells #[.int .i64 0,.slice none 0 0,.slice none 0 0] 30)=w1 at*
 obtain⟨bt,hbt⟩: ∃bt,w.heap.size=bt:=⟨_,rfl⟩
 rw[hbt]at y1 ⊢
 obtain⟨bx,hbx⟩: ∃bx,bt+1=bx:=⟨_,rfl⟩
 have yx:SBr w1 bx 0 ⟨none,0,0,none,0,0⟩:=by rw[←hbx,←hbt];exact yx
 rw[hbx]
 have hge:Hid (w.heap.size≤bx):=hide o_m
 clear hbt hbx
 replace yx:=hide yx
 have q0:=cell_of_row _ _ 0 _ _ (0,0) y1
 have q1:=cell_of_row _ _ 1 _ _ (0,0) y1
 have q2:=cell_of_row _ _ 2 _ _ (0,0) y1
 have q3:=cell_of_row _ _ 3 _ _ (0,0) y1
 have q4:=cell_of_row _ _ 4 _ _ (0,0) y1
 have q5:=cell_of_row _ _ 5 _ _ (0,0) y1
 have q6:=cell_of_row _ _ 6 _ _ (0,0) y1
 have hbl:bt<w1.heap.size:=(Array.getElem?_eq_some_iff.1 y1).1
 clear y1
 replace hA:=hide hA
 replace hB:=hide hB
 have hpn:=hide (pick_n m.a ln ha1 ha2 o_m o_m w1)
 rw[hja]at hpn
 go_wp2_with fail
 refine hpn.out.mono ?_
 rintro e w2 ⟨rfl,k2⟩
 have kc:=hide (grow_step k2 kb.out)
 have b6:=below_alloc w2 (.cells #[.int .i64 A.p,.slice va.ca va.cn va.cc,.slice va.ra va.rn va.rc] 30)
 have y6:=sbr_new w2 A.p va
 have r0:=(k2.cell (p:=⟨lb,ja*3,none⟩) hlb).trans a0
 have r1:=(k2.cell (p:=⟨lb,ja*3+1,none⟩) hlb).trans a1
 have r2:=(k2.cell (p:=⟨lb,ja*3+2,none⟩) hlb).trans a2
 go_upto_region 2 with(fail)
 have k6:=hide (b6.mono (Nat.le_refl w2.heap.size))
 have kw:=grow_step b6 k2
 have x0:=(kw.cell (p:=⟨lb,jb*3,none⟩) hlb).trans e0
 have x1:=(kw.cell (p:=⟨lb,jb*3+1,none⟩) hlb).trans e1
 have x2:=(kw.cell (p:=⟨lb,jb*3+2,none⟩) hlb).trans e2
 have p0:=(kw.cell (p:=⟨bt,0,none⟩) hbl).trans q0
 have p1:=(kw.cell (p:=⟨bt,1,none⟩) hbl).trans q1
 have p2:=(kw.cell (p:=⟨bt,2,none⟩) hbl).trans q2
 have p3:=(kw.cell (p:=⟨bt,3,none⟩) hbl).trans q3
 have p4:=(kw.cell (p:=⟨bt,4,none⟩) hbl).trans q4
 have p5:=(kw.cell (p:=⟨bt,5,none⟩) hbl).trans q5
 have p6:=(kw.cell (p:=⟨bt,6,none⟩) hbl).trans q6
 have hlb2:=Nat.lt_of_lt_of_le hlb kw.size
 have hbl2:=Nat.lt_of_lt_of_le hbl kw.size
 replace kb:=hide (grow_step b6 kc.out)
 replace hA:=hide (hA.out.below kw)
 replace hB:=hide (hB.out.below kw)
 replace hk:=hide (hk.out.below kw)
 replace hd:=hide (hd.out.below kw)
 replace yx:=hide (yx.out.below kw)
 clear kc b6 r0 r1 r2 k6 kw k2 a0 a1 a2 e0 e1 e2 q0 q1 q2 q3 q4 q5 q6 hpn hlb hbl
 generalize w2.alloc (.cells #[.int .i64 A.p,.slice va.ca va.cn va.cc,.slice va.ra va.rn va.rc] 30)=w3 at*
 obtain⟨b6,hb6⟩: ∃b6,w2.heap.size=b6:=⟨_,rfl⟩
 rw[hb6]at y6 ⊢
 clear hb6
 have hpn:=hide (pick_n m.b ln hb1 hb2 o_m o_m w3)
 rw[hjb]at hpn
 replace y6:=hide y6
 go_wp2_with fail
 refine hpn.out.mono ?_
 rintro e w4 ⟨rfl,k4⟩
 have kc:=grow_step k4 kb.out
 have b7:=below_alloc w4 (.cells #[.int .i64 B.p,.slice vb.ca vb.cn vb.cc,.slice vb.ra vb.rn vb.rc] 30)
 have y7:=sbr_new w4 B.p vb
 have r0:=(k4.cell (p:=⟨lb,jb*3,none⟩) hlb2).trans x0
 have r1:=(k4.cell (p:=⟨lb,jb*3+1,none⟩) hlb2).trans x1
 have r2:=(k4.cell (p:=⟨lb,jb*3+2,none⟩) hlb2).trans x2
 go_upto_region 3 with(fail)
 have kw:=grow_step b7 k4
 have q0:=(kw.cell (p:=⟨bt,0,none⟩) hbl2).trans p0
 have q1:=(kw.cell (p:=⟨bt,1,none⟩) hbl2).trans p1
 have q2:=(kw.cell (p:=⟨bt,2,none⟩) hbl2).trans p2
 have q3:=(kw.cell (p:=⟨bt,3,none⟩) hbl2).trans p3
 have q4:=(kw.cell (p:=⟨bt,4,none⟩) hbl2).trans p4
 have q5:=(kw.cell (p:=⟨bt,5,none⟩) hbl2).trans p5
 have q6:=(kw.cell (p:=⟨bt,6,none⟩) hbl2).trans p6
 have hbl:=Nat.lt_of_lt_of_le hbl2 kw.size
 replace kb:=hide (grow_step b7 kc)
 replace hA:=hide (hA.out.below kw)
 replace hB:=hide (hB.out.below kw)
 replace hk:=hide (hk.out.below kw)
 replace hd:=hide (hd.out.below kw)
 replace yx:=hide (yx.out.below kw)
 replace y6:=hide (y6.out.below kw)
 clear kc b7 r0 r1 r2 kw k4 x0 x1 x2 p0 p1 p2 p3 p4 p5 p6 hpn hlb2 hbl2
 generalize w4.alloc (.cells #[.int .i64 B.p,.slice vb.ca vb.cn vb.cc,.slice vb.ra vb.rn vb.rc] 30)=w5 at*
 obtain⟨b7,hb7⟩: ∃b7,w4.heap.size=b7:=⟨_,rfl⟩
 rw[hb7]at y7 ⊢
 clear hb7
 have hpn:=hide (pick_n m.k 8 hk1 hk2 o_m o_m w5)
 rw[hkk.out]at hpn
 replace y7:=hide y7
 go_wp2_with fail
 refine hpn.out.mono ?_
 rintro e w6 ⟨rfl,k6⟩
 replace q0:=(k6.cell (p:=⟨bt,0,none⟩) hbl).trans q0
 replace q1:=(k6.cell (p:=⟨bt,1,none⟩) hbl).trans q1
 replace q2:=(k6.cell (p:=⟨bt,2,none⟩) hbl).trans q2
 replace q3:=(k6.cell (p:=⟨bt,3,none⟩) hbl).trans q3
 replace q4:=(k6.cell (p:=⟨bt,4,none⟩) hbl).trans q4
 replace q5:=(k6.cell (p:=⟨bt,5,none⟩) hbl).trans q5
 replace q6:=(k6.cell (p:=⟨bt,6,none⟩) hbl).trans q6
 replace kb:=hide (grow_step k6 kb.out)
 replace hA:=hide (hA.out.below k6)
 replace hB:=hide (hB.out.below k6)
 replace hk:=hide (hk.out.below k6)
 replace hd:=hide (hd.out.below k6)
 replace yx:=hide (yx.out.below k6)
 replace y6:=hide (y6.out.below k6)
 replace y7:=hide (y7.out.below k6)
 clear k6 hpn
 have hkc:kk=0∨kk=1∨kk=2∨kk=3∨kk=4∨kk=5∨kk=6∨kk=7:=by omega
 clear hpk hkk hja hjb hpa hpb hjal hjbl hsl hbl
 rcases hkc with rfl|rfl|rfl|rfl|rfl|rfl|rfl|rfl
 ·have hcall:=hide (above_n hk.out o_m)
  go_wp2_with fail
  refine hcall.out.mono ?_
  rintro e w8 ⟨v,rfl,hv,k8⟩
  have y2:=yx.out.below k8
  have c0:=y2.c0
  have c1:=y2.c1
  have c2:=y2.c2
  have f0:=y2.f 0
  have f1:=y2.f 1
  have f2:=y2.f 2
  clear hcall q0 q1 q2 q3 q4 q5 q6
  have ho:=only3 bx w8 (.int .i64 1) (.slice v.ca v.cn v.cc) (.slice v.ra v.rn v.rc)
  have hfin:=hide (sbr_fin (p':=1) (v':=v) y2)
  have kf:=hide ((grow_step k8 kb.out).trans (ho.below hge.out))
  have hr:=hide (rs_only hv y2 ho)
  clear ho y2 k8 kb yx y6 y7 hv hA hB hk hd
  go_wp2
  refine bodyPost_ret (results_ct rfl _ _ bx 30 _ (0,0) _ rfl hfin.out Tryz.underlying30 rfl k_f) rfl ?_
  exact⟨0,aboveE m.x,⟨kf.out,.inr ⟨rfl,v,rfl,hr.out⟩⟩,(hDR.out _ _).2 ⟨rfl,rfl⟩⟩
 ·have hcall:=hide (above_n hk.out o_m)
  go_wp2_with fail
  refine hcall.out.mono ?_
  rintro e w8 ⟨v,rfl,hv,k8⟩
  have y2:=yx.out.below k8
  have c0:=y2.c0
  have c1:=y2.c1
  have c2:=y2.c2
  have f0:=y2.f 0
  have f1:=y2.f 1
  have f2:=y2.f 2
  clear hcall q0 q1 q2 q3 q4 q5 q6
  have ho:=only3 bx w8 (.int .i64 1) (.slice v.ca v.cn v.cc) (.slice v.ra v.rn v.rc)
  have hfin:=hide (sbr_fin (p':=1) (v':=v) y2)
  have kf:=hide ((grow_step k8 kb.out).trans (ho.below hge.out))
  have hr:=hide (rs_only hv y2 ho)
  clear ho y2 k8 kb yx y6 y7 hv hA hB hk hd
  go_wp2
  refine bodyPost_ret (results_ct rfl _ _ bx 30 _ (0,0) _ rfl hfin.out Tryz.underlying30 rfl k_f) rfl ?_
  exact⟨0,aboveE m.x,⟨kf.out,.inr ⟨rfl,v,rfl,hr.out⟩⟩,(hDR.out _ _).2 ⟨rfl,rfl⟩⟩
 ·have hcall:=hide (class_n hd.out o_m hk.out o_m)
  go_wp2_with fail
  refine hcall.out.mono ?_
  rintro e w8 ⟨k8,hor⟩
  have y2:=yx.out.below k8
  have c0:=y2.c0
  have c1:=y2.c1
  have c2:=y2.c2
  have f0:=y2.f 0
  have f1:=y2.f 1
  have f2:=y2.f 2
  clear hcall q0 q1 q2 q3 q4 q5 q6
  rcases hor with⟨he,rfl⟩|⟨he,v,rfl,hv⟩
  ·have ho:=only3 bx w8 (.int .i64 0) (.slice none 0 0) (.slice none 0 0)
   have hfin:=hide (sbr_fin (p':=0) (v':=⟨none,0,0,none,0,0⟩) y2)
   have kf:=hide ((grow_step k8 kb.out).trans (ho.below hge.out))
   replace he:=hide he
   clear ho y2 k8 kb yx y6 y7 hA hB hk hd
   go_wp2
   refine bodyPost_ret (results_ct rfl _ _ bx 30 _ (0,0) _ rfl hfin.out Tryz.underlying30 rfl k_f) rfl ?_
   exact⟨_,classE m.d m.x,⟨kf.out,.inl ⟨he.out,rfl⟩⟩,(hDR.out _ _).2 ⟨rfl,rfl⟩⟩
  replace he:=hide he
  have ho:=only3 bx w8 (.int .i64 (classE m.d m.x).p) (.slice v.ca v.cn v.cc) (.slice v.ra v.rn v.rc)
  have hfin:=hide (sbr_fin (p':=(classE m.d m.x).p) (v':=v) y2)
  have kf:=hide ((grow_step k8 kb.out).trans (ho.below hge.out))
  have hr:=hide (rs_only hv y2 ho)
  clear ho y2 k8 kb yx y6 y7 hv hA hB hk hd
  go_wp2
  refine bodyPost_ret (results_ct rfl _ _ bx 30 _ (0,0) _ rfl hfin.out Tryz.underlying30 rfl k_f) rfl ?_
  exact⟨_,classE m.d m.x,⟨kf.out,.inr ⟨he.out,v,rfl,hr.out⟩⟩,(hDR.out _ _).2 ⟨rfl,rfl⟩⟩
 ·have hcall:=hide (class_n hd.out o_m hk.out o_m)
  go_wp2_with fail
  refine hcall.out.mono ?_
  rintro e w8 ⟨k8,hor⟩
  have y2:=yx.out.below k8
  have c0:=y2.c0
  have c1:=y2.c1
  have c2:=y2.c2
  have f0:=y2.f 0
  have f1:=y2.f 1
  have f2:=y2.f 2
  clear hcall q0 q1 q2 q3 q4 q5 q6
  rcases hor with⟨he,rfl⟩|⟨he,v,rfl,hv⟩
  ·have ho:=only3 bx w8 (.int .i64 0) (.slice none 0 0) (.slice none 0 0)
   have hfin:=hide (sbr_fin (p':=0) (v':=⟨none,0,0,none,0,0⟩) y2)
   have kf:=hide ((grow_step k8 kb.out).trans (ho.below hge.out))
   replace he:=hide he
   clear ho y2 k8 kb yx y6 y7 hA hB hk hd
   go_wp2
   refine bodyPost_ret (results_ct rfl _ _ bx 30 _ (0,0) _ rfl hfin.out Tryz.underlying30 rfl k_f) rfl ?_
   exact⟨_,classE m.d m.x,⟨kf.out,.inl ⟨he.out,rfl⟩⟩,(hDR.out _ _).2 ⟨rfl,rfl⟩⟩
  replace he:=hide he
  have ho:=only3 bx w8 (.int .i64 (classE m.d m.x).p) (.slice v.ca v.cn v.cc) (.slice v.ra v.rn v.rc)
  have hfin:=hide (sbr_fin (p':=(classE m.d m.x).p) (v':=v) y2)
  have kf:=hide ((grow_step k8 kb.out).trans (ho.below hge.out))
  have hr:=hide (rs_only hv y2 ho)
  clear ho y2 k8 kb yx y6 y7 hv hA hB hk hd
  go_wp2
  refine bodyPost_ret (results_ct rfl _ _ bx 30 _ (0,0) _ rfl hfin.out Tryz.underlying30 rfl k_f) rfl ?_
  exact⟨_,classE m.d m.x,⟨kf.out,.inr ⟨he.out,v,rfl,hr.out⟩⟩,(hDR.out _ _).2 ⟨rfl,rfl⟩⟩
 ·have hcall:=hide (rest_n hA.out o_m)
  have t0:=y6.out.c0
  have t1:=y6.out.c1
  have t2:=y6.out.c2
  go_wp2_with fail
  refine hcall.out.mono ?_
  rintro e w8 ⟨v,rfl,hv,k8⟩
  clear t0 t1 t2
  have y2:=yx.out.below k8
  have c0:=y2.c0
  have c1:=y2.c1
  have c2:=y2.c2
  have f0:=y2.f 0
  have f1:=y2.f 1
  have f2:=y2.f 2
  clear hcall q0 q1 q2 q3 q4 q5 q6
  have ho:=only3 bx w8 (.int .i64 A.p) (.slice v.ca v.cn v.cc) (.slice v.ra v.rn v.rc)
  have hfin:=hide (sbr_fin (p':=A.p) (v':=v) y2)
  have kf:=hide ((grow_step k8 kb.out).trans (ho.below hge.out))
  have hr:=hide (rs_only hv y2 ho)
  clear ho y2 k8 kb yx y6 y7 hv hA hB hk hd
  go_wp2
  refine bodyPost_ret (results_ct rfl _ _ bx 30 _ (0,0) _ rfl hfin.out Tryz.underlying30 rfl k_f) rfl ?_
  exact⟨0,restE A,⟨kf.out,.inr ⟨rfl,v,rfl,hr.out⟩⟩,(hDR.out _ _).2 ⟨rfl,rfl⟩⟩
 ·have t0:=y6.out.c0
  have t1:=y6.out.c1
  have t2:=y6.out.c2
  have t3:=y7.out.c0
  have t4:=y7.out.c1
  have t5:=y7.out.c2
  have hcall:=hide (meet_n hA.out hB.out o_m o_m)
  go_wp2_with fail
  refine hcall.out.mono ?_
  rintro e w8 ⟨E,⟨k8,hor⟩,hjr⟩
  have y2:=yx.out.below k8
  have c0:=y2.c0
  have c1:=y2.c1
  have c2:=y2.c2
  have f0:=y2.f 0
  have f1:=y2.f 1
  have f2:=y2.f 2
  clear hcall q0 q1 q2 q3 q4 q5 q6
  clear t0 t1 t2 t3 t4 t5
  replace hjr:=hide hjr
  rcases hor with⟨he,rfl⟩|⟨he,v,rfl,hv⟩
  ·have ho:=only3 bx w8 (.int .i64 0) (.slice none 0 0) (.slice none 0 0)
   have hfin:=hide (sbr_fin (p':=0) (v':=⟨none,0,0,none,0,0⟩) y2)
   have kf:=hide ((grow_step k8 kb.out).trans (ho.below hge.out))
   replace he:=hide he
   clear ho y2 k8 kb yx y6 y7 hA hB hk hd
   go_wp2
   refine bodyPost_ret (results_ct rfl _ _ bx 30 _ (0,0) _ rfl hfin.out Tryz.underlying30 rfl k_f) rfl ?_
   exact⟨_,E,⟨kf.out,.inl ⟨he.out,rfl⟩⟩,(hDR.out _ _).2 ⟨rfl,hjr.out⟩⟩
  replace he:=hide he
  have ho:=only3 bx w8 (.int .i64 E.p) (.slice v.ca v.cn v.cc) (.slice v.ra v.rn v.rc)
  have hfin:=hide (sbr_fin (p':=E.p) (v':=v) y2)
  have kf:=hide ((grow_step k8 kb.out).trans (ho.below hge.out))
  have hr:=hide (rs_only hv y2 ho)
  clear ho y2 k8 kb yx y6 y7 hv hA hB hk hd
  go_wp2
  refine bodyPost_ret (results_ct rfl _ _ bx 30 _ (0,0) _ rfl hfin.out Tryz.underlying30 rfl k_f) rfl ?_
  exact⟨_,E,⟨kf.out,.inr ⟨he.out,v,rfl,hr.out⟩⟩,(hDR.out _ _).2 ⟨rfl,hjr.out⟩⟩
 ·have t0:=y6.out.c0
  have t1:=y6.out.c1
  have t2:=y6.out.c2
  have t3:=y7.out.c0
  have t4:=y7.out.c1
  have t5:=y7.out.c2
  have hcall:=hide (meet_n hA.out hB.out o_m o_m)
  go_wp2_with fail
  refine hcall.out.mono ?_
  rintro e w8 ⟨E,⟨k8,hor⟩,hjr⟩
  have y2:=yx.out.below k8
  have c0:=y2.c0
  have c1:=y2.c1
  have c2:=y2.c2
  have f0:=y2.f 0
  have f1:=y2.f 1
  have f2:=y2.f 2
  clear hcall q0 q1 q2 q3 q4 q5 q6
  clear t0 t1 t2 t3 t4 t5
  replace hjr:=hide hjr
  rcases hor with⟨he,rfl⟩|⟨he,v,rfl,hv⟩
  ·have ho:=only3 bx w8 (.int .i64 0) (.slice none 0 0) (.slice none 0 0)
   have hfin:=hide (sbr_fin (p':=0) (v':=⟨none,0,0,none,0,0⟩) y2)
   have kf:=hide ((grow_step k8 kb.out).trans (ho.below hge.out))
   replace he:=hide he
   clear ho y2 k8 kb yx y6 y7 hA hB hk hd
   go_wp2
   refine bodyPost_ret (results_ct rfl _ _ bx 30 _ (0,0) _ rfl hfin.out Tryz.underlying30 rfl k_f) rfl ?_
   exact⟨_,E,⟨kf.out,.inl ⟨he.out,rfl⟩⟩,(hDR.out _ _).2 ⟨rfl,hjr.out⟩⟩
  replace he:=hide he
  have ho:=only3 bx w8 (.int .i64 E.p) (.slice v.ca v.cn v.cc) (.slice v.ra v.rn v.rc)
  have hfin:=hide (sbr_fin (p':=E.p) (v':=v) y2)
  have kf:=hide ((grow_step k8 kb.out).trans (ho.below hge.out))
  have hr:=hide (rs_only hv y2 ho)
  clear ho y2 k8 kb yx y6 y7 hv hA hB hk hd
  go_wp2
  refine bodyPost_ret (results_ct rfl _ _ bx 30 _ (0,0) _ rfl hfin.out Tryz.underlying30 rfl k_f) rfl ?_
  exact⟨_,E,⟨kf.out,.inr ⟨he.out,v,rfl,hr.out⟩⟩,(hDR.out _ _).2 ⟨rfl,hjr.out⟩⟩
 have t0:=y6.out.c0
 have t1:=y6.out.c1
 have t2:=y6.out.c2
 have t3:=y7.out.c0
 have t4:=y7.out.c1
 have t5:=y7.out.c2
 have hcall:=hide (join_n hA.out hB.out o_m o_m)
 go_wp2_with fail
 refine hcall.out.mono ?_
 rintro e w8 ⟨E,⟨k8,hor⟩,hjr⟩
 have y2:=yx.out.below k8
 have c0:=y2.c0
 have c1:=y2.c1
 have c2:=y2.c2
 have f0:=y2.f 0
 have f1:=y2.f 1
 have f2:=y2.f 2
 clear hcall q0 q1 q2 q3 q4 q5 q6
 clear t0 t1 t2 t3 t4 t5
 replace hjr:=hide hjr
 rcases hor with⟨he,rfl⟩|⟨he,v,rfl,hv⟩
 ·have ho:=only3 bx w8 (.int .i64 0) (.slice none 0 0) (.slice none 0 0)
  have hfin:=hide (sbr_fin (p':=0) (v':=⟨none,0,0,none,0,0⟩) y2)
  have kf:=hide ((grow_step k8 kb.out).trans (ho.below hge.out))
  replace he:=hide he
  clear ho y2 k8 kb yx y6 y7 hA hB hk hd
  go_wp2
  refine bodyPost_ret (results_ct rfl _ _ bx 30 _ (0,0) _ rfl hfin.out Tryz.underlying30 rfl k_f) rfl ?_
  exact⟨_,E,⟨kf.out,.inl ⟨he.out,rfl⟩⟩,(hDR.out _ _).2 ⟨rfl,hjr.out⟩⟩
 replace he:=hide he
 have ho:=only3 bx w8 (.int .i64 E.p) (.slice v.ca v.cn v.cc) (.slice v.ra v.rn v.rc)
 have hfin:=hide (sbr_fin (p':=E.p) (v':=v) y2)
 have kf:=hide ((grow_step k8 kb.out).trans (ho.below hge.out))
 have hr:=hide (rs_only hv y2 ho)
 clear ho y2 k8 kb yx y6 y7 hv hA hB hk hd
 go_wp2
 refine bodyPost_ret (results_ct rfl _ _ bx 30 _ (0,0) _ rfl hfin.out Tryz.underlying30 rfl k_f) rfl ?_
 exact⟨_,E,⟨kf.out,.inr ⟨he.out,v,rfl,hr.out⟩⟩,(hDR.out _ _).2 ⟨rfl,hjr.out⟩⟩
end Cr
namespace Cr
open Pd (SN SV ZV plc MkD MLs OwZ encL grown_only al_b)

variable {w w':World}{base n:Nat}{v:Value}
def encS (t:Nat × SV):List Value:=[.int .i64 t.1,.slice t.2.ca t.2.cn t.2.cc,.slice t.2.ra t.2.rn t.2.rc]
theorem encS_len (t:Nat × SV):(encS t).length=3:=rfl
theorem encS_one (t:Nat × SV): ∀u∈encS t,u.oneCell'=true:=by
 intro u hu
 simp only[encS,List.mem_cons,List.not_mem_nil,or_false]at hu
 rcases hu with rfl|rfl|rfl <;> rfl
abbrev zS :Value:=.agg #[.int .i64 0,.slice none 0 0,.slice none 0 0]
theorem infoS :(Tryz.prog.info? 30).map (fun i=>(i.zero,i.size,i.bytes))=some (some zS,3,56):=by kernel_rfl
abbrev OS (w:World) (base:Nat) (v:Value) (n:Nat) (q:List (Nat × SV)):Prop:=OwZ encS zS.cells 30 3 w base v n q
theorem os_no {q:List (Nat × SV)}(h:OS w base v n q){g:Nat}(hg:v.ownBlock=some g): ∀off u,w.cell? ⟨g,off,none⟩=some u→(∀i,u≠ .int .u32 i)∧∀s,u≠ .bool s:=by
 refine h.all (by decide) rfl (R:=fun u=>(∀i,u≠ .int .u32 i)∧∀s,u≠ .bool s) (fun x u hu=> ?_) (fun j hj=> ?_) hg
 ·simp only[encS,List.mem_cons,List.not_mem_nil,or_false]at hu
  rcases hu with rfl|rfl|rfl <;> exact⟨fun i h=>(by cases h),fun s h=>(by cases h)⟩
 match j,hj with
 |0,_=>exact⟨fun i h=>(by cases h),fun s h=>(by cases h)⟩
 |1,_=>exact⟨fun i h=>(by cases h),fun s h=>(by cases h)⟩
 |2,_=>exact⟨fun i h=>(by cases h),fun s h=>(by cases h)⟩
theorem zm_grownu {s:Bool}{ad:Option Addr}{len cap g:Nat}{z:Int}(h:Zm w s ad len cap z)(hg:w.grownBy w' (some g))(hx: ∀off i,w.cell? ⟨g,off,none⟩≠some (.int .u32 i)):Zm w' s ad len cap z:=by
 obtain⟨n,⟨zs,⟨h1,h2,h3,h4,h5⟩,hv⟩,hsg⟩:=h
 refine⟨n,⟨zs,⟨h1,h2,h3,h4,?_⟩,hv⟩,hsg⟩
 rcases h5 with h5|⟨a,e,h5|⟨b,off,rfl,hb,hc⟩⟩
 ·exact .inl h5
 ·exact .inr ⟨a,e,.inl h5⟩
 by_cases h0:len=0
 ·exact .inr ⟨_,e,.inl h0⟩
 have hbx:some b≠some g:=fun e2=>by
  cases e2
  exact hx _ _ (hc 0 o_m)
 exact .inr ⟨_,e,.inr ⟨b,off,rfl,Nat.lt_of_lt_of_le hb hg.size,fun i hi=>(World.cell?_of_block (a:=⟨b,_,none⟩) (hg.block b hb hbx)).trans (hc i hi)⟩⟩
theorem rs_grown {u:SV}{E:RE}{q:List (Nat × SV)}(h:RS w u E)(ho:OS w base v n q)(hg:w.grownBy w' v.ownBlock):RS w' u E:=by
 obtain⟨-,g,c,-,-,-,-,hO,e,-⟩:=ho.any (by decide) encS_len
 have hno:=os_no ho e
 have hoo: ∀g',v.ownBlock=some g'→Pd.Own w g' 30:=fun g' e2=>by rw[e]at e2;cases e2;exact hO
 have hg2:=hg
 rw[e]at hg2
 refine⟨h.wf,⟨h.cu.1,fun i hi hi'=> ?_⟩,⟨h.ro.len,?_⟩,h.cc⟩
 ·obtain⟨b,off,z,e1,hb,h1,h2,h3,h4⟩:=h.cu.2 i hi hi'
  have hne:some b≠some g:=fun e2=>by
   cases e2
   exact(hno _ _ h1).2 _ rfl
  exact⟨b,off,z,e1,Nat.lt_of_lt_of_le hb hg.size,(World.cell?_of_block (a:=⟨b,_,none⟩) (hg2.block b hb hne)).trans h1,(World.cell?_of_block (a:=⟨b,_,none⟩) (hg2.block b hb hne)).trans h2,zm_grownu h3 hg2 (fun off' i' e2=>(hno _ _ e2).1 _ rfl),h4⟩
 obtain⟨b,off,e1,hb,hr⟩:=h.ro.at'
 have hbl:=hb.lt
 obtain⟨cur,hcur⟩:=hb
 have hne:some b≠some g:=fun e2=>by
  cases e2
  exact hO.ne hcur (by decide) rfl
 refine⟨b,off,e1,⟨cur,(hg2.block b hbl hne).trans hcur⟩,fun i hi=> ?_⟩
 obtain⟨g',h1,h2⟩:=hr i hi
 exact⟨g',(World.cell?_of_block (a:=⟨b,_,none⟩) (hg2.block b hbl hne)).trans h1,h2.grown hg hoo (by decide)⟩
structure Ps (w:World) (q:List (Nat × SV)) (Es:List RE):Prop where
 len:q.length=Es.length
 st: ∀i (h:i<q.length) (h':i<Es.length),RS w q[i].2 Es[i]∧q[i].1=Es[i].p
theorem Ps.below {q:List (Nat × SV)}{Es:List RE}(h:Ps w q Es)(k:Below w.heap.size w w'):Ps w' q Es:=⟨h.len,fun i h1 h2=>⟨(h.st i h1 h2).1.below k,(h.st i h1 h2).2⟩⟩
theorem Ps.snoc {q:List (Nat × SV)}{Es:List RE}{v:SV}{E:RE}(h:Ps w q Es)(hv:RS w v E):Ps w (q++ [(E.p,v)]) (Es++ [E]):=by
 have hl:=h.len
 refine⟨by simp[hl],fun i h1 h2=> ?_⟩
 by_cases hi:i<q.length
 ·rw[List.getElem_append_left hi,List.getElem_append_left o_m]
  exact h.st i hi o_m
 obtain rfl:i=q.length:=by simp at h1;omega
 have e1:(q++ [(E.p,v)])[q.length]=(E.p,v):=by simp
 have e2:(Es++ [E])[q.length]'h2=E:=by simp[hl]
 rw[e1,e2]
 exact⟨hv,rfl⟩
theorem Ps.grown {q r:List (Nat × SV)}{Es:List RE}(h:Ps w r Es)(ho:OS w base v n q)(hg:w.grownBy w' v.ownBlock):Ps w' r Es:=⟨h.len,fun i h1 h2=>⟨rs_grown (h.st i h1 h2).1 ho hg,(h.st i h1 h2).2⟩⟩
theorem os_ls {q:List (Nat × SV)}{Es:List RE}(h:OS w base v n q)(hq:Ps w q Es): ∃g c,v= .slice (some ⟨g,0,none⟩) n c∧LSr w (some ⟨g,0,none⟩) n Es:=by
 obtain⟨h1,g,c,rfl,h2,h3,h4,ho,h5,hc⟩:=h.any (by decide) encS_len
 have hl:=hq.len
 refine⟨g,c,rfl,by omega,fun i hi hi'=>⟨g,(q[i]'o_m).2,rfl,ho.lt,?_,hc i o_m 1 (by decide),hc i o_m 2 (by decide),(hq.st i o_m hi').1⟩⟩
 have:=hc i o_m 0 (by decide)
 rw[Nat.add_zero]at this
 rw[this,←(hq.st i o_m hi').2]
 rfl
def BltE (R:List MkD):Nat→List RE→Prop
 |0,Es=>Es= [noneE]
 |i+1,Es=> ∃Es0,BltE R i Es0∧((∃err E,err≠0∧DoE (R.getD i ⟨0,0,0,0,0⟩) Es0 err E∧Es=Es0)∨ ∃E,DoE (R.getD i ⟨0,0,0,0,0⟩) Es0 0 E∧Es=Es0++ [E])
theorem JnR.cn {meet:Bool}{A B E:RE}(h:JnR meet A B E):E.cs.length≤A.cs.length+B.cs.length:=by
 obtain⟨l,-,-,hj,hl⟩:=h
 exact Nat.le_trans hj.ck hl
theorem DoE.cn {m:MkD}{Es:List RE}{E:RE}{N:Nat}(h:DoE m Es 0 E)(hN:1≤N)(hcs: ∀E∈Es,E.cs.length≤N):E.cs.length≤2*N:=by
 have hg: ∀j,(Es.getD j ⟨1,[],[]⟩).cs.length≤N:=fun j=>by
  by_cases hj:j<Es.length
  ·rw[show Es.getD j ⟨1,[],[]⟩=Es[j]by simp[List.getD,hj]]
   exact hcs _ (List.getElem_mem hj)
  rw[show Es.getD j ⟨1,[],[]⟩=⟨1,[],[]⟩by simp[List.getD,List.getElem?_eq_none (Nat.le_of_not_lt hj)]]
  exact Nat.zero_le _
 have h1:=hg (Pd.pkN m.a Es.length)
 have h2:=hg (Pd.pkN m.b Es.length)
 unfold DoE at h
 generalize Es.getD (Pd.pkN m.a Es.length) ⟨1,[],[]⟩=A at*
 generalize Es.getD (Pd.pkN m.b Es.length) ⟨1,[],[]⟩=B at*
 unfold DoE' at h
 split at h
 ·rw[h.2];show 1≤2*N;omega
 ·rw[h.2];show 1≤2*N;omega
 ·rw[h.2];exact Nat.zero_le _
 ·rw[h.2];exact Nat.zero_le _
 ·rw[h.2];show A.cs.length≤2*N;omega
 ·have:=(h.2 rfl).cn;omega
 ·have:=(h.2 rfl).cn;omega
 have:=(h.2 rfl).cn;omega
theorem one_src {p:Nat}{v:SV}: ∀j u,(encS (p,v))[j]? =some u→(w.alloc (.cells #[.int .i64 p,.slice v.ca v.cn v.cc,.slice v.ra v.rn v.rc] 30)).cell? ((⟨w.heap.size,0,none⟩:Addr).add j)=some u:=fun j u hu=>by
 rw[Addr.add_lit,Nat.zero_add,cell_of_row _ _ _ _ _ (0,0) (heap_alloc_new w _)]
 simpa [encS] using hu
theorem build_n {la:Option Addr}{ln lc:Nat}{R:List MkD}(hR:MLs w la ln R)(hn:ln≤1048576):
  Calls Tryz.prog 16 #[.slice la ln lc] w fun e w'=> ∃a n c Es,e= .returned (.slice a n c)∧LSr w' a n Es∧1≤n∧n≤13∧(∀E∈Es,E.cs.length≤4096)∧BltE R (min ln 12) Es∧Below w.heap.size w w':=by
 have hno:=hide (none18_n w)
 replace hR:=hide hR
 go_enter Tryz.func16,Tryz.ntmps16
 go_wp2_with fail
 refine hno.out.mono ?_
 rintro e w1 ⟨v0,rfl,hv0,k1⟩
 have b1:=below_alloc w1 (.cells #[.int .i64 1,.slice v0.ca v0.cn v0.cc,.slice v0.ra v0.rn v0.rc] 30)
 have o1:=hide (Pd.owz_lit (enc:=encS) (zc:=zS.cells) (e:=30) encS_len w1 [(1,v0)] 1 rfl (by decide) #[.int .i64 1,.slice v0.ca v0.cn v0.cc,.slice v0.ra v0.rn v0.rc] rfl)
 have p1:Hid (Ps (w1.alloc (.cells #[.int .i64 1,.slice v0.ca v0.cn v0.cc,.slice v0.ra v0.rn v0.rc] 30)) [(1,v0)] [noneE]):=hide ⟨rfl,fun i h1 h2=>by
  obtain rfl:i=0:=by simp at h1;omega
  exact⟨hv0.below b1,rfl⟩⟩
 have k2:=hide (grow_step b1 k1)
 have hob:Hid (OS _ w.heap.size _ 1 [(1,v0)]):=hide ⟨⟨o1.out.own.1,.inr ⟨w1.heap.size,1,_,rfl,k1.size,heap_alloc_new w1 _,by decide,by decide,rfl,rfl⟩⟩,o1.out.sp,o1.out.ne⟩
 clear hno b1 hv0 k1 o1
 go_wp2_with fail
 go_loopw [3,4] (fun vo vi wr=> ∃(i n g c:Nat) (q:List (Nat × SV)) (Es:List RE),i≤12∧i≤ln∧vi= .int .i64 i∧vo= .slice (some ⟨g,0,none⟩) n c∧OS wr w.heap.size (.slice (some ⟨g,0,none⟩) n c) n q∧Ps wr q Es∧1≤n∧n≤i+1∧(∀E∈Es,E.cs.length≤2^i)∧BltE R i Es∧Below w.heap.size w wr) (fun _ vi _=>12-(intOf vi).toNat)
 case atStart=>exact⟨0,1,_,_,[(1,v0)],[noneE],by decide,Nat.zero_le _,rfl,rfl,hob.out,p1.out,by decide,by decide,fun E h=>(by rw[List.mem_singleton.1 h];decide),rfl,k2.out⟩
 case round=>
  clear hob p1 k2
  obtain⟨i,n,g,c,q,Es,hi12,hil,rfl,rfl,ho,hp,hn1,hni,hcs,hbl2,kr⟩:=hrel
  by_cases hil2:i<ln
  ·by_cases hi2:i<12
   ·obtain⟨g',c',he,hsl⟩:=os_ls ho hp
    cases he
    obtain⟨mb,mo,zk,zd,rfl,hmb,mc⟩:=(hR.out.below kr).get hil2
    obtain⟨x,hx⟩: ∃x,R.getD i ⟨0,0,0,0,0⟩=x:=⟨_,rfl⟩
    rw[hx]at mc
    have hpw:=Pd.pow_two_le hi12
    have hdo:=hide (do18_n (lc:=c) (N:=2^i) mc.nk mc.kl mc.nd mc.dl mc.ik mc.ia mc.ib hsl hn1 o_m o_m hcs)
    have e0:=mc.c0
    have e1:=mc.c1
    have e2:=mc.c2
    have e3:=mc.c3
    have e4:=mc.c4
    have e5:=mc.c5
    have e6:=mc.c6
    replace hx:=hide hx
    replace ho:=hide ho
    replace hp:=hide hp
    replace hcs:=hide hcs
    replace hbl2:=hide hbl2
    replace kr:=hide kr
    clear hsl mc
    go_wp2_with fail
    refine hdo.out.mono ?_
    rintro e w4 ⟨err,E,⟨k4,⟨he,rfl⟩|⟨he,v,rfl,hv⟩⟩,hdr⟩
    ·have hne:(err==0)=false:=by rw[beq_eq_false_iff_ne];exact he
     have b5:=below_alloc w4 (.cells #[.int .i64 0,.slice none 0 0,.slice none 0 0] 30)
     have hb5:Hid (BltE R (i+1) Es):=hide ⟨Es,hbl2.out,.inl ⟨err,E,he,by rw[hx.out];exact hdr,rfl⟩⟩
     have hc5:Hid (∀E∈Es,E.cs.length≤2^(i+1)):=hide fun E h=>Nat.le_trans (hcs.out E h) (Nat.pow_le_pow_right (by decide) (Nat.le_succ i))
     have ho5:=hide ((ho.out.below k4).below b5)
     have hp5:=hide ((hp.out.below k4).below b5)
     have k5:=hide (grow_step b5 (grow_step k4 kr.out))
     clear hdo he hdr k4 b5 e0 e1 e2 e3 e4 e5 e6 ho hp hcs hbl2 kr hx hpw
     go_wp2
     go_roundw
     case measure=>simp[intOf];omega
     case rel=>exact⟨i+1,n,g,_,q,Es,by omega,by omega,by go_num,rfl,ho5.out,hp5.out,hn1,by omega,hc5.out,hb5.out,k5.out⟩
    subst he
    have hb5:Hid (BltE R (i+1) (Es++ [E])):=hide ⟨Es,hbl2.out,.inr ⟨E,by rw[hx.out];exact hdr,rfl⟩⟩
    have hcE:=hdr.cn hpw.1 hcs.out
    have hc5:Hid (∀F∈Es++ [E],F.cs.length≤2^(i+1)):=hide fun F h=>by
     rcases List.mem_append.1 h with h|h
     ·exact Nat.le_trans (hcs.out F h) (Nat.pow_le_pow_right (by decide) (Nat.le_succ i))
     rw[List.mem_singleton.1 h,Nat.pow_succ,Nat.mul_comm];exact hcE
    have b5:=below_alloc w4 (.cells #[.int .i64 E.p,.slice v.ca v.cn v.cc,.slice v.ra v.rn v.rc] 30)
    have y5:=sbr_new w4 E.p v
    have c0:=y5.c0
    have c1:=y5.c1
    have c2:=y5.c2
    have b6:=below_alloc (w4.alloc (.cells #[.int .i64 E.p,.slice v.ca v.cn v.cc,.slice v.ra v.rn v.rc] 30)) (.cells #[.int .i64 E.p,.slice v.ca v.cn v.cc,.slice v.ra v.rn v.rc] 30)
    have ho5:=hide ((ho.out.below k4).below (grow_step b6 b5))
    have hp5:=hide ((((hp.out.below k4).snoc hv)).below (grow_step b6 b5))
    have k5:=hide (grow_step (grow_step b6 b5) (grow_step k4 kr.out))
    have s5:=hide (one_src (w:=w4.alloc (.cells #[.int .i64 E.p,.slice v.ca v.cn v.cc,.slice v.ra v.rn v.rc] 30)) (p:=E.p) (v:=v))
    have hsz:Hid (w.heap.size≤((w4.alloc (.cells #[.int .i64 E.p,.slice v.ca v.cn v.cc,.slice v.ra v.rn v.rc] 30)).alloc (.cells #[.int .i64 E.p,.slice v.ca v.cn v.cc,.slice v.ra v.rn v.rc] 30)).heap.size):=hide k5.out.size
    clear hdo hdr k4 b5 b6 e0 e1 e2 e3 e4 e5 e6 ho hp hcs hbl2 kr hx hpw hv y5
    go_upto_region 7 with(fail)
    generalize w4.alloc (.cells #[.int .i64 E.p,.slice v.ca v.cn v.cc,.slice v.ra v.rn v.rc] 30)=w5 at*
    obtain⟨b5,hb5e⟩: ∃b5,w4.heap.size=b5:=⟨_,rfl⟩
    rw[hb5e]at c0 c1 c2 ⊢
    clear hb5e
    go_wp2_with(refine Pd.appz_wp (m:=1) Tryz.underlying32 infoS rfl (by decide) (by decide) encS_len encS_one rfl _ _ rfl rfl ho5.out [(E.p,v)] rfl (.inr ⟨_,_,rfl,fun j u hu=>s5.out j u (by simpa [encL] using hu)⟩) o_m hsz.out ?_)
    intro v6 w6 ho6 hg6 hv6
    obtain⟨-,g6,c6,rfl,-⟩:=ho6.any (by decide) encS_len
    have hp6:=hide (hp5.out.grown ho5.out hg6)
    have k6:Hid (Below w.heap.size w w6):=hide (Pd.below_grown k5.out hg6 (fun g' e=>(Pd.own_blk ho5.out.own g' e).1) hsz.out)
    replace ho6:=hide ho6
    clear hg6 hv6 ho5 hp5 k5 s5 hsz c0 c1 c2
    go_wp2
    go_roundw
    case measure=>simp[intOf];omega
    case rel=>exact⟨i+1,n+1,g6,_,_,_,by omega,by omega,by go_num,rfl,ho6.out,hp6.out,by omega,by omega,hc5.out,hb5.out,k6.out⟩
   obtain rfl:i=12:=by omega
   obtain⟨g',c',he,hsl⟩:=os_ls ho hp
   cases he
   have hm:Hid (min ln 12=12):=hide o_m
   replace hsl:=hide hsl
   replace hcs:=hide hcs
   replace hbl2:=hide hbl2
   replace kr:=hide kr
   clear ho hp
   go_wp2
   exact bodyPost_ret (results_tmp rfl _ _ _) rfl ⟨_,_,_,Es,rfl,hsl.out,hn1,hni,hcs.out,by rw[hm.out];exact hbl2.out,kr.out⟩
  obtain rfl:i=ln:=by omega
  obtain⟨g',c',he,hsl⟩:=os_ls ho hp
  cases he
  have hm:Hid (min i 12=i):=hide o_m
  have hcs2:Hid (∀E∈Es,E.cs.length≤4096):=hide fun E h=>Nat.le_trans (hcs E h) (Pd.pow_two_le hi12).2
  replace hsl:=hide hsl
  replace hbl2:=hide hbl2
  replace kr:=hide kr
  have hn13:n≤13:=by omega
  clear ho hp hcs
  go_wp2
  exact bodyPost_ret (results_tmp rfl _ _ _) rfl ⟨_,_,_,Es,rfl,hsl.out,hn1,hn13,hcs2.out,by rw[hm.out];exact hbl2.out,kr.out⟩
end Cr
namespace Cr
open Pd (SN SV ZV plc)

theorem empty_n {w:World}{g n:Nat}{r:List Bool}(h:BB w g r)(hn:r.length=n)(hnb:n≤16777216):
  Calls Tryz.prog 80 #[.slice (some ⟨g,0,none⟩) n n] w fun e w'=> ∃b:Bool,e= .returned (.bool b)∧(b=true↔ ∀j,j<n→bit r j=false)∧Below w.heap.size w w':=by
 go_enter Tryz.func80,Tryz.ntmps80
 go_wp2_with fail
 go_loopw [3] (fun vi wr=> ∃k:Nat,k≤n∧vi= .int .i64 k∧(∀j,j<k→bit r j=false)∧wr=w) (fun vi _=>n-(intOf vi).toNat)
 case atStart=>exact⟨0,Nat.zero_le _,rfl,fun j hj=>absurd hj (Nat.not_lt_zero _),rfl⟩
 case round=>
  obtain⟨k,hk,rfl,hno,rfl⟩:=hrel
  by_cases hkn:k<n
  ·have ec:=h.cell (i:=k) o_m
   obtain⟨x,hx⟩: ∃x,bit r k=x:=⟨_,rfl⟩
   rw[hx]at ec
   cases x
   ·have hn2:Hid (∀j,j<k+1→bit r j=false):=hide fun j hj=>by
     rcases Nat.lt_succ_iff_lt_or_eq.1 hj with h|rfl
     ·exact hno j h
     exact hx
    clear hno hx
    go_wp2
    exact⟨⟨k+1,by omega,by go_num,hn2.out,trivial⟩,by simp[intOf];omega⟩
   have hf:Hid (¬ ∀j,j<n→bit r j=false):=hide fun h=>by
    have:=h k hkn
    rw[hx]at this
    cases this
   clear hno hx
   go_wp2
   exact bodyPost_ret (results_tmp rfl _ _ _) rfl ⟨false,rfl,⟨fun h=>(by cases h),fun h=>absurd h hf.out⟩,Below.refl _ _⟩
  obtain rfl:k=n:=by omega
  replace hno:=hide hno
  go_wp2
  exact bodyPost_ret (results_tmp rfl _ _ _) rfl ⟨true,rfl,⟨fun _=>hno.out,fun _=>rfl⟩,Below.refl _ _⟩
end Cr
end Go.Proofs.YtaafoppaepcaeaaGreat
