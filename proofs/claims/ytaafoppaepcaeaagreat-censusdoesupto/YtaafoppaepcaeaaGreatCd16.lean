/-
 Several texts in one: PdA,PdB,PdC,PdD,PdE,PdF,PdG,PdH,PdI,PdJ,PdK,PdL,PdM,PdN,PdM1,PdP.
-/
import Derived.Test.YtaafoppaepcaeaaGreatCdT
import Derived.Test.YtaafoppaepcaeaaGreatCd15
import Derived.Maps.AppendAt
set_option maxRecDepth 100000
set_option maxHeartbeats 12800000
namespace Go.Proofs.YtaafoppaepcaeaaGreat
open Go.RowKit
namespace Pd

variable {sz g b base n:Nat}{w w':World}{e:TypeId}{cs:List Int}{v:Value}{xs:List Value}
def encL {α:Type}(enc:α→List Value)(l:List α):List Value:=l.flatMap enc
theorem encL_append {α:Type}(enc:α→List Value)(l m:List α):encL enc (l++m)=encL enc l++encL enc m:=List.flatMap_append
theorem encL_length {α:Type}{enc:α→List Value}(h: ∀x,(enc x).length=sz)(l:List α):(encL enc l).length=l.length*sz:=by
 induction l with
 |nil=>simp[encL]
 |cons x l ih=>
  show(enc x++encL enc l).length=_
  rw[List.length_append,ih,List.length_cons,h x,Nat.add_mul]
  omega
theorem encL_get {α:Type}{enc:α→List Value}(h: ∀x,(enc x).length=sz){l:List α}: ∀{i:Nat}(hi:i<l.length) {j:Nat},j<sz→(encL enc l)[i*sz+j]? =(enc l[i])[j]?:=by
 induction l with
 |nil=>exact fun h=>absurd h (by simp)
 |cons x l ih=>
  intro i hi j hj
  show(enc x++encL enc l)[i*sz+j]? =_
  cases i with
  |zero=>
   rw[List.getElem?_append_left (by rw[h x];omega),Nat.zero_mul,Nat.zero_add]
   rfl
  |succ i=>
   rw[List.getElem?_append_right (by rw[h x,Nat.add_mul];omega),h x,show(i+1)*sz+j-sz=i*sz+j by rw[Nat.add_mul];omega,ih (by simpa using hi) hj]
   rfl
def Own (w:World)(g:Nat)(e:TypeId):Prop:=∃cur,w.heap[g]? =some (.cells cur e (0,0))
theorem Own.lt (h:Own w g e):g<w.heap.size:=by
 obtain⟨cur,h⟩:=h
 exact(Array.getElem?_eq_some_iff.1 h).1
theorem Own.ne {t:TypeId}{cs:Array Value}{fr:Nat × Nat}(h:Own w g e)(hb:w.heap[b]? =some (.cells cs t fr))(he:t≠e):b≠g:=by
 rintro rfl
 obtain⟨cur,h⟩:=h
 rw[h]at hb
 cases hb
 exact he rfl
theorem own_any {α:Type}{enc:α→List Value}(hsz:0<sz)(henc: ∀x,(enc x).length=sz){w:World}{base n:Nat}{e:TypeId}{v:Value}{l:List α}(h:w.ownsRow base e sz v n (encL enc l)):
  l.length=n∧∃a c,v= .slice a n c∧n≤c∧c≤9223372036854775807∧((n=0∧v.ownBlock=none)∨ ∃g,a=some ⟨g,0,none⟩∧base≤g∧Own w g e∧v.ownBlock=some g∧∀i (h:i<l.length) j,j<sz→w.cell? ⟨g,i*sz+j,none⟩=(enc l[i])[j]?):=by
 have hn:l.length=n:=by
  have:=h.1
  rw[encL_length henc]at this
  exact Nat.eq_of_mul_eq_mul_right hsz this
 refine⟨hn,?_⟩
 rcases h.2 with⟨rfl,rfl⟩|⟨g,cap,cur,rfl,hb,hg,hc,hm,hs,ht⟩
 ·exact⟨none,0,rfl,Nat.le_refl _,by decide,.inl ⟨rfl,rfl⟩⟩
 refine⟨_,cap,rfl,hc,by unfold maxLen at hm;omega,.inr ⟨g,rfl,hb,⟨_,hg⟩,rfl,fun i hi j hj=> ?_⟩⟩
 have h1:i*sz+j<n*sz:=by
  have:(i+1)*sz≤n*sz:=Nat.mul_le_mul_right _ o_m
  rw[Nat.add_mul]at this
  omega
 rw[cell_of_row w g (i*sz+j) _ _ (0,0) hg,←encL_get henc hi hj,←ht,List.getElem?_take,if_pos h1]
 simp
theorem app_run {α:Type}{enc:α→List Value}{T:TypeId}{z:Value}{by':Nat}(hT:Tryz.prog.underlying T=some (.slice e))(hI:(Tryz.prog.info? e).map (fun i=>(i.zero,i.size,i.bytes))=some (some z,sz,by'))(hzs:z.cells.size=sz)(hsz:0<sz)(hby:by'≤128)
  (henc: ∀x,(enc x).length=sz)(hone: ∀x,∀u∈enc x,u.oneCell'=true){w:World}{base n:Nat}{v:Value}{l:List α}(h:w.ownsRow base e sz v n (encL enc l))(t:α)(g c:Nat)(hc: ∀j u,(enc t)[j]? =some u→w.cell? ⟨g,j,none⟩=some u)(h63:n≤1073741824)(hbase:base≤w.heap.size)(ty:TypeId):
  ∃v' w',(Builtin.append_ #[T,T] ty #[v,.slice (some ⟨g,0,none⟩) 1 c]).run Tryz.prog w= .ok v' w'∧w'.ownsRow base e sz v' (n+1) (encL enc (l++ [t]))∧w.grownBy w' v.ownBlock∧(v'.ownBlock=v.ownBlock∨v'.ownBlock=some w.heap.size):=by
 obtain⟨i0,hi,hz0,hz1,hz2⟩:=info_parts hI
 have hmul:(n+1)*by'≤1073741825*128:=Nat.mul_le_mul o_m hby
 obtain⟨v',w',h1,h2,h3,-,h5⟩:=run_append_own_at (P:=Tryz.prog) w base T ty e i0 z sz by' hT hi hz0 hz1 hz2 hzs hsz v n (encL enc l) h ⟨g,0,none⟩ 1 c (enc t) (by rw[henc];omega)
  (fun j u hu=>by rw[Addr.add_lit,Nat.zero_add];exact hc j u hu) (hone t) (by unfold maxLen;omega) o_m hbase
 refine⟨v',w',h1,?_,h3,h5⟩
 rw[encL_append,show encL enc [t]=enc t by simp[encL]]
 exact h2
theorem app_wp {α:Type}{enc:α→List Value}{T:TypeId}{z:Value}{by':Nat}(hT:Tryz.prog.underlying T=some (.slice e))(hI:(Tryz.prog.info? e).map (fun i=>(i.zero,i.size,i.bytes))=some (some z,sz,by'))(hzs:z.cells.size=sz)(hsz:0<sz)(hby:by'≤128)
  (henc: ∀x,(enc x).length=sz)(hone: ∀x,∀u∈enc x,u.oneCell'=true){w:World}{base n:Nat}{v:Value}{l:List α}{ops:Array Oper}{rest:List Oper}{o:Oper}{a:Act}{Q:Exit→Act→World→Prop}(hgd:o.guard=none)(s x:Operand)(ho:o.op= .call {callee:=.builtin .append,args:=#[s,x],argTypes:=#[T,T]})(hs:a.eval s=v)
  (h:w.ownsRow base e sz v n (encL enc l))(t:α)(g c:Nat)(hx:a.eval x= .slice (some ⟨g,0,none⟩) 1 c)(hc: ∀j u,(enc t)[j]? =some u→w.cell? ⟨g,j,none⟩=some u)(h63:n≤1073741824)(hbase:base≤w.heap.size)
  (hK: ∀v' w',w'.ownsRow base e sz v' (n+1) (encL enc (l++ [t]))→w.grownBy w' v.ownBlock→(v'.ownBlock=v.ownBlock∨v'.ownBlock=some w.heap.size)→wpList Tryz.prog ops Q rest (a.put o.dst v') w'):wpList Tryz.prog ops Q (o::rest) a w:=by
 obtain⟨i0,hi,hz0,hz1,hz2⟩:=info_parts hI
 have hmul:(n+1)*by'≤1073741825*128:=Nat.mul_le_mul o_m hby
 refine wpList_append_own_at w hgd s x T ho base e i0 z sz by' hT hi hz0 hz1 hz2 hzs hsz v n (encL enc l) hs h ⟨g,0,none⟩ 1 c (enc t) hx (by rw[henc];omega)
  (fun j u hu=>by rw[Addr.add_lit,Nat.zero_add];exact hc j u hu) (hone t) (by unfold maxLen;omega) o_m hbase fun v' w' h1 h2 _ h4=>hK v' w' ?_ h2 h4
 rw[encL_append,show encL enc [t]=enc t by simp[encL]]
 exact h1
theorem below_grown {w0:World}(h:Below b w0 w)(hg:w.grownBy w' v.ownBlock)(hv: ∀g,v.ownBlock=some g→b≤g)(hb:b≤w.heap.size):Below b w0 w':=
 h.trans ⟨hg.os,hg.tape,hg.output,hg.size,fun k hk=>hg.block k o_m fun e=>by have:=hv k e.symm;omega⟩
theorem RB.grown {xs:List Int}{o:Option Nat}(h:RB w b xs)(hg:w.grownBy w' o)(ho: ∀g,o=some g→∃e,Own w g e∧111≠e):RB w' b xs:=
 (hg.block b h.lt fun e=>by
  obtain⟨t,h1,h2⟩:=ho b e.symm
  exact h1.ne h h2 rfl).trans h
theorem SB.grown {p:Nat}{v:SV}{o:Option Nat}(h:SB w b p v)(hg:w.grownBy w' o)(ho: ∀g,o=some g→∃e,Own w g e∧78≠e):SB w' b p v:=
 (hg.block b h.lt fun e=>by
  obtain⟨t,h1,h2⟩:=ho b e.symm
  exact h1.ne h h2 rfl).trans h
theorem Zf.grown {z:ZV}{x:Int}{o:Option Nat}(h:Zf w z x)(hg:w.grownBy w' o)(ho: ∀g,o=some g→∃e,Own w g e∧60≠e):Zf w' z x:=by
 obtain⟨⟨n,⟨⟨zs,hr,hc,hv⟩,-,hf⟩,hs,hn⟩,hl⟩:=h
 have hf':Fresh.Fr 0 w' z.a z.c:=by
  rcases hf with hf|⟨b,xs,e,h0,hrow,h1⟩
  ·exact .inl hf
  exact .inr ⟨b,xs,e,h0,(hg.block b hrow.lt fun e=>by
   obtain⟨t,h3,h4⟩:=ho b e.symm
   exact h3.ne hrow h4 rfl).trans hrow,h1⟩
 refine⟨⟨n,⟨⟨zs,?_,hc,hv⟩,Nat.zero_le _,hf'⟩,hs,hn⟩,hl⟩
 obtain⟨h1,h2,h3,h4,h5⟩:=hr
 refine⟨h1,h2,h3,h4,?_⟩
 rcases h5 with h5|⟨a,ha,h5⟩
 ·exact .inl h5
 refine .inr ⟨a,ha,h5.imp id ?_⟩
 rintro⟨b,off,rfl,hb,hcell⟩
 have hne:some b≠o:=fun e=>by
  rcases hf with⟨e2,-⟩|⟨b',xs,e2,-,hrow,-⟩
  ·rw[e2]at ha;cases ha
  rw[e2]at ha
  cases ha
  obtain⟨t,h3,h4⟩:=ho b e.symm
  exact h3.ne hrow h4 rfl
 exact⟨b,off,rfl,Nat.lt_of_lt_of_le hb hg.size,fun i hi=>(World.cell?_of_block (a:=⟨b,off+i,none⟩) (hg.block b hb hne)).trans (hcell i hi)⟩
def ZV.enc (z:ZV):List Value:=[.bool z.s,.slice z.a z.l z.c]
theorem zv_len (z:ZV):z.enc.length=2:=rfl
theorem zv_one (z:ZV): ∀u∈z.enc,u.oneCell'=true:=by
 intro u hu
 simp only[ZV.enc,List.mem_cons,List.not_mem_nil,or_false]at hu
 rcases hu with rfl|rfl <;> rfl
theorem infoI :(Tryz.prog.info? 38).map (fun i=>(i.zero,i.size,i.bytes))=some (some (.agg #[.bool false,.slice none 0 0]),2,32):=by kernel_rfl
theorem infoR :(Tryz.prog.info? 74).map (fun i=>(i.zero,i.size,i.bytes))=some (some (.slice none 0 0),1,24):=by kernel_rfl
theorem cl_own {q:List ZV}(h:w.ownsRow base 38 2 v n (encL ZV.enc q))(hq:Prz w q cs): ∃a c,v= .slice a n c∧CL w a n c cs∧(0<n→∀g off,a=some ⟨g,off,none⟩→base≤g):=by
 obtain⟨h1,a,c,rfl,h2,h3,h4⟩:=own_any (by decide) zv_len h
 refine⟨a,c,rfl,⟨by rw[←hq.len];exact h1,⟨h2,h3⟩,?_⟩,fun h0 g off e=> ?_⟩
 case refine_2=>
  rcases h4 with⟨h4,-⟩|⟨g',e',hb,-⟩
  ·omega
  rw[e']at e;cases e;exact hb
 rcases h4 with⟨h4,-⟩|⟨g,e,-,ho,-,hc⟩
 ·exact .inl h4
 refine .inr ⟨g,0,e,ho.lt,q,hq,fun i hi=>⟨?_,?_⟩⟩
 ·have:=hc i hi 0 (by decide)
  rw[Nat.add_zero]at this
  rw[Nat.zero_add]
  exact this
 have:=hc i hi 1 (by decide)
 rw[Nat.zero_add]
 exact this
theorem prz_snoc {q:List ZV}{z:ZV}{x:Int}(h:Prz w q cs)(hz:Zf w z x):Prz w (q++ [z]) (cs++ [x]):=by
 have hl:=h.len
 refine⟨by simp[hl],fun i h1 h2=> ?_⟩
 by_cases hi:i<q.length
 ·rw[List.getElem_append_left hi,List.getElem_append_left o_m]
  exact h.nu i hi o_m
 obtain rfl:i=q.length:=by simp at h1;omega
 rw[List.getElem_append_right (Nat.le_refl _),List.getElem_append_right o_m]
 simpa [hl] using hz
theorem Prz.grown {q:List ZV}{o:Option Nat}(h:Prz w q cs)(hg:w.grownBy w' o)(ho: ∀g,o=some g→∃e,Own w g e∧60≠e):Prz w' q cs:=⟨h.len,fun i h1 h2=>(h.nu i h1 h2).grown hg ho⟩
theorem prz_nil (w:World):Prz w [] []:=⟨rfl,fun i h=>by simp at h⟩
theorem own_below {W W':World}{size:Nat}(h:W.ownsRow base e size v n xs)(hb:Below W.heap.size W W'):W'.ownsRow base e size v n xs:=by
 refine⟨h.1,h.2.imp id ?_⟩
 rintro⟨g,cap,cur,h1,h2,h3,h4⟩
 exact⟨g,cap,cur,h1,h2,(hb.block g (Array.getElem?_eq_some_iff.1 h3).1).trans h3,h4⟩
theorem own_only {size:Nat}(h:w.ownsRow base e size v n xs)(ho:Only b w w')(hb: ∀g,v.ownBlock=some g→b≠g):w'.ownsRow base e size v n xs:=by
 refine⟨h.1,h.2.imp id ?_⟩
 rintro⟨g,cap,cur,rfl,h2,h3,h4⟩
 exact⟨g,cap,cur,rfl,h2,(ho.block g fun e=>hb g rfl e.symm).trans h3,h4⟩
theorem appI {l:List ZV}{ops:Array Oper}{rest:List Oper}{o:Oper}{a:Act}{Q:Exit→Act→World→Prop}(hgd:o.guard=none)(s x:Operand)(ho:o.op= .call {callee:=.builtin .append,args:=#[s,x],argTypes:=#[23,23]})(hs:a.eval s=v)
  (h:w.ownsRow base 38 2 v n (encL ZV.enc l))(t:ZV)(g c:Nat)(hx:a.eval x= .slice (some ⟨g,0,none⟩) 1 c)(hc: ∀j u,(t.enc)[j]? =some u→w.cell? ⟨g,j,none⟩=some u)(h63:n≤1073741824)(hbase:base≤w.heap.size)
  (hK: ∀v' w',w'.ownsRow base 38 2 v' (n+1) (encL ZV.enc (l++ [t]))→w.grownBy w' v.ownBlock→(v'.ownBlock=v.ownBlock∨v'.ownBlock=some w.heap.size)→wpList Tryz.prog ops Q rest (a.put o.dst v') w'):wpList Tryz.prog ops Q (o::rest) a w:=
 app_wp Tryz.underlying23 infoI rfl (by decide) (by decide) zv_len zv_one hgd s x ho hs h t g c hx hc h63 hbase hK
theorem zv_cells {z:ZV}(h:ZB w g z.s z.a z.l z.c): ∀j u,(z.enc)[j]? =some u→w.cell? ⟨g,j,none⟩=some u:=by
 intro j u hu
 match j,hu with
 |0,hu=>cases hu;exact h.c0
 |1,hu=>cases hu;exact h.c1
 |j+2,hu=>simp[ZV.enc]at hu
theorem own_blk (h:w.ownsRow base e sz v n xs): ∀g,v.ownBlock=some g→base≤g∧Own w g e:=by
 intro g hg
 rcases h.2 with⟨rfl,rfl⟩|⟨g',cap,cur,rfl,hb,hh,-⟩
 ·cases hg
 cases hg
 exact⟨hb,cur,hh⟩
end Pd
namespace Pd

theorem zn_len {w w':World}{s s':Bool}{a a':Option Addr}{l l' c c':Nat}{x:Int}(h:Zn w s a l c x)(h':Zn w' s' a' l' c' x):l=l':=by
 obtain⟨n,⟨zs,hr,hc,hv⟩,hs,-⟩:=h
 obtain⟨n',⟨zs',hr',hc',hv'⟩,hs',-⟩:=h'
 have h1:=val_nonneg hr.2.2.2.1
 have h2:=val_nonneg hr'.2.2.2.1
 have e:n=n':=by
  rw[hs]at hs'
  unfold sg at hs'
  split at hs' <;> split at hs' <;> omega
 subst e
 have:=canon_inj hc hc' (hv.trans hv'.symm)
 subst this
 rw[←hr.1,←hr'.1]
theorem cuts_n {w:World}{b:Nat}{D:PD}(h:PS w b D)(hf:D.cs.length≤1073741823):
  Calls Tryz.prog 35 #[.pointer (some ⟨b,0,none⟩)] w fun e w'=> ∃a c,e= .returned (.slice a D.cs.length c)∧CL w' a D.cs.length c D.cs∧Below w.heap.size w w'∧(0<D.cs.length→∀g off,a=some ⟨g,off,none⟩→w.heap.size≤g):=by
 obtain⟨v,hb,hcl,-⟩:=h.blk
 have c1:=hb.c1
 have hlc:=hide hcl.len
 have hcn:v.cn≤1073741823:=by rw[←hlc.out];exact hf
 replace hb:=hide hb
 replace hcl:=hide hcl
 clear h
 go_enter Tryz.func35,Tryz.ntmps35
 go_wp2_with fail
 go_loopw [3,13] (fun vl vi wr=> ∃(k:Nat) (q:List ZV) (la:Option Addr) (lc:Nat),k≤v.cn∧vi= .int .i64 k∧vl= .slice la k lc∧wr.ownsRow w.heap.size 38 2 (.slice la k lc) k (encL ZV.enc q)∧Prz wr q (D.cs.take k)∧Below w.heap.size w wr) (fun _ vi _=>v.cn-(intOf vi).toNat)
 case atStart=>exact⟨0,[],none,0,Nat.zero_le _,rfl,rfl,World.ownsRow_nil _ _ _ _,prz_nil _,Below.refl _ _⟩
 case round=>
  obtain⟨k,q,la,lc,hk,rfl,rfl,hown,hq,kr⟩:=hrel
  by_cases hkn:k<v.cn
  ·have hkc:k<D.cs.length:=by rw[hlc.out];exact hkn
   obtain⟨cb,off,z,hca,hcb,e0,e1,hz⟩:=(hcl.out.below kr).get hkn hkc
   obtain⟨x,hx⟩: ∃x,x=D.cs[k]:=⟨_,rfl⟩
   rw[←hx]at hz
   have htk:Hid (D.cs.take k++ [x]=D.cs.take (k+1)):=hide (by rw[hx];exact(List.take_succ_eq_append_getElem hkc).symm)
   replace hx:=hide hx
   rw[hca]
   have ba:=below_alloc wr (.cells #[.bool z.s,.slice z.a z.l z.c] 38)
   have za:=zb_new wr z.s z.a z.l z.c
   have hza:=hz.below ba
   have kra:=hide (grow_step ba kr)
   have hqa:=hide (hq.below ba)
   have howna:=hide (own_below hown ba)
   have hlt:=hide za.lt
   have hzl:=hide hz.le
   have hzz:=hide hz.zn.zn
   clear hz hq hown kr
   go_upto_region 7 with(fail)
   generalize wr.alloc (.cells #[.bool z.s,.slice z.a z.l z.c] 38)=wa at*
   generalize wr.heap.size=bz at*
   have r0:=za.c0
   have r1:=za.c1
   have hno:=hide (Fresh.norm_n (B:=0) (Fresh.zm_of hza.zm (Nat.zero_le _)) hza.len)
   clear za hza ba e0 e1 hcb
   go_wp2_with fail
   refine hno.out.mono ?_
   rintro e w1 ⟨s1,a1,l1,c1',rfl,hz1,k1,hl1⟩
   clear hno r0 r1
   have b2:=below_alloc w1 (.cells #[.bool s1,.slice a1 l1 c1'] 38)
   have z2:=zb_new w1 s1 a1 l1 c1'
   have hz2:Hid (Zf _ ⟨s1,a1,l1,c1'⟩ x):=hide (Zf.below (w:=w1) ⟨hz1,by rw[zn_len hz1.zn hzz.out];exact hzl.out⟩ b2)
   have hq2:=hide ((hqa.out.below k1).below b2)
   have ho2:=hide (own_below (own_below howna.out k1) b2)
   have k2:=hide (grow_step b2 (grow_step k1 kra.out))
   have hc2:=hide (zv_cells (z:=⟨s1,a1,l1,c1'⟩) z2)
   have hz5:Hid (w.heap.size≤(w1.alloc (.cells #[.bool s1,.slice a1 l1 c1'] 38)).heap.size):=hide k2.out.size
   clear b2 z2 hz1 hqa howna k1 kra
   go_wp2_with(refine appI rfl _ _ rfl rfl ho2.out ⟨s1,a1,l1,c1'⟩ w1.heap.size 1 rfl hc2.out o_m hz5.out ?_)
   intro v' w6 ho6 hg6 hb6
   have hob:=own_blk ho2.out
   have k6:=hide (below_grown k2.out hg6 (fun g e=>(hob g e).1) hz5.out)
   have hne: ∀g,Value.ownBlock (.slice la k lc)=some g→∃e,Own (w1.alloc (.cells #[.bool s1,.slice a1 l1 c1'] 38)) g e∧60≠e:=fun g e=>⟨_,(hob g e).2,by decide⟩
   have hq6:=prz_snoc (hq2.out.grown hg6 hne) (hz2.out.grown hg6 hne)
   rw[htk.out]at hq6
   obtain⟨-,la',lc',rfl,-⟩:=own_any (by decide) zv_len ho6
   clear hg6 hb6 hob hne hq2 hz2 k2 hz5 ho2 hc2
   go_wp2
   go_roundw
   case measure=>simp[intOf];omega
   case rel=>exact⟨k+1,_,la',lc',by omega,by go_num,rfl,ho6,hq6,k6.out⟩
  obtain rfl:k=v.cn:=by omega
  have hq2:Prz wr q D.cs:=by
   have:=hq
   rwa [List.take_of_length_le (by have:=hlc.out;omega)]at this
  obtain⟨a',c',he,hcl2,hfr⟩:=cl_own hown hq2
  replace he:=hide he
  go_wp2
  refine bodyPost_ret (results_tmp rfl _ _ _) rfl ?_
  have:=he.out
  cases this
  rw[hlc.out]
  exact⟨_,_,rfl,hcl2,kr,hfr⟩
end Pd
namespace Pd

variable {w w':World}{b p:Nat}
theorem anyH_append {P:Program}{o:Oper}{a:Act}{K:Act→World→Prop}{Q:Exit→Act→World→Prop}{ys:Nat→Option Bool}(hgd:o.guard=none)(s x:Operand)(t:TypeId)
  (ho:o.op= .call {callee:=.builtin .append,args:=#[s,x],argTypes:=#[t,t]})(v1 v2:Value)(hs:a.eval s=v1)(hx:a.eval x=v2)(F:Value→World→Prop)
  (hr: ∃v' w',(Builtin.append_ #[t,t] o.type #[v1,v2]).run P w= .ok v' w'∧F v' w')
  (h: ∀v' w',F v' w'→K (a.put o.dst v') w'):if Region.wanted o ys=true then Oper.wp P o a w K Q else K (a.put o.dst undef) w:=by
 obtain⟨v',w',hr,hF⟩:=hr
 rw[if_pos (by simp[Region.wanted,hgd])]
 unfold Oper.wp execOp
 simp only[ho,resolve,invoke,builtin,Sem.run_bind,Sem.run_pure,Result.andThen_ok,List.map_toArray,List.map_cons,List.map_nil,hs,hx,hr]
 exact h v' w' hF
structure Rws (w:World) (q:List Nat) (R:List (List Int)):Prop where
 len:q.length=R.length
 row: ∀i (h:i<q.length) (h':i<R.length),RB w q[i] R[i]
theorem Rws.below {q:List Nat}{R:List (List Int)}(h:Rws w q R)(k:Below w.heap.size w w'):Rws w' q R:=⟨h.len,fun i h1 h2=>(h.row i h1 h2).below k⟩
theorem Rws.grown {q:List Nat}{R:List (List Int)}{o:Option Nat}(h:Rws w q R)(hg:w.grownBy w' o)(ho: ∀g,o=some g→∃e,Own w g e∧111≠e):Rws w' q R:=⟨h.len,fun i h1 h2=>(h.row i h1 h2).grown hg ho⟩
theorem rws_nil (w:World):Rws w [] []:=⟨rfl,fun i h=>by simp at h⟩
theorem rws_snoc {q:List Nat}{R:List (List Int)}{g:Nat}{xs:List Int}(h:Rws w q R)(hx:RB w g xs):Rws w (q++ [g]) (R++ [xs]):=by
 have hl:=h.len
 refine⟨by simp[hl],fun i h1 h2=> ?_⟩
 by_cases hi:i<q.length
 ·rw[List.getElem_append_left hi,List.getElem_append_left o_m]
  exact h.row i hi o_m
 obtain rfl:i=q.length:=by simp at h1;omega
 rw[List.getElem_append_right (Nat.le_refl _),List.getElem_append_right o_m]
 simpa [hl] using hx
theorem Rws.only {q:List Nat}{R:List (List Int)}{v:SV}(h:Rws w q R)(ho:Only b w w')(hb:SB w b p v):Rws w' q R:=⟨h.len,fun i h1 h2=>(h.row i h1 h2).only ho fun e=>by
 have h3:=h.row i h1 h2
 exact Own.ne ⟨_,hb⟩ h3 (by decide) e⟩
theorem sb_set {v:SV}(h:SB w b p v)(ra:Option Addr)(rn rc:Nat):SB (w.setCell ⟨b,2,none⟩ (.slice ra rn rc)) b p ⟨v.ca,v.cn,v.cc,ra,rn,rc⟩:=by
 have:=heap_setCell_same w b 2 _ 78 (.slice ra rn rc) h
 simpa [SB] using this
def encr (k:Nat)(g:Nat):List Value:=[.slice (some ⟨g,0,none⟩) k k]
theorem encr_len (k g:Nat):(encr k g).length=1:=rfl
theorem encr_one (k g:Nat): ∀u∈encr k g,u.oneCell'=true:=by
 intro u hu
 simp only[encr,List.mem_cons,List.not_mem_nil,or_false]at hu
 subst hu
 rfl
theorem rls_own {base n k:Nat}{v:Value}{q:List Nat}{R:List (List Int)}(h:w.ownsRow base 74 1 v n (encL (encr k) q))(hq:Rws w q R): ∃a c,v= .slice a n c∧RLs w a n c k R:=by
 obtain⟨h1,a,c,rfl,h2,h3,h4⟩:=own_any (by decide) (encr_len k) h
 refine⟨a,c,rfl,by rw[←hq.len];exact h1,⟨h2,h3⟩,?_⟩
 rcases h4 with⟨h4,-⟩|⟨g,e,-,ho,-,hc⟩
 ·exact .inl h4
 have hl:=hq.len
 refine .inr ⟨g,0,e,ho.lt,fun i hi=>⟨q[i]'o_m,?_,hq.row i o_m hi⟩⟩
 have:=hc i o_m 0 (by decide)
 rw[Nat.mul_one,Nat.add_zero]at this
 rw[Nat.zero_add]
 exact this
theorem runR {base n k:Nat}{v:Value}{q:List Nat}(h:w.ownsRow base 74 1 v n (encL (encr k) q))(t g c:Nat)(hc:w.cell? ⟨g,0,none⟩=some (.slice (some ⟨t,0,none⟩) k k))(h63:n≤1073741824)(hbase:base≤w.heap.size)(ty:TypeId):
  ∃v' w',(Builtin.append_ #[76,76] ty #[v,.slice (some ⟨g,0,none⟩) 1 c]).run Tryz.prog w= .ok v' w'∧w'.ownsRow base 74 1 v' (n+1) (encL (encr k) (q++ [t]))∧w.grownBy w' v.ownBlock∧(v'.ownBlock=v.ownBlock∨v'.ownBlock=some w.heap.size):=
 app_run Tryz.underlying76 infoR rfl (by decide) (by decide) (encr_len k) (encr_one k) h t g c (fun j u hu=>by
  match j,hu with
  |0,hu=>cases hu;exact hc
  |j+1,hu=>simp[encr]at hu) h63 hbase ty
structure Cpl (p:Nat) (rs R:List (List Int)):Prop where
 rok: ∀r∈R,Rok p r
 cp: ∀i,i<R.length→∀j,j<p→hb (R.getD i []) j= !hb (rs.getD i []) j
theorem cpl_nil (p:Nat)(rs:List (List Int)):Cpl p rs []:=⟨fun r h=>absurd h List.not_mem_nil,fun i h=>by simp at h⟩
theorem cpl_snoc {rs R:List (List Int)}{ys:List Int}(h:Cpl p rs R)(hy:Rok p ys)(hc: ∀j,j<p→hb ys j= !hb (rs.getD R.length []) j):Cpl p rs (R++ [ys]):=by
 refine⟨fun r hr=> ?_,fun i hi j hj=> ?_⟩
 ·rcases List.mem_append.1 hr with hr|hr
  ·exact h.rok r hr
  rw[List.mem_singleton.1 hr];exact hy
 by_cases hl:i<R.length
 ·rw[show(R++ [ys]).getD i []=R.getD i []by simp[List.getD,List.getElem?_append_left hl]]
  exact h.cp i hl j hj
 obtain rfl:i=R.length:=by simp at hi;omega
 rw[show(R++ [ys]).getD R.length []=ys by simp[List.getD]]
 exact hc j hj
theorem wf_rest {D:PD}(h:Wf D){R:List (List Int)}(hR:Cpl D.p D.rs R)(hl:R.length=D.rs.length):Wf ⟨D.p,D.cs,R⟩∧∀x,mem ⟨D.p,D.cs,R⟩ x= !mem D x:=by
 have key: ∀i,i<R.length→Rok D.p (R.getD i []):=fun i hi=>by
  rw[show R.getD i []=R[i]by simp[List.getD,hi]]
  exact hR.rok _ (List.getElem_mem hi)
 refine⟨⟨h.p1,h.p2,h.up,by show R.length=_;rw[hl];exact h.len,hR.rok,fun i hi e=> ?_⟩,fun x=> ?_⟩
 ·have hi':i+1<D.rs.length:=by rw[←hl];exact hi
  refine h.nb i hi' ?_
  have r1:=h.rok (i:=i) o_m
  have r2:=h.rok (i:=i+1) hi'
  refine row_ext r1.ws r2.ws (by rw[r1.len,r2.len]) fun j=> ?_
  by_cases hj:j<D.p
  ·have e1:=hR.cp i o_m j hj
   have e2:=hR.cp (i+1) o_m j hj
   have e3:R.getD i []=R.getD (i+1) []:=e
   rw[e3,e2]at e1
   have e4:=congrArg Bool.not e1
   rw[Bool.not_not,Bool.not_not]at e4
   exact e4.symm
  rw[r1.top j o_m,r2.top j o_m]
 exact hR.cp _ (by rw[hl];exact h.place x) _ (mod_lt' h.p1 x)
theorem rest_n {D:PD}(h:PS w b D)(hf:D.cs.length≤1073741823):
  Calls Tryz.prog 42 #[.pointer (some ⟨b,0,none⟩)] w fun e w'=> ∃b' D',e= .returned (.pointer (some ⟨b',0,none⟩))∧PS w' b' D'∧Below w.heap.size w w'∧D'.p=D.p∧D'.cs=D.cs∧∀x,mem D' x= !mem D x:=by
 obtain⟨v,hb0,hcl0,hrl0⟩:=h.blk
 have hwf:=hide h.wf
 have hbne:Hid (b≠w.heap.size):=hide (Nat.ne_of_lt hb0.lt)
 have hp1:=h.wf.p1
 have hp2:=h.wf.p2
 have hlr:=hide hrl0.len
 have hrn:v.rn≤1073741824:=by rw[←hlr.out,h.wf.len];omega
 have c0:=hb0.c0
 have c1:=hb0.c1
 replace hb0:=hide hb0
 replace hcl0:=hide hcl0
 replace hrl0:=hide hrl0
 clear h
 go_enter Tryz.func42,Tryz.ntmps42
 go_wp2_with fail
 go_region
 have k1:=grow_drew (below_alloc w (.cells #[.int .i64 D.p,.slice v.ca v.cn v.cc,.slice none 0 0] 78))
 have m1:SB (w.alloc (.cells #[.int .i64 D.p,.slice v.ca v.cn v.cc,.slice none 0 0] 78)).drew w.heap.size D.p ⟨v.ca,v.cn,v.cc,none,0,0⟩:=sb_new w D.p ⟨v.ca,v.cn,v.cc,none,0,0⟩
 have hb1:=hb0.out.below k1
 have d2:=hb1.c2
 generalize (w.alloc (.cells #[.int .i64 D.p,.slice v.ca v.cn v.cc,.slice none 0 0] 78)).drew=w1 at*
 obtain⟨bm,hbm⟩: ∃bm,w.heap.size=bm:=⟨_,rfl⟩
 rw[hbm]at m1
 replace k1:=hide k1
 replace m1:=hide m1
 clear c0 c1 hb1
 simp only[hbm]
 rw[hbm]at hbne
 have hbm':bm=w.heap.size:=hbm.symm
 clear hbm
 replace hbm':=hide hbm'
 go_wp2_with fail
 clear d2
 go_loopw [23] (fun vi wr=> ∃(k:Nat) (q:List Nat) (R:List (List Int)) (ra:Option Addr) (rc:Nat),k≤v.rn∧vi= .int .i64 k∧SB wr bm D.p ⟨v.ca,v.cn,v.cc,ra,k,rc⟩∧wr.ownsRow w.heap.size 74 1 (.slice ra k rc) k (encL (encr (wn D.p)) q)∧Rws wr q R∧R.length=k∧Cpl D.p D.rs R∧Below w.heap.size w wr) (fun vi _=>v.rn-(intOf vi).toNat)
 case atStart=>exact⟨0,[],[],none,0,Nat.zero_le _,rfl,m1.out,World.ownsRow_nil _ _ _ _,rws_nil _,rfl,cpl_nil _ _,k1.out⟩
 case round=>
  obtain⟨k,q,R,ra,rc,hk,rfl,hm,hown,hq,hRl,hR,kr⟩:=hrel
  replace hRl:=hide hRl
  by_cases hkn:k<v.rn
  ·obtain⟨rb,off,g,hra,hrb,e0,hg⟩:=(hrl0.out.below kr).get hkn
   have hks:k<D.rs.length:=by rw[hlr.out];exact hkn
   have hrk:=hide (hwf.out.rok hks)
   have hbr:=hb0.out.below kr
   replace hg:RB wr g (rw' D k):=hg
   rw[hra]
   replace hra:=hide hra
   go_upto_region 7 with(fail)
   have hgl:=hide hg
   clear e0 hrb hg
   refine wp_region_held_drew (S:=(fun w'=>w'.cell? ⟨b,0,none⟩=some (.int .i64 D.p))) k_f ((hbr.below (grow_drew (Below.refl _ _))).c0) (fun hHeld=> ?_)
   show wpAnyH _ _ _ _ _ 16 _ _ _
   have kW:=grow_drew kr
   have kX:=grow_drew (Below.refl wr.heap.size wr)
   have hbW:=hbr.below kX
   have cm:=hm.below kX
   have hqW:=hq.below kX
   have hoW:=own_below hown kX
   generalize wr.drew=wQ at*
   repeat' first
    |with_reducible exact AllReadyH.nil
    |(
     refine tkz 0 27 ?_
     (try simp only[pz]))
    |(
     refine tkz 1 28 ?_
     (try simp only[pz]))
    |(
     refine tkz 2 29 ?_
     (try simp only[pz]))
    |(
     refine tkz 3 30 ?_
     (try simp only[pz]))
    |(
     refine tkz 5 32 ?_
     (try simp only[pz]))
    |(
     refine tkz 6 33 ?_
     (try simp only[pz]))
    |(
     refine tkz 7 34 ?_
     (try simp only[pz]))
    |(
     refine tkz 8 35 ?_
     (try simp only[pz]))
    |(
     refine tkz 9 36 ?_
     (try simp only[pz]))
    |(
     refine tkz 13 40 ?_
     (try simp only[pz]))
    |(
     refine tkz 14 41 ?_
     (try simp only[pz]))
    |(refine wpAnyH_ready (rs:=[4,10]) ?_ ?_ ?_;decide+kernel;simp)
    |(refine wpAnyH_ready (rs:=[10]) ?_ ?_ ?_;decide+kernel;simp)
    |(refine wpAnyH_ready (rs:=[11]) ?_ ?_ ?_;decide+kernel;simp)
    |(refine wpAnyH_ready (rs:=[12]) ?_ ?_ ?_;decide+kernel;simp)
    |(refine wpAnyH_ready (rs:=[15]) ?_ ?_ ?_;decide+kernel;simp)
    |(refine wpAnyH_ready (rs:=[4,11]) ?_ ?_ ?_;decide+kernel;simp)
    |(refine wpAnyH_ready (rs:=[4]) ?_ ?_ ?_;decide+kernel;simp)
    |(
     first
      |(
       refine AllReadyH.cons (i:=4) (o:=⟨some 31,_,_,_,_,_⟩) rfl (fun K hK=> ?_) ?_
       have f4:=cm.c2
       go_simp)
      |(
       refine AllReadyH.cons (i:=10) (o:=⟨some 37,_,_,_,_,_⟩) rfl (fun K hK=> ?_) ?_
       go_simp
       go_at_call 81;refine Calls.mono (others_g (RB.below hgl.out kX) hrk.out hp1 hp2) ?_;rintro e wC ⟨g2,ys,rfl,gO,kC,hRo,hyo,-⟩
       try have hbW:=hbW.below kC
       try have cm:=cm.below kC
       try have hqW:=hqW.below kC
       try have c38:=c38.below kC
       try have hoW:=own_below hoW kC
       have kW:=grow_step kC kW
       try go_wp2_with fail)
      |(
       refine AllReadyH.cons (i:=11) (o:=⟨some 38,_,_,_,_,_⟩) rfl (fun K hK=> ?_) ?_
       obtain⟨wL,b38,eL,e38,c38,-,kL,kW⟩:=al_b kW (.cells #[.slice (some ⟨g2,0,none⟩) (wn D.p) (wn D.p)] 74)
       try have hbW:=hbW.below kL
       try have cm:=cm.below kL
       try have hqW:=hqW.below kL
       try have gO:=gO.below kL
       try have hoW:=own_below hoW kL
       go_simp
       rw[eL.out]
       (try simp only[e38.out]))
      |(
       refine AllReadyH.cons (i:=12) (o:=⟨some 39,_,_,_,_,_⟩) rfl (fun K hK=> ?_) ?_
       refine anyH_append rfl _ _ 76 rfl _ _ rfl rfl _ (runR hoW g2 b38 1 (cell_of_row _ b38 0 _ _ (0,0) c38) o_m kW.size _) ?_
       rintro v' wD ⟨hoD,hgD,-⟩
       have hob:=own_blk hoW
       have hne64: ∀g,Value.ownBlock (.slice ra k rc)=some g→∃e,Own _ g e∧111≠e:=fun g e=>⟨_,(hob g e).2,by decide⟩
       have hneS: ∀g,Value.ownBlock (.slice ra k rc)=some g→∃e,Own _ g e∧78≠e:=fun g e=>⟨_,(hob g e).2,by decide⟩
       have hbW:=hbW.grown hgD hneS
       have cm:=cm.grown hgD hneS
       have hqW:=rws_snoc (hqW.grown hgD hne64) (gO.grown hgD hne64)
       have kW:=below_grown kW hgD (fun g e=>(hob g e).1) kW.size
       obtain⟨-,ra',rc',rfl,-⟩:=own_any (by decide) (encr_len _) hoD
       clear hob hne64 hneS hgD)
      |(
       refine AllReadyH.cons (i:=15) (o:=⟨none,_,_,_,_,_⟩) rfl (fun K hK=> ?_) ?_
       have f0:=cm.c2
       have f1:=cm.f 2
       go_simp
       have oS:=Only.set bm 2 wD (.slice ra' (k+1) rc')
       have hbW:=(oS.block b hbne.out).trans hbW
       have hqW:=Rws.only hqW oS cm
       have hoD:=own_only hoD oS (fun g e=>(own_blk hoD g e).2.ne cm (by decide))
       have cm:=sb_set cm ra' (k+1) rc'
       have kW:=kW.setCell (p:=⟨bm,2,none⟩) (Nat.le_of_eq hbm'.out.symm) (.slice ra' (k+1) rc'))
     refine hK.out _ _ ?_ ?_
     ·first|with_reducible exact trivial|((try dsimp only);exact SB.c0 hbW)
     clear hK K hHeld;intro hHeld
     (try simp only[pz]))
   all_goals
    refine wpAnyH_done ?_ ?_ _
    ·decide+kernel
    have hR2:=cpl_snoc hR hRo (by rw[hRl.out];exact hyo)
    replace hR2:=hide hR2
    clear hbW hHeld
    generalize hwz:wD.setCell ⟨bm,2,none⟩ (.slice ra' (k+1) rc')=wZ at*
    clear hwz
    go_wp2
    go_roundw
    case measure=>simp[intOf];omega
    case rel=>exact⟨k+1,_,_,ra',rc',by omega,by go_num,cm,hoD,hqW,by simp[hRl.out],hR2.out,kW⟩
  obtain rfl:k=v.rn:=by omega
  obtain⟨ra',rc',he,hrl2⟩:=rls_own hown hq
  obtain⟨hw1,hw2⟩:=wf_rest hwf.out hR (by rw[hRl.out,hlr.out])
  have hps:Hid (PS wr bm ⟨D.p,D.cs,R⟩):=hide (by cases he;exact⟨hw1,_,hm,hcl0.out.below kr,hrl2⟩)
  clear hm hown hq hrl2 he
  go_wp2
  exact bodyPost_ret (results_tmp rfl _ _ _) rfl ⟨bm,_,rfl,hps.out,kr,rfl,rfl,hw2⟩
end Pd
namespace Pd

structure Wid (p Q:Nat) (rs R:List (List Int)) (n:Nat):Prop where
 rok: ∀i,i<n→Rok Q (R.getD i [])
 bt: ∀i,i<n→∀j,j<Q→hb (R.getD i []) j=hb (rs.getD i []) (j%p)
theorem wid_same {D:PD}(h:Wf D){n:Nat}(hn:D.rs.length=n):Wid D.p D.p D.rs D.rs n:=⟨fun i hi=>h.rok o_m,fun i _ j hj=>by rw[Nat.mod_eq_of_lt hj]⟩
theorem wid_nil (p Q:Nat)(rs:List (List Int)):Wid p Q rs [] 0:=⟨fun i h=>by omega,fun i h=>by omega⟩
theorem wid_snoc {p Q n:Nat}{rs R:List (List Int)}{ys:List Int}(h:Wid p Q rs R n)(hl:R.length=n)(hy:Rok Q ys)(hc: ∀j,j<Q→hb ys j=hb (rs.getD n []) (j%p)):Wid p Q rs (R++ [ys]) (n+1):=by
 have key: ∀i,i<n→(R++ [ys]).getD i []=R.getD i []:=fun i hi=>by simp[List.getD,List.getElem?_append_left (show i<R.length by omega)]
 have key2:(R++ [ys]).getD n []=ys:=by rw[←hl];simp[List.getD]
 refine⟨fun i hi=> ?_,fun i hi j hj=> ?_⟩
 ·by_cases e:i=n
  ·subst e;rw[key2];exact hy
  rw[key i o_m];exact h.rok i o_m
 by_cases e:i=n
 ·subst e;rw[key2];exact hc j hj
 rw[key i o_m];exact h.bt i o_m j hj
theorem appR {w:World}{base n k:Nat}{v:Value}{l:List Nat}{ops:Array Oper}{rest:List Oper}{o:Oper}{a:Act}{Q:Exit→Act→World→Prop}(hgd:o.guard=none)(s x:Operand)(ho:o.op= .call {callee:=.builtin .append,args:=#[s,x],argTypes:=#[76,76]})(hs:a.eval s=v)
  (h:w.ownsRow base 74 1 v n (encL (encr k) l))(t:Nat)(g c:Nat)(hx:a.eval x= .slice (some ⟨g,0,none⟩) 1 c)(hc:w.cell? ⟨g,0,none⟩=some (.slice (some ⟨t,0,none⟩) k k))(h63:n≤1073741824)(hbase:base≤w.heap.size)
  (hK: ∀v' w',w'.ownsRow base 74 1 v' (n+1) (encL (encr k) (l++ [t]))→w.grownBy w' v.ownBlock→(v'.ownBlock=v.ownBlock∨v'.ownBlock=some w.heap.size)→wpList Tryz.prog ops Q rest (a.put o.dst v') w'):wpList Tryz.prog ops Q (o::rest) a w:=
 app_wp Tryz.underlying76 infoR rfl (by decide) (by decide) (encr_len k) (encr_one k) hgd s x ho hs h t g c hx (fun j u hu=>by
  match j,hu with
  |0,hu=>cases hu;exact hc
  |j+1,hu=>simp[encr]at hu) h63 hbase hK
theorem by_g {w:World}{b p q:Nat}{xs:List Int}(h:RB w b xs)(hR:Rok p xs)(h1:1≤p)(h0:p≤4096)(h2:q≤4096):
  Calls Tryz.prog 136 #[.slice (some ⟨b,0,none⟩) (wn p) (wn p),.int .i64 p,.int .i64 q] w fun e w'=> ∃g ys,e= .returned (.slice (some ⟨g,0,none⟩) (wn q) (wn q))∧RB w' g ys∧Below w.heap.size w w'∧Rok q ys∧∀j,j<q→hb ys j=hb xs (j%p):=
 (by_n h hR h1 h0 h2).mono fun _ _ ⟨ys,h1,h2,h3,h4,h5⟩=>⟨_,ys,h1,h2,h3,h4,h5⟩
theorem rowsBy_n {w:World}{b:Nat}{D:PD}{v:SV}(hwf:Wf D)(hb:SB w b D.p v)(hrl:RLs w v.ra v.rn v.rc (wn D.p) D.rs)(hf:D.cs.length≤1073741823){Q:Nat}(hQ:Q≤4096):
  Calls Tryz.prog 103 #[.pointer (some ⟨b,0,none⟩),.int .i64 Q] w fun e w'=> ∃a c R,e= .returned (.slice a v.rn c)∧RLs w' a v.rn c (wn Q) R∧Below w.heap.size w w'∧Wid D.p Q D.rs R v.rn:=by
 have c0:=hb.c0
 have c2:=hb.c2
 have hp1:=hwf.p1
 have hp2:=hwf.p2
 have hlr:=hide hrl.len
 have hrn:v.rn≤1073741824:=by rw[←hlr.out,hwf.len];omega
 by_cases hq:Q=D.p
 ·subst hq
  have hfin:=hide (And.intro hrl (wid_same hwf hrl.len))
  go_enter Tryz.func103,Tryz.ntmps103
  go_wp2
  exact bodyPost_ret (results_tmp rfl _ _ _) rfl ⟨_,_,_,rfl,hfin.out.1,Below.refl _ _,hfin.out.2⟩
 have hne:((Q:Int)==(D.p:Int))=false:=by
  rw[beq_eq_false_iff_ne]
  omega
 replace hb:=hide hb
 replace hrl:=hide hrl
 replace hwf:=hide hwf
 go_enter Tryz.func103,Tryz.ntmps103
 go_wp2_with fail
 clear c0 c2
 go_loopw [5,23] (fun vl vi wr=> ∃(k:Nat) (q:List Nat) (R:List (List Int)) (la:Option Addr) (lc:Nat),k≤v.rn∧vi= .int .i64 k∧vl= .slice la k lc∧wr.ownsRow w.heap.size 74 1 (.slice la k lc) k (encL (encr (wn Q)) q)∧Rws wr q R∧R.length=k∧Wid D.p Q D.rs R k∧Below w.heap.size w wr) (fun _ vi _=>v.rn-(intOf vi).toNat)
 case atStart=>exact⟨0,[],[],none,0,Nat.zero_le _,rfl,rfl,World.ownsRow_nil _ _ _ _,rws_nil _,rfl,wid_nil _ _ _,Below.refl _ _⟩
 case round=>
  obtain⟨k,q,R,la,lc,hk,rfl,rfl,hown,hqq,hRl,hR,kr⟩:=hrel
  replace hRl:=hide hRl
  by_cases hkn:k<v.rn
  ·obtain⟨rb,off,g,hra,hrb,e0,hg⟩:=(hrl.out.below kr).get hkn
   have hks:k<D.rs.length:=by rw[hlr.out];exact hkn
   have hrk:=hwf.out.rok hks
   have d0:=(hb.out.below kr).c0
   replace hg:RB wr g (rw' D k):=hg
   have hby:=hide (by_g hg hrk hp1 hp2 hQ)
   rw[hra]
   replace hra:=hide hra
   replace hR:=hide hR
   clear hg hrk hrb
   go_wp2_with fail
   refine hby.out.mono ?_
   rintro e w1 ⟨g2,ys,rfl,hg2,k1,hRo,hyo⟩
   clear hby e0 d0
   have b2:=below_alloc w1 (.cells #[.slice (some ⟨g2,0,none⟩) (wn Q) (wn Q)] 74)
   have z2:=heap_alloc_new w1 (.cells #[.slice (some ⟨g2,0,none⟩) (wn Q) (wn Q)] 74)
   have hq2:=hide ((hqq.below k1).below b2)
   have ho2:=hide (own_below (own_below hown k1) b2)
   have k2:=hide (grow_step b2 (grow_step k1 kr))
   have hc2:=hide (cell_of_row _ w1.heap.size 0 _ _ (0,0) z2)
   have hg3:=hide (hg2.below b2)
   have hz5:Hid (w.heap.size≤(w1.alloc (.cells #[.slice (some ⟨g2,0,none⟩) (wn Q) (wn Q)] 74)).heap.size):=hide k2.out.size
   have hR2:=hide (wid_snoc hR.out hRl.out hRo hyo)
   clear b2 z2 hqq hown k1 kr hg2 hRo hyo hR
   go_wp2_with(refine appR rfl _ _ rfl rfl ho2.out g2 w1.heap.size 1 rfl hc2.out o_m hz5.out ?_)
   intro v' w6 ho6 hg6 hb6
   have hob:=own_blk ho2.out
   have k6:=hide (below_grown k2.out hg6 (fun g e=>(hob g e).1) hz5.out)
   have hne64: ∀g,Value.ownBlock (.slice la k lc)=some g→∃e,Own (w1.alloc (.cells #[.slice (some ⟨g2,0,none⟩) (wn Q) (wn Q)] 74)) g e∧111≠e:=fun g e=>⟨_,(hob g e).2,by decide⟩
   have hq6:=rws_snoc (hq2.out.grown hg6 hne64) (hg3.out.grown hg6 hne64)
   obtain⟨-,la',lc',rfl,-⟩:=own_any (by decide) (encr_len _) ho6
   clear hg6 hb6 hob hne64 hq2 hg3 k2 hz5 ho2 hc2
   go_wp2
   go_roundw
   case measure=>simp[intOf];omega
   case rel=>exact⟨k+1,_,_,la',lc',by omega,by go_num,rfl,ho6,hq6,by simp[hRl.out],hR2.out,k6.out⟩
  obtain rfl:k=v.rn:=by omega
  obtain⟨a',c',he,hrl2⟩:=rls_own hown hqq
  have hfin:Hid (RLs wr la v.rn lc (wn Q) R):=hide (by cases he;exact hrl2)
  clear hown hqq hrl2 he
  go_wp2
  exact bodyPost_ret (results_tmp rfl _ _ _) rfl ⟨_,_,_,rfl,hfin.out,kr,hR⟩
theorem equal_n {w:World}{b1 b2 n:Nat}{xs ys:List Int}(h1:RB w b1 xs)(h2:RB w b2 ys)(hn1:xs.length=n)(hn2:ys.length=n)(hn:n≤65):
  Calls Tryz.prog 137 #[.slice (some ⟨b1,0,none⟩) n n,.slice (some ⟨b2,0,none⟩) n n] w fun e w'=>e= .returned (.bool (decide (xs=ys)))∧Below w.heap.size w w':=by
 have HN:=hide (And.intro hn1 hn2)
 clear hn1 hn2
 go_enter Tryz.func137,Tryz.ntmps137
 go_wp2_with fail
 go_loopw [13] (fun vi wr=> ∃k:Nat,k≤n∧vi= .int .i64 k∧xs.take k=ys.take k∧Below w.heap.size w wr) (fun vi _=>n-(intOf vi).toNat)
 case atStart=>exact⟨0,Nat.zero_le _,rfl,rfl,Below.refl _ _⟩
 case round=>
  obtain⟨k,hk,rfl,he,kr⟩:=hrel
  replace he:=hide he
  by_cases hkn:k<n
  ·have k1:k<xs.length:=by have:=HN.out;omega
   have k2:k<ys.length:=by have:=HN.out;omega
   have c1:=(h1.below kr).cell k1
   have c2:=(h2.below kr).cell k2
   have e1:lz xs k=xs[k]:=by unfold lz;simp[List.getD,k1]
   have e2:lz ys k=ys[k]:=by unfold lz;simp[List.getD,k2]
   rw[e1]at c1
   rw[e2]at c2
   have ht1:=hide (List.take_succ_eq_append_getElem k1)
   have ht2:=hide (List.take_succ_eq_append_getElem k2)
   have hxy:Hid (xs[k]≠ys[k]→xs≠ys):=hide fun h e=>h (by subst e;rfl)
   clear e1 e2
   generalize xs[k]=za at*
   generalize ys[k]=zb at*
   by_cases hz:za=zb
   ·subst hz
    go_wp2_with fail
    go_quiet (fail)
    go_wp2
    go_roundw
    case measure=>simp[intOf];omega
    case rel=>exact⟨k+1,by omega,by go_num,by rw[ht1.out,ht2.out,he.out],grow_drewN kr _⟩
   have hzb:(za !=zb)=true:=by simpa using hz
   go_wp2_with fail
   go_quiet (fail)
   go_wp2
   exact bodyPost_ret (results_tmp rfl _ _ _) rfl ⟨by rw[decide_eq_false (hxy.out hz)];rfl,grow_drewN kr _⟩
  obtain rfl:k=n:=by omega
  have hfin:Hid (xs=ys):=hide (by
   have:=he.out
   rwa [List.take_of_length_le (by have:=HN.out;omega),List.take_of_length_le (by have:=HN.out;omega)]at this)
  go_wp2
  exact bodyPost_ret (results_tmp rfl _ _ _) rfl ⟨by rw[decide_eq_true hfin.out];rfl,kr⟩
end Pd
namespace Pd

def ordN :List Int→List Int→Int
 | [],_=>1
 |_::_,[]=> -1
 |x::_,y::_=>cmpI x y
theorem orderNext_n {w:World}{aa ab:Option Addr}{na nb ca cb:Nat}{xs ys:List Int}(h1:CL w aa na ca xs)(h2:CL w ab nb cb ys)(hn1:na≤1073741824)(hn2:nb≤1073741824):
  Calls Tryz.prog 132 #[.slice aa na ca,.slice ab nb cb] w fun e w'=>e= .returned (.int .i64 (ordN xs ys))∧Below w.heap.size w w':=by
 have l1:=h1.len
 have l2:=h2.len
 match xs,ys with
 | [],ys=>
  obtain rfl:na=0:=by simpa using l1.symm
  go_enter Tryz.func132,Tryz.ntmps132
  go_wp2
  exact bodyPost_ret (results_tmp rfl _ _ _) rfl ⟨rfl,Below.refl _ _⟩
 |x::xs,[]=>
  obtain rfl:nb=0:=by simpa using l2.symm
  have hp:0<na:=by simp at l1;omega
  have hz:((na:Int)==0)=false:=by rw[beq_eq_false_iff_ne];omega
  clear l1
  go_enter Tryz.func132,Tryz.ntmps132
  go_wp2
  exact bodyPost_ret (results_tmp rfl _ _ _) rfl ⟨rfl,Below.refl _ _⟩
 |x::xs,y::ys=>
  have hp:0<na:=by simp at l1;omega
  have hq:0<nb:=by simp at l2;omega
  have hz:((na:Int)==0)=false:=by rw[beq_eq_false_iff_ne];omega
  have hz2:((nb:Int)==0)=false:=by rw[beq_eq_false_iff_ne];omega
  obtain⟨b1,o1,z1,rfl,hb1,c0,c1,hz1⟩:=h1.get (i:=0) hp (by simp)
  obtain⟨b2,o2,z2,rfl,hb2,d0,d1,hz2'⟩:=h2.get (i:=0) hq (by simp)
  simp only[Nat.zero_mul,Nat.add_zero]at c0 c1 d0 d1
  replace hz1:Hid (Zf w z1 x):=hide hz1
  replace hz2':Hid (Zf w z2 y):=hide hz2'
  clear l1 l2 h1 h2
  go_enter Tryz.func132,Tryz.ntmps132
  go_upto_region 5 with(fail)
  refine wp_region_held_drew (S:=(fun w'=>w'.cell? ⟨b1,o1,none⟩=some (.bool z1.s)∧w'.cell? ⟨b1,o1+1,none⟩=some (.slice z1.a z1.l z1.c)∧w'.cell? ⟨b2,o2,none⟩=some (.bool z2.s)∧w'.cell? ⟨b2,o2+1,none⟩=some (.slice z2.a z2.l z2.c))) k_f (⟨(Below.cell (grow_drew (Below.refl _ _)) hb1).trans c0,(Below.cell (grow_drew (Below.refl _ _)) hb1).trans c1,(Below.cell (grow_drew (Below.refl _ _)) hb2).trans d0,(Below.cell (grow_drew (Below.refl _ _)) hb2).trans d1⟩) (fun hHeld=> ?_)
  show wpAnyH _ _ _ _ _ 8 _ _ _
  have kW:=grow_drew (Below.refl w.heap.size w)
  generalize w.drew=wQ at*
  repeat' first
   |with_reducible exact AllReadyH.nil
   |(
    refine tkz 0 13 ?_
    (try simp only[pz]))
   |(
    refine tkz 1 14 ?_
    (try simp only[pz]))
   |(
    refine tkz 2 15 ?_
    (try simp only[pz]))
   |(
    refine tkz 3 16 ?_
    (try simp only[pz]))
   |(
    refine tkz 4 17 ?_
    (try simp only[pz]))
   |(
    refine tkz 5 18 ?_
    (try simp only[pz]))
   |(refine wpAnyH_ready (rs:=[6]) ?_ ?_ ?_;decide+kernel;simp)
   |(refine wpAnyH_ready (rs:=[7]) ?_ ?_ ?_;decide+kernel;simp)
   |(
    first
     |(
      refine AllReadyH.cons (i:=6) (o:=⟨some 19,_,_,_,_,_⟩) rfl (fun K hK=> ?_) ?_
      go_simp
      go_at_call 71;refine Calls.mono (zcmp_n (hz1.out.zm.below kW) (hz2'.out.zm.below kW) hz1.out.len hz2'.out.len) ?_;rintro e wA ⟨rfl,kA⟩
      have kW:=grow_step kA kW
      try go_wp2_with fail)
     |(
      refine AllReadyH.cons (i:=7) (o:=⟨some 4,_,_,_,_,_⟩) rfl (fun K hK=> ?_) ?_
      go_simp)
    refine hK.out _ _ ?_ ?_
    ·first|with_reducible exact trivial|((try dsimp only);exact⟨(Below.cell kW hb1).trans c0,(Below.cell kW hb1).trans c1,(Below.cell kW hb2).trans d0,(Below.cell kW hb2).trans d1⟩)
    clear hK K hHeld;intro hHeld
    (try simp only[pz]))
  refine wpAnyH_done ?_ ?_ _
  ·decide+kernel
  clear hHeld c0 c1 d0 d1
  go_wp2
  exact bodyPost_ret (results_tmp rfl _ _ _) rfl ⟨rfl,kW⟩
end Pd
namespace Pd

variable {w w':World}{n c b:Nat}
structure EV where
 z:ZV
 i:Nat
 j:Nat
def EV.enc (e:EV):List Value:=[.bool e.z.s,.slice e.z.a e.z.l e.z.c,.int .i64 e.i,.int .i64 e.j]
theorem ev_len (e:EV):e.enc.length=4:=rfl
theorem ev_one (e:EV): ∀u∈e.enc,u.oneCell'=true:=by
 intro u hu
 simp only[EV.enc,List.mem_cons,List.not_mem_nil,or_false]at hu
 rcases hu with rfl|rfl|rfl|rfl <;> rfl
theorem infoE :(Tryz.prog.info? 126).map (fun i=>(i.zero,i.size,i.bytes))=some (some (.agg #[.bool false,.slice none 0 0,.int .i64 0,.int .i64 0]),4,48):=by kernel_rfl
structure Prs (w:World) (q:List EV) (L:List SE):Prop where
 len:q.length=L.length
 nu: ∀i (h:i<q.length),Zf w q[i].z (se L i).f∧q[i].i=(se L i).i∧q[i].j=(se L i).j
theorem Prs.below {q:List EV}{L:List SE}(h:Prs w q L)(k:Below w.heap.size w w'):Prs w' q L:=⟨h.len,fun i h1=>⟨(h.nu i h1).1.below k,(h.nu i h1).2⟩⟩
theorem Prs.grown {q:List EV}{L:List SE}{o:Option Nat}(h:Prs w q L)(hg:w.grownBy w' o)(ho: ∀g,o=some g→∃e,Own w g e∧60≠e):Prs w' q L:=⟨h.len,fun i h1=>⟨(h.nu i h1).1.grown hg ho,(h.nu i h1).2⟩⟩
theorem prs_snoc {q:List EV}{L:List SE}{e:EV}{s:SE}(h:Prs w q L)(hz:Zf w e.z s.f)(hi:e.i=s.i)(hj:e.j=s.j):Prs w (q++ [e]) (L++ [s]):=by
 have hl:=h.len
 refine⟨by simp[hl],fun i h1=> ?_⟩
 by_cases hi':i<q.length
 ·rw[List.getElem_append_left hi',se_old o_m]
  exact h.nu i hi'
 obtain rfl:i=q.length:=by simp at h1;omega
 have e1:(q++ [e])[q.length]=e:=by simp
 have e2:se (L++ [s]) q.length=s:=by rw[hl];exact se_new L s
 rw[e1,e2]
 exact⟨hz,hi,hj⟩
structure ELs (w:World) (ad:Option Addr) (n c:Nat) (L:List SE):Prop where
 len:L.length=n
 at': ∃b,ad=some ⟨b,0,none⟩∧Own w b 126∧∃q:List EV,Prs w q L∧∀i (h:i<q.length) j,j<4→w.cell? ⟨b,i*4+j,none⟩=(q[i]).enc[j]?
theorem Own.below {g:Nat}{e:TypeId}(h:Own w g e)(k:Below w.heap.size w w'):Own w' g e:=by
 have hl:=h.lt
 obtain⟨cur,h⟩:=h
 exact⟨cur,(k.block g hl).trans h⟩
theorem els_own {base:Nat}{v:Value}{q:List EV}{L:List SE}(h:w.ownsRow base 126 4 v n (encL EV.enc q))(hq:Prs w q L)(hn:1≤n): ∃a c,v= .slice a n c∧ELs w a n c L∧v.ownBlock≠none:=by
 obtain⟨h1,a,c,rfl,h2,h3,h4⟩:=own_any (by decide) ev_len h
 rcases h4 with⟨h4,-⟩|⟨g,e,-,ho,hob,hc⟩
 ·omega
 exact⟨a,c,rfl,⟨by rw[←hq.len];exact h1,g,e,ho,q,hq,hc⟩,by rw[hob];simp⟩
theorem ELs.get {ad:Option Addr}{L:List SE}(h:ELs w ad n c L){i:Nat}(hi:i<n): ∃b z,ad=some ⟨b,0,none⟩∧b<w.heap.size∧w.cell? ⟨b,i*4,none⟩=some (.bool (ZV.s z))∧w.cell? ⟨b,i*4+1,none⟩=some (.slice z.a z.l z.c)∧w.cell? ⟨b,i*4+2,none⟩=some (.int .i64 (se L i).i)∧w.cell? ⟨b,i*4+3,none⟩=some (.int .i64 (se L i).j)∧Zf w z (se L i).f:=by
 have hl:=h.len
 obtain⟨b,e,ho,q,hq,hc⟩:=h.at'
 have hql:=hq.len
 have hiq:i<q.length:=by omega
 obtain⟨n1,n2,n3⟩:=hq.nu i hiq
 refine⟨b,q[i].z,e,ho.lt,?_,?_,?_,?_,n1⟩
 ·have:=hc i hiq 0 (by decide)
  rw[Nat.add_zero]at this
  exact this
 ·exact hc i hiq 1 (by decide)
 ·rw[←n2];exact hc i hiq 2 (by decide)
 rw[←n3];exact hc i hiq 3 (by decide)
theorem CL.drop {off:Nat}{cs:List Int}(h:CL w (some ⟨b,off,none⟩) n c cs){i:Nat}(hi:i≤n):CL w (some ⟨b,off+i*2,none⟩) (n-i) (c-i) (cs.drop i):=by
 have hl:=h.len
 have hc:=h.cap
 refine⟨by rw[List.length_drop];omega,by omega,?_⟩
 by_cases e:i=n
 ·exact .inl o_m
 rcases h.at' with h0|⟨b',off',e',hb,q,hq,hcell⟩
 ·omega
 cases e'
 have hql:=hq.len
 refine .inr ⟨b,off+i*2,rfl,hb,q.drop i,⟨by simp[hql],fun k h1 h2=> ?_⟩,fun k hk=> ?_⟩
 ·rw[List.getElem_drop,List.getElem_drop]
  exact hq.nu (i+k) _ _
 rw[List.length_drop]at hk
 rw[List.getElem_drop]
 have:=hcell (i+k) o_m
 rw[show off+(i+k)*2=off+i*2+k*2 by omega]at this
 exact this
theorem CL.dropO {ad:Option Addr}{cs:List Int}(h:CL w ad n c cs){i:Nat}(hi:i≤n):CL w (if c=i then ad else ad.map (·.add (i*2))) (n-i) (c-i) (cs.drop i):=by
 have hl:=h.len
 have hc:=h.cap
 by_cases e:i=n
 ·exact⟨by rw[List.length_drop];omega,by omega,.inl o_m⟩
 rw[if_neg o_m]
 rcases h.at' with h0|⟨b,off,rfl,-⟩
 ·omega
 have:=h.drop hi
 rwa [show Option.map (fun a:Addr=>a.add (i*2)) (some ⟨b,off,none⟩)=some ⟨b,off+i*2,none⟩by simp[Addr.add_lit]]
theorem ord_cases {xs ys:List Int}(hx:xs.Pairwise (· < ·))(hy:ys.Pairwise (· < ·)){i j:Nat}(hi:i≤xs.length)(hj:j≤ys.length)(hne:i<xs.length∨j<ys.length):
  (0<ordN (xs.drop i) (ys.drop j)∧∃h:j<ys.length,∀x∈xs.drop i,ys[j]<x)∨(ordN (xs.drop i) (ys.drop j)<0∧∃h:i<xs.length,∀y∈ys.drop j,xs[i]<y)∨(ordN (xs.drop i) (ys.drop j)=0∧∃(h:i<xs.length) (h':j<ys.length),xs[i]=ys[j]):=by
 by_cases h1:i<xs.length
 ·by_cases h2:j<ys.length
  ·have e:ordN (xs.drop i) (ys.drop j)=cmpI xs[i] ys[j]:=by rw[List.drop_eq_getElem_cons h1,List.drop_eq_getElem_cons h2];rfl
   rw[e]
   unfold cmpI
   by_cases h3:xs[i]<ys[j]
   ·rw[if_pos h3]
    exact .inr (.inl ⟨by decide,h1,fun y hm=>Int.lt_of_lt_of_le h3 ((drop_up hy h2).1 y hm)⟩)
   rw[if_neg h3]
   by_cases h4:ys[j]<xs[i]
   ·rw[if_pos h4]
    exact .inl ⟨by decide,h2,fun x hm=>Int.lt_of_lt_of_le h4 ((drop_up hx h1).1 x hm)⟩
   rw[if_neg h4]
   exact .inr (.inr ⟨rfl,h1,h2,by omega⟩)
  have e:ordN (xs.drop i) (ys.drop j)= -1:=by rw[List.drop_eq_getElem_cons h1,show ys.drop j= [] from List.drop_eq_nil_of_le o_m];rfl
  rw[e]
  exact .inr (.inl ⟨by decide,h1,fun y hm=>by rw[List.drop_eq_nil_of_le o_m]at hm;exact absurd hm List.not_mem_nil⟩)
 have e:ordN (xs.drop i) (ys.drop j)=1:=by rw[show xs.drop i= [] from List.drop_eq_nil_of_le o_m];rfl
 rw[e]
 exact .inl ⟨by decide,by omega,fun x hm=>by rw[List.drop_eq_nil_of_le o_m]at hm;exact absurd hm List.not_mem_nil⟩
def EB (w:World)(b:Nat)(e:EV):Prop:=w.heap[b]? =some (.cells #[.bool e.z.s,.slice e.z.a e.z.l e.z.c,.int .i64 e.i,.int .i64 e.j] 126 (0,0))
theorem EB.lt {e:EV}(h:EB w b e):b<w.heap.size:=(Array.getElem?_eq_some_iff.1 h).1
theorem EB.below {e:EV}(h:EB w b e)(k:Below w.heap.size w w'):EB w' b e:=(k.block b h.lt).trans h
theorem EB.c0 {e:EV}(h:EB w b e):w.cell? ⟨b,0,none⟩=some (.bool e.z.s):=cell_of_row w b 0 _ _ (0,0) h
theorem EB.c1 {e:EV}(h:EB w b e):w.cell? ⟨b,1,none⟩=some (.slice e.z.a e.z.l e.z.c):=cell_of_row w b 1 _ _ (0,0) h
theorem EB.c2 {e:EV}(h:EB w b e):w.cell? ⟨b,2,none⟩=some (.int .i64 e.i):=cell_of_row w b 2 _ _ (0,0) h
theorem EB.c3 {e:EV}(h:EB w b e):w.cell? ⟨b,3,none⟩=some (.int .i64 e.j):=cell_of_row w b 3 _ _ (0,0) h
theorem EB.f {e:EV}(h:EB w b e)(i:Nat):w.frozen? ⟨b,i,none⟩=false:=frozen_of_row w b i _ _ h
theorem eb_z {e:EV}(h:EB w b e)(z:ZV):EB ((w.setCell ⟨b,0,none⟩ (.bool z.s)).setCell ⟨b,1,none⟩ (.slice z.a z.l z.c)) b ⟨z,e.i,e.j⟩:=by
 have:=heap_setCell_same _ b 1 _ 126 (.slice z.a z.l z.c) (heap_setCell_same w b 0 _ 126 (.bool z.s) h)
 simpa [EB] using this
theorem eb_i {e:EV}(h:EB w b e)(i:Nat):EB (w.setCell ⟨b,2,none⟩ (.int .i64 i)) b ⟨e.z,i,e.j⟩:=by
 have:=heap_setCell_same w b 2 _ 126 (.int .i64 (i:Int)) h
 simpa [EB] using this
theorem eb_j {e:EV}(h:EB w b e)(j:Nat):EB (w.setCell ⟨b,3,none⟩ (.int .i64 j)) b ⟨e.z,e.i,j⟩:=by
 have:=heap_setCell_same w b 3 _ 126 (.int .i64 (j:Int)) h
 simpa [EB] using this
theorem ev_cells {g:Nat}{e:EV}(h:EB w g e): ∀j u,(e.enc)[j]? =some u→w.cell? ⟨g,j,none⟩=some u:=by
 intro j u hu
 match j,hu with
 |0,hu=>cases hu;exact h.c0
 |1,hu=>cases hu;exact h.c1
 |2,hu=>cases hu;exact h.c2
 |3,hu=>cases hu;exact h.c3
 |j+4,hu=>simp[EV.enc]at hu
theorem appE {base:Nat}{v:Value}{l:List EV}{ops:Array Oper}{rest:List Oper}{o:Oper}{a:Act}{Q:Exit→Act→World→Prop}(hgd:o.guard=none)(s x:Operand)(ho:o.op= .call {callee:=.builtin .append,args:=#[s,x],argTypes:=#[123,123]})(hs:a.eval s=v)
  (h:w.ownsRow base 126 4 v n (encL EV.enc l))(t:EV)(g c:Nat)(hx:a.eval x= .slice (some ⟨g,0,none⟩) 1 c)(hc: ∀j u,(t.enc)[j]? =some u→w.cell? ⟨g,j,none⟩=some u)(h63:n≤1073741824)(hbase:base≤w.heap.size)
  (hK: ∀v' w',w'.ownsRow base 126 4 v' (n+1) (encL EV.enc (l++ [t]))→w.grownBy w' v.ownBlock→(v'.ownBlock=v.ownBlock∨v'.ownBlock=some w.heap.size)→wpList Tryz.prog ops Q rest (a.put o.dst v') w'):wpList Tryz.prog ops Q (o::rest) a w:=
 app_wp Tryz.underlying123 infoE rfl (by decide) (by decide) ev_len ev_one hgd s x ho hs h t g c hx hc h63 hbase hK
def lenV :Value→Nat
 | .slice _ n _=>n
 |_=>0
theorem made_e {N:Nat}(hN:1≤N)(hN2:N≤1073741824):(Instr.makeSlice 123 (.int .i64 1) (.int .i64 (N:Int))).run Tryz.prog w= .ok (.slice (some ⟨w.heap.size,0,none⟩) 1 N) (w.alloc (.cells (madeCells #[.bool false,.slice none 0 0,.int .i64 0,.int .i64 0] (N*4)) 126)):=by
 obtain⟨i0,hi,hz0,hz1,hz2⟩:=info_parts infoE
 have h:=run_make (P:=Tryz.prog) w 123 126 i0 _ Tryz.underlying123 hi hz0 .i64 .i64 1 (N:Int) o_m o_m (by rw[hz2];omega) o_m
 rw[Int.toNat_natCast,hz1]at h
 exact h
theorem made_own (w:World){N:Nat}(hN:1≤N)(hN2:N≤1073741824):(w.alloc (.cells (madeCells #[.bool false,.slice none 0 0,.int .i64 0,.int .i64 0] (N*4)) 126)).ownsRow w.heap.size 126 4 (.slice (some ⟨w.heap.size,0,none⟩) 1 N) 1 (encL EV.enc [⟨⟨false,none,0,0⟩,0,0⟩]):=by
 refine⟨rfl,.inr ⟨w.heap.size,N,_,rfl,Nat.le_refl _,heap_alloc_new w _,hN,by unfold maxLen;omega,by rw[size_madeCells],?_⟩⟩
 obtain⟨M,rfl⟩: ∃M,N=M+1:=⟨N-1,by omega⟩
 refine List.ext_getElem? fun j=> ?_
 rw[List.getElem?_take]
 by_cases hj:j<1*4
 ·rw[if_pos hj]
  have hj':j=0∨j=1∨j=2∨j=3:=by omega
  rcases hj' with rfl|rfl|rfl|rfl <;> simp[madeCells,encL,EV.enc,show(0:Nat)<(M+1)*4 by omega,show(1:Nat)<(M+1)*4 by omega,show(2:Nat)<(M+1)*4 by omega,show(3:Nat)<(M+1)*4 by omega]
 rw[if_neg hj,List.getElem?_eq_none (by simp[encL,EV.enc];omega)]
end Pd
namespace Pd

variable {w w':World}{b:Nat}
theorem EB.grown {e:EV}{o:Option Nat}(h:EB w b e)(hg:w.grownBy w' o)(hb: ∀g,o=some g→b≠g):EB w' b e:=(hg.block b h.lt fun e=>hb b e.symm rfl).trans h
theorem Prs.only {q:List EV}{L:List SE}(h:Prs w q L)(ho:Only b w w')(hb:Own w b 126):Prs w' q L:=
 h.grown (o:=some b) ⟨ho.os,ho.tape,ho.output,Nat.le_of_eq ho.size.symm,fun k _ hk=>ho.block k fun e=>hk (by rw[e])⟩ fun g e=>by cases e;exact⟨_,hb,by decide⟩
theorem Zf.only {z:ZV}{x:Int}(h:Zf w z x)(ho:Only b w w'){e:TypeId}(hb:Own w b e)(he:60≠e):Zf w' z x:=
 h.grown (o:=some b) ⟨ho.os,ho.tape,ho.output,Nat.le_of_eq ho.size.symm,fun k _ hk=>ho.block k fun e=>hk (by rw[e])⟩ fun g e'=>by cases e';exact⟨_,hb,he⟩
theorem stretches_n {aa ab:Option Addr}{na nb ca cb:Nat}{xs ys:List Int}(h1:CL w aa na ca xs)(h2:CL w ab nb cb ys)(hx:xs.Pairwise (· < ·))(hy:ys.Pairwise (· < ·))(hn1:na≤536870000)(hn2:nb≤536870000):
  Calls Tryz.prog 96 #[.slice aa na ca,.slice ab nb cb] w fun e w'=> ∃a n c L,e= .returned (.slice a n c)∧ELs w' a n c L∧Str xs ys L xs.length ys.length∧n≤1+na+nb∧Below w.heap.size w w'∧(∀g off,a=some ⟨g,off,none⟩→w.heap.size≤g):=by
 have hmk: ∀u:World,(Instr.makeSlice 123 (.int .i64 1) (.int .i64 (1+(na:Int)+(nb:Int)))).run Tryz.prog u= .ok (.slice (some ⟨u.heap.size,0,none⟩) 1 (1+na+nb)) (u.alloc (.cells (madeCells #[.bool false,.slice none 0 0,.int .i64 0,.int .i64 0] ((1+na+nb)*4)) 126)):=fun u=>by
  have:=made_e (w:=u) (N:=1+na+nb) o_m o_m
  rwa [show((1+na+nb:Nat):Int)=1+(na:Int)+(nb:Int)by omega]at this
 have ho0:=made_own w (N:=1+na+nb) o_m o_m
 have b0:=below_alloc w (.cells (madeCells #[.bool false,.slice none 0 0,.int .i64 0,.int .i64 0] ((1+na+nb)*4)) 126)
 have hl1:=hide h1.len
 have hl2:=hide h2.len
 have hc1:=hide h1.cap
 have hc2:=hide h2.cap
 have hsz:Hid ((w.alloc (.cells (madeCells #[.bool false,.slice none 0 0,.int .i64 0,.int .i64 0] ((1+na+nb)*4)) 126)).heap.size=w.heap.size+1):=hide (by simp)
 obtain⟨w0,hw0⟩: ∃w0,w.alloc (.cells (madeCells #[.bool false,.slice none 0 0,.int .i64 0,.int .i64 0] ((1+na+nb)*4)) 126)=w0:=⟨_,rfl⟩
 have hmk1:(Instr.makeSlice 123 (.int .i64 1) (.int .i64 (1+(na:Int)+(nb:Int)))).run Tryz.prog w= .ok (.slice (some ⟨w.heap.size,0,none⟩) 1 (1+na+nb)) w0:=by rw[←hw0];exact hmk w
 clear hmk
 rw[hw0]at ho0 b0 hsz
 clear hw0
 obtain⟨-,a',c',e',-,-,hrd⟩:=own_any (by decide) ev_len ho0
 cases e'
 obtain⟨g,eg,-,hog,-,hcell⟩: ∃g,some ⟨w.heap.size,0,none⟩=some (⟨g,0,none⟩:Addr)∧w.heap.size≤g∧Own w0 g 126∧True∧∀i (h:i< [(⟨⟨false,none,0,0⟩,0,0⟩:EV)].length) j,j<4→w0.cell? ⟨g,i*4+j,none⟩=([(⟨⟨false,none,0,0⟩,0,0⟩:EV)][i]).enc[j]?:=by
  rcases hrd with⟨h0,-⟩|⟨g,e1,e2,e3,-,e4⟩
  ·cases h0
  exact⟨g,e1,e2,e3,trivial,e4⟩
 cases eg
 have f0:w0.cell? ⟨w.heap.size,0,none⟩=some (.bool false):=hcell 0 (by simp) 0 (by decide)
 have f1:w0.cell? ⟨w.heap.size,1,none⟩=some (.slice none 0 0):=hcell 0 (by simp) 1 (by decide)
 have f2:w0.cell? ⟨w.heap.size,2,none⟩=some (.int .i64 0):=hcell 0 (by simp) 2 (by decide)
 have f3:w0.cell? ⟨w.heap.size,3,none⟩=some (.int .i64 0):=hcell 0 (by simp) 3 (by decide)
 have b1:=below_alloc w0 (.cells #[.bool false,.slice none 0 0,.int .i64 0,.int .i64 0] 126)
 have y1:EB _ w0.heap.size ⟨⟨false,none,0,0⟩,0,0⟩:=heap_alloc_new w0 (.cells #[.bool false,.slice none 0 0,.int .i64 0,.int .i64 0] 126)
 have ho1:=hide (own_below ho0 b1)
 have k1:=hide (grow_step b1 b0)
 have hbt:Hid (w.heap.size<w0.heap.size):=hide (by have:=hsz.out;omega)
 have hp1:Hid (Prs (w0.alloc (.cells #[.bool false,.slice none 0 0,.int .i64 0,.int .i64 0] 126)) [⟨⟨false,none,0,0⟩,0,0⟩] [⟨0,0,0⟩]):=hide ⟨rfl,fun i hi=>by
  obtain rfl:i=0:=by simp at hi;omega
  exact⟨zf_zero _,rfl,rfl⟩⟩
 clear hrd hcell hog b0 b1 ho0 hsz
 go_enter Tryz.func96,Tryz.ntmps96
 go_upto_region 3 with(fail)
 clear f0 f1 f2 f3 hmk1
 generalize w0.alloc (.cells #[.bool false,.slice none 0 0,.int .i64 0,.int .i64 0] 126)=w1 at*
 generalize w0.heap.size=bt at*
 replace y1:=hide y1
 replace h1:=hide h1
 replace h2:=hide h2
 generalize hN:1+na+nb=N at*
 replace hN:=hide hN
 go_loopw [5] (fun vl wr=> ∃(n:Nat) (L:List SE) (q:List EV) (e:EV) (la:Option Addr) (lc:Nat),vl= .slice la n lc∧EB wr bt e∧wr.ownsRow w.heap.size 126 4 (.slice la n lc) n (encL EV.enc q)∧Prs wr q L∧Str xs ys L e.i e.j∧L.length=n∧1≤n∧n≤1+e.i+e.j∧e.i≤na∧e.j≤nb∧Below w.heap.size w wr∧(∀g,Value.ownBlock (.slice la n lc)=some g→bt≠g)) (fun vl _=>N-lenV vl)
 case atStart=>exact⟨1,[⟨0,0,0⟩],_,⟨⟨false,none,0,0⟩,0,0⟩,_,_,rfl,y1.out,ho1.out,hp1.out,str_one xs ys 0,rfl,Nat.le_refl _,Nat.le_refl _,Nat.zero_le _,Nat.zero_le _,k1.out,fun g e=>by cases e;have:=hbt.out;show bt≠w.heap.size;omega⟩
 case round=>
  obtain⟨n,L,q,e,la,lc,rfl,he,hown,hq,hst,hLn,hn0,hnij,hi,hj,kr,hob⟩:=hrel
  obtain⟨z,i,j⟩:=e
  dsimp only at hst hnij hi hj
  have e2:=he.c2
  have e3:=he.c3
  dsimp only at e2 e3
  replace hst:=hide hst
  replace hLn:=hide hLn
  replace hob:=hide hob
  by_cases hfin:i=na∧j=nb
  ·obtain⟨rfl,rfl⟩:=hfin
   have hd1:decide ((i:Int)<(i:Int))=false:=by simp
   have hd2:decide ((j:Int)<(j:Int))=false:=by simp
   obtain⟨a2,c2',ee,hels,-⟩:=els_own hown hq hn0
   have hres:Hid (ELs wr la n lc L):=hide (by cases ee;exact hels)
   have hfr:Hid (∀g off,la=some ⟨g,off,none⟩→w.heap.size≤g):=hide fun g off e=>(own_blk hown g (by rw[e];rfl)).1
   have hst2:Hid (Str xs ys L xs.length ys.length):=hide (by rw[hl1.out,hl2.out];exact hst.out)
   clear hown hq ee hels he
   go_wp2
   exact bodyPost_ret (results_tmp rfl _ _ _) rfl ⟨_,_,_,L,rfl,hres.out,hst2.out,by have:=hN.out;omega,kr,hfr.out⟩
  have hlt:i<na∨j<nb:=by omega
  have hr1:=(h1.out.below kr).dropO (i:=i) hi
  have hr2:=(h2.out.below kr).dropO (i:=j) hj
  have hoc:=ord_cases hx hy (i:=i) (j:=j) (by have:=hl1.out;omega) (by have:=hl2.out;omega) (by have:=hl1.out;have:=hl2.out;omega)
  obtain⟨aI,haI⟩: ∃aI,(if ca=i then aa else aa.map (·.add (i*2)))=aI:=⟨_,rfl⟩
  obtain⟨bJ,hbJ⟩: ∃bJ,(if cb=j then ab else ab.map (·.add (j*2)))=bJ:=⟨_,rfl⟩
  rw[haI]at hr1
  rw[hbJ]at hr2
  have hon: ∀u:World,Below wr.heap.size wr u→Hid (Calls Tryz.prog 132 #[.slice aI (na-i) (ca-i),.slice bJ (nb-j) (cb-j)] u fun e w'=>e= .returned (.int .i64 (ordN (xs.drop i) (ys.drop j)))∧Below u.heap.size u w'):=fun u ku=>hide (orderNext_n (hr1.below ku) (hr2.below ku) o_m o_m)
  generalize ordN (xs.drop i) (ys.drop j)=od at*
  replace hoc:=hide hoc
  clear hr1 hr2
  have hdd:decide (i<na)=true∨(decide (i<na)=false∧decide (j<nb)=true):=by
   by_cases hh:i<na
   ·exact .inl (decide_eq_true hh)
   exact .inr ⟨decide_eq_false hh,decide_eq_true o_m⟩
  rcases hdd with hd1|⟨hd1,hd2⟩
  all_goals go_upto_region 4 with(fail)
  all_goals
   refine wp_region_held_drew (S:=(fun w'=>w'.cell? ⟨bt,2,none⟩=some (.int .i64 i)∧w'.cell? ⟨bt,3,none⟩=some (.int .i64 j))) k_f (⟨(he.below (grow_drew (Below.refl _ _))).c2,(he.below (grow_drew (Below.refl _ _))).c3⟩) (fun hHeld=> ?_)
   show wpAnyH _ _ _ _ _ 10 _ _ _
   have kW:=grow_drew (Below.refl wr.heap.size wr)
   generalize wr.drew=wQ at*
   repeat' first
    |with_reducible exact AllReadyH.nil
    |(
     refine tkz 0 30 ?_
     (try simp only[pz]))
    |(
     refine tkz 1 31 ?_
     (try simp only[pz]))
    |(
     refine tkz 2 32 ?_
     (try simp only[pz]))
    |(
     refine tkz 3 33 ?_
     (try simp only[pz]))
    |(
     refine tkz 4 34 ?_
     (try simp only[pz]))
    |(
     refine tkz 5 35 ?_
     (try simp only[pz]))
    |(
     refine tkz 6 36 ?_
     (try simp only[pz]))
    |(
     refine tkz 7 37 ?_
     (try simp only[pz]))
    |(refine wpAnyH_ready (rs:=[8]) ?_ ?_ ?_;decide+kernel;simp)
    |(refine wpAnyH_ready (rs:=[9]) ?_ ?_ ?_;decide+kernel;simp)
    |(
     first
      |(
       refine AllReadyH.cons (i:=8) (o:=⟨some 38,_,_,_,_,_⟩) rfl (fun K hK=> ?_) ?_
       go_simp
       go_at_call 132;refine Calls.mono (hon _ kW).out ?_;rintro e wA ⟨rfl,kA⟩
       have kW:=grow_step kA kW
       try go_wp2_with fail)
      |(
       refine AllReadyH.cons (i:=9) (o:=⟨some 7,_,_,_,_,_⟩) rfl (fun K hK=> ?_) ?_
       go_simp)
     refine hK.out _ _ ?_ ?_
     ·first|with_reducible exact trivial|((try dsimp only);exact⟨(he.below kW).c2,(he.below kW).c3⟩)
     clear hK K hHeld;intro hHeld
     (try simp only[pz]))
   refine wpAnyH_done ?_ ?_ _
   ·decide+kernel
   have heA:=hide (he.below kW)
   have hqA:=hide (hq.below kW)
   have hoA:=hide (own_below hown kW)
   clear hHeld e2 e3 haI hbJ
   rcases hoc.out with⟨ho,hjl,hlt2⟩|⟨ho,hil,hlt2⟩|⟨ho,hil,hjl,heq⟩
   ·have hdA:decide ((0:Int)≤od)=true:=by rw[decide_eq_true_eq];omega
    have hdB:decide (od≤(0:Int))=false:=by rw[decide_eq_false_iff_not];omega
    clear ho
    have hinb:j<nb:=by have:=hl2.out;omega
    obtain⟨bb,ob,zb,eb,hbb,c0b,c1b,hzb⟩:=h2.out.get (i:=j) hinb hjl
    subst eb
    have hneb:Hid (bb≠bt):=hide (by have:=hbt.out;omega)
    replace c0b:=(Below.cell (grow_step kW kr) hbb).trans c0b
    replace c1b:=(Below.cell (grow_step kW kr) hbb).trans c1b
    replace hzb:=hzb.below (grow_step kW kr)
    replace hzb:=hide hzb
    have oW:=Only.refl bt wA
    have d0:=(World.cell?_of_block (a:=⟨bb,ob+j*2,none⟩) (oW.block bb hneb.out)).trans c0b
    have d1:=(World.cell?_of_block (a:=⟨bb,ob+j*2+1,none⟩) (oW.block bb hneb.out)).trans c1b
    have f0:=heA.out.c0
    have f1:=heA.out.c1
    have f2:=heA.out.c2
    have f3:=heA.out.c3
    have g0:=heA.out.f 0
    have g1:=heA.out.f 1
    dsimp only at f0 f1 f2 f3
    go_upto_region 7 with(fail)
    have hE0:=hide (eb_z heA.out zb)
    have oW:=oW.trans (only2 bt wA (.bool zb.s) (.slice zb.a zb.l zb.c))
    clear f0 f1 f2 f3 g0 g1 d0 d1
    generalize (wA.setCell ⟨bt,0,none⟩ (.bool zb.s)).setCell ⟨bt,1,none⟩ (.slice zb.a zb.l zb.c)=wE0 at*
    have f2:=hE0.out.c2
    have f3:=hE0.out.c3
    have g2:=hE0.out.f 3
    dsimp only at f2 f3
    go_upto_region 8 with(fail)
    have hE1:=eb_j hE0.out (j+1)
    rw[show(((j+1:Nat)):Int)=(j:Int)+1 from rfl]at hE1
    replace hE1:=hide hE1
    have oW:=oW.trans (Only.set bt 3 wE0 (.int .i64 ((j:Int)+1)))
    clear f2 f3 g2
    generalize wE0.setCell ⟨bt,3,none⟩ (.int .i64 ((j:Int)+1))=wE1 at*
    skip
    go_upto_region 11 with(fail)
    have heB:Hid (EB wE1 bt ⟨zb,i,j+1⟩):=hE1
    generalize wE1=wB at*
    clear hdA hdB
    have hOw:Own wA bt 126:=⟨_,heA.out⟩
    have hqB:=hide (hqA.out.only oW hOw)
    have hzB:=hide (hzb.out.only oW hOw (by decide))
    have hoB:=hide (own_only hoA.out oW (fun g e=>hob.out g e))
    have kB:Hid (Below w.heap.size w wB):=hide ((grow_step kW kr).trans (oW.below (Nat.le_of_lt hbt.out)))
    have hstB:=hide (str_b hst.out hy hjl (by have:=hl1.out;omega) hlt2)
    have b5:=below_alloc wB (.cells #[.bool zb.s,.slice zb.a zb.l zb.c,.int .i64 ((i:Int)),.int .i64 ((j:Int)+1)] 126)
    have z5:EB (wB.alloc (.cells #[.bool zb.s,.slice zb.a zb.l zb.c,.int .i64 ((i:Int)),.int .i64 ((j:Int)+1)] 126)) wB.heap.size ⟨zb,i,j+1⟩:=heap_alloc_new wB (.cells #[.bool zb.s,.slice zb.a zb.l zb.c,.int .i64 ((i:Int)),.int .i64 ((j:Int)+1)] 126)
    have he5:=hide (heB.out.below b5)
    have hq5:=hide (hqB.out.below b5)
    have hz5:=hide (hzB.out.below b5)
    have ho5:=hide (own_below hoB.out b5)
    have k5:=hide (grow_step b5 kB.out)
    have hc5:=hide (ev_cells z5)
    have hs5:Hid (w.heap.size≤(wB.alloc (.cells #[.bool zb.s,.slice zb.a zb.l zb.c,.int .i64 ((i:Int)),.int .i64 ((j:Int)+1)] 126)).heap.size):=hide k5.out.size
    have f0:=heB.out.c0
    have f1:=heB.out.c1
    have f2:=heB.out.c2
    have f3:=heB.out.c3
    dsimp only at f0 f1 f2 f3
    have hn5:n≤1073741824:=by omega
    clear b5 z5 heA hqA hoA oW hOw hqB hzB hoB kB heB hst kW kr he hown hq hon hoc
    go_wp2_with(refine appE rfl _ _ rfl rfl ho5.out ⟨zb,i,j+1⟩ wB.heap.size 1 rfl hc5.out hn5 hs5.out ?_)
    intro v' w6 ho6 hg6 hb6
    have hob5:=own_blk ho5.out
    have k6:=hide (below_grown k5.out hg6 (fun g e=>(hob5 g e).1) hs5.out)
    have hne: ∀g,Value.ownBlock (.slice la n lc)=some g→∃e,Own _ g e∧60≠e:=fun g e=>⟨_,(hob5 g e).2,by decide⟩
    have hq6:=prs_snoc (s:=⟨ys[j],i,j+1⟩) (e:=⟨zb,i,j+1⟩) (hq5.out.grown hg6 hne) (hz5.out.grown hg6 hne) rfl rfl
    have he6:=he5.out.grown hg6 (fun g e=>hob.out g e)
    obtain⟨-,la',lc',rfl,-⟩:=own_any (by decide) ev_len ho6
    have hob6:Hid (∀g,Value.ownBlock (.slice la' (n+1) lc')=some g→bt≠g):=hide fun g e=>by
     rcases hb6 with h7|h7
     ·exact hob.out g (h7.symm.trans e)
     have h8:=Option.some.inj (h7.symm.trans e)
     have h9:=he5.out.lt
     intro h10
     rw[h10,←h8]at h9
     simp at h9
    clear f0 f1 f2 f3 hg6 hb6 hob5 hne hq5 hz5 he5 ho5 k5 hc5 hs5
    go_wp2
    go_roundw
    case measure=>have:=hN.out;simp[lenV];omega
    case rel=>exact⟨n+1,_,_,⟨zb,i,j+1⟩,la',lc',rfl,he6,ho6,hq6,hstB.out,by simp[hLn.out],by omega,by show n+1≤1+(i)+(j+1);omega,by show i≤na;have:=hl1.out;omega,by show j+1≤nb;have:=hl2.out;omega,k6.out,hob6.out⟩
   ·have hdA:decide ((0:Int)≤od)=false:=by rw[decide_eq_false_iff_not];omega
    have hdB:decide (od≤(0:Int))=true:=by rw[decide_eq_true_eq];omega
    clear ho
    have hina:i<na:=by have:=hl1.out;omega
    obtain⟨ba,oa,za,ea,hba,c0a,c1a,hza⟩:=h1.out.get (i:=i) hina hil
    subst ea
    have hnea:Hid (ba≠bt):=hide (by have:=hbt.out;omega)
    replace c0a:=(Below.cell (grow_step kW kr) hba).trans c0a
    replace c1a:=(Below.cell (grow_step kW kr) hba).trans c1a
    replace hza:=hza.below (grow_step kW kr)
    replace hza:=hide hza
    have oW:=Only.refl bt wA
    have d0:=(World.cell?_of_block (a:=⟨ba,oa+i*2,none⟩) (oW.block ba hnea.out)).trans c0a
    have d1:=(World.cell?_of_block (a:=⟨ba,oa+i*2+1,none⟩) (oW.block ba hnea.out)).trans c1a
    have f0:=heA.out.c0
    have f1:=heA.out.c1
    have f2:=heA.out.c2
    have f3:=heA.out.c3
    have g0:=heA.out.f 0
    have g1:=heA.out.f 1
    dsimp only at f0 f1 f2 f3
    go_upto_region 10 with(fail)
    have hE0:=hide (eb_z heA.out za)
    have oW:=oW.trans (only2 bt wA (.bool za.s) (.slice za.a za.l za.c))
    clear f0 f1 f2 f3 g0 g1 d0 d1
    generalize (wA.setCell ⟨bt,0,none⟩ (.bool za.s)).setCell ⟨bt,1,none⟩ (.slice za.a za.l za.c)=wE0 at*
    have f2:=hE0.out.c2
    have f3:=hE0.out.c3
    have g2:=hE0.out.f 2
    dsimp only at f2 f3
    go_upto_region 11 with(fail)
    have hE1:=eb_i hE0.out (i+1)
    rw[show(((i+1:Nat)):Int)=(i:Int)+1 from rfl]at hE1
    replace hE1:=hide hE1
    have oW:=oW.trans (Only.set bt 2 wE0 (.int .i64 ((i:Int)+1)))
    clear f2 f3 g2
    generalize wE0.setCell ⟨bt,2,none⟩ (.int .i64 ((i:Int)+1))=wE1 at*
    skip
    have heB:Hid (EB wE1 bt ⟨za,i+1,j⟩):=hE1
    generalize wE1=wB at*
    clear hdA hdB
    have hOw:Own wA bt 126:=⟨_,heA.out⟩
    have hqB:=hide (hqA.out.only oW hOw)
    have hzB:=hide (hza.out.only oW hOw (by decide))
    have hoB:=hide (own_only hoA.out oW (fun g e=>hob.out g e))
    have kB:Hid (Below w.heap.size w wB):=hide ((grow_step kW kr).trans (oW.below (Nat.le_of_lt hbt.out)))
    have hstB:=hide (str_a hst.out hx hil (by have:=hl2.out;omega) hlt2)
    have b5:=below_alloc wB (.cells #[.bool za.s,.slice za.a za.l za.c,.int .i64 ((i:Int)+1),.int .i64 ((j:Int))] 126)
    have z5:EB (wB.alloc (.cells #[.bool za.s,.slice za.a za.l za.c,.int .i64 ((i:Int)+1),.int .i64 ((j:Int))] 126)) wB.heap.size ⟨za,i+1,j⟩:=heap_alloc_new wB (.cells #[.bool za.s,.slice za.a za.l za.c,.int .i64 ((i:Int)+1),.int .i64 ((j:Int))] 126)
    have he5:=hide (heB.out.below b5)
    have hq5:=hide (hqB.out.below b5)
    have hz5:=hide (hzB.out.below b5)
    have ho5:=hide (own_below hoB.out b5)
    have k5:=hide (grow_step b5 kB.out)
    have hc5:=hide (ev_cells z5)
    have hs5:Hid (w.heap.size≤(wB.alloc (.cells #[.bool za.s,.slice za.a za.l za.c,.int .i64 ((i:Int)+1),.int .i64 ((j:Int))] 126)).heap.size):=hide k5.out.size
    have f0:=heB.out.c0
    have f1:=heB.out.c1
    have f2:=heB.out.c2
    have f3:=heB.out.c3
    dsimp only at f0 f1 f2 f3
    have hn5:n≤1073741824:=by omega
    clear b5 z5 heA hqA hoA oW hOw hqB hzB hoB kB heB hst kW kr he hown hq hon hoc
    go_wp2_with(refine appE rfl _ _ rfl rfl ho5.out ⟨za,i+1,j⟩ wB.heap.size 1 rfl hc5.out hn5 hs5.out ?_)
    intro v' w6 ho6 hg6 hb6
    have hob5:=own_blk ho5.out
    have k6:=hide (below_grown k5.out hg6 (fun g e=>(hob5 g e).1) hs5.out)
    have hne: ∀g,Value.ownBlock (.slice la n lc)=some g→∃e,Own _ g e∧60≠e:=fun g e=>⟨_,(hob5 g e).2,by decide⟩
    have hq6:=prs_snoc (s:=⟨xs[i],i+1,j⟩) (e:=⟨za,i+1,j⟩) (hq5.out.grown hg6 hne) (hz5.out.grown hg6 hne) rfl rfl
    have he6:=he5.out.grown hg6 (fun g e=>hob.out g e)
    obtain⟨-,la',lc',rfl,-⟩:=own_any (by decide) ev_len ho6
    have hob6:Hid (∀g,Value.ownBlock (.slice la' (n+1) lc')=some g→bt≠g):=hide fun g e=>by
     rcases hb6 with h7|h7
     ·exact hob.out g (h7.symm.trans e)
     have h8:=Option.some.inj (h7.symm.trans e)
     have h9:=he5.out.lt
     intro h10
     rw[h10,←h8]at h9
     simp at h9
    clear f0 f1 f2 f3 hg6 hb6 hob5 hne hq5 hz5 he5 ho5 k5 hc5 hs5
    go_wp2
    go_roundw
    case measure=>have:=hN.out;simp[lenV];omega
    case rel=>exact⟨n+1,_,_,⟨za,i+1,j⟩,la',lc',rfl,he6,ho6,hq6,hstB.out,by simp[hLn.out],by omega,by show n+1≤1+(i+1)+(j);omega,by show i+1≤na;have:=hl1.out;omega,by show j≤nb;have:=hl2.out;omega,k6.out,hob6.out⟩
   have hdA:decide ((0:Int)≤od)=true:=by rw[decide_eq_true_eq];omega
   have hdB:decide (od≤(0:Int))=true:=by rw[decide_eq_true_eq];omega
   clear ho
   have hinb:j<nb:=by have:=hl2.out;omega
   obtain⟨bb,ob,zb,eb,hbb,c0b,c1b,hzb⟩:=h2.out.get (i:=j) hinb hjl
   subst eb
   have hneb:Hid (bb≠bt):=hide (by have:=hbt.out;omega)
   replace c0b:=(Below.cell (grow_step kW kr) hbb).trans c0b
   replace c1b:=(Below.cell (grow_step kW kr) hbb).trans c1b
   replace hzb:=hzb.below (grow_step kW kr)
   replace hzb:=hide hzb
   have hina:i<na:=by have:=hl1.out;omega
   obtain⟨ba,oa,za,ea,hba,c0a,c1a,hza⟩:=h1.out.get (i:=i) hina hil
   subst ea
   have hnea:Hid (ba≠bt):=hide (by have:=hbt.out;omega)
   replace c0a:=(Below.cell (grow_step kW kr) hba).trans c0a
   replace c1a:=(Below.cell (grow_step kW kr) hba).trans c1a
   replace hza:=hza.below (grow_step kW kr)
   replace hza:=hide hza
   have oW:=Only.refl bt wA
   have d0:=(World.cell?_of_block (a:=⟨bb,ob+j*2,none⟩) (oW.block bb hneb.out)).trans c0b
   have d1:=(World.cell?_of_block (a:=⟨bb,ob+j*2+1,none⟩) (oW.block bb hneb.out)).trans c1b
   have f0:=heA.out.c0
   have f1:=heA.out.c1
   have f2:=heA.out.c2
   have f3:=heA.out.c3
   have g0:=heA.out.f 0
   have g1:=heA.out.f 1
   dsimp only at f0 f1 f2 f3
   go_upto_region 7 with(fail)
   have hE0:=hide (eb_z heA.out zb)
   have oW:=oW.trans (only2 bt wA (.bool zb.s) (.slice zb.a zb.l zb.c))
   clear f0 f1 f2 f3 g0 g1 d0 d1
   generalize (wA.setCell ⟨bt,0,none⟩ (.bool zb.s)).setCell ⟨bt,1,none⟩ (.slice zb.a zb.l zb.c)=wE0 at*
   have f2:=hE0.out.c2
   have f3:=hE0.out.c3
   have g2:=hE0.out.f 3
   dsimp only at f2 f3
   go_upto_region 8 with(fail)
   have hE1:=eb_j hE0.out (j+1)
   rw[show(((j+1:Nat)):Int)=(j:Int)+1 from rfl]at hE1
   replace hE1:=hide hE1
   have oW:=oW.trans (Only.set bt 3 wE0 (.int .i64 ((j:Int)+1)))
   clear f2 f3 g2
   generalize wE0.setCell ⟨bt,3,none⟩ (.int .i64 ((j:Int)+1))=wE1 at*
   skip
   have d0:=(World.cell?_of_block (a:=⟨ba,oa+i*2,none⟩) (oW.block ba hnea.out)).trans c0a
   have d1:=(World.cell?_of_block (a:=⟨ba,oa+i*2+1,none⟩) (oW.block ba hnea.out)).trans c1a
   have f0:=hE1.out.c0
   have f1:=hE1.out.c1
   have f2:=hE1.out.c2
   have f3:=hE1.out.c3
   have g0:=hE1.out.f 0
   have g1:=hE1.out.f 1
   dsimp only at f0 f1 f2 f3
   go_upto_region 10 with(fail)
   have hE2:=hide (eb_z hE1.out za)
   have oW:=oW.trans (only2 bt wE1 (.bool za.s) (.slice za.a za.l za.c))
   clear f0 f1 f2 f3 g0 g1 d0 d1
   generalize (wE1.setCell ⟨bt,0,none⟩ (.bool za.s)).setCell ⟨bt,1,none⟩ (.slice za.a za.l za.c)=wE2 at*
   have f2:=hE2.out.c2
   have f3:=hE2.out.c3
   have g2:=hE2.out.f 2
   dsimp only at f2 f3
   go_upto_region 11 with(fail)
   have hE3:=eb_i hE2.out (i+1)
   rw[show(((i+1:Nat)):Int)=(i:Int)+1 from rfl]at hE3
   replace hE3:=hide hE3
   have oW:=oW.trans (Only.set bt 2 wE2 (.int .i64 ((i:Int)+1)))
   clear f2 f3 g2
   generalize wE2.setCell ⟨bt,2,none⟩ (.int .i64 ((i:Int)+1))=wE3 at*
   skip
   have heB:Hid (EB wE3 bt ⟨za,i+1,j+1⟩):=hE3
   generalize wE3=wB at*
   clear hdA hdB
   have hOw:Own wA bt 126:=⟨_,heA.out⟩
   have hqB:=hide (hqA.out.only oW hOw)
   have hzB:=hide (hza.out.only oW hOw (by decide))
   have hoB:=hide (own_only hoA.out oW (fun g e=>hob.out g e))
   have kB:Hid (Below w.heap.size w wB):=hide ((grow_step kW kr).trans (oW.below (Nat.le_of_lt hbt.out)))
   have hstB:=hide (str_ab hst.out hx hy hil hjl heq)
   have b5:=below_alloc wB (.cells #[.bool za.s,.slice za.a za.l za.c,.int .i64 ((i:Int)+1),.int .i64 ((j:Int)+1)] 126)
   have z5:EB (wB.alloc (.cells #[.bool za.s,.slice za.a za.l za.c,.int .i64 ((i:Int)+1),.int .i64 ((j:Int)+1)] 126)) wB.heap.size ⟨za,i+1,j+1⟩:=heap_alloc_new wB (.cells #[.bool za.s,.slice za.a za.l za.c,.int .i64 ((i:Int)+1),.int .i64 ((j:Int)+1)] 126)
   have he5:=hide (heB.out.below b5)
   have hq5:=hide (hqB.out.below b5)
   have hz5:=hide (hzB.out.below b5)
   have ho5:=hide (own_below hoB.out b5)
   have k5:=hide (grow_step b5 kB.out)
   have hc5:=hide (ev_cells z5)
   have hs5:Hid (w.heap.size≤(wB.alloc (.cells #[.bool za.s,.slice za.a za.l za.c,.int .i64 ((i:Int)+1),.int .i64 ((j:Int)+1)] 126)).heap.size):=hide k5.out.size
   have f0:=heB.out.c0
   have f1:=heB.out.c1
   have f2:=heB.out.c2
   have f3:=heB.out.c3
   dsimp only at f0 f1 f2 f3
   have hn5:n≤1073741824:=by omega
   clear b5 z5 heA hqA hoA oW hOw hqB hzB hoB kB heB hst kW kr he hown hq hon hoc
   go_wp2_with(refine appE rfl _ _ rfl rfl ho5.out ⟨za,i+1,j+1⟩ wB.heap.size 1 rfl hc5.out hn5 hs5.out ?_)
   intro v' w6 ho6 hg6 hb6
   have hob5:=own_blk ho5.out
   have k6:=hide (below_grown k5.out hg6 (fun g e=>(hob5 g e).1) hs5.out)
   have hne: ∀g,Value.ownBlock (.slice la n lc)=some g→∃e,Own _ g e∧60≠e:=fun g e=>⟨_,(hob5 g e).2,by decide⟩
   have hq6:=prs_snoc (s:=⟨xs[i],i+1,j+1⟩) (e:=⟨za,i+1,j+1⟩) (hq5.out.grown hg6 hne) (hz5.out.grown hg6 hne) rfl rfl
   have he6:=he5.out.grown hg6 (fun g e=>hob.out g e)
   obtain⟨-,la',lc',rfl,-⟩:=own_any (by decide) ev_len ho6
   have hob6:Hid (∀g,Value.ownBlock (.slice la' (n+1) lc')=some g→bt≠g):=hide fun g e=>by
    rcases hb6 with h7|h7
    ·exact hob.out g (h7.symm.trans e)
    have h8:=Option.some.inj (h7.symm.trans e)
    have h9:=he5.out.lt
    intro h10
    rw[h10,←h8]at h9
    simp at h9
   clear f0 f1 f2 f3 hg6 hb6 hob5 hne hq5 hz5 he5 ho5 k5 hc5 hs5
   go_wp2
   go_roundw
   case measure=>have:=hN.out;simp[lenV];omega
   case rel=>exact⟨n+1,_,_,⟨za,i+1,j+1⟩,la',lc',rfl,he6,ho6,hq6,hstB.out,by simp[hLn.out],by omega,by show n+1≤1+(i+1)+(j+1);omega,by show i+1≤na;have:=hl1.out;omega,by show j+1≤nb;have:=hl2.out;omega,k6.out,hob6.out⟩
end Pd
namespace Pd

variable {m base n b p:Nat}{w w':World}
structure Fm (m base:Nat) (w w':World):Prop where
 os:w'.os=w.os
 tape:w'.tape=w.tape
 output:w'.output=w.output
 size:w.heap.size≤w'.heap.size
 block: ∀k,k<base→k≠m→w'.heap[k]? =w.heap[k]?
theorem Fm.trans {w1 w2 w3:World}(h:Fm m base w1 w2)(k:Fm m base w2 w3):Fm m base w1 w3:=⟨k.os.trans h.os,k.tape.trans h.tape,k.output.trans h.output,Nat.le_trans h.size k.size,fun i h1 h2=>(k.block i h1 h2).trans (h.block i h1 h2)⟩
theorem Fm.of_below (k:Below n w w')(h:base≤n):Fm m base w w':=⟨k.os,k.tape,k.output,k.size,fun i h1 _=>k.block i o_m⟩
theorem Fm.of_only (k:Only m w w'):Fm m base w w':=⟨k.os,k.tape,k.output,Nat.le_of_eq k.size.symm,fun i _ h=>k.block i h⟩
theorem Fm.of_grown {o:Option Nat}(k:w.grownBy w' o)(hb:base≤w.heap.size)(h: ∀g,o=some g→base≤g):Fm m base w w':=⟨k.os,k.tape,k.output,k.size,fun i h1 _=>k.block i o_m fun e=>by have:=h i e.symm;omega⟩
structure Mk (w:World) (m base:Nat) (D:PD):Prop where
 len:D.rs.length≤1073741824∧D.cs.length≤1073741824
 blk: ∃(v:SV) (qz:List ZV) (qr:List Nat),SB w m D.p v∧v.cn=D.cs.length∧v.rn=D.rs.length∧w.ownsRow base 38 2 (.slice v.ca v.cn v.cc) v.cn (encL ZV.enc qz)∧Prz w qz D.cs∧w.ownsRow base 74 1 (.slice v.ra v.rn v.rc) v.rn (encL (encr (wn D.p)) qr)∧Rws w qr D.rs∧∀g∈qr,base≤g
theorem runI {v:Value}{q:List ZV}(h:w.ownsRow base 38 2 v n (encL ZV.enc q))(t:ZV)(g c:Nat)(hc:ZB w g t.s t.a t.l t.c)(h63:n≤1073741824)(hbase:base≤w.heap.size)(ty:TypeId):
  ∃v' w',(Builtin.append_ #[23,23] ty #[v,.slice (some ⟨g,0,none⟩) 1 c]).run Tryz.prog w= .ok v' w'∧w'.ownsRow base 38 2 v' (n+1) (encL ZV.enc (q++ [t]))∧w.grownBy w' v.ownBlock∧(v'.ownBlock=v.ownBlock∨v'.ownBlock=some w.heap.size):=
 app_run Tryz.underlying23 infoI rfl (by decide) (by decide) zv_len zv_one h t g c (zv_cells hc) h63 hbase ty
theorem sb_cuts {v:SV}(h:SB w b p v)(ca:Option Addr)(cn cc:Nat):SB (w.setCell ⟨b,1,none⟩ (.slice ca cn cc)) b p ⟨ca,cn,cc,v.ra,v.rn,v.rc⟩:=by
 have:=heap_setCell_same w b 1 _ 78 (.slice ca cn cc) h
 simpa [SB] using this
theorem copied_g {xs:List Int}(h:RB w b xs)(hn:xs.length=n)(hn2:n≤65):
  Calls Tryz.prog 138 #[.slice (some ⟨b,0,none⟩) n n] w fun e w'=> ∃g,e= .returned (.slice (some ⟨g,0,none⟩) n n)∧RB w' g xs∧Below w.heap.size w w'∧w.heap.size≤g:=
 (copied_n h hn hn2).mono fun _ _ ⟨h1,h2,h3,_⟩=>⟨_,h1,h2,h3,Nat.le_refl _⟩
theorem al_s {v:SV}(_h:SB w b p v)(o:Obj): ∃wL g,Hid (w.alloc o=wL)∧Hid (w.heap.size=g)∧Bk wL g o∧Below w.heap.size w wL:=⟨_,_,rfl,rfl,heap_alloc_new w o,below_alloc _ _⟩
theorem own_grown {e e2:TypeId}{size:Nat}{v:Value}{xs:List Value}{o:Option Nat}(h:w.ownsRow base e size v n xs)(hg:w.grownBy w' o)(ho: ∀g,o=some g→Own w g e2)(hne:e≠e2):w'.ownsRow base e size v n xs:=by
 refine⟨h.1,h.2.imp id ?_⟩
 rintro⟨g,cap,cur,h1,h2,h3,h4⟩
 exact⟨g,cap,cur,h1,h2,(hg.block g (Array.getElem?_eq_some_iff.1 h3).1 fun e=>(ho g e.symm).ne h3 hne rfl).trans h3,h4⟩
theorem grown_only (ho:Only b w w'):w.grownBy w' (some b):=⟨ho.os,ho.tape,ho.output,Nat.le_of_eq ho.size.symm,fun k _ hk=>ho.block k fun e=>hk (by rw[e])⟩
theorem own_oth {o:Option Nat}{e t:TypeId}(h: ∀g,o=some g→Own w g e)(hne:t≠e): ∀g,o=some g→∃e,Own w g e∧t≠e:=fun g eg=>⟨e,h g eg,hne⟩
theorem SB.own {v:SV}(h:SB w b p v): ∀g,some b=some g→Own w g 78:=fun g e=>by cases e;exact⟨_,h⟩
theorem getD_last {α:Type}(l:List α)(d:α)(h:0<l.length):l.getD (l.length-1) d∈l:=by
 rw[show l.getD (l.length-1) d=l[l.length-1]by simp[List.getD,show l.length-1<l.length by omega]]
 exact List.getElem_mem _
theorem lay_n {g:Nat}{D:PD}{z:ZV}{f:Int}{r:List Int}(h:Mk w m base D)(_hmb:m<base)(hbs:base≤w.heap.size)(hg:RB w g r)(hr:Rok D.p r)(hR: ∀r∈D.rs,Rok D.p r)(hz:Zf w z f)(hp2:D.p≤4096)(hl:D.rs.length<1073741824∧D.cs.length<1073741824)(_hlen:D.rs= []→D.cs= []):
  Calls Tryz.prog 104 #[.pointer (some ⟨m,0,none⟩),.agg #[.bool z.s,.slice z.a z.l z.c],.slice (some ⟨g,0,none⟩) (wn D.p) (wn D.p)] w fun e w'=>e= .returned (.tuple #[])∧Mk w' m base (layD D f r)∧Fm m base w w':=by
 obtain⟨v,qz,qr,hm,hcn,hrn,hoz,hqz,hor,hqr,hqb⟩:=h.blk
 have hw65:Hid (wn D.p≤65):=hide (by unfold wn;omega)
 have b0:=below_alloc w (.cells #[.bool z.s,.slice z.a z.l z.c] 38)
 have y0:=zb_new w z.s z.a z.l z.c
 have kF:=hide (Fm.of_below (m:=m) b0 hbs)
 have hs0:Hid (base≤(w.alloc (.cells #[.bool z.s,.slice z.a z.l z.c] 38)).heap.size):=hide (Nat.le_trans hbs b0.size)
 replace hm:=hm.below b0
 replace hoz:=hide (own_below hoz b0)
 replace hqz:=hide (hqz.below b0)
 replace hor:=hide (own_below hor b0)
 replace hqr:=hide (hqr.below b0)
 replace hg:=hide (hg.below b0)
 replace hz:=hide (hz.below b0)
 have hrl:=hide hr.len
 clear h b0
 have c2:=hm.c2
 replace hm:=hide hm
 replace y0:=hide y0
 by_cases hr0:D.rs= []
 ·have hr00:v.rn=0:=by rw[hrn,hr0];rfl
  have hlay:Hid (layD D f r=⟨D.p,D.cs,D.rs++ [r]⟩):=hide (by unfold layD;rw[if_pos hr0,hr0];rfl)
  have hn5:v.rn≤1073741824:=by omega
  rw[hr00]at c2
  go_enter Tryz.func104,Tryz.ntmps104
  go_upto_region 5 with(fail)
  generalize w.alloc (.cells #[.bool z.s,.slice z.a z.l z.c] 38)=wr at*
  clear c2
  have cm:=hm.out
  have hozW:=hoz.out
  have hqzW:=hqz.out
  have horW:=hor.out
  have hqrW:=hqr.out
  have gT:=hg.out
  have kFW:=kF.out
  have hsW:=hs0.out
  replace hcn:=hide hcn
  replace hrn:=hide hrn
  replace hr00:=hide hr00
  replace hr0:=hide hr0
  replace hqb:=hide hqb
  replace hl:=hide hl
  clear hR hr
  refine wp_region_held_drew (S:=(fun _=>True)) k_f (trivial) (fun hHeld=> ?_)
  show wpAnyH _ _ _ _ _ 12 _ _ _
  have kX:=grow_drew (Below.refl wr.heap.size wr)
  try have cm:=cm.below kX
  try have hqzW:=hqzW.below kX
  try have hqrW:=hqrW.below kX
  try have gT:=gT.below kX
  try have gO:=gO.below kX
  try have cN:=cN.below kX
  try have yW:=yW.below kX
  try have zW:=zW.below kX
  try have hozW:=own_below hozW kX
  try have horW:=own_below horW kX
  have kFW:=kFW.trans (Fm.of_below kX hsW)
  have hsW:=Nat.le_trans hsW (Below.size kX)
  generalize wr.drew=wQ at*
  repeat' first
   |with_reducible exact AllReadyH.nil
   |(
    refine tkz 0 34 ?_
    (try simp only[pz]))
   |(
    refine tkz 1 35 ?_
    (try simp only[pz]))
   |(
    refine tkz 2 36 ?_
    (try simp only[pz]))
   |(
    refine tkz 3 37 ?_
    (try simp only[pz]))
   |(
    refine tkz 5 39 ?_
    (try simp only[pz]))
   |(
    refine tkz 9 43 ?_
    (try simp only[pz]))
   |(
    refine tkz 10 44 ?_
    (try simp only[pz]))
   |(refine wpAnyH_ready (rs:=[4,6]) ?_ ?_ ?_;decide+kernel;simp)
   |(refine wpAnyH_ready (rs:=[6]) ?_ ?_ ?_;decide+kernel;simp)
   |(refine wpAnyH_ready (rs:=[7]) ?_ ?_ ?_;decide+kernel;simp)
   |(refine wpAnyH_ready (rs:=[8]) ?_ ?_ ?_;decide+kernel;simp)
   |(refine wpAnyH_ready (rs:=[11]) ?_ ?_ ?_;decide+kernel;simp)
   |(refine wpAnyH_ready (rs:=[4,7]) ?_ ?_ ?_;decide+kernel;simp)
   |(refine wpAnyH_ready (rs:=[4]) ?_ ?_ ?_;decide+kernel;simp)
   |(
    first
     |(
      refine AllReadyH.cons (i:=4) (o:=⟨some 38,_,_,_,_,_⟩) rfl (fun K hK=> ?_) ?_
      have f4:=cm.c2
      go_simp)
     |(
      refine AllReadyH.cons (i:=6) (o:=⟨some 40,_,_,_,_,_⟩) rfl (fun K hK=> ?_) ?_
      go_simp
      go_at_call 138;refine Calls.mono (copied_g gT hrl.out hw65.out) ?_;rintro e wC ⟨g2,rfl,gO,kC,hgO⟩
      have hgB:=Nat.le_trans hsW hgO
      try have cm:=cm.below kC
      try have hqzW:=hqzW.below kC
      try have hqrW:=hqrW.below kC
      try have gT:=gT.below kC
      try have cN:=cN.below kC
      try have yW:=yW.below kC
      try have zW:=zW.below kC
      try have hozW:=own_below hozW kC
      try have horW:=own_below horW kC
      have kFW:=kFW.trans (Fm.of_below kC hsW)
      have hsW:=Nat.le_trans hsW (Below.size kC)
      try go_wp2_with fail)
     |(
      refine AllReadyH.cons (i:=7) (o:=⟨some 41,_,_,_,_,_⟩) rfl (fun K hK=> ?_) ?_
      obtain⟨wL,b41,eL,e41,cN,kL⟩:=al_s cm (.cells #[.slice (some ⟨g2,0,none⟩) (wn D.p) (wn D.p)] 74)
      try have cm:=cm.below kL
      try have hqzW:=hqzW.below kL
      try have hqrW:=hqrW.below kL
      try have gT:=gT.below kL
      try have gO:=gO.below kL
      try have yW:=yW.below kL
      try have zW:=zW.below kL
      try have hozW:=own_below hozW kL
      try have horW:=own_below horW kL
      have kFW:=kFW.trans (Fm.of_below kL hsW)
      have hsW:=Nat.le_trans hsW (Below.size kL)
      go_simp
      rw[eL.out]
      (try simp only[e41.out]))
     |(
      refine AllReadyH.cons (i:=8) (o:=⟨some 42,_,_,_,_,_⟩) rfl (fun K hK=> ?_) ?_
      refine anyH_append rfl _ _ 76 rfl _ _ rfl rfl _ (runR horW g2 b41 1 (cell_of_row _ b41 0 _ _ (0,0) cN) hn5 hsW _) ?_
      rintro v' wD ⟨hoD,hgD,-⟩
      have hob:=own_blk horW
      have hoT:=fun g e=>(hob g e).2
      have cm:=cm.grown hgD (own_oth hoT (by decide))
      have hqzW:=hqzW.grown hgD (own_oth hoT (by decide))
      have hqrW:=rws_snoc (hqrW.grown hgD (own_oth hoT (by decide))) (gO.grown hgD (own_oth hoT (by decide)))
      have hozW:=own_grown hozW hgD hoT (by decide)
      have kFW:=kFW.trans (Fm.of_grown hgD hsW (fun g e=>(hob g e).1))
      have hsW:=Nat.le_trans hsW hgD.size
      obtain⟨-,ra',rc',rfl,-⟩:=own_any (by decide) (encr_len _) hoD
      clear hob hoT hgD)
     |(
      refine AllReadyH.cons (i:=11) (o:=⟨none,_,_,_,_,_⟩) rfl (fun K hK=> ?_) ?_
      have f0:=cm.c2
      have f1:=cm.f 2
      go_simp
      have oS:=Only.set m 2 wD (.slice ra' (v.rn+1) rc')
      have hozW:=own_only hozW oS (fun g e=>(own_blk hozW g e).2.ne cm (by decide))
      have hoD:=own_only hoD oS (fun g e=>(own_blk hoD g e).2.ne cm (by decide))
      have hqzW:=hqzW.grown (grown_only oS) (own_oth cm.own (by decide))
      have hqrW:=Rws.only hqrW oS cm
      have cm:=sb_set cm ra' (v.rn+1) rc'
      have kFW:=kFW.trans (Fm.of_only oS))
    refine hK.out _ _ ?_ ?_
    ·first|with_reducible exact trivial|((try dsimp only);exact trivial)
    clear hK K hHeld;intro hHeld
    (try simp only[pz]))
  all_goals
   refine wpAnyH_done ?_ ?_ _
   ·decide+kernel
   have hmk:Hid (Mk (wD.setCell ⟨m,2,none⟩ (.slice ra' (v.rn+1) rc')) m base (layD D f r)):=hide (by
    rw[hlay.out]
    exact⟨⟨by have:=hl.out;simp;omega,by have:=hl.out;show D.cs.length≤_;omega⟩,_,_,_,cm,hcn.out,by show v.rn+1=_;have:=hrn.out;simp;omega,hozW,hqzW,hoD,hqrW,fun g hg=>by
     rcases List.mem_append.1 hg with h1|h1
     ·exact hqb.out g h1
     rw[List.mem_singleton.1 h1];exact hgB⟩)
   replace kFW:=hide kFW
   clear cm hozW hqzW hoD hqrW hHeld gT gO cN
   go_wp2
   go_end0
   exact⟨rfl,hmk.out,kFW.out⟩
 have hrp:0<D.rs.length:=List.length_pos_iff.2 hr0
 obtain⟨k,hk⟩: ∃k,v.rn=k+1:=⟨v.rn-1,by omega⟩
 have hlm:Hid (Rok D.p (rw' D (D.rs.length-1))):=hide (hR _ (getD_last D.rs [] hrp))
 obtain⟨ra0,rc0,e0,hrls⟩:=rls_own hor.out hqr.out
 cases e0
 obtain⟨rb,off,gl,hra,hrb,cl',hgl⟩:=hrls.get (i:=k) o_m
 replace hgl:Hid (RB _ gl (rw' D (D.rs.length-1))):=hide (by rw[←hrn,hk,Nat.add_sub_cancel];exact hgl)
 have heq:=hide (equal_n hg.out hgl.out hr.len hlm.out.len hw65.out)
 have hki:(v.rn:Int)-1=(k:Int):=by omega
 have hkr:k<v.rn:=by omega
 have hdk:decide ((0:Int)≤(k:Int))=true:=by rw[decide_eq_true_eq];omega
 have hn5:v.rn≤1073741824:=by omega
 have hn4:v.cn≤1073741824:=by omega
 rw[hra]at c2
 have hlay1:Hid (r=rw' D (D.rs.length-1)→layD D f r=D):=hide fun e=>by unfold layD;rw[if_neg hr0,if_pos e]
 have hlay2:Hid (r≠rw' D (D.rs.length-1)→layD D f r=⟨D.p,D.cs++ [f],D.rs++ [r]⟩):=hide fun e=>by unfold layD;rw[if_neg hr0,if_neg e]
 generalize rw' D (D.rs.length-1)=lst at*
 replace hcn:=hide hcn
 replace hrn:=hide hrn
 replace hk:=hide hk
 replace hr0:=hide hr0
 replace hqb:=hide hqb
 replace hl:=hide hl
 replace hra:=hide hra
 clear hR hr hrls hlm hrp
 go_enter Tryz.func104,Tryz.ntmps104
 go_upto_region 3 with(fail)
 generalize w.alloc (.cells #[.bool z.s,.slice z.a z.l z.c] 38)=w0 at*
 go_wp2_with fail
 refine heq.out.mono ?_
 rintro e wr ⟨rfl,k1⟩
 clear heq c2 cl' hki hkr hdk
 have cm:=hm.out.below k1
 have hozW:=own_below hoz.out k1
 have hqzW:=hqz.out.below k1
 have horW:=own_below hor.out k1
 have hqrW:=hqr.out.below k1
 have gT:=hg.out.below k1
 have zW:=hz.out.below k1
 have yW:=y0.out.below k1
 have kFW:=kF.out.trans (Fm.of_below k1 hs0.out)
 have hsW:=Nat.le_trans hs0.out k1.size
 by_cases hre:r=lst
 ·have hd:decide (r=lst)=true:=decide_eq_true hre
  have hmk:Hid (Mk wr m base (layD D f r)):=hide (by
   rw[hlay1.out hre]
   exact⟨⟨by have:=hl.out;omega,by have:=hl.out;omega⟩,_,_,_,cm,hcn.out,hrn.out,hozW,hqzW,horW,hqrW,hqb.out⟩)
  replace kFW:=hide kFW
  clear cm hozW hqzW horW hqrW gT zW yW hre hlay1 hlay2
  go_wp2
  exact bodyPost_ret (results_none rfl _ _ _) rfl ⟨rfl,hmk.out,kFW.out⟩
 have hd:decide (r=lst)=false:=decide_eq_false hre
 have hlay:=hide (hlay2.out hre)
 clear hlay1 hlay2 hre k1
 go_upto_region 4 with(fail)
 clear hd
 refine wp_region_held_drew (S:=(fun _=>True)) k_f (trivial) (fun hHeld=> ?_)
 show wpAnyH _ _ _ _ _ 11 _ _ _
 have kX:=grow_drew (Below.refl wr.heap.size wr)
 try have cm:=cm.below kX
 try have hqzW:=hqzW.below kX
 try have hqrW:=hqrW.below kX
 try have gT:=gT.below kX
 try have gO:=gO.below kX
 try have cN:=cN.below kX
 try have yW:=yW.below kX
 try have zW:=zW.below kX
 try have hozW:=own_below hozW kX
 try have horW:=own_below horW kX
 have kFW:=kFW.trans (Fm.of_below kX hsW)
 have hsW:=Nat.le_trans hsW (Below.size kX)
 generalize wr.drew=wQ at*
 repeat' first
  |with_reducible exact AllReadyH.nil
  |(
   refine tkz 0 24 ?_
   (try simp only[pz]))
  |(
   refine tkz 1 25 ?_
   (try simp only[pz]))
  |(
   refine tkz 2 26 ?_
   (try simp only[pz]))
  |(
   refine tkz 3 27 ?_
   (try simp only[pz]))
  |(
   refine tkz 8 32 ?_
   (try simp only[pz]))
  |(
   refine tkz 9 33 ?_
   (try simp only[pz]))
  |(refine wpAnyH_ready (rs:=[4,5]) ?_ ?_ ?_;decide+kernel;simp)
  |(refine wpAnyH_ready (rs:=[5]) ?_ ?_ ?_;decide+kernel;simp)
  |(refine wpAnyH_ready (rs:=[6]) ?_ ?_ ?_;decide+kernel;simp)
  |(refine wpAnyH_ready (rs:=[7]) ?_ ?_ ?_;decide+kernel;simp)
  |(refine wpAnyH_ready (rs:=[10]) ?_ ?_ ?_;decide+kernel;simp)
  |(refine wpAnyH_ready (rs:=[4,6]) ?_ ?_ ?_;decide+kernel;simp)
  |(refine wpAnyH_ready (rs:=[4]) ?_ ?_ ?_;decide+kernel;simp)
  |(
   first
    |(
     refine AllReadyH.cons (i:=4) (o:=⟨some 28,_,_,_,_,_⟩) rfl (fun K hK=> ?_) ?_
     have f4:=cm.c1
     go_simp)
    |(
     refine AllReadyH.cons (i:=5) (o:=⟨some 29,_,_,_,_,_⟩) rfl (fun K hK=> ?_) ?_
     have f5:=yW.c0
     have f6:=yW.c1
     go_simp)
    |(
     refine AllReadyH.cons (i:=6) (o:=⟨some 30,_,_,_,_,_⟩) rfl (fun K hK=> ?_) ?_
     obtain⟨wL,b30,eL,e30,cN,kL⟩:=al_s cm (.cells #[.bool z.s,.slice z.a z.l z.c] 38)
     try have cm:=cm.below kL
     try have hqzW:=hqzW.below kL
     try have hqrW:=hqrW.below kL
     try have gT:=gT.below kL
     try have gO:=gO.below kL
     try have yW:=yW.below kL
     try have zW:=zW.below kL
     try have hozW:=own_below hozW kL
     try have horW:=own_below horW kL
     have kFW:=kFW.trans (Fm.of_below kL hsW)
     have hsW:=Nat.le_trans hsW (Below.size kL)
     go_simp
     rw[eL.out]
     (try simp only[e30.out]))
    |(
     refine AllReadyH.cons (i:=7) (o:=⟨some 31,_,_,_,_,_⟩) rfl (fun K hK=> ?_) ?_
     refine anyH_append rfl _ _ 23 rfl _ _ rfl rfl _ (runI hozW z b30 1 cN hn4 hsW _) ?_
     rintro v' wD ⟨hoD,hgD,-⟩
     have hob:=own_blk hozW
     have hoT:=fun g e=>(hob g e).2
     have cm:=cm.grown hgD (own_oth hoT (by decide))
     have hqzW:=prz_snoc (hqzW.grown hgD (own_oth hoT (by decide))) (zW.grown hgD (own_oth hoT (by decide)))
     have hqrW:=hqrW.grown hgD (own_oth hoT (by decide))
     have gT:=gT.grown hgD (own_oth hoT (by decide))
     have horW:=own_grown horW hgD hoT (by decide)
     have kFW:=kFW.trans (Fm.of_grown hgD hsW (fun g e=>(hob g e).1))
     have hsW:=Nat.le_trans hsW hgD.size
     obtain⟨-,ca',cc',rfl,-⟩:=own_any (by decide) zv_len hoD
     clear hob hoT hgD cN yW zW)
    |(
     refine AllReadyH.cons (i:=10) (o:=⟨none,_,_,_,_,_⟩) rfl (fun K hK=> ?_) ?_
     have f0:=cm.c1
     have f1:=cm.f 1
     go_simp
     have oS:=Only.set m 1 wD (.slice ca' (v.cn+1) cc')
     have horW:=own_only horW oS (fun g e=>(own_blk horW g e).2.ne cm (by decide))
     have hoD:=own_only hoD oS (fun g e=>(own_blk hoD g e).2.ne cm (by decide))
     have hqzW:=hqzW.grown (grown_only oS) (own_oth cm.own (by decide))
     have hqrW:=Rws.only hqrW oS cm
     have gT:=gT.grown (grown_only oS) (own_oth cm.own (by decide))
     have cm:=sb_cuts cm ca' (v.cn+1) cc'
     have kFW:=kFW.trans (Fm.of_only oS)
     have hsW:base≤(wD.setCell ⟨m,1,none⟩ (.slice ca' (v.cn+1) cc')).heap.size:=by rw[oS.size];exact hsW)
   refine hK.out _ _ ?_ ?_
   ·first|with_reducible exact trivial|((try dsimp only);exact trivial)
   clear hK K hHeld;intro hHeld
   (try simp only[pz]))
 all_goals
  refine wpAnyH_done ?_ ?_ _
  ·decide+kernel
  have hozW:=hoD
  clear hHeld
  generalize wD.setCell ⟨m,1,none⟩ (.slice ca' (v.cn+1) cc')=w4 at*
  clear hoD
  go_upto_region 5 with(fail)
  refine wp_region_held_drew (S:=(fun _=>True)) k_f (trivial) (fun hHeld=> ?_)
  show wpAnyH _ _ _ _ _ 12 _ _ _
  have kX:=grow_drew (Below.refl w4.heap.size w4)
  try have cm:=cm.below kX
  try have hqzW:=hqzW.below kX
  try have hqrW:=hqrW.below kX
  try have gT:=gT.below kX
  try have gO:=gO.below kX
  try have cN:=cN.below kX
  try have yW:=yW.below kX
  try have zW:=zW.below kX
  try have hozW:=own_below hozW kX
  try have horW:=own_below horW kX
  have kFW:=kFW.trans (Fm.of_below kX hsW)
  have hsW:=Nat.le_trans hsW (Below.size kX)
  generalize w4.drew=wQ at*
  repeat' first
   |with_reducible exact AllReadyH.nil
   |(
    refine tkz 0 34 ?_
    (try simp only[pz]))
   |(
    refine tkz 1 35 ?_
    (try simp only[pz]))
   |(
    refine tkz 2 36 ?_
    (try simp only[pz]))
   |(
    refine tkz 3 37 ?_
    (try simp only[pz]))
   |(
    refine tkz 5 39 ?_
    (try simp only[pz]))
   |(
    refine tkz 9 43 ?_
    (try simp only[pz]))
   |(
    refine tkz 10 44 ?_
    (try simp only[pz]))
   |(refine wpAnyH_ready (rs:=[4,6]) ?_ ?_ ?_;decide+kernel;simp)
   |(refine wpAnyH_ready (rs:=[6]) ?_ ?_ ?_;decide+kernel;simp)
   |(refine wpAnyH_ready (rs:=[7]) ?_ ?_ ?_;decide+kernel;simp)
   |(refine wpAnyH_ready (rs:=[8]) ?_ ?_ ?_;decide+kernel;simp)
   |(refine wpAnyH_ready (rs:=[11]) ?_ ?_ ?_;decide+kernel;simp)
   |(refine wpAnyH_ready (rs:=[4,7]) ?_ ?_ ?_;decide+kernel;simp)
   |(refine wpAnyH_ready (rs:=[4]) ?_ ?_ ?_;decide+kernel;simp)
   |(
    first
     |(
      refine AllReadyH.cons (i:=4) (o:=⟨some 38,_,_,_,_,_⟩) rfl (fun K hK=> ?_) ?_
      have f4:=cm.c2
      go_simp)
     |(
      refine AllReadyH.cons (i:=6) (o:=⟨some 40,_,_,_,_,_⟩) rfl (fun K hK=> ?_) ?_
      go_simp
      go_at_call 138;refine Calls.mono (copied_g gT hrl.out hw65.out) ?_;rintro e wC ⟨g2,rfl,gO,kC,hgO⟩
      have hgB:=Nat.le_trans hsW hgO
      try have cm:=cm.below kC
      try have hqzW:=hqzW.below kC
      try have hqrW:=hqrW.below kC
      try have gT:=gT.below kC
      try have cN:=cN.below kC
      try have yW:=yW.below kC
      try have zW:=zW.below kC
      try have hozW:=own_below hozW kC
      try have horW:=own_below horW kC
      have kFW:=kFW.trans (Fm.of_below kC hsW)
      have hsW:=Nat.le_trans hsW (Below.size kC)
      try go_wp2_with fail)
     |(
      refine AllReadyH.cons (i:=7) (o:=⟨some 41,_,_,_,_,_⟩) rfl (fun K hK=> ?_) ?_
      obtain⟨wL,b41,eL,e41,cN,kL⟩:=al_s cm (.cells #[.slice (some ⟨g2,0,none⟩) (wn D.p) (wn D.p)] 74)
      try have cm:=cm.below kL
      try have hqzW:=hqzW.below kL
      try have hqrW:=hqrW.below kL
      try have gT:=gT.below kL
      try have gO:=gO.below kL
      try have yW:=yW.below kL
      try have zW:=zW.below kL
      try have hozW:=own_below hozW kL
      try have horW:=own_below horW kL
      have kFW:=kFW.trans (Fm.of_below kL hsW)
      have hsW:=Nat.le_trans hsW (Below.size kL)
      go_simp
      rw[eL.out]
      (try simp only[e41.out]))
     |(
      refine AllReadyH.cons (i:=8) (o:=⟨some 42,_,_,_,_,_⟩) rfl (fun K hK=> ?_) ?_
      refine anyH_append rfl _ _ 76 rfl _ _ rfl rfl _ (runR horW g2 b41 1 (cell_of_row _ b41 0 _ _ (0,0) cN) hn5 hsW _) ?_
      rintro v' wD ⟨hoD,hgD,-⟩
      have hob:=own_blk horW
      have hoT:=fun g e=>(hob g e).2
      have cm:=cm.grown hgD (own_oth hoT (by decide))
      have hqzW:=hqzW.grown hgD (own_oth hoT (by decide))
      have hqrW:=rws_snoc (hqrW.grown hgD (own_oth hoT (by decide))) (gO.grown hgD (own_oth hoT (by decide)))
      have hozW:=own_grown hozW hgD hoT (by decide)
      have kFW:=kFW.trans (Fm.of_grown hgD hsW (fun g e=>(hob g e).1))
      have hsW:=Nat.le_trans hsW hgD.size
      obtain⟨-,ra',rc',rfl,-⟩:=own_any (by decide) (encr_len _) hoD
      clear hob hoT hgD)
     |(
      refine AllReadyH.cons (i:=11) (o:=⟨none,_,_,_,_,_⟩) rfl (fun K hK=> ?_) ?_
      have f0:=cm.c2
      have f1:=cm.f 2
      go_simp
      have oS:=Only.set m 2 wD (.slice ra' (v.rn+1) rc')
      have hozW:=own_only hozW oS (fun g e=>(own_blk hozW g e).2.ne cm (by decide))
      have hoD:=own_only hoD oS (fun g e=>(own_blk hoD g e).2.ne cm (by decide))
      have hqzW:=hqzW.grown (grown_only oS) (own_oth cm.own (by decide))
      have hqrW:=Rws.only hqrW oS cm
      have cm:=sb_set cm ra' (v.rn+1) rc'
      have kFW:=kFW.trans (Fm.of_only oS))
    refine hK.out _ _ ?_ ?_
    ·first|with_reducible exact trivial|((try dsimp only);exact trivial)
    clear hK K hHeld;intro hHeld
    (try simp only[pz]))
  all_goals
   refine wpAnyH_done ?_ ?_ _
   ·decide+kernel
   have hmk:Hid (Mk (wD.setCell ⟨m,2,none⟩ (.slice ra' (v.rn+1) rc')) m base (layD D f r)):=hide (by
    rw[hlay.out]
    exact⟨⟨by have:=hl.out;simp;omega,by have:=hl.out;simp;omega⟩,_,_,_,cm,by show v.cn+1=_;have:=hcn.out;simp;omega,by show v.rn+1=_;have:=hrn.out;simp;omega,hozW,hqzW,hoD,hqrW,fun g hg=>by
     rcases List.mem_append.1 hg with h1|h1
     ·exact hqb.out g h1
     rw[List.mem_singleton.1 h1];exact hgB⟩)
   replace kFW:=hide kFW
   clear cm hozW hqzW hoD hqrW hHeld gT gO cN
   go_wp2
   go_end0
   exact⟨rfl,hmk.out,kFW.out⟩
end Pd
namespace Pd

variable {p m tk base:Nat}{w w':World}
theorem lcm_nat {q:Nat}:lcmI ((p:Int).natAbs:Int) ((q:Int).natAbs:Int)=((Nat.lcm p q:Nat):Int):=by
 rw[Int.natAbs_natCast,Int.natAbs_natCast]
 unfold lcmI gcdI Nat.lcm
 rw[Int.toNat_natCast,Int.toNat_natCast,←Nat.div_mul_right_comm (Nat.gcd_dvd_left p q)]
 simp
structure Tkf (op:Int→Int→Int) (ob:Bool→Bool→Bool):Prop where
 bd: ∀x y:Int,(0≤x∧x<18446744073709551616)→(0≤y∧y<18446744073709551616)→0≤op x y∧op x y<18446744073709551616
 bt: ∀a b:List Int,Ws a→Ws b→∀n r,r / 64<n→hb (zipB op a b n) r=ob (hb a r) (hb b r)
 no:ob false false=false
theorem tkf_and :Tkf (bits .and .u64) (· && ·):=⟨fun _ _=>and_bd,fun _ _ ha hb' _ _ h=>hb_and ha hb' h,rfl⟩
theorem tkf_or :Tkf (bits .or .u64) (· || ·):=⟨fun _ _=>or_bd,fun _ _ ha hb' _ _ h=>hb_or ha hb' h,rfl⟩
theorem rok_zip {op:Int→Int→Int}{ob:Bool→Bool→Bool}(h:Tkf op ob){p:Nat}{a b:List Int}(ha:Rok p a)(hb':Rok p b):Rok p (zipB op a b (wn p)):=by
 refine⟨zip_ws fun i _=>h.bd _ _ (ha.ws.lz i) (hb'.ws.lz i),zip_len _ _ _ _,fun j hj=> ?_⟩
 by_cases hw:j / 64<wn p
 ·rw[h.bt a b ha.ws hb'.ws _ _ hw,ha.top j hj,hb'.top j hj,h.no]
 exact hb_out (by rw[zip_len];omega)
theorem wid_mem {D:PD}(h:Wf D){Q n:Nat}{R:List (List Int)}(hw:Wid D.p Q D.rs R n)(hn:D.rs.length=n)(hd:D.p∣Q)(hQ:1≤Q)(x:Int):mem D x=hb (R.getD (plc D.cs x) []) (x%Q).toNat:=by
 have hp:=h.place x
 have hm:=mod_lt' hQ x
 rw[hw.bt _ o_m _ hm]
 unfold mem
 congr 1
 have h1:=h.p1
 have a1:=Int.emod_nonneg x (show(Q:Int)≠0 by omega)
 have e:((x%(Q:Int)).toNat%D.p:Nat)=(x%(Q:Int)%(D.p:Int)).toNat:=by
  rw[Int.toNat_emod a1 o_m,Int.toNat_natCast]
 rw[e,Int.emod_emod_of_dvd x (by exact_mod_cast hd)]
theorem jn_join {A B:PD}(hA:Wf A)(hB:Wf B){op:Int→Int→Int}{ob:Bool→Bool→Bool}(hop:Tkf op ob){P:Nat}(hP1:1≤P)(hP2:P≤4096)(hdA:A.p∣P)(hdB:B.p∣P){RA RB':List (List Int)}(hwA:Wid A.p P A.rs RA A.rs.length)(hwB:Wid B.p P B.rs RB' B.rs.length){L:List SE}(hst:Str A.cs B.cs L A.cs.length B.cs.length):
  Wf (jn P L (fun k=>zipB op (RA.getD (se L k).i []) (RB'.getD (se L k).j []) (wn P)) L.length)∧∀x,mem (jn P L (fun k=>zipB op (RA.getD (se L k).i []) (RB'.getD (se L k).j []) (wn P)) L.length) x=ob (mem A x) (mem B x):=by
 have idx: ∀k,k<L.length→(se L k).i<A.rs.length∧(se L k).j<B.rs.length:=fun k hk=>by
  have:=hst.idx k hk
  have:=hA.len
  have:=hB.len
  omega
 refine jn_all hP1 hP2 hst.ne hst.up (fun k hk=>rok_zip hop (hwA.rok _ (idx k hk).1) (hwB.rok _ (idx k hk).2)) fun k x hk h1 h2=> ?_
 obtain⟨e1,e2⟩:=str_place hst hk h1 h2
 rw[wid_mem hA hwA rfl hdA hP1 x,wid_mem hB hwB rfl hdB hP1 x,e1,e2]
 exact(hop.bt _ _ (hwA.rok _ (idx k hk).1).ws (hwB.rok _ (idx k hk).2).ws _ _ (lt_wn (mod_lt' hP1 x))).symm
def Jx (op:Int→Int→Int)(A B D:PD):Prop:=∃L RA RB',Str A.cs B.cs L A.cs.length B.cs.length∧Wid A.p D.p A.rs RA A.rs.length∧Wid B.p D.p B.rs RB' B.rs.length∧D=jn D.p L (fun k=>zipB op (RA.getD (se L k).i []) (RB'.getD (se L k).j []) (wn D.p)) L.length
theorem jn_rok {L:List SE}{R:Nat→List Int}(h: ∀k,Rok p (R k))(k:Nat): ∀r∈(jn p L R k).rs,Rok p r:=by
 induction k with
 |zero=>exact fun r hr=>absurd hr List.not_mem_nil
 |succ k ih=>
  intro r hr
  have e:jn p L R (k+1)=layD (jn p L R k) (se L k).f (R k):=rfl
  rw[e]at hr
  unfold layD at hr
  split at hr
  ·rw[List.mem_singleton.1 hr];exact h k
  split at hr
  ·exact ih r hr
  rcases List.mem_append.1 hr with hr|hr
  ·exact ih r hr
  rw[List.mem_singleton.1 hr];exact h k
theorem jn_len {L:List SE}{R:Nat→List Int}(k:Nat):(jn p L R k).rs.length≤k∧(jn p L R k).cs.length≤k∧(jn p L R k).cs.length+1≤max 1 k∧((jn p L R k).rs= []→(jn p L R k).cs= []):=by
 induction k with
 |zero=>exact⟨Nat.le_refl _,Nat.le_refl _,Nat.le_refl _,fun _=>rfl⟩
 |succ k ih=>
  have e:jn p L R (k+1)=layD (jn p L R k) (se L k).f (R k):=rfl
  rw[e]
  unfold layD
  split
  ·rename_i h0
   have h1:=ih.2.2.2 h0
   rw[h1]
   exact⟨by simp,by simp,Nat.le_max_left _ _,fun h=>by simp at h⟩
  rename_i h0
  split
  ·exact⟨by omega,by omega,by have:=ih.2.2.1;omega,fun h=>absurd h h0⟩
  refine⟨by simp;omega,by simp;omega,?_,fun h=>by simp at h⟩
  have hk:1≤k:=by
   have:=List.length_pos_iff.2 h0
   omega
  simp
  omega
structure F2 (m tk base:Nat) (w w':World):Prop where
 size:w.heap.size≤w'.heap.size
 block: ∀k,k<base→k≠m→k≠tk→w'.heap[k]? =w.heap[k]?
theorem F2.refl (m tk base:Nat)(w:World):F2 m tk base w w:=⟨Nat.le_refl _,fun _ _ _ _=>rfl⟩
theorem F2.trans {w1 w2 w3:World}(h:F2 m tk base w1 w2)(k:F2 m tk base w2 w3):F2 m tk base w1 w3:=⟨Nat.le_trans h.size k.size,fun i h1 h2 h3=>(k.block i h1 h2 h3).trans (h.block i h1 h2 h3)⟩
theorem F2.of_fm (h:Fm m base w w'):F2 m tk base w w':=⟨h.size,fun i h1 h2 _=>h.block i h1 h2⟩
theorem F2.of_only (h:Only tk w w'):F2 m tk base w w':=⟨Nat.le_of_eq h.size.symm,fun i _ _ h3=>h.block i h3⟩
theorem F2.of_below {n:Nat}(h:Below n w w')(hn:base≤n):F2 m tk base w w':=⟨h.size,fun i h1 _ _=>h.block i o_m⟩
theorem Zf.f2 {z:ZV}{x:Int}(h:Zf w z x)(hf:F2 m tk w.heap.size w w'){e e2:TypeId}(h1:Own w m e)(h2:Own w tk e2)(n1:60≠e)(n2:60≠e2):Zf w' z x:=by
 obtain⟨⟨n,⟨⟨zs,hr,hc,hv⟩,-,hfr⟩,hs,hn⟩,hl⟩:=h
 have key: ∀b xs,Row w b xs→w'.heap[b]? =w.heap[b]?:=fun b xs hrow=>hf.block b hrow.lt (h1.ne hrow n1) (h2.ne hrow n2)
 have hf':Fresh.Fr 0 w' z.a z.c:=by
  rcases hfr with hfr|⟨b,xs,e,h0,hrow,h1⟩
  ·exact .inl hfr
  exact .inr ⟨b,xs,e,h0,(key b xs hrow).trans hrow,h1⟩
 refine⟨⟨n,⟨⟨zs,?_,hc,hv⟩,Nat.zero_le _,hf'⟩,hs,hn⟩,hl⟩
 obtain⟨q1,q2,q3,q4,q5⟩:=hr
 refine⟨q1,q2,q3,q4,?_⟩
 rcases q5 with q5|⟨a,ha,q5⟩
 ·exact .inl q5
 refine .inr ⟨a,ha,q5.imp id ?_⟩
 rintro⟨b,off,rfl,hb,hcell⟩
 have hbl:w'.heap[b]? =w.heap[b]?:=by
  rcases hfr with⟨e2,-⟩|⟨b',xs,e2,-,hrow,-⟩
  ·rw[e2]at ha;cases ha
  rw[e2]at ha
  cases ha
  exact key b xs hrow
 exact⟨b,off,rfl,Nat.lt_of_lt_of_le hb hf.size,fun i hi=>(World.cell?_of_block (a:=⟨b,off+i,none⟩) hbl).trans (hcell i hi)⟩
theorem ELs.f2 {ad:Option Addr}{n c:Nat}{L:List SE}(h:ELs w ad n c L)(hf:F2 m tk w.heap.size w w')(h1:Own w m 78)(h2:Own w tk 111):ELs w' ad n c L:=by
 obtain⟨b,e,ho,q,hq,hc⟩:=h.at'
 have hlt:=ho.lt
 have hbl:w'.heap[b]? =w.heap[b]?:=by
  obtain⟨cur,ho⟩:=ho
  exact hf.block b hlt (h1.ne ho (by decide)) (h2.ne ho (by decide))
 refine⟨h.len,b,e,?_,q,⟨hq.len,fun i hi=>⟨(hq.nu i hi).1.f2 hf h1 h2 (by decide) (by decide),(hq.nu i hi).2⟩⟩,fun i hi j hj=>(World.cell?_of_block (a:=⟨b,i*4+j,none⟩) hbl).trans (hc i hi j hj)⟩
 obtain⟨cur,ho⟩:=ho
 exact⟨cur,hbl.trans ho⟩
theorem Mk.only {D:PD}{xs:List Int}(h:Mk w m base D)(ho:Only tk w w')(ht:RB w tk xs)(hb:tk<base):Mk w' m base D:=by
 obtain⟨v,qz,qr,hm,hcn,hrn,hoz,hqz,hor,hqr,hqb⟩:=h.blk
 have ow:Own w tk 111:=⟨_,ht⟩
 have oo: ∀g,some tk=some g→Own w g 111:=fun g e=>by cases e;exact ow
 refine⟨h.len,v,qz,qr,hm.grown (grown_only ho) (own_oth oo (by decide)),hcn,hrn,own_grown hoz (grown_only ho) oo (by decide),hqz.grown (grown_only ho) (own_oth oo (by decide)),own_grown hor (grown_only ho) oo (by decide),⟨hqr.len,fun i h1 h2=>(hqr.row i h1 h2).only ho fun e=> ?_⟩,hqb⟩
 have:=hqb _ (List.getElem_mem h1)
 omega
theorem Mk.below {D:PD}(h:Mk w m base D)(k:Below w.heap.size w w'):Mk w' m base D:=by
 obtain⟨v,qz,qr,hm,hcn,hrn,hoz,hqz,hor,hqr,hqb⟩:=h.blk
 exact⟨h.len,v,qz,qr,hm.below k,hcn,hrn,own_below hoz k,hqz.below k,own_below hor k,hqr.below k,hqb⟩
theorem ps_mk {D:PD}(h:Mk w m base D)(hw:Wf D):PS w m D:=by
 obtain⟨v,qz,qr,hm,hcn,hrn,hoz,hqz,hor,hqr,hqb⟩:=h.blk
 obtain⟨a,c,e1,h1,-⟩:=cl_own hoz hqz
 obtain⟨a2,c2,e2,h2⟩:=rls_own hor hqr
 cases e1
 cases e2
 exact⟨hw,v,hm,h1,h2⟩
theorem mk_new (h:SB w m p ⟨none,0,0,none,0,0⟩):Mk w m base ⟨p,[],[]⟩:=
 ⟨⟨by simp,by simp⟩,_,[],[],h,rfl,rfl,World.ownsRow_nil _ _ _ _,prz_nil _,World.ownsRow_nil _ _ _ _,rws_nil _,fun g h=>absurd h List.not_mem_nil⟩
end Pd
namespace Pd

def jErr (n:Nat):Int:=if 4096<n then 180 else 0
theorem perOf {w:World}{z:ZV}{x:Nat}(h:Zm w z.s z.a z.l z.c (x:Int))(hl:z.l≤1099511627776):Calls Tryz.prog 83 #[.agg #[.bool z.s,.slice z.a z.l z.c]] w fun e w'=> ∃pr er:Int,e= .returned (.tuple #[.int .i64 pr,.int .i64 er])∧((4096<x∧pr=0∧er=180)∨(x≤4096∧pr=x∧er=0))∧Below w.heap.size w w':=by
 by_cases hx:4096<x
 ·exact(periodOf_no h hl o_m).mono fun _ _ ⟨h1,h2⟩=>⟨0,180,h1,.inl ⟨hx,rfl,rfl⟩,h2⟩
 exact(periodOf_yes h hl o_m o_m).mono fun _ _ ⟨h1,h2⟩=>⟨x,0,h1,.inr ⟨by omega,rfl,rfl⟩,h2⟩
theorem joined_n {w:World}{bA bB KF:Nat}{A B:PD}{op:Int→Int→Int}{ob:Bool→Bool→Bool}(hA:PS w bA A)(hB:PS w bB B)(hfA:A.cs.length≤536869999)(hfB:B.cs.length≤536869999)(hop:Tkf op ob)
  (hTk: ∀{w:World}{b ba bb n:Nat}{xs xa xb:List Int},RB w b xs→RB w ba xa→RB w bb xb→xs.length=n→xa.length=n→xb.length=n→n≤65→ba≠b→bb≠b→Calls Tryz.prog KF #[.slice (some ⟨b,0,none⟩) n n,.slice (some ⟨ba,0,none⟩) n n,.slice (some ⟨bb,0,none⟩) n n] w fun e w'=>e= .returned (.tuple #[])∧RB w' b (zipB op xa xb n)∧Only b w w')
  (hcf: ∀(a b c:Value) (u:World),(callFunc KF #[a,b,c]).run Tryz.prog u= .ok (.enter KF #[a,b,c]) u):
  Calls Tryz.prog 57 #[.pointer (some ⟨bA,0,none⟩),.pointer (some ⟨bB,0,none⟩),.func (.func KF) #[] #[]] w fun e w'=>Got w w' e (jErr (Nat.lcm A.p B.p)) (Nat.lcm A.p B.p) (fun x=>ob (mem A x) (mem B x)) (A.cs.length+B.cs.length) (Jx op A B):=by
 have hwA:=hide hA.wf
 have hwB:=hide hB.wf
 obtain⟨vA,sA,clA,rlA⟩:=hA.blk
 obtain⟨vB,sB,clB,rlB⟩:=hB.blk
 have hp1:=hwA.out.p1
 have hp2:=hwA.out.p2
 have hq1:=hwB.out.p1
 have hq2:=hwB.out.p2
 replace sA:=hide sA
 replace sB:=hide sB
 replace clA:=hide clA
 replace clB:=hide clB
 replace rlA:=hide rlA
 replace rlB:=hide rlB
 replace hcf:=hide hcf
 have hLd:Hid (1≤Nat.lcm A.p B.p∧A.p∣Nat.lcm A.p B.p∧B.p∣Nat.lcm A.p B.p):=hide ⟨Nat.lcm_pos o_m o_m,Nat.dvd_lcm_left _ _,Nat.dvd_lcm_right _ _⟩
 clear hA hB
 go_enter Tryz.func57,Tryz.ntmps57
 go_upto_region 3 with(fail)
 have hofA:=fun u:World=>hide (zof_n (A.p:Int) o_m o_m u)
 have hofB:=fun u:World=>hide (zof_n (B.p:Int) o_m o_m u)
 have hlc: ∀{u:World}{s:Bool}{a:Option Addr}{l c:Nat},Zm u s a l c (lcmI ((A.p:Int).natAbs:Int) ((B.p:Int).natAbs:Int))→Zm u s a l c ((Nat.lcm A.p B.p:Nat):Int):=fun h=>by rwa [lcm_nat]at h
 refine wp_region_held_drew (S:=(fun w'=>w'.cell? ⟨bA,0,none⟩=some (.int .i64 A.p)∧w'.cell? ⟨bB,0,none⟩=some (.int .i64 B.p))) k_f (⟨(sA.out.below (grow_drew (Below.refl _ _))).c0,(sB.out.below (grow_drew (Below.refl _ _))).c0⟩) (fun hHeld=> ?_)
 show wpAnyH _ _ _ _ _ 18 _ _ _
 have kW:=grow_drew (Below.refl w.heap.size w)
 generalize w.drew=wQ at*
 repeat' first
  |with_reducible exact AllReadyH.nil
  |(
   refine tkz 0 23 ?_
   (try simp only[pz]))
  |(
   refine tkz 1 24 ?_
   (try simp only[pz]))
  |(
   refine tkz 2 25 ?_
   (try simp only[pz]))
  |(
   refine tkz 3 26 ?_
   (try simp only[pz]))
  |(
   refine tkz 5 28 ?_
   (try simp only[pz]))
  |(
   refine tkz 6 29 ?_
   (try simp only[pz]))
  |(
   refine tkz 7 30 ?_
   (try simp only[pz]))
  |(
   refine tkz 8 31 ?_
   (try simp only[pz]))
  |(
   refine tkz 13 22 ?_
   (try simp only[pz]))
  |(
   refine tkz 14 36 ?_
   (try simp only[pz]))
  |(
   refine tkz 15 37 ?_
   (try simp only[pz]))
  |(refine wpAnyH_ready (rs:=[4]) ?_ ?_ ?_;decide+kernel;simp)
  |(refine wpAnyH_ready (rs:=[9]) ?_ ?_ ?_;decide+kernel;simp)
  |(refine wpAnyH_ready (rs:=[10]) ?_ ?_ ?_;decide+kernel;simp)
  |(refine wpAnyH_ready (rs:=[11]) ?_ ?_ ?_;decide+kernel;simp)
  |(refine wpAnyH_ready (rs:=[12]) ?_ ?_ ?_;decide+kernel;simp)
  |(refine wpAnyH_ready (rs:=[16]) ?_ ?_ ?_;decide+kernel;simp)
  |(refine wpAnyH_ready (rs:=[17]) ?_ ?_ ?_;decide+kernel;simp)
  |(
   first
    |(
     refine AllReadyH.cons (i:=4) (o:=⟨some 27,_,_,_,_,_⟩) rfl (fun K hK=> ?_) ?_
     go_simp
     go_at_call 62;refine Calls.mono (hofA _).out ?_;rintro e w1 ⟨s1,a1,l1,c1,rfl,hzA,k1,hl1⟩
     try have hzB:=hzB.below k1
     have kW:=grow_step k1 kW
     try go_wp2_with fail)
    |(
     refine AllReadyH.cons (i:=9) (o:=⟨some 32,_,_,_,_,_⟩) rfl (fun K hK=> ?_) ?_
     go_simp
     go_at_call 62;refine Calls.mono (hofB _).out ?_;rintro e w2 ⟨s2,a2,l2,c2,rfl,hzB,k2,hl2⟩
     try have hzA:=hzA.below k2
     have kW:=grow_step k2 kW
     try go_wp2_with fail)
    |(
     refine AllReadyH.cons (i:=10) (o:=⟨some 33,_,_,_,_,_⟩) rfl (fun K hK=> ?_) ?_
     go_simp
     have kW0:=kW
     have kW:=grow_alloc kW (.cells #[.bool s1,.slice a1 l1 c1,.bool s2,.slice a2 l2 c2] 38))
    |(
     refine AllReadyH.cons (i:=11) (o:=⟨some 34,_,_,_,_,_⟩) rfl (fun K hK=> ?_) ?_
     go_simp
     go_at_call 102;refine Calls.mono (zlcm2 hzA.zm hzB.zm o_m o_m) ?_;rintro e w3 ⟨s3,a3,l3,c3,rfl,hz3,k3,hl3⟩
     have kW:=grow_step k3 kW0
     try go_wp2_with fail)
    |(
     refine AllReadyH.cons (i:=12) (o:=⟨some 35,_,_,_,_,_⟩) rfl (fun K hK=> ?_) ?_
     go_simp
     go_at_call 83;refine Calls.mono (perOf (z:=⟨s3,a3,l3,c3⟩) (hlc hz3.zm) (by show l3≤1099511627776;omega)) ?_;rintro e w4 ⟨pr,er,rfl,hpe,k4⟩
     have kW:=grow_step k4 kW
     try go_wp2_with fail)
    |(
     refine AllReadyH.cons (i:=16) (o:=⟨some 8,_,_,_,_,_⟩) rfl (fun K hK=> ?_) ?_
     go_simp)
    |(
     refine AllReadyH.cons (i:=17) (o:=⟨some 9,_,_,_,_,_⟩) rfl (fun K hK=> ?_) ?_
     go_simp)
   refine hK.out _ _ ?_ ?_
   ·first|with_reducible exact trivial|((try dsimp only);exact⟨(sA.out.below kW).c0,(sB.out.below kW).c0⟩)
   clear hK K hHeld;intro hHeld
   (try simp only[pz]))
 all_goals
  refine wpAnyH_done ?_ ?_ _
  ·decide+kernel
  have kW1:=hide kW
  clear kW hHeld hofA hofB
  rcases hpe with⟨hbig,rfl,rfl⟩|⟨hsm,rfl,rfl⟩
  ·have hne:((180:Int) !=0)=true:=rfl
   have hfin:Hid (jErr (Nat.lcm A.p B.p)=180):=hide (if_pos hbig)
   clear hzA hzB hz3
   go_wp2
   refine bodyPost_ret (results_tmp2 rfl _ _ _) rfl ⟨kW1.out,.inl ⟨?_,?_⟩⟩
   ·first|decide|(rw[hfin.out];decide)
   first|rfl|(rw[hfin.out];rfl)
  have hne:((0:Int) !=0)=false:=rfl
  have herr:Hid (jErr (Nat.lcm A.p B.p)=0):=hide (if_neg o_m)
  have hPe:Hid (Nat.lcm A.p B.p=Nat.lcm A.p B.p):=hide rfl
  obtain⟨P,hP⟩: ∃P,Nat.lcm A.p B.p=P:=⟨_,rfl⟩
  obtain⟨hP1,hdA,hdB⟩:=hLd.out
  simp only[hP]at hP1 hdA hdB hsm ⊢
  replace hP:=hide hP
  replace hdA:=hide hdA
  replace hdB:=hide hdB
  have hw65:Hid (wn P≤65):=hide (by unfold wn;omega)
  have hrA:=hide (rowsBy_n hwA.out (sA.out.below kW1.out) (rlA.out.below kW1.out) o_m hsm)
  clear hzA hzB hz3 hLd hPe
  go_wp2_with fail
  refine hrA.out.mono ?_
  rintro e w5 ⟨raA,rcA,RA,rfl,rlA2,k5,wdA⟩
  have kW2:=hide (grow_step k5 kW1.out)
  have hrB:=hide (rowsBy_n hwB.out (sB.out.below kW2.out) (rlB.out.below kW2.out) o_m hsm)
  replace rlA2:=hide rlA2
  replace wdA:=hide wdA
  clear hrA k5
  go_wp2_with fail
  refine hrB.out.mono ?_
  rintro e w6 ⟨raB,rcB,RB',rfl,rlB2,k6,wdB⟩
  have kW3:=hide (grow_step k6 kW2.out)
  have rlA3:=hide (rlA2.out.below k6)
  replace rlB2:=hide rlB2
  replace wdB:=hide wdB
  clear hrB k6 rlA2 hne
  have b7:=below_alloc w6 (.cells #[.int .i64 P,.slice none 0 0,.slice none 0 0] 78)
  have m7:=sb_new w6 P ⟨none,0,0,none,0,0⟩
  have e7:(w6.alloc (.cells #[.int .i64 P,.slice none 0 0,.slice none 0 0] 78)).heap.size=w6.heap.size+1:=by simp
  have hnr:=hide (newRow_n hsm (w6.alloc (.cells #[.int .i64 P,.slice none 0 0,.slice none 0 0] 78)))
  go_wp2_with fail
  refine hnr.out.mono ?_
  rintro e w8 ⟨rfl,rfl⟩
  clear hnr
  generalize w6.alloc (.cells #[.int .i64 P,.slice none 0 0,.slice none 0 0] 78)=w7 at*
  have b8:=below_alloc w7 (.cells (Uw (List.replicate (wn P) 0)) 111)
  have g8:=rb_new w7 (List.replicate (wn P) 0)
  have m8:=m7.below b8
  have k8:=grow_step b8 b7
  have e8:(w7.alloc (.cells (Uw (List.replicate (wn P) 0)) 111)).heap.size=w6.heap.size+2:=by simp[e7]
  generalize w7.alloc (.cells (Uw (List.replicate (wn P) 0)) 111)=w8 at*
  obtain⟨mm,hmm⟩: ∃mm,w6.heap.size=mm:=⟨_,rfl⟩
  obtain⟨tk,htk⟩: ∃tk,w7.heap.size=tk:=⟨_,rfl⟩
  rw[htk]at g8
  rw[hmm]at m8
  have htm:Hid (tk=mm+1):=hide o_m
  have hs8:Hid (w8.heap.size=mm+2):=hide o_m
  have kW4:=hide (grow_step k8 kW3.out)
  have hmw:Hid (w6.heap.size=mm):=hide hmm
  simp only[hmm,htk]
  replace k8:=hide k8
  replace m8:=hide m8
  replace g8:=hide g8
  clear b7 m7 b8 e7 e8 hmm htk
  have hsv:=hide (And.intro ((clA.out.below kW4.out)) ((clB.out.below kW4.out)))
  have hlA:=hide clA.out.len
  have hlB:=hide clB.out.len
  go_upto_region 8 with(fail)
  refine wp_region_held_drew (S:=(fun w'=>w'.cell? ⟨bA,1,none⟩=some (.slice vA.ca vA.cn vA.cc)∧w'.cell? ⟨bB,1,none⟩=some (.slice vB.ca vB.cn vB.cc))) k_f (⟨((sA.out.below kW4.out).below (grow_drew (Below.refl _ _))).c1,((sB.out.below kW4.out).below (grow_drew (Below.refl _ _))).c1⟩) (fun hHeld=> ?_)
  show wpAnyH _ _ _ _ _ 11 _ _ _
  have kW:=grow_drew (Below.refl w8.heap.size w8)
  generalize w8.drew=wQ at*
  repeat' first
   |with_reducible exact AllReadyH.nil
   |(
    refine tkz 0 52 ?_
    (try simp only[pz]))
   |(
    refine tkz 1 53 ?_
    (try simp only[pz]))
   |(
    refine tkz 2 54 ?_
    (try simp only[pz]))
   |(
    refine tkz 3 55 ?_
    (try simp only[pz]))
   |(
    refine tkz 4 56 ?_
    (try simp only[pz]))
   |(
    refine tkz 5 57 ?_
    (try simp only[pz]))
   |(
    refine tkz 6 58 ?_
    (try simp only[pz]))
   |(
    refine tkz 7 59 ?_
    (try simp only[pz]))
   |(
    refine tkz 9 61 ?_
    (try simp only[pz]))
   |(
    refine tkz 10 62 ?_
    (try simp only[pz]))
   |(refine wpAnyH_ready (rs:=[8]) ?_ ?_ ?_;decide+kernel;simp)
   |(
    first
     |(
      refine AllReadyH.cons (i:=8) (o:=⟨some 60,_,_,_,_,_⟩) rfl (fun K hK=> ?_) ?_
      go_simp
      go_at_call 96;refine Calls.mono (stretches_n (hsv.out.1.below kW) (hsv.out.2.below kW) hwA.out.up hwB.out.up (by have:=hlA.out;omega) (by have:=hlB.out;omega)) ?_;rintro e wS ⟨la,nS,lc,L,rfl,hels,hst,hnS,kS,hfr⟩
      have kW:=grow_step kS kW
      try go_wp2_with fail)
    refine hK.out _ _ ?_ ?_
    ·first|with_reducible exact trivial|((try dsimp only);exact⟨((sA.out.below kW4.out).below kW).c1,((sB.out.below kW4.out).below kW).c1⟩)
    clear hK K hHeld;intro hHeld
    (try simp only[pz]))
  refine wpAnyH_done ?_ ?_ _
  ·decide+kernel
  have hnL:Hid (L.length=nS):=hide hels.len
  have hn0:1≤nS:=by rw[←hels.len];exact hst.ne
  have hnB:nS≤1073741000:=by have:=hlA.out;have:=hlB.out;omega
  have kR0:=k8.out.trans (kW.mono k8.out.size)
  rw[hmw.out]at kR0
  have mS:=m8.out.below kW
  have gS:=g8.out.below kW
  have kWS:=hide (grow_step kW kW4.out)
  have hbase:Hid (mm<wS.heap.size∧tk<wS.heap.size∧mm≠tk):=hide (by have:=mS.lt;have:=gS.lt;have:=htm.out;omega)
  have oM:Own wS mm 78:=⟨_,mS⟩
  have oT0:Own wS tk 111:=⟨_,gS⟩
  obtain⟨R,hRd⟩: ∃R:Nat→List Int,R=fun k=>zipB op (RA.getD (se L k).i []) (RB'.getD (se L k).j []) (wn P):=⟨_,rfl⟩
  have hj:=jn_join hwA.out hwB.out hop hP1 hsm hdA.out hdB.out (by rw[rlA.out.len];exact wdA.out) (by rw[rlB.out.len];exact wdB.out) hst
  rw[←hRd]at hj
  have hJx:Hid (Jx op A B (jn P L R L.length)):=hide ⟨L,RA,RB',hst,by rw[jn_p,rlA.out.len];exact wdA.out,by rw[jn_p,rlB.out.len];exact wdB.out,by rw[jn_p,←hRd]⟩
  have hidx:Hid (∀k,k<nS→(se L k).i<vA.rn∧(se L k).j<vB.rn):=hide fun k hk=>by
   have h1:=hst.idx k (by rw[hels.len];exact hk)
   have h2:=rlA.out.len
   have h3:=rlB.out.len
   have h4:=hwA.out.len
   have h5:=hwB.out.len
   omega
  have hRk:Hid (∀k,k<nS→R k=zipB op (RA.getD (se L k).i []) (RB'.getD (se L k).j []) (wn P)):=hide fun k _=>by rw[hRd]
  have hrall:Hid (∀k,∀r∈(jn P L R k).rs,Rok P r):=hide (by
   rw[hRd]
   refine fun k=>jn_rok (fun k=> ?_) k
   have hk:(se L k).i<vA.rn∧(se L k).j<vB.rn:=by
    by_cases hk:k<nS
    ·exact hidx.out k hk
    have h0:=hidx.out 0 o_m
    have e:se L k=⟨0,0,0⟩:=by
     unfold se
     rw[List.getD_eq_getElem?_getD,List.getElem?_eq_none (by rw[hels.len];omega)]
     rfl
    rw[e]
    exact⟨by show 0<vA.rn;omega,by show 0<vB.rn;omega⟩
   exact rok_zip hop (wdA.out.rok _ hk.1) (wdB.out.rok _ hk.2))
  replace hst:=hide hst
  replace hels:=hide hels
  replace hj:=hide hj
  replace mS:=hide mS
  replace gS:=hide gS
  replace kR0:=hide kR0
  replace oM:=hide oM
  replace oT0:=hide oT0
  replace hfr:=hide hfr
  clear kW hHeld hRd hsv k8 m8 g8 kW4
  go_wp2_with fail
  go_loopw [62] (fun vi wr=> ∃(k:Nat) (xs:List Int),k≤nS∧vi= .int .i64 k∧Mk wr mm wS.heap.size (jn P L R k)∧RB wr tk xs∧xs.length=wn P∧F2 mm tk wS.heap.size wS wr∧Below mm w6 wr) (fun vi _=>nS-(intOf vi).toNat)
  case atStart=>exact⟨0,_,Nat.zero_le _,rfl,mk_new mS.out,gS.out,List.length_replicate,F2.refl _ _ _ _,kR0.out⟩
  case round=>
   obtain⟨k,xs,hk,rfl,hmk,hxs,hxl,hf2,kr⟩:=hrel
   replace hxl:=hide hxl
   by_cases hkn:k<nS
   ·obtain⟨gb,z,hla,hgb,c0,c1,c2,c3,hz⟩:=(hels.out.f2 hf2 oM.out oT0.out).get hkn
    obtain⟨hi1,hi2⟩:=hidx.out k hkn
    have hRkk:=hide (hRk.out k hkn)
    obtain⟨f,hfe⟩: ∃f,f=(se L k).f:=⟨_,rfl⟩
    rw[←hfe]at hz
    have hjs:Hid (layD (jn P L R k) f (R k)=jn P L R (k+1)):=hide (by rw[hfe];rfl)
    generalize (se L k).i=iA at*
    generalize (se L k).j=iB at*
    obtain⟨r1,o1,g1,ha1,hr1,d1,hg1⟩:=rlA3.out.get hi1
    obtain⟨r2,o2,g2,ha2,hr2,d2,hg2⟩:=rlB2.out.get hi2
    rw[hmw.out]at hr1 hr2
    have hg1l:=hg1.lt
    have hg2l:=hg2.lt
    rw[hmw.out]at hg1l hg2l
    have hbA:mm<tk:=by have:=htm.out;omega
    have hbs:=hbase.out
    have d1':=(Below.cell (p:=⟨r1,o1+iA,none⟩) kr hr1).trans d1
    have d2':=(Below.cell (p:=⟨r2,o2+iB,none⟩) kr hr2).trans d2
    have hg1':RB wr g1 (RA.getD iA []):=(kr.block g1 hg1l).trans hg1
    have hg2':RB wr g2 (RB'.getD iB []):=(kr.block g2 hg2l).trans hg2
    have hl1:=hide (wdA.out.rok iA hi1)
    have hl2:=hide (wdB.out.rok iB hi2)
    have hwr:wS.heap.size≤wr.heap.size:=hf2.size
    have ba:=below_alloc wr (.cells #[.bool z.s,.slice z.a z.l z.c,.int .i64 iA,.int .i64 iB] 126)
    have ye:EB (wr.alloc (.cells #[.bool z.s,.slice z.a z.l z.c,.int .i64 iA,.int .i64 iB] 126)) wr.heap.size ⟨z,iA,iB⟩:=heap_alloc_new wr _
    have hmk1:=hide (hmk.below ba)
    have hx1:=hide (hxs.below ba)
    have f2a:=hide (hf2.trans (F2.of_below (m:=mm) (tk:=tk) ba hwr))
    have kra:=hide (kr.trans (ba.mono o_m))
    have hz1:=hide (hz.below ba)
    have d1a:=(Below.cell (p:=⟨r1,o1+iA,none⟩) ba (show r1<_ by omega)).trans d1'
    have d2a:=(Below.cell (p:=⟨r2,o2+iB,none⟩) ba (show r2<_ by omega)).trans d2'
    have hg1a:=hide (hg1'.below ba)
    have hg2a:=hide (hg2'.below ba)
    have hbt1:Hid (wr.heap.size≠tk∧wr.heap.size≠mm):=hide o_m
    rw[hla,ha1,ha2]
    replace hla:=hide hla
    replace ha1:=hide ha1
    replace ha2:=hide ha2
    replace hfe:=hide hfe
    have hn1:r1≠tk:=by omega
    have hn2:r2≠tk:=by omega
    have hn3:g1≠tk:=by omega
    have hn4:g2≠tk:=by omega
    have hwz:wS.heap.size≤(wr.alloc (.cells #[.bool z.s,.slice z.a z.l z.c,.int .i64 iA,.int .i64 iB] 126)).heap.size:=Nat.le_trans hwr ba.size
    clear hmk hxs hf2 kr hz d1 d2 d1' d2' hg1 hg2 hg1' hg2' hgb hwr
    go_upto_region 11 with(fail)
    clear c0 c1 c2 c3
    generalize wr.alloc (.cells #[.bool z.s,.slice z.a z.l z.c,.int .i64 iA,.int .i64 iB] 126)=wa at*
    generalize wr.heap.size=bt at*
    have hcf1:=hcf.out
    replace ba:=hide ba
    refine wp_region_held_drew (S:=(fun w'=>w'.cell? ⟨bt,2,none⟩=some (.int .i64 iA)∧w'.cell? ⟨bt,3,none⟩=some (.int .i64 iB)∧w'.cell? ⟨r1,o1+iA,none⟩=some (.slice (some ⟨g1,0,none⟩) (wn P) (wn P))∧w'.cell? ⟨r2,o2+iB,none⟩=some (.slice (some ⟨g2,0,none⟩) (wn P) (wn P)))) k_f (⟨(ye.below (grow_drew (Below.refl _ _))).c2,(ye.below (grow_drew (Below.refl _ _))).c3,(Below.cell (grow_drew (Below.refl _ _)) (show r1<_ by omega)).trans d1a,(Below.cell (grow_drew (Below.refl _ _)) (show r2<_ by omega)).trans d2a⟩) (fun hHeld=> ?_)
    show wpAnyH _ _ _ _ _ 13 _ _ _
    have kX:=grow_drew (Below.refl wa.heap.size wa)
    have ye:=ye.below kX
    have d1a:=(Below.cell (p:=⟨r1,o1+iA,none⟩) kX (show r1<_ by omega)).trans d1a
    have d2a:=(Below.cell (p:=⟨r2,o2+iB,none⟩) kX (show r2<_ by omega)).trans d2a
    have xW:=hx1.out.below kX
    have g1W:=hg1a.out.below kX
    have g2W:=hg2a.out.below kX
    have mW:=hmk1.out.below kX
    have zW:=hz1.out.below kX
    have f2W:=f2a.out.trans (F2.of_below (m:=mm) (tk:=tk) kX hwz)
    have krW:=kra.out.trans (kX.mono o_m)
    have hwz:wS.heap.size≤wa.drew.heap.size:=hwz
    generalize wa.drew=wQ at*
    repeat' first
     |with_reducible exact AllReadyH.nil
     |(
      refine tkz 0 66 ?_
      (try simp only[pz]))
     |(
      refine tkz 1 67 ?_
      (try simp only[pz]))
     |(
      refine tkz 2 68 ?_
      (try simp only[pz]))
     |(
      refine tkz 3 69 ?_
      (try simp only[pz]))
     |(
      refine tkz 4 70 ?_
      (try simp only[pz]))
     |(
      refine tkz 5 71 ?_
      (try simp only[pz]))
     |(
      refine tkz 6 72 ?_
      (try simp only[pz]))
     |(
      refine tkz 7 73 ?_
      (try simp only[pz]))
     |(
      refine tkz 8 74 ?_
      (try simp only[pz]))
     |(
      refine tkz 9 75 ?_
      (try simp only[pz]))
     |(
      refine tkz 10 76 ?_
      (try simp only[pz]))
     |(
      refine tkz 11 77 ?_
      (try simp only[pz]))
     |(refine wpAnyH_ready (rs:=[12]) ?_ ?_ ?_;decide+kernel;simp)
     |(
      first
       |(
        refine AllReadyH.cons (i:=12) (o:=⟨some 78,_,_,_,_,_⟩) rfl (fun K hK=> ?_) ?_
        go_simp
        refine Calls.mono (hTk xW g1W g2W hxl.out hl1.out.len hl2.out.len hw65.out hn3 hn4) ?_
        rintro e wT ⟨rfl,xT,oT⟩
        have ye:EB wT bt ⟨z,iA,iB⟩:=(oT.block bt hbt1.out.1).trans ye
        have d1a:=(World.cell?_of_block (a:=⟨r1,o1+iA,none⟩) (oT.block r1 hn1)).trans d1a
        have d2a:=(World.cell?_of_block (a:=⟨r2,o2+iB,none⟩) (oT.block r2 hn2)).trans d2a
        try go_wp2_with fail)
      refine hK.out _ _ ?_ ?_
      ·first|with_reducible exact trivial|((try dsimp only);exact⟨EB.c2 ye,EB.c3 ye,d1a,d2a⟩)
      clear hK K hHeld;intro hHeld
      (try simp only[pz]))
    refine wpAnyH_done ?_ ?_ _
    ·decide+kernel
    have mT:=mW.only oT xW hbs.2.1
    have zT:=zW.only oT (e:=111) ⟨_,xW⟩ (by decide)
    have f2T:=f2W.trans (F2.of_only (m:=mm) (base:=wS.heap.size) oT)
    have krT:=krW.trans (oT.below (show mm≤tk by omega))
    rw[←hRkk.out]at xT
    have hsT:wS.heap.size≤wT.heap.size:=by rw[oT.size];exact hwz
    have hRok:Rok P (R k):=by rw[hRkk.out];exact rok_zip hop hl1.out hl2.out
    have hln:=jn_len (p:=P) (L:=L) (R:=R) k
    have hlay:=hide (lay_n (D:=jn P L R k) (f:=f) mT hbs.1 hsT xT (by rw[jn_p];exact hRok) (by rw[jn_p];exact hrall.out k) zT (by rw[jn_p];exact hsm) ⟨by omega,by omega⟩ hln.2.2.2)
    rw[jn_p]at hlay
    have y0:=EB.c0 ye
    have y1:=EB.c1 ye
    replace xT:=hide xT
    replace f2T:=hide f2T
    replace krT:=hide krT
    clear mW zW f2W krW xW g1W g2W hHeld d1a d2a ye oT mT zT hln hRok hcf1
    go_wp2_with fail
    refine hlay.out.mono ?_
    rintro e wY ⟨rfl,mY,fY⟩
    clear hlay y0 y1
    rw[hjs.out]at mY
    have xY:RB wY tk (R k):=(fY.block tk hbs.2.1 o_m).trans xT.out
    have f2Y:=f2T.out.trans (F2.of_fm fY)
    have krY:Below mm w6 wY:=krT.out.trans ⟨fY.os,fY.tape,fY.output,fY.size,fun b hb=>fY.block b o_m o_m⟩
    have hRlen:(R k).length=wn P:=by rw[hRkk.out];exact zip_len _ _ _ _
    replace mY:=hide mY
    replace fY:=hide fY
    go_wp2
    go_roundw
    case measure=>simp[intOf];omega
    case rel=>exact⟨k+1,R k,by omega,by go_num,mY.out,xY,hRlen,f2Y,krY⟩
   obtain rfl:k=nS:=by omega
   have hps:Hid (PS wr mm (jn P L R k)):=hide (ps_mk hmk (by rw[←hnL.out];exact hj.out.1))
   have hpp:=hide (jn_p P L R k)
   have hln:=hide (jn_len (p:=P) (L:=L) (R:=R) k)
   have hmem:Hid (∀x,mem (jn P L R k) x=ob (mem A x) (mem B x)):=hide (by rw[←hnL.out];exact hj.out.2)
   have kfin:Hid (Below w.heap.size w wr):=hide (by
    have h6:w.heap.size≤mm:=by rw[←hmw.out];exact kW3.out.size
    exact kW3.out.trans (kr.mono h6))
   clear hmk hxs hf2 kr
   go_wp2
   refine bodyPost_ret (results_tmp2 rfl _ _ _) rfl ⟨kfin.out,.inr ⟨herr.out,mm,jn P L R k,rfl,hps.out,by rw[hpp.out,hP.out],?_,hmem.out,by rw[←hnL.out];exact hJx.out⟩⟩
   have:=hln.out.2.2.1
   have:=hlA.out
   have:=hlB.out
   omega
end Pd
namespace Pd

theorem callf_both (a b c:Value)(u:World):(callFunc 58 #[a,b,c]).run Tryz.prog u= .ok (.enter 58 #[a,b,c]) u:=by kernel_rfl
theorem callf_either (a b c:Value)(u:World):(callFunc 59 #[a,b,c]).run Tryz.prog u= .ok (.enter 59 #[a,b,c]) u:=by kernel_rfl
theorem meet_n {w:World}{bA bB:Nat}{A B:PD}(hA:PS w bA A)(hB:PS w bB B)(hfA:A.cs.length≤536869999)(hfB:B.cs.length≤536869999):
  Calls Tryz.prog 13 #[.pointer (some ⟨bA,0,none⟩),.pointer (some ⟨bB,0,none⟩)] w fun e w'=>Got w w' e (jErr (Nat.lcm A.p B.p)) (Nat.lcm A.p B.p) (fun x=>mem A x&&mem B x) (A.cs.length+B.cs.length) (Jx (bits .and .u64) A B):=by
 have hj:=hide (joined_n hA hB hfA hfB tkf_and (fun h ha hb hn hna hnb hn2 n1 n2=>both_n h ha hb hn hna hnb hn2 n1 n2) callf_both)
 go_enter Tryz.func13,Tryz.ntmps13
 go_wp2_with fail
 refine hj.out.mono ?_
 rintro e w1 ⟨k1,⟨he,rfl⟩|⟨he,b,D,rfl,h1,h2,h3,h4⟩⟩
 ·replace he:=hide he
  clear hj
  go_wp2
  exact bodyPost_ret (results_tmp2 rfl _ _ _) rfl ⟨k1,.inl ⟨he.out,rfl⟩⟩
 replace he:=hide he
 replace h4:=hide h4
 replace h2:=hide h2
 clear hj
 go_wp2
 exact bodyPost_ret (results_tmp2 rfl _ _ _) rfl ⟨k1,.inr ⟨he.out,b,D,rfl,h1,h2.out,h3,h4.out⟩⟩
theorem join_n {w:World}{bA bB:Nat}{A B:PD}(hA:PS w bA A)(hB:PS w bB B)(hfA:A.cs.length≤536869999)(hfB:B.cs.length≤536869999):
  Calls Tryz.prog 14 #[.pointer (some ⟨bA,0,none⟩),.pointer (some ⟨bB,0,none⟩)] w fun e w'=>Got w w' e (jErr (Nat.lcm A.p B.p)) (Nat.lcm A.p B.p) (fun x=>mem A x||mem B x) (A.cs.length+B.cs.length) (Jx (bits .or .u64) A B):=by
 have hj:=hide (joined_n hA hB hfA hfB tkf_or (fun h ha hb hn hna hnb hn2 n1 n2=>either_n h ha hb hn hna hnb hn2 n1 n2) callf_either)
 go_enter Tryz.func14,Tryz.ntmps14
 go_wp2_with fail
 refine hj.out.mono ?_
 rintro e w1 ⟨k1,⟨he,rfl⟩|⟨he,b,D,rfl,h1,h2,h3,h4⟩⟩
 ·replace he:=hide he
  clear hj
  go_wp2
  exact bodyPost_ret (results_tmp2 rfl _ _ _) rfl ⟨k1,.inl ⟨he.out,rfl⟩⟩
 replace he:=hide he
 replace h4:=hide h4
 replace h2:=hide h2
 clear hj
 go_wp2
 exact bodyPost_ret (results_tmp2 rfl _ _ _) rfl ⟨k1,.inr ⟨he.out,b,D,rfl,h1,h2.out,h3,h4.out⟩⟩
end Pd
namespace Pd

end Pd
namespace Pd
theorem zn_grown {w w':World}{s:Bool}{a:Option Addr}{l c:Nat}{x:Int}{o:Option Nat}(h:Fresh.Zn 0 w s a l c x)(hg:w.grownBy w' o)(ho: ∀g,o=some g→∃e,Own w g e∧60≠e):Fresh.Zn 0 w' s a l c x:=by
 obtain⟨n,⟨⟨zs,hr,hc,hv⟩,-,hf⟩,hs,hn⟩:=h
 have hf':Fresh.Fr 0 w' a c:=by
  rcases hf with hf|⟨b,xs,e,h0,hrow,h1⟩
  ·exact .inl hf
  exact .inr ⟨b,xs,e,h0,(hg.block b hrow.lt fun e=>by
   obtain⟨t,h3,h4⟩:=ho b e.symm
   exact h3.ne hrow h4 rfl).trans hrow,h1⟩
 refine⟨n,⟨⟨zs,?_,hc,hv⟩,Nat.zero_le _,hf'⟩,hs,hn⟩
 obtain⟨h1,h2,h3,h4,h5⟩:=hr
 refine⟨h1,h2,h3,h4,?_⟩
 rcases h5 with h5|⟨a0,ha,h5⟩
 ·exact .inl h5
 refine .inr ⟨a0,ha,h5.imp id ?_⟩
 rintro⟨b,off,rfl,hb,hcell⟩
 have hne:some b≠o:=fun e=>by
  rcases hf with⟨e2,-⟩|⟨b',xs,e2,-,hrow,-⟩
  ·rw[e2]at ha;cases ha
  rw[e2]at ha
  cases ha
  obtain⟨t,h3,h4⟩:=ho b e.symm
  exact h3.ne hrow h4 rfl
 exact⟨b,off,rfl,Nat.lt_of_lt_of_le hb hg.size,fun i hi=>(World.cell?_of_block (a:=⟨b,off+i,none⟩) (hg.block b hb hne)).trans (hcell i hi)⟩
end Pd
namespace Pd

def Iw (v:Int):Prop:=-9223372036854775808≤v∧v≤9223372036854775807
structure MkD where
 k:Int
 a:Int
 b:Int
 x:Int
 d:Int
structure MKc (w:World) (b off:Nat) (m:MkD) (zk zd:ZV):Prop where
 c0:w.cell? ⟨b,off,none⟩=some (.int .i64 m.k)
 c1:w.cell? ⟨b,off+1,none⟩=some (.int .i64 m.a)
 c2:w.cell? ⟨b,off+2,none⟩=some (.int .i64 m.b)
 c3:w.cell? ⟨b,off+3,none⟩=some (.bool zk.s)
 c4:w.cell? ⟨b,off+4,none⟩=some (.slice zk.a zk.l zk.c)
 c5:w.cell? ⟨b,off+5,none⟩=some (.bool zd.s)
 c6:w.cell? ⟨b,off+6,none⟩=some (.slice zd.a zd.l zd.c)
 nk:Zm w zk.s zk.a zk.l zk.c m.x
 kl:zk.l≤1048576
 nd:Zm w zd.s zd.a zd.l zd.c m.d
 dl:zd.l≤1048576
 ik:Iw m.k
 ia:Iw m.a
 ib:Iw m.b
def MLs (w:World)(ad:Option Addr)(n:Nat)(R:List MkD):Prop:=
 R.length=n∧(n=0∨ ∃b off,ad=some ⟨b,off,none⟩∧b<w.heap.size∧∀i (h:i<R.length),∃zk zd,MKc w b (off+i*7) R[i] zk zd)
theorem MKc.below {w w':World}{b off:Nat}{m:MkD}{zk zd:ZV}(h:MKc w b off m zk zd)(hb:b<w.heap.size)(k:Below w.heap.size w w'):MKc w' b off m zk zd:=
 ⟨(k.cell (p:=⟨b,_,none⟩) hb).trans h.c0,(k.cell (p:=⟨b,_,none⟩) hb).trans h.c1,(k.cell (p:=⟨b,_,none⟩) hb).trans h.c2,(k.cell (p:=⟨b,_,none⟩) hb).trans h.c3,(k.cell (p:=⟨b,_,none⟩) hb).trans h.c4,(k.cell (p:=⟨b,_,none⟩) hb).trans h.c5,(k.cell (p:=⟨b,_,none⟩) hb).trans h.c6,h.nk.below k,h.kl,h.nd.below k,h.dl,h.ik,h.ia,h.ib⟩
theorem MLs.below {w w':World}{ad:Option Addr}{n:Nat}{R:List MkD}(h:MLs w ad n R)(k:Below w.heap.size w w'):MLs w' ad n R:=by
 refine⟨h.1,h.2.imp id ?_⟩
 rintro⟨b,off,e,hb,hc⟩
 refine⟨b,off,e,Nat.lt_of_lt_of_le hb k.size,fun i hi=> ?_⟩
 obtain⟨zk,zd,h1⟩:=hc i hi
 exact⟨zk,zd,h1.below hb k⟩
end Pd
namespace Pd

end Pd
namespace Pd

end Pd
end Go.Proofs.YtaafoppaepcaeaaGreat
