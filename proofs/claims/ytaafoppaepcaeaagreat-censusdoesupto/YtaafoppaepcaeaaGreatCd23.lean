/-
 Several texts in one: Pe7,Pe8,Pe9,Pf0,Pf4,Cr4,Cr5,Cr6,Pg0,Pg1,Pg2,Pg3,Pg4.
-/
import Derived.Test.YtaafoppaepcaeaaGreatCdT
import Derived.Test.YtaafoppaepcaeaaGreatCd22
import Derived.Laws.OwnMore
import Derived.Deep.DeepCutAuto
import Derived.Sort.CutIn
import Derived.Test.YtaafoppaepcaeaaGreatCd17
import Derived.Test.YtaafoppaepcaeaaGreatCd09
import Derived.Test.YtaafoppaepcaeaaGreatCd18
import Derived.Test.YtaafoppaepcaeaaGreatCd15
import Derived.Test.YtaafoppaepcaeaaGreatCd16
set_option maxRecDepth 100000
set_option maxHeartbeats 12800000
namespace Go.Proofs.YtaafoppaepcaeaaGreat
open Go.RowKit Go.Sort
namespace Pd

variable {F base n:Nat}{w w':World}{x:Int}{xs:List Int}{v:Value}
structure ZgF (F:Nat) (w:World) (z:ZV) (x:Int):Prop where
 zn:Fresh.Zn F w z.s z.a z.l z.c x
 le:z.l≤8589934592
theorem ZgF.zg {z:ZV}(h:ZgF F w z x):Zg w z x:=by
 obtain⟨n,⟨h1,-,h2⟩,h3⟩:=h.zn
 exact⟨⟨n,⟨h1,Nat.zero_le _,h2.mono (Nat.zero_le _)⟩,h3⟩,h.le⟩
theorem ZgF.blk {z:ZV}(h:ZgF F w z x)(hs:w.heap.size≤w'.heap.size)(hb: ∀g,Own w g 60→w'.heap[g]? =w.heap[g]?):ZgF F w' z x:=by
 have h0:=h.zg.zn
 obtain⟨n,⟨h1,h2,hf⟩,h3⟩:=h.zn
 obtain⟨n',⟨h1',-,-⟩,e3,-⟩:=zn_blk h0 hs hb
 have hf':Fresh.Fr F w' z.a z.c:=by
  rcases hf with hf|⟨b,xs,e,h0,hrow,h1⟩
  ·exact .inl hf
  exact .inr ⟨b,xs,e,h0,(hb b ⟨_,hrow⟩).trans hrow,h1⟩
 have e:n=n':=by
  have a1:=h1.nm.nonneg
  have a2:=h1'.nm.nonneg
  have a3:=h3.1
  rw[e3]at a3
  cases z.s <;> simp[sg]at a3 <;> omega
 exact⟨⟨n,⟨by rw[e];exact h1',Nat.le_trans h2 hs,hf'⟩,h3⟩,h.le⟩
structure PrF (F:Nat) (w:World) (q:List ZV) (xs:List Int):Prop where
 len:q.length=xs.length
 nu: ∀i (h:i<q.length) (h':i<xs.length),ZgF F w q[i] xs[i]
theorem PrF.prg {q:List ZV}(h:PrF F w q xs):Prg w q xs:=⟨h.len,fun i h1 h2=>(h.nu i h1 h2).zg⟩
theorem PrF.blk {q:List ZV}(h:PrF F w q xs)(hs:w.heap.size≤w'.heap.size)(hb: ∀g,Own w g 60→w'.heap[g]? =w.heap[g]?):PrF F w' q xs:=⟨h.len,fun i h1 h2=>(h.nu i h1 h2).blk hs hb⟩
theorem PrF.below {q:List ZV}(h:PrF F w q xs)(k:Below w.heap.size w w'):PrF F w' q xs:=h.blk k.size fun g hg=>k.block g hg.lt
theorem prf_nil (F:Nat)(w:World):PrF F w [] []:=⟨rfl,fun i h=>by simp at h⟩
theorem PrF.app {q r:List ZV}{ys:List Int}(h:PrF F w q xs)(h2:PrF F w r ys):PrF F w (q++r) (xs++ys):=by
 have hl:=h.len
 have hl2:=h2.len
 refine⟨by simp[hl,hl2],fun i h1 h3=> ?_⟩
 by_cases hi:i<q.length
 ·rw[List.getElem_append_left hi,List.getElem_append_left o_m]
  exact h.nu i hi o_m
 rw[List.getElem_append_right o_m,List.getElem_append_right o_m]
 have:=h2.nu (i-q.length) (by simp at h1;omega) (by simp at h1;omega)
 simpa [hl] using this
theorem prf_one {z:ZV}(h:ZgF F w z x):PrF F w [z] [x]:=⟨rfl,fun i h1 h2=>by
 obtain rfl:i=0:=by simp at h1;omega
 exact h⟩
def Src (F:Nat)(w:World)(a:Option Addr)(n c:Nat)(q:List ZV)(xs:List Int):Prop:=
 q.length=n∧PrF F w q xs∧((a=none∧n=0∧c=0)∨ ∃b,a=some ⟨b,0,none⟩∧b<w.heap.size∧∀j u,(encL ZV.enc q)[j]? =some u→w.cell? ⟨b,j,none⟩=some u)
theorem src_own {q:List ZV}(h:w.ownsRow base 38 2 v n (encL ZV.enc q))(hq:PrF F w q xs): ∃a c,v= .slice a n c∧Src F w a n c q xs:=by
 have h1:=h.1
 rw[encL_length zv_len]at h1
 have hn:q.length=n:=Nat.eq_of_mul_eq_mul_right (by decide) h1
 rcases h.2 with⟨rfl,rfl⟩|⟨g,cap,cur,rfl,hb,hg,hc,hm,hs,ht⟩
 ·exact⟨none,0,rfl,hn,hq,.inl ⟨rfl,rfl,rfl⟩⟩
 refine⟨_,cap,rfl,hn,hq,.inr ⟨g,rfl,(Array.getElem?_eq_some_iff.1 hg).1,fun j u hu=> ?_⟩⟩
 have hj:j<n*2:=by
  have:=(List.getElem?_eq_some_iff.1 hu).1
  rw[encL_length zv_len,hn]at this
  exact this
 rw[cell_of_row w g j _ _ (0,0) hg,←hu,←ht,List.getElem?_take,if_pos hj,Array.getElem?_toList]
theorem runN {m:Nat}{q r:List ZV}{a:Option Addr}{c:Nat}(h:w.ownsRow base 38 2 v n (encL ZV.enc q))(hs:Src F w a m c r xs)(h63:n+m≤1073741824)(hbase:base≤w.heap.size)(ty:TypeId):
  ∃v' w',(Builtin.append_ #[23,23] ty #[v,.slice a m c]).run Tryz.prog w= .ok v' w'∧w'.ownsRow base 38 2 v' (n+m) (encL ZV.enc (q++r))∧w.grownBy w' v.ownBlock∧(v'.ownBlock=v.ownBlock∨v'.ownBlock=some w.heap.size):=by
 obtain⟨i0,hi,hz0,hz1,hz2⟩:=info_parts infoI
 obtain⟨hrl,-,⟨rfl,rfl,rfl⟩|⟨b,rfl,hb,hc⟩⟩:=hs
 ·obtain rfl:=List.length_eq_zero_iff.1 hrl
  exact⟨v,w,run_append_owned_none (P:=Tryz.prog) (w:=w) base 23 ty 38 i0 2 Tryz.underlying23 hi v n _ h,by simpa using h,⟨rfl,rfl,rfl,Nat.le_refl _,fun _ _ _=>rfl⟩,.inl rfl⟩
 have hmul:(n+m)*32≤1073741824*32:=Nat.mul_le_mul h63 (Nat.le_refl _)
 obtain⟨v',w',h1,h2,h3,-,h5⟩:=run_append_own_at (P:=Tryz.prog) w base 23 ty 38 i0 _ 2 32 Tryz.underlying23 hi hz0 hz1 hz2 rfl (by decide) v n (encL ZV.enc q) h ⟨b,0,none⟩ m c (encL ZV.enc r) (by rw[encL_length zv_len,hrl])
  (fun j u hu=>by rw[Addr.add_lit,Nat.zero_add];exact hc j u hu) (fun u hu=>by
   obtain⟨z,-,hz⟩:=List.mem_flatMap.1 hu
   exact zv_one z u hz) (by unfold maxLen;omega) o_m hbase
 exact⟨v',w',h1,by rw[encL_append];exact h2,h3,h5⟩
theorem zb_own {b:Nat}{e:TypeId}{sz:Nat}{xs:List Value}{s:Bool}{a:Option Addr}{l c:Nat}(hg:w.grownBy w' v.ownBlock)(ho:w.ownsRow base e sz v n xs)(y:ZB w b s a l c)(hb:b<base):ZB w' b s a l c:=
 (hg.block b y.lt fun e=>by have:=(own_blk ho _ e.symm).1;omega).trans y
theorem from_n {pa:Option Addr}{pc:Nat}{P:List Nat}{z:ZV}(hF:F≤w.heap.size)(hP:NLs w pa n P)(hn:n≤4096)(hp: ∀k∈P,k<4096)(hz:Zm w z.s z.a z.l z.c x)(hl:z.l≤8589934591):
  Calls Tryz.prog 119 #[.agg #[.bool z.s,.slice z.a z.l z.c],.slice pa n pc] w fun e w'=> ∃a c q,e= .returned (.slice a n c)∧Src F w' a n c q (shf x P)∧Below w.heap.size w w':=by
 have b0:=below_alloc w (.cells #[.bool z.s,.slice z.a z.l z.c] 38)
 have y0:=zb_new w z.s z.a z.l z.c
 have hP0:=hide (hP.below b0)
 have hz0:=hide (hz.below b0)
 have hsz:(w.alloc (.cells #[.bool z.s,.slice z.a z.l z.c] 38)).heap.size=w.heap.size+1:=by simp
 replace b0:=hide b0
 replace y0:=hide y0
 have hPl:Hid (P.length=n):=hide hP.1
 clear hP hz
 go_enter Tryz.func119,Tryz.ntmps119
 go_upto_region 1 with(fail)
 generalize w.alloc (.cells #[.bool z.s,.slice z.a z.l z.c] 38)=w0 at*
 obtain⟨bx,hbx⟩: ∃bx,w.heap.size=bx:=⟨_,rfl⟩
 rw[hbx]at y0 hsz ⊢
 have hbw:Hid (w.heap.size=bx):=hide hbx
 clear hbx
 go_wp2_with fail
 go_loopw [5,10] (fun vl vi wr=> ∃(i:Nat) (la:Option Addr) (lc:Nat) (q:List ZV),i≤n∧vi= .int .i64 i∧vl= .slice la i lc∧Hid (wr.ownsRow (bx+1) 38 2 (.slice la i lc) i (encL ZV.enc q))∧Hid (PrF F wr q (shf x (P.take i)))∧Hid (ZB wr bx z.s z.a z.l z.c)∧Hid (Below w.heap.size w wr)∧Hid (Below w0.heap.size w0 wr)) (fun _ vi _=>n-(intOf vi).toNat)
 case atStart=>exact⟨0,none,0,[],Nat.zero_le _,rfl,rfl,hide (World.ownsRow_nil _ _ _ _),hide (by simpa [shf] using prf_nil F _),y0,b0,hide (Below.refl _ _)⟩
 case round=>
  clear y0
  obtain⟨i,la,lc,q,hi,rfl,rfl,ho,hq,yx,kr,k0⟩:=hrel
  by_cases hin:i<n
  ·obtain⟨pb,hpl,rfl,hpb,d0⟩:=(hP0.out.below k0.out).get hin
   have hkl:=hp _ (List.getElem_mem hpl)
   have htk:Hid (shf x (P.take (i+1))=shf x (P.take i)++ [x+(P[i]:Nat)]):=hide (by rw[List.take_succ_eq_append_getElem hpl,shf_app];rfl)
   generalize P[i]=k at*
   have hi3:(i:Int)<(n:Int):=by omega
   have hlt1:decide ((i:Int)<(n:Int))=true:=by rw[decide_eq_true_eq];exact hi3
   go_upto_region 5 with(fail)
   refine wp_region_held_drew (S:=(fun w'=>w'.cell? ⟨bx,0,none⟩=some (.bool z.s)∧w'.cell? ⟨bx,1,none⟩=some (.slice z.a z.l z.c))) k_f (⟨(yx.out.below (grow_drew (Below.refl _ _))).c0,(yx.out.below (grow_drew (Below.refl _ _))).c1⟩) (fun hHeld=> ?_)
   show wpAnyH _ _ _ _ _ 8 _ _ _
   have hFr:F≤wr.heap.size:=Nat.le_trans hF kr.out.size
   have kW:=grow_drew (Below.refl wr.heap.size wr)
   have yW:=yx.out.below kW
   have oW:=own_below ho.out kW
   have qW:=hq.out.below kW
   have zW:=(hz0.out.below k0.out).below kW
   generalize wr.drew=wQ at*
   refine tkz 0 14 ?_
   (try simp only[pz])
   refine tkz 1 15 ?_
   (try simp only[pz])
   refine tkz 2 16 ?_
   (try simp only[pz])
   refine ryz 3 (some 17) (fun K hK=> ?_) AllReadyH.nil
   go_simp
   go_at_call 62;refine Calls.mono (Fresh.zof_n (B:=F) (k:Int) o_m o_m _ (by have:=kW.size;omega)) ?_;rintro e wA ⟨sA,aA,lA,cA,rfl,hzA,kA,hlA⟩
   have yW:=yW.below kA
   have oW:=own_below oW kA
   have qW:=qW.below kA
   have zW:=zW.below kA
   try have hzB:=hzB.below kA
   have kW:=grow_step kA kW
   try go_wp2_with fail
   refine hK.out _ _ ?_ ?_
   ·first|with_reducible exact trivial|((try dsimp only);exact⟨yW.c0,yW.c1⟩)
   clear hK K hHeld;intro hHeld
   (try simp only[pz])
   refine ryz 4 (some 18) (fun K hK=> ?_) AllReadyH.nil
   go_simp
   go_at_call 64;refine Calls.mono (Fresh.zadd_n (B:=F) (Fresh.zm_of zW (by have:=kW.size;omega)) (Fresh.zm_of hzA.zn.zm (by have:=kW.size;omega)) o_m o_m) ?_;rintro e wB ⟨sB,aB,lB,cB,rfl,hzB,kB,hlB⟩
   have yW:=yW.below kB
   have oW:=own_below oW kB
   have qW:=qW.below kB
   have zW:=zW.below kB
   try have hzA:=hzA.below kB
   have kW:=grow_step kB kW
   try go_wp2_with fail
   refine hK.out _ _ ?_ ?_
   ·first|with_reducible exact trivial|((try dsimp only);exact⟨yW.c0,yW.c1⟩)
   clear hK K hHeld;intro hHeld
   (try simp only[pz])
   refine ryz 5 (some 19) (fun K hK=> ?_) AllReadyH.nil
   obtain⟨wL,b6,eL,eb6,cN,hb6,kL,-⟩:=al_b kW (.cells #[.bool sB,.slice aB lB cB] 38)
   replace cN:ZB wL b6 sB aB lB cB:=cN
   have yW:=yW.below kL
   have oW:=own_below oW kL
   have qW:=qW.below kL
   have zW:=zW.below kL
   try have hzA:=hzA.below kL
   try have hzB:=hzB.below kL
   have kW:=grow_step kL kW
   go_simp
   rw[eL.out]
   (try simp only[eb6.out])
   refine hK.out _ _ ?_ ?_
   ·first|with_reducible exact trivial|((try dsimp only);exact⟨yW.c0,yW.c1⟩)
   clear hK K hHeld;intro hHeld
   (try simp only[pz])
   refine ryz 6 (some 20) (fun K hK=> ?_) AllReadyH.nil
   have hbs:bx+1≤wL.heap.size:=by have:=yW.lt;omega
   refine anyH_append rfl _ _ 23 rfl _ _ rfl rfl _ (runI oW ⟨sB,aB,lB,cB⟩ b6 1 cN o_m hbs _) ?_
   rintro v7 w7 ⟨o7,g7,-⟩
   have hzg:ZgF F wL ⟨sB,aB,lB,cB⟩ (x+(k:Int)):=⟨hzB,by show lB≤_;omega⟩
   have qW:=(qW.app (prf_one hzg)).blk g7.size (u32_grown g7 (fun g e=>(own_blk oW g e).2) (by decide))
   have yW:=zb_own g7 oW yW o_m
   have kF:=below_grown (grow_step kW kr.out) g7 (fun g e=>by have:=(own_blk oW g e).1;have:=hbw.out;omega) (grow_step kW kr.out).size
   have kF0:=below_grown (grow_step kW k0.out) g7 (fun g e=>by have:=(own_blk oW g e).1;omega) (grow_step kW k0.out).size
   obtain⟨-,la7,lc7,rfl,-⟩:=own_any (by decide) zv_len o7
   clear oW kW cN zW hzA hzB g7
   refine hK.out _ _ ?_ ?_
   ·first|with_reducible exact trivial|((try dsimp only);exact⟨yW.c0,yW.c1⟩)
   clear hK K hHeld;intro hHeld
   (try simp only[pz])
   refine tkz 7 5 ?_
   (try simp only[pz])
   refine wpAnyH_done ?_ ?_ _
   ·decide+kernel
   replace o7:=hide o7
   replace qW:=hide qW
   replace yW:=hide yW
   replace kF:=hide kF
   replace kF0:=hide kF0
   rw[←htk.out]at qW
   clear hHeld
   go_wp2
   go_roundw
   case measure=>simp[intOf];omega
   case rel=>exact⟨i+1,la7,lc7,_,by omega,by go_num,rfl,o7,qW,yW,kF,kF0⟩
  obtain rfl:i=n:=by omega
  have hlt1:decide ((i:Int)<(i:Int))=false:=by simp
  have hq2:Hid (PrF F wr q (shf x P)):=hide (by
   have:=hq.out
   rwa [List.take_of_length_le (by rw[hPl.out];exact Nat.le_refl _)]at this)
  clear hq
  obtain⟨a',c',e',hs⟩:=src_own ho.out hq2.out
  cases e'
  replace hs:=hide hs
  go_wp2
  exact bodyPost_ret (results_tmp rfl _ _ _) rfl ⟨_,_,q,rfl,hs.out,kr.out⟩
end Pd
namespace Pd

theorem ze_step {w0 w w':World}{z:ZV}{x:Int}(h:Ze w0 w z x)(hs:w.heap.size≤w'.heap.size)(hu: ∀g,Own w g 60→w'.heap[g]? =w.heap[g]?):Ze w0 w' z x:=h.imp id fun h=>zn_blk h hs hu
theorem nls_take {w:World}{ad:Option Addr}{n:Nat}{P:List Nat}(h:NLs w ad n P){r:Nat}(hr:r≤n):NLs w ad r (P.take r):=by
 refine⟨by rw[List.length_take,h.1];omega,?_⟩
 by_cases h0:r=0
 ·exact .inl h0
 obtain h1|⟨b,e,hb,hc⟩:=h.2
 ·omega
 exact .inr ⟨b,e,hb,fun i hi=>by
  rw[List.length_take]at hi
  have:=hc i o_m
  rw[this]
  simp⟩
theorem appN_wp {F:Nat}{w:World}{base n m:Nat}{v:Value}{q r:List ZV}{sa:Option Addr}{c:Nat}{xs:List Int}{ops:Array Oper}{rest:List Oper}{o:Oper}{a:Act}{Q:Exit→Act→World→Prop}(hgd:o.guard=none)(s x:Operand)(ho:o.op= .call {callee:=.builtin .append,args:=#[s,x],argTypes:=#[23,23]})(hs:a.eval s=v)(hx:a.eval x= .slice sa m c)
  (h:w.ownsRow base 38 2 v n (encL ZV.enc q))(hsrc:Src F w sa m c r xs)(h63:n+m≤1073741824)(hbase:base≤w.heap.size)
  (hK: ∀v' w',w'.ownsRow base 38 2 v' (n+m) (encL ZV.enc (q++r))→w.grownBy w' v.ownBlock→(v'.ownBlock=v.ownBlock∨v'.ownBlock=some w.heap.size)→wpList Tryz.prog ops Q rest (a.put o.dst v') w'):wpList Tryz.prog ops Q (o::rest) a w:=by
 refine wpList_plain hgd fun K hK2=> ?_
 obtain⟨v',w',hr,h2,h3,h4⟩:=runN h hsrc h63 hbase o.type
 unfold Oper.wp execOp
 simp only[ho,resolve,invoke,builtin,Sem.run_bind,Sem.run_pure,Result.andThen_ok,List.map_toArray,List.map_cons,List.map_nil,hs,hx,hr]
 exact hK2 _ _ (hK v' w' h2 h3 h4)
theorem PB.own {w w':World}{base n b:Nat}{e:TypeId}{sz:Nat}{v:Value}{xs:List Value}{p:PcV}(hg:w.grownBy w' v.ownBlock)(ho:w.ownsRow base e sz v n xs)(y:PB w b p)(hb:b<base):PB w' b p:=
 (hg.block b y.lt fun e=>by have:=(own_blk ho _ e.symm).1;omega).trans y
theorem members_n {F:Nat}{w:World}{D:PD}{p:PcV}{x n:Int}(hF:F≤w.heap.size)(hp1:1≤D.p)(hp2:D.p≤4096)(hK:PcK w D p x n)(hn:0≤n)(hc: ∀s∈D.cs,¬(x<s∧s<x+n))(hfl:p.f.l≤8589930000)(hfew:cntQ (mem D) (x,n)≤1000):
  Calls Tryz.prog 72 #[p.val] w fun e w'=> ∃a c m q,e= .returned (.slice a m c)∧Src F w' a m c q (memQ (mem D) (x,n))∧Below w.heap.size w w':=by
 obtain⟨m,hm,hil,hnl⟩:=hK.inn
 have hm2:m≤4096:=by split at hm <;> omega
 have hpl: ∀k∈plL (mem D) x m,k<4096:=fun k hk=>by
  have:=List.mem_range.1 (List.mem_filter.1 hk).1
  omega
 have hcnt:=pc_cnt hp1 hn hc hm hK.r
 obtain⟨P,hP⟩: ∃P,plL (mem D) x m=P:=⟨_,rfl⟩
 rw[hP]at hil hnl hpl hcnt
 obtain⟨il,hil2⟩: ∃il,p.il=il:=⟨_,rfl⟩
 obtain⟨ia,hia⟩: ∃ia,p.ia=ia:=⟨_,rfl⟩
 have hil4:il≤4096:=by rw[←hil2,hil,←hP,plL_len];exact Nat.le_trans (cntm_le _ _ _) hm2
 have hq0:0≤n / (D.p:Int):=Int.ediv_nonneg hn o_m
 obtain⟨qn,hqn⟩: ∃qn:Nat,n / (D.p:Int)=qn:=⟨(n / (D.p:Int)).toNat,by omega⟩
 have hmem:qn*il+lowN P p.r=cntQ (mem D) (x,n):=by
  rw[hqn,←hil,hil2]at hcnt
  exact_mod_cast hcnt
 have hlow:=lowN_le P p.r
 have hres:=pc_mems (D:=D) hp1 hn hc hm hK.r hqn.symm
 rw[hP]at hres
 have hPl:P.length=il:=by rw[←hil2];exact hil.symm
 have hcap:=hK.cap
 rw[hil2]at hcap
 have hnl0:=hide hnl
 have hper:=hK.per
 rw[hil2,hia]at hnl
 have hKh:=hK.h
 rw[hqn]at hKh
 have b0:=below_alloc w (.cells #[.bool p.f.s,.slice p.f.a p.f.l p.f.c,.int .i64 p.per,.slice p.ia p.il p.ic,.bool p.h.s,.slice p.h.a p.h.l p.h.c,.int .i64 p.r] 99)
 have y0:PB _ w.heap.size p:=heap_alloc_new w (.cells #[.bool p.f.s,.slice p.f.a p.f.l p.f.c,.int .i64 p.per,.slice p.ia p.il p.ic,.bool p.h.s,.slice p.h.a p.h.l p.h.c,.int .i64 p.r] 99)
 have hx0:=hide (hK.f.below b0)
 have hh0:=hide (hKh.below b0)
 have hP0:=hide (hnl.below b0)
 have hhl:=hK.hl
 obtain⟨g0,g1,g2,g3,g4,g5,g6⟩:=y0.all
 have hbt:w.heap.size<(w.alloc (.cells #[.bool p.f.s,.slice p.f.a p.f.l p.f.c,.int .i64 p.per,.slice p.ia p.il p.ic,.bool p.h.s,.slice p.h.a p.h.l p.h.c,.int .i64 p.r] 99)).heap.size:=by simp
 replace hres:=hide hres
 replace b0:=hide b0
 replace y0:=hide y0
 replace hil:=hide hil
 replace hil2:=hide hil2
 replace hia:=hide hia
 replace hP:=hide hP
 replace hPl:=hide hPl
 replace hper:=hide hper
 replace hnl:=hide hnl
 replace hK:=hide hK
 replace hqn:=hide hqn
 replace hpl:=hide hpl
 replace hm:=hide hm
 replace hmem:=hide hmem
 clear hcnt hq0
 go_enter Tryz.func72,Tryz.ntmps72
 go_upto_region 1 with(fail)
 generalize w.alloc (.cells #[.bool p.f.s,.slice p.f.a p.f.l p.f.c,.int .i64 p.per,.slice p.ia p.il p.ic,.bool p.h.s,.slice p.h.a p.h.l p.h.c,.int .i64 p.r] 99)=w0 at*
 obtain⟨bt,hbw⟩: ∃bt,w.heap.size=bt:=⟨_,rfl⟩
 rw[hbw]at g0 g1 g2 g3 g4 g5 g6 hbt y0 ⊢
 replace hbw:=hide hbw
 rw[hil2.out,hia.out]at g3
 rw[hper.out]at g2
 by_cases hz:il=0
 ·have hn0:Hid (memQ (mem D) (x,n)= []):=hide (List.length_eq_zero_iff.1 (by rw[memQ_len,←hmem.out,hz];have:=hlow;rw[hPl.out,hz]at this;omega))
  rw[hz]at g3
  replace hz:=hide hz
  clear hx0 hh0 hP0 y0
  go_wp2
  refine bodyPost_ret (results_tmp rfl _ _ _) rfl ⟨none,0,0,[],rfl,?_,b0.out⟩
  rw[hn0.out]
  exact⟨rfl,prf_nil F _,.inl ⟨rfl,rfl,rfl⟩⟩
 have hqn2:qn≤1000:=by
  have h1:qn*1≤qn*il:=Nat.mul_le_mul_left _ o_m
  have h2:=hmem.out
  omega
 have hne:((il:Int)==0)=false:=by rw[beq_eq_false_iff_ne];omega
 have hi:=hide (zint64_in hh0.out.zm o_m o_m o_m)
 clear hh0
 have eg: ∀args w,(callFunc 122 args).run Tryz.prog w= .ok (.enter 122 args) w:=enters_of Tryz.func122 k_f rfl
 go_wp2_with fail
 refine hi.out.mono ?_
 rintro e w1 ⟨rfl,k1⟩
 have y1:=hide (y0.out.below k1)
 have b1:=hide (grow_step k1 b0.out)
 have x1:=hide (hx0.out.below k1)
 clear hi g0 g1 g2 g3 g4 g5 g6 k1 hP0 hx0 y0
 go_upto_region 5 with(fail)
 go_cut [6,7] (fun v6 v7 wc=> ∃(b5 bb:Nat) (yb:ZV),v6= .pointer (some ⟨b5,0,none⟩)∧v7= .func (.func 122) #[] #[.pointer (some ⟨bb,0,none⟩)]∧Hid (ZB wc b5 p.f.s p.f.a p.f.l p.f.c)∧Hid (ZB wc bb yb.s yb.a yb.l yb.c)∧Hid (Fresh.Zn 0 wc yb.s yb.a yb.l yb.c (D.p:Int))∧yb.l≤2∧bb≠b5∧w1.heap.size≤b5∧w1.heap.size≤bb∧Hid (Below w1.heap.size w1 wc))
 case first=>
  refine wp_region_held_drew (S:=(fun w'=>w'.cell? ⟨bt,0,none⟩=some (.bool p.f.s)∧w'.cell? ⟨bt,1,none⟩=some (.slice p.f.a p.f.l p.f.c)∧w'.cell? ⟨bt,2,none⟩=some (.int .i64 D.p))) k_f (⟨(y1.out.below (grow_drew (Below.refl _ _))).all.1,(y1.out.below (grow_drew (Below.refl _ _))).all.2.1,by have:=(y1.out.below (grow_drew (Below.refl _ _))).all.2.2.1;rwa [hper.out]at this⟩) (fun hHeld=> ?_)
  show wpAnyH _ _ _ _ _ 8 _ _ _
  have kW:=grow_drew (Below.refl w1.heap.size w1)
  have yW:=y1.out.below kW
  generalize w1.drew=wQ at*
  have hbtW:=y1.out.lt
  repeat' first
   |with_reducible exact AllReadyH.nil
   |(
    refine tkz 0 18 ?_
    (try simp only[pz]))
   |(
    refine tkz 1 19 ?_
    (try simp only[pz]))
   |(
    refine tkz 2 20 ?_
    (try simp only[pz]))
   |(
    refine tkz 3 21 ?_
    (try simp only[pz]))
   |(refine wpAnyH_ready (rs:=[4,5]) ?_ ?_ ?_;decide+kernel;simp)
   |(refine wpAnyH_ready (rs:=[5]) ?_ ?_ ?_;decide+kernel;simp)
   |(refine wpAnyH_ready (rs:=[6]) ?_ ?_ ?_;decide+kernel;simp)
   |(refine wpAnyH_ready (rs:=[7]) ?_ ?_ ?_;decide+kernel;simp)
   |(refine wpAnyH_ready (rs:=[4]) ?_ ?_ ?_;decide+kernel;simp)
   |(
    first
     |(
      refine AllReadyH.cons (i:=4) (o:=⟨some 22,_,_,_,_,_⟩) rfl (fun K hK=> ?_) ?_
      go_simp
      go_at_call 74;refine Calls.mono (cby_g (D.p:Int) o_m o_m _) ?_;rintro e wB ⟨bb,yb,rfl,zB,zK,hyl,kB,hgb⟩
      have hbb:=Nat.le_trans kW.size hgb
      try have hne:bb≠b5:=(Nat.ne_of_lt (Nat.lt_of_lt_of_le z5.lt hgb)).symm
      have yW:=yW.below kB
      try have z5:=z5.below kB
      have kW:=grow_step kB kW
      try go_wp2_with fail)
     |(
      refine AllReadyH.cons (i:=5) (o:=⟨some 6,_,_,_,_,_⟩) rfl (fun K hK=> ?_) ?_
      obtain⟨wL,b5,eL,eb5,z5,hb5,kL,-⟩:=al_b kW (.cells #[.bool false,.slice none 0 0] 38)
      replace z5:ZB wL b5 false none 0 0:=z5
      try have hne:bb≠b5:=by have:=zB.lt;have:=eb5.out;omega
      have yW:=yW.below kL
      try have zB:=zB.below kL
      try have zK:=zK.below kL
      have kW:=grow_step kL kW
      go_simp
      rw[eL.out]
      (try simp only[eb5.out]))
     |(
      refine AllReadyH.cons (i:=6) (o:=⟨none,_,_,_,_,_⟩) rfl (fun K hK=> ?_) ?_
      have f0:=z5.c0
      have f1:=z5.c1
      have f2:=z5.f 0
      have f3:=z5.f 1
      go_simp
      have zK:=zn_blk zK (Nat.le_of_eq (only2 b5 _ (.bool p.f.s) (.slice p.f.a p.f.l p.f.c)).size.symm) (u32_only (only2 b5 _ (.bool p.f.s) (.slice p.f.a p.f.l p.f.c)) z5 (by decide))
      have zB:=zB.only (only2 b5 _ (.bool p.f.s) (.slice p.f.a p.f.l p.f.c)) hne
      have yW:=yW.only (only2 b5 _ (.bool p.f.s) (.slice p.f.a p.f.l p.f.c)) o_m
      have z5:=zb_fin z5 p.f.s p.f.a p.f.l p.f.c
      have kW:=(kW.setCell (p:=⟨b5,0,none⟩) hb5 (.bool p.f.s)).setCell (p:=⟨b5,1,none⟩) hb5 (.slice p.f.a p.f.l p.f.c)
      clear f0 f1 f2 f3)
     |(
      refine AllReadyH.cons (i:=7) (o:=⟨some 7,_,_,_,_,_⟩) rfl (fun K hK=> ?_) ?_
      go_simp)
    refine hK.out _ _ ?_ ?_
    ·first|with_reducible exact trivial|((try dsimp only);exact⟨yW.all.1,yW.all.2.1,by have:=yW.all.2.2.1;rwa [hper.out]at this⟩)
    clear hK K hHeld;intro hHeld
    (try simp only[pz]))
  all_goals
   refine wpAnyH_done ?_ ?_ _
   ·decide+kernel
   replace z5:=hide z5
   replace zB:=hide zB
   replace zK:=hide zK
   replace kW:=hide kW
   clear hHeld yW
   go_wp2_with fail
   go_meet
   case rel=>exact⟨b5,bb,yb,rfl,rfl,z5,zB,zK,hyl,hne,hb5,hbb,kW⟩
 case rest=>
  obtain⟨b5,bb,yb,rfl,rfl,z5,zb,zk,hyl,hne5,hb5,hbb,kc⟩:=hcut
  have y2:=hide (y1.out.below kc.out)
  have b2:=hide (grow_step kc.out b1.out)
  have x2:=hide (x1.out.below kc.out)
  have hbt1:=y1.out.lt
  have hw1:=b1.out.size
  have h5l:=z5.out.lt
  have hbl:=zb.out.lt
  clear y1 b1 x1 kc
  generalize wc=w2 at*
  obtain⟨bs,hbs⟩: ∃bs,w2.heap.size=bs:=⟨_,rfl⟩
  rw[hbs]at h5l hbl
  replace hbs:=hide hbs
  go_wp2_with fail
  go_loopw [3,24] (fun vl vi wr=> ∃(i mq:Nat) (la:Option Addr) (lc:Nat) (q:List ZV) (zs:ZV),i≤qn∧vi= .int .i64 i∧vl= .slice la mq lc∧mq=i*il∧Hid (wr.ownsRow bs 38 2 (.slice la mq lc) mq (encL ZV.enc q))∧Hid (PrF F wr q (repQ P x D.p i))∧Hid (ZB wr b5 zs.s zs.a zs.l zs.c)∧Hid (Ze w wr zs (x+(i:Int)*(D.p:Int)))∧zs.l≤p.f.l+2+i∧Hid (ZB wr bb yb.s yb.a yb.l yb.c)∧Hid (Fresh.Zn 0 wr yb.s yb.a yb.l yb.c (D.p:Int))∧Hid (PB wr bt p)∧Hid (Below w.heap.size w wr)∧bs≤wr.heap.size) (fun _ vi _=>qn-(intOf vi).toNat)
  case atStart=>exact⟨0,0,none,0,[],p.f,Nat.zero_le _,rfl,rfl,by simp,hide (World.ownsRow_nil _ _ _ _),hide (by simpa [repQ] using prf_nil F _),z5,hide (.inl (by simpa using hK.out.f)),by omega,zb,zk,y2,b2,Nat.le_of_eq hbs.out.symm⟩
  case round=>
   clear z5 zb zk y2 b2 x2
   obtain⟨i,mq,la,lc,q,zs,hi,rfl,rfl,hmq,ho,hq,zx,hze,hzl,zb,zk,yp,kr,hbr⟩:=hrel
   have hmq2:mq≤1000:=by
    have h1:i*il≤qn*il:=Nat.mul_le_mul_right _ hi
    have h2:=hmem.out
    omega
   by_cases hin:i<qn
   ·have hi3:(i:Int)<(qn:Int):=by omega
    have hlt1:decide ((i:Int)<(qn:Int))=true:=by rw[decide_eq_true_eq];exact hi3
    have c0:=zx.out.c0
    have c1:=zx.out.c1
    obtain⟨-,-,-,g3,-,-,-⟩:=yp.out.all
    rw[hil2.out,hia.out]at g3
    have hfr:=hide (from_n (F:=F) (pc:=p.ic) (Nat.le_trans hF kr.out.size) (hnl.out.below kr.out) hil4 hpl.out (hze.out.zm kr.out) o_m)
    replace hmq:=hide hmq
    go_wp2_with fail
    refine hfr.out.mono ?_
    rintro e w3 ⟨fa,fc,fq,rfl,hsrc,k3⟩
    have ho3:=hide (own_below ho.out k3)
    have hq3:=hide (hq.out.below k3)
    have zx3:=hide (zx.out.below k3)
    have hze3:=hide (hze.out.below k3)
    have zb3:=hide (zb.out.below k3)
    have zk3:=hide (zk.out.below k3)
    have yp3:=hide (yp.out.below k3)
    have kr3:=hide (grow_step k3 kr.out)
    have hbr3:bs≤w3.heap.size:=Nat.le_trans hbr k3.size
    replace hsrc:=hide hsrc
    clear hfr ho hq zx hze zb zk yp kr k3 c0 c1 g3 hbr
    go_wp2_with(refine appN_wp rfl _ _ rfl rfl rfl ho3.out hsrc.out o_m hbr3 ?_)
    intro v4 w4 ho4 hg4 _
    have hob:=own_blk ho3.out
    have hu4:=u32_grown hg4 (fun g e=>(hob g e).2) (by decide)
    have hq4:=hide ((hq3.out.app hsrc.out.2.1).blk hg4.size hu4)
    have zx4:=hide (zb_own hg4 ho3.out zx3.out o_m)
    have hze4:=hide (ze_step hze3.out hg4.size hu4)
    have zb4:=hide (zb_own hg4 ho3.out zb3.out o_m)
    have zk4:=hide (zn_blk zk3.out hg4.size hu4)
    have yp4:=hide (PB.own hg4 ho3.out yp3.out o_m)
    have hwb:w.heap.size≤bs:=by have:=hbw.out;omega
    have kr4:=hide (below_grown kr3.out hg4 (fun g e=>Nat.le_trans hwb (hob g e).1) kr3.out.size)
    have hbr4:bs≤w4.heap.size:=Nat.le_trans hbr3 hg4.size
    obtain⟨-,la4,lc4,rfl,-⟩:=own_any (by decide) zv_len ho4
    replace ho4:=hide ho4
    clear hob hu4 hg4 ho3 hq3 zx3 hze3 zb3 zk3 yp3 kr3 hsrc hbr3
    have c0:=zx4.out.c0
    have c1:=zx4.out.c1
    have hcb:=hide (cby1_f (z:=zs) (y:=yb) zb4.out (hze4.out.zm kr4.out) zk4.out.zn.zm o_m o_m)
    go_wp2_with fail
    refine hcb.out.mono ?_
    rintro e w5 ⟨s5,a5,l5,c5,rfl,hz5,k5,hl5⟩
    have zx5:=zx4.out.below k5
    have f0:=zx5.c0
    have f1:=zx5.c1
    have f2:=zx5.f 0
    have f3:=zx5.f 1
    have o2:=only2 b5 w5 (.bool s5) (.slice a5 l5 c5)
    have hu5:=u32_only o2 zx5 (by decide)
    have hs5:=Nat.le_of_eq o2.size.symm
    have ho5:=hide (own_only (own_below ho4.out k5) o2 fun g e=>by have:=(own_blk ho4.out g e).1;omega)
    have hq5:=hide ((hq4.out.below k5).blk hs5 hu5)
    have zx6:=hide (zb_fin zx5 s5 a5 l5 c5)
    have hze5:=hide (zn_blk hz5 hs5 hu5)
    have zb5:=hide ((zb4.out.below k5).only o2 hne5)
    have zk5:=hide (zn_blk (zk4.out.below k5) hs5 hu5)
    have yp5:=hide ((yp4.out.below k5).only o2 o_m)
    have kr5:=hide ((grow_step k5 kr4.out).trans (o2.below o_m))
    have hbr5:bs≤((w5.setCell ⟨b5,0,none⟩ (.bool s5)).setCell ⟨b5,1,none⟩ (.slice a5 l5 c5)).heap.size:=by rw[o2.size];exact Nat.le_trans hbr4 k5.size
    clear hcb c0 c1 zx4 ho4 hq4 hze4 zb4 zk4 yp4 kr4 hbr4 k5 zx5 o2 hu5 hs5 hz5
    go_wp2
    go_roundw
    case measure=>simp[intOf];omega
    case rel=>exact⟨i+1,mq+il,la4,lc4,_,⟨s5,a5,l5,c5⟩,by omega,by go_num,rfl,by rw[hmq.out,Nat.add_mul];omega,ho5,hq5,zx6,hide (.inr (by
     have:=hze5.out
     rwa [show x+(i:Int)*(D.p:Int)+(D.p:Int)=x+((i+1:Nat):Int)*(D.p:Int)by rw[Int.natCast_add,Int.add_mul];omega]at this)),by show l5≤_;omega,zb5,zk5,yp5,kr5,hbr5⟩
   obtain rfl:i=qn:=by omega
   have hlt1:decide ((i:Int)<(i:Int))=false:=by simp
   clear zb zk
   obtain⟨pb,rfl⟩: ∃pb,ia=some ⟨pb,0,none⟩:=by
    obtain h0|⟨b,e,-⟩:=hnl.out.2
    ·exact absurd h0 hz
    exact⟨b,e⟩
   obtain⟨lr,hlrE⟩: ∃lr,lowN P p.r=lr:=⟨_,rfl⟩
   have hlr:lr≤il:=by rw[←hlrE,←hPl.out];exact hlow
   have hlrc:(lr:Int)≤(p.ic:Int):=by omega
   have hmemr:i*il+lr≤1000:=by rw[←hlrE,hmem.out];exact hfew
   have hnm:mq+lr≤1073741824:=by rw[hmq];omega
   replace hmq:=hide hmq
   replace hlrE:=hide hlrE
   go_upto_region 11 with(fail)
   refine wp_region_held_drew (S:=(fun w'=>(w'.cell? ⟨bt,0,none⟩=some (.bool p.f.s)∧w'.cell? ⟨bt,1,none⟩=some (.slice p.f.a p.f.l p.f.c)∧w'.cell? ⟨bt,2,none⟩=some (.int .i64 p.per)∧w'.cell? ⟨bt,3,none⟩=some (.slice (some ⟨pb,0,none⟩) il p.ic)∧w'.cell? ⟨bt,4,none⟩=some (.bool p.h.s)∧w'.cell? ⟨bt,5,none⟩=some (.slice p.h.a p.h.l p.h.c)∧w'.cell? ⟨bt,6,none⟩=some (.int .i64 p.r))∧w'.cell? ⟨b5,0,none⟩=some (.bool zs.s)∧w'.cell? ⟨b5,1,none⟩=some (.slice zs.a zs.l zs.c))) k_f (⟨by have:=(yp.out.below (grow_drew (Below.refl _ _))).all;rwa [hia.out,hil2.out]at this,(zx.out.below (grow_drew (Below.refl _ _))).c0,(zx.out.below (grow_drew (Below.refl _ _))).c1⟩) (fun hHeld=> ?_)
   show wpAnyH _ _ _ _ _ 10 _ _ _
   have kD:=grow_drew (Below.refl wr.heap.size wr)
   have yW:=yp.out.below kD
   have zW:=zx.out.below kD
   have oW:=own_below ho.out kD
   have qW:=hq.out.below kD
   have eW:=hze.out.below kD
   have kW:=grow_step kD kr.out
   have kW2:=kD
   have hbr0:=hbr
   generalize wr.drew=wQ at*
   refine tkz 0 36 ?_
   (try simp only[pz])
   refine tkz 1 37 ?_
   (try simp only[pz])
   refine tkz 2 38 ?_
   (try simp only[pz])
   refine tkz 3 39 ?_
   (try simp only[pz])
   refine tkz 4 40 ?_
   (try simp only[pz])
   refine ryz 5 (some 41) (fun K hK=> ?_) AllReadyH.nil
   go_simp
   go_at_call 113;refine Calls.mono (atRest_n (p:=⟨p.f,p.per,some ⟨pb,0,none⟩,il,p.ic,p.h,p.r⟩) (hnl.out.below kW) hil4 hpl.out) ?_;rintro e wR ⟨rfl,kR⟩
   (try dsimp only)
   rw[hlrE.out]
   have yW:=yW.below kR
   have zW:=zW.below kR
   have oW:=own_below oW kR
   have qW:=qW.below kR
   have eW:=eW.below kR
   have kW:=grow_step kR kW
   have kW2:=grow_step kR kW2
   try go_wp2_with fail
   refine hK.out _ _ ?_ ?_
   ·first|with_reducible exact trivial|((try dsimp only);exact⟨by have:=yW.all;rwa [hia.out,hil2.out]at this,zW.c0,zW.c1⟩)
   clear hK K hHeld;intro hHeld
   (try simp only[pz])
   refine tkz 6 42 ?_
   (try simp only[pz])
   refine ryz 7 (some 43) (fun K hK=> ?_) AllReadyH.nil
   go_simp
   go_at_call 119;refine Calls.mono (from_n (F:=F) (pc:=p.ic) (Nat.le_trans hF kW.size) (nls_take (hnl.out.below kW) hlr) o_m (fun k hk=>hpl.out k (List.mem_of_mem_take hk)) (eW.zm kW) o_m) ?_;rintro e wF ⟨fa,fc,fq,rfl,hsrc,kF⟩
   have yW:=yW.below kF
   have zW:=zW.below kF
   have oW:=own_below oW kF
   have qW:=qW.below kF
   have eW:=eW.below kF
   have kW:=grow_step kF kW
   have kW2:=grow_step kF kW2
   try go_wp2_with fail
   refine hK.out _ _ ?_ ?_
   ·first|with_reducible exact trivial|((try dsimp only);exact⟨by have:=yW.all;rwa [hia.out,hil2.out]at this,zW.c0,zW.c1⟩)
   clear hK K hHeld;intro hHeld
   (try simp only[pz])
   refine ryz 8 (some 44) (fun K hK=> ?_) AllReadyH.nil
   have hrun:=runN oW hsrc hnm (Nat.le_trans hbr0 kW2.size)
   clear kW2
   refine anyH_append rfl _ _ 23 rfl (.slice la mq lc) (.slice fa lr fc) rfl rfl _ (hrun _) ?_
   rintro v7 w7 ⟨o7,g7,-⟩
   have hob:=own_blk oW
   have qW:=(qW.app hsrc.2.1).blk g7.size (u32_grown g7 (fun g e=>(hob g e).2) (by decide))
   have yW:=PB.own g7 oW yW o_m
   have zW:=zb_own g7 oW zW o_m
   have hwb:w.heap.size≤bs:=by have:=hbw.out;omega
   have kF2:=below_grown kW g7 (fun g e=>Nat.le_trans hwb (hob g e).1) kW.size
   obtain⟨a8,c8,e8,hS8⟩:=src_own o7 qW
   cases e8
   clear hob g7 oW kW hsrc eW o7
   refine hK.out _ _ ?_ ?_
   ·first|with_reducible exact trivial|((try dsimp only);exact⟨by have:=yW.all;rwa [hia.out,hil2.out]at this,zW.c0,zW.c1⟩)
   clear hK K hHeld;intro hHeld
   (try simp only[pz])
   refine tkz 9 2 ?_
   (try simp only[pz])
   refine wpAnyH_done ?_ ?_ _
   ·decide+kernel
   have hx:=hres.out
   rw[hlrE.out]at hx
   rw[hx]at hS8
   clear hx
   replace hS8:=hide hS8
   replace kF2:=hide kF2
   clear hHeld yW zW qW
   go_wp2
   exact bodyPost_ret (results_tmp rfl _ _ _) rfl ⟨_,_,_,_,rfl,hS8.out,kF2.out⟩
end Pd
end Go.Proofs.YtaafoppaepcaeaaGreat

namespace Go.Proofs.YtaafoppaepcaeaaGreat
open Go.RowKit Go.Shelf
attribute [local go_sem] Oper.semAt_some
namespace Pd

variable {w W W':World}{p bS:Nat}
theorem results_si {P:Program}{fn:Func}{p1 p2:Tmp}{ty1 ty2:TypeId}{el:TypeId}{q:IntKind}(h:fn.results= #[.cell p1 ty1,.cell p2 ty2])(tmps:Array Value)(w:World)(g1 g2:Nat)(v1 v2:Value)(t1 t2:TypeId)(fr1 fr2:Nat × Nat)
  (hp1:tmps.getD p1 undef= .pointer (some ⟨g1,0,none⟩))(hp2:tmps.getD p2 undef= .pointer (some ⟨g2,0,none⟩))(hg1:w.heap[g1]? =some (.cells #[v1] t1 fr1))(hg2:w.heap[g2]? =some (.cells #[v2] t2 fr2))(hu1:P.underlying ty1=some (.slice el))(hu2:P.underlying ty2=some (.int q)):
  (results fn tmps).run P w= .ok (.tuple #[v1,v2]) w:=by
 have hp1':tmps[p1]?.getD undef= .pointer (some ⟨g1,0,none⟩):=by simpa using hp1
 have hp2':tmps[p2]?.getD undef= .pointer (some ⟨g2,0,none⟩):=by simpa using hp2
 have hc1:=cell_of_row w g1 0 _ _ fr1 hg1
 have hc2:=cell_of_row w g2 0 _ _ fr2 hg2
 have hl1:(loadVar ty1 ⟨g1,0,none⟩).run P w= .ok v1 w:=by simp[loadVar,isAgg,run_underlying hu1,go_sem,hc1]
 have hl2:(loadVar ty2 ⟨g2,0,none⟩).run P w= .ok v2 w:=by simp[loadVar,isAgg,run_underlying hu2,go_sem,hc2]
 simp[results,h,hp1',hp2',asAddr,hl1,hl2]
structure LK (w:World) (p:Nat) (bS:Nat) (zl zh:ZV) (r:Loop) (W:World):Prop where
 bx:BxK w bS (p+3) (p+2) (p+1) zl zh W
 r1:W.heap[w.heap.size+2]? =some (.cells #[.slice none 0 0] 23 (0,0))
 r2:W.heap[w.heap.size+3]? =some (.cells #[.int .i64 0] 33 (0,0))
 df:W.heap[p+4]? =some (.deferred (some []))
 lp:W.heap[p+5]? =some (.loop r)
theorem LK.mv {zl zh:ZV}{r r':Loop}(hp:w.heap.size+4=p)(h:LK w p bS zl zh r W)(hk: ∀g,g<p+6→g<W.heap.size→g≠p+5→g≠p→W'.heap[g]? =W.heap[g]?)(hl:W'.heap[p+5]? =some (.loop r'))(hb:Below w.heap.size w W'):LK w p bS zl zh r' W':=by
 have hlt: ∀{g:Nat}{o:Obj},W.heap[g]? =some o→g<W.heap.size:=fun h=>(Array.getElem?_eq_some_iff.1 h).1
 exact⟨⟨hb,(hk _ o_m (hlt h.bx.s) o_m o_m).trans h.bx.s,(hk _ o_m h.bx.lo.lt o_m o_m).trans h.bx.lo,(hk _ o_m h.bx.hi.lt o_m o_m).trans h.bx.hi⟩,(hk _ o_m (hlt h.r1) o_m o_m).trans h.r1,(hk _ o_m (hlt h.r2) o_m o_m).trans h.r2,(hk _ o_m (hlt h.df) o_m o_m).trans h.df,hl⟩
theorem LK.below {zl zh:ZV}{r:Loop}(hp:w.heap.size+4=p)(h:LK w p bS zl zh r W)(kb:Below W.heap.size W W'):LK w p bS zl zh r W':=
 h.mv hp (fun g _ hg _ _=>kb.block g hg) ((kb.block _ (Array.getElem?_eq_some_iff.1 h.lp).1).trans h.lp) (grow_step kb h.bx.bel)
theorem LK.put {zl zh:ZV}{r:Loop}(hp:w.heap.size+4=p)(h:LK w p bS zl zh r W)(r':Loop):LK w p bS zl zh r' (W.putObj (p+5) (.loop r')):=
 h.mv hp (fun g _ _ hne _=>World.putObj_heap_other hne) (World.putObj_heap_same (Array.getElem?_eq_some_iff.1 h.lp).1) (h.bx.bel.trans (bel_put _ o_m))
theorem LK.only {zl zh:ZV}{r:Loop}{b:Nat}(hp:w.heap.size+4=p)(h:LK w p bS zl zh r W)(ho:Only b W W')(hb:b=p∨p+6≤b):LK w p bS zl zh r W':=
 h.mv hp (fun g _ _ _ _=>ho.block g o_m) ((ho.block _ o_m).trans h.lp) (h.bx.bel.trans (ho.below o_m))
theorem LK.grown {zl zh:ZV}{r:Loop}{v:Value}(hp:w.heap.size+4=p)(h:LK w p bS zl zh r W)(hg:W.grownBy W' v.ownBlock)(hv: ∀g,v.ownBlock=some g→p+6≤g):LK w p bS zl zh r W':=
 have hlt:=(Array.getElem?_eq_some_iff.1 h.lp).1
 h.mv hp (fun g h1 h2 _ _=>hg.block g h2 fun e=>by have:=hv g e.symm;omega) ((hg.block _ hlt fun e=>by have:=hv _ e.symm;omega).trans h.lp) (below_grown h.bx.bel hg (fun g e=>by have:=hv g e;omega) o_m)
structure LB (G p:Nat) (la:Option Addr) (n lc:Nat) (q:List ZV) (xs:List Int) (W:World):Prop where
 st:W.heap[p]? =some (.cells #[.slice la n lc] 23 (0,0))
 own:W.ownsRow (p+6) 38 2 (.slice la n lc) n (encL ZV.enc q)
 nu:PrF G W q xs
theorem LB.below {G:Nat}{la:Option Addr}{n lc:Nat}{q:List ZV}{xs:List Int}(h:LB G p la n lc q xs W)(k:Below W.heap.size W W'):LB G p la n lc q xs W':=⟨(k.block _ (Array.getElem?_eq_some_iff.1 h.st).1).trans h.st,own_below h.own k,h.nu.below k⟩
theorem LB.put {G:Nat}{la:Option Addr}{n lc:Nat}{q:List ZV}{xs:List Int}{r:Loop}(h:LB G p la n lc q xs W)(hl:W.heap[p+5]? =some (.loop r))(o:Obj):LB G p la n lc q xs (W.putObj (p+5) o):=
 ⟨(World.putObj_heap_other o_m).trans h.st,own_mv h.own fun g e=>World.putObj_heap_other (by have:=(own_blk h.own g e).1;omega),h.nu.blk (by simp[World.putObj]) (u32_put hl o)⟩
def LF (w:World)(p:Nat)(v:Value):Nat→Prop:=fun b=>b=p∨b=p+5∨b=w.heap.size+2∨b=w.heap.size+3∨v.ownBlock=some b
def LJ (w:World)(p bS:Nat)(zl zh:ZV)(r:Loop)(xs:List Int)(F:Nat→Prop)(W:World):Prop:=∃la n lc q,F=LF w p (.slice la n lc)∧n=xs.length∧n≤1000∧LB w.heap.size p la n lc q xs W∧LK w p bS zl zh r W
structure LX (w:World) (p:Nat) (r:Loop) (W:World):Prop where
 bel:Below w.heap.size w W
 r1:W.heap[w.heap.size+2]? =some (.cells #[.slice none 0 0] 23 (0,0))
 r2:W.heap[w.heap.size+3]? =some (.cells #[.int .i64 2] 33 (0,0))
 df:W.heap[p+4]? =some (.deferred (some []))
 lp:W.heap[p+5]? =some (.loop {r with state:=.done,pending:=some .ret})
theorem cntS_le2 (f:Int→Bool){pre suf all:List (Int × Int)}{q:Int × Int}(h:pre++q::suf=all):cntS f pre+cntQ f q≤cntS f all:=by
 subst h
 have:=cntS_le f (pre++ [q]) suf
 rw[cntS_snoc]at this
 rwa [List.append_assoc]at this
def LsF (w:World)(f:Int→Bool)(lo hi:Int)(e:Ending)(w':World):Prop:=Below w.heap.size w w'∧
 ((∃v n q,e= .returned (.tuple #[v,.int .i64 0])∧n≤1000∧w'.ownsRow (w.heap.size+10) 38 2 v n (encL ZV.enc q)∧PrF w.heap.size w' q (memI f lo hi))∨(e= .returned (.tuple #[.slice none 0 0,.int .i64 2])∧1000<cntI f lo hi))
theorem List_f {D:PD}{zl zh:ZV}{lo hi:Int}(hS:PS w bS D)(hf:D.cs.length≤1073741823)(hlo:Zm w zl.s zl.a zl.l zl.c lo)(hll:zl.l≤8589930000)(hhi:Zm w zh.s zh.a zh.l zh.c hi)(hhl:zh.l≤8589930000):
  Calls Tryz.prog 22 #[.pointer (some ⟨bS,0,none⟩),.agg #[.bool zl.s,.slice zl.a zl.l zl.c],.agg #[.bool zh.s,.slice zh.a zh.l zh.c]] w fun e w'=>LsF w (mem D) lo hi e w':=by
 refine(callsIn_wide (n:=3)).1 ?_
 refine callsIn_of_wp_marks Tryz.func22 rfl trivial ?_ rfl
 simp only[Tryz.ntmps22,List.size_toArray,List.length_cons,List.length_nil,Nat.reduceAdd,Nat.reduceSub,Array.replicate_succ,Array.replicate_zero,List.push_toArray,List.append_toArray,List.nil_append,List.cons_append]
 gi_upto_region 3 with(fail)
 have b0:Below w.heap.size w ((((w.alloc (.cells #[.bool zl.s,.slice zl.a zl.l zl.c] 38)).alloc (.cells #[.bool zh.s,.slice zh.a zh.l zh.c] 38)).alloc (.cells #[.slice none 0 0] 23)).alloc (.cells #[.int .i64 0] 33)):=below_alloc' (below_alloc' (below_alloc' (below_alloc _ _) _) _) _
 have y0:=(zb_new w zl.s zl.a zl.l zl.c).below (below_alloc' (below_alloc' (below_alloc (w.alloc (.cells #[.bool zl.s,.slice zl.a zl.l zl.c] 38)) (.cells #[.bool zh.s,.slice zh.a zh.l zh.c] 38)) (.cells #[.slice none 0 0] 23)) (.cells #[.int .i64 0] 33))
 have y1:=(zb_new (w.alloc (.cells #[.bool zl.s,.slice zl.a zl.l zl.c] 38)) zh.s zh.a zh.l zh.c).below (below_alloc' (below_alloc _ (.cells #[.slice none 0 0] 23)) (.cells #[.int .i64 0] 33))
 have q1:=((below_alloc _ (.cells #[.int .i64 0] 33)).block _ (by simp)).trans (heap_alloc_new ((w.alloc (.cells #[.bool zl.s,.slice zl.a zl.l zl.c] 38)).alloc (.cells #[.bool zh.s,.slice zh.a zh.l zh.c] 38)) (.cells #[.slice none 0 0] 23))
 have q2:=heap_alloc_new (((w.alloc (.cells #[.bool zl.s,.slice zl.a zl.l zl.c] 38)).alloc (.cells #[.bool zh.s,.slice zh.a zh.l zh.c] 38)).alloc (.cells #[.slice none 0 0] 23)) (.cells #[.int .i64 0] 33)
 rw[show(w.alloc (.cells #[.bool zl.s,.slice zl.a zl.l zl.c] 38)).heap.size=w.heap.size+1 by simp]at y1
 rw[show((w.alloc (.cells #[.bool zl.s,.slice zl.a zl.l zl.c] 38)).alloc (.cells #[.bool zh.s,.slice zh.a zh.l zh.c] 38)).heap.size=w.heap.size+2 by simp]at q1
 rw[show(((w.alloc (.cells #[.bool zl.s,.slice zl.a zl.l zl.c] 38)).alloc (.cells #[.bool zh.s,.slice zh.a zh.l zh.c] 38)).alloc (.cells #[.slice none 0 0] 23)).heap.size=w.heap.size+3 by simp]at q2
 have hs0:((((w.alloc (.cells #[.bool zl.s,.slice zl.a zl.l zl.c] 38)).alloc (.cells #[.bool zh.s,.slice zh.a zh.l zh.c] 38)).alloc (.cells #[.slice none 0 0] 23)).alloc (.cells #[.int .i64 0] 33)).heap.size=w.heap.size+4:=by simp
 generalize (((w.alloc (.cells #[.bool zl.s,.slice zl.a zl.l zl.c] 38)).alloc (.cells #[.bool zh.s,.slice zh.a zh.l zh.c] 38)).alloc (.cells #[.slice none 0 0] 23)).alloc (.cells #[.int .i64 0] 33)=w1 at*
 obtain⟨p,hpw⟩: ∃p,w1.heap.size=p:=⟨_,rfl⟩
 have hp:w.heap.size+4=p:=by omega
 have ba:=below_alloc w1 (.cells #[.slice none 0 0] 23)
 have x0:=y0.below ba
 have x1:=y1.below ba
 have t1:=(ba.block _ o_m).trans q1
 have t2:=(ba.block _ o_m).trans q2
 have xt:=heap_alloc_new w1 (.cells #[.slice none 0 0] 23)
 have b2:=grow_step ba b0
 have e0:=x0.c0
 have e1:=x0.c1
 have e2:=x1.c0
 have e3:=x1.c1
 have hs2:(w1.alloc (.cells #[.slice none 0 0] 23)).heap.size=p+1:=by simp[hpw]
 rw[hpw]at xt
 replace hp:=hide hp
 replace t1:=hide t1
 replace t2:=hide t2
 replace hs0:=hide hs0
 clear y0 y1 q1 q2 b0 ba
 gi_wp2
 try rw[hpw]
 generalize w1.alloc (.cells #[.slice none 0 0] 23)=w2 at*
 refine⟨trivial,(callsIn_wide.2 (pieces_n w2 bS zl zh)).mono ?_⟩
 clear e0 e1 e2 e3 x0 x1 hs0
 rintro e w3 ⟨rfl,rfl⟩
 rw[hs2]
 have bb:Below w2.heap.size w2 (((w2.alloc (.cells #[.pointer (some ⟨bS,0,none⟩)] 25)).alloc (.cells #[.bool zl.s,.slice zl.a zl.l zl.c] 38)).alloc (.cells #[.bool zh.s,.slice zh.a zh.l zh.c] 38)):=below_alloc' (below_alloc' (below_alloc _ _) _) _
 have s3:=((below_alloc' (below_alloc (w2.alloc (.cells #[.pointer (some ⟨bS,0,none⟩)] 25)) (.cells #[.bool zl.s,.slice zl.a zl.l zl.c] 38)) (.cells #[.bool zh.s,.slice zh.a zh.l zh.c] 38)).block w2.heap.size (by simp)).trans (heap_alloc_new w2 (.cells #[.pointer (some ⟨bS,0,none⟩)] 25))
 have x3:=(zb_new (w2.alloc (.cells #[.pointer (some ⟨bS,0,none⟩)] 25)) zl.s zl.a zl.l zl.c).below (below_alloc _ (.cells #[.bool zh.s,.slice zh.a zh.l zh.c] 38))
 have x4:=zb_new ((w2.alloc (.cells #[.pointer (some ⟨bS,0,none⟩)] 25)).alloc (.cells #[.bool zl.s,.slice zl.a zl.l zl.c] 38)) zh.s zh.a zh.l zh.c
 rw[hs2]at s3
 rw[show(w2.alloc (.cells #[.pointer (some ⟨bS,0,none⟩)] 25)).heap.size=p+2 by simp[hs2]]at x3
 rw[show((w2.alloc (.cells #[.pointer (some ⟨bS,0,none⟩)] 25)).alloc (.cells #[.bool zl.s,.slice zl.a zl.l zl.c] 38)).heap.size=p+3 by simp[hs2]]at x4
 have hs3:(((w2.alloc (.cells #[.pointer (some ⟨bS,0,none⟩)] 25)).alloc (.cells #[.bool zl.s,.slice zl.a zl.l zl.c] 38)).alloc (.cells #[.bool zh.s,.slice zh.a zh.l zh.c] 38)).heap.size=p+4:=by simp[hs2]
 have hlt: ∀{g:Nat}{o:Obj},w2.heap[g]? =some o→g<w2.heap.size:=fun h=>(Array.getElem?_eq_some_iff.1 h).1
 have t3:=(bb.block _ (hlt t1.out)).trans t1.out
 have t4:=(bb.block _ (hlt t2.out)).trans t2.out
 have xt5:=(bb.block _ (hlt xt)).trans xt
 have b3:=grow_step bb b2
 generalize ((w2.alloc (.cells #[.pointer (some ⟨bS,0,none⟩)] 25)).alloc (.cells #[.bool zl.s,.slice zl.a zl.l zl.c] 38)).alloc (.cells #[.bool zh.s,.slice zh.a zh.l zh.c] 38)=w4 at*
 clear bb t1 t2 xt b2 hlt
 gi_wp2
 refine range_enter rfl (enters_of Tryz.func107 k_f rfl) (fun fn r hr=> ?_)
 have b8:=below_alloc' (below_alloc w4 (.deferred (some []))) (.loop r)
 have hlt: ∀{g:Nat}{o:Obj},w4.heap[g]? =some o→g<w4.heap.size:=fun h=>(Array.getElem?_eq_some_iff.1 h).1
 have hJ0:LJ w p bS zl zh r [] (LF w p (.slice none 0 0)) ((w4.alloc (.deferred (some []))).alloc (.loop r)):=by
  refine⟨none,0,0,[],rfl,rfl,by decide,⟨(b8.block _ (hlt xt5)).trans xt5,World.ownsRow_nil _ _ _ _,prf_nil _ _⟩,⟨grow_step b8 b3,(b8.block _ (hlt s3)).trans s3,x3.below b8,x4.below b8⟩,(b8.block _ (hlt t3)).trans t3,(b8.block _ (hlt t4)).trans t4,?_,?_⟩
  ·have h1:=heap_alloc_new w4 (.deferred (some []))
   rw[hs3]at h1
   exact((below_alloc _ (.loop r)).block _ (by simp[hs3])).trans h1
  have h1:=heap_alloc_new (w4.alloc (.deferred (some []))) (.loop r)
  rw[show(w4.alloc (.deferred (some []))).heap.size=p+5 by simp[hs3]]at h1
  exact h1
 have hs5:((w4.alloc (.deferred (some []))).alloc (.loop r)).heap.size=p+6:=by simp[hs3]
 rw[hs3]
 generalize (w4.alloc (.deferred (some []))).alloc (.loop r)=W0 at*
 clear s3 x3 x4 t3 t4 xt5 b3 b8 hlt
 have hwf:=hS.wf
 have hall: ∀pre x n suf,lo≤hi→pre++(x,n)::suf=pcs hi D.cs lo→cntS (mem D) pre+cntQ (mem D) (x,n)≤cntI (mem D) lo hi:=fun pre x n suf hle h=>by
  rw[←cntS_pcs (mem D) (cs:=D.cs) hle]
  exact cntS_le2 _ h
 refine(pieces1_any (w0:=w) (bS:=bS) (sB:=p+1) (loB:=p+2) (hiB:=p+3) (l:=p+5) (L:=8589930000) (D:=D) (zl:=zl) (zh:=zh) (lo:=lo) (hi:=hi) hS hf hlo hll (by decide) (by decide) hhi o_m
  (fun F pre W=>LJ w p bS zl zh r (memS (mem D) pre) F W) (fun W=>LX w p r W∧1000<cntI (mem D) lo hi) ?_ ?_ ?_ ?_ (LF w p (.slice none 0 0)) hJ0).mono ?_
 ·rintro F pre W ⟨la,n,lc,q,rfl,-,-,hB,hC⟩
  have hpo:=hp.out
  have hob: ∀g,(Value.slice la n lc).ownBlock=some g→p+6≤g∧g<W.heap.size:=fun g e=>⟨(own_blk hB.own g e).1,(own_blk hB.own g e).2.lt⟩
  refine⟨hC.bx,?_,?_,?_,?_⟩
  ·rintro(h|h|h|h|h) <;> first|omega|(have:=hob _ h;omega)
  ·rintro(h|h|h|h|h) <;> first|omega|(have:=hob _ h;omega)
  ·rintro(h|h|h|h|h) <;> first|omega|(have:=hob _ h;omega)
  rintro b (rfl|rfl|rfl|rfl|h)
  ·exact⟨(Array.getElem?_eq_some_iff.1 hB.st).1,fun h=>own_u32 h hB.st (by decide) rfl⟩
  ·refine⟨(Array.getElem?_eq_some_iff.1 hC.lp).1,fun⟨cur,h⟩=> ?_⟩
   rw[hC.lp]at h
   cases h
  ·exact⟨(Array.getElem?_eq_some_iff.1 hC.r1).1,fun h=>own_u32 h hC.r1 (by decide) rfl⟩
  ·exact⟨(Array.getElem?_eq_some_iff.1 hC.r2).1,fun h=>own_u32 h hC.r2 (by decide) rfl⟩
  refine⟨(hob _ h).2,fun⟨cur,h2⟩=> ?_⟩
  exact Own.ne (own_blk hB.own _ h).2 h2 (by decide) rfl
 ·rintro F pre W W' ⟨la,n,lc,q,rfl,h1,h2,hB,hC⟩ k
  exact⟨la,n,lc,q,rfl,h1,h2,hB.below k,hC.below hp.out k⟩
 ·rintro F pre W W' bf ⟨la,n,lc,q,rfl,h1,h2,hB,hC⟩ hbf hFf ⟨s,a,l,c,hy⟩ ho
  rw[hs5]at hbf
  exact⟨la,n,lc,q,rfl,h1,h2,⟨(ho.block _ o_m).trans hB.st,own_only hB.own ho fun g e e2=>hFf (by subst e2;exact .inr (.inr (.inr (.inr e)))),hB.nu.blk (Nat.le_of_eq ho.size.symm) (u32_only ho hy (by decide))⟩,hC.only hp.out ho (.inr hbf)⟩
 ·rintro F pre x n pc W ⟨la,nn,lc,q,rfl,hnn,hn3,hB,hC⟩ hle ⟨suf,hsuf⟩ hpc hpcl
  obtain⟨hn1,hcn,hpl⟩:=pcs_one hwf.up hle hsuf
  have hcm:=hall pre x n suf hle hsuf
  clear hall hsuf hs2 hs3
  have hpo:=hp.out
  have hob0: ∀g,(Value.slice la nn lc).ownBlock=some g→p+6≤g∧g<W.heap.size:=fun g e=>⟨(own_blk hB.own g e).1,(own_blk hB.own g e).2.lt⟩
  suffices key: ∀R:Ending→World→Prop,Hid (∀W',(∃F',LJ w p bS zl zh r (memS (mem D) (pre++ [(x,n)])) F' W'∧∀b,F' b→LF w p (.slice la nn lc) b∨W.heap.size≤b)→Kb (LF w p (.slice la nn lc)) W W'→R (.returned (.bool true)) W')→Hid (∀W',LX w p r W'→1000<cntI (mem D) lo hi→Kb (LF w p (.slice la nn lc)) W W'→R (.returned (.bool false)) W')→YieldAt Fence.wide (3-1-1) Tryz.prog (p+5) #[pc.val] W R from key _ (hide fun W' ⟨F',h1,h2⟩ hk=>⟨hk,.inl ⟨rfl,F',h1,h2⟩⟩) (hide fun W' h1 h2 hk=>⟨hk,.inr ⟨rfl,h1,h2⟩⟩)
  intro R hR1 hR2
  refine round_at hr hC.lp rfl ?_
  clear hJ0
  gi_wp2
  have ba:=below_alloc W (.cells #[.bool pc.f.s,.slice pc.f.a pc.f.l pc.f.c,.int .i64 pc.per,.slice pc.ia pc.il pc.ic,.bool pc.h.s,.slice pc.h.a pc.h.l pc.h.c,.int .i64 pc.r] 99)
  have yp:PB _ W.heap.size pc:=heap_alloc_new W (.cells #[.bool pc.f.s,.slice pc.f.a pc.f.l pc.f.c,.int .i64 pc.per,.slice pc.ia pc.il pc.ic,.bool pc.h.s,.slice pc.h.a pc.h.l pc.h.c,.int .i64 pc.r] 99)
  have hlW:p+5<W.heap.size:=(Array.getElem?_eq_some_iff.1 hC.lp).1
  have hCa:=hC.below hpo ba
  have hBa:=hB.below ba
  have hpa:=hpc.kc (ck_below ba)
  refine⟨hCa.lp,?_⟩
  have hCc:=hCa.put hpo {r with state:=.busy}
  have hBc:=hBa.put hCa.lp (.loop {r with state:=.busy})
  have hpc2:=hpa.kc (ck_put hCa.lp (.loop {r with state:=.busy}))
  have ypc:PB ((W.alloc (.cells #[.bool pc.f.s,.slice pc.f.a pc.f.l pc.f.c,.int .i64 pc.per,.slice pc.ia pc.il pc.ic,.bool pc.h.s,.slice pc.h.a pc.h.l pc.h.c,.int .i64 pc.r] 99)).putObj (p+5) (.loop {r with state:=.busy})) W.heap.size pc:=(World.putObj_heap_other o_m).trans yp
  have hkc: ∀k,k<W.heap.size→¬LF w p (.slice la nn lc) k→((W.alloc (.cells #[.bool pc.f.s,.slice pc.f.a pc.f.l pc.f.c,.int .i64 pc.per,.slice pc.ia pc.il pc.ic,.bool pc.h.s,.slice pc.h.a pc.h.l pc.h.c,.int .i64 pc.r] 99)).putObj (p+5) (.loop {r with state:=.busy})).heap[k]? =W.heap[k]?:=fun k hk hF=>(World.putObj_heap_other fun e=>hF (.inr (.inl e))).trans (ba.block k hk)
  generalize ((W.alloc (.cells #[.bool pc.f.s,.slice pc.f.a pc.f.l pc.f.c,.int .i64 pc.per,.slice pc.ia pc.il pc.ic,.bool pc.h.s,.slice pc.h.a pc.h.l pc.h.c,.int .i64 pc.r] 99)).putObj (p+5) (.loop {r with state:=.busy}))=Wc at*
  have hWc:=ypc.lt
  clear ba yp hCa hBa hpa hC hB hpc
  obtain⟨bp,hbp⟩: ∃bp,W.heap.size=bp:=⟨_,rfl⟩
  rw[hbp]at ypc hlW hWc hob0 ⊢
  have hwr:IntKind.i64.wrap (1000-(nn:Int))=1000-(nn:Int):=by rw[IntKind.wrap_i64];omega
  have hnn2:Hid (nn=cntS (mem D) pre):=hide (by rw[hnn,memS_len])
  replace hnn:=hide hnn
  replace hbp:=hide hbp
  replace hkc:=hide hkc
  replace hp:=hide hpo
  replace hcm:=hide hcm
  replace hcn:=hide hcn
  replace hob0:=hide hob0
  clear hpo hpl
  gi_upto_region 6 with(fail)
  refine region_G (S:=(fun w'=>(w'.cell? ⟨bp,0,none⟩=some (.bool pc.f.s)∧w'.cell? ⟨bp,1,none⟩=some (.slice pc.f.a pc.f.l pc.f.c)∧w'.cell? ⟨bp,2,none⟩=some (.int .i64 pc.per)∧w'.cell? ⟨bp,3,none⟩=some (.slice pc.ia pc.il pc.ic)∧w'.cell? ⟨bp,4,none⟩=some (.bool pc.h.s)∧w'.cell? ⟨bp,5,none⟩=some (.slice pc.h.a pc.h.l pc.h.c)∧w'.cell? ⟨bp,6,none⟩=some (.int .i64 pc.r))∧w'.cell? ⟨p,0,none⟩=some (.slice la nn lc))) k_f (fun _=>trivial) (by decide+kernel) (⟨(ypc.below (grow_drew (Below.refl _ _))).all,cell_of_row _ p 0 _ _ (0,0) (hBc.below (grow_drew (Below.refl _ _))).st⟩) (fun hHeld=> ?_)
  show anyG _ _ _ _ _ _ _ 8 _ _ _
  have kW:=grow_drew (Below.refl Wc.heap.size Wc)
  have hCW:=hCc.below hp.out kW
  have hBW:=hBc.below kW
  have ypW:=ypc.below kW
  have hpW:=hpc2.kc (ck_below kW)
  clear hCc hBc ypc hpc2
  generalize Wc.drew=wQ at*
  refine anyG_take (i:=0) (oi:=⟨some 17,_,_,_,_,_⟩) (v:=?_) rfl (by decide+kernel) (by decide+kernel) (by decide+kernel) (fun _ _ _ h=>h) (Or.inl ⟨by rfl,?_⟩) (by assumption) ?_
  rotate_left
  ·intro wq hSw;(try dsimp only at hSw);go_simp;(try with_reducible rfl)
  (try simp only[pz])
  refine anyG_take (i:=2) (oi:=⟨some 19,_,_,_,_,_⟩) (v:=?_) rfl (by decide+kernel) (by decide+kernel) (by decide+kernel) (fun _ _ _ h=>h) (Or.inl ⟨by rfl,?_⟩) (by assumption) ?_
  rotate_left
  ·intro wq hSw;(try dsimp only at hSw);go_simp;(try with_reducible rfl)
  (try simp only[pz])
  refine anyG_take (i:=3) (oi:=⟨some 20,_,_,_,_,_⟩) (v:=?_) rfl (by decide+kernel) (by decide+kernel) (by decide+kernel) (fun _ _ _ h=>h) (Or.inl ⟨by rfl,?_⟩) (by assumption) ?_
  rotate_left
  ·intro wq hSw;(try dsimp only at hSw);go_simp;(try with_reducible rfl)
  (try simp only[pz])
  refine anyG_take (i:=4) (oi:=⟨some 21,_,_,_,_,_⟩) (v:=?_) rfl (by decide+kernel) (by decide+kernel) (by decide+kernel) (fun _ _ _ h=>h) (Or.inl ⟨by rfl,?_⟩) (by assumption) ?_
  rotate_left
  ·intro wq hSw;(try dsimp only at hSw);go_simp;(try with_reducible rfl)
  (try simp only[pz])
  refine anyG_ready (rs:=[1]) (by decide+kernel) (by simp) ?_
  refine ReadyG.cons (i:=1) (o:=⟨some 18,_,_,_,_,_⟩) (by decide+kernel) rfl (fun K hK=> ?_) ReadyG.nil
  go_simp
  refine⟨trivial,CallsIn.inRound _ ((callsIn_wide.2 (count_k hwf.p1 hwf.p2 hpW o_m hcn.out)).mono ?_)⟩
  rintro e wA ⟨sA,aA,lA,cA,rfl,hzA,hlA,kA⟩
  have hCW:=hCW.below hp.out kA
  have hBW:=hBW.below kA
  have ypW:=ypW.below kA
  have hpW:=hpW.kc (ck_below kA)
  have kW:=grow_step kA kW
  try gi_wp2
  refine hK.out _ _ ?_ ?_
  ·first|with_reducible exact trivial|((try dsimp only);exact⟨ypW.all,cell_of_row _ p 0 _ _ (0,0) hBW.st⟩)
  clear hK K hHeld;intro hHeld
  (try simp only[pz])
  refine anyG_ready (rs:=[5]) (by decide+kernel) (by simp) ?_
  refine ReadyG.cons (i:=5) (o:=⟨some 22,_,_,_,_,_⟩) (by decide+kernel) rfl (fun K hK=> ?_) ReadyG.nil
  go_simp
  refine⟨trivial,CallsIn.inRound _ ((callsIn_wide.2 (zof_n (1000-(nn:Int)) o_m o_m _)).mono ?_)⟩
  rintro e wB ⟨sB2,aB,lB,cB,rfl,hzB,kB,hlB⟩
  have hCW:=hCW.below hp.out kB
  have hBW:=hBW.below kB
  have ypW:=ypW.below kB
  have hpW:=hpW.kc (ck_below kB)
  try have hzA:=hzA.below kB
  have kW:=grow_step kB kW
  try gi_wp2
  refine hK.out _ _ ?_ ?_
  ·first|with_reducible exact trivial|((try dsimp only);exact⟨ypW.all,cell_of_row _ p 0 _ _ (0,0) hBW.st⟩)
  clear hK K hHeld;intro hHeld
  (try simp only[pz])
  refine anyG_ready (rs:=[6]) (by decide+kernel) (by simp) ?_
  refine ReadyG.cons (i:=6) (o:=⟨some 23,_,_,_,_,_⟩) (by decide+kernel) rfl (fun K hK=> ?_) ReadyG.nil
  go_simp
  refine⟨trivial,CallsIn.inRound _ ((callsIn_wide.2 (zcmp_n hzA.zm hzB.zm o_m o_m)).mono ?_)⟩
  rintro e wD ⟨rfl,kD⟩
  have hCW:=hCW.below hp.out kD
  have hBW:=hBW.below kD
  have ypW:=ypW.below kD
  have hpW:=hpW.kc (ck_below kD)
  try have hzA:=hzA.below kD
  try have hzB:=hzB.below kD
  have kW:=grow_step kD kW
  try gi_wp2
  refine hK.out _ _ ?_ ?_
  ·first|with_reducible exact trivial|((try dsimp only);exact⟨ypW.all,cell_of_row _ p 0 _ _ (0,0) hBW.st⟩)
  clear hK K hHeld;intro hHeld
  (try simp only[pz])
  refine anyG_take (i:=7) (oi:=⟨some 24,_,_,_,_,_⟩) (v:=?_) rfl (by decide+kernel) (by decide+kernel) (by decide+kernel) (fun _ _ _ h=>h) (Or.inl ⟨by rfl,?_⟩) (by assumption) ?_
  rotate_left
  ·intro wq hSw;(try dsimp only at hSw);go_simp;(try with_reducible rfl)
  (try simp only[pz])
  refine anyG_done ?_ ?_ _
  ·decide+kernel
  clear hHeld
  have hgt:=(cmpI_lt ((cntQ (mem D) (x,n):Nat):Int) (1000-(nn:Int))).2.2
  generalize cmpI ((cntQ (mem D) (x,n):Nat):Int) (1000-(nn:Int))=v at*
  have hC8:=hide hCW
  have hB8:=hide hBW
  have yp8:=hide ypW
  have hp8:=hide hpW
  have kW6:=hide kW
  clear hCW hBW ypW hpW hzA hzB kW
  clear hwr hpw
  generalize htb:decide (0<v)=tb
  cases tb with
  |true=>
   have hbig:1000-(nn:Int)<((cntQ (mem D) (x,n):Nat):Int):=hgt.1 (of_decide_eq_true htb)
   have hpo:=hp.out
   have c1:wD.cell? ⟨w.heap.size+1+1,0,none⟩=some (.slice none 0 0):=cell_of_row wD (w.heap.size+2) 0 _ _ (0,0) hC8.out.r1
   have c2:wD.cell? ⟨w.heap.size+1+1+1,0,none⟩=some (.int .i64 0):=cell_of_row wD (w.heap.size+3) 0 _ _ (0,0) hC8.out.r2
   have f1:wD.frozen? ⟨w.heap.size+1+1,0,none⟩=false:=frozen_of_row wD (w.heap.size+2) 0 _ _ hC8.out.r1
   have f2:wD.frozen? ⟨w.heap.size+1+1+1,0,none⟩=false:=frozen_of_row wD (w.heap.size+3) 0 _ _ hC8.out.r2
   have o1:=Only.set (w.heap.size+2) 0 wD (.slice none 0 0)
   have o2:=Only.set (w.heap.size+3) 0 (wD.setCell ⟨w.heap.size+2,0,none⟩ (.slice none 0 0)) (.int .i64 2)
   have h1:=heap_setCell_same wD (w.heap.size+2) 0 _ 23 (.slice none 0 0) hC8.out.r1
   have h1':=(o2.block _ o_m).trans h1
   have h2':=heap_setCell_same (wD.setCell ⟨w.heap.size+2,0,none⟩ (.slice none 0 0)) (w.heap.size+3) 0 _ 33 (.int .i64 2) ((o1.block _ o_m).trans hC8.out.r2)
   have hdf:=(o2.block _ o_m).trans ((o1.block _ o_m).trans hC8.out.df)
   have hlp:=hide ((o2.block _ o_m).trans ((o1.block _ o_m).trans hC8.out.lp))
   have hbl:=(hC8.out.bx.bel.trans (o1.below o_m)).trans (o2.below o_m)
   have hX:Hid (LX w p r (((wD.setCell ⟨w.heap.size+2,0,none⟩ (.slice none 0 0)).setCell ⟨w.heap.size+3,0,none⟩ (.int .i64 2)).putObj (p+5) (.loop {r with state:=.done,pending:=some .ret}))):=hide ⟨hbl.trans (bel_put _ o_m),(World.putObj_heap_other o_m).trans h1',(World.putObj_heap_other o_m).trans h2',(World.putObj_heap_other o_m).trans hdf,World.putObj_heap_same (Array.getElem?_eq_some_iff.1 hlp.out).1⟩
   have hK9:Hid (Kb (LF w p (.slice la nn lc)) W (((wD.setCell ⟨w.heap.size+2,0,none⟩ (.slice none 0 0)).setCell ⟨w.heap.size+3,0,none⟩ (.int .i64 2)).putObj (p+5) (.loop {r with state:=.done,pending:=some .ret}))):=hide ⟨by
     have:=kW6.out.size
     have:=o1.size
     have:=o2.size
     have:=hbp.out
     simp only[World.putObj,Array.size_setIfInBounds]
     omega,fun k hk hF=>by
     have:=kW6.out.size
     have hb:=hbp.out
     rw[World.putObj_heap_other (fun e=>hF (.inr (.inl e))),o2.block k (fun e=>hF (.inr (.inr (.inr (.inl e))))),o1.block k (fun e=>hF (.inr (.inr (.inl e)))),kW6.out.block k o_m]
     exact hkc.out k o_m hF⟩
   have hlong:Hid (1000<cntI (mem D) lo hi):=hide (by have:=hcm.out;have:=hnn2.out;omega)
   clear hgt hbig htb o1 o2 h1 h1' h2' hdf hbl hC8 hB8 yp8 hp8 hpo
   gi_wp2
   exact⟨hlp.out,hR2.out _ hX.out hlong.out hK9.out⟩
  |false=>
   have hbig: ¬(1000-(nn:Int)<((cntQ (mem D) (x,n):Nat):Int)):=fun h=>of_decide_eq_false htb (hgt.2 h)
   have hfew:cntQ (mem D) (x,n)≤1000∧nn+cntQ (mem D) (x,n)≤1000:=by omega
   clear hgt hbig htb
   gi_upto_region 8 with(fail)
   refine region_G (S:=(fun w'=>w'.cell? ⟨bp,0,none⟩=some (.bool pc.f.s)∧w'.cell? ⟨bp,1,none⟩=some (.slice pc.f.a pc.f.l pc.f.c)∧w'.cell? ⟨bp,2,none⟩=some (.int .i64 pc.per)∧w'.cell? ⟨bp,3,none⟩=some (.slice pc.ia pc.il pc.ic)∧w'.cell? ⟨bp,4,none⟩=some (.bool pc.h.s)∧w'.cell? ⟨bp,5,none⟩=some (.slice pc.h.a pc.h.l pc.h.c)∧w'.cell? ⟨bp,6,none⟩=some (.int .i64 pc.r))) k_f (fun _=>trivial) (by decide+kernel) ((yp8.out.below (grow_drew (Below.refl _ _))).all) (fun hHeld=> ?_)
   show anyG _ _ _ _ _ _ _ 5 _ _ _
   have kW:=grow_drew (Below.refl wD.heap.size wD)
   have hCW:=hC8.out.below hp.out kW
   have hBW:=hB8.out.below kW
   have ypW:=yp8.out.below kW
   have hpW:=hp8.out.kc (ck_below kW)
   have kA0:=kW
   generalize hwA0:wD=wA0 at*
   generalize wA0.drew=wQ at*
   repeat' first
    |with_reducible exact ReadyG.nil
    |(
     refine anyG_take (i:=1) (oi:=⟨some 26,_,_,_,_,_⟩) (v:=?_) rfl (by decide+kernel) (by decide+kernel) (by decide+kernel) (fun _ _ _ h=>h) (Or.inl ⟨by rfl,?_⟩) (by assumption) ?_
     rotate_left
     ·intro wq hSw;(try dsimp only at hSw);go_simp;(try with_reducible rfl)
     (try simp only[pz]))
    |(refine anyG_ready (rs:=[0,2]) ?_ ?_ ?_;decide+kernel;simp)
    |(refine anyG_ready (rs:=[2]) ?_ ?_ ?_;decide+kernel;simp)
    |(refine anyG_ready (rs:=[3]) ?_ ?_ ?_;decide+kernel;simp)
    |(refine anyG_ready (rs:=[4]) ?_ ?_ ?_;decide+kernel;simp)
    |(refine anyG_ready (rs:=[0]) ?_ ?_ ?_;decide+kernel;simp)
    |(
     first
      |(
       refine ReadyG.cons (i:=0) (o:=⟨some 25,_,_,_,_,_⟩) (by decide+kernel) rfl (fun K hK=> ?_) ?_
       have f0:=cell_of_row _ p 0 _ _ (0,0) hBW.st
       go_simp)
      |(
       refine ReadyG.cons (i:=2) (o:=⟨some 27,_,_,_,_,_⟩) (by decide+kernel) rfl (fun K hK=> ?_) ?_
       go_simp
       refine⟨trivial,CallsIn.inRound _ ((callsIn_wide.2 (members_n (F:=w.heap.size) (by have:=ypW.lt;have:=hp.out;omega) hwf.p1 hwf.p2 hpW o_m hcn.out hpcl o_m)).mono ?_)⟩
       rintro e wA ⟨ma,mc,mm,mq,rfl,hsrc,kA⟩
       have hCW:=hCW.below hp.out kA
       have hBW:=hBW.below kA
       have ypW:=ypW.below kA
       have hpW:=hpW.kc (ck_below kA)
       have kW:=grow_step kA kW
       have kA0:=grow_step kA kA0
       try gi_wp2)
      |(
       refine ReadyG.cons (i:=3) (o:=⟨some 28,_,_,_,_,_⟩) (by decide+kernel) rfl (fun K hK=> ?_) ?_
       have hml:Hid (mm=cntQ (mem D) (x,n)):=hide (by rw[←hsrc.1,hsrc.2.1.len,memQ_len])
       have hrun:=runN hBW.own hsrc (by have:=hml.out;omega) (by have:=ypW.lt;omega)
       refine anyG_append (fun _=>trivial) rfl _ _ 23 rfl (.slice la nn lc) (.slice ma mm mc) rfl rfl _ (hrun _) ?_
       rintro v7 w7 ⟨o7,g7,hat7⟩
       have hob:=own_blk hBW.own
       have qW:=(hBW.nu.app hsrc.2.1).blk g7.size (u32_grown g7 (fun g e=>(hob g e).2) (by decide))
       have sW:=(g7.block _ (Array.getElem?_eq_some_iff.1 hBW.st).1 fun e=>by have:=(hob _ e.symm).1;omega).trans hBW.st
       have hCW:=hCW.grown hp.out g7 (fun g e=>(hob g e).1)
       have ypW:PB w7 bp pc:=(g7.block _ ypW.lt fun e=>by have:=(hob0.out _ e.symm).2;omega).trans ypW
       have kG: ∀k,k<wA0.heap.size→(Value.slice la nn lc).ownBlock≠some k→w7.heap[k]? =wA0.heap[k]?:=fun k hk hne=>(g7.block k (by have:=kA0.size;omega) (fun e=>hne e.symm)).trans (kA0.block k hk)
       have hg7:=g7.size
       have hsz7:=kA0.size
       obtain⟨-,la7,lc7,rfl,-⟩:=own_any (by decide) zv_len o7
       clear hob g7 hsrc hBW hpW hrun)
      |(
       refine ReadyG.cons (i:=4) (o:=⟨none,_,_,_,_,_⟩) (by decide+kernel) rfl (fun K hK=> ?_) ?_
       have f0:=cell_of_row _ p 0 _ _ (0,0) sW
       have f1:=frozen_of_row _ p 0 _ _ sW
       have oS:=Only.set p 0 w7 (.slice la7 (nn+mm) lc7)
       have hs8:=heap_setCell_same w7 p 0 _ 23 (.slice la7 (nn+mm) lc7) sW
       have qW:=qW.blk (Nat.le_of_eq oS.size.symm) (u32_only oS sW (by decide))
       have hCW:=hCW.only hp.out oS (.inl rfl)
       have ypW:=ypW.only oS o_m
       have o7:=own_only o7 oS (fun g e=>by have:=(own_blk o7 g e).1;omega)
       go_simp
       clear sW f0 f1)
     refine hK.out _ _ ?_ ?_
     ·first|with_reducible exact trivial|((try dsimp only);exact ypW.all)
     clear hK K hHeld;intro hHeld
     (try simp only[pz]))
   all_goals
    refine anyG_done ?_ ?_ _
    ·decide+kernel
    clear hHeld
    have hpo:=hp.out
    have hbo:=hbp.out
    have hC9:=hCW.put hpo {r with state:=.ready,pending:=none}
    have hB8:LB w.heap.size p la7 (nn+mm) lc7 _ _ _:=⟨hs8,o7,qW⟩
    have hB9:=hB8.put hCW.lp (.loop {r with state:=.ready,pending:=none})
    have hK9:Kb (LF w p (.slice la nn lc)) W ((w7.setCell ⟨p,0,none⟩ (.slice la7 (nn+mm) lc7)).putObj (p+5) (.loop {r with state:=.ready,pending:=none})):=⟨by
     have h1:=oS.size
     have h2:=kW6.out.size
     simp only[World.putObj,Array.size_setIfInBounds]
     omega,fun k hk hF=>by
     have h2:=kW6.out.size
     rw[World.putObj_heap_other (fun e=>hF (.inr (.inl e))),oS.block k (fun e=>hF (.inl e)),kG k o_m (fun e=>hF (.inr (.inr (.inr (.inr e))))),kW6.out.block k o_m]
     exact hkc.out k o_m hF⟩
    have hFF: ∀b,LF w p (.slice la7 (nn+mm) lc7) b→LF w p (.slice la nn lc) b∨W.heap.size≤b:=by
     have h2:=kW6.out.size
     rintro b (h|h|h|h|h)
     ·exact .inl (.inl h)
     ·exact .inl (.inr (.inl h))
     ·exact .inl (.inr (.inr (.inl h)))
     ·exact .inl (.inr (.inr (.inr (.inl h))))
     rcases hat7 with e|e
     ·rw[e]at h
      exact .inl (.inr (.inr (.inr (.inr h))))
     rw[e]at h
     injection h with h
     refine .inr ?_
     omega
    have hmlen:nn+mm=(memS (mem D) (pre++ [(x,n)])).length:=by
     rw[memS_len,cntS_snoc,hnn2.out,hml.out]
    rw[←memS_snoc]at hB9
    refine⟨hCW.lp,hR1.out _ ?_ ?_⟩
    ·rw[lrec_again hr]at hC9 hB9 ⊢
     exact⟨_,⟨la7,nn+mm,lc7,_,rfl,hmlen,by have:=hml.out;omega,hB9,hC9⟩,hFF⟩
    rw[lrec_again hr]at hK9 ⊢
    exact hK9
 rintro e W' ⟨hret,⟨F,la,nn,lc,q,rfl,hnn,hn3,hB,hC⟩|⟨hX,hlong⟩⟩
 ·refine⟨hret,.inl ⟨hC.lp,?_⟩⟩
  have hpo:=hp.out
  have hC2:=hC.put hpo {r with state:=.exhausted}
  have hB2:=hB.put hC.lp (.loop {r with state:=.exhausted})
  have hnn2:Hid (nn=cntS (mem D) (pcA D.cs lo hi)):=hide (by rw[hnn,memS_len])
  clear hJ0 hC hB hnn
  generalize W'.putObj (p+5) (.loop {r with state:=.exhausted})=Wf at*
  have c0:=cell_of_row Wf p 0 _ _ (0,0) hB2.st
  have c1:=cell_of_row Wf (w.heap.size+2) 0 _ _ (0,0) hC2.r1
  have c2:=cell_of_row Wf (w.heap.size+3) 0 _ _ (0,0) hC2.r2
  have f1:=frozen_of_row Wf (w.heap.size+2) 0 _ _ hC2.r1
  have f2:=frozen_of_row Wf (w.heap.size+3) 0 _ _ hC2.r2
  have o1:=Only.set (w.heap.size+2) 0 Wf (.slice la nn lc)
  have o2:=Only.set (w.heap.size+3) 0 (Wf.setCell ⟨w.heap.size+2,0,none⟩ (.slice la nn lc)) (.int .i64 0)
  have h1:=heap_setCell_same Wf (w.heap.size+2) 0 _ 23 (.slice la nn lc) hC2.r1
  have h1':=hide ((o2.block _ o_m).trans h1)
  have h2':=hide (heap_setCell_same (Wf.setCell ⟨w.heap.size+2,0,none⟩ (.slice la nn lc)) (w.heap.size+3) 0 _ 33 (.int .i64 0) ((o1.block _ o_m).trans hC2.r2))
  have hr2:=(o1.block (w.heap.size+3) o_m).trans hC2.r2
  have hdf:=hide ((o2.block _ o_m).trans ((o1.block _ o_m).trans hC2.df))
  have ho9:=hide (own_only (own_only hB2.own o1 fun g e=>by have:=(own_blk hB2.own g e).1;omega) o2 fun g e=>by have:=(own_blk hB2.own g e).1;omega)
  have hq9:=hide ((hB2.nu.blk (Nat.le_of_eq o1.size.symm) (u32_only o1 hC2.r1 (by decide))).blk (Nat.le_of_eq o2.size.symm) (u32_only o2 hr2 (by decide)))
  have hbl:=hide ((hC2.bx.bel.trans (o1.below o_m)).trans (o2.below o_m))
  replace hpo:=hide hpo
  clear hC2 hB2 o1 o2 h1 hr2
  gi_wp2
  refine⟨by simp,.inl ⟨_,_,rfl,run_takeDeferred hdf.out,?_⟩⟩
  have hpo2:=hpo.out
  refine⟨_,results_si rfl _ _ (w.heap.size+2) (w.heap.size+3) _ _ 23 33 (0,0) (0,0) rfl rfl ((World.putObj_heap_other o_m).trans h1'.out) ((World.putObj_heap_other o_m).trans h2'.out) Tryz.underlying23 Tryz.underlying33,?_⟩
  have hv:memS (mem D) (pcA D.cs lo hi)=memI (mem D) lo hi:=by
   unfold pcA
   split
   ·rename_i h
    unfold memI
    rw[show(hi-lo+1).toNat=0 by omega]
    rfl
   exact memS_pcs _ o_m
  have hq10:=hq9.out
  rw[hv]at hq10
  have h4:=own_mv (W':=((Wf.setCell ⟨w.heap.size+2,0,none⟩ (.slice la nn lc)).setCell ⟨w.heap.size+3,0,none⟩ (.int .i64 0)).putObj (p+4) (.deferred none)) ho9.out fun g e=>World.putObj_heap_other (by have:=(own_blk ho9.out g e).1;omega)
  have h5:=hq10.blk (w':=((Wf.setCell ⟨w.heap.size+2,0,none⟩ (.slice la nn lc)).setCell ⟨w.heap.size+3,0,none⟩ (.int .i64 0)).putObj (p+4) (.deferred none)) (by simp[World.putObj]) fun g hg=>World.putObj_heap_other fun e=>by
   obtain⟨cur,h2⟩:=hg
   rw[e,hdf.out]at h2
   cases h2
  have hp10:p+6=w.heap.size+10:=by have:=hp.out;omega
  rw[hp10]at h4
  exact⟨hbl.out.trans (bel_put _ o_m),.inl ⟨_,_,_,rfl,hn3,h4,h5⟩⟩
 refine⟨hret,.inr ⟨.ret,hX.lp,?_⟩⟩
 have hpo:=hp.out
 clear hJ0
 gi_wp2
 have hdf:=(World.putObj_heap_other (r:=p+5) (o:=.loop {r with state:=.exhausted,pending:=some .ret}) o_m).trans hX.df
 refine⟨by simp,.inl ⟨_,_,rfl,run_takeDeferred hdf,?_⟩⟩
 refine⟨_,results_si rfl _ _ (w.heap.size+2) (w.heap.size+3) _ _ 23 33 (0,0) (0,0) rfl rfl ((World.putObj_heap_other o_m).trans ((World.putObj_heap_other o_m).trans hX.r1)) ((World.putObj_heap_other o_m).trans ((World.putObj_heap_other o_m).trans hX.r2)) Tryz.underlying23 Tryz.underlying33,?_⟩
 exact⟨(hX.bel.trans (bel_put _ o_m)).trans (bel_put _ o_m),.inr ⟨rfl,hlong⟩⟩
def LsO (w:World)(f:Int→Bool)(lo hi:Int)(e:Ending)(w':World):Prop:=Below w.heap.size w w'∧
 ((∃a n c,e= .returned (.tuple #[.slice a n c,.int .i64 0])∧n≤1000∧SN w' a n (memI f lo hi))∨(e= .returned (.tuple #[.slice none 0 0,.int .i64 2])∧1000<cntI f lo hi))
theorem List_n {D:PD}{zl zh:ZV}{lo hi:Int}(hS:PS w bS D)(hf:D.cs.length≤1073741823)(hlo:Zm w zl.s zl.a zl.l zl.c lo)(hll:zl.l≤8589930000)(hhi:Zm w zh.s zh.a zh.l zh.c hi)(hhl:zh.l≤8589930000):
  Calls Tryz.prog 22 #[.pointer (some ⟨bS,0,none⟩),.agg #[.bool zl.s,.slice zl.a zl.l zl.c],.agg #[.bool zh.s,.slice zh.a zh.l zh.c]] w fun e w'=>LsO w (mem D) lo hi e w':=
 (List_f hS hf hlo hll hhi hhl).mono fun _ _ h=>⟨h.1,h.2.imp (fun⟨v,n,q,h1,h2,h3,h4⟩=>by
  obtain⟨a',c',e',hsn⟩:=sn_own h3 h4.prg
  rw[e']at h1
  exact⟨_,_,_,h1,h2,hsn⟩) id⟩
end Pd
end Go.Proofs.YtaafoppaepcaeaaGreat

namespace Go.Proofs.YtaafoppaepcaeaaGreat
open Go.RowKit Go.Sort
namespace Pd

theorem ints19_t {s:Bool}{a1 a2:Option Addr}{l c1 c2:Nat}{zs:List Int}{w:World}(h1:Rd w a1 l c1 zs)(h2:Rd w a2 l c2 zs):
  Calls Tryz.prog 20 #[.agg #[.bool s,.slice a1 l c1],.agg #[.bool s,.slice a2 l c2]] w fun e w'=>e= .returned (.bool true)∧Below w.heap.size w w':=by
 have hll:=h1.2.1
 have hlc:=h1.2.2.1
 have hss:(s !=s)=false:=by simp
 have hnn:((l:Int) !=(l:Int))=false:=by simp
 go_enter Tryz.func20,Tryz.ntmps20
 go_wp2_with fail
 have b0:Below w.heap.size w ((w.alloc (.cells #[.bool s,.slice a1 l c1] 38)).alloc (.cells #[.bool s,.slice a2 l c2] 38)):=below_alloc' (below_alloc _ _) _
 have y1:=Bk.below (heap_alloc_new w (.cells #[.bool s,.slice a1 l c1] 38)) (below_alloc _ (.cells #[.bool s,.slice a2 l c2] 38))
 have y2:((w.alloc (.cells #[.bool s,.slice a1 l c1] 38)).alloc (.cells #[.bool s,.slice a2 l c2] 38)).heap[w.heap.size+1]? =some (.cells #[.bool s,.slice a2 l c2] 38 (0,0)):=by
  have:=heap_alloc_new (w.alloc (.cells #[.bool s,.slice a1 l c1] 38)) (.cells #[.bool s,.slice a2 l c2] 38)
  simpa using this
 replace h1:=h1.below b0
 replace h2:=h2.below b0
 generalize (w.alloc (.cells #[.bool s,.slice a1 l c1] 38)).alloc (.cells #[.bool s,.slice a2 l c2] 38)=wb at*
 have p0:=cell_of_row wb _ 0 _ _ (0,0) y1
 have p1:=cell_of_row wb _ 1 _ _ (0,0) y1
 have q0:=cell_of_row wb _ 0 _ _ (0,0) y2
 have q1:=cell_of_row wb _ 1 _ _ (0,0) y2
 go_loopw [5] (fun i wr=> ∃(k n:Nat),k≤l∧i= .int .i64 k∧wr=wb.drewN n) (fun i _=>l-(intOf i).toNat)
 case atStart=>exact⟨0,0,Nat.zero_le _,rfl,rfl⟩
 case round=>
  obtain⟨k,n,hk,rfl,rfl⟩:=hrel
  by_cases hkl:k<l
  ·obtain⟨_,_,_,hL,⟨rfl,e,_⟩|⟨x1,rfl,e|⟨b1,o1,rfl,hb1,hc1⟩⟩⟩:=h1
   ·omega
   ·omega
   obtain⟨_,_,_,_,⟨rfl,e,_⟩|⟨x2,rfl,e|⟨b2,o2,rfl,hb2,hc2⟩⟩⟩:=h2
   ·omega
   ·omega
   have u1:=hc1 k hkl
   have u2:=hc2 k hkl
   have hbd:=lz_bd hL k
   clear hc1 hc2
   generalize lz zs k=z at*
   go_wp2_with fail
   go_quiet (fail)
   go_wp2_with fail
   exact⟨⟨k+1,n+nq,by omega,by go_num,rfl⟩,by simp[intOf];omega⟩
  obtain rfl:k=l:=by omega
  go_wp2_with fail
  go_ret
  exact⟨rfl,b0.trans (below_drewN _ _ _)⟩
theorem ints19_zn {z y:ZV}{x:Int}{w:World}(h1:Zn w z.s z.a z.l z.c x)(h2:Zn w y.s y.a y.l y.c x):Calls Tryz.prog 20 #[.agg #[.bool z.s,.slice z.a z.l z.c],.agg #[.bool y.s,.slice y.a y.l y.c]] w fun e w'=>e= .returned (.bool true)∧Below w.heap.size w w':=by
 obtain⟨hs,hl⟩:=zn_same h1 h2
 obtain⟨n,⟨zs,hr,hc,hv⟩,hx,-⟩:=h1
 obtain⟨n',⟨zs',hr',hc',hv'⟩,hx',-⟩:=h2
 have b1:=val_nonneg hr.2.2.2.1
 have b2:=val_nonneg hr'.2.2.2.1
 have e:n=n':=by
  rw[hx]at hx'
  unfold sg at hx'
  split at hx' <;> split at hx' <;> omega
 subst e
 have:=canon_inj hc hc' (hv.trans hv'.symm)
 subst this
 obtain⟨s,a,l,c⟩:=z
 obtain⟨s',a',l',c'⟩:=y
 dsimp only at hs hl hr hr'
 subst hs hl
 exact ints19_t hr hr'

theorem num_n (k:Int)(h0: -9223372036854775808≤k)(h1:k≤9223372036854775807)(w:World):Calls Tryz.prog 61 #[.int .i64 k] w fun e w'=> ∃z:ZV,e= .returned (.agg #[.bool z.s,.slice z.a z.l z.c])∧Zn w' z.s z.a z.l z.c k∧Below w.heap.size w w'∧z.l≤2:=by
 have b1:=below_alloc w (.cells #[.bool false,.slice none 0 0] 38)
 have y1:=zb_new w false none 0 0
 have hof:=hide (rof_n k h0 h1 (w.alloc (.cells #[.bool false,.slice none 0 0] 38)))
 replace b1:=hide b1
 replace y1:=hide y1
 go_enter Tryz.func61,Tryz.ntmps61
 go_upto_region 1 with(fail)
 generalize w.alloc (.cells #[.bool false,.slice none 0 0] 38)=w0 at*
 obtain⟨bx,hbx⟩: ∃bx,w.heap.size=bx:=⟨_,rfl⟩
 rw[hbx]at y1 ⊢
 have hbw:Hid (w.heap.size=bx):=hide hbx
 clear hbx
 go_wp2_with fail
 refine hof.out.mono ?_
 rintro e w1 ⟨s',a',l',c',rfl,hz1,k1,hl⟩
 have r1:=y1.out.below k1
 have r2:=r1.c0
 have r3:=r1.c1
 have r4:=r1.f 0
 have r5:=r1.f 1
 have hzf:=hide (zb_zn r1 hz1 s' a' l' c')
 have kf:=hide (((grow_step k1 b1.out).setCell (p:=⟨bx,0,none⟩) (show w.heap.size≤bx by have:=hbw.out;omega) (.bool s')).setCell (p:=⟨bx,1,none⟩) (show w.heap.size≤bx by have:=hbw.out;omega) (.slice a' l' c'))
 have hfin:=hide (zb_fin r1 s' a' l' c')
 clear hof k1 r1 hz1
 go_wp2
 refine bodyPost_ret (results_cell_row rfl _ _ bx 38 _ (0,0) _ rfl hfin.out Tryz.underlying38 rfl k_f) rfl ?_
 exact⟨⟨s',a',l',c'⟩,by simp,hzf.out,kf.out,hl⟩
theorem kn_data {D:PD}(h: ∀x,mem D x=(decide (3<x)&&decide (x%4=1%4))):cntI (mem D) 0 20=4∧cntI (mem D) 0 14=3:=by
 have e:mem D=fun x=>(decide (3<x)&&decide (x%4=1%4)):=funext h
 rw[e]
 decide
theorem kn_next {D:PD}(h: ∀x,mem D x=(decide (3<x)&&decide (x%4=1%4))){w':World}{en:Ending}{B:Nat}(hN:Nst w' en (mem D) 6 1 B): ∃z:ZV,en= .returned (.tuple #[.agg #[.bool z.s,.slice z.a z.l z.c],.bool true])∧Zn w' z.s z.a z.l z.c 9∧z.l≤B:=by
 have h9:mem D 9=true:=by rw[h];rfl
 rcases hN with⟨v,z,h1,h2,h3,h4,h5,h6⟩|⟨h1,-⟩
 ·have hv:v≤9:=by
   rcases Int.lt_or_le 9 v with h7|h7
   ·have:=h2 9 o_m o_m
    rw[h9]at this
    cases this
   exact h7
  rw[h]at h3
  simp only[Bool.and_eq_true,decide_eq_true_eq]at h3
  obtain rfl:v=9:=by omega
  exact⟨z,h4,h5,h6⟩
 have:=h1 9 o_m
 rw[h9]at this
 cases this
theorem kn_last {D:PD}(h: ∀x,mem D x=(decide (3<x)&&decide (x%4=1%4))){w':World}{en:Ending}{B:Nat}(hN:Nst w' en (mem D) 4 (-1) B):en= .returned (.tuple #[.agg #[.bool false,.slice none 0 0],.bool false]):=by
 rcases hN with⟨v,z,h1,h2,h3,h4,h5,h6⟩|⟨-,h1⟩
 ·rw[h]at h3
  simp only[Bool.and_eq_true,decide_eq_true_eq]at h3
  omega
 exact h1
theorem kn_list {D:PD}(h: ∀x,mem D x=(decide (3<x)&&decide (x%4=1%4))){w w':World}{en:Ending}(hN:LsO w (mem D) 0 14 en w'):Below w.heap.size w w'∧∃a c,en= .returned (.tuple #[.slice a 3 c,.int .i64 0]):=by
 obtain⟨k,⟨a,n,c,e,hn,hs⟩|⟨-,hl⟩⟩:=hN
 ·refine⟨k,a,c,?_⟩
  have:=hs.1
  rw[memI_len,(kn_data h).2]at this
  rw[e,this]
 rw[(kn_data h).2]at hl
 omega
theorem zn_zero (w:World):Zn w false none 0 0 0:=(zf_zero w).zn.zn
theorem known19_n (w:World):Calls Tryz.prog 17 #[] w fun e w'=>e= .returned (.bool true)∧Below w.heap.size w w':=by
 have hnum:=fun(k:Int) (h0: -9223372036854775808≤k) (h1:k≤9223372036854775807) (u:World)=>hide (num_n k h0 h1 u)
 go_enter Tryz.func17,Tryz.ntmps17
 go_wp2_with fail
 refine(hnum 4 (by decide) (by decide) _).out.mono ?_
 rintro e w1 ⟨z1,rfl,hz1,k1,hl1⟩
 go_wp2_with fail
 refine(hnum 1 (by decide) (by decide) _).out.mono ?_
 rintro e w2 ⟨z2,rfl,hz2,k2,hl2⟩
 have hcl:=hide (class_n (z:=z1) (y:=z2) ⟨hz1.zm.below k2,by omega⟩ ⟨hz2.zm,by omega⟩)
 replace k2:=hide (grow_step k2 k1)
 clear hz1 hz2 k1
 go_wp2_with fail
 refine hcl.out.mono ?_
 rintro e w3 ⟨k3,⟨he,-⟩|⟨-,bB,B,rfl,pB,eB1,-,eB3,eB4⟩⟩
 ·exact absurd (by decide) he
 have hwB:B.cs= []:=by rw[eB4]
 replace k3:=hide (grow_step k3 k2.out)
 replace pB:=hide pB
 replace eB1:=hide eB1
 replace eB3:=hide eB3
 replace hwB:=hide hwB
 clear hcl k2 eB4
 go_wp2_with fail
 refine(hnum 3 (by decide) (by decide) _).out.mono ?_
 rintro e w4 ⟨z4,rfl,hz4,k4,hl4⟩
 have hab:=hide (above_n hz4.zm o_m)
 have pB4:=hide (pB.out.below k4)
 replace k4:=hide (grow_step k4 k3.out)
 clear hz4 k3 pB
 go_wp2_with fail
 refine hab.out.mono ?_
 rintro e w5 ⟨bA,A,rfl,pA,k5,eA1,eA2,eA3⟩
 have pB5:=pB4.out.below k5
 have hme:=hide (meet_n pA pB5 (by rw[eA2];decide) (by rw[hwB.out];decide))
 replace k5:=hide (grow_step k5 k4.out)
 replace eA1:=hide eA1
 replace eA2:=hide eA2
 replace eA3:=hide eA3
 clear hab k4 pB4 pB5 pA
 go_wp2_with fail
 refine hme.out.mono ?_
 rintro e w6 ⟨k6,⟨he,-⟩|⟨-,bD,D,rfl,pD,eD1,eD2,eD3,eD4⟩⟩
 ·exact absurd (by rw[eA1.out,eB1.out];decide) he
 have hm:Hid (∀x,mem D x=(decide (3<x)&&decide (x%4=1%4))):=hide fun x=>by rw[eD3];dsimp only;rw[eA3.out,eB3.out];rfl
 have hcs:D.cs.length≤1073741823:=by rw[eA2.out,hwB.out]at eD2;simp at eD2;omega
 replace k6:=hide (grow_step k6 k5.out)
 replace pD:=hide pD
 clear hme k5 eD1 eD2 eD3 eD4 eA1 eA2 eA3 eB1 eB3 hwB
 go_wp2_with fail
 refine(hnum (0) (by decide) (by decide) _).out.mono ?_
 rintro e w7 ⟨u1,rfl,u1h,u1k,u1l⟩
 go_wp2_with fail
 refine(hnum (20) (by decide) (by decide) _).out.mono ?_
 rintro e w8 ⟨u2,rfl,u2h,u2k,u2l⟩
 have hC:=hide (Count_n ((pD.out.below u1k).below u2k) hcs (u1h.zm.below u2k) o_m u2h.zm o_m)
 replace pD:=hide ((pD.out.below u1k).below u2k)
 replace k6:=hide (grow_step u2k (grow_step u1k k6.out))
 clear u1h u2h u1k u2k
 go_wp2_with fail
 refine hC.out.mono ?_
 rintro e w9 ⟨zn,rfl,hzn,hln,k9⟩
 rw[(kn_data hm.out).1]at hzn
 have b9:=below_alloc w9 (.cells #[.bool zn.s,.slice zn.a zn.l zn.c] 38)
 have yn:=hide (zb_new w9 zn.s zn.a zn.l zn.c)
 replace hzn:=hide (hzn.below b9)
 replace pD:=hide ((pD.out.below k9).below b9)
 replace k6:=hide (grow_step b9 (grow_step k9 k6.out))
 clear hC k9 b9
 go_upto_region 8 with(fail)
 generalize w9.alloc (.cells #[.bool zn.s,.slice zn.a zn.l zn.c] 38)=wA at*
 obtain⟨bn,hbn⟩: ∃bn,w9.heap.size=bn:=⟨_,rfl⟩
 rw[hbn]at yn ⊢
 clear hbn
 go_wp2_with fail
 refine(hnum (6) (by decide) (by decide) _).out.mono ?_
 rintro e wB ⟨u3,rfl,u3h,u3k,u3l⟩
 have hN:=hide (next_n (LL:=8589934592) (pD.out.below u3k) hcs u3h.zm o_m (by decide) (by decide))
 replace pD:=hide (pD.out.below u3k)
 replace yn:=hide (yn.out.below u3k)
 replace hzn:=hide (hzn.out.below u3k)
 replace k6:=hide (grow_step u3k k6.out)
 clear u3h u3k
 go_wp2_with fail
 refine hN.out.mono ?_
 rintro e wC ⟨kC,hNs⟩
 obtain⟨zx,rfl,hzx,hlx⟩:=kn_next hm.out hNs
 have bC:=below_alloc wC (.cells #[.bool zx.s,.slice zx.a zx.l zx.c] 38)
 have yx:=hide (zb_new wC zx.s zx.a zx.l zx.c)
 replace hzx:=hide (hzx.below bC)
 replace pD:=hide ((pD.out.below kC).below bC)
 replace yn:=hide ((yn.out.below kC).below bC)
 replace hzn:=hide ((hzn.out.below kC).below bC)
 replace k6:=hide (grow_step bC (grow_step kC k6.out))
 clear hN hNs kC bC
 go_upto_region 9 with(fail)
 generalize wC.alloc (.cells #[.bool zx.s,.slice zx.a zx.l zx.c] 38)=wD at*
 obtain⟨bx,hbx⟩: ∃bx,wC.heap.size=bx:=⟨_,rfl⟩
 rw[hbx]at yx ⊢
 clear hbx
 go_wp2_with fail
 refine(hnum (4) (by decide) (by decide) _).out.mono ?_
 rintro e wE ⟨u4,rfl,u4h,u4k,u4l⟩
 have hL:=hide (last_n (LL:=8589934592) (pD.out.below u4k) hcs u4h.zm o_m (by decide) (by decide))
 replace pD:=hide (pD.out.below u4k)
 replace yn:=hide (yn.out.below u4k)
 replace hzn:=hide (hzn.out.below u4k)
 replace yx:=hide (yx.out.below u4k)
 replace hzx:=hide (hzx.out.below u4k)
 replace k6:=hide (grow_step u4k k6.out)
 clear u4h u4k
 go_wp2_with fail
 refine hL.out.mono ?_
 rintro e wF ⟨kF,hLs⟩
 obtain rfl:=kn_last hm.out hLs
 have bF:=below_alloc wF (.cells #[.bool false,.slice none 0 0] 38)
 have yy:=hide (zb_new wF false none 0 0)
 replace pD:=hide ((pD.out.below kF).below bF)
 replace yn:=hide ((yn.out.below kF).below bF)
 replace hzn:=hide ((hzn.out.below kF).below bF)
 replace yx:=hide ((yx.out.below kF).below bF)
 replace hzx:=hide ((hzx.out.below kF).below bF)
 replace k6:=hide (grow_step bF (grow_step kF k6.out))
 clear hL hLs kF bF
 go_upto_region 10 with(fail)
 generalize wF.alloc (.cells #[.bool false,.slice none 0 0] 38)=wG at*
 obtain⟨bY,hby⟩: ∃bY,wF.heap.size=bY:=⟨_,rfl⟩
 rw[hby]at yy ⊢
 clear hby
 go_wp2_with fail
 refine(hnum (0) (by decide) (by decide) _).out.mono ?_
 rintro e wH ⟨u5,rfl,u5h,u5k,u5l⟩
 go_wp2_with fail
 refine(hnum (14) (by decide) (by decide) _).out.mono ?_
 rintro e wI ⟨u6,rfl,u6h,u6k,u6l⟩
 have hLi:=hide (List_n ((pD.out.below u5k).below u6k) hcs (u5h.zm.below u6k) o_m u6h.zm o_m)
 replace yn:=hide ((yn.out.below u5k).below u6k)
 replace hzn:=hide ((hzn.out.below u5k).below u6k)
 replace yx:=hide ((yx.out.below u5k).below u6k)
 replace hzx:=hide ((hzx.out.below u5k).below u6k)
 replace yy:=hide ((yy.out.below u5k).below u6k)
 replace k6:=hide (grow_step u6k (grow_step u5k k6.out))
 clear u5h u6h u5k u6k pD
 go_wp2_with fail
 refine hLi.out.mono ?_
 intro e wJ hLs
 obtain⟨kJ,la,lc,rfl⟩:=kn_list hm.out hLs
 replace yn:=hide (yn.out.below kJ)
 replace hzn:=hide (hzn.out.below kJ)
 replace yx:=hide (yx.out.below kJ)
 replace hzx:=hide (hzx.out.below kJ)
 replace yy:=hide (yy.out.below kJ)
 replace k6:=hide (grow_step kJ k6.out)
 clear hLi hLs kJ
 go_upto_region 11 with(fail)
 refine wp_region_held_drew (S:=(fun w'=>(w'.cell? ⟨bn,0,none⟩=some (.bool zn.s)∧w'.cell? ⟨bn,1,none⟩=some (.slice zn.a zn.l zn.c))∧(w'.cell? ⟨bx,0,none⟩=some (.bool zx.s)∧w'.cell? ⟨bx,1,none⟩=some (.slice zx.a zx.l zx.c))∧(w'.cell? ⟨bY,0,none⟩=some (.bool false)∧w'.cell? ⟨bY,1,none⟩=some (.slice none 0 0)))) k_f (⟨⟨(yn.out.below (grow_drew (Below.refl _ _))).c0,(yn.out.below (grow_drew (Below.refl _ _))).c1⟩,⟨(yx.out.below (grow_drew (Below.refl _ _))).c0,(yx.out.below (grow_drew (Below.refl _ _))).c1⟩,⟨(yy.out.below (grow_drew (Below.refl _ _))).c0,(yy.out.below (grow_drew (Below.refl _ _))).c1⟩⟩) (fun hHeld=> ?_)
 show wpAnyH _ _ _ _ _ 34 _ _ _
 have kW:=grow_drew (Below.refl wJ.heap.size wJ)
 generalize wJ.drew=wQ at*
 refine tkz 0 64 ?_
 (try simp only[pz])
 refine tkz 1 65 ?_
 (try simp only[pz])
 refine tkz 2 66 ?_
 (try simp only[pz])
 refine tkz 3 67 ?_
 (try simp only[pz])
 refine ryz 4 (some 68) (fun K hK=> ?_) AllReadyH.nil
 go_simp
 go_at_call 61;refine Calls.mono (hnum (4) (by decide) (by decide) _).out ?_;rintro e wv1 ⟨v1,rfl,v1h,v1k,v1l⟩
 have kW:=grow_step v1k kW
 try go_wp2_with fail
 refine hK.out _ _ ?_ ?_
 ·first|with_reducible exact trivial|((try dsimp only);exact⟨⟨(yn.out.below kW).c0,(yn.out.below kW).c1⟩,⟨(yx.out.below kW).c0,(yx.out.below kW).c1⟩,⟨(yy.out.below kW).c0,(yy.out.below kW).c1⟩⟩)
 clear hK K hHeld;intro hHeld
 (try simp only[pz])
 refine ryz 5 (some 69) (fun K hK=> ?_) AllReadyH.nil
 go_simp
 go_at_call 20;refine Calls.mono (ints19_zn (z:=zn) (y:=v1) (hzn.out.below kW) (v1h)) ?_;rintro e wIq1 ⟨rfl,q1⟩
 have kW:=grow_step q1 kW
 try go_wp2_with fail
 refine hK.out _ _ ?_ ?_
 ·first|with_reducible exact trivial|((try dsimp only);exact⟨⟨(yn.out.below kW).c0,(yn.out.below kW).c1⟩,⟨(yx.out.below kW).c0,(yx.out.below kW).c1⟩,⟨(yy.out.below kW).c0,(yy.out.below kW).c1⟩⟩)
 clear hK K hHeld;intro hHeld
 (try simp only[pz])
 refine tkz 6 70 ?_
 (try simp only[pz])
 refine tkz 7 71 ?_
 (try simp only[pz])
 refine tkz 8 72 ?_
 (try simp only[pz])
 refine tkz 9 73 ?_
 (try simp only[pz])
 refine tkz 10 74 ?_
 (try simp only[pz])
 refine tkz 11 75 ?_
 (try simp only[pz])
 refine ryz 12 (some 76) (fun K hK=> ?_) AllReadyH.nil
 go_simp
 go_at_call 61;refine Calls.mono (hnum (9) (by decide) (by decide) _).out ?_;rintro e wv2 ⟨v2,rfl,v2h,v2k,v2l⟩
 have kW:=grow_step v2k kW
 try go_wp2_with fail
 refine hK.out _ _ ?_ ?_
 ·first|with_reducible exact trivial|((try dsimp only);exact⟨⟨(yn.out.below kW).c0,(yn.out.below kW).c1⟩,⟨(yx.out.below kW).c0,(yx.out.below kW).c1⟩,⟨(yy.out.below kW).c0,(yy.out.below kW).c1⟩⟩)
 clear hK K hHeld;intro hHeld
 (try simp only[pz])
 refine ryz 13 (some 77) (fun K hK=> ?_) AllReadyH.nil
 go_simp
 go_at_call 20;refine Calls.mono (ints19_zn (z:=zx) (y:=v2) (hzx.out.below kW) (v2h)) ?_;rintro e wIq2 ⟨rfl,q2⟩
 have kW:=grow_step q2 kW
 try go_wp2_with fail
 refine hK.out _ _ ?_ ?_
 ·first|with_reducible exact trivial|((try dsimp only);exact⟨⟨(yn.out.below kW).c0,(yn.out.below kW).c1⟩,⟨(yx.out.below kW).c0,(yx.out.below kW).c1⟩,⟨(yy.out.below kW).c0,(yy.out.below kW).c1⟩⟩)
 clear hK K hHeld;intro hHeld
 (try simp only[pz])
 refine tkz 14 78 ?_
 (try simp only[pz])
 refine tkz 15 79 ?_
 (try simp only[pz])
 refine tkz 16 80 ?_
 (try simp only[pz])
 refine tkz 17 81 ?_
 (try simp only[pz])
 refine tkz 18 82 ?_
 (try simp only[pz])
 refine tkz 19 83 ?_
 (try simp only[pz])
 refine tkz 20 84 ?_
 (try simp only[pz])
 refine tkz 21 85 ?_
 (try simp only[pz])
 refine ryz 22 (some 86) (fun K hK=> ?_) AllReadyH.nil
 go_simp
 go_at_call 20;refine Calls.mono (ints19_zn (z:=⟨false,none,0,0⟩) (y:=⟨false,none,0,0⟩) (zn_zero _) (zn_zero _)) ?_;rintro e wIq3 ⟨rfl,q3⟩
 have kW:=grow_step q3 kW
 try go_wp2_with fail
 refine hK.out _ _ ?_ ?_
 ·first|with_reducible exact trivial|((try dsimp only);exact⟨⟨(yn.out.below kW).c0,(yn.out.below kW).c1⟩,⟨(yx.out.below kW).c0,(yx.out.below kW).c1⟩,⟨(yy.out.below kW).c0,(yy.out.below kW).c1⟩⟩)
 clear hK K hHeld;intro hHeld
 (try simp only[pz])
 refine tkz 23 87 ?_
 (try simp only[pz])
 refine tkz 24 88 ?_
 (try simp only[pz])
 refine tkz 25 89 ?_
 (try simp only[pz])
 refine tkz 26 90 ?_
 (try simp only[pz])
 refine tkz 27 91 ?_
 (try simp only[pz])
 refine tkz 28 92 ?_
 (try simp only[pz])
 refine tkz 29 93 ?_
 (try simp only[pz])
 refine tkz 30 94 ?_
 (try simp only[pz])
 refine tkz 31 95 ?_
 (try simp only[pz])
 refine tkz 32 96 ?_
 (try simp only[pz])
 refine ryz 33 (some 0) (fun K hK=> ?_) AllReadyH.nil
 go_simp
 refine hK.out _ _ ?_ ?_
 ·first|with_reducible exact trivial|((try dsimp only);exact⟨⟨(yn.out.below kW).c0,(yn.out.below kW).c1⟩,⟨(yx.out.below kW).c0,(yx.out.below kW).c1⟩,⟨(yy.out.below kW).c0,(yy.out.below kW).c1⟩⟩)
 clear hK K hHeld;intro hHeld
 (try simp only[pz])
 refine wpAnyH_done ?_ ?_ _
 ·decide+kernel
 have kZ:=hide (grow_step kW k6.out)
 clear kW hHeld
 go_wp2
 exact bodyPost_ret (results_tmp rfl _ _ _) rfl ⟨rfl,kZ.out⟩
end Pd
namespace Pd

theorem est_z {B:Nat}{v w:World}{b:Nat}{s:Bool}{a:Option Addr}{l c:Nat}(k:Below B v w)(hb:B≤b)(h:ZB w b s a l c)(s':Bool)(a':Option Addr)(l' c':Nat): ∃w8,Hid ((w.setCell ⟨b,0,none⟩ (.bool s')).setCell ⟨b,1,none⟩ (.slice a' l' c')=w8)∧ZB w8 b s' a' l' c'∧Below B v w8∧Only b w w8∧∀s1 ad len cap z,Zn w s1 ad len cap z→Zn w8 s1 ad len cap z:=
 ⟨_,rfl,zb_fin h s' a' l' c',(k.setCell (p:=⟨b,0,none⟩) hb (.bool s')).setCell (p:=⟨b,1,none⟩) hb (.slice a' l' c'),only2 _ _ _ _,fun _ _ _ _ _ hz=>zb_zn h hz _ _ _ _⟩
theorem cell_ne {w w':World}{b b2 i:Nat}(ho:Only b2 w w')(hne:b≠b2):w'.cell? ⟨b,i,none⟩=w.cell? ⟨b,i,none⟩:=by
 unfold World.cell?
 rw[show w'.heap[b]? =w.heap[b]? from ho.block b hne]
theorem results_czz {P:Program}{fn:Func}{p1 p2:Tmp}{ty1 ty2:TypeId}(h:fn.results= #[.cell p1 ty1,.cell p2 ty2])(tmps:Array Value)(w:World)(g1 g2:Nat)(t1 t2:TypeId)(cs1 cs2:Array Value)(fr1 fr2:Nat × Nat)(d1 d2:TypeDesc)
  (hp1:tmps.getD p1 undef= .pointer (some ⟨g1,0,none⟩))(hp2:tmps.getD p2 undef= .pointer (some ⟨g2,0,none⟩))(hg1:w.heap[g1]? =some (.cells cs1 t1 fr1))(hg2:w.heap[g2]? =some (.cells cs2 t2 fr2))
  (hu1:P.underlying ty1=some d1)(hu2:P.underlying ty2=some d2)(hd1:(match d1 with| .struct _| .array _ _=>true|_=>false)=true)(hd2:(match d2 with| .struct _| .array _ _=>true|_=>false)=true)(hi1:(P.info? ty1).map (·.size)=some cs1.size)(hi2:(P.info? ty2).map (·.size)=some cs2.size):
  (results fn tmps).run P w= .ok (.tuple #[.agg cs1,.agg cs2]) w:=by
 have hp1':tmps[p1]?.getD undef= .pointer (some ⟨g1,0,none⟩):=by simpa using hp1
 have hp2':tmps[p2]?.getD undef= .pointer (some ⟨g2,0,none⟩):=by simpa using hp2
 simp[results,h,hp1',hp2',asAddr,run_loadVar_row w g1 t1 ty1 cs1 fr1 d1 hg1 hu1 hd1 hi1,run_loadVar_row w g2 t2 ty2 cs2 fr2 d2 hg2 hu2 hd2 hi2]
def Ed (D:PD)(lo hi:Int):Prop:=(D.cs.length=0∧lo=0∧hi=0)∨ ∃(h:0<D.cs.length) (h2:D.cs.length-1<D.cs.length),lo=D.cs[0]-1∧hi=D.cs[D.cs.length-1]
def EnO (D:PD)(w w':World)(e:Ending):Prop:=∃(zl zh:ZV) (lo hi:Int),e= .returned (.tuple #[.agg #[.bool zl.s,.slice zl.a zl.l zl.c],.agg #[.bool zh.s,.slice zh.a zh.l zh.c]])∧Ed D lo hi∧Zn w' zl.s zl.a zl.l zl.c lo∧zl.l≤1073741825∧Zn w' zh.s zh.a zh.l zh.c hi∧zh.l≤1073741825∧Below w.heap.size w w'
theorem ends_n {w:World}{bS:Nat}{D:PD}(hS:PS w bS D)(hf:D.cs.length≤1073741823):
  Calls Tryz.prog 79 #[.pointer (some ⟨bS,0,none⟩)] w fun e w'=>EnO D w w' e:=by
 have b1:=below_alloc w (.cells #[.bool false,.slice none 0 0] 38)
 have b2:=below_alloc (w.alloc (.cells #[.bool false,.slice none 0 0] 38)) (.cells #[.bool false,.slice none 0 0] 38)
 have y1:=(zb_new w false none 0 0).below b2
 have y2:=zb_new (w.alloc (.cells #[.bool false,.slice none 0 0] 38)) false none 0 0
 rw[show(w.alloc (.cells #[.bool false,.slice none 0 0] 38)).heap.size=w.heap.size+1 by simp]at y2
 have k0:=hide (grow_step b2 b1)
 have hco:=hide (cuts_n (hS.below k0.out) hf)
 replace y1:=hide y1
 replace y2:=hide y2
 clear b1 b2 hS
 go_enter Tryz.func79,Tryz.ntmps79
 go_upto_region 1 with(fail)
 generalize (w.alloc (.cells #[.bool false,.slice none 0 0] 38)).alloc (.cells #[.bool false,.slice none 0 0] 38)=w0 at*
 obtain⟨bx,hbx⟩: ∃bx,w.heap.size=bx:=⟨_,rfl⟩
 rw[hbx]at y1 y2 ⊢
 have hbw:Hid (w.heap.size=bx):=hide hbx
 have hb2:Hid (bx+1<w0.heap.size):=hide y2.out.lt
 clear hbx
 go_wp2_with fail
 refine hco.out.mono ?_
 rintro e w1 ⟨ca,cc,rfl,hcl,kC,hown⟩
 have kc:=hide (grow_step kC k0.out)
 replace y1:=hide (y1.out.below kC)
 replace y2:=hide (y2.out.below kC)
 clear hco kC k0
 obtain⟨n,hnl⟩: ∃n,D.cs.length=n:=⟨_,rfl⟩
 rw[hnl]at hf hcl hown ⊢
 by_cases hn0:n=0
 ·subst hn0
  have hz:=fun u:World=>hide (zof_n 0 (by decide) (by decide) u)
  clear hown hcl
  go_wp2_with fail
  refine(hz _).out.mono ?_
  rintro e wA ⟨sA,aA,lA,cA,rfl,hzA,kA,hlA⟩
  go_wp2_with fail
  refine(hz _).out.mono ?_
  rintro e wB ⟨sB,aB,lB,cB,rfl,hzB,kB,hlB⟩
  have u1:=(y1.out.below kA).below kB
  have u2:=(y2.out.below kA).below kB
  have kf:=grow_step kB (grow_step kA kc.out)
  obtain⟨w8,e8,u3,k8,o8,hzn⟩:=est_z kf (Nat.le_of_eq hbw.out) u1 sA aA lA cA
  have u4:=u2.only o8 o_m
  obtain⟨w9,e9,u5,k9,o9,hzn9⟩:=est_z k8 (show w.heap.size≤bx+1 by have:=hbw.out;omega) u4 sB aB lB cB
  have u6:=hide (u3.only o9 o_m)
  have hzA9:=hide (hzn9 _ _ _ _ _ (hzn _ _ _ _ _ (hzA.below kB)))
  have hzB9:=hide (hzn9 _ _ _ _ _ (hzn _ _ _ _ _ hzB))
  replace k9:=hide k9
  have f0:=u1.c0
  have f1:=u1.c1
  have f2:=u1.f 0
  have f3:=u1.f 1
  have g0:=u2.c0
  have g1:=u2.c1
  have g2:=u2.f 0
  have g3:=u2.f 1
  replace u5:=hide u5
  clear hz kA kB hzA hzB u1 u2 kf u3 k8 o8 hzn u4 o9 hzn9 y1 y2 kc
  go_wp2
  rw[e8.out,e9.out]
  exact bodyPost_ret (results_czz rfl _ _ bx (bx+1) 38 38 _ _ (0,0) (0,0) _ _ rfl rfl u6.out u5.out Tryz.underlying38 Tryz.underlying38 rfl rfl k_f k_f) rfl ⟨⟨sA,aA,lA,cA⟩,⟨sB,aB,lB,cB⟩,0,0,rfl,.inl ⟨hnl,rfl,rfl⟩,hzA9.out,by show lA≤_;omega,hzB9.out,by show lB≤_;omega,k9.out⟩
 have hne:((n:Int)==0)=false:=by rw[beq_eq_false_iff_ne];omega
 obtain⟨cb,off,z0,hca,hcb,d0,d1,hz0⟩:=hcl.get (i:=0) o_m o_m
 obtain⟨_,_,z9,e9,-,d2,d3,hz9⟩:=hcl.get (i:=n-1) o_m o_m
 subst hca
 cases e9
 have hcx:=hown o_m _ _ rfl
 have hno:Hid (cb≠bx∧cb≠bx+1):=hide (by have:=hb2.out;omega)
 have hl0:=hz0.le
 have hl9:=hz9.le
 obtain⟨m,rfl⟩: ∃m,n=m+1:=⟨n-1,by omega⟩
 have hed:Hid (Ed D (D.cs[0]-1) (D.cs[m+1-1]'o_m)):=hide (.inr ⟨by omega,by omega,rfl,by simp only[hnl]⟩)
 generalize D.cs[0]'o_m=c0 at*
 generalize D.cs[m+1-1]'o_m=c9 at*
 simp only[Nat.zero_mul,Nat.add_zero,Nat.add_sub_cancel]at d0 d1 d2 d3
 replace hz0:=hide hz0
 replace hz9:=hide hz9
 clear hown hcl hcx
 have hw:Hid (IntKind.i64.wrap (m:Int)=m):=hide (by rw[IntKind.wrap_i64];omega)
 go_upto_region 4 with(fail)
 refine wp_region_held_drew (S:=(fun w'=>w'.cell? ⟨cb,off,none⟩=some (.bool z0.s)∧w'.cell? ⟨cb,off+1,none⟩=some (.slice z0.a z0.l z0.c)∧w'.cell? ⟨cb,off+m*2,none⟩=some (.bool z9.s)∧w'.cell? ⟨cb,off+m*2+1,none⟩=some (.slice z9.a z9.l z9.c))) k_f (⟨(Below.cell (p:=⟨cb,_,none⟩) (grow_drew (Below.refl _ _)) hcb).trans d0,(Below.cell (p:=⟨cb,_,none⟩) (grow_drew (Below.refl _ _)) hcb).trans d1,(Below.cell (p:=⟨cb,_,none⟩) (grow_drew (Below.refl _ _)) hcb).trans d2,(Below.cell (p:=⟨cb,_,none⟩) (grow_drew (Below.refl _ _)) hcb).trans d3⟩) (fun hHeld=> ?_)
 show wpAnyH _ _ _ _ _ 13 _ _ _
 have kW:=grow_drew (Below.refl w1.heap.size w1)
 generalize w1.drew=wQ at*
 have t0:=(Below.cell (p:=⟨cb,_,none⟩) kW hcb).trans d0
 have t1:=(Below.cell (p:=⟨cb,_,none⟩) kW hcb).trans d1
 have t2:=(Below.cell (p:=⟨cb,_,none⟩) kW hcb).trans d2
 have t3:=(Below.cell (p:=⟨cb,_,none⟩) kW hcb).trans d3
 refine tkz 0 12 ?_
 (try simp only[pz])
 refine tkz 1 13 ?_
 (try simp only[pz])
 refine tkz 2 14 ?_
 (try simp only[pz])
 refine tkz 5 17 ?_
 (try simp only[pz])
 refine tkz 6 18 ?_
 (try simp only[pz])
 refine tkz 7 19 ?_
 (try simp only[pz])
 refine wpAnyH_take (i:=8) (oi:=⟨some 20,_,_,_,_,_⟩) (v:=.int .i64 m) rfl (by decide+kernel) (by decide+kernel) (by decide+kernel) (fun _ _ _ h=>h) (Or.inl ⟨by rfl,?_⟩) (by assumption) ?_
 skip
 ·intro wq hSw;(try dsimp only at hSw);go_simp;(first|done|exact hw.out|rw[hw.out]|simp[hw.out])
 (try simp only[pz])
 refine wpAnyH_take (i:=9) (oi:=⟨some 21,_,_,_,_,_⟩) (v:=.pointer (some ⟨cb,off+m*2,none⟩)) rfl (by decide+kernel) (by decide+kernel) (by decide+kernel) (fun _ _ _ h=>h) (Or.inl ⟨by rfl,?_⟩) (by assumption) ?_
 skip
 ·intro wq hSw;(try dsimp only at hSw);go_simp;(first|done|(intro hbad;exfalso;omega))
 (try simp only[pz])
 refine tkz 10 22 ?_
 (try simp only[pz])
 refine ryz 3 (some 15) (fun K hK=> ?_) AllReadyH.nil
 go_simp
 go_at_call 62;refine Calls.mono (zof_n 1 (by decide) (by decide) _) ?_;rintro e wkA ⟨sA,aA,lA,cA,rfl,hzA,kA,hlA⟩
 have kW:=grow_step kA kW
 try go_wp2_with fail
 have t0:=(Below.cell (p:=⟨cb,_,none⟩) kW hcb).trans d0
 have t1:=(Below.cell (p:=⟨cb,_,none⟩) kW hcb).trans d1
 have t2:=(Below.cell (p:=⟨cb,_,none⟩) kW hcb).trans d2
 have t3:=(Below.cell (p:=⟨cb,_,none⟩) kW hcb).trans d3
 refine hK.out _ _ ?_ ?_
 ·first|with_reducible exact trivial|((try dsimp only);exact⟨t0,t1,t2,t3⟩)
 clear hK K hHeld;intro hHeld
 (try simp only[pz])
 refine ryz 4 (some 16) (fun K hK=> ?_) AllReadyH.nil
 go_simp
 go_at_call 76;refine Calls.mono (zsub_n (hz0.out.below kW).zm hzA.zm o_m o_m) ?_;rintro e wkB ⟨sB,aB,lB,cB,rfl,hzB,kB,hlB⟩
 have kW:=grow_step kB kW
 try go_wp2_with fail
 have t0:=(Below.cell (p:=⟨cb,_,none⟩) kW hcb).trans d0
 have t1:=(Below.cell (p:=⟨cb,_,none⟩) kW hcb).trans d1
 have t2:=(Below.cell (p:=⟨cb,_,none⟩) kW hcb).trans d2
 have t3:=(Below.cell (p:=⟨cb,_,none⟩) kW hcb).trans d3
 refine hK.out _ _ ?_ ?_
 ·first|with_reducible exact trivial|((try dsimp only);exact⟨t0,t1,t2,t3⟩)
 clear hK K hHeld;intro hHeld
 (try simp only[pz])
 refine ryz 11 none (fun K hK=> ?_) AllReadyH.nil
 have u1:=y1.out.below kW
 have u2:=y2.out.below kW
 have hz9W:=(hz9.out.below kW).zn.zn
 have kf:=grow_step kW kc.out
 have f0:=u1.c0
 have f1:=u1.c1
 have f2:=u1.f 0
 have f3:=u1.f 1
 obtain⟨w8,e8,u3,k8,o8,hzn⟩:=est_z kf (Nat.le_of_eq hbw.out) u1 sB aB lB cB
 have u4:=u2.only o8 o_m
 have hzB:=hzn _ _ _ _ _ hzB
 have hz9W:=hzn _ _ _ _ _ hz9W
 have t0:=(cell_ne o8 hno.out.1).trans t0
 have t1:=(cell_ne o8 hno.out.1).trans t1
 have t2:=(cell_ne o8 hno.out.1).trans t2
 have t3:=(cell_ne o8 hno.out.1).trans t3
 go_simp
 rw[e8.out]
 clear f0 f1 f2 f3 u1 u2 kf o8 hzn e8 kW
 refine hK.out _ _ ?_ ?_
 ·first|with_reducible exact trivial|((try dsimp only);exact⟨t0,t1,t2,t3⟩)
 clear hK K hHeld;intro hHeld
 (try simp only[pz])
 refine ryz 12 none (fun K hK=> ?_) AllReadyH.nil
 have f0:=u4.c0
 have f1:=u4.c1
 have f2:=u4.f 0
 have f3:=u4.f 1
 obtain⟨w9,e9,u5,k9,o9,hzn9⟩:=est_z k8 (show w.heap.size≤bx+1 by have:=hbw.out;omega) u4 z9.s z9.a z9.l z9.c
 have u6:=u3.only o9 o_m
 have hzB:=hzn9 _ _ _ _ _ hzB
 have hz9W:=hzn9 _ _ _ _ _ hz9W
 have t0:=(cell_ne o9 hno.out.2).trans t0
 have t1:=(cell_ne o9 hno.out.2).trans t1
 have t2:=(cell_ne o9 hno.out.2).trans t2
 have t3:=(cell_ne o9 hno.out.2).trans t3
 go_simp
 rw[e9.out]
 clear f0 f1 f2 f3 u4 k8 o9 hzn9 u3 e9
 refine hK.out _ _ ?_ ?_
 ·first|with_reducible exact trivial|((try dsimp only);exact⟨t0,t1,t2,t3⟩)
 clear hK K hHeld;intro hHeld
 (try simp only[pz])
 refine wpAnyH_done ?_ ?_ _
 ·decide+kernel
 replace hzB:=hide hzB
 replace hz9W:=hide hz9W
 replace k9:=hide k9
 replace u5:=hide u5
 replace u6:=hide u6
 clear hHeld t0 t1 t2 t3 y1 y2 kc d0 d1 d2 d3
 go_wp2
 exact bodyPost_ret (results_czz rfl _ _ bx (bx+1) 38 38 _ _ (0,0) (0,0) _ _ rfl rfl u6.out u5.out Tryz.underlying38 Tryz.underlying38 rfl rfl k_f k_f) rfl ⟨⟨sB,aB,lB,cB⟩,z9,_,_,rfl,hed.out,hzB.out,by show lB≤_;omega,hz9W.out,by omega,k9.out⟩
end Pd
end Go.Proofs.YtaafoppaepcaeaaGreat

namespace Go.Proofs.YtaafoppaepcaeaaGreat
open Go.RowKit Go.Sort Go.Shelf
namespace Cr
open Pd (SN SV ZV plc al_b Bk)

theorem fst_z {v w:World}{b:Nat}{s:Bool}{a:Option Addr}{l c:Nat}(k:Below v.heap.size v w)(hb:v.heap.size≤b)(h:ZB w b s a l c)(s':Bool)(a':Option Addr)(l' c':Nat): ∃w8,Hid ((w.setCell ⟨b,0,none⟩ (.bool s')).setCell ⟨b,1,none⟩ (.slice a' l' c')=w8)∧ZB w8 b s' a' l' c'∧Below v.heap.size v w8∧(∀s1 ad len cap z,Zn w s1 ad len cap z→Zn w8 s1 ad len cap z)∧∀b2 s2 a2 l2 c2,b2≠b→ZB w b2 s2 a2 l2 c2→ZB w8 b2 s2 a2 l2 c2:=
 ⟨_,rfl,zb_fin h s' a' l' c',(k.setCell (p:=⟨b,0,none⟩) hb (.bool s')).setCell (p:=⟨b,1,none⟩) hb (.slice a' l' c'),fun _ _ _ _ _ hz=>zb_zn h hz _ _ _ _,fun _ _ _ _ _ hne hz=>hz.only (only2 _ _ _ _) hne⟩
theorem sn_one {w:World}{b:Nat}{z:ZV}{x:Int}(h:ZB w b z.s z.a z.l z.c)(hz:Zm w z.s z.a z.l z.c x)(hl:z.l≤1073741826):CN w (some ⟨b,0,none⟩) 1 [x]:=
 ⟨rfl,fun i hi hi'=>by
  obtain rfl:i=0:=by omega
  exact⟨b,0,z,rfl,h.lt,h.c0,h.c1,hz,hl⟩⟩
theorem above_lay {w2:World}{z:ZV}{k:Int}(hz:Zm w2 z.s z.a z.l z.c (k+1))(hl:z.l≤1073741826):
  Below w2.heap.size w2 ((((w2.alloc (.cells #[.bool z.s,.slice z.a z.l z.c] 38)).alloc (.cells #[.bool false] 4)).alloc (.cells #[.bool true] 4)).alloc (.cells #[.slice (some ⟨w2.heap.size+1,0,none⟩) 1 1,.slice (some ⟨w2.heap.size+1+1,0,none⟩) 1 1] 80))∧RS ((((w2.alloc (.cells #[.bool z.s,.slice z.a z.l z.c] 38)).alloc (.cells #[.bool false] 4)).alloc (.cells #[.bool true] 4)).alloc (.cells #[.slice (some ⟨w2.heap.size+1,0,none⟩) 1 1,.slice (some ⟨w2.heap.size+1+1,0,none⟩) 1 1] 80)) ⟨some ⟨w2.heap.size,0,none⟩,1,1,some ⟨w2.heap.size+1+1+1,0,none⟩,2,2⟩ (aboveE k):=by
 have ka:=below_alloc w2 (.cells #[.bool z.s,.slice z.a z.l z.c] 38)
 have y:=zb_new w2 z.s z.a z.l z.c
 have h1:=hz.below ka
 have s1:(w2.alloc (.cells #[.bool z.s,.slice z.a z.l z.c] 38)).heap.size=w2.heap.size+1:=by simp
 generalize w2.alloc (.cells #[.bool z.s,.slice z.a z.l z.c] 38)=wa at*
 have kb:=below_alloc wa (.cells #[.bool false] 4)
 have bF:=bb_new wa [false]
 rw[s1]at bF
 have s2:(wa.alloc (.cells #[.bool false] 4)).heap.size=w2.heap.size+1+1:=by simp[s1]
 have bF:BB (wa.alloc (.cells #[.bool false] 4)) (w2.heap.size+1) [false]:=bF
 generalize wa.alloc (.cells #[.bool false] 4)=wb at*
 have kc:=below_alloc wb (.cells #[.bool true] 4)
 have bT:=bb_new wb [true]
 rw[s2]at bT
 have s3:(wb.alloc (.cells #[.bool true] 4)).heap.size=w2.heap.size+1+1+1:=by simp[s2]
 have bT:BB (wb.alloc (.cells #[.bool true] 4)) (w2.heap.size+1+1) [true]:=bT
 generalize wb.alloc (.cells #[.bool true] 4)=wc at*
 have kd:=below_alloc wc (.cells #[.slice (some ⟨w2.heap.size+1,0,none⟩) 1 1,.slice (some ⟨w2.heap.size+1+1,0,none⟩) 1 1] 80)
 have bR:=heap_alloc_new wc (.cells #[.slice (some ⟨w2.heap.size+1,0,none⟩) 1 1,.slice (some ⟨w2.heap.size+1+1,0,none⟩) 1 1] 80)
 rw[s3]at bR
 generalize wc.alloc (.cells #[.slice (some ⟨w2.heap.size+1,0,none⟩) 1 1,.slice (some ⟨w2.heap.size+1+1,0,none⟩) 1 1] 80)=wd at*
 refine⟨grow_step kd (grow_step kc (grow_step kb ka)),above_wr k,sn_one (y.below (grow_step kd (grow_step kc kb))) (h1.below (grow_step kd (grow_step kc kb))) hl,⟨rfl,_,0,rfl,⟨_,bR⟩,fun i hi=> ?_⟩,⟨Nat.le_refl _,show 1≤9223372036854775807 by decide⟩⟩
 have hi2:i=0∨i=1:=by have:i<2:=hi;omega
 rcases hi2 with rfl|rfl
 ·exact⟨_,cell_of_row wd _ 0 _ _ (0,0) bR,(bF.below kc).below kd⟩
 exact⟨_,cell_of_row wd _ 1 _ _ (0,0) bR,bT.below kd⟩
theorem above_n {w:World}{s:Bool}{a:Option Addr}{l c:Nat}{k:Int}(h:Zm w s a l c k)(hl:l≤1073741824):
  Calls Tryz.prog 43 #[.agg #[.bool s,.slice a l c]] w fun e w'=> ∃v:SV,e= .returned (.agg #[.int .i64 1,.slice v.ca v.cn v.cc,.slice v.ra v.rn v.rc])∧RS w' v (aboveE k)∧Below w.heap.size w w':=by
 have b0:=below_alloc w (.cells #[.bool s,.slice a l c] 38)
 have b1:=below_alloc (w.alloc (.cells #[.bool s,.slice a l c] 38)) (.cells #[.int .i64 0,.slice none 0 0,.slice none 0 0] 30)
 have yk:=hide ((zb_new w s a l c).below b1)
 have y0:=sbr_new (w.alloc (.cells #[.bool s,.slice a l c] 38)) 0 ⟨none,0,0,none,0,0⟩
 have hk:=hide (h.below (grow_step b1 b0))
 have kb:=hide (grow_step b1 b0)
 go_enter Tryz.func43,Tryz.ntmps43
 go_upto_region 1 with(fail)
 have hsz:(w.alloc (.cells #[.bool s,.slice a l c] 38)).heap.size=w.heap.size+1:=by simp
 rw[hsz]at y0
 clear b0 b1 h hsz
 generalize (w.alloc (.cells #[.bool s,.slice a l c] 38)).alloc (.cells #[.int .i64 0,.slice none 0 0,.slice none 0 0] 30)=w0 at*
 obtain⟨bk,hbk⟩: ∃bk,w.heap.size=bk:=⟨_,rfl⟩
 rw[hbk]at yk ⊢
 obtain⟨bx,hbx⟩: ∃bx,bk+1=bx:=⟨_,rfl⟩
 have y0:SBr w0 bx 0 ⟨none,0,0,none,0,0⟩:=by rw[←hbx,←hbk];exact y0
 rw[hbx]
 have hge:Hid (w.heap.size≤bx):=hide o_m
 replace y0:=hide y0
 clear hbk hbx
 go_cut [3] (fun v3 wc=> ∃(b3:Nat) (z:ZV),v3= .pointer (some ⟨b3,0,none⟩)∧Hid (ZB wc b3 z.s z.a z.l z.c)∧Hid (Zn wc z.s z.a z.l z.c (k+1))∧z.l≤1073741825∧Hid (Below w0.heap.size w0 wc))
 case first=>
  refine wp_region_held_drew (S:=(fun w'=>(w'.cell? ⟨bk,0,none⟩=some (.bool s)∧w'.cell? ⟨bk,1,none⟩=some (.slice a l c)))) k_f (⟨(yk.out.below (grow_drew (Below.refl _ _))).c0,(yk.out.below (grow_drew (Below.refl _ _))).c1⟩) (fun hHeld=> ?_)
  show wpAnyH _ _ _ _ _ 5 _ _ _
  have kW:=grow_drew (Below.refl w0.heap.size w0)
  generalize w0.drew=wQ at*
  repeat' first
   |with_reducible exact AllReadyH.nil
   |(
    refine tkz 0 4 ?_
    (try simp only[pz]))
   |(refine wpAnyH_ready (rs:=[1,3]) ?_ ?_ ?_;decide+kernel;simp)
   |(refine wpAnyH_ready (rs:=[2,3]) ?_ ?_ ?_;decide+kernel;simp)
   |(refine wpAnyH_ready (rs:=[3]) ?_ ?_ ?_;decide+kernel;simp)
   |(refine wpAnyH_ready (rs:=[4]) ?_ ?_ ?_;decide+kernel;simp)
   |(refine wpAnyH_ready (rs:=[2]) ?_ ?_ ?_;decide+kernel;simp)
   |(refine wpAnyH_ready (rs:=[1]) ?_ ?_ ?_;decide+kernel;simp)
   |(
    first
     |(
      refine AllReadyH.cons (i:=1) (o:=⟨some 5,_,_,_,_,_⟩) rfl (fun K hK=> ?_) ?_
      go_simp
      go_at_call 33;refine Calls.mono (rof_n 1 o_m o_m _) ?_;rintro e wkA ⟨sA,aA,lA,cA,rfl,hzA,kA,hlA⟩
      try have z3:=z3.below kA
      have kW:=grow_step kA kW
      try go_wp2_with fail)
     |(
      refine AllReadyH.cons (i:=2) (o:=⟨some 6,_,_,_,_,_⟩) rfl (fun K hK=> ?_) ?_
      go_simp
      go_at_call 48;refine Calls.mono (radd2_n (hk.out.below kW) hzA.zm o_m o_m) ?_;rintro e wkB ⟨sB,aB,lB,cB,rfl,hzB,kB,hlB⟩
      try have z3:=z3.below kB
      have kW:=grow_step kB kW
      try go_wp2_with fail)
     |(
      refine AllReadyH.cons (i:=3) (o:=⟨some 3,_,_,_,_,_⟩) rfl (fun K hK=> ?_) ?_
      obtain⟨wL,b3,eL,eb3,z3,hb3,kL,kW⟩:=al_b kW (.cells #[.bool false,.slice none 0 0] 38)
      replace z3:ZB wL b3 false none 0 0:=z3
      try have hzA:=hzA.below kL
      try have hzB:=hzB.below kL
      go_simp
      rw[eL.out]
      (try simp only[eb3.out]))
     |(
      refine AllReadyH.cons (i:=4) (o:=⟨none,_,_,_,_,_⟩) rfl (fun K hK=> ?_) ?_
      have f0:=z3.c0
      have f1:=z3.c1
      have f2:=z3.f 0
      have f3:=z3.f 1
      obtain⟨w8x,e8,z3,kZ,hzn,hzb⟩:=fst_z kW hb3 z3 sB aB lB cB
      have hzB:=hzn _ _ _ _ _ hzB
      go_simp
      rw[e8.out]
      clear f0 f1 f2 f3 hzn hzb
      have kW:=kZ)
    refine hK.out _ _ ?_ ?_
    ·first|with_reducible exact trivial|((try dsimp only);exact⟨(yk.out.below kW).c0,(yk.out.below kW).c1⟩)
    clear hK K hHeld;intro hHeld
    (try simp only[pz]))
  all_goals
   refine wpAnyH_done ?_ ?_ _
   ·decide+kernel
   have t1:=hide z3
   have t2:=hide hzB
   have t3:=hide kW
   have t4:lB≤1073741825:=by omega
   clear kW hHeld z3 hzA hzB
   go_wp2_with fail
   go_meet
   case rel=>exact⟨b3,⟨sB,aB,lB,cB⟩,rfl,t1,t2,t4,t3⟩
 case rest=>
 obtain⟨b3,z,rfl,y3,hz,hzl,kc⟩:=hcut
 generalize wc=w2 at*
 have k2:=hide (grow_step kc.out kb.out)
 have yx:=hide (y0.out.below kc.out)
 have c0:=y3.out.c0
 have c1:=y3.out.c1
 clear kb hk yk y0 kc
 go_upto_region 2 with(fail)
 obtain⟨kd,hrs⟩:=above_lay hz.out.zm o_m
 have yd:=yx.out.below kd
 have d0:=yd.c0
 have d1:=yd.c1
 have d2:=yd.c2
 have f0:=yd.f 0
 have f1:=yd.f 1
 have f2:=yd.f 2
 have ho:=only3 bx ((((w2.alloc (.cells #[.bool z.s,.slice z.a z.l z.c] 38)).alloc (.cells #[.bool false] 4)).alloc (.cells #[.bool true] 4)).alloc (.cells #[.slice (some ⟨w2.heap.size+1,0,none⟩) 1 1,.slice (some ⟨w2.heap.size+1+1,0,none⟩) 1 1] 80)) (.int .i64 1) (.slice (some ⟨w2.heap.size,0,none⟩) 1 1) (.slice (some ⟨w2.heap.size+1+1+1,0,none⟩) 2 2)
 have hfin:=hide (sbr_fin (p':=1) (v':=⟨some ⟨w2.heap.size,0,none⟩,1,1,some ⟨w2.heap.size+1+1+1,0,none⟩,2,2⟩) yd)
 have hr:=hide (rs_only hrs yd ho)
 have kf:=hide ((grow_step kd k2.out).trans (ho.below hge.out))
 clear kd hrs yd ho yx hz k2 y3
 go_wp2
 refine bodyPost_ret (results_cell_row rfl _ _ bx 30 _ (0,0) _ rfl hfin.out Tryz.underlying30 rfl k_f) rfl ?_
 exact⟨_,by simp,hr.out,kf.out⟩
end Cr
namespace Cr
open Pd (SN SV ZV plc clErr)

def AnS (w w':World)(e:Ending)(err:Int)(E:RE):Prop:=Below w.heap.size w w'∧((err≠0∧e= .returned (.tuple #[.agg #[.int .i64 0,.slice none 0 0,.slice none 0 0],.int .i64 err]))∨(err=0∧∃v:SV,e= .returned (.tuple #[.agg #[.int .i64 E.p,.slice v.ca v.cn v.cc,.slice v.ra v.rn v.rc],.int .i64 0])∧RS w' v E))
theorem class_n {w:World}{s s2:Bool}{a a2:Option Addr}{l c l2 c2:Nat}{d r:Int}(h:Zm w s a l c d)(hl:l≤1073741824)(h2:Zm w s2 a2 l2 c2 r)(hl2:l2≤1073741824):
  Calls Tryz.prog 44 #[.agg #[.bool s,.slice a l c],.agg #[.bool s2,.slice a2 l2 c2]] w fun e w'=>AnS w w' e (clErr d) (classE d r):=by
 have b0:=below_alloc w (.cells #[.bool s,.slice a l c] 38)
 have b1:=below_alloc (w.alloc (.cells #[.bool s,.slice a l c] 38)) (.cells #[.bool s2,.slice a2 l2 c2] 38)
 have b2:=below_alloc ((w.alloc (.cells #[.bool s,.slice a l c] 38)).alloc (.cells #[.bool s2,.slice a2 l2 c2] 38)) (.cells #[.int .i64 0,.slice none 0 0,.slice none 0 0] 30)
 have kb:=hide (grow_step b2 (grow_step b1 b0))
 have yd:=hide ((zb_new w s a l c).below (grow_step b2 b1))
 have yr:=(zb_new (w.alloc (.cells #[.bool s,.slice a l c] 38)) s2 a2 l2 c2).below b2
 have y0:=sbr_new ((w.alloc (.cells #[.bool s,.slice a l c] 38)).alloc (.cells #[.bool s2,.slice a2 l2 c2] 38)) 0 ⟨none,0,0,none,0,0⟩
 have hd:=hide (h.below kb.out)
 have hr:=hide (h2.below kb.out)
 have hs1:(w.alloc (.cells #[.bool s,.slice a l c] 38)).heap.size=w.heap.size+1:=by simp
 have hs2:((w.alloc (.cells #[.bool s,.slice a l c] 38)).alloc (.cells #[.bool s2,.slice a2 l2 c2] 38)).heap.size=w.heap.size+1+1:=by simp
 rw[hs1]at yr
 rw[hs2]at y0
 go_enter Tryz.func44,Tryz.ntmps44
 go_upto_region 1 with(fail)
 clear b0 b1 b2 h h2 hs1 hs2
 generalize ((w.alloc (.cells #[.bool s,.slice a l c] 38)).alloc (.cells #[.bool s2,.slice a2 l2 c2] 38)).alloc (.cells #[.int .i64 0,.slice none 0 0,.slice none 0 0] 30)=w0 at*
 obtain⟨bd,hbd⟩: ∃bd,w.heap.size=bd:=⟨_,rfl⟩
 rw[hbd]at yd yr ⊢
 obtain⟨br,hbr⟩: ∃br,bd+1=br:=⟨_,rfl⟩
 rw[hbr]at yr ⊢
 obtain⟨bx,hbx⟩: ∃bx,br+1=bx:=⟨_,rfl⟩
 have y0:SBr w0 bx 0 ⟨none,0,0,none,0,0⟩:=by rw[←hbx,←hbr,←hbd];exact y0
 rw[hbx]
 have hge:Hid (w.heap.size≤bx):=hide o_m
 replace y0:=hide y0
 replace yr:=hide yr
 clear hbd hbr hbx
 have hsg:=hide (rsign_n hd.out o_m)
 have q0:=yd.out.c0
 have q1:=yd.out.c1
 go_wp2_with fail
 refine hsg.out.mono ?_
 rintro e w1 ⟨rfl,k1⟩
 replace kb:=hide (grow_step k1 kb.out)
 replace yd:=hide (yd.out.below k1)
 replace yr:=hide (yr.out.below k1)
 replace y0:=hide (y0.out.below k1)
 replace hd:=hide (hd.out.below k1)
 replace hr:=hide (hr.out.below k1)
 clear hsg k1 q0 q1
 by_cases hd0:d=0
 ·have hc0:cmpI d 0=0:=by subst hd0;rfl
  have herr:Hid (clErr d=11):=hide (if_pos hd0)
  have c0:=y0.out.c0
  have c1:=y0.out.c1
  have c2:=y0.out.c2
  have f0:=y0.out.f 0
  have f1:=y0.out.f 1
  have f2:=y0.out.f 2
  have ho:=only3 bx w1 (.int .i64 0) (.slice none 0 0) (.slice none 0 0)
  have hfin:=hide (sbr_fin (p':=0) (v':=⟨none,0,0,none,0,0⟩) y0.out)
  have kf:=hide (kb.out.trans (ho.below hge.out))
  clear ho hd0 y0 yd yr hd hr kb
  rw[hc0]
  go_wp2
  refine bodyPost_ret (results_ct rfl _ _ bx 30 _ (0,0) _ rfl hfin.out Tryz.underlying30 rfl k_f) rfl ?_
  exact⟨kf.out,.inl ⟨by rw[herr.out];decide,by rw[herr.out];rfl⟩⟩
 have hc0:(cmpI d 0==0)=false:=by
  rw[beq_eq_false_iff_ne]
  unfold cmpI
  split <;> (try split) <;> omega
 obtain⟨cv,hcv⟩: ∃cv,cmpI d 0=cv:=⟨_,rfl⟩
 rw[hcv]at hc0 ⊢
 clear hcv
 have hpe:=hide (period_n hd.out o_m)
 have q0:=yd.out.c0
 have q1:=yd.out.c1
 go_wp2_with fail
 refine hpe.out.mono ?_
 rintro e w2 ⟨n,ok,rfl,hok,hnn,k2⟩
 replace kb:=hide (grow_step k2 kb.out)
 replace yr:=hide (yr.out.below k2)
 replace y0:=hide (y0.out.below k2)
 replace hr:=hide (hr.out.below k2)
 clear hpe k2 q0 q1 yd hc0
 by_cases hp:d.natAbs≤4096
 ·obtain rfl:=hnn hp
  rw[decide_eq_true hp]at hok
  subst hok
  obtain⟨p,hpd⟩: ∃p,d.natAbs=p:=⟨_,rfl⟩
  have hp1:1≤p:=by omega
  have hmk:=run_mkB p o_m
  have b3:=below_alloc w2 (.cells (Bv (List.replicate p false)) 4)
  have y3:=bb_new w2 (List.replicate p false)
  have herr:Hid (clErr d=0):=hide (by unfold clErr;rw[if_neg hd0,if_neg o_m])
  rw[hpd]
  have hlx:=y0.out.lt
  go_upto_region 7 with(fail)
  replace kb:=hide (grow_step b3 kb.out)
  replace yr:=hide (yr.out.below b3)
  replace y0:=hide (y0.out.below b3)
  replace hr:=hide (hr.out.below b3)
  clear b3 hmk
  generalize w2.alloc (.cells (Bv (List.replicate p false)) 4)=w3 at*
  obtain⟨g,hg⟩: ∃g,w2.heap.size=g:=⟨_,rfl⟩
  rw[hg]at y3 hlx ⊢
  clear hg
  have hre:=hide (rest18_n (p:=p) hr.out o_m hp1 o_m)
  have q0:=yr.out.c0
  have q1:=yr.out.c1
  go_wp2_with fail
  refine hre.out.mono ?_
  rintro e w4 ⟨rfl,k4⟩
  have hm:=md_lt hp1 r
  obtain⟨m,hm0⟩: ∃m,(r%(p:Int)).toNat=m:=⟨_,rfl⟩
  rw[hm0]at hm ⊢
  replace kb:=hide (grow_step k4 kb.out)
  replace y0:=hide (y0.out.below k4)
  replace y3:=y3.below k4
  clear hre k4 q0 q1 yr hr
  have hcell:=y3.cell (i:=m) (by rw[List.length_replicate];exact hm)
  have hfr:=y3.f m
  have y5:=y3.set m true
  have ho5:=Only.set g m w4 (.bool true)
  go_upto_region 8 with(fail)
  replace kb:=hide (kb.out.trans (ho5.below (by have:=hge.out;omega)))
  replace y0:=hide (y0.out.only ho5 o_m)
  clear ho5 hcell hfr y3
  generalize w4.setCell ⟨g,m,none⟩ (.bool true)=w5 at*
  have hcl:Hid ((List.replicate p false).set m true=(List.replicate d.natAbs false).set (r%(d.natAbs:Int)).toNat true):=hide (by rw[hpd,hm0])
  have hpE:Hid ((classE d r).p=p):=hide (by show((List.replicate d.natAbs false).set _ true).length=p;rw[List.length_set,List.length_replicate,hpd])
  have hwh:=hide (whole_n y5 (n:=p) (by rw[List.length_set,List.length_replicate]) hp1 o_m)
  clear y5 hm hm0 hpd hlx
  go_wp2_with fail
  refine hwh.out.mono ?_
  rintro e w6 ⟨v,rfl,hv,k6⟩
  have y7:=y0.out.below k6
  have c0:=y7.c0
  have c1:=y7.c1
  have c2:=y7.c2
  have f0:=y7.f 0
  have f1:=y7.f 1
  have f2:=y7.f 2
  have hfin:=hide (sbr_fin (p':=p) (v':=v) y7)
  have ho:=only3 bx w6 (.int .i64 p) (.slice v.ca v.cn v.cc) (.slice v.ra v.rn v.rc)
  have kf:=hide ((grow_step k6 kb.out).trans (ho.below hge.out))
  rw[hcl.out]at hv
  have hrs:=hide (rs_only hv y7 ho)
  clear hwh hv k6 kb y0 y7 ho hcl
  go_wp2
  refine bodyPost_ret (results_ct rfl _ _ bx 30 _ (0,0) _ rfl hfin.out Tryz.underlying30 rfl k_f) rfl ?_
  exact⟨kf.out,.inr ⟨herr.out,v,by rw[hpE.out];rfl,hrs.out⟩⟩
 rw[decide_eq_false hp]at hok
 subst hok
 have herr:Hid (clErr d=180):=hide (by unfold clErr;rw[if_neg hd0,if_pos o_m])
 have c0:=y0.out.c0
 have c1:=y0.out.c1
 have c2:=y0.out.c2
 have f0:=y0.out.f 0
 have f1:=y0.out.f 1
 have f2:=y0.out.f 2
 have ho:=only3 bx w2 (.int .i64 0) (.slice none 0 0) (.slice none 0 0)
 have hfin:=hide (sbr_fin (p':=0) (v':=⟨none,0,0,none,0,0⟩) y0.out)
 have kf:=hide (kb.out.trans (ho.below hge.out))
 clear ho y0 yr hd hr kb
 go_wp2
 refine bodyPost_ret (results_ct rfl _ _ bx 30 _ (0,0) _ rfl hfin.out Tryz.underlying30 rfl k_f) rfl ?_
 exact⟨kf.out,.inl ⟨by rw[herr.out];decide,by rw[herr.out];rfl⟩⟩
end Cr
namespace Cr
open Pd (SN SV ZV plc plc_snoc plc_all)

variable {w:World}{s:Bool}{a:Option Addr}{l c:Nat}{x:Int}
theorem below19_n {s2:Bool}{a2:Option Addr}{l2 c2:Nat}{y:Int}(h:Zm w s a l c x)(hl:l≤17179869184)(h2:Zm w s2 a2 l2 c2 y)(hl2:l2≤17179869184):
  Calls Tryz.prog 68 #[.agg #[.bool s,.slice a l c],.agg #[.bool s2,.slice a2 l2 c2]] w fun e w'=>e= .returned (.bool (decide (x<y)))∧Below w.heap.size w w':=by
 have b0:=below_alloc w (.cells #[.bool s,.slice a l c] 38)
 have b1:=below_alloc (w.alloc (.cells #[.bool s,.slice a l c] 38)) (.cells #[.bool s2,.slice a2 l2 c2] 38)
 have yd:=(zb_new w s a l c).below b1
 have yr:=zb_new (w.alloc (.cells #[.bool s,.slice a l c] 38)) s2 a2 l2 c2
 have hs1:(w.alloc (.cells #[.bool s,.slice a l c] 38)).heap.size=w.heap.size+1:=by simp
 rw[hs1]at yr
 have kb:=hide (grow_step b1 b0)
 have hcp:=hide (rcmp2_n (h.below kb.out) (h2.below kb.out) o_m o_m)
 have q0:=yd.c0
 have q1:=yd.c1
 have q2:=yr.c0
 have q3:=yr.c1
 clear b0 b1 h h2 hs1 yd yr
 go_enter Tryz.func68,Tryz.ntmps68
 go_wp2_with fail
 refine hcp.out.mono ?_
 rintro e w1 ⟨rfl,k1⟩
 have kf:=hide (grow_step k1 kb.out)
 clear k1 kb hcp
 have hd:Hid (decide (cmpI x y<0)=decide (x<y)):=hide (by
  rw[decide_eq_decide]
  unfold cmpI
  split <;> (try split) <;> omega)
 go_wp2
 exact bodyPost_ret (results_tmp rfl _ _ _) rfl ⟨by rw[←hd.out];rfl,kf.out⟩
theorem place_n {v:SV}{E:RE}(h:RS w v E)(hcn:v.cn≤1073741824)(hx:Zm w s a l c x)(hl:l≤17179869184):
  Calls Tryz.prog 55 #[.agg #[.int .i64 E.p,.slice v.ca v.cn v.cc,.slice v.ra v.rn v.rc],.agg #[.bool s,.slice a l c]] w fun e w'=>e= .returned (.int .i64 (plc E.cs x:Nat))∧Below w.heap.size w w':=by
 have b0:=below_alloc w (.cells #[.int .i64 E.p,.slice v.ca v.cn v.cc,.slice v.ra v.rn v.rc] 30)
 have b1:=below_alloc (w.alloc (.cells #[.int .i64 E.p,.slice v.ca v.cn v.cc,.slice v.ra v.rn v.rc] 30)) (.cells #[.bool s,.slice a l c] 38)
 have ys:=hide ((sbr_new w E.p v).below b1)
 have yx:=zb_new (w.alloc (.cells #[.int .i64 E.p,.slice v.ca v.cn v.cc,.slice v.ra v.rn v.rc] 30)) s a l c
 have hs1:(w.alloc (.cells #[.int .i64 E.p,.slice v.ca v.cn v.cc,.slice v.ra v.rn v.rc] 30)).heap.size=w.heap.size+1:=by simp
 rw[hs1]at yx
 have kb:=hide (grow_step b1 b0)
 have hS:=h.below kb.out
 have hz:=hide (hx.below kb.out)
 have hcl:=hS.cn
 have hup:=hS.wf.up
 have hcu:=hide hS.cu
 replace yx:=hide yx
 go_enter Tryz.func55,Tryz.ntmps55
 go_upto_region 1 with(fail)
 clear b0 b1 h hx hS hs1
 generalize (w.alloc (.cells #[.int .i64 E.p,.slice v.ca v.cn v.cc,.slice v.ra v.rn v.rc] 30)).alloc (.cells #[.bool s,.slice a l c] 38)=w0 at*
 obtain⟨bs,hbs⟩: ∃bs,w.heap.size=bs:=⟨_,rfl⟩
 rw[hbs]at ys yx ⊢
 obtain⟨bt,hbt⟩: ∃bt,bs+1=bt:=⟨_,rfl⟩
 rw[hbt]at yx ⊢
 clear hbs hbt
 go_wp2_with fail
 go_loopw [5,6] (fun vn vi wr=> ∃k:Nat,k≤v.cn∧vi= .int .i64 k∧vn= .int .i64 (plc (E.cs.take k) x:Nat)∧Below w0.heap.size w0 wr) (fun _ vi _=>v.cn-(intOf vi).toNat)
 case atStart=>exact⟨0,Nat.zero_le _,rfl,rfl,Below.refl _ _⟩
 case round=>
  obtain⟨k,hk,rfl,rfl,kr⟩:=hrel
  replace ys:=hide (ys.out.below kr)
  replace yx:=hide (yx.out.below kr)
  replace hz:=hide (hz.out.below kr)
  by_cases hkn:k<v.cn
  ·obtain⟨b,off,z,rfl',hb,c0,c1,hzc,hzl⟩:=(hcu.out.below kr).2 k hkn o_m
   obtain⟨cd,hcd⟩: ∃cd,E.cs[k]'o_m=cd:=⟨_,rfl⟩
   rw[hcd]at hzc
   have hlo:cd≤x→∀y∈E.cs.take k,y≤x:=fun hle y hy=>by
    obtain⟨i,hi,rfl⟩:=List.mem_iff_getElem.1 hy
    rw[List.length_take]at hi
    rw[List.getElem_take]
    have:=List.pairwise_iff_getElem.1 hup i k o_m o_m o_m
    omega
   have q1:=ys.out.c1
   rw[rfl']at q1 ⊢
   replace kr:=hide kr
   replace hzc:=hide hzc
   have hbs:=ys.out.lt
   by_cases hle:cd≤x
   ·have hst:Hid (plc (E.cs.take (k+1)) x=k+1):=hide (by
     rw[List.take_succ_eq_append_getElem o_m,plc_snoc,hcd,if_pos hle,plc_all fun y hy=>hlo hle y hy,List.length_take,Nat.min_eq_left o_m])
    obtain⟨cv,hcv⟩: ∃cv,cmpI cd x=cv:=⟨_,rfl⟩
    have hdc:decide (cv≤0)=true:=by
     rw[decide_eq_true_iff,←hcv]
     unfold cmpI
     split <;> (try split) <;> omega
    replace hcv:=hide hcv
    go_upto_region 5 with(fail)
    refine wp_region_held_drew (S:=(fun w'=>(w'.cell? ⟨bs,1,none⟩=some (.slice (some ⟨b,off,none⟩) v.cn v.cc))∧(w'.cell? ⟨bt,0,none⟩=some (.bool s)∧w'.cell? ⟨bt,1,none⟩=some (.slice a l c))∧(w'.cell? ⟨b,off+k*2,none⟩=some (.bool z.s)∧w'.cell? ⟨b,off+k*2+1,none⟩=some (.slice z.a z.l z.c)))) k_f (⟨(Below.cell (p:=⟨bs,1,none⟩) (grow_drew (Below.refl _ _)) hbs).trans q1,⟨(yx.out.below (grow_drew (Below.refl _ _))).c0,(yx.out.below (grow_drew (Below.refl _ _))).c1⟩,⟨(Below.cell (p:=⟨b,_,none⟩) (grow_drew (Below.refl _ _)) hb).trans c0,(Below.cell (p:=⟨b,_,none⟩) (grow_drew (Below.refl _ _)) hb).trans c1⟩⟩) (fun hHeld=> ?_)
    show wpAnyH _ _ _ _ _ 8 _ _ _
    have kW:=grow_drew (Below.refl wr.heap.size wr)
    generalize wr.drew=wQ at*
    refine tkz 0 15 ?_
    (try simp only[pz])
    refine tkz 1 16 ?_
    (try simp only[pz])
    refine tkz 2 17 ?_
    (try simp only[pz])
    refine tkz 3 18 ?_
    (try simp only[pz])
    refine tkz 4 19 ?_
    (try simp only[pz])
    refine tkz 5 20 ?_
    (try simp only[pz])
    refine ryz 6 (some 21) (fun K hK=> ?_) AllReadyH.nil
    go_simp
    go_at_call 99;refine Calls.mono (rcmp2_n (hzc.out.below kW) (hz.out.below kW) o_m o_m) ?_;rintro e wkA ⟨rfl,kA⟩
    rw[hcv.out]
    have kW:=grow_step kA kW
    try go_wp2_with fail
    refine hK.out _ _ ?_ ?_
    ·first|with_reducible exact trivial|((try dsimp only);exact⟨(Below.cell (p:=⟨bs,1,none⟩) kW hbs).trans q1,⟨(yx.out.below kW).c0,(yx.out.below kW).c1⟩,⟨(Below.cell (p:=⟨b,_,none⟩) kW hb).trans c0,(Below.cell (p:=⟨b,_,none⟩) kW hb).trans c1⟩⟩)
    clear hK K hHeld;intro hHeld
    (try simp only[pz])
    refine tkz 7 7 ?_
    (try simp only[pz])
    refine wpAnyH_done ?_ ?_ _
    ·decide+kernel
    have kz:=hide (grow_step kW kr.out)
    clear kW hHeld
    go_wp2
    exact⟨⟨k+1,by omega,by go_num,by rw[hst.out];go_num,kz.out⟩,by simp[intOf];omega⟩
   have hst:Hid (plc (E.cs.take (k+1)) x=plc (E.cs.take k) x):=hide (by
    rw[List.take_succ_eq_append_getElem o_m,plc_snoc,hcd,if_neg hle,Nat.add_zero])
   obtain⟨cv,hcv⟩: ∃cv,cmpI cd x=cv:=⟨_,rfl⟩
   have hdc:decide (cv≤0)=false:=by
    rw[decide_eq_false_iff_not,←hcv]
    unfold cmpI
    split <;> (try split) <;> omega
   replace hcv:=hide hcv
   go_upto_region 5 with(fail)
   refine wp_region_held_drew (S:=(fun w'=>(w'.cell? ⟨bs,1,none⟩=some (.slice (some ⟨b,off,none⟩) v.cn v.cc))∧(w'.cell? ⟨bt,0,none⟩=some (.bool s)∧w'.cell? ⟨bt,1,none⟩=some (.slice a l c))∧(w'.cell? ⟨b,off+k*2,none⟩=some (.bool z.s)∧w'.cell? ⟨b,off+k*2+1,none⟩=some (.slice z.a z.l z.c)))) k_f (⟨(Below.cell (p:=⟨bs,1,none⟩) (grow_drew (Below.refl _ _)) hbs).trans q1,⟨(yx.out.below (grow_drew (Below.refl _ _))).c0,(yx.out.below (grow_drew (Below.refl _ _))).c1⟩,⟨(Below.cell (p:=⟨b,_,none⟩) (grow_drew (Below.refl _ _)) hb).trans c0,(Below.cell (p:=⟨b,_,none⟩) (grow_drew (Below.refl _ _)) hb).trans c1⟩⟩) (fun hHeld=> ?_)
   show wpAnyH _ _ _ _ _ 8 _ _ _
   have kW:=grow_drew (Below.refl wr.heap.size wr)
   generalize wr.drew=wQ at*
   refine tkz 0 15 ?_
   (try simp only[pz])
   refine tkz 1 16 ?_
   (try simp only[pz])
   refine tkz 2 17 ?_
   (try simp only[pz])
   refine tkz 3 18 ?_
   (try simp only[pz])
   refine tkz 4 19 ?_
   (try simp only[pz])
   refine tkz 5 20 ?_
   (try simp only[pz])
   refine ryz 6 (some 21) (fun K hK=> ?_) AllReadyH.nil
   go_simp
   go_at_call 99;refine Calls.mono (rcmp2_n (hzc.out.below kW) (hz.out.below kW) o_m o_m) ?_;rintro e wkA ⟨rfl,kA⟩
   rw[hcv.out]
   have kW:=grow_step kA kW
   try go_wp2_with fail
   refine hK.out _ _ ?_ ?_
   ·first|with_reducible exact trivial|((try dsimp only);exact⟨(Below.cell (p:=⟨bs,1,none⟩) kW hbs).trans q1,⟨(yx.out.below kW).c0,(yx.out.below kW).c1⟩,⟨(Below.cell (p:=⟨b,_,none⟩) kW hb).trans c0,(Below.cell (p:=⟨b,_,none⟩) kW hb).trans c1⟩⟩)
   clear hK K hHeld;intro hHeld
   (try simp only[pz])
   refine tkz 7 7 ?_
   (try simp only[pz])
   refine wpAnyH_done ?_ ?_ _
   ·decide+kernel
   have kz:=hide (grow_step kW kr.out)
   clear kW hHeld
   go_wp2
   exact⟨⟨k+1,by omega,by go_num,by rw[hst.out],kz.out⟩,by simp[intOf];omega⟩
  obtain rfl:k=v.cn:=by omega
  have kz:=hide (grow_step kr kb.out)
  have q1:=ys.out.c1
  have htk:Hid (E.cs.take v.cn=E.cs):=hide (List.take_of_length_le o_m)
  clear kr
  go_wp2
  exact bodyPost_ret (results_tmp rfl _ _ _) rfl ⟨by rw[htk.out];rfl,kz.out⟩
theorem where_n {v:SV}{E:RE}(h:RS w v E)(hcn:v.cn≤1073741824)(hx:Zm w s a l c x)(hl:l≤17179869184):
  Calls Tryz.prog 69 #[.agg #[.int .i64 E.p,.slice v.ca v.cn v.cc,.slice v.ra v.rn v.rc],.agg #[.bool s,.slice a l c]] w fun e w'=>e= .returned (.int .i64 (plc E.cs x:Nat))∧Below w.heap.size w w':=by
 have b0:=below_alloc w (.cells #[.int .i64 E.p,.slice v.ca v.cn v.cc,.slice v.ra v.rn v.rc] 30)
 have b1:=below_alloc (w.alloc (.cells #[.int .i64 E.p,.slice v.ca v.cn v.cc,.slice v.ra v.rn v.rc] 30)) (.cells #[.bool s,.slice a l c] 38)
 have ys:=hide ((sbr_new w E.p v).below b1)
 have yx:=zb_new (w.alloc (.cells #[.int .i64 E.p,.slice v.ca v.cn v.cc,.slice v.ra v.rn v.rc] 30)) s a l c
 have hs1:(w.alloc (.cells #[.int .i64 E.p,.slice v.ca v.cn v.cc,.slice v.ra v.rn v.rc] 30)).heap.size=w.heap.size+1:=by simp
 rw[hs1]at yx
 have kb:=hide (grow_step b1 b0)
 have hS:=h.below kb.out
 have hz:=hide (hx.below kb.out)
 have hcl:=hS.cn
 have hup:=hS.wf.up
 have hcu:=hide hS.cu
 replace yx:=hide yx
 go_enter Tryz.func69,Tryz.ntmps69
 go_upto_region 1 with(fail)
 clear b0 b1 h hx hS hs1
 generalize (w.alloc (.cells #[.int .i64 E.p,.slice v.ca v.cn v.cc,.slice v.ra v.rn v.rc] 30)).alloc (.cells #[.bool s,.slice a l c] 38)=w0 at*
 obtain⟨bs,hbs⟩: ∃bs,w.heap.size=bs:=⟨_,rfl⟩
 rw[hbs]at ys yx ⊢
 obtain⟨bt,hbt⟩: ∃bt,bs+1=bt:=⟨_,rfl⟩
 rw[hbt]at yx ⊢
 clear hbs hbt
 go_wp2_with fail
 go_loopw [5,6] (fun vn vi wr=> ∃k:Nat,k≤v.cn∧vi= .int .i64 k∧vn= .int .i64 (plc (E.cs.take k) x:Nat)∧Below w0.heap.size w0 wr) (fun _ vi _=>v.cn-(intOf vi).toNat)
 case atStart=>exact⟨0,Nat.zero_le _,rfl,rfl,Below.refl _ _⟩
 case round=>
  obtain⟨k,hk,rfl,rfl,kr⟩:=hrel
  replace ys:=hide (ys.out.below kr)
  replace yx:=hide (yx.out.below kr)
  replace hz:=hide (hz.out.below kr)
  by_cases hkn:k<v.cn
  ·obtain⟨b,off,z,rfl',hb,c0,c1,hzc,hzl⟩:=(hcu.out.below kr).2 k hkn o_m
   obtain⟨cd,hcd⟩: ∃cd,E.cs[k]'o_m=cd:=⟨_,rfl⟩
   rw[hcd]at hzc
   have hlo:cd≤x→∀y∈E.cs.take k,y≤x:=fun hle y hy=>by
    obtain⟨i,hi,rfl⟩:=List.mem_iff_getElem.1 hy
    rw[List.length_take]at hi
    rw[List.getElem_take]
    have:=List.pairwise_iff_getElem.1 hup i k o_m o_m o_m
    omega
   have q1:=ys.out.c1
   rw[rfl']at q1 ⊢
   replace kr:=hide kr
   replace hzc:=hide hzc
   have hbs:=ys.out.lt
   by_cases hle:cd≤x
   ·have hst:Hid (plc (E.cs.take (k+1)) x=k+1):=hide (by
     rw[List.take_succ_eq_append_getElem o_m,plc_snoc,hcd,if_pos hle,plc_all fun y hy=>hlo hle y hy,List.length_take,Nat.min_eq_left o_m])
    have hdd:Hid (decide (x<cd)=false):=hide (by rw[decide_eq_false_iff_not];omega)
    go_upto_region 5 with(fail)
    refine wp_region_held_drew (S:=(fun w'=>(w'.cell? ⟨bs,1,none⟩=some (.slice (some ⟨b,off,none⟩) v.cn v.cc))∧(w'.cell? ⟨bt,0,none⟩=some (.bool s)∧w'.cell? ⟨bt,1,none⟩=some (.slice a l c))∧(w'.cell? ⟨b,off+k*2,none⟩=some (.bool z.s)∧w'.cell? ⟨b,off+k*2+1,none⟩=some (.slice z.a z.l z.c)))) k_f (⟨(Below.cell (p:=⟨bs,1,none⟩) (grow_drew (Below.refl _ _)) hbs).trans q1,⟨(yx.out.below (grow_drew (Below.refl _ _))).c0,(yx.out.below (grow_drew (Below.refl _ _))).c1⟩,⟨(Below.cell (p:=⟨b,_,none⟩) (grow_drew (Below.refl _ _)) hb).trans c0,(Below.cell (p:=⟨b,_,none⟩) (grow_drew (Below.refl _ _)) hb).trans c1⟩⟩) (fun hHeld=> ?_)
    show wpAnyH _ _ _ _ _ 8 _ _ _
    have kW:=grow_drew (Below.refl wr.heap.size wr)
    generalize wr.drew=wQ at*
    refine tkz 0 15 ?_
    (try simp only[pz])
    refine tkz 1 16 ?_
    (try simp only[pz])
    refine tkz 2 17 ?_
    (try simp only[pz])
    refine tkz 3 18 ?_
    (try simp only[pz])
    refine tkz 4 19 ?_
    (try simp only[pz])
    refine tkz 5 20 ?_
    (try simp only[pz])
    refine ryz 6 (some 21) (fun K hK=> ?_) AllReadyH.nil
    go_simp
    go_at_call 68;refine Calls.mono (below19_n (hz.out.below kW) o_m (hzc.out.below kW) o_m) ?_;rintro e wkA ⟨rfl,kA⟩
    rw[hdd.out]
    have kW:=grow_step kA kW
    try go_wp2_with fail
    refine hK.out _ _ ?_ ?_
    ·first|with_reducible exact trivial|((try dsimp only);exact⟨(Below.cell (p:=⟨bs,1,none⟩) kW hbs).trans q1,⟨(yx.out.below kW).c0,(yx.out.below kW).c1⟩,⟨(Below.cell (p:=⟨b,_,none⟩) kW hb).trans c0,(Below.cell (p:=⟨b,_,none⟩) kW hb).trans c1⟩⟩)
    clear hK K hHeld;intro hHeld
    (try simp only[pz])
    refine tkz 7 7 ?_
    (try simp only[pz])
    refine wpAnyH_done ?_ ?_ _
    ·decide+kernel
    have kz:=hide (grow_step kW kr.out)
    clear kW hHeld
    go_wp2
    exact⟨⟨k+1,by omega,by go_num,by rw[hst.out];go_num,kz.out⟩,by simp[intOf];omega⟩
   have hst:Hid (plc (E.cs.take (k+1)) x=plc (E.cs.take k) x):=hide (by
    rw[List.take_succ_eq_append_getElem o_m,plc_snoc,hcd,if_neg hle,Nat.add_zero])
   have hdd:Hid (decide (x<cd)=true):=hide (by rw[decide_eq_true_iff];omega)
   go_upto_region 5 with(fail)
   refine wp_region_held_drew (S:=(fun w'=>(w'.cell? ⟨bs,1,none⟩=some (.slice (some ⟨b,off,none⟩) v.cn v.cc))∧(w'.cell? ⟨bt,0,none⟩=some (.bool s)∧w'.cell? ⟨bt,1,none⟩=some (.slice a l c))∧(w'.cell? ⟨b,off+k*2,none⟩=some (.bool z.s)∧w'.cell? ⟨b,off+k*2+1,none⟩=some (.slice z.a z.l z.c)))) k_f (⟨(Below.cell (p:=⟨bs,1,none⟩) (grow_drew (Below.refl _ _)) hbs).trans q1,⟨(yx.out.below (grow_drew (Below.refl _ _))).c0,(yx.out.below (grow_drew (Below.refl _ _))).c1⟩,⟨(Below.cell (p:=⟨b,_,none⟩) (grow_drew (Below.refl _ _)) hb).trans c0,(Below.cell (p:=⟨b,_,none⟩) (grow_drew (Below.refl _ _)) hb).trans c1⟩⟩) (fun hHeld=> ?_)
   show wpAnyH _ _ _ _ _ 8 _ _ _
   have kW:=grow_drew (Below.refl wr.heap.size wr)
   generalize wr.drew=wQ at*
   refine tkz 0 15 ?_
   (try simp only[pz])
   refine tkz 1 16 ?_
   (try simp only[pz])
   refine tkz 2 17 ?_
   (try simp only[pz])
   refine tkz 3 18 ?_
   (try simp only[pz])
   refine tkz 4 19 ?_
   (try simp only[pz])
   refine tkz 5 20 ?_
   (try simp only[pz])
   refine ryz 6 (some 21) (fun K hK=> ?_) AllReadyH.nil
   go_simp
   go_at_call 68;refine Calls.mono (below19_n (hz.out.below kW) o_m (hzc.out.below kW) o_m) ?_;rintro e wkA ⟨rfl,kA⟩
   rw[hdd.out]
   have kW:=grow_step kA kW
   try go_wp2_with fail
   refine hK.out _ _ ?_ ?_
   ·first|with_reducible exact trivial|((try dsimp only);exact⟨(Below.cell (p:=⟨bs,1,none⟩) kW hbs).trans q1,⟨(yx.out.below kW).c0,(yx.out.below kW).c1⟩,⟨(Below.cell (p:=⟨b,_,none⟩) kW hb).trans c0,(Below.cell (p:=⟨b,_,none⟩) kW hb).trans c1⟩⟩)
   clear hK K hHeld;intro hHeld
   (try simp only[pz])
   refine tkz 7 7 ?_
   (try simp only[pz])
   refine wpAnyH_done ?_ ?_ _
   ·decide+kernel
   have kz:=hide (grow_step kW kr.out)
   clear kW hHeld
   go_wp2
   exact⟨⟨k+1,by omega,by go_num,by rw[hst.out],kz.out⟩,by simp[intOf];omega⟩
  obtain rfl:k=v.cn:=by omega
  have kz:=hide (grow_step kr kb.out)
  have q1:=ys.out.c1
  have htk:Hid (E.cs.take v.cn=E.cs):=hide (List.take_of_length_le o_m)
  clear kr
  go_wp2
  exact bodyPost_ret (results_tmp rfl _ _ _) rfl ⟨by rw[htk.out];rfl,kz.out⟩
end Cr
end Go.Proofs.YtaafoppaepcaeaaGreat

namespace Go.Proofs.YtaafoppaepcaeaaGreat
open Go.RowKit
namespace Pd

end Pd
namespace Pd

end Pd
namespace Pd

end Pd
namespace Pd

end Pd
namespace Pd

end Pd
end Go.Proofs.YtaafoppaepcaeaaGreat
