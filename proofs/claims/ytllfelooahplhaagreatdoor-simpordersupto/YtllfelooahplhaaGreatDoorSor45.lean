/-
 Several texts in one: VX,LSimpOrders.
-/
import Derived.Test.YtllfelooahplhaaGreatDoorSor44
import Derived.Test.YtllfelooahplhaaGreatDoorSor43
import Derived.Test.YtllfelooahplhaaGreatDoorSor38
import Derived.Laws.AppendOwnNone
namespace Go.Proofs.YtllfelooahplhaaGreatDoor
open Go.RowKit Go.Sort Go.Shelf
open Tm At
namespace Nt

structure OS (w0 wr:World) (pa pm:Nat) (s s':St) (F':Nat→Prop) (a:Option Addr) (P:List Int) (b:Option Addr) (Q:List Int):Prop where
 m:MS w0 wr pa pm s s' F' a P.length P
 il:IL wr b Q.length Q
 inf:InF (fun x=>x<wr.heap.size∧¬F' x∧x≠pm) b Q.length
theorem OS.below {w0 w w':World}{pa pm:Nat}{s s':St}{F:Nat→Prop}{a b:Option Addr}{P Q:List Int}(h:OS w0 w pa pm s s' F a P b Q)(k:Below w.heap.size w w'):OS w0 w' pa pm s s' F a P b Q:=
 ⟨h.m.below k,h.il.below k,h.inf.mono fun _ hb=>⟨Nat.lt_of_lt_of_le hb.1 k.size,hb.2⟩⟩
theorem OS.next {w0 w w':World}{e:Ending}{pa pm:Nat}{s s':St}{F:Nat→Prop}{a b:Option Addr}{P Q:List Int}{r:St × Int × Int}(h:OS w0 w pa pm s s' F a P b Q)(ha:AO2 w w' e pa pm 2000 8 F r)(hk:Kp 8 s' r): ∃F',OS w0 w' pa pm s r.1 F' a P b Q:=by
 obtain⟨F',h1,h2⟩:=h.m.e.next ha hk.gv
 obtain⟨_,_,_,_,h3⟩:=ha
 obtain⟨t1,e1⟩:=h.m.le
 obtain⟨t2,e2⟩:=hk.le
 have hs:=h3.size
 have hin: ∀{c:Option Addr}{n:Nat},InF (fun x=>x<w.heap.size∧¬F x∧x≠pm) c n→InF (fun x=>x<w'.heap.size∧¬F' x∧x≠pm) c n:=fun hc=>hc.mono fun b hb=>⟨Nat.lt_of_lt_of_le hb.1 hs,fun hf=>(h2 b hf).elim hb.2.1 fun hl=>absurd hb.1 (Nat.not_lt.2 hl),hb.2.2⟩
 exact⟨F',⟨h1,⟨t1++t2,by rw[e2,e1,List.append_assoc]⟩,h.m.il.but h.m.inf h3 fun b hb _ hf=>hf.elim hb.2.2 hb.2.1,hin h.m.inf⟩,h.il.but h.inf h3 fun b hb _ hf=>hf.elim hb.2.2 hb.2.1,hin h.inf⟩
theorem SimpR.once {nn kk:Int}{s:St}{kd dual idle rul sg:Int}{ids jds:List Int}{r:St × Int × Int}(h:SimpR nn kk s kd dual idle rul sg ids r)(hkd:kd=5∨kd=6)(hr:rul=0∨rul=1)(hg:Gv kk s.L)(he:r.2.2=0){s':St}(hl: ∃t,s'.L=r.1.L++t)(hg':Gv kk s'.L)(hs: ∀x,x∈ids↔x∈jds){q:St × Int × Int}(k:SimpR nn kk s' kd dual idle rul sg jds q):q=(s',r.2.1,0):=
 k.uniq ((h.same hkd hr hg he hl hg').set hs)
theorem SimpR.alone {nn kk:Int}{s:St}{kd dual idle rul sg:Int}{ids:List Int}{r:St × Int × Int}(h:SimpR nn kk s kd dual idle rul sg ids r)(hlw:Law5 kd dual idle rul sg)(hg:Gv kk s.L)(he:r.2.2=0){s':St}(hl: ∃t,s'.L=r.1.L++t)(hg':Gv kk s'.L){q:St × Int × Int}(k:SimpR nn kk s' kd dual idle rul sg [r.2.1] q):q=(s',r.2.1,0):=
 k.uniq (h.twice hlw hg he hl hg')
theorem app_iz {w:World}{ops:Array Oper}{rest:List Oper}{o:Oper}{a:Act}{Q:Exit→Act→World→Prop}(hgd:o.guard=none)(s x:Operand)(ho:o.op= .call {callee:=.builtin .append,args:=#[s,x],argTypes:=#[23,23]})(base:Nat)(v:Value)(n:Nat)(xs:List Int)(hs:a.eval s=v)(hown:w.ownsRow base 3 1 v n (xs.map (Value.int .i64)))
  (ad:Option Addr)(m c:Nat)(l:List Int)(hx:a.eval x= .slice ad m c)(hzn:ad=none→m=0∧c=0)(hI:IL w ad m l)(h63:n+m≤8388608)(hbase:base≤w.heap.size)
  (h: ∀v' w',w'.ownsRow base 3 1 v' (n+m) ((xs++l).map (Value.int .i64))→w.grownBy w' v.ownBlock→wpList Tryz.prog ops Q rest (a.put o.dst v') w'):wpList Tryz.prog ops Q (o::rest) a w:=by
 obtain⟨i0,hi,hz0,hz1,hz2⟩:=info_parts infoI9
 have hlen:=hI.1
 cases ad with
 |none=>
  obtain⟨rfl,rfl⟩:=hzn rfl
  obtain rfl:l= []:=List.eq_nil_of_length_eq_zero hlen
  refine wpList_append_own_none hgd s x 23 ho base 3 i0 1 Tryz.underlying23 hi v n (xs.map (Value.int .i64)) hs hown hx ?_
  exact h v w (by rw[List.append_nil];exact hown) ⟨rfl,rfl,rfl,Nat.le_refl _,fun _ _ _=>rfl⟩
 |some a0=>
  have hc: ∀j u,(l.map (Value.int .i64))[j]? =some u→w.cell? (a0.add j)=some u:=by
   intro j u hu
   obtain⟨hj,rfl⟩:=List.getElem?_eq_some_iff.1 hu
   have hj2:j<l.length:=by simpa using hj
   rcases hI.2 with h0|⟨b,off,e,hb,h2⟩
   ·omega
   cases e
   rw[List.getElem_map,Addr.add_lit]
   exact(h2 j hj2).1
  refine wpList_append_own_at w hgd s x 23 ho base 3 i0 _ 1 8 Tryz.underlying23 hi hz0 hz1 hz2 rfl (by decide) v n (xs.map (Value.int .i64)) hs hown a0 m c (l.map (Value.int .i64)) hx (by rw[List.length_map,hlen];omega) hc (fun u hu=>by obtain⟨x,_,rfl⟩:=List.mem_map.1 hu;rfl) (by unfold maxLen;omega) o_m hbase ?_
  intro v' w' h1 h2 _ h4
  rw[←List.map_append]at h1
  exact h v' w' h1 h2
end Nt
end Go.Proofs.YtllfelooahplhaaGreatDoor

namespace Go.Proofs.YtllfelooahplhaaGreatDoor
open Go.RowKit Go.Sort Go.Shelf
open Tm At
open Nt

theorem ofK_memO {ks ids:List Int}(h0:ids≠ []): ∀x∈pickL ks ids,x∈ids:=by
 intro x hx
 unfold pickL at hx
 obtain⟨k,_,rfl⟩:=List.mem_map.1 hx
 have hpk:=pick_lt k (n:=(ids.length:Int)) (by have:=List.length_pos_iff.2 h0;omega)
 unfold ofK
 rw[List.getD_eq_getElem?_getD,List.getElem?_eq_getElem o_m]
 exact List.getElem_mem _
set_option maxRecDepth 100000 in
set_option maxHeartbeats 6400000 in
theorem simpOrders_walk {w:World}{ad1:Option Addr}{n1 c1:Nat}{R1:List Mk}{B:Nat}{ka:Option Addr}{kn kc:Nat}{ks:List Int}{turn:Int}(h1:ML w ad1 n1 R1 B)(hS: ∀m∈R1,Sm m)(hn1:n1≤1048576)(hB:B≤1048576)(hI:IL w ka kn ks)(hkn:kn≤1048576)(ht6:I64 turn)(htab:Tab w):
  Calls Tryz.prog 4 #[.slice ad1 n1 c1,.slice ka kn kc,.int .i64 turn] w fun e w'=>e= .returned (.bool true)∧Below w.heap.size w w':=by
 replace hS:=hide hS
 replace hI:=hide hI
 replace h1:=hide h1
 go_enter Tryz.func4,Tryz.ntmps4
 go_wp2_with fail
 refine(awake9_n htab).mono ?_
 rintro e w1 ⟨rfl,k1⟩
 have ht1:=hide (htab.below k1)
 replace htab:=hide htab
 go_wp2_with fail
 refine(new_ag ht1.out).mono ?_
 rintro e w2 ⟨pa,pm,Fa,rfl,hGa,hFa,hpm,k2⟩
 have k12:=hide (grow_step k2 k1)
 have s1:=k1.size
 replace hGa:=hide hGa
 have iA:Hid (∀b,Fa b→w.heap.size≤b):=hide fun b hb=>by have:=hFa b hb;omega
 replace hpm:w.heap.size≤pm:=by omega
 have hp2:=hGa.out.mb.lt
 clear k1 k2 ht1 hFa s1
 go_wp2_with fail
 refine(built_n (nn:=2000) (kk:=8) (s:=st0) hGa.out iA.out hpm (by decide) h1.out hn1 hB k12.out htab.out).mono ?_
 rintro e w3 ⟨ax,cx,F3,rfl,hIx,hfx,hG3,hF3,hB3⟩
 have hrun:=hide (gv_run (R:=R1.take 40) fun m hm=>hS.out m (List.mem_of_mem_take hm))
 have hlen:=run_len 2000 8 (R1.take 40) (st0,[0,1])
 have hl40:(R1.take 40).length≤40:=by rw[List.length_take];omega
 have hne:Hid ((runW 2000 8 (st0,[0,1]) (R1.take 40)).2≠ []):=hide (run_gs (nn:=2000) (kk:=8) (R1.take 40) (st0_gs 8) (st0_in 0 0) fun m hm=>hS.out m (List.mem_of_mem_take hm)).2.1
 generalize runW 2000 8 (st0,[0,1]) (R1.take 40)=ra at*
 obtain⟨s,ids⟩:=ra
 dsimp only at*
 have hE3:Hid (EA w w3 pa pm 2000 8 s F3):=hide ⟨hG3,hrun.out.1,fun b hb=>(hF3 b hb).elim (iA.out b) fun h=>Nat.le_trans k12.out.size h,hpm,k12.out.trans (hB3.below (fun b hb=>hb.elim (fun e=>by omega) (iA.out b)) k12.out.size),htab.out,by decide,by decide⟩
 have hl2:ids.length≤1000:=by simp at hlen;omega
 replace hIx:=hide hIx
 clear hGa iA hp2 hB3 hF3 hG3 hfx hlen hl40 hS h1 k12 htab
 go_wp2_with fail
 refine(picked_n (ids:=ids) (hI.out.below hE3.out.k) hkn hIx.out hne.out hl2).mono ?_
 rintro e w4 ⟨v4,rfl,hrow,k4⟩
 have hok:Hid (∀x∈pickL ks ids,okI s.L x):=hide fun x hx=>hrun.out.2 x (ofK_memO hne.out x hx)
 have hE4:=hE3.out.below k4
 have hln:s.L.length≤2002:=by
  have h3:=hE4.g.ln
  have h4:=hE4.g.cn
  have h5:=hE4.g.n2
  omega
 have hx64: ∀x∈pickL ks ids,I64 x:=fun x hx=>by
  have:=hok.out x hx
  unfold okI at this
  unfold I64
  omega
 have hfo:=Joins.ownsRow_forms hrow
 obtain⟨a4,c4,rfl,hI4,hN4⟩:=row_il hrow hx64
 have hzn:Hid (a4=none→(pickL ks ids).length=0∧c4=0):=hide fun e=>by
  rcases hfo with⟨h5,h6⟩|⟨g,cap,h5⟩
  ·injection h5 with _ h7 h8
   exact⟨h6,h8⟩
  injection h5 with h7
  rw[e]at h7
  cases h7
 clear hfo
 have hfl3:=hE3.out.g.fl
 have hpl3:=hE3.out.g.mb.lt
 have hMS:Hid (MS w w4 pa pm s s F3 a4 (pickL ks ids).length (pickL ks ids)):=hide ⟨hE4,⟨[],by simp⟩,hI4,fun b off e h0=>⟨il_lt hI4 e h0,fun hf=>by have h5:=hfl3 b hf;have h6:=hN4 b off e h0;omega,fun hp=>by have h6:=hN4 b off e h0;omega⟩⟩
 have hsg:=hide hrun.out.1
 have hPl:(pickL ks ids).length≤12:=by unfold pickL;rw[List.length_map,List.length_take];omega
 clear hrow hI4 hN4 hE4 hE3 hIx hne hrun k4 hfl3 hpl3 hx64 hI hl2 hkn
 generalize pickL ks ids=P at*
 go_wp2_with fail
 obtain⟨i0,hi,hz0,hz1,hz2⟩:=info_parts infoI9
 have hwb:=hMS.out.e.k.size
 go_loopw [12,13] (fun vv i wr=> ∃(t:Nat) (Q:List Int),t≤P.length∧Q.length=t∧i= .int .i64 t∧Hid (∀x∈Q,x∈P)∧Hid (wr.ownsRow w4.heap.size 3 1 vv t (Q.map (Value.int .i64)))∧Hid (Below w4.heap.size w4 wr)) (fun _ i _=>P.length-(intOf i).toNat)
 case atStart=>exact⟨0,[],Nat.zero_le _,rfl,rfl,hide (fun x hx=>by cases hx),hide (World.ownsRow_nil _ _ _ _),hide (Below.refl _ _)⟩
 case round=>
  obtain⟨t,Q,ht,hQl,rfl,hQm,hrow,kr⟩:=hrel
  by_cases htn:t<P.length
  ·have hpk:=pick_lt turn (n:=(P.length:Int)) o_m
   have hpick:=hide (pick_n (w:=wr) ht6 (n:=(P.length:Int)) o_m)
   have hM:=hide (hMS.out.below kr.out)
   rcases hM.out.il.2 with h|⟨b0,o0,rfl,-⟩
   ·omega
   obtain⟨pn,hpn⟩: ∃q:Nat,pick turn P.length=(q:Int):=⟨(pick turn P.length).toNat,by omega⟩
   rw[hpn]at hpick hpk
   clear hpn
   obtain⟨q,hq⟩: ∃q:Nat,((pn:Int)+P.length-1-t+P.length)%(P.length:Int)=(q:Int):=⟨(((pn:Int)+P.length-1-t+P.length)%(P.length:Int)).toNat,by have:=Int.emod_nonneg ((pn:Int)+P.length-1-t+P.length) (show(P.length:Int)≠0 by omega);omega⟩
   have hql:q<P.length:=by have:=Int.emod_lt_of_pos ((pn:Int)+P.length-1-t+P.length) (show(0:Int)<P.length by omega);omega
   have hrem:Int.tmod ((pn:Int)+P.length-1-t+P.length) P.length=(q:Int):=by rw[Int.tmod_eq_emod_of_nonneg o_m];exact hq
   have e1:=hM.out.at hql
   have hPq:P[q]∈P:=List.getElem_mem _
   clear hq
   have hbase:=kr.out.size
   go_wp2_with fail
   refine hpick.out.mono ?_
   rintro e wA ⟨rfl,rfl⟩
   clear hpick
   generalize P[q]=y at*
   have hrow':=hide (own_below hrow.out (below_alloc wA (.cells #[.int .i64 y] 3)))
   have hyI:I64 y:=by have h5:=hok.out y hPq;unfold okI at h5;unfold I64;omega
   have hI8:Hid (IL (wA.alloc (.cells #[.int .i64 y] 3)) (some ⟨wA.heap.size,0,none⟩) 1 [y]):=hide (il_one (heap_alloc_new wA _) hyI)
   have hz8:w4.heap.size≤(wA.alloc (.cells #[.int .i64 y] 3)).heap.size:=by simp;omega
   have hend:Hid (∀v' w9,World.ownsRow w9 w4.heap.size 3 1 v' (t+1) ((Q++ [y]).map (Value.int .i64))→World.grownBy (wA.alloc (.cells #[.int .i64 y] 3)) w9 u12.ownBlock→(Q++ [y]).length=t+1∧Hid (∀x∈Q++ [y],x∈P)∧Hid (w9.ownsRow w4.heap.size 3 1 v' (t+1) ((Q++ [y]).map (Value.int .i64)))∧Hid (Below w4.heap.size w4 w9)):=hide fun v' w9 ho hg=>⟨by rw[List.length_append,hQl];rfl,hide (fun x hx=>(List.mem_append.1 hx).elim (hQm.out x) fun h=>by rw[List.mem_singleton.1 h];exact hPq),hide ho,hide ((grow_step (below_alloc wA _) kr.out).grown hg (grow_step (below_alloc wA _) kr.out).size fun k e=>(hrow.out.lt k e).1)⟩
   clear hrow hQm hM
   go_wp2_with(at_builtin;go_loud(refine app_ii rfl _ _ rfl w4.heap.size _ _ _ rfl hrow'.out (some ⟨wA.heap.size,0,none⟩) 1 1 [y] rfl (by decide) hI8.out o_m hz8 ?_);intro v' w9 ho hg ha;have h9:=hide (hend.out v' w9 ho hg);clear ho hg ha hend hrow' hI8)
   obtain⟨h91,h92,h93,h94⟩:=h9.out
   exact⟨⟨t+1,Q++ [y],by omega,h91,by go_num,h92,h93,h94⟩,by simp[intOf];omega⟩
  obtain rfl:t=P.length:=by omega
  have hM:=hide (hMS.out.below kr.out)
  have hbase:=kr.out.size
  have hfl4:=hMS.out.e.g.fl
  have hpl4:=hMS.out.e.g.mb.lt
  have hst:Hid (∀v' w5,World.ownsRow w5 w4.heap.size 3 1 v' (P.length+P.length) ((Q++P).map (Value.int .i64))→World.grownBy wr w5 u12.ownBlock→∃b5 c5,v'= .slice b5 (P.length+P.length) c5∧OS w w5 pa pm s s F3 a4 P b5 (Q++P)):=hide fun v' w5 ho hg=>by
   have hx64: ∀x∈Q++P,I64 x:=fun x hx=>by
    have hxP:x∈P:=(List.mem_append.1 hx).elim (hQm.out x) fun h=>h
    have h5:=hok.out x hxP
    unfold okI at h5
    unfold I64
    omega
   have hl:(Q++P).length=P.length+P.length:=by rw[List.length_append,hQl]
   obtain⟨b5,c5,rfl,hI5,hN5⟩:=row_il ho hx64
   have k5:Below w4.heap.size w4 w5:=kr.out.grown hg kr.out.size fun k e=>(hrow.out.lt k e).1
   refine⟨b5,c5,rfl,hMS.out.below k5,by rw[hl];exact hI5,fun b off e h0=> ?_⟩
   rw[hl]at h0
   have h6:=hN5 b off e h0
   exact⟨il_lt hI5 e h0,fun hf=>by have:=hfl4 b hf;omega,by omega⟩
  have hset:Hid (∀x,x∈P↔x∈Q++P):=hide fun x=>⟨fun h=>List.mem_append_right _ h,fun h=>(List.mem_append.1 h).elim (hQm.out x) fun h=>h⟩
  clear hMS hQm
  go_wp2_with(at_builtin;refine app_iz rfl _ _ rfl w4.heap.size _ _ _ rfl hrow.out a4 P.length c4 P rfl hzn.out hM.out.il o_m hbase ?_;intro v' w5 ho hg;obtain⟨b5,c5,rfl,hO5⟩:=hst.out v' w5 ho hg;replace hO5:=hide hO5;clear ho hg hst hrow hM)
  have hQP:Hid ((Q++P).length=P.length+P.length):=hide (by rw[List.length_append,hQl])
  clear hQl hwb hbase kr hfl4 hpl4
  generalize Q++P=Q2 at*
  clear Q
  have hc:=hide (and9_n (kc:=c4) (ids:=P) hO5.out.m.e.g hO5.out.m.e.v hO5.out.m.e.k0 (by decide) hO5.out.m.il o_m hO5.out.m.e.tab)
  refine hc.out.mono ?_
  rintro e wA ⟨⟨sA,oA,eA⟩,hsA,haA⟩
  have hkA:=hsA.kp (.inl rfl) (.inl rfl) hO5.out.m.e.v
  obtain⟨FA,hOA⟩:=hO5.out.next haA hkA
  have hgA:=hide hO5.out.m.e.v
  obtain⟨rfl,-⟩:=haA
  dsimp only at hOA ⊢
  replace hOA:=hide hOA
  replace hsA:=hide hsA
  replace hkA:=hide hkA
  clear hc hO5
  have hc:=and9_n (kc:=c5) (ids:=Q2) hOA.out.m.e.g hOA.out.m.e.v hOA.out.m.e.k0 (by decide) hOA.out.il (by have:=hQP.out;omega) hOA.out.m.e.tab
  rw[hQP.out]at hc
  replace hc:=hide hc
  go_wp2_with fail
  refine hc.out.mono ?_
  rintro e wB ⟨⟨sB,oB,eB⟩,hsB,haB⟩
  have hkB:=hsB.kp (.inl rfl) (.inl rfl) hOA.out.m.e.v
  have hB1:Hid (eA=0→oB=oA∧eB=0):=hide fun he=>by
   have h5:=hsA.out.once (.inl rfl) (.inl rfl) hgA.out he ⟨[],by simp⟩ hOA.out.m.e.v hset.out hsB
   injection h5 with _ h6
   injection h6 with h7 h8
   exact⟨h7,h8⟩
  obtain⟨FB,hOB⟩:=hOA.out.next haB hkB
  obtain⟨rfl,-⟩:=haB
  dsimp only at hOB ⊢
  replace hOB:=hide hOB
  replace hkB:=hide hkB
  clear hc hsB
  have hc:=hide (or9_n (kc:=c4) (ids:=P) hOB.out.m.e.g hOB.out.m.e.v hOB.out.m.e.k0 (by decide) hOB.out.m.il o_m hOB.out.m.e.tab)
  go_wp2_with fail
  refine hc.out.mono ?_
  rintro e wC ⟨⟨sC,oC,eC⟩,hsC,haC⟩
  have hkC:=hsC.kp (.inr rfl) (.inr rfl) hOB.out.m.e.v
  obtain⟨FC,hOC⟩:=hOB.out.next haC hkC
  obtain⟨rfl,-⟩:=haC
  dsimp only at hOC ⊢
  replace hOC:=hide hOC
  replace hsC:=hide hsC
  replace hkC:=hide hkC
  clear hc
  have hc:=or9_n (kc:=c5) (ids:=Q2) hOC.out.m.e.g hOC.out.m.e.v hOC.out.m.e.k0 (by decide) hOC.out.il (by have:=hQP.out;omega) hOC.out.m.e.tab
  rw[hQP.out]at hc
  replace hc:=hide hc
  go_wp2_with fail
  refine hc.out.mono ?_
  rintro e wD ⟨⟨sD,oD,eD⟩,hsD,haD⟩
  have hkD:=hsD.kp (.inr rfl) (.inr rfl) hOC.out.m.e.v
  have hD1:Hid (eC=0→oD=oC∧eD=0):=hide fun he=>by
   have h5:=hsC.out.once (.inr rfl) (.inr rfl) hOB.out.m.e.v he ⟨[],by simp⟩ hOC.out.m.e.v hset.out hsD
   injection h5 with _ h6
   injection h6 with h7 h8
   exact⟨h7,h8⟩
  obtain⟨FD,hOD⟩:=hOC.out.next haD hkD
  obtain⟨rfl,-⟩:=haD
  dsimp only at hOD ⊢
  replace hOD:=hide hOD
  replace hkD:=hide hkD
  clear hc hsD
  by_cases heA:eA=0
  rotate_left
  ·have neA:(eA !=0)=true:=bne_iff_ne.2 heA
   have hend:=hide hOD.out.m.e.k
   clear hOD hOC hOB hOA hsA hsC hkA hkB hkC hkD hB1 hD1 hset hgA
   go_wp2_with fail
   go_ret
   exact⟨rfl,hend.out⟩
  by_cases heC:eC=0
  rotate_left
  ·have neC:(eC !=0)=true:=bne_iff_ne.2 heC
   have hend:=hide hOD.out.m.e.k
   subst heA
   clear hOD hOC hOB hOA hsA hsC hkA hkB hkC hkD hB1 hD1 hset hgA
   go_wp2_with fail
   go_ret
   exact⟨rfl,hend.out⟩
  subst heA heC
  obtain⟨rfl,rfl⟩:=hB1.out rfl
  obtain⟨rfl,rfl⟩:=hD1.out rfl
  clear hB1 hD1 hset
  have hlAD:Hid (∃t,sD.L=sA.L++t):=hide (by
   obtain⟨t1,e1⟩:=hkB.out.le
   obtain⟨t2,e2⟩:=hkC.out.le
   obtain⟨t3,e3⟩:=hkD.out.le
   exact⟨t1++(t2++t3),by dsimp only at e1 e2 e3;rw[e3,e2,e1,List.append_assoc,List.append_assoc]⟩)
  have hokA:Hid (okI sA.L oB):=hide (hkA.out.ok rfl)
  have hokC:Hid (okI sC.L oD):=hide (hkC.out.ok rfl)
  have hokx:Hid (okI sD.L oB):=hide (by obtain⟨t,e⟩:=hlAD.out;rw[e];exact okI_app hokA.out)
  have hokz:Hid (okI sD.L oD):=hide (by obtain⟨t,e⟩:=hkD.out.le;dsimp only at e;rw[e];exact okI_app hokC.out)
  have hxI:I64 oB:=by
   have h3:=hOD.out.m.e.g.ln
   have h4:=hOD.out.m.e.g.cn
   have h5:=hOD.out.m.e.g.n2
   have h6:=hokx.out.1
   have h7:=hokx.out.2
   unfold I64
   omega
  have hzI:I64 oD:=by
   have h3:=hOD.out.m.e.g.ln
   have h4:=hOD.out.m.e.g.cn
   have h5:=hOD.out.m.e.g.n2
   have h6:=hokz.out.1
   have h7:=hokz.out.2
   unfold I64
   omega
  have hlnD:sD.L.length≤1048576:=by
   have h3:=hOD.out.m.e.g.ln
   have h4:=hOD.out.m.e.g.cn
   have h5:=hOD.out.m.e.g.n2
   omega
  have hOE:=hide (hOD.out.below (below_alloc wD (.cells #[.int .i64 oB] 3)))
  have hc:=and9_n (kc:=1) (ids:=[oB]) hOE.out.m.e.g hOE.out.m.e.v hOE.out.m.e.k0 (by decide) (il_one (heap_alloc_new wD _) hxI) (by simp) hOE.out.m.e.tab
  simp only[List.length_singleton]at hc
  replace hc:=hide hc
  go_wp2_with fail
  refine hc.out.mono ?_
  rintro e wE ⟨rE,hsE,haE⟩
  obtain rfl:=hsA.out.alone (.inl ⟨rfl,rfl,rfl,rfl,rfl⟩) hgA.out rfl hlAD.out hOE.out.m.e.v hsE
  obtain⟨FE,hOF⟩:=hOE.out.next haE (kp_now hOE.out.m.e.v fun _=>hokx.out)
  obtain⟨rfl,-⟩:=haE
  dsimp only at hOF ⊢
  replace hOF:=hide hOF
  clear hc hsE hOE hsA hgA hlAD hokA
  have hOG:=hide (hOF.out.below (below_alloc wE (.cells #[.int .i64 oD] 3)))
  have hc:=or9_n (kc:=1) (ids:=[oD]) hOG.out.m.e.g hOG.out.m.e.v hOG.out.m.e.k0 (by decide) (il_one (heap_alloc_new wE _) hzI) (by simp) hOG.out.m.e.tab
  simp only[List.length_singleton]at hc
  replace hc:=hide hc
  go_wp2_with fail
  refine hc.out.mono ?_
  rintro e wF ⟨rF,hsF,haF⟩
  obtain rfl:=hsC.out.alone (.inr ⟨rfl,rfl,rfl,rfl,rfl⟩) hOB.out.m.e.v rfl hkD.out.le hOG.out.m.e.v hsF
  obtain⟨FF',hOH⟩:=hOG.out.next haF (kp_now hOG.out.m.e.v fun _=>hokz.out)
  obtain⟨rfl,-⟩:=haF
  dsimp only at hOH ⊢
  replace hOH:=hide hOH.m.e
  clear hc hsF hOG hOF hOD hOC hOB hOA hsC hkA hkB hkC hkD hokC hokz hzI hok hzn hQP
  have hc:=hide (plain_n hOH.out.g.ax hOH.out.v.wk hlnD hokx.out)
  go_wp2_with fail
  refine hc.out.mono ?_
  rintro e wG ⟨bp,rfl,-,kG⟩
  have hEG:=hide (hOH.out.below kG)
  clear hc kG hOH
  have hc:=hide (again_n hEG.out hxI)
  go_wp2_with fail
  refine hc.out.mono ?_
  rintro e wH ⟨⟨q1,o1,er1⟩,ha1,hk1,hj1,-,-,hz1'⟩
  obtain⟨F1,hE1,-⟩:=hEG.out.next ha1 hk1.gv
  obtain⟨rfl,-⟩:=ha1
  dsimp only at hE1 hj1 hz1' ⊢
  replace hz1':=hide hz1'
  replace hE1:=hide hE1
  replace hj1:=hide hj1
  replace hk1:=hide hk1
  clear hc hEG
  by_cases he1:er1=0
  ·subst he1
   have ho1:=hk1.out.ok rfl
   dsimp only at ho1
   have h1I:I64 o1:=by
    have h3:=hE1.out.g.ln
    have h4:=hE1.out.g.cn
    have h5:=hE1.out.g.n2
    have h6:=ho1.1
    have h7:=ho1.2
    unfold I64
    omega
   have hsm:=hide (hj1.out rfl).2.1
   clear hz1'
   replace ho1:=hide ho1
   have hc:=hide (again_n hE1.out h1I)
   clear hj1
   go_wp2_with fail
   refine hc.out.mono ?_
   rintro e wI ⟨⟨q2,o2,er2⟩,ha2,hk2,hj2,-,-⟩
   obtain⟨F2,hE2,-⟩:=hE1.out.next ha2 hk2.gv
   obtain⟨rfl,-⟩:=ha2
   have hend:=hide hE2.k
   dsimp only at hj2 ⊢
   by_cases he2:er2=0
   ·subst he2
    obtain rfl:o2=o1:=(hj2 rfl).2.2 ((smp_le hE1.out.v.wk hk2.le ho1.out).2 hsm.out)
    clear hc hk2 hj2 hE2 hE1 hk1 hsm ho1 h1I
    cases bp
    ·go_wp2_with fail
     go_ret
     exact⟨rfl,hend.out⟩
    go_wp2_with fail
    go_ret
    exact⟨rfl,hend.out⟩
   have ne2:(er2 !=0)=true:=bne_iff_ne.2 he2
   clear hc hk2 hj2 hE2 hE1 hk1 hsm ho1 h1I
   cases bp
   ·go_wp2_with fail
    go_ret
    exact⟨rfl,hend.out⟩
   go_wp2_with fail
   go_ret
   exact⟨rfl,hend.out⟩
  have ne1:(er1 !=0)=true:=bne_iff_ne.2 he1
  obtain rfl:o1=0:=hz1'.out he1
  have hc:=hide (again_n hE1.out (id:=0) (by unfold I64;decide))
  clear hj1 hk1 hz1'
  go_wp2_with fail
  refine hc.out.mono ?_
  rintro e wI ⟨⟨q2,o2,er2⟩,ha2,hk2,-,-,-,-⟩
  obtain⟨F2,hE2,-⟩:=hE1.out.next ha2 hk2.gv
  obtain⟨rfl,-⟩:=ha2
  have hend:=hide hE2.k
  clear hc hk2 hE2 hE1
  cases bp
  ·go_wp2_with fail
   go_ret
   exact⟨rfl,hend.out⟩
  go_wp2_with fail
  go_ret
  exact⟨rfl,hend.out⟩
end Go.Proofs.YtllfelooahplhaaGreatDoor
