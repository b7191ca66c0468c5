/-
 Several texts in one: ES,ET,EV,EW,EX,EZ,J1,JK,JB.
-/
import Derived.Test.YtllfelooahplhaaGreatDoorSimT
import Derived.Test.YtllfelooahplhaaGreatDoorSim40
import Derived.Test.YtllfelooahplhaaGreatDoorSim37
import Derived.Test.YtllfelooahplhaaGreatDoorSim09
set_option maxRecDepth 100000
set_option maxHeartbeats 6400000
namespace Go.Proofs.YtllfelooahplhaaGreatDoor
open Go.RowKit Go.Sort Go.Shelf
open Tm At
namespace Nt

theorem own_move {w w':World}{base:Nat}{ty:TypeId}{st n:Nat}{v:Value}{l:List Value}(h:w.ownsRow base ty st v n l)(hm: ∀g,v.ownBlock=some g→w'.heap[g]? =w.heap[g]?):w'.ownsRow base ty st v n l:=by
 obtain⟨h1,h2⟩:=h
 refine⟨h1,?_⟩
 rcases h2 with h2|⟨g,cap,cur,e1,e2,e3,e4⟩
 ·exact .inl h2
 exact .inr ⟨g,cap,cur,e1,e2,(hm g (by rw[e1];rfl)).trans e3,e4⟩
theorem AG.move {w w':World}{pa pm:Nat}{nn kk:Int}{s:St}{F:Nat→Prop}(h:AG w pa pm nn kk s F)(hs:w.heap.size≤w'.heap.size)(hm: ∀b,F b∨b=pm→w'.heap[b]? =w.heap[b]?):AG w' pa pm nn kk s F:=by
 obtain⟨⟨C,nv,bm,X,D,h1,h2,h3⟩,h4,h5,h6,h7,h8,h9,h10,h11⟩:=h
 exact⟨⟨C,nv,bm,X,D,h1.move hs fun b hb=>hm b (.inl (h3 b hb)),h2,h3⟩,(hm pm (.inr rfl)).trans h4,h5,h6,h7,h8,h9,h10,fun b hb=>Nat.lt_of_lt_of_le (h11 b hb) hs⟩
def BT (w w':World)(e:Ending)(pa pm:Nat)(nn kk:Int)(F:Nat→Prop)(p:St × List Int):Prop:=
 ∃a c F',e= .returned (.slice a p.2.length c)∧IL w' a p.2.length p.2∧InF (fun b=>w.heap.size≤b∧¬F' b) a p.2.length∧AG w' pa pm nn kk p.1 F'∧(∀b,F' b→F b∨w.heap.size≤b)∧ButF (fun b=>b=pm∨F b) w w'
structure LI (w wr:World) (pa pm:Nat) (nn kk:Int) (F:Nat→Prop) (p:St × List Int) (vv:Value) (F':Nat→Prop):Prop where
 row:wr.ownsRow w.heap.size 3 1 vv p.2.length (p.2.map (Value.int .i64))
 apart: ∀g,vv.ownBlock=some g→¬F' g
 ag:AG wr pa pm nn kk p.1 F'
 sub: ∀b,F' b→F b∨w.heap.size≤b
 but:ButF (fun b=>b=pm∨F b) w wr
theorem LI.below {w wr w2:World}{pa pm:Nat}{nn kk:Int}{F F':Nat→Prop}{p:St × List Int}{vv:Value}(h:LI w wr pa pm nn kk F p vv F')(k:Below wr.heap.size wr w2):LI w w2 pa pm nn kk F p vv F':=
 ⟨own_move h.row fun g e=>k.block g (h.row.lt g e).2,h.apart,h.ag.below k,h.sub,ButF.trans h.but (butF_below k) fun _ _ h=>h⟩
theorem LI.asked {w w2 w3:World}{pa pm:Nat}{nn kk:Int}{F F' F3:Nat→Prop}{p:St × List Int}{vv:Value}{s':St}(h:LI w w2 pa pm nn kk F p vv F')(hG3:AG w3 pa pm nn kk s' F3)(hF3: ∀b,F3 b→F' b∨w2.heap.size≤b)(hB3:ButF (fun b=>b=pm∨F' b) w2 w3)(hpm:pm<w.heap.size):LI w w3 pa pm nn kk F (s',p.2) vv F3:=by
 have hs:=h.but.size
 refine⟨own_move h.row fun g e=> ?_,fun g e hf=> ?_,hG3,fun b hb=> ?_,ButF.trans h.but hB3 fun b hb hf=> ?_⟩
 ·have hl:=h.row.lt g e
  refine hB3.block g hl.2 fun hf=> ?_
  rcases hf with rfl|hf
  ·omega
  exact h.apart g e hf
 ·have hl:=h.row.lt g e
  rcases hF3 g hf with h1|h1
  ·exact h.apart g e h1
  omega
 ·rcases hF3 b hb with h1|h1
  ·exact h.sub b h1
  exact .inr o_m
 rcases hf with h1|h1
 ·exact .inl h1
 rcases h.sub b h1 with h2|h2
 ·exact .inr h2
 omega
theorem LI.append {w w3 w4:World}{pa pm:Nat}{nn kk:Int}{F F3:Nat→Prop}{s':St}{ids:List Int}{vv v':Value}{x:Int}(h:LI w w3 pa pm nn kk F (s',ids) vv F3)(hown:w4.ownsRow w.heap.size 3 1 v' (ids.length+1) (ids.map (Value.int .i64)++ [.int .i64 x]))(hgrow:(w3.alloc (.cells #[.int .i64 x] 3)).grownBy w4 vv.ownBlock)(hat:v'.ownBlock=vv.ownBlock∨v'.ownBlock=some (w3.alloc (.cells #[.int .i64 x] 3)).heap.size)(hpm:pm<w.heap.size):LI w w4 pa pm nn kk F (s',ids++ [x]) v' F3:=by
 have ka:=below_alloc w3 (.cells #[.int .i64 x] 3)
 have hs:=h.but.size
 have hsz:(w3.alloc (.cells #[.int .i64 x] 3)).heap.size=w3.heap.size+1:=by simp
 have hblk: ∀b,b<w3.heap.size→some b≠vv.ownBlock→w4.heap[b]? =w3.heap[b]?:=fun b hb hn=>(hgrow.block b o_m hn).trans (ka.block b hb)
 refine⟨by simpa using hown,fun g e hf=> ?_,h.ag.move (by have:=hgrow.size;omega) fun b hb=> ?_,h.sub,ButF.trans h.but (G:=fun b=>vv.ownBlock=some b) ⟨hgrow.os.trans ka.os,hgrow.tape.trans ka.tape,hgrow.output.trans ka.output,by have:=hgrow.size;omega,fun i hi hn=>hblk i hi fun e=>hn e.symm⟩ fun b hb hf=> ?_⟩
 ·rcases hat with h1|h1
  ·exact h.apart g (h1.symm.trans e) hf
  rw[h1]at e
  injection e with e
  have:=h.ag.fl g hf
  omega
 ·rcases hb with hb|rfl
  ·exact hblk b (h.ag.fl b hb) fun e=>h.apart b e.symm hb
  exact hblk b o_m fun e=>by have:=(h.row.lt b e.symm).1;omega
 have:=(h.row.lt b hf).1
 omega
theorem LI.bt {w wr:World}{pa pm:Nat}{nn kk:Int}{F F':Nat→Prop}{p:St × List Int}{a:Option Addr}{n c:Nat}(h:LI w wr pa pm nn kk F p (.slice a n c) F')(hx: ∀x∈p.2,I64 x):BT w wr (.returned (.slice a n c)) pa pm nn kk F p:=by
 obtain⟨a1,c1,e1,hI,hn⟩:=row_il h.row hx
 cases e1
 refine⟨a,c,F',rfl,hI,fun b off e h0=>⟨hn b off e h0,?_⟩,h.ag,h.sub,h.but⟩
 subst e
 exact h.apart _ rfl
theorem head_get {l:List Int}(h:0<l.length):l[0]=l.headD 0:=by
 cases l with
 |nil=>simp at h
 |cons a t=>rfl
theorem M9.move {w w':World}{b o:Nat}{kd xk:Int}{sd:Bool}{ad:Option Addr}{ld cd:Nat}{ap:Option Addr}{np cp:Nat}{sk:Bool}{ak:Option Addr}{lk ck:Nat}{v:Int}{ka:Option Addr}{kn kc:Nat}(h:M9 w b o kd xk sd ad ld cd ap np cp sk ak lk ck v ka kn kc)(hb:w'.heap[b]? =w.heap[b]?):M9 w' b o kd xk sd ad ld cd ap np cp sk ak lk ck v ka kn kc:=by
 have hc: ∀i,w'.cell? ⟨b,i,none⟩=w.cell? ⟨b,i,none⟩:=fun i=>World.cell?_of_block (a:=⟨b,i,none⟩) hb
 exact⟨(hc _).trans h.c0,(hc _).trans h.c1,(hc _).trans h.c2,(hc _).trans h.c3,(hc _).trans h.c4,(hc _).trans h.c5,(hc _).trans h.c6,(hc _).trans h.c7,(hc _).trans h.c8⟩
theorem m9_S {w:World}{b o b2 o2:Nat}{x:Value}{kd xk:Int}{sd:Bool}{ad:Option Addr}{ld cd:Nat}{ap:Option Addr}{np cp:Nat}{sk:Bool}{ak:Option Addr}{lk ck:Nat}{v:Int}{ka:Option Addr}{kn kc:Nat}(h:M9 w b o kd xk sd ad ld cd ap np cp sk ak lk ck v ka kn kc)(h2:w.cell? ⟨b2,o2,none⟩=some x):w.cell? ⟨b,o,none⟩=some (.int .i64 kd)∧w.cell? ⟨b,o+1,none⟩=some (.int .i64 xk)∧w.cell? ⟨b,o+2,none⟩=some (.bool sd)∧w.cell? ⟨b,o+3,none⟩=some (.slice ad ld cd)∧w.cell? ⟨b,o+4,none⟩=some (.slice ap np cp)∧w.cell? ⟨b,o+5,none⟩=some (.bool sk)∧w.cell? ⟨b,o+6,none⟩=some (.slice ak lk ck)∧w.cell? ⟨b,o+7,none⟩=some (.int .i64 v)∧w.cell? ⟨b,o+8,none⟩=some (.slice ka kn kc)∧w.cell? ⟨b2,o2,none⟩=some x:=⟨h.c0,h.c1,h.c2,h.c3,h.c4,h.c5,h.c6,h.c7,h.c8,h2⟩
theorem own_two (w:World)(x y:Int):(w.alloc (.cells #[.int .i64 x,.int .i64 y] 3)).ownsRow w.heap.size 3 1 (.slice (some ⟨w.heap.size,0,none⟩) 2 2) 2 (([x,y]:List Int).map (Value.int .i64)):=
 ⟨rfl,.inr ⟨w.heap.size,2,#[.int .i64 x,.int .i64 y],rfl,Nat.le_refl _,heap_alloc_new w _,Nat.le_refl _,by unfold maxLen;decide,rfl,rfl⟩⟩

theorem built_g {w:World}{pa pm:Nat}{nn kk:Int}{s:St}{F:Nat→Prop}{ad:Option Addr}{n c:Nat}{R:List Mk}{B:Nat}
  (hG:AG w pa pm nn kk s F)(h2:2≤s.L.length)(hR: ∀w',ButF (fun b=>b=pm∨F b) w w'→ML w' ad n R B)(hnR:InF (fun b=> ¬F b∧b≠pm∧b<w.heap.size) ad n)(hrl:R.length=n)(hn:n≤1048576)(hB:B≤1048576)(htab: ∀w',ButF (fun b=>b=pm∨F b) w w'→Tab w'):
  Calls Tryz.prog 11 #[.pointer (some ⟨pa,0,none⟩),.slice ad n c] w fun e w'=>BT w w' e pa pm nn kk F (runW nn kk (s,[0,1]) (R.take 40)):=by
 have hms:=hG.mb.lt
 have hin:In s [0,1]:=⟨by simp,fun x hx=>by simp at hx;omega⟩
 go_enter Tryz.func11,Tryz.ntmps11
 go_wp2_with fail
 obtain⟨i0,hi,hz0,hz1,hz2⟩:=info_parts infoI
 have b0:=below_alloc w (.cells #[.int .i64 0,.int .i64 1] 3)
 have hst:Hid (LI w (w.alloc (.cells #[.int .i64 0,.int .i64 1] 3)) pa pm nn kk F (s,[0,1]) (.slice (some ⟨w.heap.size,0,none⟩) 2 2) F):=hide ⟨own_two w 0 1,fun g e hg=>by cases e;exact absurd (hG.fl _ hg) (Nat.lt_irrefl _),hG.below b0,fun b hb=> .inl hb,butF_below b0⟩
 clear hG
 generalize w.alloc (.cells #[.int .i64 0,.int .i64 1] 3)=wb at*
 clear b0
 go_loopw [5,6] (fun vv i wr=> ∃(t:Nat) (F':Nat→Prop),t≤n∧t≤40∧i= .int .i64 t∧Hid (LI w wr pa pm nn kk F (runW nn kk (s,[0,1]) (R.take t)) vv F')) (fun _ i _=>40-(intOf i).toNat)
 case atStart=>exact⟨0,F,Nat.zero_le _,Nat.zero_le _,rfl,hst⟩
 case round=>
  obtain⟨t,F',ht,ht4,rfl,hli⟩:=hrel
  have hinp:=run_in (nn:=nn) (kk:=kk) (R.take t) hin
  have hlen:=run_len nn kk (R.take t) (s,[0,1])
  rw[List.length_take]at hlen
  have hlen2:(runW nn kk (s,[0,1]) (R.take t)).2.length≤42:=by simp at hlen;omega
  clear hlen
  have hLl:((runW nn kk (s,[0,1]) (R.take t)).1.L.length:Int)≤2002:=by have h1:=hli.out.ag.ln;have h3:=hli.out.ag.cn;have h4:=hli.out.ag.n2;omega
  have hx64: ∀x∈(runW nn kk (s,[0,1]) (R.take t)).2,I64 x:=fun x hx=>by have:=hinp.2 x hx;unfold I64;omega
  obtain⟨a5,c5,rfl⟩:=own_slice hli.out.row
  by_cases htn:t<n∧t<40
  ·have htw:=hide (htab wr hli.out.but)
   rcases(hR wr hli.out.but).2 with h|⟨bR,oR,rfl,hbR,hMA⟩
   ·omega
   have hbRw:=hnR bR oR rfl o_m
   obtain⟨sd,ad1,ld,cd,ap,np,cp,sk,ak,lk,ck,ka,kn,kc,hm9,hzd,hld,hPr,hnp,hzk,hlk,hks,hkn,hik,hiv⟩:=hMA t o_m
   clear hMA
   have hsn:Hid (runW nn kk (s,[0,1]) (R.take (t+1))=stepW nn kk (runW nn kk (s,[0,1]) (R.take t)) R[t]):=hide (by rw[List.take_succ_eq_append_getElem o_m,run_snoc])
   generalize R[t]=m at*
   generalize runW nn kk (s,[0,1]) (R.take t)=p at*
   obtain⟨st,ids⟩:=p
   dsimp only at hinp hlen2 hLl hx64
   have hflr:=hli.out.ag.fl
   have hsubr: ¬(bR=pm∨F' bR):=fun hf=>by
    rcases hf with hf|hf
    ·exact hbRw.2.1 hf
    rcases hli.out.sub bR hf with h9|h9
    ·exact hbRw.1 h9
    have:=hbRw.2.2
    omega
   have hpr:pm<wr.heap.size:=hli.out.ag.mb.lt
   obtain⟨a9,c9,e9,hIL,hNew⟩:=row_il (l:=ids) hli.out.row hx64
   cases e9
   have hof:=hide (of_n (ad:=ad1) (kd:=m.kind) (xk:=m.xk) (sd:=sd) (ld:=ld) (cd:=cd) (ap:=ap) (np:=np) (cp:=cp) (sk:=sk) (ak:=ak) (lk:=lk) (ck:=ck) (v:=m.v) (kc:=kc) (ic:=c5) hks o_m hIL hinp.1 (show ids.length≤1000 by omega))
   unfold mkv at hof
   have v0:=hm9.c0
   have v1:=hm9.c1
   have v2:=hm9.c2
   have v3:=hm9.c3
   have v4:=hm9.c4
   have v5:=hm9.c5
   have v6:=hm9.c6
   have v7:=hm9.c7
   have v8:=hm9.c8
   clear hIL hNew
   replace hli:=hide hli.out
   dsimp only
   go_wp2_with fail
   refine hof.out.mono ?_
   clear v0 v1 v2 v3 v4 v5 v6 v7 v8 hof
   rintro e w1 ⟨aO,cO,rfl,hIO,hnO,k1⟩
   have hm91:=hm9.below k1
   replace hzd:=hzd.below k1
   replace hPr:=hPr.below k1
   replace hzk:=hzk.below k1
   have hli1:=hide (hli.out.below k1)
   have htw1:=hide (htw.out.below k1)
   clear hli htw hm9 k1 hks
   have hwh:=hide (what_n (w:=w1) (ad:=ad1) (xk:=m.xk) (sd:=sd) (ld:=ld) (cd:=cd) (ap:=ap) (np:=np) (cp:=cp) (sk:=sk) (ak:=ak) (lk:=lk) (ck:=ck) (v:=m.v) (ka:=ka) (kn:=kn) (kc:=kc) hik)
   unfold mkv at hwh
   have v0:=hm91.c0
   have v1:=hm91.c1
   have v2:=hm91.c2
   have v3:=hm91.c3
   have v4:=hm91.c4
   have v5:=hm91.c5
   have v6:=hm91.c6
   have v7:=hm91.c7
   have v8:=hm91.c8
   go_wp2_with fail
   refine hwh.out.mono ?_
   clear v0 v1 v2 v3 v4 v5 v6 v7 v8 hwh
   rintro e w2 ⟨rfl,k2⟩
   have hm92:=hm91.below k2
   replace hzd:=hzd.below k2
   replace hPr:=hPr.below k2
   replace hzk:=hzk.below k2
   replace hIO:=hIO.below k2
   have hli2:=hide (hli1.out.below k2)
   have htw2:=hide (htw1.out.below k2)
   clear hli1 htw1 hm91 k2
   have hofi: ∀x∈ofI m.kids ids,0≤x∧x<(st.L.length:Int):=fun x hx=>hinp.2 x (ofI_mem hinp.1 hx)
   have hofl:=ofI_len (ks:=m.kids) (ids:=ids)
   have v0:=hm92.c0
   have v1:=hm92.c1
   have v2:=hm92.c2
   have v3:=hm92.c3
   have v4:=hm92.c4
   have v5:=hm92.c5
   have v6:=hm92.c6
   have v7:=hm92.c7
   have v8:=hm92.c8
   rcases whatI_cases m.kind with hw|hw|hw|hw|hw
   ·rw[hw]
    have hask:Hid (wants nn kk st ids m=asked nn kk st (atomA m.xk m.xd m.xp m.xt)):=hide (by unfold wants ask;rw[if_pos hw])
    go_wp2_with fail
    refine(atom_ao hli2.out.ag hzd hld hPr hzk hlk hnp hB htw2.out).mono ?_
    clear v0 v1 v2 v3 v4 v5 v6 v7 v8
    rintro e w3 ⟨x3,e3,rfl,hno,hyes,F3,hG3,hF3,hB3⟩
    rw[←hask.out]at hno hyes hG3
    have hli3:=hide (hli2.out.asked hG3 hF3 hB3 hms)
    clear hG3 hF3 hB3 hli2 hask hzd hPr hzk hIO htw2 hm92
    cases ho:(wants nn kk st ids m).2 with
    |none=>
     have he3:(e3==0)=false:=by simpa using hno ho
     have hst3:Hid (LI w w3 pa pm nn kk F (runW nn kk (s,[0,1]) (R.take (t+1))) (.slice a5 ids.length c5) F3):=hide (by rw[hsn.out];unfold stepW;rw[ho];simpa using hli3.out)
     clear hli3 hno hyes ho
     go_wp2
     exact⟨⟨t+1,F3,by omega,by omega,by go_num,hst3⟩,by simp[intOf];omega⟩
    |some i=>
     obtain⟨rfl,rfl⟩:=hyes i ho
     have hbase:=hide (show w.heap.size≤w3.heap.size from hli3.out.but.size)
     clear hno hyes
     go_wp2_with(at_builtin;refine wpList_append_own_at _ rfl _ _ 23 rfl w.heap.size 3 i0 _ 1 8 Tryz.underlying23 hi hz0 hz1 hz2 rfl (by decide) _ _ _ rfl (hli3.out.row.alloc _) ⟨w3.heap.size,0,none⟩ 1 1 [.int .i64 x3] rfl rfl (by simpa using cell_one_new w3 (.int .i64 x3) 3) (by simp[Value.oneCell']) (by unfold maxLen;dsimp only;omega) (by dsimp only;omega) (by have:=hbase.out;simp;omega) ?_;intro v' w4 hown' hgrow hnil hat')
     have hst3:Hid (LI w w4 pa pm nn kk F (runW nn kk (s,[0,1]) (R.take (t+1))) v' F3):=hide (by rw[hsn.out];unfold stepW;rw[ho];exact hli3.out.append hown' hgrow hat' hms)
     exact⟨⟨t+1,F3,by omega,by omega,by go_num,hst3⟩,by simp[intOf];omega⟩
   ·rw[hw]
    have hask:Hid (wants nn kk st ids m=asked nn kk st (joinA 5 (ofI m.kids ids))):=hide (by unfold wants ask;rw[if_neg o_m,if_pos hw])
    go_wp2_with fail
    refine(join_ao (.inl rfl) hli2.out.ag hIO o_m hofi htw2.out).mono ?_
    clear v0 v1 v2 v3 v4 v5 v6 v7 v8
    rintro e w3 ⟨x3,e3,rfl,hno,hyes,F3,hG3,hF3,hB3⟩
    rw[←hask.out]at hno hyes hG3
    have hli3:=hide (hli2.out.asked hG3 hF3 hB3 hms)
    clear hG3 hF3 hB3 hli2 hask hzd hPr hzk hIO htw2 hm92
    cases ho:(wants nn kk st ids m).2 with
    |none=>
     have he3:(e3==0)=false:=by simpa using hno ho
     have hst3:Hid (LI w w3 pa pm nn kk F (runW nn kk (s,[0,1]) (R.take (t+1))) (.slice a5 ids.length c5) F3):=hide (by rw[hsn.out];unfold stepW;rw[ho];simpa using hli3.out)
     clear hli3 hno hyes ho
     go_wp2
     exact⟨⟨t+1,F3,by omega,by omega,by go_num,hst3⟩,by simp[intOf];omega⟩
    |some i=>
     obtain⟨rfl,rfl⟩:=hyes i ho
     have hbase:=hide (show w.heap.size≤w3.heap.size from hli3.out.but.size)
     clear hno hyes
     go_wp2_with(at_builtin;refine wpList_append_own_at _ rfl _ _ 23 rfl w.heap.size 3 i0 _ 1 8 Tryz.underlying23 hi hz0 hz1 hz2 rfl (by decide) _ _ _ rfl (hli3.out.row.alloc _) ⟨w3.heap.size,0,none⟩ 1 1 [.int .i64 x3] rfl rfl (by simpa using cell_one_new w3 (.int .i64 x3) 3) (by simp[Value.oneCell']) (by unfold maxLen;dsimp only;omega) (by dsimp only;omega) (by have:=hbase.out;simp;omega) ?_;intro v' w4 hown' hgrow hnil hat')
     have hst3:Hid (LI w w4 pa pm nn kk F (runW nn kk (s,[0,1]) (R.take (t+1))) v' F3):=hide (by rw[hsn.out];unfold stepW;rw[ho];exact hli3.out.append hown' hgrow hat' hms)
     exact⟨⟨t+1,F3,by omega,by omega,by go_num,hst3⟩,by simp[intOf];omega⟩
   ·rw[hw]
    have hask:Hid (wants nn kk st ids m=asked nn kk st (joinA 6 (ofI m.kids ids))):=hide (by unfold wants ask;rw[if_neg o_m,if_neg o_m,if_pos hw])
    go_wp2_with fail
    refine(join_ao (.inr rfl) hli2.out.ag hIO o_m hofi htw2.out).mono ?_
    clear v0 v1 v2 v3 v4 v5 v6 v7 v8
    rintro e w3 ⟨x3,e3,rfl,hno,hyes,F3,hG3,hF3,hB3⟩
    rw[←hask.out]at hno hyes hG3
    have hli3:=hide (hli2.out.asked hG3 hF3 hB3 hms)
    clear hG3 hF3 hB3 hli2 hask hzd hPr hzk hIO htw2 hm92
    cases ho:(wants nn kk st ids m).2 with
    |none=>
     have he3:(e3==0)=false:=by simpa using hno ho
     have hst3:Hid (LI w w3 pa pm nn kk F (runW nn kk (s,[0,1]) (R.take (t+1))) (.slice a5 ids.length c5) F3):=hide (by rw[hsn.out];unfold stepW;rw[ho];simpa using hli3.out)
     clear hli3 hno hyes ho
     go_wp2
     exact⟨⟨t+1,F3,by omega,by omega,by go_num,hst3⟩,by simp[intOf];omega⟩
    |some i=>
     obtain⟨rfl,rfl⟩:=hyes i ho
     have hbase:=hide (show w.heap.size≤w3.heap.size from hli3.out.but.size)
     clear hno hyes
     go_wp2_with(at_builtin;refine wpList_append_own_at _ rfl _ _ 23 rfl w.heap.size 3 i0 _ 1 8 Tryz.underlying23 hi hz0 hz1 hz2 rfl (by decide) _ _ _ rfl (hli3.out.row.alloc _) ⟨w3.heap.size,0,none⟩ 1 1 [.int .i64 x3] rfl rfl (by simpa using cell_one_new w3 (.int .i64 x3) 3) (by simp[Value.oneCell']) (by unfold maxLen;dsimp only;omega) (by dsimp only;omega) (by have:=hbase.out;simp;omega) ?_;intro v' w4 hown' hgrow hnil hat')
     have hst3:Hid (LI w w4 pa pm nn kk F (runW nn kk (s,[0,1]) (R.take (t+1))) v' F3):=hide (by rw[hsn.out];unfold stepW;rw[ho];exact hli3.out.append hown' hgrow hat' hms)
     exact⟨⟨t+1,F3,by omega,by omega,by go_num,hst3⟩,by simp[intOf];omega⟩
   ·rw[hw]
    have hask:Hid (wants nn kk st ids m=asked nn kk st (.inr ⟨7,0,[],0,pick m.v 4,[(ofI m.kids ids).headD 0]⟩)):=hide (by unfold wants ask;rw[if_neg o_m,if_neg o_m,if_neg o_m,if_pos hw])
    have hone:=ofI_ne (ks:=m.kids) (ids:=ids)
    have hpos:0<(ofI m.kids ids).length:=List.length_pos_iff.2 hone
    rcases hIO.2 with h|⟨bO,oO,rfl,hbO,hcO⟩
    ·omega
    have hx0:(ofI m.kids ids)[0]=(ofI m.kids ids).headD 0:=head_get hpos
    have cO:=(hcO 0 hpos).1
    rw[hx0,Nat.add_zero]at cO
    have hx0i:=hofi _ (List.getElem_mem hpos)
    rw[hx0]at hx0i
    have hbOn:wr.heap.size≤bO:=hnO bO oO rfl hpos
    clear hcO hx0 hone
    generalize (ofI m.kids ids).headD 0=x0 at*
    clear v0 v1 v2 v3 v4 v5 v6 v7 v8 hIO hofi
    generalize (ofI m.kids ids).length=lO at*
    have kD:=grow_drew (Below.refl w2.heap.size w2)
    go_wp2_with fail
    refine wp_region_held_drew (S:=(fun w'=>w'.cell? ⟨bR,oR+t*9,none⟩=some (.int .i64 m.kind)∧w'.cell? ⟨bR,oR+t*9+1,none⟩=some (.int .i64 m.xk)∧w'.cell? ⟨bR,oR+t*9+2,none⟩=some (.bool sd)∧w'.cell? ⟨bR,oR+t*9+3,none⟩=some (.slice ad1 ld cd)∧w'.cell? ⟨bR,oR+t*9+4,none⟩=some (.slice ap np cp)∧w'.cell? ⟨bR,oR+t*9+5,none⟩=some (.bool sk)∧w'.cell? ⟨bR,oR+t*9+6,none⟩=some (.slice ak lk ck)∧w'.cell? ⟨bR,oR+t*9+7,none⟩=some (.int .i64 m.v)∧w'.cell? ⟨bR,oR+t*9+8,none⟩=some (.slice ka kn kc)∧w'.cell? ⟨bO,oO,none⟩=some (.int .i64 x0))) k_f (m9_S (hm92.below kD) ((kD.cell (p:=⟨bO,oO,none⟩) hbO).trans cO)) (fun hHeld=> ?_)
    show wpAnyH _ _ _ _ _ 15 _ _ _
    refine tkz 0 63 ?_
    (try simp only[pz])
    refine tkz 1 64 ?_
    (try simp only[pz])
    refine tkz 2 65 ?_
    (try simp only[pz])
    refine tkz 3 66 ?_
    (try simp only[pz])
    refine tkz 4 67 ?_
    (try simp only[pz])
    refine tkz 6 69 ?_
    (try simp only[pz])
    refine tkz 7 70 ?_
    (try simp only[pz])
    refine tkz 8 71 ?_
    (try simp only[pz])
    refine ryz 5 (some 68) (fun K hK=> ?_) AllReadyH.nil
    go_simp
    have hvar:=var_n (w:=w2.drew) (ad:=ad1) (kd:=m.kind) (xk:=m.xk) (sd:=sd) (ld:=ld) (cd:=cd) (ap:=ap) (np:=np) (cp:=cp) (sk:=sk) (ak:=ak) (lk:=lk) (ck:=ck) (ka:=ka) (kn:=kn) (kc:=kc) hiv
    unfold mkv at hvar
    refine Calls.mono hvar ?_
    clear hvar
    rintro e w2b ⟨rfl,k2b⟩
    replace k2b:=grow_step k2b (grow_drew (Below.refl _ _))
    have hm92:=hm92.below k2b
    have cO:=(k2b.cell (p:=⟨bO,oO,none⟩) hbO).trans cO
    have hli2:=hide (hli2.out.below k2b)
    have htw2:=hide (htw2.out.below k2b)
    have hbR2:bR<w2b.heap.size:=World.block_lt_of_cell? w2b _ hm92.c0
    have hbO2:bO<w2b.heap.size:=World.block_lt_of_cell? w2b _ cO
    (try go_wp2_with fail)
    refine hK.out _ _ ?_ ?_
    ·(try dsimp only);exact m9_S hm92 cO
    clear hK K hHeld;intro hHeld
    (try simp only[pz])
    refine ryz 9 (some 72) (fun K hK=> ?_) AllReadyH.nil
    go_simp
    refine Calls.mono (bind_ao (kd:=7) (.inl rfl) hli2.out.ag (by have:=pick_lt m.v (n:=4) (by decide);unfold I64;omega) hx0i htw2.out) ?_
    rintro e w3 ⟨x3,e3,rfl,hno,hyes,F3,hG3,hF3,hB3⟩
    have hm93:=hm92.move (w':=w3) (hB3.block bR hbR2 hsubr)
    have cO3:=(World.cell?_of_block (a:=⟨bO,oO,none⟩) (hB3.block bO hbO2 fun hf=>by rcases hf with rfl|hf;omega;have:=hflr _ hf;omega)).trans cO
    (try go_wp2_with fail)
    refine hK.out _ _ ?_ ?_
    ·(try dsimp only);exact m9_S hm93 cO3
    clear hK K hHeld;intro hHeld
    (try simp only[pz])
    refine ryz 10 (some 62) (fun K hK=> ?_) AllReadyH.nil
    go_simp
    refine hK.out _ _ ?_ ?_
    ·(try dsimp only);exact m9_S hm93 cO3
    clear hK K hHeld;intro hHeld
    (try simp only[pz])
    refine tkz 11 73 ?_
    (try simp only[pz])
    refine tkz 12 74 ?_
    (try simp only[pz])
    refine ryz 13 (some 8) (fun K hK=> ?_) AllReadyH.nil
    go_simp
    refine hK.out _ _ ?_ ?_
    ·(try dsimp only);exact m9_S hm93 cO3
    clear hK K hHeld;intro hHeld
    (try simp only[pz])
    refine ryz 14 (some 9) (fun K hK=> ?_) AllReadyH.nil
    go_simp
    refine hK.out _ _ ?_ ?_
    ·(try dsimp only);exact m9_S hm93 cO3
    clear hK K hHeld;intro hHeld
    (try simp only[pz])
    refine wpAnyH_done k_f ?_ _
    rw[←hask.out]at hno hyes hG3
    have hli3:=hide (hli2.out.asked hG3 hF3 hB3 hms)
    clear hG3 hF3 hB3 hli2 hask hzd hPr hzk htw2 hm92 hm93 cO cO3 hHeld
    cases ho:(wants nn kk st ids m).2 with
    |none=>
     have he3:(e3==0)=false:=by simpa using hno ho
     have hst3:Hid (LI w w3 pa pm nn kk F (runW nn kk (s,[0,1]) (R.take (t+1))) (.slice a5 ids.length c5) F3):=hide (by rw[hsn.out];unfold stepW;rw[ho];simpa using hli3.out)
     clear hli3 hno hyes ho
     go_wp2
     exact⟨⟨t+1,F3,by omega,by omega,by go_num,hst3⟩,by simp[intOf];omega⟩
    |some i=>
     obtain⟨rfl,rfl⟩:=hyes i ho
     have hbase:=hide (show w.heap.size≤w3.heap.size from hli3.out.but.size)
     clear hno hyes
     go_wp2_with(at_builtin;refine wpList_append_own_at _ rfl _ _ 23 rfl w.heap.size 3 i0 _ 1 8 Tryz.underlying23 hi hz0 hz1 hz2 rfl (by decide) _ _ _ rfl (hli3.out.row.alloc _) ⟨w3.heap.size,0,none⟩ 1 1 [.int .i64 x3] rfl rfl (by simpa using cell_one_new w3 (.int .i64 x3) 3) (by simp[Value.oneCell']) (by unfold maxLen;dsimp only;omega) (by dsimp only;omega) (by have:=hbase.out;simp;omega) ?_;intro v' w4 hown' hgrow hnil hat')
     have hst3:Hid (LI w w4 pa pm nn kk F (runW nn kk (s,[0,1]) (R.take (t+1))) v' F3):=hide (by rw[hsn.out];unfold stepW;rw[ho];exact hli3.out.append hown' hgrow hat' hms)
     exact⟨⟨t+1,F3,by omega,by omega,by go_num,hst3⟩,by simp[intOf];omega⟩
   rw[hw]
   have hask:Hid (wants nn kk st ids m=asked nn kk st (.inr ⟨8,0,[],0,pick m.v 4,[(ofI m.kids ids).headD 0]⟩)):=hide (by unfold wants ask;rw[if_neg o_m,if_neg o_m,if_neg o_m,if_neg o_m])
   have hone:=ofI_ne (ks:=m.kids) (ids:=ids)
   have hpos:0<(ofI m.kids ids).length:=List.length_pos_iff.2 hone
   rcases hIO.2 with h|⟨bO,oO,rfl,hbO,hcO⟩
   ·omega
   have hx0:(ofI m.kids ids)[0]=(ofI m.kids ids).headD 0:=head_get hpos
   have cO:=(hcO 0 hpos).1
   rw[hx0,Nat.add_zero]at cO
   have hx0i:=hofi _ (List.getElem_mem hpos)
   rw[hx0]at hx0i
   have hbOn:wr.heap.size≤bO:=hnO bO oO rfl hpos
   clear hcO hx0 hone
   generalize (ofI m.kids ids).headD 0=x0 at*
   clear v0 v1 v2 v3 v4 v5 v6 v7 v8 hIO hofi
   generalize (ofI m.kids ids).length=lO at*
   have kD:=grow_drew (Below.refl w2.heap.size w2)
   go_wp2_with fail
   refine wp_region_held_drew (S:=(fun w'=>w'.cell? ⟨bR,oR+t*9,none⟩=some (.int .i64 m.kind)∧w'.cell? ⟨bR,oR+t*9+1,none⟩=some (.int .i64 m.xk)∧w'.cell? ⟨bR,oR+t*9+2,none⟩=some (.bool sd)∧w'.cell? ⟨bR,oR+t*9+3,none⟩=some (.slice ad1 ld cd)∧w'.cell? ⟨bR,oR+t*9+4,none⟩=some (.slice ap np cp)∧w'.cell? ⟨bR,oR+t*9+5,none⟩=some (.bool sk)∧w'.cell? ⟨bR,oR+t*9+6,none⟩=some (.slice ak lk ck)∧w'.cell? ⟨bR,oR+t*9+7,none⟩=some (.int .i64 m.v)∧w'.cell? ⟨bR,oR+t*9+8,none⟩=some (.slice ka kn kc)∧w'.cell? ⟨bO,oO,none⟩=some (.int .i64 x0))) k_f (m9_S (hm92.below kD) ((kD.cell (p:=⟨bO,oO,none⟩) hbO).trans cO)) (fun hHeld=> ?_)
   show wpAnyH _ _ _ _ _ 15 _ _ _
   refine tkz 0 78 ?_
   (try simp only[pz])
   refine tkz 1 79 ?_
   (try simp only[pz])
   refine tkz 2 80 ?_
   (try simp only[pz])
   refine tkz 3 81 ?_
   (try simp only[pz])
   refine tkz 4 82 ?_
   (try simp only[pz])
   refine tkz 6 84 ?_
   (try simp only[pz])
   refine tkz 7 85 ?_
   (try simp only[pz])
   refine tkz 8 86 ?_
   (try simp only[pz])
   refine ryz 5 (some 83) (fun K hK=> ?_) AllReadyH.nil
   go_simp
   have hvar:=var_n (w:=w2.drew) (ad:=ad1) (kd:=m.kind) (xk:=m.xk) (sd:=sd) (ld:=ld) (cd:=cd) (ap:=ap) (np:=np) (cp:=cp) (sk:=sk) (ak:=ak) (lk:=lk) (ck:=ck) (ka:=ka) (kn:=kn) (kc:=kc) hiv
   unfold mkv at hvar
   refine Calls.mono hvar ?_
   clear hvar
   rintro e w2b ⟨rfl,k2b⟩
   replace k2b:=grow_step k2b (grow_drew (Below.refl _ _))
   have hm92:=hm92.below k2b
   have cO:=(k2b.cell (p:=⟨bO,oO,none⟩) hbO).trans cO
   have hli2:=hide (hli2.out.below k2b)
   have htw2:=hide (htw2.out.below k2b)
   have hbR2:bR<w2b.heap.size:=World.block_lt_of_cell? w2b _ hm92.c0
   have hbO2:bO<w2b.heap.size:=World.block_lt_of_cell? w2b _ cO
   (try go_wp2_with fail)
   refine hK.out _ _ ?_ ?_
   ·(try dsimp only);exact m9_S hm92 cO
   clear hK K hHeld;intro hHeld
   (try simp only[pz])
   refine ryz 9 (some 87) (fun K hK=> ?_) AllReadyH.nil
   go_simp
   refine Calls.mono (bind_ao (kd:=8) (.inr rfl) hli2.out.ag (by have:=pick_lt m.v (n:=4) (by decide);unfold I64;omega) hx0i htw2.out) ?_
   rintro e w3 ⟨x3,e3,rfl,hno,hyes,F3,hG3,hF3,hB3⟩
   have hm93:=hm92.move (w':=w3) (hB3.block bR hbR2 hsubr)
   have cO3:=(World.cell?_of_block (a:=⟨bO,oO,none⟩) (hB3.block bO hbO2 fun hf=>by rcases hf with rfl|hf;omega;have:=hflr _ hf;omega)).trans cO
   (try go_wp2_with fail)
   refine hK.out _ _ ?_ ?_
   ·(try dsimp only);exact m9_S hm93 cO3
   clear hK K hHeld;intro hHeld
   (try simp only[pz])
   refine ryz 10 (some 77) (fun K hK=> ?_) AllReadyH.nil
   go_simp
   refine hK.out _ _ ?_ ?_
   ·(try dsimp only);exact m9_S hm93 cO3
   clear hK K hHeld;intro hHeld
   (try simp only[pz])
   refine tkz 11 88 ?_
   (try simp only[pz])
   refine tkz 12 89 ?_
   (try simp only[pz])
   refine ryz 13 (some 8) (fun K hK=> ?_) AllReadyH.nil
   go_simp
   refine hK.out _ _ ?_ ?_
   ·(try dsimp only);exact m9_S hm93 cO3
   clear hK K hHeld;intro hHeld
   (try simp only[pz])
   refine ryz 14 (some 9) (fun K hK=> ?_) AllReadyH.nil
   go_simp
   refine hK.out _ _ ?_ ?_
   ·(try dsimp only);exact m9_S hm93 cO3
   clear hK K hHeld;intro hHeld
   (try simp only[pz])
   refine wpAnyH_done k_f ?_ _
   rw[←hask.out]at hno hyes hG3
   have hli3:=hide (hli2.out.asked hG3 hF3 hB3 hms)
   clear hG3 hF3 hB3 hli2 hask hzd hPr hzk htw2 hm92 hm93 cO cO3 hHeld
   cases ho:(wants nn kk st ids m).2 with
   |none=>
    have he3:(e3==0)=false:=by simpa using hno ho
    have hst3:Hid (LI w w3 pa pm nn kk F (runW nn kk (s,[0,1]) (R.take (t+1))) (.slice a5 ids.length c5) F3):=hide (by rw[hsn.out];unfold stepW;rw[ho];simpa using hli3.out)
    clear hli3 hno hyes ho
    go_wp2
    exact⟨⟨t+1,F3,by omega,by omega,by go_num,hst3⟩,by simp[intOf];omega⟩
   |some i=>
    obtain⟨rfl,rfl⟩:=hyes i ho
    have hbase:=hide (show w.heap.size≤w3.heap.size from hli3.out.but.size)
    clear hno hyes
    go_wp2_with(at_builtin;refine wpList_append_own_at _ rfl _ _ 23 rfl w.heap.size 3 i0 _ 1 8 Tryz.underlying23 hi hz0 hz1 hz2 rfl (by decide) _ _ _ rfl (hli3.out.row.alloc _) ⟨w3.heap.size,0,none⟩ 1 1 [.int .i64 x3] rfl rfl (by simpa using cell_one_new w3 (.int .i64 x3) 3) (by simp[Value.oneCell']) (by unfold maxLen;dsimp only;omega) (by dsimp only;omega) (by have:=hbase.out;simp;omega) ?_;intro v' w4 hown' hgrow hnil hat')
    have hst3:Hid (LI w w4 pa pm nn kk F (runW nn kk (s,[0,1]) (R.take (t+1))) v' F3):=hide (by rw[hsn.out];unfold stepW;rw[ho];exact hli3.out.append hown' hgrow hat' hms)
    exact⟨⟨t+1,F3,by omega,by omega,by go_num,hst3⟩,by simp[intOf];omega⟩
  have htk:R.take t=R.take 40:=by
   by_cases h5:t=40
   ·rw[h5]
   rw[List.take_of_length_le o_m,List.take_of_length_le o_m]
  rw[htk]at hli hx64
  have hfin:=hide (hli.out.bt hx64)
  clear hli hx64
  go_wp2
  all_goals
   go_ret
   exact hfin.out

theorem built_n {w0 w:World}{pa pm:Nat}{nn kk:Int}{s:St}{F:Nat→Prop}{ad:Option Addr}{n c:Nat}{R:List Mk}{B:Nat}
  (hG:AG w pa pm nn kk s F)(hF: ∀b,F b→w0.heap.size≤b)(hpm:w0.heap.size≤pm)(h2:2≤s.L.length)(hR:ML w0 ad n R B)(hn:n≤1048576)(hB:B≤1048576)(k0:Below w0.heap.size w0 w)(htab:Tab w0):
  Calls Tryz.prog 11 #[.pointer (some ⟨pa,0,none⟩),.slice ad n c] w fun e w'=>BT w w' e pa pm nn kk F (runW nn kk (s,[0,1]) (R.take 40)):=by
 have key: ∀w',ButF (fun b=>b=pm∨F b) w w'→Below w0.heap.size w0 w':=fun w' h=>k0.trans (h.below (fun b hb=>hb.elim (fun e=>by omega) (hF b)) k0.size)
 refine built_g hG h2 (fun w' h=>hR.below (key w' h)) (fun b off e h0=> ?_) hR.1 hn hB fun w' h=>htab.below (key w' h)
 rcases hR.2 with h9|⟨b1,o1,e1,h1,_⟩
 ·omega
 rw[e1]at e
 cases e
 have:=k0.size
 exact⟨fun hf=>by have:=hF _ hf;omega,by omega,by omega⟩
end Nt
namespace Nt

structure AX (w:World) (pa pm:Nat) (L:List Nd) (F:Nat→Prop):Prop where
 ar: ∃C nv bm X D,AS w pa pm L C 2097152 nv bm X D∧¬FF pa bm nv C pm∧∀b,FF pa bm nv C b→F b
 fl: ∀b,F b→b<w.heap.size
theorem AG.ax {w:World}{pa pm:Nat}{nn kk:Int}{s:St}{F:Nat→Prop}(h:AG w pa pm nn kk s F):AX w pa pm s.L F:=⟨h.ar,h.fl⟩
theorem IL.but {w w':World}{a:Option Addr}{n:Nat}{l:List Int}{G H:Nat→Prop}(h:IL w a n l)(hF:InF H a n)(k:ButF G w w')(hG: ∀b,H b→b<w.heap.size→¬G b):IL w' a n l:=
 il_move h k.size fun b off e h0=>k.block b (il_lt h e h0) (hG b (hF b off e h0) (il_lt h e h0))
theorem InF.mono {a:Option Addr}{n:Nat}{G H:Nat→Prop}(h:InF G a n)(hG: ∀b,G b→H b):InF H a n:=fun b off e h0=>hG b (h b off e h0)

end Nt
namespace Nt

theorem flat_get : ∀(X:List NR) (i j:Nat) (h:i<X.length),j<8→(X.flatMap NR.enc)[i*8+j]? =(X[i].enc)[j]?
 | [],i,j,h,_=>absurd h (Nat.not_lt_zero _)
 |x::X,0,j,_,hj=>by
  rw[List.flatMap_cons,List.getElem?_append_left (by simp[NR.enc];omega)]
  simp
 |x::X,i+1,j,h,hj=>by
  rw[List.flatMap_cons,List.getElem?_append_right (by simp[NR.enc];omega)]
  have h1:=flat_get X i j (by simpa using h) hj
  rw[show(i+1)*8+j-x.enc.length=i*8+j by simp[NR.enc];omega,h1]
  rfl
theorem AS.cell {w:World}{pa pm:Nat}{L:List Nd}{C:Nat→Prop}{B:Nat}{nv:Value}{bm:Nat}{X:List NR}{D:DataW Value}(h:AS w pa pm L C B nv bm X D){i:Nat}(hi:i<L.length):
  ∃g cap,nv= .slice (some ⟨g,0,none⟩) L.length cap∧∀j,j<8→∀(hX:i<X.length),w.cell? ⟨g,i*8+j,none⟩=(X[i].enc)[j]?:=by
 rcases h.row.2 with⟨_,h0⟩|⟨g,cap,cur,e1,_,e3,h1,h2,h3,h4⟩
 ·omega
 refine⟨g,cap,e1,fun j hj hX=> ?_⟩
 rw[cell_of_row w g (i*8+j) _ _ (0,0) e3,←flat_get X i j hX hj,←h4,List.getElem?_take,if_pos o_m]
 simp
def nE (x:NR):Array Value:=#[.int .i64 x.kd,.bool x.sd,.slice x.ad x.ld x.cd,.slice x.ap x.np x.cp,.bool x.sk,.slice x.ak x.lk x.ck,.int .i64 x.vr,.slice x.ka x.kn x.kc]
def NDF (w w':World)(e:Ending)(n:Nd):Prop:=
 ∃x:NR,e= .returned (.tuple #[.agg (nE x),.bool true])∧x.kd=n.kind∧x.vr=n.var∧Zn w' x.sd x.ad x.ld x.cd n.d∧New w.heap.size x.ad x.ld∧PnF (fun b=>w.heap.size≤b) w' x.ap x.np n.ps 2097152∧Zn w' x.sk x.ak x.lk x.ck n.k∧New w.heap.size x.ak x.lk∧IL w' x.ka x.kn n.kids∧New w.heap.size x.ka x.kn∧Below w.heap.size w w'

theorem node8_f {w:World}{pa pm:Nat}{L:List Nd}{F:Nat→Prop}(h:AX w pa pm L F){i:Nat}(hi:i<L.length):Calls Tryz.prog 43 #[.pointer (some ⟨pa,0,none⟩),.int .i64 (i:Int)] w fun e w'=>NDF w w' e L[i]:=by
 obtain⟨C,nv,bm,X,D,hA,-,-⟩:=h.ar
 have hlk:=hide (lacks_n (hA.below (below_alloc w (.cells #[.int .i64 0,.bool false,.slice none 0 0,.slice none 0 0,.bool false,.slice none 0 0,.int .i64 0,.slice none 0 0] 77))) (i:Int))
 rw[decide_eq_false o_m]at hlk
 have hXi:i<X.length:=by have:=hA.len;omega
 obtain⟨g,cap,rfl,hcell⟩:=hA.cell hi
 have hN:=hA.nodes i hi
 generalize L[i]=n at*
 have hc:=fun j hj=>hcell j hj hXi
 generalize X[i]=x at*
 have e0:=hc 0 (by decide)
 have e1:=hc 1 (by decide)
 have e2:=hc 2 (by decide)
 have e3:=hc 3 (by decide)
 have e4:=hc 4 (by decide)
 have e5:=hc 5 (by decide)
 have e6:=hc 6 (by decide)
 have e7:=hc 7 (by decide)
 clear hc hcell
 simp only[NR.enc,List.getElem?_cons_zero,List.getElem?_cons_succ,Nat.add_zero]at e0 e1 e2 e3 e4 e5 e6 e7
 have u1:w.cell? ⟨pa,1,none⟩=some (.slice (some ⟨g,0,none⟩) L.length cap):=cell_of_row _ pa 1 _ _ (0,0) hA.blk
 have hgl:g<w.heap.size:=World.block_lt_of_cell? w _ e0
 have hpl:=hA.pal
 have b0:=below_alloc w (.cells #[.int .i64 0,.bool false,.slice none 0 0,.slice none 0 0,.bool false,.slice none 0 0,.int .i64 0,.slice none 0 0] 77)
 have y:=NB.new w 0 false none 0 0 none 0 0 false none 0 0 0 none 0 0
 go_enter Tryz.func43,Tryz.ntmps43
 go_wp2_with(go_at_call 52;refine hlk.out.mono ?_;rintro e w1 ⟨rfl,rfl⟩)
 have hsz:(w.alloc (.cells #[.int .i64 0,.bool false,.slice none 0 0,.slice none 0 0,.bool false,.slice none 0 0,.int .i64 0,.slice none 0 0] 77)).heap.size=w.heap.size+1:=by simp
 refine(copied_n (hN.zd.below b0) hN.hld (hN.pn.pn.below b0) (hN.zk.below b0) hN.hlk (hN.kids.below b0) hN.hnp hN.hkn (Nat.le_refl _)).mono ?_
 rintro e w2 ⟨ad,cd,ap,cp,ak,ck,ka,kc,rfl,hz,hn1,hp,hk,hn2,hI,hn3,k2⟩
 have y2:=y.below k2
 replace k2:=hide (grow_step k2 b0)
 rw[hsz]at hn1 hp hn2 hn3
 have hkd:=hN.kd
 have hvr:=hN.vr
 clear hA hN hlk h b0 y hsz e0 e1 e2 e3 e4 e5 e6 e7 u1 hgl hpl
 generalize hpe:w.heap.size=p at*
 replace k2:Hid (Below w.heap.size w w2):=hpe▸k2
 have g0:=y2.c0
 have f0:=y2.f 0
 have g1:=y2.c1
 have f1:=y2.f 1
 have g2:=y2.c2
 have f2:=y2.f 2
 have g3:=y2.c3
 have f3:=y2.f 3
 have g4:=y2.c4
 have f4:=y2.f 4
 have g5:=y2.c5
 have f5:=y2.f 5
 have g6:=y2.c6
 have f6:=y2.f 6
 have g7:=y2.c7
 have f7:=y2.f 7
 iterate 6 (first|go_skip|go_guarded|go_step|go_upon|go_simp)
 clear g0 g1 g2 g3 g4 g5 g6 g7 f0 f1 f2 f3 f4 f5 f6 f7
 have hfin:=hide (nb_fin y2 n.kind x.sd ad x.ld cd ap x.np cp x.sk ak x.lk ck n.var ka x.kn kc)
 have h8:Hid (∀b,b≠p→((((((((w2.setCell ⟨p,0,none⟩ (.int .i64 n.kind)).setCell ⟨p,1,none⟩ (.bool x.sd)).setCell ⟨p,2,none⟩ (.slice ad x.ld cd)).setCell ⟨p,3,none⟩ (.slice ap x.np cp)).setCell ⟨p,4,none⟩ (.bool x.sk)).setCell ⟨p,5,none⟩ (.slice ak x.lk ck)).setCell ⟨p,6,none⟩ (.int .i64 n.var)).setCell ⟨p,7,none⟩ (.slice ka x.kn kc)).heap[b]? =w2.heap[b]?):=hide fun b hb=>heap_eight hb _ _ _ _ _ _ _ _
 have hs8:Hid (w2.heap.size≤((((((((w2.setCell ⟨p,0,none⟩ (.int .i64 n.kind)).setCell ⟨p,1,none⟩ (.bool x.sd)).setCell ⟨p,2,none⟩ (.slice ad x.ld cd)).setCell ⟨p,3,none⟩ (.slice ap x.np cp)).setCell ⟨p,4,none⟩ (.bool x.sk)).setCell ⟨p,5,none⟩ (.slice ak x.lk ck)).setCell ⟨p,6,none⟩ (.int .i64 n.var)).setCell ⟨p,7,none⟩ (.slice ka x.kn kc)).heap.size):=hide (by simp)
 have kz:Hid (Below w.heap.size w ((((((((w2.setCell ⟨p,0,none⟩ (.int .i64 n.kind)).setCell ⟨p,1,none⟩ (.bool x.sd)).setCell ⟨p,2,none⟩ (.slice ad x.ld cd)).setCell ⟨p,3,none⟩ (.slice ap x.np cp)).setCell ⟨p,4,none⟩ (.bool x.sk)).setCell ⟨p,5,none⟩ (.slice ak x.lk ck)).setCell ⟨p,6,none⟩ (.int .i64 n.var)).setCell ⟨p,7,none⟩ (.slice ka x.kn kc))):=hide ((((((((k2.out.setCell (p:=⟨p,0,none⟩) (show w.heap.size≤p by omega) (.int .i64 n.kind)).setCell (p:=⟨p,1,none⟩) (show w.heap.size≤p by omega) (.bool x.sd)).setCell (p:=⟨p,2,none⟩) (show w.heap.size≤p by omega) (.slice ad x.ld cd)).setCell (p:=⟨p,3,none⟩) (show w.heap.size≤p by omega) (.slice ap x.np cp)).setCell (p:=⟨p,4,none⟩) (show w.heap.size≤p by omega) (.bool x.sk)).setCell (p:=⟨p,5,none⟩) (show w.heap.size≤p by omega) (.slice ak x.lk ck)).setCell (p:=⟨p,6,none⟩) (show w.heap.size≤p by omega) (.int .i64 n.var)).setCell (p:=⟨p,7,none⟩) (show w.heap.size≤p by omega) (.slice ka x.kn kc))
 generalize ((((((((w2.setCell ⟨p,0,none⟩ (.int .i64 n.kind)).setCell ⟨p,1,none⟩ (.bool x.sd)).setCell ⟨p,2,none⟩ (.slice ad x.ld cd)).setCell ⟨p,3,none⟩ (.slice ap x.np cp)).setCell ⟨p,4,none⟩ (.bool x.sk)).setCell ⟨p,5,none⟩ (.slice ak x.lk ck)).setCell ⟨p,6,none⟩ (.int .i64 n.var)).setCell ⟨p,7,none⟩ (.slice ka x.kn kc))=w8 at*
 go_wp2
 refine bodyPost_ret (results_ct rfl _ _ p 77 _ (0,0) _ rfl hfin.out Tryz.underlying77 rfl k_f) rfl ?_
 refine⟨⟨n.kind,x.sd,ad,x.ld,cd,ap,x.np,cp,x.sk,ak,x.lk,ck,n.var,ka,x.kn,kc⟩,rfl,rfl,rfl,zn_move hz hs8.out fun b off e1 h0=>h8.out b (by have:=hn1 b off e1 h0;omega),fun b off e1 h0=>by have:=hn1 b off e1 h0;omega,?_,zn_move hk hs8.out fun b off e1 h0=>h8.out b (by have:=hn2 b off e1 h0;omega),fun b off e1 h0=>by have:=hn2 b off e1 h0;omega,il_move hI hs8.out fun b off e1 h0=>h8.out b (by have:=hn3 b off e1 h0;omega),fun b off e1 h0=>by have:=hn3 b off e1 h0;omega,kz.out⟩
 exact((hp.move hs8.out fun b hb _=>h8.out b o_m).pnF).move (Nat.le_refl _) (fun _ _ _=>rfl) fun b hb _=>by omega
end Nt
namespace Nt

theorem zn_limb {w:World}{s:Bool}{a:Option Addr}{l c:Nat}{z:Int}(h:Zn w s a l c z):l=lim z:=by
 obtain⟨n,⟨xs,hr,hc,hv⟩,hz,_⟩:=h
 have e:=canon_limbs hc
 have hl:l=xs.length:=hr.1.symm
 have hn:z.natAbs=(val xs).toNat:=by
  have h0:0≤n:=by rw[←hv];exact val_nonneg hr.2.2.2.1
  cases s <;> simp[sg]at hz <;> omega
 unfold lim
 rw[hn,←e,List.length_map,hl]
theorem pn_limb {w:World}{ad:Option Addr}{n:Nat}{ps:List (Int × Int)}{B B':Nat}(h:Pn w ad n ps B)(hl: ∀p∈ps,lim p.2≤B'):Pn w ad n ps B':=by
 refine⟨h.1,?_⟩
 rcases h.2 with h0|⟨b,off,e,hb,h2⟩
 ·exact .inl h0
 refine .inr ⟨b,off,e,hb,fun i hi=> ?_⟩
 obtain⟨s,a,l,c,c0,c1,c2,hz,_,hi6⟩:=h2 i hi
 exact⟨s,a,l,c,c0,c1,c2,hz,by rw[zn_limb hz];exact hl _ (List.getElem_mem hi),hi6⟩
end Nt
namespace Nt

end Nt
namespace Nt

open Classical in
def putE (nn kk:Int)(s:St)(n:Nd):St × Int × Int:=
 if spot s.L n<s.L.length then(s,(spot s.L n:Int),0)
 else if(mstep nn kk s.c s.er (nums n)).1=0 then(⟨s.L++ [n],(mstep nn kk s.c s.er (nums n)).2.1,(mstep nn kk s.c s.er (nums n)).2.2⟩,(s.L.length:Int),0)
 else(⟨s.L,(mstep nn kk s.c s.er (nums n)).2.1,(mstep nn kk s.c s.er (nums n)).2.2⟩,0,(mstep nn kk s.c s.er (nums n)).1)
theorem putE_found {nn kk:Int}{F:St}{n:Nd}{i:Nat}(hU:Uq F.L)(h:F.L[i]? =some n):putE nn kk F n=(F,(i:Int),0):=by
 have h9: ∃i:Nat,F.L[i]? =some n:=⟨i,h⟩
 unfold putE
 rw[if_pos (spot_at h9).1,hU _ i n (spot_at h9).2 h]
def actA (nn kk:Int)(s:St)(kd d:Int)(ps:List (Int × Int))(k:Int):St × Int × Int:=match formA kd d (nz (lays [] ps)) k with
 | .inr e=>(s,0,e)
 | .inl f=>putE nn kk s ⟨f.kind,f.d,f.ps,f.k,0,[]⟩
def actJ (nn kk:Int)(s:St)(kd:Int)(l:List Int):St × Int × Int:=
 if ¬(kd=5∨kd=6)then(s,0,1)else if l.any (lck s.L.length)=true then(s,0,80)else match ris l with
  | []=>(s,if kd=5 then 1 else 0,0)
  | [x]=>(s,x,0)
  |x::y::t=>putE nn kk s ⟨kd,0,[],0,0,x::y::t⟩
def actB (nn kk:Int)(s:St)(kd v kid:Int):St × Int × Int:=
 if ¬(kd=7∨kd=8)then(s,0,1)else if kid<0∨(s.L.length:Int)≤kid then(s,0,80)else putE nn kk s ⟨kd,0,[],0,v,[kid]⟩
def AO2 (w w':World)(e:Ending)(pa pm:Nat)(nn kk:Int)(F:Nat→Prop)(r:St × Int × Int):Prop:=
 e= .returned (.tuple #[.int .i64 r.2.1,.int .i64 r.2.2])∧∃F',AG w' pa pm nn kk r.1 F'∧(∀b,F' b→F b∨w.heap.size≤b)∧ButF (fun b=>b=pm∨F b) w w'
theorem ao2_now {w w':World}{pa pm:Nat}{nn kk:Int}{s:St}{F:Nat→Prop}(hG:AG w pa pm nn kk s F)(k:Below w.heap.size w w')(i er:Int):AO2 w w' (.returned (.tuple #[.int .i64 i,.int .i64 er])) pa pm nn kk F (s,i,er):=
 ⟨rfl,F,hG.below k,fun _ h=> .inl h,butF_below k⟩
theorem md_ao2 {w w':World}{e:Ending}{pa pm:Nat}{nn kk:Int}{s:St}{F C:Nat→Prop}{nv:Value}{bm:Nat}{X:List NR}{D:DataW Value}{n:Nd}(hG:AG w pa pm nn kk s F)(hA:AS w pa pm s.L C 2097152 nv bm X D)(hpm: ¬FF pa bm nv C pm)(hF: ∀b,FF pa bm nv C b→F b)(h:MD w w' e pa pm s.L C 2097152 nv bm nn kk s.c s.er n):AO2 w w' e pa pm nn kk F (putE nn kk s n):=by
 have hn:n∉s.L→¬ ∃i:Nat,s.L[i]? =some n:=fun h ⟨i,hi⟩=>h (List.mem_of_getElem? hi)
 have h0:=hG.c0
 have h1:=hG.cn
 have h2:=hG.n2
 have h3:=hG.e0
 have h4:=hG.e2
 have h5:=hG.ln
 rcases h with⟨i,g1,rfl,k⟩|⟨g1,g2,rfl,g4,k⟩|⟨g1,g2,rfl,g4,C',nv',X',D',g5,g6,g7⟩
 ·rw[putE_found hA.uq g1]
  exact ao2_now hG k _ _
 ·change (mstep nn kk s.c s.er (nums n)).1≠0 at g2
  change MB w' pm nn kk (mstep nn kk s.c s.er (nums n)).2.1 (mstep nn kk s.c s.er (nums n)).2.2 at g4
  have hA':AS w' pa pm s.L C 2097152 nv bm X D:=hA.move k.size fun b hb=>k.block b (hA.fl hb) fun e=>hpm (e▸hb)
  unfold putE
  rw[if_neg (spot_no (hn g1)),if_neg g2]
  refine⟨rfl,F,⟨⟨C,nv,bm,X,D,hA',hpm,hF⟩,g4,?_,?_,h2,?_,?_,?_,fun b hb=>Nat.lt_of_lt_of_le (hG.fl b hb) k.size⟩,fun b hb=> .inl hb,but_butF k⟩
  all_goals
   rcases mstep_cases nn kk s.c s.er (nums n)with⟨a1,a2⟩|⟨a1,r,a2,a3,a4⟩|⟨a1,a2,a3,a4⟩
  all_goals
   first
    |(rw[a2];dsimp only;omega)
    |(rw[a3];dsimp only;omega)
 change (mstep nn kk s.c s.er (nums n)).1=0 at g2
 change MB w' pm nn kk (mstep nn kk s.c s.er (nums n)).2.1 (mstep nn kk s.c s.er (nums n)).2.2 at g4
 unfold putE
 rw[if_neg (spot_no (hn g1)),if_pos g2]
 have hpm': ¬FF pa bm nv' C' pm:=fun hf=>(g6 pm hf).elim hpm fun h=>absurd (hG.mb.lt) o_m
 refine⟨rfl,FF pa bm nv' C',⟨⟨C',nv',bm,X',D',g5,hpm',fun _ hb=>hb⟩,g4,?_,?_,h2,?_,?_,?_,fun b hb=>g5.fl hb⟩,fun b hb=>(g6 b hb).imp (hF b) id,g7.mono fun b hb=>hb.imp id (hF b)⟩
 all_goals
  rcases mstep_cases nn kk s.c s.er (nums n)with⟨a1,a2⟩|⟨a1,r,a2,a3,a4⟩|⟨a1,a2,a3,a4⟩
 all_goals
  first
   |(rw[a2]at g2;exact absurd g2 a1)
   |(rw[a3]at g2;exact absurd g2 a2)
   |(rw[a2];dsimp only;simp only[List.length_append,List.length_cons,List.length_nil];omega)
   |(rw[a2];dsimp only;omega)


theorem atom_ao2 {w:World}{pa pm:Nat}{nn kk:Int}{s:St}{F:Nat→Prop}{kd:Int}{sd:Bool}{ad:Option Addr}{ld cd:Nat}{ap:Option Addr}{np cp:Nat}{sk:Bool}{ak:Option Addr}{lk ck:Nat}{d k:Int}{ps:List (Int × Int)}{B:Nat}
  (hG:AG w pa pm nn kk s F)(hd:Zm w sd ad ld cd d)(hld:ld≤B)(hP:Pr w ap np ps B)(hk:Zm w sk ak lk ck k)(hlk:lk≤B)(hn:np≤209716)(hB:B≤1048576)(htab:Tab w):
  Calls Tryz.prog 33 #[.pointer (some ⟨pa,0,none⟩),.agg #[.int .i64 kd,.bool sd,.slice ad ld cd,.slice ap np cp,.bool sk,.slice ak lk ck]] w fun e w'=>AO2 w w' e pa pm nn kk F (actA nn kk s kd d ps k):=by
 obtain⟨C,nv,bm,X,D,hA,hpm,hF⟩:=hG.ar
 have h1:=hG.cn
 have h2:=hG.n2
 have h3:=hG.ln
 refine(atom8_n hA hG.mb hpm hG.c0 hG.cn hG.n2 hG.e0 hG.e2 hd hld hP hk hlk hn hB o_m htab).mono ?_
 intro e w' h
 unfold AM at h
 unfold actA
 cases hf:formA kd d (nz (lays [] ps)) k with
 |inr er=>
  rw[hf]at h
  obtain⟨rfl,kb⟩:=h
  exact ao2_now hG kb _ _
 |inl f=>
  rw[hf]at h
  exact md_ao2 hG hA hpm hF h

theorem join_ao2 {w:World}{pa pm:Nat}{nn kk:Int}{s:St}{F:Nat→Prop}{kd:Int}{ka:Option Addr}{kc:Nat}{l:List Int}
  (hG:AG w pa pm nn kk s F)(hI:IL w ka l.length l)(hl:l.length≤1048576)(htab:Tab w):
  Calls Tryz.prog 40 #[.pointer (some ⟨pa,0,none⟩),.int .i64 kd,.slice ka l.length kc] w fun e w'=>AO2 w w' e pa pm nn kk F (actJ nn kk s kd l):=by
 obtain⟨C,nv,bm,X,D,hA,hpm,hF⟩:=hG.ar
 have h1:=hG.cn
 have h2:=hG.n2
 have h3:=hG.ln
 refine(join8_n hA hG.mb hpm hG.c0 hG.cn hG.n2 hG.e0 hG.e2 hI hl o_m htab).mono ?_
 intro e w' h
 unfold JO at h
 unfold actJ
 by_cases hkd:kd=5∨kd=6
 ·rw[if_neg (fun h=>h hkd)]at h ⊢
  by_cases ha:l.any (lck s.L.length)=true
  ·rw[if_pos ha]at h ⊢
   obtain⟨rfl,rfl⟩:=h
   exact ao2_now hG (Below.refl _ _) _ _
  rw[if_neg ha]at h ⊢
  cases hr:ris l with
  |nil=>
   rw[hr]at h
   obtain⟨rfl,kb⟩:=h
   exact ao2_now hG kb _ _
  |cons x t=>
   cases t with
   |nil=>
    rw[hr]at h
    obtain⟨rfl,kb⟩:=h
    exact ao2_now hG kb _ _
   |cons y t=>
    rw[hr]at h
    exact md_ao2 hG hA hpm hF h
 rw[if_pos hkd]at h ⊢
 obtain⟨rfl,rfl⟩:=h
 exact ao2_now hG (Below.refl _ _) _ _

theorem bind_ao2 {w:World}{pa pm:Nat}{nn kk:Int}{s:St}{F:Nat→Prop}{kd v kid:Int}
  (hG:AG w pa pm nn kk s F)(hv:I64 v)(hkid:I64 kid)(htab:Tab w):
  Calls Tryz.prog 41 #[.pointer (some ⟨pa,0,none⟩),.int .i64 kd,.int .i64 v,.int .i64 kid] w fun e w'=>AO2 w w' e pa pm nn kk F (actB nn kk s kd v kid):=by
 obtain⟨C,nv,bm,X,D,hA,hpm,hF⟩:=hG.ar
 have h1:=hG.cn
 have h2:=hG.n2
 have h3:=hG.ln
 refine(bind8_n hA hG.mb hpm hG.c0 hG.cn hG.n2 hG.e0 hG.e2 hv hkid o_m htab).mono ?_
 intro e w' h
 unfold BI at h
 unfold actB
 by_cases hkd:kd=7∨kd=8
 ·rw[if_neg (fun h=>h hkd)]at h ⊢
  by_cases ha:kid<0∨(s.L.length:Int)≤kid
  ·rw[if_pos ha]at h ⊢
   obtain⟨rfl,rfl⟩:=h
   exact ao2_now hG (Below.refl _ _) _ _
  rw[if_neg ha]at h ⊢
  exact md_ao2 hG hA hpm hF h
 rw[if_pos hkd]at h ⊢
 obtain⟨rfl,rfl⟩:=h
 exact ao2_now hG (Below.refl _ _) _ _

end Nt
end Go.Proofs.YtllfelooahplhaaGreatDoor

namespace Go.Proofs.YtllfelooahplhaaGreatDoor
open Tm At
namespace Nt

def ndI (L:List Nd)(i:Int):Nd:=(L[i.toNat]?).getD (cst 0)
def okI (L:List Nd)(i:Int):Prop:=0≤i∧i<(L.length:Int)
theorem okI_lck {L:List Nd}{i:Int}:lck L.length i=false↔okI L i:=by
  unfold lck okI
  rw[decide_eq_false_iff_not]
  omega
theorem ndI_at {L:List Nd}{i:Int}(h:okI L i): ∃h2:i.toNat<L.length,ndI L i=L[i.toNat]:=by
  have h2:i.toNat<L.length:=by unfold okI at h;omega
  exact⟨h2,by unfold ndI;rw[List.getElem?_eq_getElem h2];rfl⟩
def Wk (L:List Nd):Prop:=∀i,okI L i→∀k∈(ndI L i).kids,0≤k∧k<i
theorem Wk.ok {L:List Nd}(h:Wk L){i k:Int}(hi:okI L i)(hk:k∈(ndI L i).kids):okI L k:=by
  have:=h i hi k hk
  unfold okI at*
  omega
def Rk (L:List Nd)(kd:Int)(ids:List Int)(x:Int):Prop:=∀P:Int→Prop,(∀y∈ids,P y)→(∀y z,P y→okI L y→(ndI L y).kind=kd→z∈(ndI L y).kids→P z)→P x
theorem rk_id {L:List Nd}{kd:Int}{ids:List Int}{x:Int}(h:x∈ids):Rk L kd ids x:=fun _ h1 _=>h1 x h
theorem rk_kid {L:List Nd}{kd:Int}{ids:List Int}{x z:Int}(h:Rk L kd ids x)(ho:okI L x)(hk:(ndI L x).kind=kd)(hz:z∈(ndI L x).kids):Rk L kd ids z:=fun P h1 h2=>h2 x z (h P h1 h2) ho hk hz
theorem rk_bad {L:List Nd}(hw:Wk L){kd:Int}{ids:List Int}{x:Int}(h:Rk L kd ids x)(hx: ¬okI L x): ∃y∈ids,¬okI L y:=
  ⟨x,(h (fun y=>y∈ids∨okI L y) (fun _ hy=> .inl hy) (fun _ _ _ ho _ hz=> .inr (hw.ok ho hz))).resolve_right hx,hx⟩
def Mem (L:List Nd)(kd idle:Int)(ids:List Int)(x:Int):Prop:=Rk L kd ids x∧okI L x∧(ndI L x).kind≠kd∧x≠idle

structure Spr (L:List Nd) (kd idle:Int) (ids M Sn Lf:List Int):Prop where
  m: ∀x∈M,x∈Sn∧(ndI L x).kind≠kd∧x≠idle
  nd:M.Nodup
  s: ∀x∈Sn,okI L x∧Rk L kd ids x∧((ndI L x).kind=kd→∀z∈(ndI L x).kids,z∈Sn∨z∈Lf)∧((ndI L x).kind≠kd→x=idle∨x∈M)
  l: ∀x∈Lf,Rk L kd ids x
  i: ∀x∈ids,x∈Sn∨x∈Lf
theorem spr_0 (L:List Nd)(kd idle:Int)(ids:List Int):Spr L kd idle ids [] [] ids:=
  ⟨fun _ h=>(by cases h),List.nodup_nil,fun _ h=>(by cases h),fun _ h=>rk_id h,fun _ h=> .inr h⟩
theorem mem_snoc {l:List Int}{x y:Int}:y∈l++ [x]↔y∈l∨y=x:=by simp
theorem Spr.old {L:List Nd}{kd idle:Int}{ids M Sn Lf:List Int}{x:Int}(h:Spr L kd idle ids M Sn (Lf++ [x]))(hx:x∈Sn):Spr L kd idle ids M Sn Lf:=by
  have hh: ∀z,z∈Sn∨z∈Lf++ [x]→z∈Sn∨z∈Lf:=fun z hz=>hz.elim .inl fun hz=>(mem_snoc.1 hz).elim .inr fun e=> .inl (e▸hx)
  exact⟨h.m,h.nd,fun y hy=>⟨(h.s y hy).1,(h.s y hy).2.1,fun hk z hz=>hh z ((h.s y hy).2.2.1 hk z hz),(h.s y hy).2.2.2⟩,fun y hy=>h.l y (mem_snoc.2 (.inl hy)),fun y hy=>hh y (h.i y hy)⟩
theorem Spr.kids {L:List Nd}{kd idle:Int}{ids M Sn Lf:List Int}{x:Int}(h:Spr L kd idle ids M Sn (Lf++ [x]))(ho:okI L x)(hk:(ndI L x).kind=kd):Spr L kd idle ids M (x::Sn) (Lf++(ndI L x).kids):=by
  have hr:=h.l x (mem_snoc.2 (.inr rfl))
  have hh: ∀z,z∈Sn∨z∈Lf++ [x]→z∈x::Sn∨z∈Lf++(ndI L x).kids:=fun z hz=>hz.elim (fun h=> .inl (List.mem_cons_of_mem _ h)) fun hz=>(mem_snoc.1 hz).elim (fun h=> .inr (List.mem_append_left _ h)) fun e=> .inl (e▸List.mem_cons_self)
  refine⟨fun y hy=>⟨List.mem_cons_of_mem _ (h.m y hy).1,(h.m y hy).2⟩,h.nd,fun y hy=> ?_,fun y hy=> ?_,fun y hy=>hh y (h.i y hy)⟩
  · rcases List.mem_cons.1 hy with rfl|hy
    · exact⟨ho,hr,fun _ z hz=> .inr (List.mem_append_right _ hz),fun hn=>absurd hk hn⟩
    exact⟨(h.s y hy).1,(h.s y hy).2.1,fun hk z hz=>hh z ((h.s y hy).2.2.1 hk z hz),(h.s y hy).2.2.2⟩
  exact(List.mem_append.1 hy).elim (fun hy=>h.l y (mem_snoc.2 (.inl hy))) fun hy=>rk_kid hr ho hk hy
theorem Spr.idle {L:List Nd}{kd idle:Int}{ids M Sn Lf:List Int}(h:Spr L kd idle ids M Sn (Lf++ [idle]))(ho:okI L idle)(hk:(ndI L idle).kind≠kd):Spr L kd idle ids M (idle::Sn) Lf:=by
  have hr:=h.l idle (mem_snoc.2 (.inr rfl))
  have hh: ∀z,z∈Sn∨z∈Lf++ [idle]→z∈idle::Sn∨z∈Lf:=fun z hz=>hz.elim (fun h=> .inl (List.mem_cons_of_mem _ h)) fun hz=>(mem_snoc.1 hz).elim .inr fun e=> .inl (e▸List.mem_cons_self)
  refine⟨fun y hy=>⟨List.mem_cons_of_mem _ (h.m y hy).1,(h.m y hy).2⟩,h.nd,fun y hy=> ?_,fun y hy=>h.l y (mem_snoc.2 (.inl hy)),fun y hy=>hh y (h.i y hy)⟩
  rcases List.mem_cons.1 hy with rfl|hy
  · exact⟨ho,hr,fun hn=>absurd hn hk,fun _=> .inl rfl⟩
  exact⟨(h.s y hy).1,(h.s y hy).2.1,fun hk z hz=>hh z ((h.s y hy).2.2.1 hk z hz),(h.s y hy).2.2.2⟩
theorem Spr.mem {L:List Nd}{kd idle:Int}{ids M Sn Lf:List Int}{x:Int}(h:Spr L kd idle ids M Sn (Lf++ [x]))(hx:x∉Sn)(ho:okI L x)(hk:(ndI L x).kind≠kd)(hi:x≠idle):Spr L kd idle ids (M++ [x]) (x::Sn) Lf:=by
  have hr:=h.l x (mem_snoc.2 (.inr rfl))
  have hh: ∀z,z∈Sn∨z∈Lf++ [x]→z∈x::Sn∨z∈Lf:=fun z hz=>hz.elim (fun h=> .inl (List.mem_cons_of_mem _ h)) fun hz=>(mem_snoc.1 hz).elim .inr fun e=> .inl (e▸List.mem_cons_self)
  refine⟨fun y hy=> ?_,?_,fun y hy=> ?_,fun y hy=>h.l y (mem_snoc.2 (.inl hy)),fun y hy=>hh y (h.i y hy)⟩
  · rcases mem_snoc.1 hy with hy|rfl
    · exact⟨List.mem_cons_of_mem _ (h.m y hy).1,(h.m y hy).2⟩
    exact⟨List.mem_cons_self,hk,hi⟩
  · rw[List.nodup_append]
    exact⟨h.nd,by simp,fun a ha b hb e=>by rw[List.mem_singleton.1 hb]at e;exact hx (e▸(h.m a ha).1)⟩
  rcases List.mem_cons.1 hy with rfl|hy
  · exact⟨ho,hr,fun hn=>absurd hn hk,fun _=> .inr (mem_snoc.2 (.inr rfl))⟩
  exact⟨(h.s y hy).1,(h.s y hy).2.1,fun hk z hz=>hh z ((h.s y hy).2.2.1 hk z hz),fun hn=>((h.s y hy).2.2.2 hn).imp id fun hm=>mem_snoc.2 (.inl hm)⟩
theorem Spr.done {L:List Nd}{kd idle:Int}{ids M Sn:List Int}(h:Spr L kd idle ids M Sn []):(∀x∈ids,okI L x)∧M.Nodup∧∀x,x∈M↔Mem L kd idle ids x:=by
  have hS: ∀x,Rk L kd ids x→x∈Sn:=fun x hx=>hx (fun y=>y∈Sn) (fun y hy=>(h.i y hy).resolve_right (by simp)) (fun y z hy _ hk hz=>((h.s y hy).2.2.1 hk z hz).resolve_right (by simp))
  refine⟨fun x hx=>(h.s x (hS x (rk_id hx))).1,h.nd,fun x=>⟨fun hx=> ?_,fun⟨h1,h2,h3,h4⟩=> ?_⟩⟩
  · have h1:=h.m x hx
    exact⟨(h.s x h1.1).2.1,(h.s x h1.1).1,h1.2⟩
  exact((h.s x (hS x h1)).2.2.2 h3).resolve_left h4
def pot (L:List Nd)(Sn:List Int):Nat→Nat
  |0=>0
  |n+1=>pot L Sn n+if(n:Int)∈Sn then 0 else 1+(ndI L n).kids.length
theorem pot_same (L:List Nd)(Sn:List Int)(x:Int): ∀n:Nat,(n:Int)≤x→pot L (x::Sn) n=pot L Sn n
  |0,_=>rfl
  |n+1,h=>by
    have e:((n:Int)∈x::Sn)↔(n:Int)∈Sn:=by
      rw[List.mem_cons]
      exact⟨fun h1=>h1.elim (fun e=>by omega) id,.inr⟩
    unfold pot
    rw[pot_same L Sn x n o_m]
    simp only[e]
theorem pot_add (L:List Nd)(Sn:List Int)(x:Int)(h0:0≤x)(hx:x∉Sn): ∀n:Nat,x<(n:Int)→pot L Sn n=pot L (x::Sn) n+(1+(ndI L x).kids.length)
  |0,h=>by omega
  |n+1,h=>by
    by_cases e:x=(n:Int)
    · subst e
      unfold pot
      rw[pot_same L Sn (n:Int) n (Int.le_refl _),if_neg hx,if_pos List.mem_cons_self]
      omega
    have h1:=pot_add L Sn x h0 hx n o_m
    have e2:((n:Int)∈x::Sn)↔(n:Int)∈Sn:=by
      rw[List.mem_cons]
      exact⟨fun h1=>h1.elim (fun e3=>absurd e3.symm e) id,.inr⟩
    unfold pot
    simp only[e2]
    omega
def negP (ps:List (Int × Int)):List (Int × Int):=ps.map fun p=>(p.1,-p.2)
def Stay (L:List Nd)(sg:Int)(M:Int→Prop)(x:Int):Prop:=M x∧(ndI L x).kind=2∧∀y,M y→(ndI L y).kind=2→(ndI L y).ps=(ndI L x).ps→¬sg*(ndI L y).k<sg*(ndI L x).k
def Clash (L:List Nd)(sg:Int)(M:Int→Prop):Prop:=∃x y,Stay L sg M x∧Stay L sg M y∧(ndI L y).ps=negP (ndI L x).ps∧sg*((ndI L x).k+(ndI L y).k)≤sg
def Oppos (L:List Nd)(M:Int→Prop):Prop:=∃x y,M x∧M y∧(ndI L x).kind=3∧(ndI L y).kind=4∧(ndI L x).d=(ndI L y).d∧(ndI L x).ps=(ndI L y).ps∧(ndI L x).k=(ndI L y).k
def Keep (L:List Nd)(sg:Int)(M:Int→Prop)(x:Int):Prop:=M x∧((ndI L x).kind=2→Stay L sg M x)
def Need (L:List Nd)(sg dual:Int)(M:Int→Prop)(x:Int):Prop:=Keep L sg M x∧¬((ndI L x).kind=dual∧∃z∈(ndI L x).kids,Keep L sg M z)
theorem ris_set {l k:List Int}(h: ∀x,x∈l↔x∈k):ris l=ris k:=
  rise_ext _ _ (ris_rises l) (ris_rises k) fun x=>by rw[mem_ris,mem_ris];exact h x
theorem actJ_set {nn kk:Int}{s:St}{kd:Int}{l k:List Int}(h: ∀x,x∈l↔x∈k):actJ nn kk s kd l=actJ nn kk s kd k:=by
  have ha:l.any (lck s.L.length)=k.any (lck s.L.length):=by
    rw[Bool.eq_iff_iff,List.any_eq_true,List.any_eq_true]
    exact⟨fun⟨x,hx,h2⟩=>⟨x,(h x).1 hx,h2⟩,fun⟨x,hx,h2⟩=>⟨x,(h x).2 hx,h2⟩⟩
  unfold actJ
  rw[ha,ris_set h]
def SimpR (nn kk:Int)(s:St)(kd dual idle rul sg:Int)(ids:List Int)(r:St × Int × Int):Prop:=
  ((∃x∈ids,¬okI s.L x)∧r=(s,0,80))∨((∀x∈ids,okI s.L x)∧
    (((Mem s.L kd idle ids rul∨Clash s.L sg (Mem s.L kd idle ids)∨Oppos s.L (Mem s.L kd idle ids))∧r=(s,rul,0))∨
     (¬(Mem s.L kd idle ids rul∨Clash s.L sg (Mem s.L kd idle ids)∨Oppos s.L (Mem s.L kd idle ids))∧∃l,(∀x,x∈l↔Need s.L sg dual (Mem s.L kd idle ids) x)∧r=actJ nn kk s kd l)))
theorem SimpR.uniq {nn kk:Int}{s:St}{kd dual idle rul sg:Int}{ids:List Int}{r q:St × Int × Int}(h:SimpR nn kk s kd dual idle rul sg ids r)(k:SimpR nn kk s kd dual idle rul sg ids q):r=q:=by
  rcases h with⟨⟨x,hx,hn⟩,rfl⟩|⟨ho,h⟩
  · rcases k with⟨_,rfl⟩|⟨ho,_⟩
    · rfl
    exact absurd (ho x hx) hn
  rcases k with⟨⟨x,hx,hn⟩,_⟩|⟨_,k⟩
  · exact absurd (ho x hx) hn
  rcases h with⟨h1,rfl⟩|⟨h1,l,hl,rfl⟩
  · rcases k with⟨_,rfl⟩|⟨k1,_⟩
    · rfl
    exact absurd h1 k1
  rcases k with⟨k1,_⟩|⟨_,l',hl',rfl⟩
  · exact absurd k1 h1
  exact actJ_set fun x=>(hl x).trans (hl' x).symm
end Nt
namespace Nt

def Wn (i:Nat)(n:Nd):Prop:=
 (∃f:Atm,Fit f∧n=⟨f.kind,f.d,f.ps,f.k,0,[]⟩∧f.ps.length≤209716)∨
 (∃kd kids,(kd=5∨kd=6)∧n=⟨kd,0,[],0,0,kids⟩∧2≤kids.length∧kids.Pairwise (· < ·)∧∀x∈kids,0≤x∧x<(i:Int))∨
 (∃kd v x,(kd=7∨kd=8)∧n=⟨kd,0,[],0,v,[x]⟩∧I64 v∧0≤x∧x<(i:Int))
structure Gv (kk:Int) (L:List Nd):Prop where
 uq:Uq L
 c0:L[0]? =some (cst 0)
 c1:L[1]? =some (cst 1)
 wn: ∀(i:Nat) (n:Nd),2≤i→L[i]? =some n→Wn i n∧∀z∈nums n,(lim z:Int)≤kk
theorem Gv.len {kk:Int}{L:List Nd}(h:Gv kk L):2≤L.length:=by
 have:=(List.getElem?_eq_some_iff.1 h.c1).1
 omega
theorem Gv.ok0 {kk:Int}{L:List Nd}(h:Gv kk L):okI L 0:=by have:=h.len;unfold okI;omega
theorem Gv.ok1 {kk:Int}{L:List Nd}(h:Gv kk L):okI L 1:=by have:=h.len;unfold okI;omega
theorem Gv.n0 {kk:Int}{L:List Nd}(h:Gv kk L):ndI L 0=cst 0:=by
 show(L[0]?).getD (cst 0)=cst 0
 rw[h.c0]
 rfl
theorem Gv.n1 {kk:Int}{L:List Nd}(h:Gv kk L):ndI L 1=cst 1:=by
 show(L[1]?).getD (cst 0)=cst 1
 rw[h.c1]
 rfl
theorem ndI_some {L:List Nd}{i:Int}(h:okI L i):L[i.toNat]? =some (ndI L i):=by
 obtain⟨h2,e⟩:=ndI_at h
 rw[e,List.getElem?_eq_getElem h2]
theorem Gv.cases {kk:Int}{L:List Nd}(h:Gv kk L){i:Int}(hi:okI L i):
  (i=0∧ndI L i=cst 0)∨(i=1∧ndI L i=cst 1)∨(2≤i∧∃f:Atm,Fit f∧(f.kind=2∨f.kind=3∨f.kind=4)∧f.ps≠ []∧ndI L i=⟨f.kind,f.d,f.ps,f.k,0,[]⟩∧f.ps.length≤209716∧∀z∈nums (ndI L i),(lim z:Int)≤kk)∨
  (2≤i∧∃kd kids,(kd=5∨kd=6)∧ndI L i=⟨kd,0,[],0,0,kids⟩∧2≤kids.length∧kids.Pairwise (· < ·)∧∀x∈kids,0≤x∧x<i)∨
  (2≤i∧∃kd v x,(kd=7∨kd=8)∧ndI L i=⟨kd,0,[],0,v,[x]⟩∧I64 v∧0≤x∧x<i):=by
 have hs:=ndI_some hi
 have h0:=hi.1
 by_cases h2:2≤i
 ·obtain⟨hw,hk⟩:=h.wn i.toNat _ o_m hs
  rcases hw with⟨f,h3,h4,h5⟩|⟨kd,kids,h3,h4,h5,h6,h7⟩|⟨kd,v,x,h3,h4,h5,h6,h7⟩
  ·refine .inr (.inr (.inl ⟨h2,f,h3,?_,?_,h4,h5,hk⟩))
   ·rcases h3 with⟨h8,e1,e2,e3⟩|⟨h8,_⟩|⟨h8,_⟩
    ·exfalso
     have e:ndI L i=cst f.kind:=by rw[h4,e1,e2,e3];rfl
     rcases h8 with h8|h8
     ·rw[e,h8]at hs
      have:=h.uq _ 0 _ hs h.c0
      omega
     rw[e,h8]at hs
     have:=h.uq _ 1 _ hs h.c1
     omega
    ·exact .inl h8
    exact .inr h8
   rcases h3 with⟨h8,e1,e2,e3⟩|⟨_,_,_,h8,_⟩|⟨_,h8,_⟩
   ·exfalso
    have e:ndI L i=cst f.kind:=by rw[h4,e1,e2,e3];rfl
    rcases h8 with h8|h8
    ·rw[e,h8]at hs
     have:=h.uq _ 0 _ hs h.c0
     omega
    rw[e,h8]at hs
    have:=h.uq _ 1 _ hs h.c1
    omega
   ·exact h8
   exact h8.some
  ·exact .inr (.inr (.inr (.inl ⟨h2,kd,kids,h3,h4,h5,h6,fun x hx=>by have:=h7 x hx;omega⟩)))
  exact .inr (.inr (.inr (.inr ⟨h2,kd,v,x,h3,h4,h5,h6,by omega⟩)))
 rcases(show i=0∨i=1 by omega)with rfl|rfl
 ·exact .inl ⟨rfl,h.n0⟩
 exact .inr (.inl ⟨rfl,h.n1⟩)
theorem Gv.wk {kk:Int}{L:List Nd}(h:Gv kk L):Wk L:=fun i hi k hk=>by
 rcases h.cases hi with⟨_,e⟩|⟨_,e⟩|⟨_,f,_,_,_,e,_⟩|⟨_,kd,kids,_,e,_,_,h7⟩|⟨_,kd,v,x,_,e,_,h6,h7⟩
 ·rw[e]at hk;cases hk
 ·rw[e]at hk;cases hk
 ·rw[e]at hk;cases hk
 ·rw[e]at hk;exact h7 k hk
 rw[e]at hk
 have:k=x:=by simpa using hk
 omega
theorem rise_len : ∀(l:List Int) (a b:Int),a≤b→l.Pairwise (· < ·)→(∀x∈l,a≤x∧x<b)→(l.length:Int)≤b-a
 | [],a,b,h,_,_=>by simp;omega
 |x::t,a,b,_,h1,h2=>by
  have hx:=h2 x List.mem_cons_self
  have h3:=List.pairwise_cons.1 h1
  have ih:=rise_len t (x+1) b o_m h3.2 fun y hy=>⟨by have:=h3.1 y hy;omega,(h2 y (List.mem_cons_of_mem _ hy)).2⟩
  rw[List.length_cons]
  omega
theorem Gv.kids {kk:Int}{L:List Nd}(h:Gv kk L){i:Int}(hi:okI L i):((ndI L i).kids.length:Int)≤i∧(ndI L i).kids.Pairwise (· < ·):=by
 have h0:=hi.1
 rcases h.cases hi with⟨_,e⟩|⟨_,e⟩|⟨_,f,_,_,_,e,_⟩|⟨_,kd,kids,_,e,_,h6,h7⟩|⟨_,kd,v,x,_,e,_,h6,h7⟩
 ·rw[e];exact⟨by simp[cst];omega,List.Pairwise.nil⟩
 ·rw[e];exact⟨by simp[cst];omega,List.Pairwise.nil⟩
 ·rw[e];exact⟨by simp;omega,List.Pairwise.nil⟩
 ·rw[e]
  have:=rise_len kids 0 i h0 h6 h7
  exact⟨by dsimp only;omega,h6⟩
 rw[e];exact⟨by simp;omega,List.pairwise_singleton _ _⟩
theorem getE_app {L t:List Nd}{i:Nat}{n:Nd}(h:L[i]? =some n):(L++t)[i]? =some n:=by
 rw[List.getElem?_append_left (List.getElem?_eq_some_iff.1 h).1]
 exact h
theorem putE_cases (nn kk:Int)(s:St)(n:Nd):
  (∃i:Nat,s.L[i]? =some n∧putE nn kk s n=(s,(i:Int),0))∨
  ((∀i:Nat,s.L[i]? ≠some n)∧∃er,er≠0∧(putE nn kk s n)=(⟨s.L,s.c,er⟩,0,er)∧(s.er=0∨s.er=er))∨
  ((∀i:Nat,s.L[i]? ≠some n)∧s.er=0∧((nums n).any fun z=>decide (kk<(lim z:Int)))=false∧putE nn kk s n=(⟨s.L++ [n],s.c+1,0⟩,(s.L.length:Int),0)):=by
 by_cases h: ∃i:Nat,s.L[i]? =some n
 ·have h1:=spot_at h
  exact .inl ⟨_,h1.2,by unfold putE;rw[if_pos h1.1]⟩
 have h1:=spot_no h
 have hno: ∀i:Nat,s.L[i]? ≠some n:=fun i e=>h ⟨i,e⟩
 rcases mstep_cases nn kk s.c s.er (nums n)with⟨he,e⟩|⟨he,r,hr,e,_⟩|⟨he,e,h2,_⟩
 ·refine .inr (.inl ⟨hno,s.er,he,?_,.inr rfl⟩)
  unfold putE
  rw[if_neg h1,e,if_neg he]
 ·refine .inr (.inl ⟨hno,r,hr,?_,.inl he⟩)
  unfold putE
  rw[if_neg h1,e,if_neg hr]
 refine .inr (.inr ⟨hno,he,h2,?_⟩)
 unfold putE
 rw[if_neg h1,e,if_pos rfl]
structure Kp (kk:Int) (s:St) (r:St × Int × Int):Prop where
 le: ∃t,r.1.L=s.L++t
 gv:Gv kk r.1.L
 ok:r.2.2=0→okI r.1.L r.2.1
theorem kp_now {kk:Int}{s:St}{x e:Int}(h:Gv kk s.L)(hx:e=0→okI s.L x):Kp kk s (s,x,e):=⟨⟨[],by simp⟩,h,hx⟩
theorem kp_put {nn kk:Int}{s:St}{n:Nd}(h:Gv kk s.L)(hw:Wn s.L.length n):Kp kk s (putE nn kk s n):=by
 rcases putE_cases nn kk s n with⟨i,h1,e⟩|⟨_,er,h1,e,_⟩|⟨hno,h1,h2,e⟩
 ·rw[e]
  refine kp_now h fun _=> ?_
  have:=(List.getElem?_eq_some_iff.1 h1).1
  unfold okI
  omega
 ·rw[e]
  exact⟨⟨[],by simp⟩,h,fun h2=>absurd h2 h1⟩
 rw[e]
 refine⟨⟨[n],rfl⟩,⟨fun i j m hi hj=> ?_,getE_app h.c0,getE_app h.c1,fun i m hi hm=> ?_⟩,fun _=> ?_⟩
 ·have hc: ∀q:Nat,(s.L++ [n])[q]? =some m→(s.L[q]? =some m)∨(q=s.L.length∧m=n):=fun q hq=>by
   rcases Nat.lt_trichotomy q s.L.length with hl|hl|hl
   ·rw[List.getElem?_append_left hl]at hq
    exact .inl hq
   ·subst hl
    simp at hq
    exact .inr ⟨rfl,hq.symm⟩
   rw[List.getElem?_eq_none (by simp;omega)]at hq
   cases hq
  rcases hc i hi with hi|⟨hi,e1⟩
  ·rcases hc j hj with hj|⟨hj,e2⟩
   ·exact h.uq i j m hi hj
   exact absurd (e2▸hi) (hno i)
  rcases hc j hj with hj|⟨hj,e2⟩
  ·exact absurd (e1▸hj) (hno j)
  omega
 ·rcases Nat.lt_trichotomy i s.L.length with hl|hl|hl
  ·rw[List.getElem?_append_left hl]at hm
   exact h.wn i m hi hm
  ·subst hl
   have e:n=m:=by simpa using hm
   subst e
   refine⟨hw,fun z hz=> ?_⟩
   have h6:=List.any_eq_false.1 h2 z hz
   simpa using h6
  rw[List.getElem?_eq_none (by simp;omega)]at hm
  cases hm
 unfold okI
 simp
 omega
theorem kp_join {nn kk:Int}{s:St}{kd:Int}{l:List Int}(h:Gv kk s.L)(hkd:kd=5∨kd=6)(hl: ∀x∈l,okI s.L x):Kp kk s (actJ nn kk s kd l):=by
 have ha:l.any (lck s.L.length)=false:=by
  rw[List.any_eq_false]
  intro x hx
  rw[okI_lck.2 (hl x hx)]
  simp
 have hm:=mem_ris l
 have hr:=ris_rises l
 unfold actJ
 rw[if_neg o_m,ha,if_neg (by simp)]
 split
 ·refine kp_now h fun _=> ?_
  split
  ·exact h.ok1
  exact h.ok0
 ·rename_i x e
  rw[e]at hm
  exact kp_now h fun _=>hl x ((hm x).1 (by simp))
 rename_i x y t e
 rw[e]at hm hr
 exact kp_put h (.inr (.inl ⟨kd,x::y::t,hkd,rfl,by simp,hr,fun z hz=>hl z ((hm z).1 hz)⟩))
theorem kp_bind {nn kk:Int}{s:St}{kd v kid:Int}(h:Gv kk s.L)(hkd:kd=7∨kd=8)(hv:I64 v):Kp kk s (actB nn kk s kd v kid):=by
 unfold actB
 rw[if_neg o_m]
 split
 ·exact kp_now h fun e=>by cases e
 exact kp_put h (.inr (.inr ⟨kd,v,kid,hkd,rfl,hv,by omega,by omega⟩))
theorem ndI_app {L t:List Nd}{i:Int}(h:okI L i):ndI (L++t) i=ndI L i:=by
 have h2:i.toNat<L.length:=by unfold okI at h;omega
 unfold ndI
 rw[List.getElem?_append_left h2]
theorem okI_app {L t:List Nd}{i:Int}(h:okI L i):okI (L++t) i:=by
 unfold okI at*
 rw[List.length_append]
 omega
theorem Kp.okI {kk:Int}{s:St}{r:St × Int × Int}(h:Kp kk s r){i:Int}(hi:okI s.L i):okI r.1.L i:=by
 obtain⟨t,e⟩:=h.le
 rw[e]
 exact okI_app hi
theorem gv_of {kk:Int}{s:St}(hu:Uq s.L)(h0:s.L[0]? =some (cst 0))(h1:s.L[1]? =some (cst 1))(hg:Gs kk s)(hk:0≤kk)(hz:lim 0=0):Gv kk s.L:=by
 refine⟨hu,h0,h1,fun i n hi hn=> ?_⟩
 rcases hg i n hi hn with⟨f,h3,h4,h5,h6⟩|⟨kd,kids,h3,h4,h5,_,h6,h7⟩|⟨kd,v,x,h3,h4,h5,h6,h7⟩
 ·exact⟨.inl ⟨f,h3,h4,h5⟩,h6⟩
 ·refine⟨.inr (.inl ⟨kd,kids,h3,h4,h5,h6,h7⟩),fun z hz'=> ?_⟩
  rw[h4]at hz'
  have:z=0:=by simpa [nums] using hz'
  rw[this,hz]
  exact hk
 refine⟨.inr (.inr ⟨kd,v,x,h3,h4,by unfold I64;omega,h7⟩),fun z hz'=> ?_⟩
 rw[h4]at hz'
 have:z=0:=by simpa [nums] using hz'
 rw[this,hz]
 exact hk
theorem gv_st0 (kk:Int):Gv kk st0.L:=by
 refine⟨fun i j n hi hj=> ?_,rfl,rfl,fun i n hi hn=> ?_⟩
 ·have hi':=(List.getElem?_eq_some_iff.1 hi).1
  have hj':=(List.getElem?_eq_some_iff.1 hj).1
  simp[st0]at hi' hj'
  rcases(show i=0∨i=1 by omega)with rfl|rfl <;> rcases(show j=0∨j=1 by omega)with rfl|rfl
  ·rfl
  ·simp[st0]at hi hj
   rw[←hi]at hj
   simp[cst]at hj
  ·simp[st0]at hi hj
   rw[←hi]at hj
   simp[cst]at hj
  rfl
 rw[List.getElem?_eq_none (by simp[st0];omega)]at hn
 cases hn
end Nt
end Go.Proofs.YtllfelooahplhaaGreatDoor

namespace Go.Proofs.YtllfelooahplhaaGreatDoor
open Go.RowKit Go.Sort Go.Shelf
open Tm At
namespace Nt

def SlB (w:World)(b:Nat)(v:Value):Prop:=w.heap[b]? =some (.cells #[v] 23 (0,0))
theorem SlB.lt {w:World}{b:Nat}{v:Value}(h:SlB w b v):b<w.heap.size:=lt_of_block h
theorem SlB.c0 {w:World}{b:Nat}{v:Value}(h:SlB w b v):w.cell? ⟨b,0,none⟩=some v:=cell_of_row w b 0 _ _ (0,0) h
theorem SlB.below {w w':World}{b:Nat}{v:Value}(h:SlB w b v)(k:Below w.heap.size w w'):SlB w' b v:=(k.block b h.lt).trans h

theorem isThere_n {w:World}{ba:Nat}{a:Option Addr}{c:Nat}{l:List Int}{id:Int}(hb:SlB w ba (.slice a l.length c))(hI:IL w a l.length l)(hs:l.Pairwise (·≤·))(hm:l.length≤4194304):
  Calls Tryz.prog 161 #[.int .i64 id,.pointer (some ⟨ba,0,none⟩)] w fun e w'=>e= .returned (.bool (decide (id∈l)))∧Below w.heap.size w w':=by
 have u0:=hb.c0
 have hbs:Hid (∃ix:Int,Calls Tryz.prog 73 #[.slice a l.length c,.int .i64 id] w fun e w'=>e= .returned (.tuple #[.int .i64 ix,.bool (decide (id∈l))])∧Below w.heap.size w w'):=hide (by
  rcases hI.2 with h0|⟨b,off,rfl,hbl,hc⟩
  ·have hl:l= []:=List.eq_nil_of_length_eq_zero h0
   subst hl
   refine⟨0,(Tryz.slices_BinarySearch_int_empty a c id w).mono ?_⟩
   rintro e w' ⟨rfl,rfl⟩
   exact⟨rfl,Below.refl _ _⟩
  refine⟨((l.countP (· <id):Nat):Int),(Tryz.slices_BinarySearch_int b off l.length c l id w (Nat.le_refl _) o_m (fun j hj=> ?_) (by rw[List.take_length];exact hs)).mono ?_⟩
  ·rw[(hc j hj).1,List.getD_eq_getElem?_getD,List.getElem?_eq_getElem hj]
   rfl
  rintro e w' ⟨rfl,q,rfl⟩
  rw[List.take_length,show l.contains id=decide (id∈l)by simp]
  exact⟨rfl,below_drewN _ _ _⟩)
 obtain⟨ix,hcl⟩:=hbs.out
 replace hcl:=hide hcl
 clear hbs hI hb hs
 go_enter Tryz.func161,Tryz.ntmps161
 go_wp2_with fail
 refine hcl.out.mono ?_
 rintro e w1 ⟨rfl,k1⟩
 replace k1:=hide k1
 clear hcl u0
 go_wp2
 go_ret
 exact⟨rfl,k1.out⟩

theorem indexF_n {w:World}{ka:Option Addr}{kc K:Nat}{cb:Array Value}{l:List Int}{q:Int→Bool}(hI:IL w ka l.length l)(hm:l.length≤4194304)(eg: ∀args w,(callFunc K args).run Tryz.prog w= .ok (.enter K args) w)
  (hq: ∀w' z,z∈l→Below w.heap.size w w'→Calls Tryz.prog K (#[.int .i64 z]++cb) w' fun e w''=>e= .returned (.bool (q z))∧Below w'.heap.size w' w''):
  Calls Tryz.prog 103 #[.slice ka l.length kc,.func (.func K) #[] cb] w fun x w'=> ∃i:Int,x= .returned (.int .i64 i)∧(decide (0≤i)=l.any q)∧-1≤i∧i<l.length∧Below w.heap.size w w':=by
 go_enter Tryz.func103,Tryz.ntmps103
 go_wp2_with fail
 go_loopw [8] (fun i wr=> ∃t:Nat,t≤l.length∧i= .int .i64 t∧Hid ((l.take t).any q=false)∧Hid (Below w.heap.size w wr)) (fun i _=>l.length-(intOf i).toNat)
 case atStart=>exact⟨0,Nat.zero_le _,rfl,(show _=_ by simp),hide (Below.refl _ _)⟩
 case round=>
  obtain⟨t,ht,rfl,hno,kr⟩:=hrel
  by_cases htm:t<l.length
  ·rcases(hI.below kr.out).2 with h0|⟨bp,op,rfl,hbp,hLL⟩
   ·omega
   obtain⟨e0,hx⟩:=hLL t htm
   have hstep:Hid ((l.take (t+1)).any q=q l[t]):=(show _=_ by rw[List.take_succ_eq_append_getElem (l:=l) (i:=t) o_m,List.any_append,hno.out];simp)
   have hex:Hid (q l[t]=true→l.any q=true):=(fun hh=>List.any_eq_true.2 ⟨l[t],List.getElem_mem _,hh⟩)
   have hcl:=hide (hq wr l[t] (List.getElem_mem _) kr.out)
   generalize l[t]=lt at*
   clear hI hLL hq
   go_wp2_with fail
   refine hcl.out.mono ?_
   rintro x w2 ⟨rfl,k2⟩
   replace k2:=hide (grow_step k2 kr.out)
   clear hcl
   cases hil:q lt with
   |true=>
    have hany:=hide (hex.out hil)
    clear hil
    go_wp2
    go_ret
    exact⟨t,rfl,by rw[hany.out];simp,by omega,by omega,k2.out⟩
   |false=>
    have hst:=hide (hstep.out.trans hil)
    clear hil
    go_wp2
    go_round
    case rel=>exact⟨t+1,by omega,by go_num,hst,k2⟩
    case measure=>simp[intOf];omega
  obtain rfl:t=l.length:=by omega
  have hall:Hid (l.any q=false):=by
   have h1:=hno.out
   rw[List.take_of_length_le (Nat.le_refl _)]at h1
   exact h1
  clear hno
  go_wp2
  go_ret
  exact⟨-1,rfl,by rw[hall.out];rfl,by omega,by omega,kr.out⟩
theorem containsF_n {w:World}{ka:Option Addr}{kc K:Nat}{cb:Array Value}{l:List Int}{q:Int→Bool}(hI:IL w ka l.length l)(hm:l.length≤4194304)(eg: ∀args w,(callFunc K args).run Tryz.prog w= .ok (.enter K args) w)
  (hq: ∀w' z,z∈l→Below w.heap.size w w'→Calls Tryz.prog K (#[.int .i64 z]++cb) w' fun e w''=>e= .returned (.bool (q z))∧Below w'.heap.size w' w''):
  Calls Tryz.prog 53 #[.slice ka l.length kc,.func (.func K) #[] cb] w fun x w'=>x= .returned (.bool (l.any q))∧Below w.heap.size w w':=by
 have hix:=hide (indexF_n (kc:=kc) hI hm eg hq)
 clear hI hq
 go_enter Tryz.func53,Tryz.ntmps53
 go_wp2_with fail
 refine hix.out.mono ?_
 rintro x w1 ⟨i,rfl,h1,h2,h3,k1⟩
 replace k1:=hide k1
 replace h1:=hide h1
 clear hix
 go_wp2
 go_ret
 exact⟨by rw[←h1.out];rfl,k1.out⟩
end Nt
end Go.Proofs.YtllfelooahplhaaGreatDoor
