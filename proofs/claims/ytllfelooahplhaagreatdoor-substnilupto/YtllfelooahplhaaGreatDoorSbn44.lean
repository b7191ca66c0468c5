/-
 Layer 12: Instance of a plain node: values put in one behind the other.
-/
import Derived.Test.YtllfelooahplhaaGreatDoorSbn41
import Derived.Test.YtllfelooahplhaaGreatDoorSbn42
set_option maxRecDepth 100000
set_option maxHeartbeats 6400000
namespace Go.Proofs.YtllfelooahplhaaGreatDoor
open Go.RowKit Go.Sort Go.Shelf
open Tm At
namespace Nt
namespace Sb

structure Stp (kk:Int) (nn:Int) (vs:List (Int × Int)) (Inv:Nat→St→Int→Prop) (Er:Prop):Prop where
 pl: ∀t s c,Inv t s c→Pln s.L c∧okI s.L c
 skip: ∀(t:Nat) (ht:t<vs.length) s c,Inv t s c→¬Fv s.L vs[t].1 c→Inv (t+1) s c
 put: ∀(t:Nat) (ht:t<vs.length) s c r,Inv t s c→Gv kk s.L→Fv s.L vs[t].1 c→Kp kk s r→r.2.2=0→TuJ (PutA vs[t].1 [] vs[t].2) r.1.L c r.2.1→((ndI s.L c).kids= []→(∃x,(vs[t].1,x)∈(ndI s.L c).ps)→TuR (PutA vs[t].1 [] vs[t].2) nn kk s c [] r)→Inv (t+1) r.1 r.2.1
 bad: ∀(t:Nat) (ht:t<vs.length) s c r,Inv t s c→Gv kk s.L→Fv s.L vs[t].1 c→r.2.2≠0→((ndI s.L c).kids= []→(∃x,(vs[t].1,x)∈(ndI s.L c).ps)→TuR (PutA vs[t].1 [] vs[t].2) nn kk s c [] r)→Er
def InP (nn kk:Int)(vs:List (Int × Int))(Inv:Nat→St→Int→Prop)(Er:Prop)(w w':World)(e:Ending)(pa pm:Nat)(s:St)(F:Nat→Prop):Prop:=
 ∃r,AO2 w w' e pa pm nn kk F r∧Kp kk s r∧(r.2.2=0→Inv vs.length r.1 r.2.1)∧(r.2.2≠0→r.1.er≠0∧Er)
theorem csum_nil_std {us:List (Int × Int)}(h:Std us)(hc: ∀u,csum us u=csum [] u):us= []:=std_unique h std_nil hc
theorem bsI_n {w:World}{a:Option Addr}{c:Nat}{l:List Int}{x:Int}(hI:IL w a l.length l)(hs:l.Pairwise (· < ·))(hm:l.length≤4294967296): ∃ix:Int,Calls Tryz.prog 73 #[.slice a l.length c,.int .i64 x] w fun e w'=>e= .returned (.tuple #[.int .i64 ix,.bool (decide (x∈l))])∧Below w.heap.size w w':=by
 rcases hI.2 with h0|⟨b,off,rfl,hbl,hc⟩
 ·have hl:l= []:=List.eq_nil_of_length_eq_zero h0
  subst hl
  refine⟨0,(Tryz.slices_BinarySearch_int_empty a c x w).mono ?_⟩
  rintro e w' ⟨rfl,rfl⟩
  exact⟨rfl,Below.refl _ _⟩
 refine⟨((l.countP (· <x):Nat):Int),(Tryz.slices_BinarySearch_int b off l.length c l x w (Nat.le_refl _) o_m (fun j hj=> ?_) (by rw[List.take_length];exact hs.imp fun h=>Int.le_of_lt h)).mono ?_⟩
 ·rw[(hc j hj).1,List.getD_eq_getElem?_getD,List.getElem?_eq_getElem hj]
  rfl
 rintro e w' ⟨rfl,q,rfl⟩
 rw[List.take_length,show l.contains x=decide (x∈l)by simp]
 exact⟨rfl,below_drewN _ _ _⟩
structure IS (w0 w wr:World) (pa pm:Nat) (nn kk:Int) (s s':St) (F F':Nat→Prop) (c:Int) (fa:Option Addr) (fl:List Int):Prop where
 e:EA w0 wr pa pm nn kk s' F'
 le: ∃t,s'.L=s.L++t
 f: ∀b,F' b→F b∨w.heap.size≤b
 k:ButF (fun b=>b=pm∨F b) w wr
 m: ∀u,u∈fl↔Fv s'.L u c
 s:fl.Pairwise (· < ·)
 n:fl.length≤4294967296
 i:IL wr fa fl.length fl
theorem IS.below {w0 w wr w':World}{pa pm:Nat}{nn kk:Int}{s s':St}{F F':Nat→Prop}{c:Int}{fa:Option Addr}{fl:List Int}(h:IS w0 w wr pa pm nn kk s s' F F' c fa fl)(k:Below wr.heap.size wr w'):IS w0 w w' pa pm nn kk s s' F F' c fa fl:=
 {h with e:=h.e.below k,k:=ButF.trans h.k (butF_below (F:=fun _=>False) k) fun _ _ h=>h.elim,i:=h.i.below k}
theorem inst_n {w0 w:World}{pa pm:Nat}{nn kk:Int}{s:St}{F:Nat→Prop}{id:Int}{va:Option Addr}{vn vc:Nat}{vs:List (Int × Int)}{B:Nat}{Inv:Nat→St→Int→Prop}{Er:Prop}(hSt:Stp kk nn vs Inv Er)(hE:EA w0 w pa pm nn kk s F)(hk8:kk≤8)(hi0:Inv 0 s id)(hV: ∀w',ButF (fun b=>b=pm∨F b) w w'→Pr w' va vn vs B)(hB:B≤1048576)(hvn:vn≤1048576):
  Calls Tryz.prog 26 #[.pointer (some ⟨pa,0,none⟩),.int .i64 id,.slice va vn vc] w fun e w'=>InP nn kk vs Inv Er w w' e pa pm s F:=by
 have hL:s.L.length≤2002:=by
  have h1:=hE.g.ln
  have h2:=hE.g.cn
  have h3:=hE.g.n2
  omega
 obtain⟨hp,ho⟩:=hSt.pl 0 s id hi0
 have hm:=hide (missing_n hE.g.ax hE.v hE.k0 hk8 hL ho)
 go_enter Tryz.func26,Tryz.ntmps26
 go_wp2_with fail
 refine hm.out.mono ?_
 rintro e w2 ⟨rfl,k2⟩
 clear hm
 have hE2:=hE.below k2
 have hfr:=hide (free_n hE2.g.ax hE.v hL ho hp)
 go_wp2_with fail
 refine hfr.out.mono ?_
 rintro e w3 ⟨fl,hfm,hfs,hfl,fa,fc,rfl,hfI,hfN,k3⟩
 clear hfr
 have k03:=grow_step k3 k2
 have hE3:=hE.below k03
 have hb3:ButF (fun b=>b=pm∨F b) w w3:=butF_below k03
 have hIS:Hid (IS w0 w w3 pa pm nn kk s s F F id fa fl):=hide ⟨hE3,⟨[],by simp⟩,fun b hb=> .inl hb,hb3,hfm,hfs,hfl,hfI⟩
 have hi0':=hide hi0
 replace hV:=hide hV
 have hvl:=(hV.out w3 hb3).1
 clear hE2 hE3 hfm hfs hfl hfI hfN k2 k3 hb3 hi0 hp ho
 go_wp2_with fail
 go_loopw [1,9,27] (fun cv fv q wr=> ∃(t:Nat) (s':St) (F':Nat→Prop) (c:Int) (fa:Option Addr) (fl:List Int) (fc:Nat),t≤vn∧cv= .int .i64 c∧fv= .slice fa fl.length fc∧q= .int .i64 t∧Hid (Inv t s' c)∧Hid (IS w0 w wr pa pm nn kk s s' F F' c fa fl)) (fun _ _ q _=>vn-(intOf q).toNat)
 case atStart=>exact⟨0,s,F,id,fa,fl,fc,Nat.zero_le _,rfl,rfl,rfl,hi0',hIS⟩
 case round=>
  obtain⟨t,s',F',c,fa,fl,fc,ht,rfl,rfl,rfl,hInv,hS⟩:=hrel
  have hL':s'.L.length≤2002:=by
   have h1:=hS.out.e.g.ln
   have h2:=hS.out.e.g.cn
   have h3:=hS.out.e.g.n2
   omega
  obtain⟨hp,ho⟩:=hSt.pl t s' c hInv.out
  by_cases htn:t<vn
  ·have hVr:=hV.out _ hS.out.k
   rcases hVr.2 with h0|⟨vb,vo,rfl,hvb,hvc⟩
   ·omega
   obtain⟨sx,ax,lx,cx,p0,p1,p2,hzx,hlx,hIx⟩:=hvc t o_m
   have hps:=hSt.skip t o_m s' c hInv.out
   have hpp:=hSt.put t o_m s' c
   have hbad:=hSt.bad t o_m s' c
   generalize (vs[t]'o_m)=x at*
   obtain⟨xv,xn⟩:=x
   dsimp only at p0 p1 p2 hzx hIx hps hpp hbad
   have b4:=below_alloc wr (.cells #[.int .i64 xv,.bool sx,.slice ax lx cx] 51)
   have c4:=heap_alloc_new wr (.cells #[.int .i64 xv,.bool sx,.slice ax lx cx] 51)
   have hS4:=hide (hS.out.below b4)
   obtain⟨ix,hbs⟩:=bsI_n (c:=fc) (x:=xv) hS4.out.i hS4.out.s hS4.out.n
   replace hbs:=hide hbs
   replace hps:=hide hps
   replace hpp:=hide hpp
   replace hbad:=hide hbad
   have hzx4:=hzx.below b4
   have hnF: ¬F' wr.heap.size∧wr.heap.size≠pm:=⟨fun h=>by have:=hS.out.e.g.fl _ h;omega,by have:=hS.out.e.g.mb.lt;omega⟩
   clear hVr hvc hS b4
   go_wp2_with fail
   clear p0 p1 p2
   generalize wr.alloc (.cells #[.int .i64 xv,.bool sx,.slice ax lx cx] 51)=w4 at*
   refine hbs.out.mono ?_
   rintro e w5 ⟨rfl,k5⟩
   clear hbs
   have hS5:=hide (hS4.out.below k5)
   by_cases hin:xv∈fl
   rotate_left
   ·rw[decide_eq_false hin]
    have hInv2:=hide (hps.out fun hf=>hin ((hS5.out.m xv).2 hf))
    clear hpp hbad hps hS4 k5 hzx hzx4 c4 hInv hIS hi0' hin hp ho
    go_wp2_with fail
    exact⟨⟨t+1,s',F',c,fa,fl,fc,by omega,rfl,rfl,by go_num,hInv2,hS5⟩,by simp[intOf];omega⟩
   rw[decide_eq_true hin]
   have hfv:=hide ((hS5.out.m xv).1 hin)
   have c5:=(k5.block _ (lt_of_block c4)).trans c4
   have p0:=cell_of_row _ wr.heap.size 0 _ _ (0,0) c5
   have p1:=cell_of_row _ wr.heap.size 1 _ _ (0,0) c5
   have p2:=cell_of_row _ wr.heap.size 2 _ _ (0,0) c5
   have hF':=hS5.out.e.g.fl
   have hpm':=hS5.out.e.g.mb.lt
   have hrl:=hvl
   have hwF: ¬F' wr.heap.size∧wr.heap.size≠pm:=hnF
   have hSb:Hid (∀w',Below w5.heap.size w5 w'→w'.cell? ⟨wr.heap.size,0,none⟩=some (.int .i64 xv)∧w'.cell? ⟨wr.heap.size,1,none⟩=some (.bool sx)∧w'.cell? ⟨wr.heap.size,2,none⟩=some (.slice ax lx cx)):=hide fun w' k=>by
    have c6:=(k.block _ (lt_of_block c5)).trans c5
    exact⟨cell_of_row _ wr.heap.size 0 _ _ (0,0) c6,cell_of_row _ wr.heap.size 1 _ _ (0,0) c6,cell_of_row _ wr.heap.size 2 _ _ (0,0) c6⟩
   have hSp:Hid (∀w' w'',Below w5.heap.size w5 w'→ButF (fun b=>b=pm∨F' b) w' w''→w''.cell? ⟨wr.heap.size,0,none⟩=some (.int .i64 xv)∧w''.cell? ⟨wr.heap.size,1,none⟩=some (.bool sx)∧w''.cell? ⟨wr.heap.size,2,none⟩=some (.slice ax lx cx)):=hide fun w' w'' k kb=>by
    have c6:=(k.block _ (lt_of_block c5)).trans c5
    have c7:=(kb.block _ (lt_of_block c6) fun h=>h.elim hwF.2 hwF.1).trans c6
    exact⟨cell_of_row _ wr.heap.size 0 _ _ (0,0) c7,cell_of_row _ wr.heap.size 1 _ _ (0,0) c7,cell_of_row _ wr.heap.size 2 _ _ (0,0) c7⟩
   have hcc:Hid (∀w',Below w5.heap.size w5 w'→Calls Tryz.prog 58 #[.agg #[.bool sx,.slice ax lx cx]] w' fun e w6=> ∃s6 a6 l6 c6,e= .returned (.agg #[.slice none 0 0,.bool s6,.slice a6 l6 c6])∧Zn w6 s6 a6 l6 c6 xn∧l6≤B+1∧Below w'.heap.size w' w6):=hide fun w' k=>Calls.mono (tconst_n (B:=B+1) ((hzx4.below k5).below k) o_m o_m) fun e w6 ⟨s6,a6,l6,c6,he,hTN⟩=>⟨s6,a6,l6,c6,he,(by obtain⟨w1,_,_,_,h5,_⟩:=hTN;exact h5.1),(by obtain⟨w1,_,_,_,_,h6⟩:=hTN;exact h6),hTN.below⟩
   have hput:Hid (∀w' s6 a6 l6 c6,Below w5.heap.size w5 w'→Zn w' s6 a6 l6 c6 xn→l6≤B+1→Calls Tryz.prog 25 #[.pointer (some ⟨pa,0,none⟩),.int .i64 c,.int .i64 xv,.agg #[.slice none 0 0,.bool s6,.slice a6 l6 c6]] w' fun e w7=> ∃r:St × Int × Int,e= .returned (.tuple #[.int .i64 r.2.1,.int .i64 r.2.2])∧Hid (∃F7,EA w0 w7 pa pm nn kk r.1 F7∧(∀b,F7 b→F' b∨w.heap.size≤b))∧Hid (ButF (fun b=>b=pm∨F' b) w' w7)∧Hid (Kp kk s' r)∧Hid (r.2.2=0→Inv (t+1) r.1 r.2.1)∧Hid (r.2.2≠0→r.1.er≠0∧Er)):=hide fun w' s6 a6 l6 c6 k hz6 hl6=>by
    have hE6:=hS5.out.e.below k
    refine Calls.mono (put12_n (B:=B+1) (cpu:=0) (us0:=[]) hE6 hk8 ho hp hIx ⟨rfl,.inl rfl⟩ hz6.zm hl6 o_m fun i hi=>hE6.v.parts hi) fun e w7 ⟨us,r,h1,h2,h3,h4,h5,h6,h7⟩=> ?_
    obtain rfl:=csum_nil_std h1 h2
    obtain⟨F7,h8,h9⟩:=hE6.next h3 h4.gv
    obtain⟨he,_,_,_,hbb⟩:=h3
    exact⟨r,he,hide ⟨F7,h8,fun b hb=>(h9 b hb).imp (fun h=>h) fun h=>by have:=hS5.out.k.size;have:=k.size;omega⟩,hide hbb,hide h4,hide fun he=>hpp.out r hInv.out hS5.out.e.v hfv.out h4 he (h5 he) h7,hide fun he=>⟨h6 he,hbad.out r hInv.out hS5.out.e.v hfv.out he h7⟩⟩
   clear hpp hbad hps hS4 hzx hzx4 c4 c5 hIS hi0' hin p0 p1 p2 hF' hpm' k5
   go_wp2_with fail
   go_region_held3 (fun w'=>w'.cell? ⟨wr.heap.size,0,none⟩=some (.int .i64 xv)∧w'.cell? ⟨wr.heap.size,1,none⟩=some (.bool sx)∧w'.cell? ⟨wr.heap.size,2,none⟩=some (.slice ax lx cx))
    (first|(refine hSb.out _ ?_;focus ((with_reducible repeat' first|exact Below.refl _ _|assumption|refine grow_step (by assumption) ?_|refine grow_drew ?_|refine grow_alloc ?_ _|refine grow_drewN ?_ _);done))|(with_reducible assumption))
    (first|(go_at_call 58;refine Calls.mono (hcc.out _ gw) ?_;rintro e w6 ⟨s6,a6,l6,c6,rfl,hz6,hl6,k6⟩)|(go_at_call 25;refine Calls.mono (hput.out _ s6 a6 l6 c6 gw (hz6.below gw) hl6) ?_;rintro e w7 ⟨⟨q7,o7,e7⟩,rfl,hF7,hb7,hk7,hi7,he7⟩;have hH7:=hSp.out _ w7 gw hb7.out))
   have k56:Below w5.heap.size w5 w6:=gw
   obtain⟨F7,hE7,hf7⟩:=hF7.out
   have hk7w:Hid (ButF (fun b=>b=pm∨F b) w w7):=hide (ButF.trans (ButF.trans hS5.out.k (butF_below (F:=fun _=>False) k56) fun _ _ h=>h.elim) hb7.out fun b hb hg=>hg.imp (fun h=>h) fun h=>(hS5.out.f b h).resolve_right o_m)
   have hf7w: ∀b,F7 b→F b∨w.heap.size≤b:=fun b hb=>(hf7 b hb).elim (hS5.out.f b) .inr
   have hle7: ∃tl,q7.L=s.L++tl:=by
    obtain⟨t1,e1⟩:=hS5.out.le
    obtain⟨t2,e2⟩:=hk7.out.le
    exact⟨t1++t2,by dsimp only at e2;rw[e2,e1,List.append_assoc]⟩
   have hg7:=hk7.out.gv
   dsimp only at hg7
   by_cases he:e7=0
   ·subst he
    have hInv7:=hi7.out rfl
    obtain⟨hp7,ho7⟩:=hSt.pl (t+1) q7 o7 hInv7
    have hL7:q7.L.length≤2002:=by
     have h1:=hE7.g.ln
     have h2:=hE7.g.cn
     have h3:=hE7.g.n2
     omega
    have hfr:=hide (free_n hE7.g.ax hg7 hL7 ho7 hp7)
    have hnx:Hid (∀e w',FrP w7 w' e q7.L o7→∃fa fl fc,e= .returned (.slice fa fl.length fc)∧Hid (IS w0 w w' pa pm nn kk s q7 F F7 o7 fa fl)):=hide fun e w' ⟨fl,h1,h2,h3,fa,fc,he,h4,_,h5⟩=>⟨fa,fl,fc,he,hide ⟨hE7.below h5,hle7,hf7w,ButF.trans hk7w.out (butF_below (F:=fun _=>False) h5) fun _ _ h=>h.elim,h1,h2,h3,h4⟩⟩
    replace hInv7:=hide hInv7
    clear hSb hSp hcc hput hF7 hb7 hk7 hi7 he7 hH7 hS5 hE7 k56 k6 hz6 hInv hfv hp7 ho7
    go_wp2_with fail
    refine hfr.out.mono ?_
    rintro e w8 h8
    obtain⟨fa8,fl8,fc8,rfl,hS8⟩:=hnx.out e w8 h8
    clear hfr hnx h8
    go_wp2_with fail
    exact⟨⟨t+1,q7,F7,o7,fa8,fl8,fc8,by omega,rfl,rfl,by go_num,hInv7,hS8⟩,by simp[intOf];omega⟩
   have ne7:(e7 !=0)=true:=bne_iff_ne.2 he
   have hfin:Hid (InP nn kk vs Inv Er w w7 (.returned (.tuple #[.int .i64 0,.int .i64 e7])) pa pm s F):=hide ⟨(q7,0,e7),⟨rfl,F7,hE7.g,hf7w,hk7w.out⟩,⟨hle7,hg7,fun h=>absurd h he⟩,fun h=>absurd h he,fun _=>he7.out he⟩
   clear hSb hSp hcc hput hF7 hb7 hk7 hi7 he7 hH7 hS5 hE7 k56 k6 hz6 hInv hfv
   go_wp2_with fail
   first|refine bodyPost_ret (results_tmp2 rfl _ _ _) rfl ?_|(rw[Exit.noGoto_ret];refine bodyPost_ret (results_tmp2 rfl _ _ _) rfl ?_)
   exact hfin.out
  obtain rfl:t=vn:=by omega
  have hfin:Hid (InP nn kk vs Inv Er w wr (.returned (.tuple #[.int .i64 c,.int .i64 0])) pa pm s F):=hide ⟨(s',c,0),⟨rfl,F',hS.out.e.g,hS.out.f,hS.out.k⟩,⟨hS.out.le,hS.out.e.v,fun _=>ho⟩,fun _=>by rw[hvl];exact hInv.out,fun h=>absurd rfl h⟩
  clear hS hInv hV hIS hi0' hSt
  go_wp2_with fail
  refine bodyPost_ret (results_tmp2 rfl _ _ _) rfl ?_
  exact hfin.out
theorem inst_nil {w:World}(id:Int)(va:Option Addr)(vn vc:Nat):Calls Tryz.prog 26 #[.pointer none,.int .i64 id,.slice va vn vc] w fun e w'=>e= .returned (.tuple #[.int .i64 0,.int .i64 1])∧w'=w:=by
 go_enter Tryz.func26,Tryz.ntmps26
 go_wp2_with fail
 refine(missing_nil id).mono ?_
 rintro e w2 ⟨rfl,rfl⟩
 go_wp2_with fail
 refine bodyPost_ret (results_tmp2 rfl _ _ _) rfl ?_
 exact⟨rfl,rfl⟩
end Sb
end Nt
end Go.Proofs.YtllfelooahplhaaGreatDoor
