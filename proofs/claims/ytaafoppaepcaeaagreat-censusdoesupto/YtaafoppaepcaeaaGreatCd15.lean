/-
 Several texts in one: Pd4,Pd5,Pd6,Pd7,Pd8,Pd9,Cr1.
-/
import Derived.Test.YtaafoppaepcaeaaGreatCdT
import Derived.Test.YtaafoppaepcaeaaGreatCd11
import Derived.Test.YtaafoppaepcaeaaGreatCd14
import Derived.Test.YtaafoppaepcaeaaGreatCd07
import Derived.Test.YtaafoppaepcaeaaGreatCd09
import Derived.Test.YtaafoppaepcaeaaGreatCd13
set_option maxRecDepth 100000
set_option maxHeartbeats 6400000
namespace Go.Proofs.YtaafoppaepcaeaaGreat
open Go.RowKit
namespace Pd

theorem fd_div {a b q r:Int}(h:FD a b q r)(hb:0<b):q=a / b∧r=a%b:=by
 obtain⟨h1,h2⟩:=h
 rcases h2 with⟨h3,h4⟩|⟨h3,h4⟩
 ·subst h1
  rw[Int.add_comm,Int.add_mul_ediv_right _ _ o_m,Int.ediv_eq_zero_of_lt h3 h4,Int.add_mul_emod_self_right,Int.emod_eq_of_lt h3 h4]
  exact⟨by omega,rfl⟩
 omega
theorem al_z {v w:World}(k:Below v.heap.size v w): ∃wL,Hid (w.alloc (.cells #[.bool false,.slice none 0 0] 38)=wL)∧ZB wL w.heap.size false none 0 0∧v.heap.size≤w.heap.size∧Below w.heap.size w wL∧Below v.heap.size v wL:=⟨_,rfl,zb_new _ _ _ _ _,k.size,below_alloc _ _,grow_alloc k _⟩
theorem remainderOf_n {w:World}{s:Bool}{a:Option Addr}{l c:Nat}{x:Int}{p:Nat}(h:Zm w s a l c x)(hl:l≤1099511627776)(h1:1≤p)(h2:p≤4096):
  Calls Tryz.prog 86 #[.agg #[.bool s,.slice a l c],.int .i64 p] w fun e w'=>e= .returned (.int .i64 (x%p))∧Below w.heap.size w w':=by
 have b0:=below_alloc w (.cells #[.bool s,.slice a l c] 38)
 have y0:=zb_new w s a l c
 have hx0:=h.below b0
 have q0:=y0.c0
 have q1:=y0.c1
 replace b0:=hide b0
 have hlt:=y0.lt
 replace y0:=hide y0
 clear h
 go_enter Tryz.func86,Tryz.ntmps86
 go_wp2_with fail
 generalize w.alloc (.cells #[.bool s,.slice a l c] 38)=w0 at*
 generalize hbt:w.heap.size=bt at*
 replace hbt:=hide hbt
 have hof:=fun u:World=>hide (zof_n (p:Int) o_m o_m u)
 replace hx0:=hide hx0
 have hmod:=hide (And.intro (Int.emod_nonneg x (show(p:Int)≠0 by omega)) (Int.emod_lt_of_pos x (show(0:Int)<p by omega)))
 refine wp_region_held_drew (S:=(fun w'=>w'.cell? ⟨bt,0,none⟩=some (.bool s)∧w'.cell? ⟨bt,1,none⟩=some (.slice a l c))) k_f (⟨(y0.out.below (grow_drew (Below.refl _ _))).c0,(y0.out.below (grow_drew (Below.refl _ _))).c1⟩) (fun hHeld=> ?_)
 show wpAnyH _ _ _ _ _ 13 _ _ _
 have kW:=grow_drew (Below.refl w0.heap.size w0)
 generalize w0.drew=wQ at*
 repeat' first
  |with_reducible exact AllReadyH.nil
  |(
   refine tkz 0 11 ?_
   (try simp only[pz]))
  |(
   refine tkz 1 12 ?_
   (try simp only[pz]))
  |(
   refine tkz 4 10 ?_
   (try simp only[pz]))
  |(
   refine tkz 5 15 ?_
   (try simp only[pz]))
  |(
   refine tkz 6 16 ?_
   (try simp only[pz]))
  |(
   refine tkz 7 17 ?_
   (try simp only[pz]))
  |(refine wpAnyH_ready (rs:=[2,8,9]) ?_ ?_ ?_;decide+kernel;simp)
  |(refine wpAnyH_ready (rs:=[3,8,9]) ?_ ?_ ?_;decide+kernel;simp)
  |(refine wpAnyH_ready (rs:=[8,9]) ?_ ?_ ?_;decide+kernel;simp)
  |(refine wpAnyH_ready (rs:=[9]) ?_ ?_ ?_;decide+kernel;simp)
  |(refine wpAnyH_ready (rs:=[10]) ?_ ?_ ?_;decide+kernel;simp)
  |(refine wpAnyH_ready (rs:=[11]) ?_ ?_ ?_;decide+kernel;simp)
  |(refine wpAnyH_ready (rs:=[12]) ?_ ?_ ?_;decide+kernel;simp)
  |(refine wpAnyH_ready (rs:=[8]) ?_ ?_ ?_;decide+kernel;simp)
  |(refine wpAnyH_ready (rs:=[3,9]) ?_ ?_ ?_;decide+kernel;simp)
  |(refine wpAnyH_ready (rs:=[3]) ?_ ?_ ?_;decide+kernel;simp)
  |(refine wpAnyH_ready (rs:=[3,8]) ?_ ?_ ?_;decide+kernel;simp)
  |(refine wpAnyH_ready (rs:=[2,9]) ?_ ?_ ?_;decide+kernel;simp)
  |(refine wpAnyH_ready (rs:=[2]) ?_ ?_ ?_;decide+kernel;simp)
  |(refine wpAnyH_ready (rs:=[2,8]) ?_ ?_ ?_;decide+kernel;simp)
  |(
   first
    |(
     refine AllReadyH.cons (i:=2) (o:=⟨some 13,_,_,_,_,_⟩) rfl (fun K hK=> ?_) ?_
     go_simp
     go_at_call 62;refine Calls.mono (hof _).out ?_;rintro e wA ⟨sA,aA,lA,cA,rfl,hzA,kA,hlA⟩
     try have hzQ:=hzQ.below kA
     try have hzR:=hzR.below kA
     try have z5:=z5.below kA
     try have z6:=z6.below kA
     have kW:=grow_step kA kW
     try go_wp2_with fail)
    |(
     refine AllReadyH.cons (i:=3) (o:=⟨some 14,_,_,_,_,_⟩) rfl (fun K hK=> ?_) ?_
     go_simp
     go_at_call 127;refine Calls.mono (zdivmod_n (hx0.out.below kW) hzA.zm hl o_m o_m) ?_;rintro e wB ⟨sq,aq,lq,cq,sr,ar,lr,cr,qv,rv,rfl,hzQ,hzR,hFD,kB,hlq,hlr⟩
     try have hzA:=hzA.below kB
     try have z5:=z5.below kB
     try have z6:=z6.below kB
     have kW:=grow_step kB kW
     try go_wp2_with fail)
    |(
     refine AllReadyH.cons (i:=8) (o:=⟨some 5,_,_,_,_,_⟩) rfl (fun K hK=> ?_) ?_
     try have hne:=Nat.ne_of_gt z6.lt
     obtain⟨wL,eL,z5,hbz5,kL,kW⟩:=al_z kW
     try have hzA:=hzA.below kL
     try have hzQ:=hzQ.below kL
     try have hzR:=hzR.below kL
     try have z6:=z6.below kL
     go_simp
     rw[eL.out])
    |(
     refine AllReadyH.cons (i:=9) (o:=⟨some 6,_,_,_,_,_⟩) rfl (fun K hK=> ?_) ?_
     try have hne:=Nat.ne_of_lt z5.lt
     obtain⟨wL,eL,z6,hbz6,kL,kW⟩:=al_z kW
     try have hzA:=hzA.below kL
     try have hzQ:=hzQ.below kL
     try have hzR:=hzR.below kL
     try have z5:=z5.below kL
     go_simp
     rw[eL.out])
    |(
     refine AllReadyH.cons (i:=10) (o:=⟨none,_,_,_,_,_⟩) rfl (fun K hK=> ?_) ?_
     have f0:=z5.c0
     have f1:=z5.c1
     have f2:=z5.f 0
     have f3:=z5.f 1
     go_simp
     have hzR:=zb_zn z5 hzR sq aq lq cq
     have hzQ:=zb_zn z5 hzQ sq aq lq cq
     have z6:=z6.only (only2 _ _ (.bool sq) (.slice aq lq cq)) hne.symm
     have z5:=zb_fin z5 sq aq lq cq
     have kW:=(kW.setCell (p:=⟨_,0,none⟩) hbz5 (.bool sq)).setCell (p:=⟨_,1,none⟩) hbz5 (.slice aq lq cq))
    |(
     refine AllReadyH.cons (i:=11) (o:=⟨none,_,_,_,_,_⟩) rfl (fun K hK=> ?_) ?_
     have f0:=z6.c0
     have f1:=z6.c1
     have f2:=z6.f 0
     have f3:=z6.f 1
     go_simp
     have hzR:=zb_zn z6 hzR sr ar lr cr
     have z5:=z5.only (only2 _ _ (.bool sr) (.slice ar lr cr)) hne
     have z6:=zb_fin z6 sr ar lr cr
     have kW:=(kW.setCell (p:=⟨_,0,none⟩) hbz6 (.bool sr)).setCell (p:=⟨_,1,none⟩) hbz6 (.slice ar lr cr))
    |(
     refine AllReadyH.cons (i:=12) (o:=⟨some 7,_,_,_,_,_⟩) rfl (fun K hK=> ?_) ?_
     go_simp)
   refine hK.out _ _ ?_ ?_
   ·first|with_reducible exact trivial|((try dsimp only);exact⟨(y0.out.below kW).c0,(y0.out.below kW).c1⟩)
   clear hK K hHeld;intro hHeld
   (try simp only[pz]))
 all_goals
  refine wpAnyH_done ?_ ?_ _
  ·decide+kernel
  obtain⟨-,rfl⟩:=fd_div hFD o_m
  have r0:=z6.c0
  have r1:=z6.c1
  have hi:=hide (zint64_in hzR.zm o_m (by have:=hmod.out;omega) (by have:=hmod.out;omega))
  have kw:Hid (Below w.heap.size w _):=hide (by rw[hbt.out];exact b0.out.trans (kW.mono (Nat.le_of_lt hlt)))
  clear z5 z6 hzQ hzR kW hHeld hzA hof q0 q1 hFD
  go_wp2_with fail
  refine hi.out.mono ?_
  rintro e wZ ⟨rfl,kZ⟩
  have kf:=hide (grow_step kZ kw.out)
  clear hi kZ r0 r1
  go_wp2
  exact bodyPost_ret (results_tmp rfl _ _ _) rfl ⟨rfl,kf.out⟩
end Pd
namespace Pd

variable {w w':World}{x:Int}{cs:List Int}{ad:Option Addr}{n c b p:Nat}
structure ZV where
 s:Bool
 a:Option Addr
 l:Nat
 c:Nat
abbrev ZV.val (z:ZV):Value:=.agg #[.bool z.s,.slice z.a z.l z.c]
def Zr (w:World)(z:ZV)(x:Int):Prop:=Zm w z.s z.a z.l z.c x∧z.l≤1073741824
theorem Zr.below {z:ZV}(h:Zr w z x)(k:Below w.heap.size w w'):Zr w' z x:=⟨h.1.below k,h.2⟩
theorem zr_len {z:ZV}(h:Zr w z x):z.l≤1099511627776:=Nat.le_trans h.2 (by decide)
structure Zf (w:World) (z:ZV) (x:Int):Prop where
 zn:Fresh.Zn 0 w z.s z.a z.l z.c x
 le:z.l≤1073741824
theorem Zf.below {z:ZV}(h:Zf w z x)(k:Below w.heap.size w w'):Zf w' z x:=⟨h.zn.below k,h.le⟩
theorem Zf.zm {z:ZV}(h:Zf w z x):Zm w z.s z.a z.l z.c x:=h.zn.zn.zm
theorem Zf.len {z:ZV}(h:Zf w z x):z.l≤1099511627776:=Nat.le_trans h.le (by decide)
theorem zf_zero (w:World):Zf w ⟨false,none,0,0⟩ 0:=⟨⟨0,⟨⟨[],⟨rfl,by decide,by decide,fun z hz=>(by cases hz),Or.inl ⟨rfl,rfl,rfl⟩⟩,canon_nil,rfl⟩,Nat.zero_le _,.inl ⟨rfl,rfl⟩⟩,rfl,fun h=>by cases h⟩,by decide⟩
structure Prz (w:World) (q:List ZV) (cs:List Int):Prop where
 len:q.length=cs.length
 nu: ∀i (h:i<q.length) (h':i<cs.length),Zf w q[i] cs[i]
theorem Prz.below {q:List ZV}(h:Prz w q cs)(k:Below w.heap.size w w'):Prz w' q cs:=⟨h.len,fun i h1 h2=>(h.nu i h1 h2).below k⟩
structure CL (w:World) (ad:Option Addr) (n c:Nat) (cs:List Int):Prop where
 len:cs.length=n
 cap:n≤c∧c≤9223372036854775807
 at':n=0∨ ∃b off,ad=some ⟨b,off,none⟩∧b<w.heap.size∧∃q:List ZV,Prz w q cs∧∀i (h:i<q.length),w.cell? ⟨b,off+i*2,none⟩=some (.bool q[i].s)∧w.cell? ⟨b,off+i*2+1,none⟩=some (.slice q[i].a q[i].l q[i].c)
theorem CL.below (h:CL w ad n c cs)(k:Below w.heap.size w w'):CL w' ad n c cs:=by
 refine⟨h.len,h.cap,h.at'.imp id ?_⟩
 rintro⟨b,off,e,hb,q,hq,hc⟩
 exact⟨b,off,e,Nat.lt_of_lt_of_le hb k.size,q,hq.below k,fun i hi=>⟨(hb' k hb).trans (hc i hi).1,(hb' k hb).trans (hc i hi).2⟩⟩
where
 hb' {w w':World}(k:Below w.heap.size w w') {b o:Nat}(hb:b<w.heap.size):w'.cell? ⟨b,o,none⟩=w.cell? ⟨b,o,none⟩:=k.cell (p:=⟨b,o,none⟩) hb
theorem CL.get (h:CL w ad n c cs){i:Nat}(hi:i<n)(hi':i<cs.length): ∃b off z,ad=some ⟨b,off,none⟩∧b<w.heap.size∧w.cell? ⟨b,off+i*2,none⟩=some (.bool (ZV.s z))∧w.cell? ⟨b,off+i*2+1,none⟩=some (.slice z.a z.l z.c)∧Zf w z cs[i]:=by
 have hl:=h.len
 rcases h.at' with h0|⟨b,off,e,hb,q,hq,hc⟩
 ·omega
 have hql:=hq.len
 exact⟨b,off,q[i]'o_m,e,hb,(hc i o_m).1,(hc i o_m).2,hq.nu i o_m hi'⟩
theorem cl_nil (w:World):CL w none 0 0 []:=⟨rfl,by decide,.inl rfl⟩
structure RLs (w:World) (ad:Option Addr) (n c:Nat) (k:Nat) (rs:List (List Int)):Prop where
 len:rs.length=n
 cap:n≤c∧c≤9223372036854775807
 at':n=0∨ ∃b off,ad=some ⟨b,off,none⟩∧b<w.heap.size∧∀i (h:i<rs.length),∃g,w.cell? ⟨b,off+i,none⟩=some (.slice (some ⟨g,0,none⟩) k k)∧RB w g rs[i]
theorem RLs.below {k:Nat}{rs:List (List Int)}(h:RLs w ad n c k rs)(kb:Below w.heap.size w w'):RLs w' ad n c k rs:=by
 refine⟨h.len,h.cap,h.at'.imp id ?_⟩
 rintro⟨b,off,e,hb,hc⟩
 refine⟨b,off,e,Nat.lt_of_lt_of_le hb kb.size,fun i hi=> ?_⟩
 obtain⟨g,h1,h2⟩:=hc i hi
 exact⟨g,(kb.cell (p:=⟨b,off+i,none⟩) hb).trans h1,h2.below kb⟩
theorem RLs.get {k:Nat}{rs:List (List Int)}(h:RLs w ad n c k rs){i:Nat}(hi:i<n): ∃b off g,ad=some ⟨b,off,none⟩∧b<w.heap.size∧w.cell? ⟨b,off+i,none⟩=some (.slice (some ⟨g,0,none⟩) k k)∧RB w g (rs.getD i []):=by
 have hl:=h.len
 rcases h.at' with h0|⟨b,off,e,hb,hc⟩
 ·omega
 obtain⟨g,h1,h2⟩:=hc i o_m
 refine⟨b,off,g,e,hb,h1,?_⟩
 rw[show rs.getD i []=rs[i]'o_m by simp[List.getD,show i<rs.length by omega]]
 exact h2
structure SV where
 ca:Option Addr
 cn:Nat
 cc:Nat
 ra:Option Addr
 rn:Nat
 rc:Nat
def SB (w:World)(b:Nat)(p:Nat)(v:SV):Prop:=w.heap[b]? =some (.cells #[.int .i64 p,.slice v.ca v.cn v.cc,.slice v.ra v.rn v.rc] 78 (0,0))
theorem SB.lt {v:SV}(h:SB w b p v):b<w.heap.size:=(Array.getElem?_eq_some_iff.1 h).1
theorem SB.below {v:SV}(h:SB w b p v)(k:Below w.heap.size w w'):SB w' b p v:=(k.block b h.lt).trans h
theorem SB.c0 {v:SV}(h:SB w b p v):w.cell? ⟨b,0,none⟩=some (.int .i64 p):=cell_of_row w b 0 _ _ (0,0) h
theorem SB.c1 {v:SV}(h:SB w b p v):w.cell? ⟨b,1,none⟩=some (.slice v.ca v.cn v.cc):=cell_of_row w b 1 _ _ (0,0) h
theorem SB.c2 {v:SV}(h:SB w b p v):w.cell? ⟨b,2,none⟩=some (.slice v.ra v.rn v.rc):=cell_of_row w b 2 _ _ (0,0) h
theorem SB.f {v:SV}(h:SB w b p v)(i:Nat):w.frozen? ⟨b,i,none⟩=false:=frozen_of_row w b i _ _ h
theorem sb_new (w:World)(p:Nat)(v:SV):SB (w.alloc (.cells #[.int .i64 p,.slice v.ca v.cn v.cc,.slice v.ra v.rn v.rc] 78)) w.heap.size p v:=heap_alloc_new w _
structure PS (w:World) (b:Nat) (D:PD):Prop where
 wf:Wf D
 blk: ∃v:SV,SB w b D.p v∧CL w v.ca v.cn v.cc D.cs∧RLs w v.ra v.rn v.rc (wn D.p) D.rs
theorem PS.below {D:PD}(h:PS w b D)(k:Below w.heap.size w w'):PS w' b D:=by
 obtain⟨v,h1,h2,h3⟩:=h.blk
 exact⟨h.wf,v,h1.below k,h2.below k,h3.below k⟩
theorem period_n {D:PD}(h:PS w b D):Calls Tryz.prog 36 #[.pointer (some ⟨b,0,none⟩)] w fun e w'=>e= .returned (.int .i64 D.p)∧w'=w:=by
 obtain⟨v,hb,-,-⟩:=h.blk
 have c0:=hb.c0
 go_enter Tryz.func36,Tryz.ntmps36
 go_wp2
 exact bodyPost_ret (results_tmp rfl _ _ _) rfl ⟨rfl,rfl⟩
theorem periodOf_yes {z:ZV}(h:Zm w z.s z.a z.l z.c x)(hl:z.l≤1099511627776)(h1:0≤x)(h2:x≤4096):Calls Tryz.prog 83 #[.agg #[.bool z.s,.slice z.a z.l z.c]] w fun e w'=>e= .returned (.tuple #[.int .i64 x,.int .i64 0])∧Below w.heap.size w w':=by
 have b0:=below_alloc w (.cells #[.bool z.s,.slice z.a z.l z.c] 38)
 have hi:=hide (zint64_in (h.below b0) hl o_m o_m)
 have y0:=zb_new w z.s z.a z.l z.c
 have q0:=y0.c0
 have q1:=y0.c1
 replace b0:=hide b0
 have hgt:decide ((4096:Int)<x)=false:=by rw[decide_eq_false_iff_not];omega
 clear y0 h
 go_enter Tryz.func83,Tryz.ntmps83
 go_wp2_with fail
 refine hi.out.mono ?_
 rintro e w1 ⟨rfl,k1⟩
 have kf:=hide (grow_step k1 b0.out)
 clear hi k1 q0 q1
 go_wp2
 exact bodyPost_ret (results_tmp2 rfl _ _ _) rfl ⟨rfl,kf.out⟩
theorem periodOf_no {z:ZV}(h:Zm w z.s z.a z.l z.c x)(hl:z.l≤1099511627776)(h2:4096<x):Calls Tryz.prog 83 #[.agg #[.bool z.s,.slice z.a z.l z.c]] w fun e w'=>e= .returned (.tuple #[.int .i64 0,.int .i64 180])∧Below w.heap.size w w':=by
 have b0:=below_alloc w (.cells #[.bool z.s,.slice z.a z.l z.c] 38)
 have y0:=zb_new w z.s z.a z.l z.c
 have q0:=y0.c0
 have q1:=y0.c1
 have hz:=hide (h.below b0)
 replace b0:=hide b0
 clear y0 h
 by_cases hb:x≤9223372036854775807
 ·have hi:=hide (zint64_in hz.out hl o_m hb)
  have hgt:decide ((4096:Int)<x)=true:=by rw[decide_eq_true_eq];omega
  go_enter Tryz.func83,Tryz.ntmps83
  go_wp2_with fail
  refine hi.out.mono ?_
  rintro e w1 ⟨rfl,k1⟩
  have kf:=hide (grow_step k1 b0.out)
  clear hi k1 q0 q1
  go_wp2
  exact bodyPost_ret (results_tmp2 rfl _ _ _) rfl ⟨rfl,kf.out⟩
 have hi:=hide (zint64_out hz.out hl (.inr o_m))
 go_enter Tryz.func83,Tryz.ntmps83
 go_wp2_with fail
 refine hi.out.mono ?_
 rintro e w1 ⟨rfl,k1⟩
 have kf:=hide (grow_step k1 b0.out)
 clear hi k1 q0 q1
 go_wp2
 exact bodyPost_ret (results_tmp2 rfl _ _ _) rfl ⟨rfl,kf.out⟩
theorem rok_zero (p:Nat):Rok p (List.replicate (wn p) 0):=⟨Ws.rep _,List.length_replicate,fun _ _=>hb_rep _ _⟩
theorem wf_one {r:List Int}(hr:Rok p r)(h1:1≤p)(h2:p≤4096):Wf ⟨p,[],[r]⟩:=
 ⟨h1,h2,List.Pairwise.nil,rfl,fun q hq=>by rw[List.mem_singleton.1 hq];exact hr,fun i h=>by simp at h⟩
theorem ps_one {g:Nat}{r:List Int}(h:RB w g r)(hr:Rok p r)(h1:1≤p)(h2:p≤4096):
  PS ((w.alloc (.cells #[.slice (some ⟨g,0,none⟩) (wn p) (wn p)] 74)).alloc (.cells #[.int .i64 p,.slice none 0 0,.slice (some ⟨w.heap.size,0,none⟩) 1 1] 78)) (w.heap.size+1) ⟨p,[],[r]⟩∧
  Below w.heap.size w ((w.alloc (.cells #[.slice (some ⟨g,0,none⟩) (wn p) (wn p)] 74)).alloc (.cells #[.int .i64 p,.slice none 0 0,.slice (some ⟨w.heap.size,0,none⟩) 1 1] 78)):=by
 have b1:=below_alloc w (.cells #[.slice (some ⟨g,0,none⟩) (wn p) (wn p)] 74)
 have y1:=heap_alloc_new w (.cells #[.slice (some ⟨g,0,none⟩) (wn p) (wn p)] 74)
 have e1:(w.alloc (.cells #[.slice (some ⟨g,0,none⟩) (wn p) (wn p)] 74)).heap.size=w.heap.size+1:=by simp
 generalize w.alloc (.cells #[.slice (some ⟨g,0,none⟩) (wn p) (wn p)] 74)=w1 at*
 have b2:=below_alloc w1 (.cells #[.int .i64 p,.slice none 0 0,.slice (some ⟨w.heap.size,0,none⟩) 1 1] 78)
 have y2:=sb_new w1 p ⟨none,0,0,some ⟨w.heap.size,0,none⟩,1,1⟩
 rw[e1]at y2
 refine⟨⟨wf_one hr h1 h2,_,y2,cl_nil _,rfl,⟨Nat.le_refl _,by show 1≤9223372036854775807;decide⟩,.inr ⟨w.heap.size,0,rfl,by simp;omega,fun i hi=> ?_⟩⟩,grow_step b2 b1⟩
 obtain rfl:i=0:=by simp at hi;omega
 refine⟨g,?_,(h.below b1).below b2⟩
 exact(b2.cell (p:=⟨w.heap.size,0+0,none⟩) (by rw[e1];exact Nat.lt_succ_self _)).trans (cell_of_row w1 w.heap.size 0 _ _ (0,0) y1)
theorem none_n (w:World):Calls Tryz.prog 6 #[] w fun e w'=> ∃b D,e= .returned (.pointer (some ⟨b,0,none⟩))∧PS w' b D∧Below w.heap.size w w'∧(∀x,mem D x=false)∧D.p=1∧D.cs= []:=by
 have hnr:=hide (newRow_n (p:=1) (by decide) w)
 go_enter Tryz.func6,Tryz.ntmps6
 go_wp2_with fail
 refine hnr.out.mono ?_
 rintro e w1 ⟨rfl,rfl⟩
 clear hnr
 have hps:=hide (ps_one (rb_new w (List.replicate (wn 1) 0)) (rok_zero 1) (by decide) (by decide))
 have b0:=hide (below_alloc w (.cells (Uw (List.replicate (wn 1) 0)) 111))
 go_wp2
 refine bodyPost_ret (results_tmp rfl _ _ _) rfl ⟨_,⟨1,[],[List.replicate (wn 1) 0]⟩,rfl,?_,?_,fun x=>hb_rep _ _,rfl,rfl⟩
 ·have:=hps.out.1
  simpa using this
 have:=grow_step hps.out.2 b0.out
 simpa using this
end Pd
namespace Pd

def Got (w w':World)(en:Ending)(err:Int)(P:Nat)(m:Int→Bool)(N:Nat)(X:PD→Prop):Prop:=
 Below w.heap.size w w'∧((err≠0∧en= .returned (.tuple #[.pointer none,.int .i64 err]))∨(err=0∧∃b D,en= .returned (.tuple #[.pointer (some ⟨b,0,none⟩),.int .i64 0])∧PS w' b D∧D.p=P∧D.cs.length≤N∧(∀x,mem D x=m x)∧X D))
def clErr (d:Int):Int:=if d=0 then 11 else if 4096<d.natAbs then 180 else 0
theorem cls_mem {p:Nat}(h1:1≤p)(r x:Int):hb (adB (List.replicate (wn p) 0) (r%p).toNat) (x%p).toNat=decide (x%(p:Int)=r%(p:Int)):=by
 rw[hb_adB (Ws.rep _) (by rw[List.length_replicate];exact lt_wn (mod_lt' h1 r)),hb_rep,Bool.false_or,decide_eq_decide]
 have a1:=Int.emod_nonneg r (show(p:Int)≠0 by omega)
 have a2:=Int.emod_nonneg x (show(p:Int)≠0 by omega)
 omega
theorem cls_rok {p:Nat}(h1:1≤p)(r:Int):Rok p (adB (List.replicate (wn p) 0) (r%p).toNat):=by
 refine⟨adB_ws (Ws.rep _) _,by rw[adB_len];exact List.length_replicate,fun j hj=> ?_⟩
 have:=mod_lt' h1 r
 rw[hb_adB (Ws.rep _) (by rw[List.length_replicate];exact lt_wn this),hb_rep,Bool.false_or,decide_eq_false_iff_not]
 omega
theorem cmpI_eq0 (x:Int):(cmpI x 0==0)=decide (x=0):=by
 unfold cmpI
 by_cases h:x<0
 ·rw[if_pos h,decide_eq_false o_m];rfl
 rw[if_neg h]
 by_cases h2:0<x
 ·rw[if_pos h2,decide_eq_false o_m];rfl
 rw[if_neg h2,decide_eq_true o_m];rfl
theorem class_n {w:World}{z y:ZV}{d r:Int}(h:Zr w z d)(hr:Zr w y r):
  Calls Tryz.prog 34 #[.agg #[.bool z.s,.slice z.a z.l z.c],.agg #[.bool y.s,.slice y.a y.l y.c]] w fun e w'=>Got w w' e (clErr d) d.natAbs (fun x=>decide (x%(d.natAbs:Int)=r%(d.natAbs:Int))) 0 (fun D=>D=⟨d.natAbs,[],[adB (List.replicate (wn d.natAbs) 0) (r%(d.natAbs:Int)).toNat]⟩):=by
 have b1:=below_alloc w (.cells #[.bool z.s,.slice z.a z.l z.c] 38)
 have b2:=below_alloc (w.alloc (.cells #[.bool z.s,.slice z.a z.l z.c] 38)) (.cells #[.bool y.s,.slice y.a y.l y.c] 38)
 have y1:=(zb_new w z.s z.a z.l z.c).below b2
 have y2:=zb_new (w.alloc (.cells #[.bool z.s,.slice z.a z.l z.c] 38)) y.s y.a y.l y.c
 rw[show(w.alloc (.cells #[.bool z.s,.slice z.a z.l z.c] 38)).heap.size=w.heap.size+1 by simp]at y2
 have kw:=hide (grow_step b2 b1)
 have hd:=hide (h.below kw.out)
 have hrr:=hide (hr.below kw.out)
 clear b1 b2 h hr
 go_enter Tryz.func34,Tryz.ntmps34
 go_upto_region 1 with(fail)
 generalize (w.alloc (.cells #[.bool z.s,.slice z.a z.l z.c] 38)).alloc (.cells #[.bool y.s,.slice y.a y.l y.c] 38)=w0 at*
 have hbt:Hid (w.heap.size+1<w0.heap.size):=hide y2.lt
 generalize hbw:w.heap.size=bt at*
 replace hbw:=hide hbw
 have q0:=y1.c0
 have q1:=y1.c1
 have hsg:=hide (zsign_n hd.out.1 (zr_len hd.out))
 replace y1:=hide y1
 replace y2:=hide y2
 go_wp2_with fail
 refine hsg.out.mono ?_
 rintro e w1 ⟨rfl,k1⟩
 clear hsg q0 q1
 have hz0:=cmpI_eq0 d
 by_cases hd0:d=0
 ·rw[decide_eq_true hd0]at hz0
  have kf:Hid (Below w.heap.size w w1):=hide (by rw[hbw.out];exact kw.out.trans (k1.mono (by have:=hbt.out;omega)))
  clear k1
  go_wp2
  refine bodyPost_ret (results_tmp2 rfl _ _ _) rfl ⟨kf.out,.inl ⟨?_,?_⟩⟩
  ·unfold clErr;rw[if_pos hd0];decide
  unfold clErr;rw[if_pos hd0];rfl
 rw[decide_eq_false hd0]at hz0
 have y3:=y1.out.below k1
 have q0:=y3.c0
 have q1:=y3.c1
 have hd1:=hide (hd.out.below k1)
 have hr1:=hide (hrr.out.below k1)
 have y4:=hide (y2.out.below k1)
 have kw1:Hid (Below w.heap.size w w1):=hide (by rw[hbw.out];exact kw.out.trans (k1.mono (by have:=hbt.out;omega)))
 have hab:=hide (abs_n hd1.out.1 (zr_len hd1.out))
 have hlz:=hide hd1.out.2
 clear k1 y1 y2 y3 hd hrr kw
 go_wp2_with fail
 refine hab.out.mono ?_
 rintro e w2 ⟨s2,a2,l2,c2,rfl,hz2,k2,hl2⟩
 clear hab q0 q1
 have hzl:Hid (l2≤1099511627776):=hide (by have:=hlz.out;omega)
 have hzr:=hide hz2.zm
 have y5:=hide (y4.out.below k2)
 have hr2:=hide (hr1.out.below k2)
 have kw2:=hide (grow_step k2 kw1.out)
 clear k2 hr1 y4 kw1 hd1
 by_cases hp:4096<d.natAbs
 ·have hpo:=hide (periodOf_no (z:=⟨s2,a2,l2,c2⟩) hzr.out hzl.out o_m)
  go_wp2_with fail
  refine hpo.out.mono ?_
  rintro e w3 ⟨rfl,k3⟩
  have kf:=hide (grow_step k3 kw2.out)
  clear hpo k3
  have hne:((180:Int) !=0)=true:=rfl
  go_wp2
  refine bodyPost_ret (results_tmp2 rfl _ _ _) rfl ⟨kf.out,.inl ⟨?_,?_⟩⟩
  ·unfold clErr;rw[if_neg hd0,if_pos hp];decide
  unfold clErr;rw[if_neg hd0,if_pos hp];rfl
 have hpo:=hide (periodOf_yes (z:=⟨s2,a2,l2,c2⟩) hzr.out hzl.out o_m o_m)
 go_wp2_with fail
 refine hpo.out.mono ?_
 rintro e w3 ⟨rfl,k3⟩
 have y6:=hide (y5.out.below k3)
 have hr3:=hide (hr2.out.below k3)
 have kw3:=hide (grow_step k3 kw2.out)
 clear hpo k3 hr2 y5 kw2 hzr hz2
 have hne:((0:Int) !=0)=false:=rfl
 have hp1:1≤d.natAbs:=by omega
 have hp2:d.natAbs≤4096:=by omega
 have herr:Hid (clErr d=0):=hide (by unfold clErr;rw[if_neg hd0,if_neg hp])
 generalize hpd:d.natAbs=p at*
 replace hpd:=hide hpd
 have hnr:=hide (newRow_n hp2 w3)
 go_wp2_with fail
 refine hnr.out.mono ?_
 rintro e w4 ⟨rfl,rfl⟩
 clear hnr
 have hg3:Hid (w.heap.size≤w3.heap.size):=hide kw3.out.size
 have b4:=below_alloc w3 (.cells (Uw (List.replicate (wn p) 0)) 111)
 have g4:=rb_new w3 (List.replicate (wn p) 0)
 have y7:=y6.out.below b4
 have hr4:=hr3.out.below b4
 have kw4:=hide (grow_step b4 kw3.out)
 have q0:=y7.c0
 have q1:=y7.c1
 generalize w3.alloc (.cells (Uw (List.replicate (wn p) 0)) 111)=w4 at*
 generalize w3.heap.size=g at*
 have hre:=hide (remainderOf_n hr4.1 (zr_len hr4) hp1 hp2)
 replace g4:=hide g4
 clear b4 y7 y6 hr3 kw3
 go_wp2_with fail
 refine hre.out.mono ?_
 rintro e w5 ⟨rfl,k5⟩
 clear hre q0 q1
 have g5:=g4.out.below k5
 have kw5:=hide (grow_step k5 kw4.out)
 have hm:=mod_lt' hp1 r
 have hnn:=Int.emod_nonneg r (show(p:Int)≠0 by omega)
 obtain⟨m,hme⟩: ∃m:Nat,r%(p:Int)=m:=⟨(r%(p:Int)).toNat,by omega⟩
 have hmn:(r%(p:Int)).toNat=m:=by omega
 rw[hmn]at hm
 have had:=hide (add_n g5 List.length_replicate (r:=m) (lt_wn hm) o_m)
 have hcm:=hide (fun x=>cls_mem hp1 r x)
 have hro:=hide (cls_rok hp1 r)
 rw[hmn]at hcm hro
 rw[hme]
 replace hme:=hide hme
 clear k5 g4 hr4 kw4 hmn hnn g5
 go_wp2_with fail
 refine had.out.mono ?_
 rintro e w6 ⟨rfl,g6,o6⟩
 clear had
 have kw6:Hid (Below w.heap.size w w6):=hide (kw5.out.trans (o6.below hg3.out))
 have hps:=hide (ps_one g6 hro.out hp1 hp2)
 clear g6 o6 kw5
 go_wp2
 refine bodyPost_ret (results_tmp2 rfl _ _ _) rfl ⟨?_,.inr ⟨herr.out,_,⟨p,[],[adB (List.replicate (wn p) 0) m]⟩,rfl,?_,hpd.out.symm,Nat.le_refl _,fun x=> ?_,?_⟩⟩
 ·have:=grow_step hps.out.2 kw6.out
  simpa using this
 ·have:=hps.out.1
  simpa using this
 ·rw[hpd.out]
  exact hcm.out x
 rw[hpd.out,hme.out,Int.toNat_natCast]
end Pd
namespace Pd

variable {w:World}{b:Nat}{k:Int}{ys:List Int}
def Bk (w:World)(b:Nat)(o:Obj):Prop:=w.heap[b]? =some o
theorem Bk.lt {o:Obj}(h:Bk w b o):b<w.heap.size:=(Array.getElem?_eq_some_iff.1 h).1
theorem Bk.below {w':World}{o:Obj}(h:Bk w b o)(k:Below w.heap.size w w'):Bk w' b o:=(k.block b h.lt).trans h
theorem al_b {v:World}(k:Below v.heap.size v w)(o:Obj): ∃wL b,Hid (w.alloc o=wL)∧Hid (w.heap.size=b)∧Bk wL b o∧v.heap.size≤b∧Below w.heap.size w wL∧Below v.heap.size v wL:=⟨_,_,rfl,rfl,heap_alloc_new w o,k.size,below_alloc _ _,grow_alloc k _⟩
theorem others_g {p:Nat}{xs:List Int}(h:RB w b xs)(hR:Rok p xs)(h1:1≤p)(h2:p≤4096):
  Calls Tryz.prog 81 #[.slice (some ⟨b,0,none⟩) (wn p) (wn p),.int .i64 p] w fun e w'=> ∃g ys,e= .returned (.slice (some ⟨g,0,none⟩) (wn p) (wn p))∧RB w' g ys∧Below w.heap.size w w'∧Rok p ys∧(∀j,j<p→hb ys j= !hb xs j)∧w.heap.size≤g:=
 (others_n h hR h1 h2).mono fun _ _ ⟨ys,h1,h2,h3,h4,h5⟩=>⟨_,ys,h1,h2,h3,h4,h5,Nat.le_refl _⟩
theorem emod_one' (x:Int):(x%((1:Nat):Int)).toNat=0:=by omega
theorem wf_above (h:Rok 1 ys)(h0:hb ys 0=true):Wf ⟨1,[k+1],[List.replicate (wn 1) 0,ys]⟩ where
 p1:=Nat.le_refl _
 p2:=by show 1≤4096;decide
 up:=List.pairwise_singleton _ _
 len:=rfl
 row r hr:=by
  simp only[List.mem_cons,List.not_mem_nil,or_false]at hr
  rcases hr with rfl|rfl
  ·exact rok_zero 1
  exact h
 nb i hi:=by
  obtain rfl:i=0:=by simp at hi;omega
  intro e
  have e:List.replicate (wn 1) 0=ys:=e
  rw[←e,hb_rep]at h0
  cases h0
theorem mem_above (h0:hb ys 0=true)(x:Int):mem ⟨1,[k+1],[List.replicate (wn 1) 0,ys]⟩ x=decide (k<x):=by
 unfold mem
 show hb (rw' _ (plc [k+1] x)) (x%((1:Nat):Int)).toNat=_
 rw[emod_one']
 have e:plc [k+1] x=if k+1≤x then 1 else 0:=by
  simp[plc,List.countP_cons]
 rw[e]
 by_cases h:k+1≤x
 ·rw[if_pos h,decide_eq_true o_m]
  exact h0
 rw[if_neg h,decide_eq_false o_m]
 exact hb_rep _ _
theorem ps_above {b8 b12 g g2 bs:Nat}{s:Bool}{a:Option Addr}{l c:Nat}(hz:Fresh.Zn 0 w s a l c (k+1))(hl:l≤1073741824)(c8:Bk w b8 (.cells #[.bool s,.slice a l c] 38 (0,0)))
  (hg:RB w g (List.replicate (wn 1) 0))(hg2:RB w g2 ys)(c12:Bk w b12 (.cells #[.slice (some ⟨g,0,none⟩) (wn 1) (wn 1),.slice (some ⟨g2,0,none⟩) (wn 1) (wn 1)] 74 (0,0)))
  (hs:Bk w bs (.cells #[.int .i64 1,.slice (some ⟨b8,0,none⟩) 1 1,.slice (some ⟨b12,0,none⟩) 2 2] 78 (0,0)))(hr:Rok 1 ys)(h0:hb ys 0=true):PS w bs ⟨1,[k+1],[List.replicate (wn 1) 0,ys]⟩:=by
 refine⟨wf_above hr h0,⟨some ⟨b8,0,none⟩,1,1,some ⟨b12,0,none⟩,2,2⟩,hs,⟨rfl,⟨Nat.le_refl _,by show 1≤9223372036854775807;decide⟩,.inr ⟨b8,0,rfl,c8.lt,[⟨s,a,l,c⟩],⟨rfl,fun i h1 h2=> ?_⟩,fun i hi=> ?_⟩⟩,⟨rfl,⟨Nat.le_refl _,by show 2≤9223372036854775807;decide⟩,.inr ⟨b12,0,rfl,c12.lt,fun i hi=> ?_⟩⟩⟩
 ·obtain rfl:i=0:=by simp at h1;omega
  exact⟨hz,hl⟩
 ·obtain rfl:i=0:=by simp at hi;omega
  exact⟨cell_of_row w b8 0 _ _ (0,0) c8,cell_of_row w b8 1 _ _ (0,0) c8⟩
 have hc:i=0∨i=1:=by simp at hi;omega
 rcases hc with rfl|rfl
 ·exact⟨g,cell_of_row w b12 0 _ _ (0,0) c12,hg⟩
 exact⟨g2,cell_of_row w b12 1 _ _ (0,0) c12,hg2⟩
theorem above_n {s:Bool}{a:Option Addr}{l c:Nat}(h:Zm w s a l c k)(hl:l≤536870912):
  Calls Tryz.prog 32 #[.agg #[.bool s,.slice a l c]] w fun e w'=> ∃b D,e= .returned (.pointer (some ⟨b,0,none⟩))∧PS w' b D∧Below w.heap.size w w'∧D.p=1∧D.cs= [k+1]∧∀x,mem D x=decide (k<x):=by
 have b0:=below_alloc w (.cells #[.bool s,.slice a l c] 38)
 have y0:=zb_new w s a l c
 have hx0:=h.below b0
 have hnr:=hide (newRow_n (p:=1) (by decide) (w.alloc (.cells #[.bool s,.slice a l c] 38)))
 clear h
 go_enter Tryz.func32,Tryz.ntmps32
 go_wp2_with fail
 refine hnr.out.mono ?_
 rintro e w1 ⟨rfl,rfl⟩
 clear hnr
 generalize w.alloc (.cells #[.bool s,.slice a l c] 38)=w0 at*
 have b1:=below_alloc w0 (.cells (Uw (List.replicate (wn 1) 0)) 111)
 have g1:=rb_new w0 (List.replicate (wn 1) 0)
 have y1:=hide (y0.below b1)
 have hx1:=hide (hx0.below b1)
 have kw:=hide (grow_step b1 b0)
 clear b0 b1 y0 hx0
 generalize w0.alloc (.cells (Uw (List.replicate (wn 1) 0)) 111)=w1 at*
 generalize w0.heap.size=g at*
 have hle:Hid (w.heap.size≤w1.heap.size):=hide kw.out.size
 generalize hbt:w.heap.size=bt at*
 replace hbt:=hide hbt
 replace g1:=hide g1
 have hof:=fun u:World=>hide (zof_n 1 (by decide) (by decide) u)
 go_upto_region 2 with(fail)
 refine wp_region_held_drew (S:=(fun w'=>w'.cell? ⟨bt,0,none⟩=some (.bool s)∧w'.cell? ⟨bt,1,none⟩=some (.slice a l c))) k_f (⟨(y1.out.below (grow_drew (Below.refl _ _))).c0,(y1.out.below (grow_drew (Below.refl _ _))).c1⟩) (fun hHeld=> ?_)
 show wpAnyH _ _ _ _ _ 11 _ _ _
 have kW:=grow_drew (Below.refl w1.heap.size w1)
 generalize w1.drew=wQ at*
 repeat' first
  |with_reducible exact AllReadyH.nil
  |(
   refine tkz 0 5 ?_
   (try simp only[pz]))
  |(
   refine tkz 4 9 ?_
   (try simp only[pz]))
  |(
   refine tkz 5 10 ?_
   (try simp only[pz]))
  |(
   refine tkz 8 13 ?_
   (try simp only[pz]))
  |(refine wpAnyH_ready (rs:=[1]) ?_ ?_ ?_;decide+kernel;simp)
  |(refine wpAnyH_ready (rs:=[2]) ?_ ?_ ?_;decide+kernel;simp)
  |(refine wpAnyH_ready (rs:=[3,6]) ?_ ?_ ?_;decide+kernel;simp)
  |(refine wpAnyH_ready (rs:=[6]) ?_ ?_ ?_;decide+kernel;simp)
  |(refine wpAnyH_ready (rs:=[7]) ?_ ?_ ?_;decide+kernel;simp)
  |(refine wpAnyH_ready (rs:=[9]) ?_ ?_ ?_;decide+kernel;simp)
  |(refine wpAnyH_ready (rs:=[10]) ?_ ?_ ?_;decide+kernel;simp)
  |(refine wpAnyH_ready (rs:=[3,7]) ?_ ?_ ?_;decide+kernel;simp)
  |(refine wpAnyH_ready (rs:=[3]) ?_ ?_ ?_;decide+kernel;simp)
  |(
   first
    |(
     refine AllReadyH.cons (i:=1) (o:=⟨some 6,_,_,_,_,_⟩) rfl (fun K hK=> ?_) ?_
     go_simp
     go_at_call 62;refine Calls.mono (hof _).out ?_;rintro e wA ⟨sA,aA,lA,cA,rfl,hzA,kA,hlA⟩
     try have hzB:=hzB.below kA
     try have c8:=c8.below kA
     try have gO:=gO.below kA
     try have c12:=c12.below kA
     try have cS:=cS.below kA
     have kW:=grow_step kA kW
     try go_wp2_with fail)
    |(
     refine AllReadyH.cons (i:=2) (o:=⟨some 7,_,_,_,_,_⟩) rfl (fun K hK=> ?_) ?_
     go_simp
     go_at_call 64;refine Calls.mono (Fresh.zadd_n (B:=0) (Fresh.zm_of (hx1.out.below kW) (Nat.zero_le _)) (Fresh.zm_of hzA.zm (Nat.zero_le _)) o_m o_m) ?_;rintro e wB ⟨sB,aB,lB,cB,rfl,hzB,kB,hlB⟩
     try have hzA:=hzA.below kB
     try have c8:=c8.below kB
     try have gO:=gO.below kB
     try have c12:=c12.below kB
     try have cS:=cS.below kB
     have kW:=grow_step kB kW
     try go_wp2_with fail)
    |(
     refine AllReadyH.cons (i:=3) (o:=⟨some 8,_,_,_,_,_⟩) rfl (fun K hK=> ?_) ?_
     obtain⟨wL,b8,eL,eb8,c8,hbc8,kL,kW⟩:=al_b kW (.cells #[.bool sB,.slice aB lB cB] 38)
     try have hzA:=hzA.below kL
     try have hzB:=hzB.below kL
     try have gO:=gO.below kL
     try have c12:=c12.below kL
     try have cS:=cS.below kL
     go_simp
     rw[eL.out]
     (try simp only[eb8.out]))
    |(
     refine AllReadyH.cons (i:=6) (o:=⟨some 11,_,_,_,_,_⟩) rfl (fun K hK=> ?_) ?_
     go_simp
     go_at_call 81;refine Calls.mono (others_g (p:=1) (g1.out.below kW) (rok_zero 1) (by decide) (by decide)) ?_;rintro e wC ⟨g2,ys,rfl,gO,kC,hRo,hyo,-⟩
     try have hzA:=hzA.below kC
     try have hzB:=hzB.below kC
     try have c8:=c8.below kC
     try have c12:=c12.below kC
     try have cS:=cS.below kC
     have kW:=grow_step kC kW
     try go_wp2_with fail)
    |(
     refine AllReadyH.cons (i:=7) (o:=⟨some 12,_,_,_,_,_⟩) rfl (fun K hK=> ?_) ?_
     obtain⟨wL,b12,eL,eb12,c12,hbc12,kL,kW⟩:=al_b kW (.cells #[.slice (some ⟨g,0,none⟩) (wn 1) (wn 1),.slice (some ⟨g2,0,none⟩) (wn 1) (wn 1)] 74)
     try have hzA:=hzA.below kL
     try have hzB:=hzB.below kL
     try have c8:=c8.below kL
     try have gO:=gO.below kL
     try have cS:=cS.below kL
     go_simp
     rw[eL.out]
     (try simp only[eb12.out]))
    |(
     refine AllReadyH.cons (i:=9) (o:=⟨some 14,_,_,_,_,_⟩) rfl (fun K hK=> ?_) ?_
     obtain⟨wL,bs,eL,ebs,cS,hbcS,kL,kW⟩:=al_b kW (.cells #[.int .i64 1,.slice (some ⟨b8,0,none⟩) 1 1,.slice (some ⟨b12,0,none⟩) 2 2] 78)
     try have hzA:=hzA.below kL
     try have hzB:=hzB.below kL
     try have c8:=c8.below kL
     try have gO:=gO.below kL
     try have c12:=c12.below kL
     go_simp
     rw[eL.out]
     (try simp only[ebs.out]))
    |(
     refine AllReadyH.cons (i:=10) (o:=⟨some 2,_,_,_,_,_⟩) rfl (fun K hK=> ?_) ?_
     go_simp)
   refine hK.out _ _ ?_ ?_
   ·first|with_reducible exact trivial|((try dsimp only);exact⟨(y1.out.below kW).c0,(y1.out.below kW).c1⟩)
   clear hK K hHeld;intro hHeld
   (try simp only[pz]))
 all_goals
  refine wpAnyH_done ?_ ?_ _
  ·decide+kernel
  have hps:=hide (ps_above hzB o_m c8 (g1.out.below kW) gO c12 cS hRo (by rw[hyo 0 (by decide),hb_rep];rfl))
  have hm:=hide (fun x=>mem_above (k:=k) (ys:=ys) (by rw[hyo 0 (by decide),hb_rep];rfl) x)
  have kf:Hid (Below w.heap.size w _):=hide (by rw[hbt.out];exact kw.out.trans (kW.mono hle.out))
  clear hzA hzB c8 gO c12 cS kW hHeld hof hyo hRo y1 hx1 g1
  go_wp2
  exact bodyPost_ret (results_tmp rfl _ _ _) rfl ⟨_,_,rfl,hps.out,kf.out,rfl,rfl,hm.out⟩
end Pd
namespace Pd

theorem callf_cmp (a b:Value)(w:World):(callFunc 71 #[a,b]).run Tryz.prog w= .ok (.enter 71 #[a,b]) w:=by kernel_rfl
theorem cmpI_lt0 (a b:Int):decide (cmpI a b<0)=decide (a<b):=by
 unfold cmpI
 by_cases h:a<b
 ·rw[if_pos h];simp[h]
 rw[if_neg h]
 split <;> simp[h]
theorem cmpI_eq (a b:Int):(cmpI a b==0)=decide (a=b):=by
 unfold cmpI
 by_cases h:a<b
 ·rw[if_pos h,decide_eq_false o_m];rfl
 rw[if_neg h]
 by_cases h2:b<a
 ·rw[if_pos h2,decide_eq_false o_m];rfl
 rw[if_neg h2,decide_eq_true o_m];rfl
structure Pos (cs:List Int) (x:Int) (i:Nat):Prop where
 le:i≤cs.length
 lo: ∀k (h:k<cs.length),k<i→cs[k]<x
 hi: ∀k (h:k<cs.length),i≤k→x≤cs[k]
def fnd (cs:List Int)(x:Int)(i:Nat):Bool:=decide (i<cs.length)&&decide (cs.getD i 0=x)
theorem pos_plc {cs:List Int}{x:Int}{i:Nat}(hu:cs.Pairwise (· < ·))(h:Pos cs x i):plc cs x=i+if fnd cs x i=true then 1 else 0:=by
 have hl:=h.le
 unfold fnd
 by_cases h1:i<cs.length
 ·have e:cs.getD i 0=cs[i]:=by simp[List.getD,h1]
  obtain⟨d1,d2,d3,d4⟩:=drop_up hu h1
  by_cases h2:cs[i]=x
  ·rw[e,decide_eq_true h1,decide_eq_true h2,if_pos (by decide)]
   exact plc_eq o_m (fun c hc=>by rw[←h2];exact d3 c hc) (fun c hc=>by rw[←h2];exact d2 c hc)
  rw[e,decide_eq_true h1,decide_eq_false h2,if_neg (by decide),Nat.add_zero]
  have h3:=h.hi i h1 (Nat.le_refl _)
  refine plc_eq hl (fun c hc=> ?_) (fun c hc=> ?_)
  ·obtain⟨k,hk,rfl⟩:=List.mem_iff_getElem.1 hc
   rw[List.length_take]at hk
   rw[List.getElem_take]
   exact Int.le_of_lt (h.lo k o_m o_m)
  have:=d1 c hc
  omega
 rw[decide_eq_false h1,Bool.false_and,if_neg (by decide),Nat.add_zero]
 refine plc_eq hl (fun c hc=> ?_) (fun c hc=> ?_)
 ·obtain⟨k,hk,rfl⟩:=List.mem_iff_getElem.1 hc
  rw[List.length_take]at hk
  rw[List.getElem_take]
  exact Int.le_of_lt (h.lo k o_m o_m)
 rw[List.drop_eq_nil_of_le o_m]at hc
 exact absurd hc List.not_mem_nil
theorem up_le {cs:List Int}(hu:cs.Pairwise (· < ·)){k m:Nat}(hk:k<cs.length)(hm:m<cs.length)(h:k≤m):cs[k]≤cs[m]:=by
 by_cases e:k=m
 ·subst e;exact Int.le_refl _
 exact Int.le_of_lt (List.pairwise_iff_getElem.1 hu k m hk hm o_m)
theorem bsearch_n {w:World}{ad:Option Addr}{n c:Nat}{cs:List Int}{y:ZV}{x:Int}(h:CL w ad n c cs)(hy:Zm w y.s y.a y.l y.c x)(hyl:y.l≤1099511627776)(hu:cs.Pairwise (· < ·))(hn:n≤1073741824):
  Calls Tryz.prog 88 #[.slice ad n c,.agg #[.bool y.s,.slice y.a y.l y.c],.func (.func 71) #[] #[]] w fun e w'=> ∃i:Nat,e= .returned (.tuple #[.int .i64 i,.bool (fnd cs x i)])∧Pos cs x i∧Below w.heap.size w w':=by
 have b0:=below_alloc w (.cells #[.bool y.s,.slice y.a y.l y.c] 38)
 have y0:=zb_new w y.s y.a y.l y.c
 have hy0:=hide (hy.below b0)
 have hc0:=hide (h.below b0)
 have hln:=hide h.len
 clear h hy
 go_enter Tryz.func88,Tryz.ntmps88
 go_upto_region 1 with(fail)
 generalize w.alloc (.cells #[.bool y.s,.slice y.a y.l y.c] 38)=w0 at*
 have hlt:Hid (w.heap.size<w0.heap.size):=hide y0.lt
 generalize hbt:w.heap.size=bt at*
 replace hbt:=hide hbt
 replace y0:=hide y0
 replace b0:=hide b0
 go_wp2_with fail
 go_loopw [9,10] (fun vi vj wr=> ∃i j:Nat,vi= .int .i64 i∧vj= .int .i64 j∧i≤j∧j≤n∧Below w0.heap.size w0 wr∧(∀k (h:k<cs.length),k<i→cs[k]<x)∧(∀k (h:k<cs.length),j≤k→x≤cs[k])) (fun vi vj _=>(intOf vj).toNat-(intOf vi).toNat)
 case atStart=>exact⟨0,n,rfl,rfl,Nat.zero_le _,Nat.le_refl _,Below.refl _ _,fun k _ h=>by omega,fun k h1 h2=>by have:=hln.out;omega⟩
 case round=>
  obtain⟨i,j,rfl,rfl,hij,hjn,kr,hlo,hhi⟩:=hrel
  replace hlo:=hide hlo
  replace hhi:=hide hhi
  have yr:=hide (y0.out.below kr)
  have hyr:=hide (hy0.out.below kr)
  by_cases hlt2:i<j
  ·obtain⟨m,hm⟩: ∃m,m=(i+j) / 2:=⟨_,rfl⟩
   have hm1:i≤m:=by omega
   have hm2:m<j:=by omega
   have hmc:m<cs.length:=by have:=hln.out;omega
   obtain⟨b,off,z,rfl,hb,c0,c1,hz⟩:=(hc0.out.below kr).get (i:=m) o_m hmc
   obtain⟨v,hv⟩: ∃v,v=cs[m]:=⟨_,rfl⟩
   rw[←hv]at hz
   replace hv:=hide hv
   go_upto_region 5 with(fail)
   have hmi:((i:Int)+(j:Int)) / 2=(m:Int):=by omega
   simp only[hmi]
   have hcf:=callf_cmp
   have hmn:m<n:=by omega
   have hcl:=cmpI_lt0 v x
   have hz1:=hide hz
   clear hmi hm hz
   refine wp_region_held_drew (S:=(fun w'=>w'.cell? ⟨bt,0,none⟩=some (.bool y.s)∧w'.cell? ⟨bt,1,none⟩=some (.slice y.a y.l y.c)∧w'.cell? ⟨b,off+m*2,none⟩=some (.bool z.s)∧w'.cell? ⟨b,off+m*2+1,none⟩=some (.slice z.a z.l z.c))) k_f (⟨(yr.out.below (grow_drew (Below.refl _ _))).c0,(yr.out.below (grow_drew (Below.refl _ _))).c1,(Below.cell (grow_drew (Below.refl _ _)) hb).trans c0,(Below.cell (grow_drew (Below.refl _ _)) hb).trans c1⟩) (fun hHeld=> ?_)
   show wpAnyH _ _ _ _ _ 8 _ _ _
   have kW:=grow_drew (Below.refl wr.heap.size wr)
   generalize wr.drew=wQ at*
   repeat' first
    |with_reducible exact AllReadyH.nil
    |(
     refine tkz 0 24 ?_
     (try simp only[pz]))
    |(
     refine tkz 1 25 ?_
     (try simp only[pz]))
    |(
     refine tkz 2 26 ?_
     (try simp only[pz]))
    |(
     refine tkz 3 27 ?_
     (try simp only[pz]))
    |(
     refine tkz 4 28 ?_
     (try simp only[pz]))
    |(
     refine tkz 5 29 ?_
     (try simp only[pz]))
    |(
     refine tkz 7 31 ?_
     (try simp only[pz]))
    |(refine wpAnyH_ready (rs:=[6]) ?_ ?_ ?_;decide+kernel;simp)
    |(
     first
      |(
       refine AllReadyH.cons (i:=6) (o:=⟨some 30,_,_,_,_,_⟩) rfl (fun K hK=> ?_) ?_
       go_simp
       go_at_call 71;refine Calls.mono (zcmp_n (hz1.out.zm.below kW) (hyr.out.below kW) hz1.out.len hyl) ?_;rintro e wA ⟨rfl,kA⟩
       have kW:=grow_step kA kW
       try go_wp2_with fail)
     refine hK.out _ _ ?_ ?_
     ·first|with_reducible exact trivial|((try dsimp only);exact⟨(yr.out.below kW).c0,(yr.out.below kW).c1,(Below.cell kW hb).trans c0,(Below.cell kW hb).trans c1⟩)
     clear hK K hHeld;intro hHeld
     (try simp only[pz]))
   refine wpAnyH_done ?_ ?_ _
   ·decide+kernel
   have kr2:=hide (grow_step kW kr)
   clear kW hHeld hcl hcf kA
   by_cases hvx:v<x
   ·have hd:decide (v<x)=true:=decide_eq_true hvx
    go_wp2
    go_roundw
    case measure=>simp[intOf];omega
    case rel=>exact⟨m+1,j,by go_num,rfl,by omega,hjn,kr2.out,fun k h hk=>Int.lt_of_le_of_lt (up_le hu h hmc o_m) (by rw[←hv.out];exact hvx),hhi.out⟩
   have hd:decide (v<x)=false:=decide_eq_false hvx
   go_wp2
   go_roundw
   case measure=>simp[intOf];omega
   case rel=>exact⟨i,m,rfl,rfl,by omega,by omega,kr2.out,hlo.out,fun k h hk=>Int.le_trans (by rw[←hv.out];omega) (up_le hu hmc h hk)⟩
  obtain rfl:i=j:=by omega
  have hpos:Hid (Pos cs x i):=hide ⟨by have:=hln.out;omega,hlo.out,hhi.out⟩
  have kf:Hid (Below w.heap.size w wr):=hide (by rw[hbt.out];exact b0.out.trans (kr.mono (Nat.le_of_lt hlt.out)))
  by_cases hin:i<n
  ·have hic:i<cs.length:=by have:=hln.out;omega
   obtain⟨b,off,z,rfl,hb,c0,c1,hz⟩:=(hc0.out.below kr).get (i:=i) hin hic
   obtain⟨v,hv⟩: ∃v,v=cs[i]:=⟨_,rfl⟩
   have hfn:Hid (fnd cs x i=decide (v=x)):=hide (by
    unfold fnd
    rw[decide_eq_true hic,Bool.true_and,hv]
    simp[List.getD,hic])
   rw[←hv]at hz
   replace hv:=hide hv
   go_upto_region 8 with(fail)
   have hcf:=callf_cmp
   have hdg:decide ((i:Int)<(n:Int))=true:=by rw[decide_eq_true_eq];omega
   have hcl:=cmpI_eq v x
   have hz1:=hide hz
   clear hz
   refine wp_region_held_drew (S:=(fun w'=>w'.cell? ⟨bt,0,none⟩=some (.bool y.s)∧w'.cell? ⟨bt,1,none⟩=some (.slice y.a y.l y.c)∧w'.cell? ⟨b,off+i*2,none⟩=some (.bool z.s)∧w'.cell? ⟨b,off+i*2+1,none⟩=some (.slice z.a z.l z.c))) k_f (⟨(yr.out.below (grow_drew (Below.refl _ _))).c0,(yr.out.below (grow_drew (Below.refl _ _))).c1,(Below.cell (grow_drew (Below.refl _ _)) hb).trans c0,(Below.cell (grow_drew (Below.refl _ _)) hb).trans c1⟩) (fun hHeld=> ?_)
   show wpAnyH _ _ _ _ _ 16 _ _ _
   have kW:=grow_drew (Below.refl wr.heap.size wr)
   generalize wr.drew=wQ at*
   repeat' first
    |with_reducible exact AllReadyH.nil
    |(
     refine tkz 0 35 ?_
     (try simp only[pz]))
    |(
     refine tkz 1 36 ?_
     (try simp only[pz]))
    |(
     refine tkz 2 37 ?_
     (try simp only[pz]))
    |(
     refine tkz 3 38 ?_
     (try simp only[pz]))
    |(
     refine tkz 4 39 ?_
     (try simp only[pz]))
    |(
     refine tkz 5 40 ?_
     (try simp only[pz]))
    |(
     refine tkz 6 41 ?_
     (try simp only[pz]))
    |(
     refine tkz 7 42 ?_
     (try simp only[pz]))
    |(
     refine tkz 8 43 ?_
     (try simp only[pz]))
    |(
     refine tkz 9 44 ?_
     (try simp only[pz]))
    |(
     refine tkz 10 45 ?_
     (try simp only[pz]))
    |(
     refine tkz 12 47 ?_
     (try simp only[pz]))
    |(
     refine tkz 13 48 ?_
     (try simp only[pz]))
    |(refine wpAnyH_ready (rs:=[11]) ?_ ?_ ?_;decide+kernel;simp)
    |(refine wpAnyH_ready (rs:=[14]) ?_ ?_ ?_;decide+kernel;simp)
    |(refine wpAnyH_ready (rs:=[15]) ?_ ?_ ?_;decide+kernel;simp)
    |(
     first
      |(
       refine AllReadyH.cons (i:=11) (o:=⟨some 46,_,_,_,_,_⟩) rfl (fun K hK=> ?_) ?_
       go_simp
       go_at_call 71;refine Calls.mono (zcmp_n (hz1.out.zm.below kW) (hyr.out.below kW) hz1.out.len hyl) ?_;rintro e wA ⟨rfl,kA⟩
       have kW:=grow_step kA kW
       try go_wp2_with fail)
      |(
       refine AllReadyH.cons (i:=14) (o:=⟨some 6,_,_,_,_,_⟩) rfl (fun K hK=> ?_) ?_
       go_simp)
      |(
       refine AllReadyH.cons (i:=15) (o:=⟨some 7,_,_,_,_,_⟩) rfl (fun K hK=> ?_) ?_
       go_simp)
     refine hK.out _ _ ?_ ?_
     ·first|with_reducible exact trivial|((try dsimp only);exact⟨(yr.out.below kW).c0,(yr.out.below kW).c1,(Below.cell kW hb).trans c0,(Below.cell kW hb).trans c1⟩)
     clear hK K hHeld;intro hHeld
     (try simp only[pz]))
   refine wpAnyH_done ?_ ?_ _
   ·decide+kernel
   have kf2:=hide (grow_step kW kf.out)
   clear kW hHeld hcl hcf kA
   rw[←hfn.out]
   go_wp2
   exact bodyPost_ret (results_tmp2 rfl _ _ _) rfl ⟨i,rfl,hpos.out,kf2.out⟩
  obtain rfl:i=n:=by omega
  have hfn:Hid (fnd cs x i=false):=hide (by
   unfold fnd
   rw[decide_eq_false (by have:=hln.out;omega),Bool.false_and])
  have hdg:decide ((i:Int)<(i:Int))=false:=by simp
  go_upto_region 8 with(fail)
  refine wp_region_held_drew (S:=(fun _=>True)) k_f (trivial) (fun hHeld=> ?_)
  show wpAnyH _ _ _ _ _ 16 _ _ _
  have kW:=grow_drew (Below.refl wr.heap.size wr)
  generalize wr.drew=wQ at*
  repeat' first
   |with_reducible exact AllReadyH.nil
   |(
    refine tkz 0 35 ?_
    (try simp only[pz]))
   |(
    refine tkz 1 36 ?_
    (try simp only[pz]))
   |(
    refine tkz 2 37 ?_
    (try simp only[pz]))
   |(
    refine tkz 3 38 ?_
    (try simp only[pz]))
   |(
    refine tkz 4 39 ?_
    (try simp only[pz]))
   |(
    refine wpAnyH_take (i:=5) (oi:=⟨some 40,_,_,_,_,_⟩) (v:=undef) rfl (by decide+kernel) (by decide+kernel) (by decide+kernel) (fun _ _ _ h=>h) (Or.inr ⟨by rfl,rfl⟩) (by assumption) ?_
    (try simp only[pz]))
   |(
    refine wpAnyH_take (i:=6) (oi:=⟨some 41,_,_,_,_,_⟩) (v:=undef) rfl (by decide+kernel) (by decide+kernel) (by decide+kernel) (fun _ _ _ h=>h) (Or.inr ⟨by rfl,rfl⟩) (by assumption) ?_
    (try simp only[pz]))
   |(
    refine wpAnyH_take (i:=7) (oi:=⟨some 42,_,_,_,_,_⟩) (v:=undef) rfl (by decide+kernel) (by decide+kernel) (by decide+kernel) (fun _ _ _ h=>h) (Or.inr ⟨by rfl,rfl⟩) (by assumption) ?_
    (try simp only[pz]))
   |(
    refine wpAnyH_take (i:=8) (oi:=⟨some 43,_,_,_,_,_⟩) (v:=undef) rfl (by decide+kernel) (by decide+kernel) (by decide+kernel) (fun _ _ _ h=>h) (Or.inr ⟨by rfl,rfl⟩) (by assumption) ?_
    (try simp only[pz]))
   |(
    refine wpAnyH_take (i:=9) (oi:=⟨some 44,_,_,_,_,_⟩) (v:=undef) rfl (by decide+kernel) (by decide+kernel) (by decide+kernel) (fun _ _ _ h=>h) (Or.inr ⟨by rfl,rfl⟩) (by assumption) ?_
    (try simp only[pz]))
   |(
    refine wpAnyH_take (i:=10) (oi:=⟨some 45,_,_,_,_,_⟩) (v:=undef) rfl (by decide+kernel) (by decide+kernel) (by decide+kernel) (fun _ _ _ h=>h) (Or.inr ⟨by rfl,rfl⟩) (by assumption) ?_
    (try simp only[pz]))
   |(
    refine wpAnyH_take (i:=11) (oi:=⟨some 46,_,_,_,_,_⟩) (v:=undef) rfl (by decide+kernel) (by decide+kernel) (by decide+kernel) (fun _ _ _ h=>h) (Or.inr ⟨by rfl,rfl⟩) (by assumption) ?_
    (try simp only[pz]))
   |(
    refine wpAnyH_take (i:=12) (oi:=⟨some 47,_,_,_,_,_⟩) (v:=undef) rfl (by decide+kernel) (by decide+kernel) (by decide+kernel) (fun _ _ _ h=>h) (Or.inr ⟨by rfl,rfl⟩) (by assumption) ?_
    (try simp only[pz]))
   |(
    refine tkz 13 48 ?_
    (try simp only[pz]))
   |(refine wpAnyH_ready (rs:=[14]) ?_ ?_ ?_;decide+kernel;simp)
   |(refine wpAnyH_ready (rs:=[15]) ?_ ?_ ?_;decide+kernel;simp)
   |(
    first
     |(
      refine AllReadyH.cons (i:=14) (o:=⟨some 6,_,_,_,_,_⟩) rfl (fun K hK=> ?_) ?_
      go_simp)
     |(
      refine AllReadyH.cons (i:=15) (o:=⟨some 7,_,_,_,_,_⟩) rfl (fun K hK=> ?_) ?_
      go_simp)
    refine hK.out _ _ ?_ ?_
    ·first|with_reducible exact trivial|((try dsimp only);exact trivial)
    clear hK K hHeld;intro hHeld
    (try simp only[pz]))
  refine wpAnyH_done ?_ ?_ _
  ·decide+kernel
  have kf2:=hide (grow_step kW kf.out)
  clear kW hHeld
  rw[←hfn.out]
  go_wp2
  exact bodyPost_ret (results_tmp2 rfl _ _ _) rfl ⟨i,rfl,hpos.out,kf2.out⟩
end Pd
namespace Pd

theorem has_b {w:World}{b n:Nat}{xs:List Int}(h:RB w b xs)(hn:xs.length=n)(hw:Ws xs){r:Nat}(hr:r / 64<n)(hr2:r≤4096):
  Calls Tryz.prog 89 #[.slice (some ⟨b,0,none⟩) n n,.int .i64 r] w fun e w'=>e= .returned (.bool (hb xs r))∧Below w.heap.size w w':=
 (has_n h hn hw hr hr2).mono fun _ _ ⟨h1,m,h2⟩=>⟨h1,by rw[h2];exact below_drewN _ _ _⟩
theorem sHas_n {w:World}{b:Nat}{D:PD}{y:ZV}{x:Int}(h:PS w b D)(hf:D.cs.length≤1073741823)(hy:Zm w y.s y.a y.l y.c x)(hyl:y.l≤1099511627776):
  Calls Tryz.prog 38 #[.pointer (some ⟨b,0,none⟩),.agg #[.bool y.s,.slice y.a y.l y.c]] w fun e w'=>e= .returned (.bool (mem D x))∧Below w.heap.size w w':=by
 have b0:=below_alloc w (.cells #[.bool y.s,.slice y.a y.l y.c] 38)
 have y0:=zb_new w y.s y.a y.l y.c
 have hy0:=hide (hy.below b0)
 have h0:=h.below b0
 have hwf:=hide h.wf
 have hp1:=h.wf.p1
 have hp2:=h.wf.p2
 clear h hy
 obtain⟨v,hb0,hcl,hrl⟩:=h0.blk
 go_enter Tryz.func38,Tryz.ntmps38
 go_upto_region 3 with(fail)
 generalize w.alloc (.cells #[.bool y.s,.slice y.a y.l y.c] 38)=w0 at*
 have hlt:Hid (w.heap.size<w0.heap.size):=hide y0.lt
 generalize hbt:w.heap.size=bt at*
 replace hbt:=hide hbt
 replace y0:=hide y0
 replace b0:=hide b0
 have hlc:=hide hcl.len
 have hlr:=hide hrl.len
 replace hb0:=hide hb0
 replace hcl:=hide hcl
 replace hrl:=hide hrl
 clear h0
 refine wp_region_held_drew (S:=(fun w'=>w'.cell? ⟨bt,0,none⟩=some (.bool y.s)∧w'.cell? ⟨bt,1,none⟩=some (.slice y.a y.l y.c)∧w'.cell? ⟨b,1,none⟩=some (.slice v.ca v.cn v.cc))) k_f (⟨(y0.out.below (grow_drew (Below.refl _ _))).c0,(y0.out.below (grow_drew (Below.refl _ _))).c1,(hb0.out.below (grow_drew (Below.refl _ _))).c1⟩) (fun hHeld=> ?_)
 show wpAnyH _ _ _ _ _ 11 _ _ _
 have kW:=grow_drew (Below.refl w0.heap.size w0)
 generalize w0.drew=wQ at*
 repeat' first
  |with_reducible exact AllReadyH.nil
  |(
   refine tkz 0 10 ?_
   (try simp only[pz]))
  |(
   refine tkz 1 11 ?_
   (try simp only[pz]))
  |(
   refine tkz 2 12 ?_
   (try simp only[pz]))
  |(
   refine tkz 3 13 ?_
   (try simp only[pz]))
  |(
   refine tkz 4 14 ?_
   (try simp only[pz]))
  |(
   refine tkz 6 9 ?_
   (try simp only[pz]))
  |(
   refine tkz 7 16 ?_
   (try simp only[pz]))
  |(
   refine tkz 8 17 ?_
   (try simp only[pz]))
  |(refine wpAnyH_ready (rs:=[5]) ?_ ?_ ?_;decide+kernel;simp)
  |(refine wpAnyH_ready (rs:=[9]) ?_ ?_ ?_;decide+kernel;simp)
  |(refine wpAnyH_ready (rs:=[10]) ?_ ?_ ?_;decide+kernel;simp)
  |(
   first
    |(
     refine AllReadyH.cons (i:=5) (o:=⟨some 15,_,_,_,_,_⟩) rfl (fun K hK=> ?_) ?_
     go_simp
     go_at_call 88;refine Calls.mono (bsearch_n (hcl.out.below kW) (hy0.out.below kW) hyl hwf.out.up (by have:=hlc.out;omega)) ?_;rintro e wA ⟨i,rfl,hpos,kA⟩
     have kW:=grow_step kA kW
     try go_wp2_with fail)
    |(
     refine AllReadyH.cons (i:=9) (o:=⟨some 5,_,_,_,_,_⟩) rfl (fun K hK=> ?_) ?_
     go_simp)
    |(
     refine AllReadyH.cons (i:=10) (o:=⟨some 6,_,_,_,_,_⟩) rfl (fun K hK=> ?_) ?_
     go_simp)
   refine hK.out _ _ ?_ ?_
   ·first|with_reducible exact trivial|((try dsimp only);exact⟨(y0.out.below kW).c0,(y0.out.below kW).c1,(hb0.out.below kW).c1⟩)
   clear hK K hHeld;intro hHeld
   (try simp only[pz]))
 refine wpAnyH_done ?_ ?_ _
 ·decide+kernel
 have y3:=hide (y0.out.below kW)
 have hb3:=hide (hb0.out.below kW)
 have hr3:=hrl.out.below kW
 have hy3:=hide (hy0.out.below kW)
 have kw3:Hid (Below w.heap.size w wA):=hide (by rw[hbt.out];exact b0.out.trans (kW.mono (Nat.le_of_lt hlt.out)))
 have hpl:=pos_plc hwf.out.up hpos
 have hplt:=hwf.out.place x
 obtain⟨pl,hple⟩: ∃pl,pl=plc D.cs x:=⟨_,rfl⟩
 rw[←hple]at hpl hplt
 obtain⟨rb,ro,g,hra,hrbl,cg,hg⟩:=hr3.get (i:=pl) (by have:=hlr.out;omega)
 have hrk:=hwf.out.rok hplt
 have hgl:=hide hrk.len
 have hgw:=hide hrk.ws
 have cR:=hb3.out.c2
 rw[hra]at cR
 have hrb:=hb3.out.lt
 have hil:=hpos.le
 obtain⟨mm,hmm⟩: ∃mm:Nat,x%(D.p:Int)=mm:=⟨(x%(D.p:Int)).toNat,by have:=Int.emod_nonneg x (show(D.p:Int)≠0 by omega);omega⟩
 have hml:mm<D.p:=by have:=Int.emod_lt_of_pos x (show(0:Int)<D.p by omega);omega
 have hfin:Hid (mem D x=hb (rw' D pl) mm):=hide (by unfold mem;rw[←hple,hmm];rfl)
 replace hg:Hid (RB wA g (rw' D pl)):=hide hg
 replace hmm:=hide hmm
 have hrn:pl<v.rn:=by have:=hlr.out;omega
 have hic:i≤1073741823:=by omega
 clear kW hHeld kA hr3 hrk hpos hple
 cases hfd:fnd D.cs x i with
 |false=>
  rw[hfd,if_neg (by decide),Nat.add_zero]at hpl
  subst hpl
  go_upto_region 6 with(fail)
  generalize wA=wB at*
  refine wp_region_held_drew (S:=(fun w'=>w'.cell? ⟨bt,0,none⟩=some (.bool y.s)∧w'.cell? ⟨bt,1,none⟩=some (.slice y.a y.l y.c)∧w'.cell? ⟨b,0,none⟩=some (.int .i64 D.p)∧w'.cell? ⟨b,2,none⟩=some (.slice (some ⟨rb,ro,none⟩) v.rn v.rc)∧w'.cell? ⟨rb,ro+pl,none⟩=some (.slice (some ⟨g,0,none⟩) (wn D.p) (wn D.p)))) k_f (⟨(y3.out.below (grow_drew (Below.refl _ _))).c0,(y3.out.below (grow_drew (Below.refl _ _))).c1,(hb3.out.below (grow_drew (Below.refl _ _))).c0,(Below.cell (grow_drew (Below.refl _ _)) hrb).trans cR,(Below.cell (grow_drew (Below.refl _ _)) hrbl).trans cg⟩) (fun hHeld=> ?_)
  show wpAnyH _ _ _ _ _ 15 _ _ _
  have kW:=grow_drew (Below.refl wB.heap.size wB)
  generalize wB.drew=wQ at*
  repeat' first
   |with_reducible exact AllReadyH.nil
   |(
    refine tkz 0 21 ?_
    (try simp only[pz]))
   |(
    refine tkz 1 22 ?_
    (try simp only[pz]))
   |(
    refine tkz 2 23 ?_
    (try simp only[pz]))
   |(
    refine tkz 3 24 ?_
    (try simp only[pz]))
   |(
    refine tkz 4 25 ?_
    (try simp only[pz]))
   |(
    refine tkz 5 26 ?_
    (try simp only[pz]))
   |(
    refine tkz 6 27 ?_
    (try simp only[pz]))
   |(
    refine tkz 7 28 ?_
    (try simp only[pz]))
   |(
    refine tkz 8 29 ?_
    (try simp only[pz]))
   |(
    refine tkz 9 30 ?_
    (try simp only[pz]))
   |(
    refine tkz 10 31 ?_
    (try simp only[pz]))
   |(
    refine tkz 11 32 ?_
    (try simp only[pz]))
   |(refine wpAnyH_ready (rs:=[12]) ?_ ?_ ?_;decide+kernel;simp)
   |(refine wpAnyH_ready (rs:=[13]) ?_ ?_ ?_;decide+kernel;simp)
   |(refine wpAnyH_ready (rs:=[14]) ?_ ?_ ?_;decide+kernel;simp)
   |(
    first
     |(
      refine AllReadyH.cons (i:=12) (o:=⟨some 33,_,_,_,_,_⟩) rfl (fun K hK=> ?_) ?_
      go_simp
      go_at_call 86;refine Calls.mono (remainderOf_n (hy3.out.below kW) hyl hp1 hp2) ?_;rintro e wC ⟨rfl,kC⟩;(try rw[hmm.out])
      have kW:=grow_step kC kW
      try go_wp2_with fail)
     |(
      refine AllReadyH.cons (i:=13) (o:=⟨some 34,_,_,_,_,_⟩) rfl (fun K hK=> ?_) ?_
      go_simp
      go_at_call 89;refine Calls.mono (has_b (hg.out.below kW) hgl.out hgw.out (r:=mm) (lt_wn hml) o_m) ?_;rintro e wD ⟨rfl,kD⟩
      have kW:=grow_step kD kW
      try go_wp2_with fail)
     |(
      refine AllReadyH.cons (i:=14) (o:=⟨some 4,_,_,_,_,_⟩) rfl (fun K hK=> ?_) ?_
      go_simp)
    refine hK.out _ _ ?_ ?_
    ·first|with_reducible exact trivial|((try dsimp only);exact⟨(y3.out.below kW).c0,(y3.out.below kW).c1,(hb3.out.below kW).c0,(Below.cell kW hrb).trans cR,(Below.cell kW hrbl).trans cg⟩)
    clear hK K hHeld;intro hHeld
    (try simp only[pz]))
  refine wpAnyH_done ?_ ?_ _
  ·decide+kernel
  have kf:=hide (grow_step kW kw3.out)
  clear kW hHeld
  rw[←hfin.out]
  go_wp2
  exact bodyPost_ret (results_tmp rfl _ _ _) rfl ⟨rfl,kf.out⟩
 |true=>
  rw[hfd,if_pos rfl]at hpl
  have hq:(i:Int)+1=(pl:Int):=by omega
  clear hpl
  go_upto_region 6 with(fail)
  (try simp only[hq])
  clear hq
  generalize wA=wB at*
  refine wp_region_held_drew (S:=(fun w'=>w'.cell? ⟨bt,0,none⟩=some (.bool y.s)∧w'.cell? ⟨bt,1,none⟩=some (.slice y.a y.l y.c)∧w'.cell? ⟨b,0,none⟩=some (.int .i64 D.p)∧w'.cell? ⟨b,2,none⟩=some (.slice (some ⟨rb,ro,none⟩) v.rn v.rc)∧w'.cell? ⟨rb,ro+pl,none⟩=some (.slice (some ⟨g,0,none⟩) (wn D.p) (wn D.p)))) k_f (⟨(y3.out.below (grow_drew (Below.refl _ _))).c0,(y3.out.below (grow_drew (Below.refl _ _))).c1,(hb3.out.below (grow_drew (Below.refl _ _))).c0,(Below.cell (grow_drew (Below.refl _ _)) hrb).trans cR,(Below.cell (grow_drew (Below.refl _ _)) hrbl).trans cg⟩) (fun hHeld=> ?_)
  show wpAnyH _ _ _ _ _ 15 _ _ _
  have kW:=grow_drew (Below.refl wB.heap.size wB)
  generalize wB.drew=wQ at*
  repeat' first
   |with_reducible exact AllReadyH.nil
   |(
    refine tkz 0 21 ?_
    (try simp only[pz]))
   |(
    refine tkz 1 22 ?_
    (try simp only[pz]))
   |(
    refine tkz 2 23 ?_
    (try simp only[pz]))
   |(
    refine tkz 3 24 ?_
    (try simp only[pz]))
   |(
    refine tkz 4 25 ?_
    (try simp only[pz]))
   |(
    refine tkz 5 26 ?_
    (try simp only[pz]))
   |(
    refine tkz 6 27 ?_
    (try simp only[pz]))
   |(
    refine tkz 7 28 ?_
    (try simp only[pz]))
   |(
    refine tkz 8 29 ?_
    (try simp only[pz]))
   |(
    refine tkz 9 30 ?_
    (try simp only[pz]))
   |(
    refine tkz 10 31 ?_
    (try simp only[pz]))
   |(
    refine tkz 11 32 ?_
    (try simp only[pz]))
   |(refine wpAnyH_ready (rs:=[12]) ?_ ?_ ?_;decide+kernel;simp)
   |(refine wpAnyH_ready (rs:=[13]) ?_ ?_ ?_;decide+kernel;simp)
   |(refine wpAnyH_ready (rs:=[14]) ?_ ?_ ?_;decide+kernel;simp)
   |(
    first
     |(
      refine AllReadyH.cons (i:=12) (o:=⟨some 33,_,_,_,_,_⟩) rfl (fun K hK=> ?_) ?_
      go_simp
      go_at_call 86;refine Calls.mono (remainderOf_n (hy3.out.below kW) hyl hp1 hp2) ?_;rintro e wC ⟨rfl,kC⟩;(try rw[hmm.out])
      have kW:=grow_step kC kW
      try go_wp2_with fail)
     |(
      refine AllReadyH.cons (i:=13) (o:=⟨some 34,_,_,_,_,_⟩) rfl (fun K hK=> ?_) ?_
      go_simp
      go_at_call 89;refine Calls.mono (has_b (hg.out.below kW) hgl.out hgw.out (r:=mm) (lt_wn hml) o_m) ?_;rintro e wD ⟨rfl,kD⟩
      have kW:=grow_step kD kW
      try go_wp2_with fail)
     |(
      refine AllReadyH.cons (i:=14) (o:=⟨some 4,_,_,_,_,_⟩) rfl (fun K hK=> ?_) ?_
      go_simp)
    refine hK.out _ _ ?_ ?_
    ·first|with_reducible exact trivial|((try dsimp only);exact⟨(y3.out.below kW).c0,(y3.out.below kW).c1,(hb3.out.below kW).c0,(Below.cell kW hrb).trans cR,(Below.cell kW hrbl).trans cg⟩)
    clear hK K hHeld;intro hHeld
    (try simp only[pz]))
  refine wpAnyH_done ?_ ?_ _
  ·decide+kernel
  have kf:=hide (grow_step kW kw3.out)
  clear kW hHeld
  rw[←hfin.out]
  go_wp2
  exact bodyPost_ret (results_tmp rfl _ _ _) rfl ⟨rfl,kf.out⟩
end Pd
end Go.Proofs.YtaafoppaepcaeaaGreat

namespace Go.Proofs.YtaafoppaepcaeaaGreat
open Go.RowKit Go.Sort Go.Shelf
namespace Cr
open Pd (fd_div)

theorem rfloor_n {s1 s2:Bool}{a1 a2:Option Addr}{l1 c1 l2 c2:Nat}{z1 z2:Int}{w:World}(h1:Zm w s1 a1 l1 c1 z1)(h2:Zm w s2 a2 l2 c2 z2)(hl1:l1≤4294967296)(hl2:l2≤4294967296)(hz:0<z2):
  Calls Tryz.prog 115 #[.agg #[.bool s1,.slice a1 l1 c1],.agg #[.bool s2,.slice a2 l2 c2]] w fun e w'=> ∃s a l c,e= .returned (.agg #[.bool s,.slice a l c])∧Zn w' s a l c (z1 / z2)∧Below w.heap.size w w'∧l≤l1+3:=by
 go_enter Tryz.func115,Tryz.ntmps115
 go_wp2_with fail
 have y:=zb_new ((w.alloc (.cells #[.bool s1,.slice a1 l1 c1] 38)).alloc (.cells #[.bool s2,.slice a2 l2 c2] 38)) false none 0 0
 have b0:Below w.heap.size w (((w.alloc (.cells #[.bool s1,.slice a1 l1 c1] 38)).alloc (.cells #[.bool s2,.slice a2 l2 c2] 38)).alloc (.cells #[.bool false,.slice none 0 0] 38)):=below_alloc' (below_alloc' (below_alloc _ _) _) _
 rw[show((w.alloc (.cells #[.bool s1,.slice a1 l1 c1] 38)).alloc (.cells #[.bool s2,.slice a2 l2 c2] 38)).heap.size=w.heap.size+1+1 from by simp]at y
 generalize ((w.alloc (.cells #[.bool s1,.slice a1 l1 c1] 38)).alloc (.cells #[.bool s2,.slice a2 l2 c2] 38)).alloc (.cells #[.bool false,.slice none 0 0] 38)=wb at*
 have hr:w.heap.size≤w.heap.size+1+1:=by omega
 generalize w.heap.size+1+1=r at*
 refine(rdivmod_n (h1.below b0) (h2.below b0) hl1 hl2 o_m).mono ?_
 rintro e w1 ⟨sq,aq,lq,cq,sr,ar,lr,cr,qv,rv,rfl,hzq,hzr,hFD,k1,hlq,hlr⟩
 have hval:qv=z1 / z2∧rv=z1%z2:=fd_div hFD hz
 obtain⟨rfl,rfl⟩:=hval
 have kk:=hide (grow_step k1 b0)
 have y1:=y.below k1
 clear k1 b0 y h1 h2
 have ka:=below_alloc w1 (.cells #[.bool sq,.slice aq lq cq] 38)
 have kb:=below_alloc (w1.alloc (.cells #[.bool sq,.slice aq lq cq] 38)) (.cells #[.bool sr,.slice ar lr cr] 38)
 have kc:=grow_step kb ka
 have y2:=y1.below kc
 have y3:=y2.c0
 have y4:=y2.c1
 have y5:=y2.f 0
 have y6:=y2.f 1
 have hz9:=hide (zb_zn y2 (hzq.below kc) sq aq lq cq)
 have hk9:=hide (((grow_step kc kk.out).setCell (p:=⟨r,0,none⟩) hr (.bool sq)).setCell (p:=⟨r,1,none⟩) hr (.slice aq lq cq))
 clear ka kb kc
 go_wp2
 refine bodyPost_ret (results_cell_row rfl _ _ r 38 _ (0,0) _ rfl (zb_fin y2 sq aq lq cq) Tryz.underlying38 rfl k_f) rfl ?_
 exact⟨sq,aq,lq,cq,by simp,hz9.out,hk9.out,by omega⟩
theorem rmod_n {s1 s2:Bool}{a1 a2:Option Addr}{l1 c1 l2 c2:Nat}{z1 z2:Int}{w:World}(h1:Zm w s1 a1 l1 c1 z1)(h2:Zm w s2 a2 l2 c2 z2)(hl1:l1≤4294967296)(hl2:l2≤4294967296)(hz:0<z2):
  Calls Tryz.prog 101 #[.agg #[.bool s1,.slice a1 l1 c1],.agg #[.bool s2,.slice a2 l2 c2]] w fun e w'=> ∃s a l c,e= .returned (.agg #[.bool s,.slice a l c])∧Zn w' s a l c (z1%z2)∧Below w.heap.size w w'∧l≤l1+l2+5:=by
 go_enter Tryz.func101,Tryz.ntmps101
 go_wp2_with fail
 have y:=zb_new ((w.alloc (.cells #[.bool s1,.slice a1 l1 c1] 38)).alloc (.cells #[.bool s2,.slice a2 l2 c2] 38)) false none 0 0
 have b0:Below w.heap.size w (((w.alloc (.cells #[.bool s1,.slice a1 l1 c1] 38)).alloc (.cells #[.bool s2,.slice a2 l2 c2] 38)).alloc (.cells #[.bool false,.slice none 0 0] 38)):=below_alloc' (below_alloc' (below_alloc _ _) _) _
 rw[show((w.alloc (.cells #[.bool s1,.slice a1 l1 c1] 38)).alloc (.cells #[.bool s2,.slice a2 l2 c2] 38)).heap.size=w.heap.size+1+1 from by simp]at y
 generalize ((w.alloc (.cells #[.bool s1,.slice a1 l1 c1] 38)).alloc (.cells #[.bool s2,.slice a2 l2 c2] 38)).alloc (.cells #[.bool false,.slice none 0 0] 38)=wb at*
 have hr:w.heap.size≤w.heap.size+1+1:=by omega
 generalize w.heap.size+1+1=r at*
 refine(rdivmod_n (h1.below b0) (h2.below b0) hl1 hl2 o_m).mono ?_
 rintro e w1 ⟨sq,aq,lq,cq,sr,ar,lr,cr,qv,rv,rfl,hzq,hzr,hFD,k1,hlq,hlr⟩
 have hval:qv=z1 / z2∧rv=z1%z2:=fd_div hFD hz
 obtain⟨rfl,rfl⟩:=hval
 have kk:=hide (grow_step k1 b0)
 have y1:=y.below k1
 clear k1 b0 y h1 h2
 have ka:=below_alloc w1 (.cells #[.bool sq,.slice aq lq cq] 38)
 have kb:=below_alloc (w1.alloc (.cells #[.bool sq,.slice aq lq cq] 38)) (.cells #[.bool sr,.slice ar lr cr] 38)
 have kc:=grow_step kb ka
 have y2:=y1.below kc
 have y3:=y2.c0
 have y4:=y2.c1
 have y5:=y2.f 0
 have y6:=y2.f 1
 have hz9:=hide (zb_zn y2 (hzr.below kc) sr ar lr cr)
 have hk9:=hide (((grow_step kc kk.out).setCell (p:=⟨r,0,none⟩) hr (.bool sr)).setCell (p:=⟨r,1,none⟩) hr (.slice ar lr cr))
 clear ka kb kc
 go_wp2
 refine bodyPost_ret (results_cell_row rfl _ _ r 38 _ (0,0) _ rfl (zb_fin y2 sr ar lr cr) Tryz.underlying38 rfl k_f) rfl ?_
 exact⟨sr,ar,lr,cr,by simp,hz9.out,hk9.out,by omega⟩
theorem or_lo (x y:Int)(h0:0≤x)(h1:x<4294967296)(h2:0≤y)(h3:y<4294967296):bits .or .u64 (y*4294967296) x=x+y*4294967296:=by
 rw[←or_hi x y h0 h1 h2 h3]
 show IntKind.u64.wrap ((BitVec.ofInt 64 _|||BitVec.ofInt 64 _).toNat:Int)=IntKind.u64.wrap ((BitVec.ofInt 64 _|||BitVec.ofInt 64 _).toNat:Int)
 rw[BitVec.or_comm]
def i64v (z:Int):Value:=if z≤9223372036854775807 then .tuple #[.int .i64 z,.bool true]else .tuple #[.int .i64 0,.bool false]
theorem rint64_n {s:Bool}{a:Option Addr}{l c:Nat}{z:Int}{w:World}(h:Zm w s a l c z)(hl:l≤1099511627776)(h0:0≤z):
  Calls Tryz.prog 54 #[.agg #[.bool s,.slice a l c]] w fun e w'=>e= .returned (i64v z)∧Below w.heap.size w w':=by
 have b0:=below_alloc w (.cells #[.bool s,.slice a l c] 38)
 have y0:=zb_new w s a l c
 have q0:=y0.c0
 have q1:=y0.c1
 have hno:=hide (rnorm_n (h.below b0) hl)
 replace b0:=hide b0
 clear y0 h
 go_enter Tryz.func54,Tryz.ntmps54
 go_wp2_with fail
 refine hno.out.mono ?_
 rintro e w1 ⟨s1,a1,l1,c1,rfl,hz,k1,-⟩
 have kf:=grow_step k1 b0.out
 have k2:=hide (grow_step (below_alloc w1 (.cells #[.bool s1,.slice a1 l1 c1] 38)) kf)
 have y1:=zb_new w1 s1 a1 l1 c1
 replace hz:=hz.below (below_alloc w1 (.cells #[.bool s1,.slice a1 l1 c1] 38))
 clear hno k1 q0 q1 kf b0
 go_upto_region 2 with(fail)
 generalize w1.alloc (.cells #[.bool s1,.slice a1 l1 c1] 38)=w2 at*
 obtain⟨bx,hbx⟩: ∃bx,w1.heap.size=bx:=⟨_,rfl⟩
 rw[hbx]at y1 ⊢
 clear hbx
 obtain⟨m,⟨zs,hr,hcn,hv⟩,hzm,hsg⟩:=hz
 have hm0:=(Cn.nm ⟨zs,hr,hcn,hv⟩).nonneg
 obtain rfl:s1=false:=by
  cases s1 with
  |false=>rfl
  |true=>have:=hsg rfl;simp[sg]at hzm;omega
 obtain rfl:z=m:=by simpa [sg] using hzm
 have hzl:=hr.1
 have y2:=y1.c0
 have y3:=y1.c1
 by_cases hbig:2<l1
 ·have hgt:decide ((2:Int)<(l1:Int))=true:=by rw[decide_eq_true_iff];omega
  have hlow:=canon_low hcn o_m
  have h6:=pw_mono (show 2≤zs.length-1 by omega)
  rw[show pw 2=18446744073709551616 from by decide]at h6
  have hif:Hid (i64v z=Value.tuple #[.int .i64 0,.bool false]):=hide (if_neg o_m)
  clear hr hcn hlow h6 hv hsg hzm
  go_wp2
  exact bodyPost_ret (results_tmp2 rfl _ _ _) rfl ⟨by rw[hif.out];rfl,k2.out⟩
 have hgt:decide ((2:Int)<(l1:Int))=false:=by rw[decide_eq_false_iff_not];omega
 have B0:=lz_bd hcn.1 0
 have B1:=lz_bd hcn.1 1
 have hc: ∀i:Nat,i<l1→∃b off,a1=some ⟨b,off,none⟩∧w2.cell? ⟨b,off+i,none⟩=some (.int .u32 (lz zs i)):=fun i hi=>by
  obtain⟨_,_,_,_,h5⟩:=hr
  rcases h5 with⟨_,h6,_⟩|⟨a',rfl,h6|⟨b,off,rfl,_,hc⟩⟩
  ·omega
  ·omega
  exact⟨b,off,rfl,hc i hi⟩
 have hval:z=vl zs l1:=by rw[←hv,←hzl];rfl
 clear hr hv hsg hzm hcn
 rcases(show l1=0∨l1=1∨l1=2 by omega)with rfl|rfl|rfl
 ·obtain rfl:z=0:=hval
  clear hc
  go_wp2_with fail
  refine wp_loop_rounds 1 ?_
  rw[rounds_succ]
  go_wp2
  exact bodyPost_ret (results_tmp2 rfl _ _ _) rfl ⟨rfl,k2.out⟩
 ·obtain⟨b,off,rfl,d0⟩:=hc 0 o_m
  have hzx:=hide (show z=lz zs 0 by rw[hval];simp[vl,pw])
  have e0:=or_zero _ B0.1 (show lz zs 0<18446744073709551616 by omega)
  generalize lz zs 0=x at*
  rw[Nat.add_zero]at d0
  have hif:Hid (i64v x=Value.tuple #[.int .i64 x,.bool true]):=hide (if_pos o_m)
  replace e0:=hide e0
  clear hc hval
  go_wp2_with fail
  refine wp_loop_rounds 2 ?_
  rw[rounds_succ]
  go_wp2_with fail
  rw[e0.out]
  have hd:decide ((9223372036854775808:Int)≤x)=false:=by rw[decide_eq_false_iff_not];omega
  have hwr:wrap64 x=x:=by unfold wrap64;omega
  rw[rounds_succ]
  go_wp2
  refine bodyPost_ret (results_tmp2 rfl _ _ _) rfl ⟨?_,k2.out⟩
  show Ending.returned (.tuple #[.int .i64 x,.bool true])=Ending.returned (i64v z)
  rw[hzx.out,hif.out]
 obtain⟨b,off,rfl,d1⟩:=hc 1 o_m
 obtain⟨_,_,e9,d0⟩:=hc 0 o_m
 cases e9
 have e1:vl zs 1=lz zs 0:=by simp[vl,pw]
 have e2:z=lz zs 0+lz zs 1*4294967296:=by rw[hval,vl_succ,e1];simp[pw]
 have e0:=or_zero _ B1.1 (show lz zs 1<18446744073709551616 by omega)
 have e3:=or_lo _ _ B0.1 B0.2 B1.1 B1.2
 rw[←e2]at e3
 clear e1
 generalize lz zs 0=x at*
 generalize lz zs 1=y at*
 rw[Nat.add_zero]at d0
 have hsh:Hid (IntKind.u64.wrap (y*4294967296)=y*4294967296):=hide (by rw[IntKind.wrap_u64];omega)
 replace e0:=hide e0
 replace e3:=hide e3
 have e2':=hide e2
 clear hc hval e2
 go_wp2_with fail
 refine wp_loop_rounds 3 ?_
 rw[rounds_succ]
 go_wp2_with fail
 rw[e0.out,rounds_succ]
 go_wp2_with fail
 rw[e3.out,rounds_succ]
 by_cases hz1:z≤9223372036854775807
 ·have hif:Hid (i64v z=Value.tuple #[.int .i64 z,.bool true]):=hide (if_pos hz1)
  have hd:decide ((9223372036854775808:Int)≤z)=false:=by rw[decide_eq_false_iff_not];omega
  have hwr:wrap64 z=z:=by unfold wrap64;omega
  go_wp2
  refine bodyPost_ret (results_tmp2 rfl _ _ _) rfl ⟨?_,k2.out⟩
  show Ending.returned (.tuple #[.int .i64 z,.bool true])=Ending.returned (i64v z)
  rw[hif.out]
 have hif:Hid (i64v z=Value.tuple #[.int .i64 0,.bool false]):=hide (if_neg hz1)
 have hd:decide ((9223372036854775808:Int)≤z)=true:=by rw[decide_eq_true_iff];omega
 go_wp2
 exact bodyPost_ret (results_tmp2 rfl _ _ _) rfl ⟨by rw[hif.out];rfl,k2.out⟩
end Cr
end Go.Proofs.YtaafoppaepcaeaaGreat
