/-
 Several texts in one: YP,YS,B3,B4.
-/
import Derived.Test.YtllfelooahplhaaGreatDoorSim25
import Derived.Test.YtllfelooahplhaaGreatDoorSim26
import Derived.Test.YtllfelooahplhaaGreatDoorSim24
import Derived.Test.YtllfelooahplhaaGreatDoorSim14
set_option maxRecDepth 100000
set_option maxHeartbeats 1600000
namespace Go.Proofs.YtllfelooahplhaaGreatDoor
open Go.RowKit Go.Sort Go.Shelf
open Tm

theorem TN.pn {w w':World}{ad:Option Addr}{n:Nat}{s:Bool}{a:Option Addr}{l c:Nat}{rs:List Raw}{k:Int}{B:Nat}(h:TN w w' ad n s a l c rs k B):Pn w' ad n (rs.map Raw.p) B:=by
 obtain⟨w1,h1,h2,⟨h3,h4⟩,_⟩:=h
 refine⟨by simpa using h3,?_⟩
 rcases h4 with⟨_,h4⟩|⟨g,e,hg,hlt,h4⟩
 ·exact .inl h4
 refine .inr ⟨g,0,e,hlt,fun i hi=> ?_⟩
 have hi':i<rs.length:=by simpa using hi
 obtain⟨⟨c0,c1,c2⟩,_,hz,hl,hv⟩:=h4 i hi'
 rw[List.getElem_map,Nat.zero_add]
 exact⟨_,_,_,_,c0,c1,c2,hz.below h2,hl,hv⟩

theorem std_lays (ps:List (Int × Int)):Std (nz (lays [] ps)):=std_nz (rise_lays ps (by simp[Rise]))
theorem csum_nzl (ps:List (Int × Int))(v:Int):csum (nz (lays [] ps)) v=csum ps v:=by rw[csum_nz,csum_lays];simp[csum]
theorem lays_eq {ps qs:List (Int × Int)}(h:Std qs)(hc: ∀v,csum qs v=csum ps v):qs=nz (lays [] ps):=std_unique h (std_lays ps) fun v=>(hc v).trans (csum_nzl ps v).symm
theorem Pn.tb {w w':World}{p:Nat}{ad0:Option Addr}{n0 cp0:Nat}{s0:Bool}{a0:Option Addr}{l0 c0:Nat}{ad:Option Addr}{n:Nat}{ps:List (Int × Int)}{B:Nat}(h:Pn w ad n ps B)(y:TB w p ad0 n0 cp0 s0 a0 l0 c0)(hg:w.grownBy w' (some p)):Pn w' ad n ps B:=by
 refine⟨h.1,?_⟩
 rcases h.2 with h2|⟨b,off,e,hb,h2⟩
 ·exact .inl h2
 by_cases h0:ps.length=0
 ·exact .inl (h.1.symm.trans h0)
 refine .inr ⟨b,off,e,Nat.lt_of_lt_of_le hb hg.size,fun i hi=> ?_⟩
 obtain⟨s,a,l,c,e0,e1,e2,hz,hl⟩:=h2 i hi
 have hne:b≠p:=by
  intro e
  subst e
  rw[cell_of_row w b _ _ _ (0,0) y]at e0
  match hk:off+i*3,e0 with
  |0,e0=>simp at e0
  |1,e0=>simp at e0
  |2,e0=>simp at e0
  |k+3,e0=>simp at e0
 have eb:w'.heap[b]? =w.heap[b]?:=hg.block b hb (by simpa using hne)
 exact⟨s,a,l,c,(World.cell?_of_block (a:=⟨b,off+i*3,none⟩) eb).trans e0,(World.cell?_of_block (a:=⟨b,off+i*3+1,none⟩) eb).trans e1,(World.cell?_of_block (a:=⟨b,off+i*3+2,none⟩) eb).trans e2,hz.grownU hg (tb_noU y),hl⟩
end Go.Proofs.YtllfelooahplhaaGreatDoor

namespace Go.Proofs.YtllfelooahplhaaGreatDoor
open Go.RowKit Go.Sort Go.Shelf
open Tm At

variable {w:World}{b l c l2 c2 n B:Nat}{s s2:Bool}{a a2:Option Addr}{z d:Int}
theorem mod1_n (y:ZB w b s2 a2 l2 c2)(hz:Zm w s a l c z)(hd:Zm w s2 a2 l2 c2 d)(hl:l≤1099511627776)(hl2:l2≤1099511627776)(h0:0<d):
  Calls Tryz.prog 204 (#[.agg #[.bool s,.slice a l c]]++ #[.pointer (some ⟨b,0,none⟩)]) w fun e w'=> ∃s' a' l' c',e= .returned (.agg #[.bool s',.slice a' l' c'])∧Zn w' s' a' l' c' (z%d)∧Below w.heap.size w w'∧l'≤l2:=by
 show Calls Tryz.prog 204 #[.agg #[.bool s,.slice a l c],.pointer (some ⟨b,0,none⟩)] w _
 go_enter Tryz.func204,Tryz.ntmps204
 have y0:=y.c0
 have y1:=y.c1
 have hbl:=y.lt
 go_wp2_with fail
 have r0:=zb_new (w.alloc (.cells #[.bool s,.slice a l c] 45)) false none 0 0
 have b0:Below w.heap.size w ((w.alloc (.cells #[.bool s,.slice a l c] 45)).alloc (.cells #[.bool false,.slice none 0 0] 45)):=below_alloc' (below_alloc _ _) _
 rw[show(w.alloc (.cells #[.bool s,.slice a l c] 45)).heap.size=w.heap.size+1 from by simp]at r0
 generalize (w.alloc (.cells #[.bool s,.slice a l c] 45)).alloc (.cells #[.bool false,.slice none 0 0] 45)=wb at*
 have hr:w.heap.size≤w.heap.size+1:=by omega
 generalize w.heap.size+1=r at*
 refine(remainder_n (hz.below b0) (hd.below b0) hl hl2 h0).mono ?_
 rintro e w1 ⟨s',a',l',c',rfl,hz1,k1,hl1⟩
 have r1:=r0.below k1
 have r2:=r1.c0
 have r3:=r1.c1
 have r4:=r1.f 0
 have r5:=r1.f 1
 have hzf:=hide (zb_zn r1 hz1 s' a' l' c')
 have kf:=hide (((grow_step k1 b0).setCell (p:=⟨r,0,none⟩) hr (.bool s')).setCell (p:=⟨r,1,none⟩) hr (.slice a' l' c'))
 clear y0 y1 k1 b0
 go_wp2
 refine bodyPost_ret (results_cell_row rfl _ _ r 45 _ (0,0) _ rfl (zb_fin r1 s' a' l' c') Tryz.underlying45 rfl k_f) rfl ?_
 exact⟨s',a',l',c',by simp,hzf.out,kf.out,hl1⟩
theorem less1_n (y:ZB w b s2 a2 l2 c2)(hz:Zm w s a l c z)(hd:Zm w s2 a2 l2 c2 d)(hl:l≤1099511627776)(hl2:l2≤1099511627776)(h0:0<d):
  Calls Tryz.prog 147 (#[.agg #[.bool s,.slice a l c]]++ #[.pointer (some ⟨b,0,none⟩)]) w fun e w'=> ∃s' a' l' c',e= .returned (.agg #[.bool s',.slice a' l' c'])∧Zn w' s' a' l' c' (z / d)∧Below w.heap.size w w'∧l'≤l+3:=by
 show Calls Tryz.prog 147 #[.agg #[.bool s,.slice a l c],.pointer (some ⟨b,0,none⟩)] w _
 go_enter Tryz.func147,Tryz.ntmps147
 have y0:=y.c0
 have y1:=y.c1
 have hbl:=y.lt
 go_wp2_with fail
 have r0:=zb_new (w.alloc (.cells #[.bool s,.slice a l c] 45)) false none 0 0
 have b0:Below w.heap.size w ((w.alloc (.cells #[.bool s,.slice a l c] 45)).alloc (.cells #[.bool false,.slice none 0 0] 45)):=below_alloc' (below_alloc _ _) _
 rw[show(w.alloc (.cells #[.bool s,.slice a l c] 45)).heap.size=w.heap.size+1 from by simp]at r0
 generalize (w.alloc (.cells #[.bool s,.slice a l c] 45)).alloc (.cells #[.bool false,.slice none 0 0] 45)=wb at*
 have hr:w.heap.size≤w.heap.size+1:=by omega
 generalize w.heap.size+1=r at*
 refine(quotient_n (hz.below b0) (hd.below b0) hl hl2 h0).mono ?_
 rintro e w1 ⟨s',a',l',c',rfl,hz1,k1,hl1⟩
 have r1:=r0.below k1
 have r2:=r1.c0
 have r3:=r1.c1
 have r4:=r1.f 0
 have r5:=r1.f 1
 have hzf:=hide (zb_zn r1 hz1 s' a' l' c')
 have kf:=hide (((grow_step k1 b0).setCell (p:=⟨r,0,none⟩) hr (.bool s')).setCell (p:=⟨r,1,none⟩) hr (.slice a' l' c'))
 clear y0 y1 k1 b0
 go_wp2
 refine bodyPost_ret (results_cell_row rfl _ _ r 45 _ (0,0) _ rfl (zb_fin r1 s' a' l' c') Tryz.underlying45 rfl k_f) rfl ?_
 exact⟨s',a',l',c',by simp,hzf.out,kf.out,hl1⟩
theorem divi1_n (y:ZB w b s2 a2 l2 c2)(hz:Zm w s a l c z)(hd:Zm w s2 a2 l2 c2 d)(hl:l≤1099511627776)(hl2:l2≤1099511627776)(h0:0<d):
  Calls Tryz.prog 175 (#[.agg #[.bool s,.slice a l c]]++ #[.pointer (some ⟨b,0,none⟩)]) w fun e w'=> ∃s' a' l' c',e= .returned (.agg #[.bool s',.slice a' l' c'])∧Zn w' s' a' l' c' (z / d)∧Below w.heap.size w w'∧l'≤l+3:=by
 show Calls Tryz.prog 175 #[.agg #[.bool s,.slice a l c],.pointer (some ⟨b,0,none⟩)] w _
 go_enter Tryz.func175,Tryz.ntmps175
 have y0:=y.c0
 have y1:=y.c1
 have hbl:=y.lt
 go_wp2_with fail
 have r0:=zb_new (w.alloc (.cells #[.bool s,.slice a l c] 45)) false none 0 0
 have b0:Below w.heap.size w ((w.alloc (.cells #[.bool s,.slice a l c] 45)).alloc (.cells #[.bool false,.slice none 0 0] 45)):=below_alloc' (below_alloc _ _) _
 rw[show(w.alloc (.cells #[.bool s,.slice a l c] 45)).heap.size=w.heap.size+1 from by simp]at r0
 generalize (w.alloc (.cells #[.bool s,.slice a l c] 45)).alloc (.cells #[.bool false,.slice none 0 0] 45)=wb at*
 have hr:w.heap.size≤w.heap.size+1:=by omega
 generalize w.heap.size+1=r at*
 refine(quotient_n (hz.below b0) (hd.below b0) hl hl2 h0).mono ?_
 rintro e w1 ⟨s',a',l',c',rfl,hz1,k1,hl1⟩
 have r1:=r0.below k1
 have r2:=r1.c0
 have r3:=r1.c1
 have r4:=r1.f 0
 have r5:=r1.f 1
 have hzf:=hide (zb_zn r1 hz1 s' a' l' c')
 have kf:=hide (((grow_step k1 b0).setCell (p:=⟨r,0,none⟩) hr (.bool s')).setCell (p:=⟨r,1,none⟩) hr (.slice a' l' c'))
 clear y0 y1 k1 b0
 go_wp2
 refine bodyPost_ret (results_cell_row rfl _ _ r 45 _ (0,0) _ rfl (zb_fin r1 s' a' l' c') Tryz.underlying45 rfl k_f) rfl ?_
 exact⟨s',a',l',c',by simp,hzf.out,kf.out,hl1⟩

theorem modulo_n {ad:Option Addr}{cp:Nat}{ps:List (Int × Int)}{k:Int}(hP:Pr w ad n ps B)(hz:Zm w s a l c k)(hl:l≤B)(hd:Zm w s2 a2 l2 c2 d)(h0:0<d)(hn:n≤268435456)(hB:B≤1099511627776)(hl2:l2≤1099511627776):
  Calls Tryz.prog 174 #[.agg #[.slice ad n cp,.bool s,.slice a l c],.agg #[.bool s2,.slice a2 l2 c2]] w fun e w'=> ∃ad' n' cp' s' a' l' c',e= .returned (.agg #[.slice ad' n' cp',.bool s',.slice a' l' c'])∧Pn w' ad' n' (eachP (fun x=>x%d) ps) l2∧Zn w' s' a' l' c' (k%d)∧l'≤l2∧n'≤n∧(∀b off,ad'=some ⟨b,off,none⟩→w.heap.size≤b)∧Below w.heap.size w w':=by
 have eg: ∀args w,(callFunc 204 args).run Tryz.prog w= .ok (.enter 204 args) w:=enters_of Tryz.func204 k_f rfl
 go_enter Tryz.func174,Tryz.ntmps174
 go_wp2_with fail
 have yd:=(zb_new (w.alloc (.cells #[.slice ad n cp,.bool s,.slice a l c] 47)) s2 a2 l2 c2).below (below_alloc _ (.cells #[.slice none 0 0,.bool false,.slice none 0 0] 47))
 have yr:=tb_new ((w.alloc (.cells #[.slice ad n cp,.bool s,.slice a l c] 47)).alloc (.cells #[.bool s2,.slice a2 l2 c2] 45)) none 0 0 false none 0 0
 have b0:Below w.heap.size w (((w.alloc (.cells #[.slice ad n cp,.bool s,.slice a l c] 47)).alloc (.cells #[.bool s2,.slice a2 l2 c2] 45)).alloc (.cells #[.slice none 0 0,.bool false,.slice none 0 0] 47)):=below_alloc' (below_alloc' (below_alloc _ _) _) _
 rw[show(w.alloc (.cells #[.slice ad n cp,.bool s,.slice a l c] 47)).heap.size=w.heap.size+1 from by simp]at yd
 rw[show((w.alloc (.cells #[.slice ad n cp,.bool s,.slice a l c] 47)).alloc (.cells #[.bool s2,.slice a2 l2 c2] 45)).heap.size=w.heap.size+1+1 from by simp]at yr
 generalize ((w.alloc (.cells #[.slice ad n cp,.bool s,.slice a l c] 47)).alloc (.cells #[.bool s2,.slice a2 l2 c2] 45)).alloc (.cells #[.slice none 0 0,.bool false,.slice none 0 0] 47)=wb at*
 have hr:w.heap.size≤w.heap.size+1+1:=by omega
 replace hP:=hP.below b0
 replace hz:=hz.below b0
 replace hd:=hd.below b0
 generalize w.heap.size+1+1=r at*
 generalize w.heap.size+1=q at*
 refine(each_n (F:=fun x=>x%d) (C:=l2) (B:=B) eg (fun w' s5 a5 l5 c5 z5 hb5 hz5 hl5=>mod1_n (yd.below hb5) hz5 (hd.below hb5) o_m hl2 h0) hP hz hl hn hl2).mono ?_
 rintro e w1 ⟨ad1,n1,cp1,s1,a1,l1,c1,rfl,hP1,hz1,hl1,hn1,hnew,k1⟩
 have y5:=yr.below k1
 have y0:=y5.c0
 have y1:=y5.c1
 have y2:=y5.c2
 have y3:=y5.f 0
 have y4:=y5.f 1
 have y6:=y5.f 2
 have g:=tb_set w1 r (.slice ad1 n1 cp1) (.bool s1) (.slice a1 l1 c1)
 have hzf:=hide (hz1.grownU g (tb_noU y5))
 have hPf:=hide (hP1.tb y5 g)
 have kf:=hide (below_grown (grow_step k1 b0) g hr)
 have hnew':=hide (fun(b off:Nat) (e:ad1=some ⟨b,off,none⟩)=>Nat.le_trans b0.size (hnew b off e))
 clear g k1 b0 eg hnew
 go_wp2
 refine bodyPost_ret (results_cell_row rfl _ _ r 47 _ (0,0) _ rfl (tb_fin y5 ad1 n1 cp1 s1 a1 l1 c1) Tryz.underlying47 rfl k_f) rfl ?_
 exact⟨ad1,n1,cp1,s1,a1,l1,c1,by simp,hPf.out,hzf.out,hl1,hn1,hnew'.out,kf.out⟩

theorem getD_at {N:List Raw}{i:Nat}(h:i<N.length):N.getD i zr=N[i]:=by simp[List.getElem?_eq_getElem h]
def encN (x:Raw):List Value:=[.bool x.s,.slice x.a x.l x.c]
def okN (w:World)(B:Nat)(x:Raw):Prop:=Zm w x.s x.a x.l x.c x.z∧x.l≤B
theorem okN.below {w':World}{x:Raw}(h:okN w B x)(hb:Below w.heap.size w w'):okN w' B x:=⟨h.1.below hb,h.2⟩
theorem info2 :(Tryz.prog.info? 45).map (fun i=>(i.zero,i.size,i.bytes))=some (some (.agg #[.bool false,.slice none 0 0]),2,32):=by kernel_rfl
theorem two_one (s:Bool)(a:Option Addr)(l c:Nat): ∀u∈ [Value.bool s,.slice a l c],u.oneCell'=true:=by
 intro u h
 simp at h
 rcases h with rfl|rfl <;> rfl
theorem two_new (w:World)(s:Bool)(a:Option Addr)(l c:Nat): ∀j u,[Value.bool s,.slice a l c][j]? =some u→(w.alloc (.cells #[.bool s,.slice a l c] 45)).cell? ((⟨w.heap.size,0,none⟩:Addr).add j)=some u:=by
 intro j u h
 have y:=zb_new w s a l c
 match j,h with
 |0,h=>simp at h;subst h;exact y.c0
 |1,h=>simp at h;subst h;exact y.c1
 |j+2,h=>simp at h
theorem flatN_get (xs:List Raw): ∀(i c:Nat) (h:i<xs.length),c<2→(xs.flatMap encN)[i*2+c]? =(encN (xs[i]))[c]?:=by
 induction xs with
 |nil=>intro i c h;simp at h
 |cons x xs ih=>
  intro i c h hc
  rw[List.flatMap_cons]
  match i,h with
  |0,_=>rw[List.getElem?_append_left (by simp[encN];omega)];simp
  |i+1,h=>
   rw[List.getElem?_append_right (by simp[encN];omega),show(i+1)*2+c-(encN x).length=i*2+c by simp[encN];omega]
   exact ih i c (by simpa using h) hc
theorem row_zl {base:Nat}{v:Value}{N:List Raw}(h:w.ownsRow base 45 2 v n (N.flatMap encN))(hn:N.length=n)(hok: ∀x∈N,okN w B x)(hB:B≤4294967296)(h0:0<w.heap.size):
  ∃(adl:Option Addr) (cap b:Nat),v= .slice adl n cap∧(0<n→adl=some ⟨b,0,none⟩)∧ZL w b 0 n (fun i=>(N.getD i zr).s) (fun i=>(N.getD i zr).a) (fun i=>(N.getD i zr).l) (fun i=>(N.getD i zr).c) (fun i=>((N.getD i zr).z.natAbs:Int)):=by
 have hnm: ∀i,i<n→Nm w (N.getD i zr).a (N.getD i zr).l (N.getD i zr).c ((N.getD i zr).z.natAbs:Int)∧(N.getD i zr).l≤4294967296:=fun i hi=>by
  have hm:N.getD i zr∈N:=by rw[getD_at o_m];exact List.getElem_mem _
  obtain⟨⟨m,hN,hz⟩,hl⟩:=hok _ hm
  have h0:=hN.nonneg
  refine⟨?_,by omega⟩
  rw[hz,show((sg (N.getD i zr).s m).natAbs:Int)=m by cases (N.getD i zr).s <;> simp[sg] <;> omega]
  exact hN
 rcases h.2 with⟨rfl,rfl⟩|⟨g,cap,cur,rfl,hg,hcur,hsz,hcap,hm,htake⟩
 ·exact⟨none,0,0,rfl,fun h=>by omega,⟨h0,fun i hi=>by omega,fun i hi=>by omega,fun i hi=>by omega,fun i hi=>by omega⟩⟩
 have hc: ∀i c,i<n→c<2→w.cell? ⟨g,0+i*2+c,none⟩=(encN (N.getD i zr))[c]?:=fun i c hi hc=>by
  have e:(cur.toList.take (n*2))[i*2+c]? =(encN (N.getD i zr))[c]?:=by rw[htake,flatN_get N i c o_m hc,getD_at o_m]
  rw[List.getElem?_take,if_pos o_m]at e
  rw[cell_of_row w g _ _ _ (0,0) hcur,Nat.zero_add]
  simpa using e
 refine⟨_,cap,g,rfl,fun _=>rfl,⟨(Array.getElem?_eq_some_iff.1 hcur).1,fun i hi=>by have:=hc i 0 hi o_m;simpa [encN] using this,fun i hi=>by have:=hc i 1 hi o_m;simpa [encN] using this,fun i hi=>(hnm i hi).1,fun i hi=>(hnm i hi).2⟩⟩
def gcdZ (zs:List Int):Nat:=zs.foldl (fun g z=>Nat.gcd g z.natAbs) 0
theorem fold_gcd (N:List Raw): ∀n,n≤N.length→fold gcdI 0 (fun i=>((N.getD i zr).z.natAbs:Int)) n=(gcdZ ((N.take n).map Raw.z):Int):=by
 intro n
 induction n with
 |zero=>intro _;rfl
 |succ n ih=>
  intro h
  rw[List.take_succ_eq_append_getElem o_m,List.map_append]
  simp only[fold]
  rw[ih o_m]
  unfold gcdZ
  rw[List.foldl_append]
  simp only[List.map_cons,List.map_nil,List.foldl_cons,List.foldl_nil]
  unfold gcdI
  rw[Int.toNat_natCast,Int.toNat_natCast,getD_at o_m]
theorem foldL_le (N:List Raw)(B:Nat)(h: ∀x∈N,x.l≤B): ∀n,n≤N.length→foldL 2 (fun i=>(N.getD i zr).l) n≤n*B+2:=by
 intro n
 induction n with
 |zero=>intro _;simp[foldL]
 |succ n ih=>
  intro hn
  simp only[foldL]
  have h1:=ih o_m
  have h2:(N.getD n zr).l≤B:=by rw[getD_at o_m];exact h _ (List.getElem_mem _)
  rw[Nat.add_mul,Nat.one_mul]
  omega
theorem gcdZ_gcdL (zs:List Int)(ps:List (Int × Int)):gcdZ (zs++ps.map Prod.snd)=gcdL (gcdZ zs) ps:=by
 unfold gcdZ gcdL
 rw[List.foldl_append,List.foldl_map]

theorem common_n {w0:World}{v0:Value}{m:Nat}{N0:List Raw}{ad:Option Addr}{cp:Nat}{ps:List (Int × Int)}(hb0:Below w0.heap.size w0 w)(hP:Pr w0 ad n ps B)(hrow0:w.ownsRow w0.heap.size 45 2 v0 m (N0.flatMap encN))(hm:N0.length=m)(hok0: ∀x∈N0,okN w0 B x)(hpos:0<m+n)(hn:m+n≤262145)(hB:B≤4194000):
  Calls Tryz.prog 143 #[.agg #[.slice ad n cp,.bool s,.slice a l c],v0] w fun e w'=> ∃s' a' l' c',e= .returned (.agg #[.bool s',.slice a' l' c'])∧Zn w' s' a' l' c' (gcdL (gcdZ (N0.map Raw.z)) ps)∧l'≤(m+n)*B+2∧Below w0.heap.size w0 w':=by
 go_enter Tryz.func143,Tryz.ntmps143
 go_wp2_with fail
 have y:=zb_new (w.alloc (.cells #[.slice ad n cp,.bool s,.slice a l c] 47)) false none 0 0
 have b1:Below w0.heap.size w0 ((w.alloc (.cells #[.slice ad n cp,.bool s,.slice a l c] 47)).alloc (.cells #[.bool false,.slice none 0 0] 45)):=grow_alloc (grow_alloc hb0 _) _
 have hrow1:=(hrow0.alloc (.cells #[.slice ad n cp,.bool s,.slice a l c] 47)).alloc (.cells #[.bool false,.slice none 0 0] 45)
 rw[show(w.alloc (.cells #[.slice ad n cp,.bool s,.slice a l c] 47)).heap.size=w.heap.size+1 from by simp]at y
 generalize (w.alloc (.cells #[.slice ad n cp,.bool s,.slice a l c] 47)).alloc (.cells #[.bool false,.slice none 0 0] 45)=wb at*
 have hrb:Hid (w0.heap.size≤w.heap.size+1):=(by have:=hb0.size;omega:w0.heap.size≤w.heap.size+1)
 have hown0:Hid (∀g,v0.ownBlock=some g→g≠w.heap.size+1):=(fun g e=>by have:=(hrow0.lt g e).2;omega)
 generalize w.heap.size+1=r at*
 obtain⟨hps,hP⟩:=hP
 obtain⟨i0,hi,iz0,iz1,iz2⟩:=info_parts info2
 replace hok0:=hide hok0
 go_loopw [1,10] (fun vv i wr=> ∃(t:Nat) (N:List Raw),t≤n∧i= .int .i64 t∧N.length=m+t∧wr.ownsRow w0.heap.size 45 2 vv (m+t) (N.flatMap encN)∧Hid (∀x∈N,okN w0 B x)∧Hid (N.map Raw.z=N0.map Raw.z++(ps.take t).map Prod.snd)∧Below w0.heap.size w0 wr∧Hid (ZB wr r false none 0 0)∧Hid (∀g,vv.ownBlock=some g→g≠r)) (fun _ i _=>n-(intOf i).toNat)
 case atStart=>exact⟨0,N0,Nat.zero_le _,rfl,by omega,hrow1,hok0,(show _=_ by simp),b1,y,hown0⟩
 case round=>
  obtain⟨t,N,ht,rfl,hN,hrow,hok,hNz,kr,yr,hob⟩:=hrel
  by_cases htn:t<n
  ·rcases hP with hP|⟨bp,op,rfl,hP⟩
   ·omega
   obtain⟨s2,a2,l2,c2,e0,e1,e2,hz2,hl2,hv⟩:=(hP.below kr).2 t o_m
   obtain⟨s3,a3,l3,c3,f0,f1,f2,hz3,hl3,-⟩:=hP.2 t o_m
   have hps':Hid (ps.take (t+1)=ps.take t++ [ps[t]]):=List.take_succ_eq_append_getElem (l:=ps) (i:=t) o_m
   have hsame:s2=s3∧a2=a3∧l2=l3∧c2=c3:=by
    have g1:=e1.symm.trans ((kr.cell (p:=⟨bp,op+t*3+1,none⟩) hP.1).trans f1)
    have g2:=e2.symm.trans ((kr.cell (p:=⟨bp,op+t*3+2,none⟩) hP.1).trans f2)
    simp at g1 g2
    exact⟨g1,g2.1,g2.2.1,g2.2.2⟩
   obtain⟨rfl,rfl,rfl,rfl⟩:=hsame
   clear f0 f1 f2
   generalize ps[t]=pp at*
   have hbase:=hide (show w0.heap.size≤wr.heap.size from kr.size)
   have ka:=below_alloc wr (.cells #[.int .i64 pp.1,.bool s2,.slice a2 l2 c2] 134)
   have kb:=below_alloc (wr.alloc (.cells #[.int .i64 pp.1,.bool s2,.slice a2 l2 c2] 134)) (.cells #[.bool s2,.slice a2 l2 c2] 45)
   have kab:=hide (grow_step kb ka)
   clear ka kb
   go_wp2_with(at_builtin;refine wpList_append_own_at _ rfl _ _ 197 rfl w0.heap.size 45 i0 _ 2 32 Tryz.underlying197 hi iz0 iz1 iz2 rfl (by decide) _ _ _ rfl ((hrow.alloc _).alloc _) ⟨wr.heap.size+1,0,none⟩ 1 1 [.bool s2,.slice a2 l2 c2] rfl rfl (by simpa using two_new (wr.alloc (.cells #[.int .i64 pp.1,.bool s2,.slice a2 l2 c2] 134)) s2 a2 l2 c2) (two_one _ _ _ _) (by unfold maxLen;omega) o_m (by have:=hbase.out;simp;omega) ?_;intro v' w4 hown' hgrow hnil hat')
   have k4:Below w0.heap.size w0 w4:=(grow_step kab.out kr).grown hgrow (grow_step kab.out kr).size (fun k e=>(hrow.lt k e).1)
   have hrl:=yr.out.lt
   have y4:Hid (ZB w4 r false none 0 0):=(hgrow.block r (by simp;omega) (fun e=>hob.out r e.symm rfl)).trans ((kab.out.block r hrl).trans yr.out)
   have hob4:Hid (∀g,v'.ownBlock=some g→g≠r):=(fun g e=>by
    rcases hat' with h|h
    ·exact hob.out g (h.symm.trans e)
    rw[h]at e
    simp at e
    omega)
   refine⟨⟨t+1,N++ [⟨pp.1,s2,a2,l2,c2,pp.2⟩],by omega,by go_num,by simp;omega,?_,?_,?_,k4,y4,hob4⟩,by simp[intOf];omega⟩
   ·rw[List.flatMap_append]
    exact hown'
   ·exact fun x hx=>(List.mem_append.1 hx).elim (hok.out x) (fun h=>by rw[List.mem_singleton.1 h];exact⟨hz3,hl3⟩)
   show _=_
   rw[List.map_append,hNz.out,hps'.out,List.map_append,List.append_assoc]
   rfl
  obtain rfl:t=n:=by omega
  rw[List.take_of_length_le (Nat.le_of_eq hps)]at hNz
  have hokr: ∀x∈N,okN wr B x:=fun x hx=>(hok.out x hx).below kr
  obtain⟨adl,cap,b,rfl,had,hZL⟩:=row_zl hrow o_m hokr o_m (by have:=yr.out.lt;omega)
  obtain rfl:=had hpos
  have hfl:=foldL_le N B (fun x hx=>(hok.out x hx).2) (m+t) o_m
  have hmul:(m+t)*B≤262145*4194000:=Nat.mul_le_mul hn hB
  have hval:Hid (fold gcdI 0 (fun i=>((N.getD i zr).z.natAbs:Int)) (m+t)=(gcdL (gcdZ (N0.map Raw.z)) ps:Int)):=(show _=_ by
   rw[fold_gcd N (m+t) o_m,List.take_of_length_le o_m,hNz.out,gcdZ_gcdL])
  clear hrow hokr hP
  go_wp2_with fail
  refine(zgcd_any hZL o_m o_m).mono ?_
  rintro e w5 ⟨s5,a5,l5,c5,rfl,hz5,k5,hl5⟩
  rw[hval.out]at hz5
  have y5:=yr.out.below k5
  have r2:=y5.c0
  have r3:=y5.c1
  have r4:=y5.f 0
  have r5:=y5.f 1
  have hzf:=hide (zb_zn y5 hz5 s5 a5 l5 c5)
  have kf:=hide (((grow_step k5 kr).setCell (p:=⟨r,0,none⟩) hrb.out (.bool s5)).setCell (p:=⟨r,1,none⟩) hrb.out (.slice a5 l5 c5))
  have hlf:Hid (l5≤(m+t)*B+2):=(Nat.le_trans hl5 hfl:l5≤(m+t)*B+2)
  clear k5 hZL hfl hl5 hval hmul
  go_wp2
  refine bodyPost_ret (results_cell_row rfl _ _ r 45 _ (0,0) _ rfl (zb_fin y5 s5 a5 l5 c5) Tryz.underlying45 rfl k_f) rfl ?_
  exact⟨s5,a5,l5,c5,by simp,hzf.out,hlf.out,kf.out⟩
end Go.Proofs.YtllfelooahplhaaGreatDoor
