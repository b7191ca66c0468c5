/-
 Several texts in one: YP,YS,B3,B4,B5,B6,B7,BB,BD,BG.
-/
import Derived.Test.YtbgpddlcfiiiaaaGreatDoorSbm23
import Derived.Test.YtbgpddlcfiiiaaaGreatDoorSbm24
import Derived.Test.YtbgpddlcfiiiaaaGreatDoorSbm22
import Derived.Test.YtbgpddlcfiiiaaaGreatDoorSbm14
import Derived.Test.YtbgpddlcfiiiaaaGreatDoorSbm21
set_option maxRecDepth 100000
set_option maxHeartbeats 6400000
namespace Go.Proofs.YtbgpddlcfiiiaaaGreatDoor
open Go.RowKit Go.Sort Go.Shelf
open Tm

theorem TN.pn {w w':World}{ad:Option Addr}{n:Nat}{s:Bool}{a:Option Addr}{l c:Nat}{rs:List Raw}{k:Int}{B:Nat}(h:TN w w' ad n s a l c rs k B):Pn w' ad n (rs.map Raw.p) B:=by
 obtain⟨w1,h1,h2,⟨h3,h4⟩,_⟩:=h
 refine⟨by simpa using h3,?_⟩
 rcases h4 with⟨_,h4⟩|⟨g,e,hg,hlt,h4⟩
 ·exact .inl h4
 refine .inr ⟨g,0,e,hlt,fun i hi=> ?_⟩
 have hi':i<rs.length:=by simpa using hi
 obtain⟨⟨c0,c1,c2⟩,_,hz,hl,hv⟩:=h4 i hi'
 rw[List.getElem_map,Nat.zero_add]
 exact⟨_,_,_,_,c0,c1,c2,hz.below h2,hl,hv⟩

theorem std_lays (ps:List (Int × Int)):Std (nz (lays [] ps)):=std_nz (rise_lays ps (by simp[Rise]))
theorem csum_nzl (ps:List (Int × Int))(v:Int):csum (nz (lays [] ps)) v=csum ps v:=by rw[csum_nz,csum_lays];simp[csum]
theorem lays_eq {ps qs:List (Int × Int)}(h:Std qs)(hc: ∀v,csum qs v=csum ps v):qs=nz (lays [] ps):=std_unique h (std_lays ps) fun v=>(hc v).trans (csum_nzl ps v).symm
theorem Pn.tb {w w':World}{p:Nat}{ad0:Option Addr}{n0 cp0:Nat}{s0:Bool}{a0:Option Addr}{l0 c0:Nat}{ad:Option Addr}{n:Nat}{ps:List (Int × Int)}{B:Nat}(h:Pn w ad n ps B)(y:TB w p ad0 n0 cp0 s0 a0 l0 c0)(hg:w.grownBy w' (some p)):Pn w' ad n ps B:=by
 refine⟨h.1,?_⟩
 rcases h.2 with h2|⟨b,off,e,hb,h2⟩
 ·exact .inl h2
 by_cases h0:ps.length=0
 ·exact .inl (h.1.symm.trans h0)
 refine .inr ⟨b,off,e,Nat.lt_of_lt_of_le hb hg.size,fun i hi=> ?_⟩
 obtain⟨s,a,l,c,e0,e1,e2,hz,hl⟩:=h2 i hi
 have hne:b≠p:=by
  intro e
  subst e
  rw[cell_of_row w b _ _ _ (0,0) y]at e0
  match hk:off+i*3,e0 with
  |0,e0=>simp at e0
  |1,e0=>simp at e0
  |2,e0=>simp at e0
  |k+3,e0=>simp at e0
 have eb:w'.heap[b]? =w.heap[b]?:=hg.block b hb (by simpa using hne)
 exact⟨s,a,l,c,(World.cell?_of_block (a:=⟨b,off+i*3,none⟩) eb).trans e0,(World.cell?_of_block (a:=⟨b,off+i*3+1,none⟩) eb).trans e1,(World.cell?_of_block (a:=⟨b,off+i*3+2,none⟩) eb).trans e2,hz.grownU hg (tb_noU y),hl⟩
end Go.Proofs.YtbgpddlcfiiiaaaGreatDoor

namespace Go.Proofs.YtbgpddlcfiiiaaaGreatDoor
open Go.RowKit Go.Sort Go.Shelf
open Tm At

theorem mod1_n {w:World}{b:Nat}{s:Bool}{a:Option Addr}{l c:Nat}{z:Int}{s2:Bool}{a2:Option Addr}{l2 c2:Nat}{d:Int}(y:ZB w b s2 a2 l2 c2)(hz:Zm w s a l c z)(hd:Zm w s2 a2 l2 c2 d)(hl:l≤1099511627776)(hl2:l2≤1099511627776)(h0:0<d):
  Calls Tryz.prog 162 (#[.agg #[.bool s,.slice a l c]]++ #[.pointer (some ⟨b,0,none⟩)]) w fun e w'=> ∃s' a' l' c',e= .returned (.agg #[.bool s',.slice a' l' c'])∧Zn w' s' a' l' c' (z%d)∧Below w.heap.size w w'∧l'≤l2:=by
 show Calls Tryz.prog 162 #[.agg #[.bool s,.slice a l c],.pointer (some ⟨b,0,none⟩)] w _
 go_enter Tryz.func162,Tryz.ntmps162
 have y0:=y.c0
 have y1:=y.c1
 have hbl:=y.lt
 go_wp2_with fail
 have r0:=zb_new (w.alloc (.cells #[.bool s,.slice a l c] 26)) false none 0 0
 have b0:Below w.heap.size w ((w.alloc (.cells #[.bool s,.slice a l c] 26)).alloc (.cells #[.bool false,.slice none 0 0] 26)):=below_alloc' (below_alloc _ _) _
 rw[show(w.alloc (.cells #[.bool s,.slice a l c] 26)).heap.size=w.heap.size+1 from by simp]at r0
 generalize (w.alloc (.cells #[.bool s,.slice a l c] 26)).alloc (.cells #[.bool false,.slice none 0 0] 26)=wb at*
 have hr:w.heap.size≤w.heap.size+1:=by omega
 generalize w.heap.size+1=r at*
 refine(remainder_n (hz.below b0) (hd.below b0) hl hl2 h0).mono ?_
 rintro e w1 ⟨s',a',l',c',rfl,hz1,k1,hl1⟩
 have r1:=r0.below k1
 have r2:=r1.c0
 have r3:=r1.c1
 have r4:=r1.f 0
 have r5:=r1.f 1
 have hzf:=hide (zb_zn r1 hz1 s' a' l' c')
 have kf:=hide (((grow_step k1 b0).setCell (p:=⟨r,0,none⟩) hr (.bool s')).setCell (p:=⟨r,1,none⟩) hr (.slice a' l' c'))
 clear y0 y1 k1 b0
 go_wp2
 refine bodyPost_ret (results_cell_row rfl _ _ r 26 _ (0,0) _ rfl (zb_fin r1 s' a' l' c') Tryz.underlying26 rfl k_f) rfl ?_
 exact⟨s',a',l',c',by simp,hzf.out,kf.out,hl1⟩
theorem less1_n {w:World}{b:Nat}{s:Bool}{a:Option Addr}{l c:Nat}{z:Int}{s2:Bool}{a2:Option Addr}{l2 c2:Nat}{d:Int}(y:ZB w b s2 a2 l2 c2)(hz:Zm w s a l c z)(hd:Zm w s2 a2 l2 c2 d)(hl:l≤1099511627776)(hl2:l2≤1099511627776)(h0:0<d):
  Calls Tryz.prog 130 (#[.agg #[.bool s,.slice a l c]]++ #[.pointer (some ⟨b,0,none⟩)]) w fun e w'=> ∃s' a' l' c',e= .returned (.agg #[.bool s',.slice a' l' c'])∧Zn w' s' a' l' c' (z / d)∧Below w.heap.size w w'∧l'≤l+3:=by
 show Calls Tryz.prog 130 #[.agg #[.bool s,.slice a l c],.pointer (some ⟨b,0,none⟩)] w _
 go_enter Tryz.func130,Tryz.ntmps130
 have y0:=y.c0
 have y1:=y.c1
 have hbl:=y.lt
 go_wp2_with fail
 have r0:=zb_new (w.alloc (.cells #[.bool s,.slice a l c] 26)) false none 0 0
 have b0:Below w.heap.size w ((w.alloc (.cells #[.bool s,.slice a l c] 26)).alloc (.cells #[.bool false,.slice none 0 0] 26)):=below_alloc' (below_alloc _ _) _
 rw[show(w.alloc (.cells #[.bool s,.slice a l c] 26)).heap.size=w.heap.size+1 from by simp]at r0
 generalize (w.alloc (.cells #[.bool s,.slice a l c] 26)).alloc (.cells #[.bool false,.slice none 0 0] 26)=wb at*
 have hr:w.heap.size≤w.heap.size+1:=by omega
 generalize w.heap.size+1=r at*
 refine(quotient_n (hz.below b0) (hd.below b0) hl hl2 h0).mono ?_
 rintro e w1 ⟨s',a',l',c',rfl,hz1,k1,hl1⟩
 have r1:=r0.below k1
 have r2:=r1.c0
 have r3:=r1.c1
 have r4:=r1.f 0
 have r5:=r1.f 1
 have hzf:=hide (zb_zn r1 hz1 s' a' l' c')
 have kf:=hide (((grow_step k1 b0).setCell (p:=⟨r,0,none⟩) hr (.bool s')).setCell (p:=⟨r,1,none⟩) hr (.slice a' l' c'))
 clear y0 y1 k1 b0
 go_wp2
 refine bodyPost_ret (results_cell_row rfl _ _ r 26 _ (0,0) _ rfl (zb_fin r1 s' a' l' c') Tryz.underlying26 rfl k_f) rfl ?_
 exact⟨s',a',l',c',by simp,hzf.out,kf.out,hl1⟩
theorem divi1_n {w:World}{b:Nat}{s:Bool}{a:Option Addr}{l c:Nat}{z:Int}{s2:Bool}{a2:Option Addr}{l2 c2:Nat}{d:Int}(y:ZB w b s2 a2 l2 c2)(hz:Zm w s a l c z)(hd:Zm w s2 a2 l2 c2 d)(hl:l≤1099511627776)(hl2:l2≤1099511627776)(h0:0<d):
  Calls Tryz.prog 134 (#[.agg #[.bool s,.slice a l c]]++ #[.pointer (some ⟨b,0,none⟩)]) w fun e w'=> ∃s' a' l' c',e= .returned (.agg #[.bool s',.slice a' l' c'])∧Zn w' s' a' l' c' (z / d)∧Below w.heap.size w w'∧l'≤l+3:=by
 show Calls Tryz.prog 134 #[.agg #[.bool s,.slice a l c],.pointer (some ⟨b,0,none⟩)] w _
 go_enter Tryz.func134,Tryz.ntmps134
 have y0:=y.c0
 have y1:=y.c1
 have hbl:=y.lt
 go_wp2_with fail
 have r0:=zb_new (w.alloc (.cells #[.bool s,.slice a l c] 26)) false none 0 0
 have b0:Below w.heap.size w ((w.alloc (.cells #[.bool s,.slice a l c] 26)).alloc (.cells #[.bool false,.slice none 0 0] 26)):=below_alloc' (below_alloc _ _) _
 rw[show(w.alloc (.cells #[.bool s,.slice a l c] 26)).heap.size=w.heap.size+1 from by simp]at r0
 generalize (w.alloc (.cells #[.bool s,.slice a l c] 26)).alloc (.cells #[.bool false,.slice none 0 0] 26)=wb at*
 have hr:w.heap.size≤w.heap.size+1:=by omega
 generalize w.heap.size+1=r at*
 refine(quotient_n (hz.below b0) (hd.below b0) hl hl2 h0).mono ?_
 rintro e w1 ⟨s',a',l',c',rfl,hz1,k1,hl1⟩
 have r1:=r0.below k1
 have r2:=r1.c0
 have r3:=r1.c1
 have r4:=r1.f 0
 have r5:=r1.f 1
 have hzf:=hide (zb_zn r1 hz1 s' a' l' c')
 have kf:=hide (((grow_step k1 b0).setCell (p:=⟨r,0,none⟩) hr (.bool s')).setCell (p:=⟨r,1,none⟩) hr (.slice a' l' c'))
 clear y0 y1 k1 b0
 go_wp2
 refine bodyPost_ret (results_cell_row rfl _ _ r 26 _ (0,0) _ rfl (zb_fin r1 s' a' l' c') Tryz.underlying26 rfl k_f) rfl ?_
 exact⟨s',a',l',c',by simp,hzf.out,kf.out,hl1⟩

theorem modulo_n {w:World}{ad:Option Addr}{n cp:Nat}{s:Bool}{a:Option Addr}{l c:Nat}{ps:List (Int × Int)}{k:Int}{s2:Bool}{a2:Option Addr}{l2 c2:Nat}{d:Int}{B:Nat}(hP:Pr w ad n ps B)(hz:Zm w s a l c k)(hl:l≤B)(hd:Zm w s2 a2 l2 c2 d)(h0:0<d)(hn:n≤268435456)(hB:B≤1099511627776)(hl2:l2≤1099511627776):
  Calls Tryz.prog 132 #[.agg #[.slice ad n cp,.bool s,.slice a l c],.agg #[.bool s2,.slice a2 l2 c2]] w fun e w'=> ∃ad' n' cp' s' a' l' c',e= .returned (.agg #[.slice ad' n' cp',.bool s',.slice a' l' c'])∧Pn w' ad' n' (eachP (fun x=>x%d) ps) l2∧Zn w' s' a' l' c' (k%d)∧l'≤l2∧n'≤n∧(∀b off,ad'=some ⟨b,off,none⟩→w.heap.size≤b)∧Below w.heap.size w w':=by
 have eg: ∀args w,(callFunc 162 args).run Tryz.prog w= .ok (.enter 162 args) w:=enters_of Tryz.func162 k_f rfl
 go_enter Tryz.func132,Tryz.ntmps132
 go_wp2_with fail
 have yd:=(zb_new (w.alloc (.cells #[.slice ad n cp,.bool s,.slice a l c] 28)) s2 a2 l2 c2).below (below_alloc _ (.cells #[.slice none 0 0,.bool false,.slice none 0 0] 28))
 have yr:=tb_new ((w.alloc (.cells #[.slice ad n cp,.bool s,.slice a l c] 28)).alloc (.cells #[.bool s2,.slice a2 l2 c2] 26)) none 0 0 false none 0 0
 have b0:Below w.heap.size w (((w.alloc (.cells #[.slice ad n cp,.bool s,.slice a l c] 28)).alloc (.cells #[.bool s2,.slice a2 l2 c2] 26)).alloc (.cells #[.slice none 0 0,.bool false,.slice none 0 0] 28)):=below_alloc' (below_alloc' (below_alloc _ _) _) _
 rw[show(w.alloc (.cells #[.slice ad n cp,.bool s,.slice a l c] 28)).heap.size=w.heap.size+1 from by simp]at yd
 rw[show((w.alloc (.cells #[.slice ad n cp,.bool s,.slice a l c] 28)).alloc (.cells #[.bool s2,.slice a2 l2 c2] 26)).heap.size=w.heap.size+1+1 from by simp]at yr
 generalize ((w.alloc (.cells #[.slice ad n cp,.bool s,.slice a l c] 28)).alloc (.cells #[.bool s2,.slice a2 l2 c2] 26)).alloc (.cells #[.slice none 0 0,.bool false,.slice none 0 0] 28)=wb at*
 have hr:w.heap.size≤w.heap.size+1+1:=by omega
 replace hP:=hP.below b0
 replace hz:=hz.below b0
 replace hd:=hd.below b0
 generalize w.heap.size+1+1=r at*
 generalize w.heap.size+1=q at*
 refine(each_n (F:=fun x=>x%d) (C:=l2) (B:=B) eg (fun w' s5 a5 l5 c5 z5 hb5 hz5 hl5=>mod1_n (yd.below hb5) hz5 (hd.below hb5) o_m hl2 h0) hP hz hl hn hl2).mono ?_
 rintro e w1 ⟨ad1,n1,cp1,s1,a1,l1,c1,rfl,hP1,hz1,hl1,hn1,hnew,k1⟩
 have y5:=yr.below k1
 have y0:=y5.c0
 have y1:=y5.c1
 have y2:=y5.c2
 have y3:=y5.f 0
 have y4:=y5.f 1
 have y6:=y5.f 2
 have g:=tb_set w1 r (.slice ad1 n1 cp1) (.bool s1) (.slice a1 l1 c1)
 have hzf:=hide (hz1.grownU g (tb_noU y5))
 have hPf:=hide (hP1.tb y5 g)
 have kf:=hide (below_grown (grow_step k1 b0) g hr)
 have hnew':=hide (fun(b off:Nat) (e:ad1=some ⟨b,off,none⟩)=>Nat.le_trans b0.size (hnew b off e))
 clear g k1 b0 eg hnew
 go_wp2
 refine bodyPost_ret (results_cell_row rfl _ _ r 28 _ (0,0) _ rfl (tb_fin y5 ad1 n1 cp1 s1 a1 l1 c1) Tryz.underlying28 rfl k_f) rfl ?_
 exact⟨ad1,n1,cp1,s1,a1,l1,c1,by simp,hPf.out,hzf.out,hl1,hn1,hnew'.out,kf.out⟩

theorem getD_at {N:List Raw}{i:Nat}(h:i<N.length):N.getD i zr=N[i]:=by simp[List.getElem?_eq_getElem h]
def encN (x:Raw):List Value:=[.bool x.s,.slice x.a x.l x.c]
def okN (w:World)(B:Nat)(x:Raw):Prop:=Zm w x.s x.a x.l x.c x.z∧x.l≤B
theorem okN.below {w w':World}{B:Nat}{x:Raw}(h:okN w B x)(hb:Below w.heap.size w w'):okN w' B x:=⟨h.1.below hb,h.2⟩
theorem info2 :(Tryz.prog.info? 26).map (fun i=>(i.zero,i.size,i.bytes))=some (some (.agg #[.bool false,.slice none 0 0]),2,32):=by kernel_rfl
theorem two_one (s:Bool)(a:Option Addr)(l c:Nat): ∀u∈ [Value.bool s,.slice a l c],u.oneCell'=true:=by
 intro u h
 simp at h
 rcases h with rfl|rfl <;> rfl
theorem two_new (w:World)(s:Bool)(a:Option Addr)(l c:Nat): ∀j u,[Value.bool s,.slice a l c][j]? =some u→(w.alloc (.cells #[.bool s,.slice a l c] 26)).cell? ((⟨w.heap.size,0,none⟩:Addr).add j)=some u:=by
 intro j u h
 have y:=zb_new w s a l c
 match j,h with
 |0,h=>simp at h;subst h;exact y.c0
 |1,h=>simp at h;subst h;exact y.c1
 |j+2,h=>simp at h
theorem flatN_get (xs:List Raw): ∀(i c:Nat) (h:i<xs.length),c<2→(xs.flatMap encN)[i*2+c]? =(encN (xs[i]))[c]?:=by
 induction xs with
 |nil=>intro i c h;simp at h
 |cons x xs ih=>
  intro i c h hc
  rw[List.flatMap_cons]
  match i,h with
  |0,_=>rw[List.getElem?_append_left (by simp[encN];omega)];simp
  |i+1,h=>
   rw[List.getElem?_append_right (by simp[encN];omega),show(i+1)*2+c-(encN x).length=i*2+c by simp[encN];omega]
   exact ih i c (by simpa using h) hc
theorem row_zl {w:World}{base n B:Nat}{v:Value}{N:List Raw}(h:w.ownsRow base 26 2 v n (N.flatMap encN))(hn:N.length=n)(hok: ∀x∈N,okN w B x)(hB:B≤4294967296)(h0:0<w.heap.size):
  ∃(adl:Option Addr) (cap b:Nat),v= .slice adl n cap∧(0<n→adl=some ⟨b,0,none⟩)∧ZL w b 0 n (fun i=>(N.getD i zr).s) (fun i=>(N.getD i zr).a) (fun i=>(N.getD i zr).l) (fun i=>(N.getD i zr).c) (fun i=>((N.getD i zr).z.natAbs:Int)):=by
 have hnm: ∀i,i<n→Nm w (N.getD i zr).a (N.getD i zr).l (N.getD i zr).c ((N.getD i zr).z.natAbs:Int)∧(N.getD i zr).l≤4294967296:=fun i hi=>by
  have hm:N.getD i zr∈N:=by rw[getD_at o_m];exact List.getElem_mem _
  obtain⟨⟨m,hN,hz⟩,hl⟩:=hok _ hm
  have h0:=hN.nonneg
  refine⟨?_,by omega⟩
  rw[hz,show((sg (N.getD i zr).s m).natAbs:Int)=m by cases (N.getD i zr).s <;> simp[sg] <;> omega]
  exact hN
 rcases h.2 with⟨rfl,rfl⟩|⟨g,cap,cur,rfl,hg,hcur,hsz,hcap,hm,htake⟩
 ·exact⟨none,0,0,rfl,fun h=>by omega,⟨h0,fun i hi=>by omega,fun i hi=>by omega,fun i hi=>by omega,fun i hi=>by omega⟩⟩
 have hc: ∀i c,i<n→c<2→w.cell? ⟨g,0+i*2+c,none⟩=(encN (N.getD i zr))[c]?:=fun i c hi hc=>by
  have e:(cur.toList.take (n*2))[i*2+c]? =(encN (N.getD i zr))[c]?:=by rw[htake,flatN_get N i c o_m hc,getD_at o_m]
  rw[List.getElem?_take,if_pos o_m]at e
  rw[cell_of_row w g _ _ _ (0,0) hcur,Nat.zero_add]
  simpa using e
 refine⟨_,cap,g,rfl,fun _=>rfl,⟨(Array.getElem?_eq_some_iff.1 hcur).1,fun i hi=>by have:=hc i 0 hi o_m;simpa [encN] using this,fun i hi=>by have:=hc i 1 hi o_m;simpa [encN] using this,fun i hi=>(hnm i hi).1,fun i hi=>(hnm i hi).2⟩⟩
def gcdZ (zs:List Int):Nat:=zs.foldl (fun g z=>Nat.gcd g z.natAbs) 0
theorem fold_gcd (N:List Raw): ∀n,n≤N.length→fold gcdI 0 (fun i=>((N.getD i zr).z.natAbs:Int)) n=(gcdZ ((N.take n).map Raw.z):Int):=by
 intro n
 induction n with
 |zero=>intro _;rfl
 |succ n ih=>
  intro h
  rw[List.take_succ_eq_append_getElem o_m,List.map_append]
  simp only[fold]
  rw[ih o_m]
  unfold gcdZ
  rw[List.foldl_append]
  simp only[List.map_cons,List.map_nil,List.foldl_cons,List.foldl_nil]
  unfold gcdI
  rw[Int.toNat_natCast,Int.toNat_natCast,getD_at o_m]
theorem foldL_le (N:List Raw)(B:Nat)(h: ∀x∈N,x.l≤B): ∀n,n≤N.length→foldL 2 (fun i=>(N.getD i zr).l) n≤n*B+2:=by
 intro n
 induction n with
 |zero=>intro _;simp[foldL]
 |succ n ih=>
  intro hn
  simp only[foldL]
  have h1:=ih o_m
  have h2:(N.getD n zr).l≤B:=by rw[getD_at o_m];exact h _ (List.getElem_mem _)
  rw[Nat.add_mul,Nat.one_mul]
  omega
theorem gcdZ_gcdL (zs:List Int)(ps:List (Int × Int)):gcdZ (zs++ps.map Prod.snd)=gcdL (gcdZ zs) ps:=by
 unfold gcdZ gcdL
 rw[List.foldl_append,List.foldl_map]

theorem common_n {w0 w:World}{v0:Value}{m:Nat}{N0:List Raw}{ad:Option Addr}{n cp:Nat}{s:Bool}{a:Option Addr}{l c:Nat}{ps:List (Int × Int)}{B:Nat}(hb0:Below w0.heap.size w0 w)(hP:Pr w0 ad n ps B)(hrow0:w.ownsRow w0.heap.size 26 2 v0 m (N0.flatMap encN))(hm:N0.length=m)(hok0: ∀x∈N0,okN w0 B x)(hpos:0<m+n)(hn:m+n≤262145)(hB:B≤4194000):
  Calls Tryz.prog 126 #[.agg #[.slice ad n cp,.bool s,.slice a l c],v0] w fun e w'=> ∃s' a' l' c',e= .returned (.agg #[.bool s',.slice a' l' c'])∧Zn w' s' a' l' c' (gcdL (gcdZ (N0.map Raw.z)) ps)∧l'≤(m+n)*B+2∧Below w0.heap.size w0 w':=by
 go_enter Tryz.func126,Tryz.ntmps126
 go_wp2_with fail
 have y:=zb_new (w.alloc (.cells #[.slice ad n cp,.bool s,.slice a l c] 28)) false none 0 0
 have b1:Below w0.heap.size w0 ((w.alloc (.cells #[.slice ad n cp,.bool s,.slice a l c] 28)).alloc (.cells #[.bool false,.slice none 0 0] 26)):=grow_alloc (grow_alloc hb0 _) _
 have hrow1:=(hrow0.alloc (.cells #[.slice ad n cp,.bool s,.slice a l c] 28)).alloc (.cells #[.bool false,.slice none 0 0] 26)
 rw[show(w.alloc (.cells #[.slice ad n cp,.bool s,.slice a l c] 28)).heap.size=w.heap.size+1 from by simp]at y
 generalize (w.alloc (.cells #[.slice ad n cp,.bool s,.slice a l c] 28)).alloc (.cells #[.bool false,.slice none 0 0] 26)=wb at*
 have hrb:Hid (w0.heap.size≤w.heap.size+1):=(by have:=hb0.size;omega:w0.heap.size≤w.heap.size+1)
 have hown0:Hid (∀g,v0.ownBlock=some g→g≠w.heap.size+1):=(fun g e=>by have:=(hrow0.lt g e).2;omega)
 generalize w.heap.size+1=r at*
 obtain⟨hps,hP⟩:=hP
 obtain⟨i0,hi,iz0,iz1,iz2⟩:=info_parts info2
 replace hok0:=hide hok0
 go_loopw [1,10] (fun vv i wr=> ∃(t:Nat) (N:List Raw),t≤n∧i= .int .i64 t∧N.length=m+t∧wr.ownsRow w0.heap.size 26 2 vv (m+t) (N.flatMap encN)∧Hid (∀x∈N,okN w0 B x)∧Hid (N.map Raw.z=N0.map Raw.z++(ps.take t).map Prod.snd)∧Below w0.heap.size w0 wr∧Hid (ZB wr r false none 0 0)∧Hid (∀g,vv.ownBlock=some g→g≠r)) (fun _ i _=>n-(intOf i).toNat)
 case atStart=>exact⟨0,N0,Nat.zero_le _,rfl,by omega,hrow1,hok0,(show _=_ by simp),b1,y,hown0⟩
 case round=>
  obtain⟨t,N,ht,rfl,hN,hrow,hok,hNz,kr,yr,hob⟩:=hrel
  by_cases htn:t<n
  ·rcases hP with hP|⟨bp,op,rfl,hP⟩
   ·omega
   obtain⟨s2,a2,l2,c2,e0,e1,e2,hz2,hl2,hv⟩:=(hP.below kr).2 t o_m
   obtain⟨s3,a3,l3,c3,f0,f1,f2,hz3,hl3,-⟩:=hP.2 t o_m
   have hps':Hid (ps.take (t+1)=ps.take t++ [ps[t]]):=List.take_succ_eq_append_getElem (l:=ps) (i:=t) o_m
   have hsame:s2=s3∧a2=a3∧l2=l3∧c2=c3:=by
    have g1:=e1.symm.trans ((kr.cell (p:=⟨bp,op+t*3+1,none⟩) hP.1).trans f1)
    have g2:=e2.symm.trans ((kr.cell (p:=⟨bp,op+t*3+2,none⟩) hP.1).trans f2)
    simp at g1 g2
    exact⟨g1,g2.1,g2.2.1,g2.2.2⟩
   obtain⟨rfl,rfl,rfl,rfl⟩:=hsame
   clear f0 f1 f2
   generalize ps[t]=pp at*
   have hbase:=hide (show w0.heap.size≤wr.heap.size from kr.size)
   have ka:=below_alloc wr (.cells #[.int .i64 pp.1,.bool s2,.slice a2 l2 c2] 117)
   have kb:=below_alloc (wr.alloc (.cells #[.int .i64 pp.1,.bool s2,.slice a2 l2 c2] 117)) (.cells #[.bool s2,.slice a2 l2 c2] 26)
   have kab:=hide (grow_step kb ka)
   clear ka kb
   go_wp2_with(at_builtin;refine wpList_append_own_at _ rfl _ _ 166 rfl w0.heap.size 26 i0 _ 2 32 Tryz.underlying166 hi iz0 iz1 iz2 rfl (by decide) _ _ _ rfl ((hrow.alloc _).alloc _) ⟨wr.heap.size+1,0,none⟩ 1 1 [.bool s2,.slice a2 l2 c2] rfl rfl (by simpa using two_new (wr.alloc (.cells #[.int .i64 pp.1,.bool s2,.slice a2 l2 c2] 117)) s2 a2 l2 c2) (two_one _ _ _ _) (by unfold maxLen;omega) o_m (by have:=hbase.out;simp;omega) ?_;intro v' w4 hown' hgrow hnil hat')
   have k4:Below w0.heap.size w0 w4:=(grow_step kab.out kr).grown hgrow (grow_step kab.out kr).size (fun k e=>(hrow.lt k e).1)
   have hrl:=yr.out.lt
   have y4:Hid (ZB w4 r false none 0 0):=(hgrow.block r (by simp;omega) (fun e=>hob.out r e.symm rfl)).trans ((kab.out.block r hrl).trans yr.out)
   have hob4:Hid (∀g,v'.ownBlock=some g→g≠r):=(fun g e=>by
    rcases hat' with h|h
    ·exact hob.out g (h.symm.trans e)
    rw[h]at e
    simp at e
    omega)
   refine⟨⟨t+1,N++ [⟨pp.1,s2,a2,l2,c2,pp.2⟩],by omega,by go_num,by simp;omega,?_,?_,?_,k4,y4,hob4⟩,by simp[intOf];omega⟩
   ·rw[List.flatMap_append]
    exact hown'
   ·exact fun x hx=>(List.mem_append.1 hx).elim (hok.out x) (fun h=>by rw[List.mem_singleton.1 h];exact⟨hz3,hl3⟩)
   show _=_
   rw[List.map_append,hNz.out,hps'.out,List.map_append,List.append_assoc]
   rfl
  obtain rfl:t=n:=by omega
  rw[List.take_of_length_le (Nat.le_of_eq hps)]at hNz
  have hokr: ∀x∈N,okN wr B x:=fun x hx=>(hok.out x hx).below kr
  obtain⟨adl,cap,b,rfl,had,hZL⟩:=row_zl hrow o_m hokr o_m (by have:=yr.out.lt;omega)
  obtain rfl:=had hpos
  have hfl:=foldL_le N B (fun x hx=>(hok.out x hx).2) (m+t) o_m
  have hmul:(m+t)*B≤262145*4194000:=Nat.mul_le_mul hn hB
  have hval:Hid (fold gcdI 0 (fun i=>((N.getD i zr).z.natAbs:Int)) (m+t)=(gcdL (gcdZ (N0.map Raw.z)) ps:Int)):=(show _=_ by
   rw[fold_gcd N (m+t) o_m,List.take_of_length_le o_m,hNz.out,gcdZ_gcdL])
  clear hrow hokr hP
  go_wp2_with fail
  refine(zgcd_any hZL o_m o_m).mono ?_
  rintro e w5 ⟨s5,a5,l5,c5,rfl,hz5,k5,hl5⟩
  rw[hval.out]at hz5
  have y5:=yr.out.below k5
  have r2:=y5.c0
  have r3:=y5.c1
  have r4:=y5.f 0
  have r5:=y5.f 1
  have hzf:=hide (zb_zn y5 hz5 s5 a5 l5 c5)
  have kf:=hide (((grow_step k5 kr).setCell (p:=⟨r,0,none⟩) hrb.out (.bool s5)).setCell (p:=⟨r,1,none⟩) hrb.out (.slice a5 l5 c5))
  have hlf:Hid (l5≤(m+t)*B+2):=(Nat.le_trans hl5 hfl:l5≤(m+t)*B+2)
  clear k5 hZL hfl hl5 hval hmul
  go_wp2
  refine bodyPost_ret (results_cell_row rfl _ _ r 26 _ (0,0) _ rfl (zb_fin y5 s5 a5 l5 c5) Tryz.underlying26 rfl k_f) rfl ?_
  exact⟨s5,a5,l5,c5,by simp,hzf.out,hlf.out,kf.out⟩

def AW (w:World)(e:Ending)(f:Atm)(B B0:Nat):Prop:=
 ∃sd ad ld cd ap np cp sk ak lk ck,e= .returned (.agg #[.int .i64 f.kind,.bool sd,.slice ad ld cd,.slice ap np cp,.bool sk,.slice ak lk ck])∧Zn w sd ad ld cd f.d∧ld≤B∧Pn w ap np f.ps B∧np≤B∧Zn w sk ak lk ck f.k∧lk≤B∧∀b off,ap=some ⟨b,off,none⟩→B0≤b

theorem ab_fin {w:World}{r:Nat}{k0:Int}{s0:Bool}{a0:Option Addr}{l0 c0:Nat}{ad0:Option Addr}{n0 cp0:Nat}{t0:Bool}{b0:Option Addr}{m0 d0:Nat}(h:w.heap[r]? =some (.cells #[.int .i64 k0,.bool s0,.slice a0 l0 c0,.slice ad0 n0 cp0,.bool t0,.slice b0 m0 d0] 57 (0,0)))(k:Int)(s:Bool)(a:Option Addr)(l c:Nat)(ad:Option Addr)(n cp:Nat)(t:Bool)(b:Option Addr)(m d:Nat):
  ((((((w.setCell ⟨r,0,none⟩ (.int .i64 k)).setCell ⟨r,1,none⟩ (.bool s)).setCell ⟨r,2,none⟩ (.slice a l c)).setCell ⟨r,3,none⟩ (.slice ad n cp)).setCell ⟨r,4,none⟩ (.bool t)).setCell ⟨r,5,none⟩ (.slice b m d)).heap[r]? =some (.cells #[.int .i64 k,.bool s,.slice a l c,.slice ad n cp,.bool t,.slice b m d] 57 (0,0)):=
 heap_setCell_same _ r 5 _ _ _ (heap_setCell_same _ r 4 _ _ _ (heap_setCell_same _ r 3 _ _ _ (heap_setCell_same _ r 2 _ _ _ (heap_setCell_same _ r 1 _ _ _ (heap_setCell_same w r 0 _ _ _ h)))))
theorem ab_noU {w:World}{r:Nat}{k0:Int}{s0:Bool}{a0:Option Addr}{l0 c0:Nat}{ad0:Option Addr}{n0 cp0:Nat}{t0:Bool}{b0:Option Addr}{m0 d0:Nat}(h:w.heap[r]? =some (.cells #[.int .i64 k0,.bool s0,.slice a0 l0 c0,.slice ad0 n0 cp0,.bool t0,.slice b0 m0 d0] 57 (0,0))):NoU w r:=by
 intro off x
 rw[cell_of_row w r off _ _ (0,0) h]
 match off with
 |0=>simp
 |1=>simp
 |2=>simp
 |3=>simp
 |4=>simp
 |5=>simp
 |k+6=>simp
theorem ab_set (w:World)(r:Nat)(v0 v1 v2 v3 v4 v5:Value):w.grownBy ((((((w.setCell ⟨r,0,none⟩ v0).setCell ⟨r,1,none⟩ v1).setCell ⟨r,2,none⟩ v2).setCell ⟨r,3,none⟩ v3).setCell ⟨r,4,none⟩ v4).setCell ⟨r,5,none⟩ v5) (some r):=
 gb_trans (gb_trans (gb_trans (gb_trans (gb_trans (gb_set w r 0 v0) (gb_set _ r 1 v1)) (gb_set _ r 2 v2)) (gb_set _ r 3 v3)) (gb_set _ r 4 v4)) (gb_set _ r 5 v5)
theorem Pn.away {w w':World}{r:Nat}{ad:Option Addr}{n:Nat}{ps:List (Int × Int)}{B:Nat}(h:Pn w ad n ps B)(hr: ∀b off,ad=some ⟨b,off,none⟩→b≠r)(hg:w.grownBy w' (some r))(hU:NoU w r):Pn w' ad n ps B:=by
 refine⟨h.1,?_⟩
 rcases h.2 with h2|⟨b,off,e,hb,h2⟩
 ·exact .inl h2
 refine .inr ⟨b,off,e,Nat.lt_of_lt_of_le hb hg.size,fun i hi=> ?_⟩
 obtain⟨s,a,l,c,e0,e1,e2,hz,hl⟩:=h2 i hi
 have eb:w'.heap[b]? =w.heap[b]?:=hg.block b hb (by simpa using hr b off e)
 exact⟨s,a,l,c,(World.cell?_of_block (a:=⟨b,off+i*3,none⟩) eb).trans e0,(World.cell?_of_block (a:=⟨b,off+i*3+1,none⟩) eb).trans e1,(World.cell?_of_block (a:=⟨b,off+i*3+2,none⟩) eb).trans e2,hz.grownU hg hU,hl⟩
theorem tq3 {w w':World}{p:Nat}{ad:Option Addr}{n cp:Nat}{s:Bool}{a:Option Addr}{l c:Nat}(x:TB w p ad n cp s a l c)(k:Below w.heap.size w w'):w'.cell? ⟨p,0,none⟩=some (.slice ad n cp)∧w'.cell? ⟨p,1,none⟩=some (.bool s)∧w'.cell? ⟨p,2,none⟩=some (.slice a l c)∧Below w.heap.size w w':=
 ⟨(x.below k).c0,(x.below k).c1,(x.below k).c2,k⟩

theorem tq7 {w w':World}{p b3 b4:Nat}{ad:Option Addr}{n cp:Nat}{s:Bool}{a:Option Addr}{l c:Nat}{s3:Bool}{a3:Option Addr}{l3 c3:Nat}{s4:Bool}{a4:Option Addr}{l4 c4:Nat}(x:TB w p ad n cp s a l c)(z3:ZB w b3 s3 a3 l3 c3)(z4:ZB w b4 s4 a4 l4 c4)(k:Below w.heap.size w w'):
  w'.cell? ⟨p,1,none⟩=some (.bool s)∧w'.cell? ⟨p,2,none⟩=some (.slice a l c)∧w'.cell? ⟨b3,0,none⟩=some (.bool s3)∧w'.cell? ⟨b3,1,none⟩=some (.slice a3 l3 c3)∧w'.cell? ⟨b4,0,none⟩=some (.bool s4)∧w'.cell? ⟨b4,1,none⟩=some (.slice a4 l4 c4)∧Below w.heap.size w w':=
 ⟨(x.below k).c1,(x.below k).c2,(z3.below k).c0,(z3.below k).c1,(z4.below k).c0,(z4.below k).c1,k⟩

theorem al_z {v w:World}(k:Below v.heap.size v w): ∃wL,Hid (w.alloc (.cells #[.bool false,.slice none 0 0] 26)=wL)∧ZB wL w.heap.size false none 0 0∧v.heap.size≤w.heap.size∧Below w.heap.size w wL∧Below v.heap.size v wL:=⟨_,rfl,zb_new _ _ _ _ _,k.size,below_alloc _ _,grow_alloc k _⟩
theorem al_t {v w:World}(k:Below v.heap.size v w): ∃wL,Hid (w.alloc (.cells #[.slice none 0 0,.bool false,.slice none 0 0] 28)=wL)∧TB wL w.heap.size none 0 0 false none 0 0∧v.heap.size≤w.heap.size∧Below w.heap.size w wL∧Below v.heap.size v wL:=⟨_,rfl,tb_new _ _ _ _ _ _ _ _,k.size,below_alloc _ _,grow_alloc k _⟩
theorem less_n {w:World}{ad:Option Addr}{n cp:Nat}{s:Bool}{a:Option Addr}{l c:Nat}{ps:List (Int × Int)}{k:Int}{B:Nat}(hP:Pr w ad n ps B)(hz:Zm w s a l c k)(hl:l≤B)(hn:n≤262144)(hB:B+n+1≤4194000):
  Calls Tryz.prog 99 #[.agg #[.slice ad n cp,.bool s,.slice a l c]] w fun e w'=> ∃qs,Std qs∧(∀v,csum qs v=csum ps v)∧AW w' e (lessF qs k) (B+n+16) w.heap.size∧Below w.heap.size w w':=by
 have eg: ∀args w,(callFunc 130 args).run Tryz.prog w= .ok (.enter 130 args) w:=enters_of Tryz.func130 k_f rfl
 go_enter Tryz.func99,Tryz.ntmps99
 go_wp2_with fail
 have x:=(tb_new w ad n cp s a l c).below (below_alloc _ (.cells #[.int .i64 0,.bool false,.slice none 0 0,.slice none 0 0,.bool false,.slice none 0 0] 57))
 have yr:((w.alloc (.cells #[.slice ad n cp,.bool s,.slice a l c] 28)).alloc (.cells #[.int .i64 0,.bool false,.slice none 0 0,.slice none 0 0,.bool false,.slice none 0 0] 57)).heap[w.heap.size+1]? =some (.cells #[.int .i64 0,.bool false,.slice none 0 0,.slice none 0 0,.bool false,.slice none 0 0] 57 (0,0)):=by
  have h:=heap_alloc_new (w.alloc (.cells #[.slice ad n cp,.bool s,.slice a l c] 28)) (.cells #[.int .i64 0,.bool false,.slice none 0 0,.slice none 0 0,.bool false,.slice none 0 0] 57)
  rwa [show(w.alloc (.cells #[.slice ad n cp,.bool s,.slice a l c] 28)).heap.size=w.heap.size+1 from by simp]at h
 have b0:Below w.heap.size w ((w.alloc (.cells #[.slice ad n cp,.bool s,.slice a l c] 28)).alloc (.cells #[.int .i64 0,.bool false,.slice none 0 0,.slice none 0 0,.bool false,.slice none 0 0] 57)):=below_alloc' (below_alloc _ _) _
 generalize (w.alloc (.cells #[.slice ad n cp,.bool s,.slice a l c] 28)).alloc (.cells #[.int .i64 0,.bool false,.slice none 0 0,.slice none 0 0,.bool false,.slice none 0 0] 57)=wb at*
 replace hP:=hP.below b0
 replace hz:=hz.below b0
 generalize hp:w.heap.size=p at*
 replace b0:Hid (Below w.heap.size w wb):=hp▸b0
 have hpr:Hid (w.heap.size=p∧p<p+1):=⟨hp,by omega⟩
 clear hp
 generalize p+1=r at*
 refine(tnorm_n hP hz hl o_m).mono ?_
 rintro e w1 ⟨ad1,n1,cp1,s1,a1,l1,c1,rs,rfl,hTN,hn1,hStd,hcs⟩
 have hrl:r<wb.heap.size:=(Array.getElem?_eq_some_iff.1 yr).1
 have yr1:w1.heap[r]? =_:=(hTN.below.block r hrl).trans yr
 have hPn:=hTN.pn
 have hZn:=hTN.zn
 have hle:=hTN.le
 have x1:=x.below hTN.below
 have k1:=hide (grow_step hTN.below b0.out)
 generalize rs.map Raw.p=qs at*
 have g1:=tb_set w1 p (.slice ad1 n1 cp1) (.bool s1) (.slice a1 l1 c1)
 have x2:=tb_fin x1 ad1 n1 cp1 s1 a1 l1 c1
 replace hPn:=hPn.tb x1 g1
 replace hZn:=hZn.grownU g1 (tb_noU x1)
 have k2:=hide (below_grown k1.out g1 (by have:=hpr.out;omega))
 have yr2:=(g1.block r (Array.getElem?_eq_some_iff.1 yr1).1 (by have:=hpr.out.2;simp;omega)).trans yr1
 have v0:=x1.c0
 have v1:=x1.c1
 have v2:=x1.c2
 have v3:=x1.f 0
 have v4:=x1.f 1
 have v5:=x1.f 2
 clear hTN hP hz g1 x b0 k1 yr yr1
 by_cases hn0:n1=0
 ·subst hn0
  obtain rfl:qs= []:=List.length_eq_zero_iff.1 hPn.1
  go_wp2_with fail
  generalize ((w1.setCell ⟨p,0,none⟩ (.slice ad1 0 cp1)).setCell ⟨p,1,none⟩ (.bool s1)).setCell ⟨p,2,none⟩ (.slice a1 l1 c1)=w2 at*
  have hr2:r<w2.heap.size:=(Array.getElem?_eq_some_iff.1 yr2).1
  refine(zsign_n hZn.zm o_m).mono ?_
  rintro e w3 ⟨rfl,k3⟩
  have yr3:w3.heap[r]? =_:=(k3.block r hr2).trans yr2
  have hr3:r<w3.heap.size:=(Array.getElem?_eq_some_iff.1 yr3).1
  have kk3:=hide (grow_step k3 k2.out)
  have hsg:Hid ((0<cmpI k 0)↔0<k):=(by unfold cmpI;split <;> (try split) <;> omega:(0<cmpI k 0)↔0<k)
  clear k3 k2 v0 v1 v2 v3 v4 v5 hZn hPn x1 x2
  generalize cmpI k 0=cz at*
  go_wp2_with fail
  refine truth_n.mono ?_
  rintro e w4 ⟨rfl,k4⟩
  have yr4:w4.heap[r]? =_:=(k4.block r hr3).trans yr3
  have kk4:=hide (grow_step k4 kk3.out)
  have hval:Hid ((if decide (0<cz)=true then(1:Int)else 0)=(lessF [] k).kind):=(show _=_ by simp[lessF,tru,hsg.out])
  generalize (if decide (0<cz)=true then(1:Int)else 0)=kv at*
  have c0:=cell_of_row w4 r 0 _ _ (0,0) yr4
  have c1':=cell_of_row w4 r 1 _ _ (0,0) yr4
  have c2:=cell_of_row w4 r 2 _ _ (0,0) yr4
  have c3:=cell_of_row w4 r 3 _ _ (0,0) yr4
  have c4:=cell_of_row w4 r 4 _ _ (0,0) yr4
  have c5:=cell_of_row w4 r 5 _ _ (0,0) yr4
  have f0:=frozen_of_row w4 r 0 _ _ yr4
  have f1:=frozen_of_row w4 r 1 _ _ yr4
  have f2:=frozen_of_row w4 r 2 _ _ yr4
  have f3:=frozen_of_row w4 r 3 _ _ yr4
  have f4:=frozen_of_row w4 r 4 _ _ yr4
  have f5:=frozen_of_row w4 r 5 _ _ yr4
  clear k4
  have hwr:w.heap.size≤r:=by have:=hpr.out;omega
  have kf:=hide ((((((kk4.out.setCell (p:=⟨r,0,none⟩) hwr (.int .i64 kv)).setCell (p:=⟨r,1,none⟩) hwr (.bool false)).setCell (p:=⟨r,2,none⟩) hwr (.slice none 0 0)).setCell (p:=⟨r,3,none⟩) hwr (.slice none 0 0)).setCell (p:=⟨r,4,none⟩) hwr (.bool false)).setCell (p:=⟨r,5,none⟩) hwr (.slice none 0 0))
  have hfin:=hide (ab_fin yr4 kv false none 0 0 none 0 0 false none 0 0)
  go_wp2
  refine bodyPost_ret (results_cell_row rfl _ _ r 57 _ (0,0) _ rfl hfin.out Tryz.underlying57 rfl k_f) rfl ?_
  refine⟨[],std_nil,hcs,⟨false,none,0,0,none,0,0,false,none,0,0,?_,?_,by omega,?_,by omega,?_,by omega,fun _ _ h=>by cases h⟩,kf.out⟩
  ·rw[hval.out]
  ·exact zn_zero _
  ·exact pn_nil _ _ _
  exact zn_zero _
 go_wp2_with fail
 generalize ((w1.setCell ⟨p,0,none⟩ (.slice ad1 n1 cp1)).setCell ⟨p,1,none⟩ (.bool s1)).setCell ⟨p,2,none⟩ (.slice a1 l1 c1)=w2 at*
 replace hPn:=hide hPn
 replace hZn:=hide hZn
 have hq1:qs.length=n1:=hPn.out.1
 refine Code.wp_mono (Q:=fun e a' W'=>e= .normal∧∃b3 b4 sA aA lA cA sB aB lB cB,a'=⟨List.toArray ((.agg #[.slice ad n cp,.bool s,.slice a l c]:Value)::(.pointer (some ⟨p,0,none⟩):Value)::(.pointer (some ⟨r,0,none⟩):Value)::(.pointer (some ⟨b3,0,none⟩):Value)::(.pointer (some ⟨b4,0,none⟩):Value)::undef::(.agg #[.slice ad n cp,.bool s,.slice a l c]:Value)::(.agg #[.slice ad1 n1 cp1,.bool s1,.slice a1 l1 c1]:Value)::(.pointer (some ⟨p,0,none⟩):Value)::(.slice ad1 n1 cp1:Value)::(.int .i64 n1:Value)::(.bool false:Value)::undef::undef::undef::undef::undef::(.agg #[.bool sA,.slice aA lA cA]:Value)::(.agg #[.slice ad1 n1 cp1,.bool s1,.slice a1 l1 c1]:Value)::(.agg #[.bool sB,.slice aB lB cB]:Value)::undef::undef::undef::undef::undef::undef::undef::undef::undef::undef::undef::undef::undef::undef::undef::undef:: []),[]⟩∧ZB W' b3 sA aA lA cA∧ZB W' b4 sB aB lB cB∧Zn W' sA aA lA cA 1∧lA≤2∧Zn W' sB aB lB cB (gcdL 0 qs)∧lB≤(0+n1)*(B+n+1)+2∧b3≠b4∧w2.heap.size≤b3∧w2.heap.size≤b4∧Below w2.heap.size w2 W') ?_ ?_
 ·rintro e a' W' ⟨rfl,b3,b4,sA,aA,lA,cA,sB,aB,lB,cB,rfl,z3,z4,hzA,hlA,hzB,hlB,hne,hb3,hb4,kW⟩
  have x3:=x2.below kW
  have p1:=x3.c1
  have p2:=x3.c2
  have q0:=z3.c0
  have q1:=z3.c1
  have q2:=z4.c0
  have q3:=z4.c1
  go_wp2_with fail
  clear p1 p2 q0 q1 q2 q3
  have hZk:=hide (hZn.out.below kW)
  have hOne:=hide hzA
  have hGcd:=hide hzB
  have hgp:(0:Int)<(gcdL 0 qs:Nat):=by
   have:0<gcdL 0 qs:=gcdL_pos (.inr (std_some hStd (fun e=>hn0 (by rw[←hq1,e];rfl))))
   omega
  have hmul:n1*(B+n+1)≤262144*4194000:=Nat.mul_le_mul o_m o_m
  have hlB9:lB≤1099511627776:=by rw[Nat.zero_add]at hlB;omega
  clear hlB hmul
  refine Code.wp_mono (Q:=fun e a' W2=>e= .normal∧∃b5 sC aC lC cC sD aD lD cD sE aE lE cE,a'=⟨List.toArray ((.agg #[.slice ad n cp,.bool s,.slice a l c]:Value)::(.pointer (some ⟨p,0,none⟩):Value)::(.pointer (some ⟨r,0,none⟩):Value)::(.pointer (some ⟨b3,0,none⟩):Value)::(.pointer (some ⟨b4,0,none⟩):Value)::(.pointer (some ⟨b5,0,none⟩):Value)::(.agg #[.slice ad n cp,.bool s,.slice a l c]:Value)::(.agg #[.slice ad1 n1 cp1,.bool s1,.slice a1 l1 c1]:Value)::(.pointer (some ⟨p,0,none⟩):Value)::(.slice ad1 n1 cp1:Value)::(.int .i64 n1:Value)::(.bool false:Value)::undef::undef::undef::undef::undef::(.agg #[.bool sA,.slice aA lA cA]:Value)::(.agg #[.slice ad1 n1 cp1,.bool s1,.slice a1 l1 c1]:Value)::(.agg #[.bool sB,.slice aB lB cB]:Value)::(.pointer (some ⟨p,1,none⟩):Value)::(.agg #[.bool s1,.slice a1 l1 c1]:Value)::(.agg #[.bool sA,.slice aA lA cA]:Value)::(.agg #[.bool sC,.slice aC lC cC]:Value)::(.agg #[.bool sB,.slice aB lB cB]:Value)::(.agg #[.bool sD,.slice aD lD cD]:Value)::(.agg #[.bool sA,.slice aA lA cA]:Value)::(.agg #[.bool sE,.slice aE lE cE]:Value)::undef::undef::undef::undef::undef::undef::undef::undef:: []),[]⟩∧ZB W2 b5 sE aE lE cE∧Zn W2 sE aE lE cE ((k-1) / (gcdL 0 qs:Nat)+1)∧lE≤max lD lA+1∧lD≤lC+3∧lC≤max l1 lA+1∧W'.heap.size≤b5∧Below W'.heap.size W' W2) ?_ ?_
  ·rintro e a' W2 ⟨rfl,b5,sC,aC,lC,cC,sD,aD,lD,cD,sE,aE,lE,cE,rfl,z5,hzE,hlE,hlD,hlC,hb5,kX⟩
   have x4:=x3.below kX
   have zg:=z4.below kX
   have hG2:=hide (hGcd.out.below kX)
   have hP2:=hide ((hPn.out.below kW).below kX)
   have hZ2:=hide (hZk.out.below kX)
   have p0:=x4.c0
   have p1:=x4.c1
   have p2:=x4.c2
   go_wp2_with fail
   refine(each_n (F:=fun x=>x / ((gcdL 0 qs:Nat):Int)) (C:=B+n+4) (B:=B+n+1) eg (fun w' s9 a9 l9 c9 z9 hb9 hz9 hl9=>(less1_n (zg.below hb9) hz9 (hG2.out.zm.below hb9) o_m hlB9 hgp).mono fun _ _ ⟨s',a',l',c',he,h1,h2,h3⟩=>⟨s',a',l',c',he,h1,h2,by omega⟩) (hP2.out.pr.mono o_m) hZ2.out.zm o_m o_m o_m).mono ?_
   rintro e w5 ⟨ad5,n5,cp5,s5,a5,l5,c5,rfl,hP5,hz5,hl5,hn5,hnew,k5⟩
   have hrl2:r<w2.heap.size:=(Array.getElem?_eq_some_iff.1 yr2).1
   have hrlW:=Nat.lt_of_lt_of_le hrl2 kW.size
   have hrlX:=Nat.lt_of_lt_of_le hrlW kX.size
   have hrl5:=Nat.lt_of_lt_of_le hrlX k5.size
   have yr5:=(k5.block r hrlX).trans ((kX.block r hrlW).trans ((kW.block r hrl2).trans yr2))
   have x5:=x4.below k5
   have z55:=z5.below k5
   have hzE5:=hzE.below k5
   have kk5:=hide (grow_step k5 (grow_step kX (grow_step kW k2.out)))
   have g5:=tb_set w5 p (.slice ad5 n5 cp5) (.bool s5) (.slice a5 l5 c5)
   have x6:=tb_fin x5 ad5 n5 cp5 s5 a5 l5 c5
   have hP6:=hP5.tb x5 g5
   have hpb:p≠b5:=by have h1:=x2.lt;have h2:=kW.size;omega
   have hb5l:b5<w5.heap.size:=z55.lt
   have z6:ZB _ b5 sE aE lE cE:=(g5.block b5 hb5l (by simp;omega)).trans z55
   have hzE6:=hzE5.grownU g5 (tb_noU x5)
   have yr6:=(g5.block r hrl5 (by have:=hpr.out.2;simp;omega)).trans yr5
   have kk6:=hide (below_grown kk5.out g5 (by have:=hpr.out;omega))
   have u0:=x5.c0
   have u1:=x5.c1
   have u2:=x5.c2
   have u3:=x5.f 0
   have u4:=x5.f 1
   have u5:=x5.f 2
   have t0:=x6.c0
   have t1:=z6.c0
   have t2:=z6.c1
   have e0:=cell_of_row _ r 0 _ _ (0,0) yr6
   have e1:=cell_of_row _ r 1 _ _ (0,0) yr6
   have e2:=cell_of_row _ r 2 _ _ (0,0) yr6
   have e3:=cell_of_row _ r 3 _ _ (0,0) yr6
   have e4:=cell_of_row _ r 4 _ _ (0,0) yr6
   have e5:=cell_of_row _ r 5 _ _ (0,0) yr6
   have f0:=frozen_of_row _ r 0 _ _ yr6
   have f1:=frozen_of_row _ r 1 _ _ yr6
   have f2:=frozen_of_row _ r 2 _ _ yr6
   have f3:=frozen_of_row _ r 3 _ _ yr6
   have f4:=frozen_of_row _ r 4 _ _ yr6
   have f5:=frozen_of_row _ r 5 _ _ yr6
   have hnr: ∀b off,ad5=some ⟨b,off,none⟩→b≠r:=fun b off e=>by have:=hnew b off e;omega
   have g6:=ab_set (((w5.setCell ⟨p,0,none⟩ (.slice ad5 n5 cp5)).setCell ⟨p,1,none⟩ (.bool s5)).setCell ⟨p,2,none⟩ (.slice a5 l5 c5)) r (.int .i64 2) (.bool false) (.slice none 0 0) (.slice ad5 n5 cp5) (.bool sE) (.slice aE lE cE)
   have hPf:=hide (hP6.away hnr g6 (ab_noU yr6))
   have hzf:=hide (hzE6.grownU g6 (ab_noU yr6))
   have kf:=hide (below_grown kk6.out g6 (by have:=hpr.out;omega))
   have hfin:=hide (ab_fin yr6 2 false none 0 0 ad5 n5 cp5 sE aE lE cE)
   have hqs:Hid (lessF qs k=⟨2,0,eachP (fun x=>x / ((gcdL 0 qs:Nat):Int)) qs,(k-1) / ((gcdL 0 qs:Nat):Int)+1⟩):=(show _=_ by unfold lessF;rw[if_neg (fun e=>hn0 (by rw[←hq1,e];rfl))])
   have hnw:Hid (∀b off,ad5=some ⟨b,off,none⟩→w.heap.size≤b):=(fun b off e=>Nat.le_trans (grow_step kX (grow_step kW k2.out)).size (hnew b off e))
   replace hStd:=hide hStd
   replace hcs:=hide hcs
   clear p0 p1 p2 k5 g5 kX kW yr5 yr2 eg hnew hnr g6 hP6 hzE6
   go_wp2
   refine bodyPost_ret (results_cell_row rfl _ _ r 57 _ (0,0) _ rfl hfin.out Tryz.underlying57 rfl k_f) rfl ?_
   refine⟨qs,hStd.out,hcs.out,?_,kf.out⟩
   rw[hqs.out]
   exact⟨false,none,0,0,ad5,n5,cp5,sE,aE,lE,cE,by simp,zn_zero _,by omega,hPf.out.mono o_m,by omega,hzf.out,by omega,hnw.out⟩
  refine wp_region_held_drew (S:=(fun w'=>w'.cell? ⟨p,1,none⟩=some (.bool s1)∧w'.cell? ⟨p,2,none⟩=some (.slice a1 l1 c1)∧w'.cell? ⟨b3,0,none⟩=some (.bool sA)∧w'.cell? ⟨b3,1,none⟩=some (.slice aA lA cA)∧w'.cell? ⟨b4,0,none⟩=some (.bool sB)∧w'.cell? ⟨b4,1,none⟩=some (.slice aB lB cB)∧Below W'.heap.size W' w')) k_f (tq7 x3 z3 z4 (grow_drew (Below.refl _ _))) (fun hHeld=> ?_)
  show wpAnyH _ _ _ _ _ 10 _ _ _
  have kW:=grow_drew (Below.refl W'.heap.size W')
  generalize W'.drew=wQ at*
  refine wpAnyH_take (i:=0) (oi:=⟨some 20,_,_,_,_,_⟩) (v:=?_) rfl k_f k_f k_f (fun _ _ _ h=>by cases h.1) (Or.inl ⟨by rfl,?_⟩) (by assumption) ?_
  rotate_left
  ·intro wq hSw;(try dsimp only at hSw);go_simp;(try with_reducible rfl)
  (try simp only[pz])
  refine wpAnyH_take (i:=1) (oi:=⟨some 21,_,_,_,_,_⟩) (v:=?_) rfl k_f k_f k_f (fun _ _ _ h=>by cases h.1) (Or.inl ⟨by rfl,?_⟩) (by assumption) ?_
  rotate_left
  ·intro wq hSw;(try dsimp only at hSw);go_simp;(try with_reducible rfl)
  (try simp only[pz])
  refine wpAnyH_take (i:=2) (oi:=⟨some 22,_,_,_,_,_⟩) (v:=?_) rfl k_f k_f k_f (fun _ _ _ h=>by cases h.1) (Or.inl ⟨by rfl,?_⟩) (by assumption) ?_
  rotate_left
  ·intro wq hSw;(try dsimp only at hSw);go_simp;(try with_reducible rfl)
  (try simp only[pz])
  refine wpAnyH_take (i:=4) (oi:=⟨some 24,_,_,_,_,_⟩) (v:=?_) rfl k_f k_f k_f (fun _ _ _ h=>by cases h.1) (Or.inl ⟨by rfl,?_⟩) (by assumption) ?_
  rotate_left
  ·intro wq hSw;(try dsimp only at hSw);go_simp;(try with_reducible rfl)
  (try simp only[pz])
  refine wpAnyH_take (i:=6) (oi:=⟨some 26,_,_,_,_,_⟩) (v:=?_) rfl k_f k_f k_f (fun _ _ _ h=>by cases h.1) (Or.inl ⟨by rfl,?_⟩) (by assumption) ?_
  rotate_left
  ·intro wq hSw;(try dsimp only at hSw);go_simp;(try with_reducible rfl)
  (try simp only[pz])
  repeat' first
   |with_reducible exact AllReadyH.nil
   |(
    refine wpAnyH_done ?_ ?_ _
    ·decide+kernel
    exact⟨rfl,_,sC,aC,lC,cC,sD,aD,lD,cD,sE,aE,lE,cE,rfl,z5,hzE,hlE,hlD,hlC,hbz5,kW⟩)
   |(refine wpAnyH_ready (rs:=[3,8]) ?_ ?_ ?_;decide+kernel;simp)
   |(refine wpAnyH_ready (rs:=[5,8]) ?_ ?_ ?_;decide+kernel;simp)
   |(refine wpAnyH_ready (rs:=[7,8]) ?_ ?_ ?_;decide+kernel;simp)
   |(refine wpAnyH_ready (rs:=[8]) ?_ ?_ ?_;decide+kernel;simp)
   |(refine wpAnyH_ready (rs:=[9]) ?_ ?_ ?_;decide+kernel;simp)
   |(refine wpAnyH_ready (rs:=[7]) ?_ ?_ ?_;decide+kernel;simp)
   |(refine wpAnyH_ready (rs:=[5]) ?_ ?_ ?_;decide+kernel;simp)
   |(refine wpAnyH_ready (rs:=[3]) ?_ ?_ ?_;decide+kernel;simp)
   |(
    first
     |(
      refine AllReadyH.cons (i:=3) (o:=⟨some 23,_,_,_,_,_⟩) rfl (fun K hK=> ?_) ?_
      go_simp
      go_at_call 128;refine Calls.mono (zsub_n (hZk.out.zm.below kW) (hOne.out.zm.below kW) o_m o_m) ?_;rintro e wC ⟨sC,aC,lC,cC,rfl,hzC,kC,hlC⟩
      try have hzD:=hzD.below kC
      try have hzE:=hzE.below kC
      try have z5:=z5.below kC
      have kW:=grow_step kC kW
      try go_wp2_with fail)
     |(
      refine AllReadyH.cons (i:=5) (o:=⟨some 25,_,_,_,_,_⟩) rfl (fun K hK=> ?_) ?_
      go_simp
      go_at_call 127;refine Calls.mono (quotient_n hzC.zm (hGcd.out.zm.below kW) o_m o_m hgp) ?_;rintro e wDq ⟨sD,aD,lD,cD,rfl,hzD,kD,hlD⟩
      try have hzC:=hzC.below kD
      try have hzE:=hzE.below kD
      try have z5:=z5.below kD
      have kW:=grow_step kD kW
      try go_wp2_with fail)
     |(
      refine AllReadyH.cons (i:=7) (o:=⟨some 27,_,_,_,_,_⟩) rfl (fun K hK=> ?_) ?_
      go_simp
      go_at_call 37;refine Calls.mono (zadd_n hzD.zm (hOne.out.zm.below kW) o_m o_m) ?_;rintro e wE ⟨sE,aE,lE,cE,rfl,hzE,kE,hlE⟩
      try have hzC:=hzC.below kE
      try have hzD:=hzD.below kE
      try have z5:=z5.below kE
      have kW:=grow_step kE kW
      try go_wp2_with fail)
     |(
      refine AllReadyH.cons (i:=8) (o:=⟨some 5,_,_,_,_,_⟩) rfl (fun K hK=> ?_) ?_
      obtain⟨wL,eL,z5,hbz5,kL,kW⟩:=al_z kW
      try have hzC:=hzC.below kL
      try have hzD:=hzD.below kL
      try have hzE:=hzE.below kL
      go_simp
      rw[eL.out])
     |(
      refine AllReadyH.cons (i:=9) (o:=⟨none,_,_,_,_,_⟩) rfl (fun K hK=> ?_) ?_
      have f0:=z5.c0
      have f1:=z5.c1
      have f2:=z5.f 0
      have f3:=z5.f 1
      go_simp
      have hzE:=zb_zn z5 hzE sE aE lE cE
      have z5:=zb_fin z5 sE aE lE cE
      have kW:=(kW.setCell (p:=⟨_,0,none⟩) hbz5 (.bool sE)).setCell (p:=⟨_,1,none⟩) hbz5 (.slice aE lE cE))
    refine hK.out _ _ ?_ ?_
    ·(try dsimp only);exact tq7 x3 z3 z4 kW
    clear hK K hHeld;intro hHeld
    (try simp only[pz]))
 refine wp_region_held_drew (S:=(fun w'=>w'.cell? ⟨p,0,none⟩=some (.slice ad1 n1 cp1)∧w'.cell? ⟨p,1,none⟩=some (.bool s1)∧w'.cell? ⟨p,2,none⟩=some (.slice a1 l1 c1)∧Below w2.heap.size w2 w')) k_f (tq3 x2 (grow_drew (Below.refl _ _))) (fun hHeld=> ?_)
 show wpAnyH _ _ _ _ _ 7 _ _ _
 have kW:=grow_drew (Below.refl w2.heap.size w2)
 generalize w2.drew=wQ at*
 refine wpAnyH_take (i:=1) (oi:=⟨some 18,_,_,_,_,_⟩) (v:=?_) rfl k_f k_f k_f (fun _ _ _ h=>by cases h.1) (Or.inl ⟨by rfl,?_⟩) (by assumption) ?_
 rotate_left
 ·intro wq hSw;(try dsimp only at hSw);go_simp;(try with_reducible rfl)
 (try simp only[pz])
 repeat' first
  |with_reducible exact AllReadyH.nil
  |(
   refine wpAnyH_done ?_ ?_ _
   ·decide+kernel
   exact⟨rfl,_,_,sA,aA,lA,cA,sB,aB,lB,cB,rfl,z3,z4,hzA,hlA,hzB,hlB,hne,hbz3,hbz4,kW⟩)
  |(refine wpAnyH_ready (rs:=[0,3,4]) ?_ ?_ ?_;decide+kernel;simp)
  |(refine wpAnyH_ready (rs:=[2,3,4]) ?_ ?_ ?_;decide+kernel;simp)
  |(refine wpAnyH_ready (rs:=[3,4]) ?_ ?_ ?_;decide+kernel;simp)
  |(refine wpAnyH_ready (rs:=[4]) ?_ ?_ ?_;decide+kernel;simp)
  |(refine wpAnyH_ready (rs:=[5]) ?_ ?_ ?_;decide+kernel;simp)
  |(refine wpAnyH_ready (rs:=[6]) ?_ ?_ ?_;decide+kernel;simp)
  |(refine wpAnyH_ready (rs:=[3]) ?_ ?_ ?_;decide+kernel;simp)
  |(refine wpAnyH_ready (rs:=[2,4]) ?_ ?_ ?_;decide+kernel;simp)
  |(refine wpAnyH_ready (rs:=[2]) ?_ ?_ ?_;decide+kernel;simp)
  |(refine wpAnyH_ready (rs:=[2,3]) ?_ ?_ ?_;decide+kernel;simp)
  |(refine wpAnyH_ready (rs:=[0,4]) ?_ ?_ ?_;decide+kernel;simp)
  |(refine wpAnyH_ready (rs:=[0]) ?_ ?_ ?_;decide+kernel;simp)
  |(refine wpAnyH_ready (rs:=[0,3]) ?_ ?_ ?_;decide+kernel;simp)
  |(
   first
    |(
     refine AllReadyH.cons (i:=0) (o:=⟨some 17,_,_,_,_,_⟩) rfl (fun K hK=> ?_) ?_
     go_simp
     go_at_call 22;refine Calls.mono (zof_n 1 (by decide) (by decide) _) ?_;rintro e wA ⟨sA,aA,lA,cA,rfl,hzA,kA,hlA⟩
     try have hzB:=hzB.below kA
     try have z3:=z3.below kA
     try have z4:=z4.below kA
     have kW:=grow_step kA kW
     try go_wp2_with fail)
    |(
     refine AllReadyH.cons (i:=2) (o:=⟨some 19,_,_,_,_,_⟩) rfl (fun K hK=> ?_) ?_
     go_simp
     go_at_call 126;refine Calls.mono (common_n (N0:=[]) (m:=0) (B:=B+n+1) (Below.refl _ _) (Pr.below (hPn.out.pr.mono o_m) kW) (World.ownsRow_nil _ _ _ _) rfl (fun x hx=>by cases hx) o_m o_m o_m) ?_;rintro e wB ⟨sB,aB,lB,cB,rfl,hzB,hlB,kB⟩
     try have hzA:=hzA.below kB
     try have z3:=z3.below kB
     try have z4:=z4.below kB
     have kW:=grow_step kB kW
     try go_wp2_with fail)
    |(
     refine AllReadyH.cons (i:=3) (o:=⟨some 3,_,_,_,_,_⟩) rfl (fun K hK=> ?_) ?_
     try have hne:=Nat.ne_of_gt z4.lt
     obtain⟨wL,eL,z3,hbz3,kL,kW⟩:=al_z kW
     try have hzA:=hzA.below kL
     try have hzB:=hzB.below kL
     try have z4:=z4.below kL
     go_simp
     rw[eL.out])
    |(
     refine AllReadyH.cons (i:=4) (o:=⟨some 4,_,_,_,_,_⟩) rfl (fun K hK=> ?_) ?_
     try have hne:=Nat.ne_of_lt z3.lt
     obtain⟨wL,eL,z4,hbz4,kL,kW⟩:=al_z kW
     try have hzA:=hzA.below kL
     try have hzB:=hzB.below kL
     try have z3:=z3.below kL
     go_simp
     rw[eL.out])
    |(
     refine AllReadyH.cons (i:=5) (o:=⟨none,_,_,_,_,_⟩) rfl (fun K hK=> ?_) ?_
     have f0:=z3.c0
     have f1:=z3.c1
     have f2:=z3.f 0
     have f3:=z3.f 1
     go_simp
     have hzA:=zb_zn z3 hzA sA aA lA cA
     have hzB:=zb_zn z3 hzB sA aA lA cA
     have z4:=z4.only (only2 _ _ (.bool sA) (.slice aA lA cA)) hne.symm
     have z3:=zb_fin z3 sA aA lA cA
     have kW:=(kW.setCell (p:=⟨_,0,none⟩) hbz3 (.bool sA)).setCell (p:=⟨_,1,none⟩) hbz3 (.slice aA lA cA))
    |(
     refine AllReadyH.cons (i:=6) (o:=⟨none,_,_,_,_,_⟩) rfl (fun K hK=> ?_) ?_
     have f0:=z4.c0
     have f1:=z4.c1
     have f2:=z4.f 0
     have f3:=z4.f 1
     go_simp
     have hzA:=zb_zn z4 hzA sB aB lB cB
     have hzB:=zb_zn z4 hzB sB aB lB cB
     have z3:=z3.only (only2 _ _ (.bool sB) (.slice aB lB cB)) hne
     have z4:=zb_fin z4 sB aB lB cB
     have kW:=(kW.setCell (p:=⟨_,0,none⟩) hbz4 (.bool sB)).setCell (p:=⟨_,1,none⟩) hbz4 (.slice aB lB cB))
   refine hK.out _ _ ?_ ?_
   ·(try dsimp only);exact tq3 x2 kW
   clear hK K hHeld;intro hHeld
   (try simp only[pz]))

def AB (w:World)(r:Nat)(kd:Int)(s:Bool)(a:Option Addr)(l c:Nat)(ad:Option Addr)(n cp:Nat)(t:Bool)(b:Option Addr)(m d:Nat):Prop:=
 w.heap[r]? =some (.cells #[.int .i64 kd,.bool s,.slice a l c,.slice ad n cp,.bool t,.slice b m d] 57 (0,0))
namespace AB
variable {w w':World}{r:Nat}{kd:Int}{s:Bool}{a:Option Addr}{l c:Nat}{ad:Option Addr}{n cp:Nat}{t:Bool}{b:Option Addr}{m d:Nat}
theorem lt (h:AB w r kd s a l c ad n cp t b m d):r<w.heap.size:=(Array.getElem?_eq_some_iff.1 h).1
theorem c0 (h:AB w r kd s a l c ad n cp t b m d):w.cell? ⟨r,0,none⟩=some (.int .i64 kd):=cell_of_row w r 0 _ _ (0,0) h
theorem c1 (h:AB w r kd s a l c ad n cp t b m d):w.cell? ⟨r,1,none⟩=some (.bool s):=cell_of_row w r 1 _ _ (0,0) h
theorem c2 (h:AB w r kd s a l c ad n cp t b m d):w.cell? ⟨r,2,none⟩=some (.slice a l c):=cell_of_row w r 2 _ _ (0,0) h
theorem c3 (h:AB w r kd s a l c ad n cp t b m d):w.cell? ⟨r,3,none⟩=some (.slice ad n cp):=cell_of_row w r 3 _ _ (0,0) h
theorem c4 (h:AB w r kd s a l c ad n cp t b m d):w.cell? ⟨r,4,none⟩=some (.bool t):=cell_of_row w r 4 _ _ (0,0) h
theorem c5 (h:AB w r kd s a l c ad n cp t b m d):w.cell? ⟨r,5,none⟩=some (.slice b m d):=cell_of_row w r 5 _ _ (0,0) h
theorem f (h:AB w r kd s a l c ad n cp t b m d)(i:Nat):w.frozen? ⟨r,i,none⟩=false:=frozen_of_row w r i _ _ h
theorem below (h:AB w r kd s a l c ad n cp t b m d)(hb:Below w.heap.size w w'):AB w' r kd s a l c ad n cp t b m d:=(hb.block r h.lt).trans h
theorem new (w:World)(kd:Int)(s:Bool)(a:Option Addr)(l c:Nat)(ad:Option Addr)(n cp:Nat)(t:Bool)(b:Option Addr)(m d:Nat):AB (w.alloc (.cells #[.int .i64 kd,.bool s,.slice a l c,.slice ad n cp,.bool t,.slice b m d] 57)) w.heap.size kd s a l c ad n cp t b m d:=heap_alloc_new w _
end AB

theorem aq5 {w w':World}{p b:Nat}{kd:Int}{s:Bool}{a:Option Addr}{l c:Nat}{ad:Option Addr}{n cp:Nat}{t:Bool}{a5:Option Addr}{m d:Nat}{s2:Bool}{a2:Option Addr}{l2 c2:Nat}(x:AB w p kd s a l c ad n cp t a5 m d)(z:ZB w b s2 a2 l2 c2)(k:Below w.heap.size w w'):
  w'.cell? ⟨p,3,none⟩=some (.slice ad n cp)∧w'.cell? ⟨p,4,none⟩=some (.bool t)∧w'.cell? ⟨p,5,none⟩=some (.slice a5 m d)∧w'.cell? ⟨b,0,none⟩=some (.bool s2)∧w'.cell? ⟨b,1,none⟩=some (.slice a2 l2 c2)∧Below w.heap.size w w':=
 ⟨(x.below k).c3,(x.below k).c4,(x.below k).c5,(z.below k).c0,(z.below k).c1,k⟩

theorem zb2_set (w:World)(b:Nat)(v0 v1:Value):w.grownBy ((w.setCell ⟨b,0,none⟩ v0).setCell ⟨b,1,none⟩ v1) (some b):=gb_trans (gb_set w b 0 v0) (gb_set _ b 1 v1)
theorem zb2_noU {w:World}{b:Nat}{s:Bool}{a:Option Addr}{l c:Nat}(y:ZB w b s a l c):NoU w b:=by
 intro off x
 rw[cell_of_row w b off _ _ (0,0) y]
 match off with
 |0=>simp
 |1=>simp
 |k+2=>simp

theorem zq2 {w w':World}{b:Nat}{s:Bool}{a:Option Addr}{l c:Nat}(z:ZB w b s a l c)(k:Below w.heap.size w w'):w'.cell? ⟨b,0,none⟩=some (.bool s)∧w'.cell? ⟨b,1,none⟩=some (.slice a l c)∧Below w.heap.size w w':=⟨(z.below k).c0,(z.below k).c1,k⟩
theorem tq5 {w w':World}{p b:Nat}{ad:Option Addr}{n cp:Nat}{s:Bool}{a:Option Addr}{l c:Nat}{s2:Bool}{a2:Option Addr}{l2 c2:Nat}(x:TB w p ad n cp s a l c)(z:ZB w b s2 a2 l2 c2)(k:Below w.heap.size w w'):
  w'.cell? ⟨p,0,none⟩=some (.slice ad n cp)∧w'.cell? ⟨p,1,none⟩=some (.bool s)∧w'.cell? ⟨p,2,none⟩=some (.slice a l c)∧w'.cell? ⟨b,0,none⟩=some (.bool s2)∧w'.cell? ⟨b,1,none⟩=some (.slice a2 l2 c2)∧Below w.heap.size w w':=
 ⟨(x.below k).c0,(x.below k).c1,(x.below k).c2,(z.below k).c0,(z.below k).c1,k⟩
def AE (w:World)(e:Ending)(f:Atm)(B B0:Nat):Prop:=
 ∃sd ad ld cd ap np cp sk ak lk ck,e= .returned (.tuple #[.agg #[.int .i64 f.kind,.bool sd,.slice ad ld cd,.slice ap np cp,.bool sk,.slice ak lk ck],.int .i64 0])∧Zn w sd ad ld cd f.d∧ld≤B∧Pn w ap np f.ps B∧np≤B∧Zn w sk ak lk ck f.k∧lk≤B∧∀b off,ap=some ⟨b,off,none⟩→B0≤b

theorem divi_n {w:World}{kd:Int}{sd:Bool}{ad:Option Addr}{ld cd:Nat}{ap:Option Addr}{np cp:Nat}{sk:Bool}{ak:Option Addr}{lk ck:Nat}{d k:Int}{ps:List (Int × Int)}{B:Nat}{al ne:Int}
  (hd:Zm w sd ad ld cd d)(hld:ld≤B)(hP:Pr w ap np ps B)(hk:Zm w sk ak lk ck k)(hlk:lk≤B)(hn:np≤262144)(hB:B+np+1≤4194000)(hal:al=if kd=3 then 1 else 0)(hne:ne=if kd=3 then 0 else 1)(hd0:d≠0):
  Calls Tryz.prog 100 #[.agg #[.int .i64 kd,.bool sd,.slice ad ld cd,.slice ap np cp,.bool sk,.slice ak lk ck],.int .i64 al,.int .i64 ne] w fun e w'=> ∃qs,Std qs∧(∀v,csum qs v=csum ps v)∧AE w' e (divF kd d qs k) (B+np+16) w.heap.size∧Below w.heap.size w w':=by
 have eg: ∀args w,(callFunc 134 args).run Tryz.prog w= .ok (.enter 134 args) w:=enters_of Tryz.func134 k_f rfl
 have eg2: ∀args w,(callFunc 135 args).run Tryz.prog w= .ok (.enter 135 args) w:=enters_of Tryz.func135 k_f rfl
 replace eg:=hide eg
 replace eg2:=hide eg2
 replace hal:=hide hal
 replace hne:=hide hne
 go_enter Tryz.func100,Tryz.ntmps100
 go_wp2_with fail
 have x:=(AB.new w kd sd ad ld cd ap np cp sk ak lk ck).below (below_alloc _ (.cells #[.int .i64 0,.bool false,.slice none 0 0,.slice none 0 0,.bool false,.slice none 0 0] 57))
 have y:=AB.new (w.alloc (.cells #[.int .i64 kd,.bool sd,.slice ad ld cd,.slice ap np cp,.bool sk,.slice ak lk ck] 57)) 0 false none 0 0 none 0 0 false none 0 0
 rw[show(w.alloc (.cells #[.int .i64 kd,.bool sd,.slice ad ld cd,.slice ap np cp,.bool sk,.slice ak lk ck] 57)).heap.size=w.heap.size+1 from by simp]at y
 have b0:Below w.heap.size w ((w.alloc (.cells #[.int .i64 kd,.bool sd,.slice ad ld cd,.slice ap np cp,.bool sk,.slice ak lk ck] 57)).alloc (.cells #[.int .i64 0,.bool false,.slice none 0 0,.slice none 0 0,.bool false,.slice none 0 0] 57)):=below_alloc' (below_alloc _ _) _
 generalize (w.alloc (.cells #[.int .i64 kd,.bool sd,.slice ad ld cd,.slice ap np cp,.bool sk,.slice ak lk ck] 57)).alloc (.cells #[.int .i64 0,.bool false,.slice none 0 0,.slice none 0 0,.bool false,.slice none 0 0] 57)=wb at*
 replace hP:=hP.below b0
 replace hd:=hd.below b0
 replace hk:=hk.below b0
 generalize hp:w.heap.size=p at*
 replace b0:Hid (Below w.heap.size w wb):=hp▸b0
 have hpr:Hid (w.heap.size=p∧p<p+1):=⟨hp,by omega⟩
 clear hp
 generalize p+1=r at*
 refine(zsign_n hd o_m).mono ?_
 rintro e w1 ⟨rfl,k1⟩
 have hsg:(cmpI d 0==0)=false:=by rw[beq_eq_false_iff_ne];unfold cmpI;split <;> (try split) <;> omega
 generalize cmpI d 0=cz at*
 replace x:=x.below k1
 replace y:=y.below k1
 replace hP:=hP.below k1
 replace hd:=hd.below k1
 replace hk:=hk.below k1
 replace k1:=hide (grow_step k1 b0.out)
 clear b0
 have u1:=x.c1
 have u2:=x.c2
 go_wp2_with fail
 refine(abs_n hd o_m).mono ?_
 rintro e w2 ⟨s2,a2,l2,c2,rfl,hd2,k2,hl2⟩
 have hpb:p<w2.heap.size:=(x.below k2).lt
 have hrb:r<w2.heap.size:=(y.below k2).lt
 have z2:=zb_new w2 s2 a2 l2 c2
 have kz:=below_alloc w2 (.cells #[.bool s2,.slice a2 l2 c2] 26)
 replace x:=(x.below k2).below kz
 replace y:=(y.below k2).below kz
 replace hP:=(hP.below k2).below kz
 replace hk:=(hk.below k2).below kz
 replace hd2:=hd2.below kz
 replace k2:=hide (grow_step kz (grow_step k2 k1.out))
 clear u1 u2 hd k1 kz hsg
 generalize hb2:w2.heap.size=b2 at*
 go_wp2_with fail
 generalize w2.alloc (.cells #[.bool s2,.slice a2 l2 c2] 26)=wD at*
 have hb2D:=z2.lt
 have hD0:(0:Int)<((d.natAbs:Nat):Int):=by omega
 refine Code.wp_mono (Q:=fun e a' W'=>e= .normal∧∃b9 adA nA cpA sA aA lA cA adB nB cpB sB aB lB cB qs,a'=⟨List.toArray ((.agg #[.int .i64 kd,.bool sd,.slice ad ld cd,.slice ap np cp,.bool sk,.slice ak lk ck]:Value)::(.int .i64 al:Value)::(.int .i64 ne:Value)::(.pointer (some ⟨p,0,none⟩):Value)::undef::undef::(.pointer (some ⟨r,0,none⟩):Value)::(.int .i64 0:Value)::(.pointer (some ⟨b2,0,none⟩):Value)::(.pointer (some ⟨b9,0,none⟩):Value)::undef::undef::(.pointer (some ⟨p,1,none⟩):Value)::(.agg #[.bool sd,.slice ad ld cd]:Value)::(.int .i64 cz:Value)::(.bool false:Value)::undef::(.pointer (some ⟨p,1,none⟩):Value)::(.agg #[.bool sd,.slice ad ld cd]:Value)::(.agg #[.bool s2,.slice a2 l2 c2]:Value)::(.pointer (some ⟨p,3,none⟩):Value)::(.agg #[.slice ap np cp,.bool sk,.slice ak lk ck]:Value)::(.agg #[.slice adA nA cpA,.bool sA,.slice aA lA cA]:Value)::(.agg #[.bool s2,.slice a2 l2 c2]:Value)::(.agg #[.slice adB nB cpB,.bool sB,.slice aB lB cB]:Value)::undef::undef::undef::undef::undef::undef::undef::undef::undef::undef::undef::undef::undef::undef::undef::undef::undef::undef::undef::undef::undef::undef::undef::undef::undef::undef::undef::undef::undef::undef::undef::undef::undef::undef::undef::undef::undef:: []),[]⟩∧TB W' b9 adB nB cpB sB aB lB cB∧Pn W' adB nB (eachP (fun x=>x%((d.natAbs:Nat):Int)) qs) l2∧Zn W' sB aB lB cB (k%((d.natAbs:Nat):Int))∧lB≤l2∧nB≤np∧(∀b off,adB=some ⟨b,off,none⟩→wD.heap.size≤b)∧Std qs∧(∀v,csum qs v=csum ps v)∧wD.heap.size≤b9∧Below wD.heap.size wD W') ?_ ?_
 rotate_left
 ·refine wp_region_held_drew (S:=(fun w'=>w'.cell? ⟨p,3,none⟩=some (.slice ap np cp)∧w'.cell? ⟨p,4,none⟩=some (.bool sk)∧w'.cell? ⟨p,5,none⟩=some (.slice ak lk ck)∧w'.cell? ⟨b2,0,none⟩=some (.bool s2)∧w'.cell? ⟨b2,1,none⟩=some (.slice a2 l2 c2)∧Below wD.heap.size wD w')) k_f (aq5 x z2 (grow_drew (Below.refl _ _))) (fun hHeld=> ?_)
  show wpAnyH _ _ _ _ _ 7 _ _ _
  have kW:=grow_drew (Below.refl wD.heap.size wD)
  generalize wD.drew=wQ at*
  refine wpAnyH_take (i:=0) (oi:=⟨some 20,_,_,_,_,_⟩) (v:=?_) rfl k_f k_f k_f (fun _ _ _ h=>by cases h.1) (Or.inl ⟨by rfl,?_⟩) (by assumption) ?_
  rotate_left
  ·intro wq hSw;(try dsimp only at hSw);go_simp;(try with_reducible rfl)
  (try simp only[pz])
  refine wpAnyH_take (i:=1) (oi:=⟨some 21,_,_,_,_,_⟩) (v:=?_) rfl k_f k_f k_f (fun _ _ _ h=>by cases h.1) (Or.inl ⟨by rfl,?_⟩) (by assumption) ?_
  rotate_left
  ·intro wq hSw;(try dsimp only at hSw);go_simp;(try with_reducible rfl)
  (try simp only[pz])
  refine wpAnyH_take (i:=3) (oi:=⟨some 23,_,_,_,_,_⟩) (v:=?_) rfl k_f k_f k_f (fun _ _ _ h=>by cases h.1) (Or.inl ⟨by rfl,?_⟩) (by assumption) ?_
  rotate_left
  ·intro wq hSw;(try dsimp only at hSw);go_simp;(try with_reducible rfl)
  (try simp only[pz])
  repeat' first
   |with_reducible exact AllReadyH.nil
   |(
    refine wpAnyH_done ?_ ?_ _
    ·decide+kernel
    exact⟨rfl,_,adA,nA,cpA,sA,aA,lA,cA,adB,nB,cpB,sB,aB,lB,cB,qs,rfl,z9,hPB,hZB,hlB,Nat.le_trans hnB hnA,hnew,hStd,hcs,hbz9,kW⟩)
   |(refine wpAnyH_ready (rs:=[2,5]) ?_ ?_ ?_;decide+kernel;simp)
   |(refine wpAnyH_ready (rs:=[4,5]) ?_ ?_ ?_;decide+kernel;simp)
   |(refine wpAnyH_ready (rs:=[5]) ?_ ?_ ?_;decide+kernel;simp)
   |(refine wpAnyH_ready (rs:=[6]) ?_ ?_ ?_;decide+kernel;simp)
   |(refine wpAnyH_ready (rs:=[4]) ?_ ?_ ?_;decide+kernel;simp)
   |(refine wpAnyH_ready (rs:=[2]) ?_ ?_ ?_;decide+kernel;simp)
   |(
    first
     |(
      refine AllReadyH.cons (i:=2) (o:=⟨some 22,_,_,_,_,_⟩) rfl (fun K hK=> ?_) ?_
      go_simp
      go_at_call 44;refine Calls.mono (tnorm_n (hP.below kW) (hk.below kW) hlk o_m) ?_;rintro e wA ⟨adA,nA,cpA,sA,aA,lA,cA,rs,rfl,hTN,hnA,hStd,hcs⟩;have kA:=hTN.below;have hPA:=hTN.pn;have hZA:=hTN.zn;have hlA:=hTN.le;clear hTN;generalize rs.map Raw.p=qs at*
      try have hPB:=hPB.below kA
      try have hZB:=hZB.below kA
      try have z9:=z9.below kA
      have kW:=grow_step kA kW
      try go_wp2_with fail)
     |(
      refine AllReadyH.cons (i:=4) (o:=⟨some 24,_,_,_,_,_⟩) rfl (fun K hK=> ?_) ?_
      go_simp
      go_at_call 132;refine Calls.mono (modulo_n (B:=B+np+1) hPA.pr hZA.zm hlA (hd2.zm.below kW) hD0 o_m o_m o_m) ?_;rintro e wB ⟨adB,nB,cpB,sB,aB,lB,cB,rfl,hPB,hZB,hlB,hnB,hnewB,kB⟩;have hnew: ∀b off,adB=some ⟨b,off,none⟩→wD.heap.size≤b:=fun b off e=>Nat.le_trans kW.size (hnewB b off e)
      try have hPA:=hPA.below kB
      try have hZA:=hZA.below kB
      try have z9:=z9.below kB
      have kW:=grow_step kB kW
      try go_wp2_with fail)
     |(
      refine AllReadyH.cons (i:=5) (o:=⟨some 9,_,_,_,_,_⟩) rfl (fun K hK=> ?_) ?_
      obtain⟨wL,eL,z9,hbz9,kL,kW⟩:=al_t kW
      try have hPA:=hPA.below kL
      try have hZA:=hZA.below kL
      try have hPB:=hPB.below kL
      try have hZB:=hZB.below kL
      go_simp
      rw[eL.out])
     |(
      refine AllReadyH.cons (i:=6) (o:=⟨none,_,_,_,_,_⟩) rfl (fun K hK=> ?_) ?_
      have f0:=z9.c0
      have f1:=z9.c1
      have f2:=z9.c2
      have f3:=z9.f 0
      have f4:=z9.f 1
      have f5:=z9.f 2
      go_simp
      have hPB:=hPB.tb z9 (tb_set _ _ (.slice adB nB cpB) (.bool sB) (.slice aB lB cB))
      have hZB:=hZB.grownU (tb_set _ _ (.slice adB nB cpB) (.bool sB) (.slice aB lB cB)) (tb_noU z9)
      have z9:=tb_fin z9 adB nB cpB sB aB lB cB
      have kW:=((kW.setCell (p:=⟨_,0,none⟩) hbz9 (.slice adB nB cpB)).setCell (p:=⟨_,1,none⟩) hbz9 (.bool sB)).setCell (p:=⟨_,2,none⟩) hbz9 (.slice aB lB cB))
    refine hK.out _ _ ?_ ?_
    ·(try dsimp only);exact aq5 x z2 kW
    clear hK K hHeld;intro hHeld
    (try simp only[pz]))
 rintro e a' W4 ⟨rfl,b9,adA,nA,cpA,sA,aA,lA,cA,adB,nB,cpB,sB,aB,lB,cB,qs,rfl,z9,hPB,hZB,hlB,hnB,hnew,hStd,hcs,hb9,k4⟩
 replace x:=x.below k4
 replace y:=y.below k4
 replace z2:=z2.below k4
 replace hd2:=hd2.below k4
 have K4:=hide (grow_step k4 k2.out)
 have hb29:b2<b9:=by have h1:=hb9;have h2:=(show b2<wD.heap.size from hb2D);omega
 clear hP hk k2 k4
 have u0:=z9.c0
 have u1:=z9.c1
 have u2:=z9.c2
 have u3:=z2.c0
 have u4:=z2.c1
 go_wp2_with fail
 have hrow:(W4.alloc (.cells #[.bool s2,.slice a2 l2 c2] 26)).ownsRow W4.heap.size 26 2 (.slice (some ⟨W4.heap.size,0,none⟩) 1 1) 1 ([(⟨0,s2,a2,l2,c2,((d.natAbs:Nat):Int)⟩:Raw)].flatMap encN):=
  ⟨rfl,.inr ⟨W4.heap.size,1,_,rfl,Nat.le_refl _,heap_alloc_new W4 _,Nat.le_refl _,by decide,rfl,rfl⟩⟩
 refine(common_n (w0:=W4) (below_alloc W4 _) hPB.pr hrow rfl (fun x hx=>by rw[List.mem_singleton.1 hx];exact⟨hd2.zm,Nat.le_refl _⟩) o_m o_m o_m).mono ?_
 rintro e W5 ⟨sG,aG,lG,cG,rfl,hG,hlG,k5⟩
 rw[show gcdZ ([(⟨0,s2,a2,l2,c2,((d.natAbs:Nat):Int)⟩:Raw)].map Raw.z)=d.natAbs from by simp[gcdZ]]at hG
 have zG:=zb_new W5 sG aG lG cG
 have kz:=below_alloc W5 (.cells #[.bool sG,.slice aG lG cG] 26)
 have kk:=grow_step kz k5
 have hb9W:b9<W5.heap.size:=(z9.below k5).lt
 replace x:=x.below kk
 replace y:=y.below kk
 replace z2:=z2.below kk
 replace z9:=z9.below kk
 replace hd2:=hd2.below kk
 replace hPB:=hPB.below kk
 replace hZB:=hZB.below kk
 replace hG:=hG.below kz
 replace K4:=hide (grow_step kk K4.out)
 clear u0 u1 u2 u3 u4 hrow k5 kz kk
 have u1:=z9.c1
 have u2:=z9.c2
 have u3:=zG.c0
 have u4:=zG.c1
 go_wp2_with fail
 generalize W5.alloc (.cells #[.bool sG,.slice aG lG cG] 26)=W6 at*
 generalize W5.heap.size=bG at*
 generalize hts:eachP (fun x=>x%((d.natAbs:Nat):Int)) qs=ts at*
 generalize hkD:k%((d.natAbs:Nat):Int)=kD at*
 have hGp:0<gcdL d.natAbs ts:=gcdL_pos (.inl o_m)
 generalize hGG:gcdL d.natAbs ts=G at*
 have hdF:Hid (divF kd d qs k=divG kd d.natAbs ts kD):=(show _=_ by unfold divF;rw[hts,hkD])
 replace hts:=hide hts
 replace hkD:=hide hkD
 replace hGG:=hide hGG
 have hlG9:lG≤1099511627776:=by
  have h1:(1+nB)*l2≤262145*4194000:=Nat.mul_le_mul o_m o_m
  omega
 clear hlG
 refine(divides_n hG.zm hZB.zm hlG9 o_m o_m).mono ?_
 rintro e W7 ⟨rfl,k7⟩
 replace x:=x.below k7
 replace y:=y.below k7
 replace z2:=z2.below k7
 replace z9:=z9.below k7
 replace zG:=zG.below k7
 replace hd2:=hd2.below k7
 replace hPB:=hPB.below k7
 replace hZB:=hZB.below k7
 replace hG:=hG.below k7
 replace K4:=hide (grow_step k7 K4.out)
 clear u1 u2 u3 u4 k7
 by_cases hdv:((G:Nat):Int)∣kD
 ·rw[show decide (((G:Nat):Int)∣kD)=true from by simp[hdv]]
  replace hdv:=hide hdv
  have u1:=z2.c0
  have u2:=z2.c1
  have u3:=zG.c0
  have u4:=zG.c1
  go_wp2_with fail
  refine(quotient_n hd2.zm hG.zm o_m hlG9 o_m).mono ?_
  rintro e W8 ⟨s3,a3,l3,c3,rfl,hd3,k8,hl3⟩
  replace x:=x.below k8
  replace y:=y.below k8
  replace z2:=z2.below k8
  replace z9:=z9.below k8
  replace zG:=zG.below k8
  replace hPB:=hPB.below k8
  replace hZB:=hZB.below k8
  replace hG:=hG.below k8
  replace K4:=hide (grow_step k8 K4.out)
  clear u1 u2 u3 u4 k8 hd2
  have v1:=z2.c0
  have v2:=z2.c1
  have v3:=z2.f 0
  have v4:=z2.f 1
  have g8:=zb2_set W8 b2 (.bool s3) (.slice a3 l3 c3)
  have hU:=zb2_noU z2
  have x8:AB _ p kd sd ad ld cd ap np cp sk ak lk ck:=(g8.block p x.lt (by simp;omega)).trans x
  have y8:AB _ r 0 false none 0 0 none 0 0 false none 0 0:=(g8.block r y.lt (by simp;omega)).trans y
  have z98:TB _ b9 adB nB cpB sB aB lB cB:=(g8.block b9 z9.lt (by simp;omega)).trans z9
  have zG8:ZB _ bG sG aG lG cG:=(g8.block bG zG.lt (by simp;omega)).trans zG
  have hd38:=zb_zn z2 hd3 s3 a3 l3 c3
  have z28:=zb_fin z2 s3 a3 l3 c3
  have hPB8:=hPB.away (fun b off e=>by have:=hnew b off e;omega) g8 hU
  have hZB8:=hZB.grownU g8 hU
  have hG8:=hG.grownU g8 hU
  have hwb2:w.heap.size≤b2:=by have:=hpr.out;omega
  have K8:=hide (below_grown K4.out g8 hwb2)
  clear x y z2 z9 zG hd3 hPB hZB hG K4 hU g8
  have HH:=hide (And.intro x8 (And.intro y8 (And.intro z98 (And.intro zG8 (And.intro hd38 (And.intro z28 (And.intro hPB8 (And.intro hZB8 hG8))))))))
  have u1:=z28.c0
  have u2:=z28.c1
  clear x8 y8 z98 zG8 hd38 z28 hPB8 hZB8 hG8
  go_wp2_with fail
  obtain⟨x,y,z9,zG,hd3,z2,hPB,hZB,hG⟩:=HH.out
  clear HH u1 u2
  generalize (W8.setCell ⟨b2,0,none⟩ (.bool s3)).setCell ⟨b2,1,none⟩ (.slice a3 l3 c3)=W9 at*
  generalize hDD:((d.natAbs:Nat):Int) / ((G:Nat):Int)=D1 at*
  replace hDD:=hide hDD
  by_cases hD1:D1=1
  ·have hcm:Hid (cmpI D1 1=0):=(show _=_ by unfold cmpI;rw[if_neg o_m,if_neg o_m])
   go_region_held3 (fun w'=>w'.cell? ⟨b2,0,none⟩=some (.bool s3)∧w'.cell? ⟨b2,1,none⟩=some (.slice a3 l3 c3)∧Below W9.heap.size W9 w')
    ((refine zq2 z2 ?_;(with_reducible repeat' first|exact Below.refl _ _|assumption|refine grow_step (by assumption) ?_|refine grow_drew ?_|refine grow_alloc ?_ _|refine grow_drewN ?_ _)))
    (first|(go_at_call 22;with_reducible refine(zof_n 1 (by decide) (by decide) _).mono ?_;rintro e w' ⟨s4,a4,l4,c4,rfl,z4,hg,hl4⟩)|(go_at_call 133;with_reducible refine(zcmp_n (Zn.zm (Zn.below hd3 gw)) (Zn.zm (Zn.below z4 gw)) (by omega) (by omega)).mono ?_;rintro e w'' ⟨rfl,hg2⟩;rw[hcm.out]))
   rename_i hH
   have kH:=hH.2.2
   have hfm:Hid (divF kd d qs k=⟨al,0,[],0⟩):=(show _=_ by rw[hdF.out];unfold divG;rw[hGG.out,if_neg (not_not_intro hdv.out),if_pos (hDD.out.trans hD1),hal.out])
   replace y:=y.below kH
   have K9:=hide (grow_step kH K8.out)
   clear hH kH hg hg2 hd3 hPB hZB hG x z9 zG z2 K8
   have e0:=y.c0
   have e1:=y.c1
   have e2:=y.c2
   have e3:=y.c3
   have e4:=y.c4
   have e5:=y.c5
   have f0:=y.f 0
   have f1:=y.f 1
   have f2:=y.f 2
   have f3:=y.f 3
   have f4:=y.f 4
   have f5:=y.f 5
   have g6:=ab_set w'' r (.int .i64 al) (.bool false) (.slice none 0 0) (.slice none 0 0) (.bool false) (.slice none 0 0)
   have kf:=hide (below_grown K9.out g6 (by have:=hpr.out;omega))
   have hfin:=hide (ab_fin y al false none 0 0 none 0 0 false none 0 0)
   replace hStd:=hide hStd
   replace hcs:=hide hcs
   go_wp2
   refine bodyPost_ret (results_ct rfl _ _ r 57 _ (0,0) _ rfl hfin.out Tryz.underlying57 rfl k_f) rfl ?_
   refine⟨qs,hStd.out,hcs.out,?_,kf.out⟩
   rw[hfm.out]
   exact⟨false,none,0,0,none,0,0,false,none,0,0,by simp,zn_zero _,by omega,pn_nil _ _ _,by omega,zn_zero _,by omega,fun _ _ h=>by cases h⟩
  obtain⟨cc,hcm,hc0⟩: ∃cc,Hid (cmpI D1 1=cc)∧(cc==0)=false:=⟨_,rfl,by rw[beq_eq_false_iff_ne];unfold cmpI;split <;> (try split) <;> omega⟩
  go_region_held3 (fun w'=>w'.cell? ⟨b2,0,none⟩=some (.bool s3)∧w'.cell? ⟨b2,1,none⟩=some (.slice a3 l3 c3)∧Below W9.heap.size W9 w')
   ((refine zq2 z2 ?_;(with_reducible repeat' first|exact Below.refl _ _|assumption|refine grow_step (by assumption) ?_|refine grow_drew ?_|refine grow_alloc ?_ _|refine grow_drewN ?_ _)))
   (first|(go_at_call 22;with_reducible refine(zof_n 1 (by decide) (by decide) _).mono ?_;rintro e w' ⟨s4,a4,l4,c4,rfl,z4,hg,hl4⟩)|(go_at_call 133;with_reducible refine(zcmp_n (Zn.zm (Zn.below hd3 gw)) (Zn.zm (Zn.below z4 gw)) (by omega) (by omega)).mono ?_;rintro e w'' ⟨rfl,hg2⟩;rw[hcm.out]))
  rename_i hH
  have kH:=hH.2.2
  have hfm:Hid (divF kd d qs k=fstF kd D1 (eachP (fun x=>x / ((G:Nat):Int)) ts) (kD / ((G:Nat):Int))):=(show _=_ by rw[hdF.out];unfold divG;rw[hGG.out,if_neg (not_not_intro hdv.out),hDD.out,if_neg hD1])
  replace x:=x.below kH
  replace y:=y.below kH
  replace z2:=z2.below kH
  replace z9:=z9.below kH
  replace zG:=zG.below kH
  replace hd3:=hd3.below kH
  replace hPB:=hPB.below kH
  replace hZB:=hZB.below kH
  replace hG:=hG.below kH
  have K9:=hide (grow_step kH K8.out)
  clear hH kH hg hg2 K8
  have u0:=z9.c0
  have u1:=z9.c1
  have u2:=z9.c2
  go_wp2_with fail
  generalize w''=WA at*
  refine(each_n (F:=fun x=>x / ((G:Nat):Int)) (C:=l2+3) (B:=l2) eg.out (fun w' s9 a9 l9 c9 z9 hb9 hz9 hl9=>(divi1_n (zG.below hb9) hz9 (hG.zm.below hb9) o_m hlG9 o_m).mono fun _ _ ⟨s',a',l',c',he,h1,h2,h3⟩=>⟨s',a',l',c',he,h1,h2,by omega⟩) hPB.pr hZB.zm hlB o_m o_m).mono ?_
  rintro e WB ⟨ad5,n5,cp5,s5,a5,l5,c5,rfl,hP5,hz5,hl5,hn5,hnew5,k5⟩
  have hWAs:b9<WA.heap.size:=z9.lt
  have hrA:r<WA.heap.size:=y.lt
  have hbGA:bG<WA.heap.size:=zG.lt
  replace x:=x.below k5
  replace y:=y.below k5
  replace z2:=z2.below k5
  replace z9:=z9.below k5
  replace hd3:=hd3.below k5
  have KB:=hide (grow_step k5 K9.out)
  clear u0 u1 u2 k5 K9 hPB hZB hG zG
  have v0:=z9.c0
  have v1:=z9.c1
  have v2:=z9.c2
  have v3:=z9.f 0
  have v4:=z9.f 1
  have v5:=z9.f 2
  have g8:=tb_set WB b9 (.slice ad5 n5 cp5) (.bool s5) (.slice a5 l5 c5)
  have x8:AB _ p kd sd ad ld cd ap np cp sk ak lk ck:=(g8.block p x.lt (by simp;omega)).trans x
  have y8:AB _ r 0 false none 0 0 none 0 0 false none 0 0:=(g8.block r y.lt (by simp;omega)).trans y
  have z28:ZB _ b2 s3 a3 l3 c3:=(g8.block b2 z2.lt (by simp;omega)).trans z2
  have hP8:=hP5.tb z9 g8
  have hz8:=hz5.grownU g8 (tb_noU z9)
  have hd8:=hd3.grownU g8 (tb_noU z9)
  have z98:=tb_fin z9 ad5 n5 cp5 s5 a5 l5 c5
  have hwb9:w.heap.size≤b9:=by have:=hpr.out;omega
  have KC:=hide (below_grown KB.out g8 hwb9)
  have HH:=hide (And.intro x8 (And.intro y8 (And.intro z28 (And.intro hP8 (And.intro hz8 (And.intro hd8 z98))))))
  clear x y z2 z9 hd3 hP5 hz5 KB g8 x8 y8 z28 hP8 hz8 hd8 z98
  go_wp2_with fail
  obtain⟨x,y,z2,hP5,hz5,hd3,z9⟩:=HH.out
  clear HH v0 v1 v2 v3 v4 v5
  generalize ((WB.setCell ⟨b9,0,none⟩ (.slice ad5 n5 cp5)).setCell ⟨b9,1,none⟩ (.bool s5)).setCell ⟨b9,2,none⟩ (.slice a5 l5 c5)=WC at*
  have hD1p:0<D1:=by
   have h1:G∣d.natAbs:=by have:=(gcdL_dvd d.natAbs ts).1;rwa [hGG.out]at this
   have h2:=Nat.div_pos (Nat.le_of_dvd o_m h1) hGp
   rw[←hDD.out]
   exact_mod_cast h2
  generalize hus:eachP (fun x=>x / ((G:Nat):Int)) ts=us at*
  generalize hkG:kD / ((G:Nat):Int)=kG at*
  refine Code.wp_mono (Q:=fun e a' W'=>e= .normal∧∃bO adN nN cpN sN aN lN cN adO nO cpO sO aO lO cO,a'=⟨List.toArray ((.agg #[.int .i64 kd,.bool sd,.slice ad ld cd,.slice ap np cp,.bool sk,.slice ak lk ck]:Value)::(.int .i64 al:Value)::(.int .i64 ne:Value)::(.pointer (some ⟨p,0,none⟩):Value)::undef::undef::(.pointer (some ⟨r,0,none⟩):Value)::(.int .i64 0:Value)::(.pointer (some ⟨b2,0,none⟩):Value)::(.pointer (some ⟨b9,0,none⟩):Value)::(.pointer (some ⟨bG,0,none⟩):Value)::(.pointer (some ⟨bO,0,none⟩):Value)::(.pointer (some ⟨p,1,none⟩):Value)::(.agg #[.bool sd,.slice ad ld cd]:Value)::(.int .i64 cz:Value)::(.bool false:Value)::undef::(.pointer (some ⟨p,1,none⟩):Value)::(.agg #[.bool sd,.slice ad ld cd]:Value)::(.agg #[.bool s2,.slice a2 l2 c2]:Value)::(.pointer (some ⟨p,3,none⟩):Value)::(.agg #[.slice ap np cp,.bool sk,.slice ak lk ck]:Value)::(.agg #[.slice adA nA cpA,.bool sA,.slice aA lA cA]:Value)::(.agg #[.bool s2,.slice a2 l2 c2]:Value)::(.agg #[.slice adB nB cpB,.bool sB,.slice aB lB cB]:Value)::(.agg #[.slice adB nB cpB,.bool sB,.slice aB lB cB]:Value)::(.agg #[.bool s2,.slice a2 l2 c2]:Value)::(.slice (some ⟨W4.heap.size,0,none⟩) 1 1:Value)::(.agg #[.bool sG,.slice aG lG cG]:Value)::(.agg #[.bool sG,.slice aG lG cG]:Value)::(.pointer (some ⟨b9,1,none⟩):Value)::(.agg #[.bool sB,.slice aB lB cB]:Value)::(.bool true:Value)::(.bool false:Value)::undef::undef::(.agg #[.bool s2,.slice a2 l2 c2]:Value)::(.agg #[.bool sG,.slice aG lG cG]:Value)::(.agg #[.bool s3,.slice a3 l3 c3]:Value)::(.agg #[.bool s3,.slice a3 l3 c3]:Value)::(.agg #[.bool s4,.slice a4 l4 c4]:Value)::(.int .i64 cc:Value)::(.bool false:Value)::undef::undef::(.agg #[.slice adB nB cpB,.bool sB,.slice aB lB cB]:Value)::(.func (.func 134) #[] #[.pointer (some ⟨bG,0,none⟩)]:Value)::(.agg #[.slice ad5 n5 cp5,.bool s5,.slice a5 l5 c5]:Value)::(.agg #[.slice ad5 n5 cp5,.bool s5,.slice a5 l5 c5]:Value)::(.agg #[.slice adN nN cpN,.bool sN,.slice aN lN cN]:Value)::(.agg #[.bool s3,.slice a3 l3 c3]:Value)::(.agg #[.slice adO nO cpO,.bool sO,.slice aO lO cO]:Value)::undef::undef::undef::undef::undef::undef::undef::undef::undef::undef:: []),[]⟩∧TB W' bO adO nO cpO sO aO lO cO∧Pn W' adO nO (oppP D1 us) l3∧Zn W' sO aO lO cO ((-kG)%D1)∧lO≤l3∧nO≤n5∧(∀b off,adO=some ⟨b,off,none⟩→WC.heap.size≤b)∧WC.heap.size≤bO∧Below WC.heap.size WC W') ?_ ?_
  rotate_left
  ·refine wp_region_held_drew (S:=(fun w'=>w'.cell? ⟨b9,0,none⟩=some (.slice ad5 n5 cp5)∧w'.cell? ⟨b9,1,none⟩=some (.bool s5)∧w'.cell? ⟨b9,2,none⟩=some (.slice a5 l5 c5)∧w'.cell? ⟨b2,0,none⟩=some (.bool s3)∧w'.cell? ⟨b2,1,none⟩=some (.slice a3 l3 c3)∧Below WC.heap.size WC w')) k_f (tq5 z9 z2 (grow_drew (Below.refl _ _))) (fun hHeld=> ?_)
   show wpAnyH _ _ _ _ _ 6 _ _ _
   have kW:=grow_drew (Below.refl WC.heap.size WC)
   generalize WC.drew=wQ at*
   refine wpAnyH_take (i:=0) (oi:=⟨some 48,_,_,_,_,_⟩) (v:=?_) rfl k_f k_f k_f (fun _ _ _ h=>by cases h.1) (Or.inl ⟨by rfl,?_⟩) (by assumption) ?_
   rotate_left
   ·intro wq hSw;(try dsimp only at hSw);go_simp;(try with_reducible rfl)
   (try simp only[pz])
   refine wpAnyH_take (i:=2) (oi:=⟨some 50,_,_,_,_,_⟩) (v:=?_) rfl k_f k_f k_f (fun _ _ _ h=>by cases h.1) (Or.inl ⟨by rfl,?_⟩) (by assumption) ?_
   rotate_left
   ·intro wq hSw;(try dsimp only at hSw);go_simp;(try with_reducible rfl)
   (try simp only[pz])
   repeat' first
    |with_reducible exact AllReadyH.nil
    |(
     refine wpAnyH_done ?_ ?_ _
     ·decide+kernel
     exact⟨rfl,_,adN,nN,cpN,sN,aN,lN,cN,adO,nO,cpO,sO,aO,lO,cO,rfl,zO,hPB,hZB,hlB2,Nat.le_trans hnB2 hnA,hnewO,hbzO,kW⟩)
    |(refine wpAnyH_ready (rs:=[1,4]) ?_ ?_ ?_;decide+kernel;simp)
    |(refine wpAnyH_ready (rs:=[3,4]) ?_ ?_ ?_;decide+kernel;simp)
    |(refine wpAnyH_ready (rs:=[4]) ?_ ?_ ?_;decide+kernel;simp)
    |(refine wpAnyH_ready (rs:=[5]) ?_ ?_ ?_;decide+kernel;simp)
    |(refine wpAnyH_ready (rs:=[3]) ?_ ?_ ?_;decide+kernel;simp)
    |(refine wpAnyH_ready (rs:=[1]) ?_ ?_ ?_;decide+kernel;simp)
    |(
     first
      |(
       refine AllReadyH.cons (i:=1) (o:=⟨some 49,_,_,_,_,_⟩) rfl (fun K hK=> ?_) ?_
       go_simp
       go_at_call 129;refine Calls.mono (each_n (F:=fun x=> -x) (C:=l2+4) (B:=l2+3) eg2.out (fun w' s9 a9 l9 c9 z9 hb9 hz9 hl9=>(neg_n hz9 o_m).mono fun _ _ ⟨s',a',l',c',he,h1,h2,h3⟩=>⟨s',a',l',c',he,h1,h2,by omega⟩) (hP5.pr.below kW) (hz5.zm.below kW) hl5 o_m o_m) ?_;rintro e wA ⟨adN,nN,cpN,sN,aN,lN,cN,rfl,hPA,hZA,hlA,hnA,-,kA⟩
       try have hPB:=hPB.below kA
       try have hZB:=hZB.below kA
       try have zO:=zO.below kA
       have kW:=grow_step kA kW
       try go_wp2_with fail)
      |(
       refine AllReadyH.cons (i:=3) (o:=⟨some 51,_,_,_,_,_⟩) rfl (fun K hK=> ?_) ?_
       go_simp
       go_at_call 132;refine Calls.mono (modulo_n (B:=l2+4) hPA.pr hZA.zm hlA (hd3.zm.below kW) hD1p o_m o_m o_m) ?_;rintro e wB ⟨adO,nO,cpO,sO,aO,lO,cO,rfl,hPB,hZB,hlB2,hnB2,hnewB,kB⟩;have hnewO: ∀b off,adO=some ⟨b,off,none⟩→WC.heap.size≤b:=fun b off e=>Nat.le_trans kW.size (hnewB b off e)
       try have hPA:=hPA.below kB
       try have hZA:=hZA.below kB
       try have zO:=zO.below kB
       have kW:=grow_step kB kW
       try go_wp2_with fail)
      |(
       refine AllReadyH.cons (i:=4) (o:=⟨some 11,_,_,_,_,_⟩) rfl (fun K hK=> ?_) ?_
       obtain⟨wL,eL,zO,hbzO,kL,kW⟩:=al_t kW
       try have hPA:=hPA.below kL
       try have hZA:=hZA.below kL
       try have hPB:=hPB.below kL
       try have hZB:=hZB.below kL
       go_simp
       rw[eL.out])
      |(
       refine AllReadyH.cons (i:=5) (o:=⟨none,_,_,_,_,_⟩) rfl (fun K hK=> ?_) ?_
       have f0:=zO.c0
       have f1:=zO.c1
       have f2:=zO.c2
       have f3:=zO.f 0
       have f4:=zO.f 1
       have f5:=zO.f 2
       go_simp
       have hPB:=hPB.tb zO (tb_set _ _ (.slice adO nO cpO) (.bool sO) (.slice aO lO cO))
       have hZB:=hZB.grownU (tb_set _ _ (.slice adO nO cpO) (.bool sO) (.slice aO lO cO)) (tb_noU zO)
       have zO:=tb_fin zO adO nO cpO sO aO lO cO
       have kW:=((kW.setCell (p:=⟨_,0,none⟩) hbzO (.slice adO nO cpO)).setCell (p:=⟨_,1,none⟩) hbzO (.bool sO)).setCell (p:=⟨_,2,none⟩) hbzO (.slice aO lO cO))
     refine hK.out _ _ ?_ ?_
     ·(try dsimp only);exact tq5 z9 z2 kW
     clear hK K hHeld;intro hHeld
     (try simp only[pz]))
  rintro e a' WE ⟨rfl,bO,adN,nN,cpN,sN,aN,lN,cN,adO,nO,cpO,sO,aO,lO,cO,rfl,zO,hPO,hZO,hlO,hnO,hnewO,hbO,kE⟩
  have hbO9:b9<bO:=by have h1:=z9.lt;omega
  have hrC:r<WC.heap.size:=y.lt
  replace x:=x.below kE
  replace y:=y.below kE
  replace z2:=z2.below kE
  replace z9:=z9.below kE
  replace hd3:=hd3.below kE
  replace hP5:=hP5.below kE
  replace hz5:=hz5.below kE
  have KE:=hide (grow_step kE KC.out)
  have hStdU:Std us:=by rw[←hus,←hts.out];exact eachP_std (eachP_std hStd)
  have hStdO:Std (oppP D1 us):=eachP_std (eachP_std hStdU)
  clear kE KC
  have u0:=z9.c0
  have u1:=z9.c1
  have u2:=z9.c2
  have u3:=zO.c0
  have u4:=zO.c1
  have u5:=zO.c2
  go_wp2_with fail
  refine(torder_n (B:=l2+4) (hPO.pr.mono o_m) hZO.zm o_m (hP5.pr.mono o_m) hz5.zm o_m o_m o_m).mono ?_
  rintro e WF ⟨ps',qs',rfl,hSp,hSq,hcp,hcq,kF⟩
  obtain rfl:ps'=oppP D1 us:=std_unique hSp hStdO hcp
  obtain rfl:qs'=us:=std_unique hSq hStdU hcq
  replace x:=x.below kF
  replace y:=y.below kF
  replace z2:=z2.below kF
  replace z9:=z9.below kF
  replace zO:=zO.below kF
  replace hd3:=hd3.below kF
  replace hP5:=hP5.below kF
  replace hz5:=hz5.below kF
  replace hPO:=hPO.below kF
  replace hZO:=hZO.below kF
  replace KE:=hide (grow_step kF KE.out)
  clear u0 u1 u2 u3 u4 u5 kF hSp hSq hcp hcq
  by_cases hor:ordT (oppP D1 qs') qs' ((-kG)%D1) kG<0
  ·have hfm2:Hid (divF kd d qs k=⟨kd,D1,oppP D1 qs',(-kG)%D1⟩):=(show _=_ by rw[hfm.out];unfold fstF;rw[if_pos hor])
   generalize ordT (oppP D1 qs') qs' ((-kG)%D1) kG=oo at*
   have u0:=zO.c0
   have u1:=zO.c1
   have u2:=zO.c2
   have v0:=z9.c0
   have v1:=z9.c1
   have v2:=z9.c2
   have v3:=z9.f 0
   have v4:=z9.f 1
   have v5:=z9.f 2
   have g8:=tb_set WF b9 (.slice adO nO cpO) (.bool sO) (.slice aO lO cO)
   have x8:AB _ p kd sd ad ld cd ap np cp sk ak lk ck:=(g8.block p x.lt (by simp;omega)).trans x
   have y8:AB _ r 0 false none 0 0 none 0 0 false none 0 0:=(g8.block r y.lt (by simp;omega)).trans y
   have z28:ZB _ b2 s3 a3 l3 c3:=(g8.block b2 z2.lt (by simp;omega)).trans z2
   have hP8:=hPO.tb z9 g8
   have hz8:=hZO.grownU g8 (tb_noU z9)
   have hd8:=hd3.grownU g8 (tb_noU z9)
   have z98:=tb_fin z9 adO nO cpO sO aO lO cO
   have KG:=hide (below_grown KE.out g8 hwb9)
   have p0:=x8.c0
   have t0:=z98.c0
   have t1:=z98.c1
   have t2:=z98.c2
   have q0:=z28.c0
   have q1:=z28.c1
   have e0:=y8.c0
   have e1:=y8.c1
   have e2:=y8.c2
   have e3:=y8.c3
   have e4:=y8.c4
   have e5:=y8.c5
   have f0:=y8.f 0
   have f1:=y8.f 1
   have f2:=y8.f 2
   have f3:=y8.f 3
   have f4:=y8.f 4
   have f5:=y8.f 5
   have g6:=ab_set (((WF.setCell ⟨b9,0,none⟩ (.slice adO nO cpO)).setCell ⟨b9,1,none⟩ (.bool sO)).setCell ⟨b9,2,none⟩ (.slice aO lO cO)) r (.int .i64 kd) (.bool s3) (.slice a3 l3 c3) (.slice adO nO cpO) (.bool sO) (.slice aO lO cO)
   have hPf:=hide (hP8.away (fun b off e=>by have:=hnewO b off e;omega) g6 (ab_noU y8))
   have hzf:=hide (hz8.grownU g6 (ab_noU y8))
   have hdf:=hide (hd8.grownU g6 (ab_noU y8))
   have kf:=hide (below_grown KG.out g6 (by have:=hpr.out;omega))
   replace hStd:=hide hStd
   replace hcs:=hide hcs
   have hnw:Hid (∀b off,adO=some ⟨b,off,none⟩→w.heap.size≤b):=(fun b off e=>by have h1:=hnewO b off e;have h2:=hpr.out;omega)
   clear g6 hnew hnew5 hnewO
   clear x y z2 z9 zO hd3 hP5 hz5 hPO hZO KE g8 x8 z28 hP8 hz8 hd8 z98
   go_wp2
   refine bodyPost_ret (results_ct rfl _ _ r 57 _ (0,0) _ rfl (ab_fin y8 kd s3 a3 l3 c3 adO nO cpO sO aO lO cO) Tryz.underlying57 rfl k_f) rfl ?_
   refine⟨qs,hStd.out,hcs.out,?_,kf.out⟩
   rw[hfm2.out]
   exact⟨s3,a3,l3,c3,adO,nO,cpO,sO,aO,lO,cO,by simp,hdf.out,by omega,hPf.out.mono o_m,by omega,hzf.out,by omega,hnw.out⟩
  have hfm2:Hid (divF kd d qs k=⟨kd,D1,qs',kG⟩):=(show _=_ by rw[hfm.out];unfold fstF;rw[if_neg hor])
  generalize ordT (oppP D1 qs') qs' ((-kG)%D1) kG=oo at*
  have p0:=x.c0
  have t0:=z9.c0
  have t1:=z9.c1
  have t2:=z9.c2
  have q0:=z2.c0
  have q1:=z2.c1
  have e0:=y.c0
  have e1:=y.c1
  have e2:=y.c2
  have e3:=y.c3
  have e4:=y.c4
  have e5:=y.c5
  have f0:=y.f 0
  have f1:=y.f 1
  have f2:=y.f 2
  have f3:=y.f 3
  have f4:=y.f 4
  have f5:=y.f 5
  have g6:=ab_set WF r (.int .i64 kd) (.bool s3) (.slice a3 l3 c3) (.slice ad5 n5 cp5) (.bool s5) (.slice a5 l5 c5)
  have hPf:=hide (hP5.away (fun b off e=>by have:=hnew5 b off e;omega) g6 (ab_noU y))
  have hzf:=hide (hz5.grownU g6 (ab_noU y))
  have hdf:=hide (hd3.grownU g6 (ab_noU y))
  have kf:=hide (below_grown KE.out g6 (by have:=hpr.out;omega))
  replace hStd:=hide hStd
  replace hcs:=hide hcs
  have hnw:Hid (∀b off,ad5=some ⟨b,off,none⟩→w.heap.size≤b):=(fun b off e=>by have h1:=hnew5 b off e;have h2:=hpr.out;omega)
  clear g6 hnew hnew5 hnewO
  clear x z2 z9 zO hd3 hP5 hz5 hPO hZO KE
  go_wp2
  refine bodyPost_ret (results_ct rfl _ _ r 57 _ (0,0) _ rfl (ab_fin y kd s3 a3 l3 c3 ad5 n5 cp5 s5 a5 l5 c5) Tryz.underlying57 rfl k_f) rfl ?_
  refine⟨qs,hStd.out,hcs.out,?_,kf.out⟩
  rw[hfm2.out]
  exact⟨s3,a3,l3,c3,ad5,n5,cp5,s5,a5,l5,c5,by simp,hdf.out,by omega,hPf.out.mono o_m,by omega,hzf.out,by omega,hnw.out⟩
 rw[show decide (((G:Nat):Int)∣kD)=false from by simp[hdv]]
 have hfm:Hid (divF kd d qs k=⟨ne,0,[],0⟩):=(show _=_ by rw[hdF.out];unfold divG;rw[hGG.out,if_pos hdv,hne.out])
 clear hdv
 have e0:=y.c0
 have e1:=y.c1
 have e2:=y.c2
 have e3:=y.c3
 have e4:=y.c4
 have e5:=y.c5
 have f0:=y.f 0
 have f1:=y.f 1
 have f2:=y.f 2
 have f3:=y.f 3
 have f4:=y.f 4
 have f5:=y.f 5
 have g6:=ab_set W7 r (.int .i64 ne) (.bool false) (.slice none 0 0) (.slice none 0 0) (.bool false) (.slice none 0 0)
 have kf:=hide (below_grown K4.out g6 (by have:=hpr.out;omega))
 have hfin:=hide (ab_fin y ne false none 0 0 none 0 0 false none 0 0)
 replace hStd:=hide hStd
 replace hcs:=hide hcs
 go_wp2
 refine bodyPost_ret (results_ct rfl _ _ r 57 _ (0,0) _ rfl hfin.out Tryz.underlying57 rfl k_f) rfl ?_
 refine⟨qs,hStd.out,hcs.out,?_,kf.out⟩
 rw[hfm.out]
 exact⟨false,none,0,0,none,0,0,false,none,0,0,by simp,zn_zero _,by omega,pn_nil _ _ _,by omega,zn_zero _,by omega,fun _ _ h=>by cases h⟩

def AZ (e:Ending)(er:Int):Prop:=e= .returned (.tuple #[.agg #[.int .i64 0,.bool false,.slice none 0 0,.slice none 0 0,.bool false,.slice none 0 0],.int .i64 er])
def AN (w:World)(e:Ending)(f:Atm ⊕ Int)(B B0:Nat):Prop:=match f with
 | .inl f=>AE w e f B B0
 | .inr er=>AZ e er

theorem divi_0 {w:World}{kd:Int}{sd:Bool}{ad:Option Addr}{ld cd:Nat}{ap:Option Addr}{np cp:Nat}{sk:Bool}{ak:Option Addr}{lk ck:Nat}{al ne:Int}
  (hd:Zm w sd ad ld cd 0)(hld:ld≤1099511627776):
  Calls Tryz.prog 100 #[.agg #[.int .i64 kd,.bool sd,.slice ad ld cd,.slice ap np cp,.bool sk,.slice ak lk ck],.int .i64 al,.int .i64 ne] w fun e w'=>AZ e 11∧Below w.heap.size w w':=by
 go_enter Tryz.func100,Tryz.ntmps100
 go_wp2_with fail
 have y:=AB.new (w.alloc (.cells #[.int .i64 kd,.bool sd,.slice ad ld cd,.slice ap np cp,.bool sk,.slice ak lk ck] 57)) 0 false none 0 0 none 0 0 false none 0 0
 rw[show(w.alloc (.cells #[.int .i64 kd,.bool sd,.slice ad ld cd,.slice ap np cp,.bool sk,.slice ak lk ck] 57)).heap.size=w.heap.size+1 from by simp]at y
 have b0:Below w.heap.size w ((w.alloc (.cells #[.int .i64 kd,.bool sd,.slice ad ld cd,.slice ap np cp,.bool sk,.slice ak lk ck] 57)).alloc (.cells #[.int .i64 0,.bool false,.slice none 0 0,.slice none 0 0,.bool false,.slice none 0 0] 57)):=below_alloc' (below_alloc _ _) _
 generalize (w.alloc (.cells #[.int .i64 kd,.bool sd,.slice ad ld cd,.slice ap np cp,.bool sk,.slice ak lk ck] 57)).alloc (.cells #[.int .i64 0,.bool false,.slice none 0 0,.slice none 0 0,.bool false,.slice none 0 0] 57)=wb at*
 have hr:w.heap.size≤w.heap.size+1:=by omega
 generalize w.heap.size+1=r at*
 refine(zsign_n (hd.below b0) hld).mono ?_
 rintro e w1 ⟨rfl,k1⟩
 rw[show cmpI 0 0=0 from rfl]
 replace y:=y.below k1
 have K1:=grow_step k1 b0
 have e0:=y.c0
 have e1:=y.c1
 have e2:=y.c2
 have e3:=y.c3
 have e4:=y.c4
 have e5:=y.c5
 have f0:=y.f 0
 have f1:=y.f 1
 have f2:=y.f 2
 have f3:=y.f 3
 have f4:=y.f 4
 have f5:=y.f 5
 have g6:=ab_set w1 r (.int .i64 0) (.bool false) (.slice none 0 0) (.slice none 0 0) (.bool false) (.slice none 0 0)
 have kf:=hide (below_grown K1 g6 hr)
 clear g6 K1 k1 b0
 go_wp2
 refine bodyPost_ret (results_ct rfl _ _ r 57 _ (0,0) _ rfl (ab_fin y 0 false none 0 0 none 0 0 false none 0 0) Tryz.underlying57 rfl k_f) rfl ?_
 exact⟨rfl,kf.out⟩

theorem anorm_n {w:World}{kd:Int}{sd:Bool}{ad:Option Addr}{ld cd:Nat}{ap:Option Addr}{np cp:Nat}{sk:Bool}{ak:Option Addr}{lk ck:Nat}{d k:Int}{ps:List (Int × Int)}{B:Nat}
  (hd:Zm w sd ad ld cd d)(hld:ld≤B)(hP:Pr w ap np ps B)(hk:Zm w sk ak lk ck k)(hlk:lk≤B)(hn:np≤262144)(hB:B+np+1≤4194000):
  Calls Tryz.prog 56 #[.agg #[.int .i64 kd,.bool sd,.slice ad ld cd,.slice ap np cp,.bool sk,.slice ak lk ck]] w fun e w'=> ∃qs,Std qs∧(∀v,csum qs v=csum ps v)∧AN w' e (formA kd d qs k) (B+np+16) w.heap.size∧Below w.heap.size w w':=by
 obtain⟨q0,hq0,hq1⟩: ∃qs,Std qs∧∀v,csum qs v=csum ps v:=⟨nz (lays [] ps),std_lays ps,fun v=>csum_nzl ps v⟩
 by_cases h0:kd=0
 ·subst h0
  have y:=AB.new (w.alloc (.cells #[.int .i64 0,.bool sd,.slice ad ld cd,.slice ap np cp,.bool sk,.slice ak lk ck] 57)) 0 false none 0 0 none 0 0 false none 0 0
  rw[show(w.alloc (.cells #[.int .i64 0,.bool sd,.slice ad ld cd,.slice ap np cp,.bool sk,.slice ak lk ck] 57)).heap.size=w.heap.size+1 from by simp]at y
  have b0:Below w.heap.size w ((w.alloc (.cells #[.int .i64 0,.bool sd,.slice ad ld cd,.slice ap np cp,.bool sk,.slice ak lk ck] 57)).alloc (.cells #[.int .i64 0,.bool false,.slice none 0 0,.slice none 0 0,.bool false,.slice none 0 0] 57)):=below_alloc' (below_alloc _ _) _
  have HH:=hide (And.intro y b0)
  clear y b0
  go_enter Tryz.func56,Tryz.ntmps56
  go_wp2
  obtain⟨y,b0⟩:=HH.out
  refine bodyPost_ret (results_ct rfl _ _ (w.heap.size+1) 57 _ (0,0) _ rfl y Tryz.underlying57 rfl k_f) rfl ?_
  exact⟨q0,hq0,hq1,⟨false,none,0,0,none,0,0,false,none,0,0,rfl,zn_zero _,by omega,pn_nil _ _ _,by omega,zn_zero _,by omega,fun _ _ h=>by cases h⟩,b0⟩
 by_cases h1:kd=1
 ·subst h1
  have y:=AB.new (w.alloc (.cells #[.int .i64 1,.bool sd,.slice ad ld cd,.slice ap np cp,.bool sk,.slice ak lk ck] 57)) 1 false none 0 0 none 0 0 false none 0 0
  rw[show(w.alloc (.cells #[.int .i64 1,.bool sd,.slice ad ld cd,.slice ap np cp,.bool sk,.slice ak lk ck] 57)).heap.size=w.heap.size+1 from by simp]at y
  have b0:Below w.heap.size w ((w.alloc (.cells #[.int .i64 1,.bool sd,.slice ad ld cd,.slice ap np cp,.bool sk,.slice ak lk ck] 57)).alloc (.cells #[.int .i64 1,.bool false,.slice none 0 0,.slice none 0 0,.bool false,.slice none 0 0] 57)):=below_alloc' (below_alloc _ _) _
  have HH:=hide (And.intro y b0)
  clear y b0
  go_enter Tryz.func56,Tryz.ntmps56
  go_wp2
  obtain⟨y,b0⟩:=HH.out
  refine bodyPost_ret (results_ct rfl _ _ (w.heap.size+1) 57 _ (0,0) _ rfl y Tryz.underlying57 rfl k_f) rfl ?_
  exact⟨q0,hq0,hq1,⟨false,none,0,0,none,0,0,false,none,0,0,rfl,zn_zero _,by omega,pn_nil _ _ _,by omega,zn_zero _,by omega,fun _ _ h=>by cases h⟩,b0⟩
 by_cases h2:kd=2
 ·subst h2
  clear h0 h1 q0 hq0 hq1
  have x:=(AB.new w 2 sd ad ld cd ap np cp sk ak lk ck).below (below_alloc _ (.cells #[.int .i64 0,.bool false,.slice none 0 0,.slice none 0 0,.bool false,.slice none 0 0] 57))
  have y:=AB.new (w.alloc (.cells #[.int .i64 2,.bool sd,.slice ad ld cd,.slice ap np cp,.bool sk,.slice ak lk ck] 57)) 0 false none 0 0 none 0 0 false none 0 0
  rw[show(w.alloc (.cells #[.int .i64 2,.bool sd,.slice ad ld cd,.slice ap np cp,.bool sk,.slice ak lk ck] 57)).heap.size=w.heap.size+1 from by simp]at y
  have b0:Below w.heap.size w ((w.alloc (.cells #[.int .i64 2,.bool sd,.slice ad ld cd,.slice ap np cp,.bool sk,.slice ak lk ck] 57)).alloc (.cells #[.int .i64 0,.bool false,.slice none 0 0,.slice none 0 0,.bool false,.slice none 0 0] 57)):=below_alloc' (below_alloc _ _) _
  have HH:=hide (And.intro x (And.intro y (And.intro b0 (And.intro (hP.below b0) (And.intro (hd.below b0) (hk.below b0))))))
  clear x y b0
  go_enter Tryz.func56,Tryz.ntmps56
  go_wp2_with fail
  obtain⟨x,y,b0,hP,hd,hk⟩:=HH.out
  clear HH
  generalize (w.alloc (.cells #[.int .i64 2,.bool sd,.slice ad ld cd,.slice ap np cp,.bool sk,.slice ak lk ck] 57)).alloc (.cells #[.int .i64 0,.bool false,.slice none 0 0,.slice none 0 0,.bool false,.slice none 0 0] 57)=wb at*
  have hr:w.heap.size≤w.heap.size+1:=by omega
  generalize w.heap.size+1=r at*
  generalize hp:w.heap.size=p at*
  replace hp:=hide hp
  refine(less_n hP hk hlk o_m o_m).mono ?_
  rintro e w1 ⟨qs,hS,hc,⟨sd1,ad1,ld1,cd1,ap1,np1,cp1,sk1,ak1,lk1,ck1,rfl,hz1,hlz1,hPn1,hnp1,hk1,hlk1,hnew1⟩,k1⟩
  have hfm:Hid (formA 2 d qs k= .inl (lessF qs k)):=(show _=_ by unfold formA;rw[if_neg (by decide),if_pos rfl])
  generalize lessF qs k=ff at*
  have hrl:=y.lt
  replace y:=y.below k1
  have e0:=y.c0
  have e1:=y.c1
  have e2:=y.c2
  have e3:=y.c3
  have e4:=y.c4
  have e5:=y.c5
  have f0:=y.f 0
  have f1:=y.f 1
  have f2:=y.f 2
  have f3:=y.f 3
  have f4:=y.f 4
  have f5:=y.f 5
  have g6:=ab_set w1 r (.int .i64 ff.kind) (.bool sd1) (.slice ad1 ld1 cd1) (.slice ap1 np1 cp1) (.bool sk1) (.slice ak1 lk1 ck1)
  have hPf:=hide (hPn1.away (fun b off e=>by have:=hnew1 b off e;omega) g6 (ab_noU y))
  have hzf:=hide (hk1.grownU g6 (ab_noU y))
  have hdf:=hide (hz1.grownU g6 (ab_noU y))
  have kf:=hide (below_grown (grow_step k1 (show Below w.heap.size w wb from hp.out.symm▸b0)) g6 (by have:=hp.out;omega))
  have hnw:Hid (∀b off,ap1=some ⟨b,off,none⟩→w.heap.size≤b):=(fun b off e=>by have h1:=hnew1 b off e;have h2:=hp.out;omega)
  replace hS:=hide hS
  replace hc:=hide hc
  clear g6 hPn1 hk1 hz1 hnew1 hP hd hk x b0 k1
  go_wp2
  refine bodyPost_ret (results_ct rfl _ _ r 57 _ (0,0) _ rfl (ab_fin y ff.kind sd1 ad1 ld1 cd1 ap1 np1 cp1 sk1 ak1 lk1 ck1) Tryz.underlying57 rfl k_f) rfl ?_
  refine⟨qs,hS.out,hc.out,?_,kf.out⟩
  rw[hfm.out]
  exact⟨sd1,ad1,ld1,cd1,ap1,np1,cp1,sk1,ak1,lk1,ck1,by simp,hdf.out,hlz1,hPf.out,hnp1,hzf.out,hlk1,hnw.out⟩
 by_cases h3:kd=3
 ·subst h3
  clear h0 h1 h2
  have x:=(AB.new w 3 sd ad ld cd ap np cp sk ak lk ck).below (below_alloc _ (.cells #[.int .i64 0,.bool false,.slice none 0 0,.slice none 0 0,.bool false,.slice none 0 0] 57))
  have y:=AB.new (w.alloc (.cells #[.int .i64 3,.bool sd,.slice ad ld cd,.slice ap np cp,.bool sk,.slice ak lk ck] 57)) 0 false none 0 0 none 0 0 false none 0 0
  rw[show(w.alloc (.cells #[.int .i64 3,.bool sd,.slice ad ld cd,.slice ap np cp,.bool sk,.slice ak lk ck] 57)).heap.size=w.heap.size+1 from by simp]at y
  have b0:Below w.heap.size w ((w.alloc (.cells #[.int .i64 3,.bool sd,.slice ad ld cd,.slice ap np cp,.bool sk,.slice ak lk ck] 57)).alloc (.cells #[.int .i64 0,.bool false,.slice none 0 0,.slice none 0 0,.bool false,.slice none 0 0] 57)):=below_alloc' (below_alloc _ _) _
  have HH:=hide (And.intro x (And.intro y (And.intro b0 (And.intro (hP.below b0) (And.intro (hd.below b0) (hk.below b0))))))
  clear x y b0
  go_enter Tryz.func56,Tryz.ntmps56
  go_wp2_with fail
  obtain⟨x,y,b0,hP,hd,hk⟩:=HH.out
  clear HH
  generalize (w.alloc (.cells #[.int .i64 3,.bool sd,.slice ad ld cd,.slice ap np cp,.bool sk,.slice ak lk ck] 57)).alloc (.cells #[.int .i64 0,.bool false,.slice none 0 0,.slice none 0 0,.bool false,.slice none 0 0] 57)=wb at*
  have hr:w.heap.size≤w.heap.size+1:=by omega
  generalize w.heap.size+1=r at*
  generalize hp:w.heap.size=p at*
  replace hp:=hide hp
  by_cases hd0:d=0
  ·subst hd0
   have hfm:Hid (formA 3 0 q0 k= .inr 11):=(show _=_ by unfold formA;rw[if_neg (by decide),if_neg (by decide),if_pos (by decide),if_pos rfl])
   refine(divi_0 hd o_m).mono ?_
   rintro e w1 ⟨hz,k1⟩
   unfold AZ at hz
   subst hz
   replace y:=y.below k1
   have e0:=y.c0
   have e1:=y.c1
   have e2:=y.c2
   have e3:=y.c3
   have e4:=y.c4
   have e5:=y.c5
   have f0:=y.f 0
   have f1:=y.f 1
   have f2:=y.f 2
   have f3:=y.f 3
   have f4:=y.f 4
   have f5:=y.f 5
   have g6:=ab_set w1 r (.int .i64 0) (.bool false) (.slice none 0 0) (.slice none 0 0) (.bool false) (.slice none 0 0)
   have kf:=hide (below_grown (grow_step k1 (show Below w.heap.size w wb from hp.out.symm▸b0)) g6 (by have:=hp.out;omega))
   replace hq0:=hide hq0
   replace hq1:=hide hq1
   clear g6 hP hd hk x b0 k1
   go_wp2
   refine bodyPost_ret (results_ct rfl _ _ r 57 _ (0,0) _ rfl (ab_fin y 0 false none 0 0 none 0 0 false none 0 0) Tryz.underlying57 rfl k_f) rfl ?_
   exact⟨q0,hq0.out,hq1.out,by rw[hfm.out];exact rfl,kf.out⟩
  refine(divi_n hd hld hP hk hlk hn hB (by decide) (by decide) hd0).mono ?_
  rintro e w1 ⟨qs,hS,hc,⟨sd1,ad1,ld1,cd1,ap1,np1,cp1,sk1,ak1,lk1,ck1,rfl,hz1,hlz1,hPn1,hnp1,hk1,hlk1,hnew1⟩,k1⟩
  have hfm:Hid (formA 3 d qs k= .inl (divF 3 d qs k)):=(show _=_ by unfold formA;rw[if_neg (by decide),if_neg (by decide),if_pos (by decide),if_neg hd0])
  generalize divF 3 d qs k=ff at*
  have hrl:=y.lt
  replace y:=y.below k1
  have e0:=y.c0
  have e1:=y.c1
  have e2:=y.c2
  have e3:=y.c3
  have e4:=y.c4
  have e5:=y.c5
  have f0:=y.f 0
  have f1:=y.f 1
  have f2:=y.f 2
  have f3:=y.f 3
  have f4:=y.f 4
  have f5:=y.f 5
  have g6:=ab_set w1 r (.int .i64 ff.kind) (.bool sd1) (.slice ad1 ld1 cd1) (.slice ap1 np1 cp1) (.bool sk1) (.slice ak1 lk1 ck1)
  have hPf:=hide (hPn1.away (fun b off e=>by have:=hnew1 b off e;omega) g6 (ab_noU y))
  have hzf:=hide (hk1.grownU g6 (ab_noU y))
  have hdf:=hide (hz1.grownU g6 (ab_noU y))
  have kf:=hide (below_grown (grow_step k1 (show Below w.heap.size w wb from hp.out.symm▸b0)) g6 (by have:=hp.out;omega))
  have hnw:Hid (∀b off,ap1=some ⟨b,off,none⟩→w.heap.size≤b):=(fun b off e=>by have h1:=hnew1 b off e;have h2:=hp.out;omega)
  replace hS:=hide hS
  replace hc:=hide hc
  clear g6 hPn1 hk1 hz1 hnew1 hP hd hk x b0 k1
  go_wp2
  refine bodyPost_ret (results_ct rfl _ _ r 57 _ (0,0) _ rfl (ab_fin y ff.kind sd1 ad1 ld1 cd1 ap1 np1 cp1 sk1 ak1 lk1 ck1) Tryz.underlying57 rfl k_f) rfl ?_
  refine⟨qs,hS.out,hc.out,?_,kf.out⟩
  rw[hfm.out]
  exact⟨sd1,ad1,ld1,cd1,ap1,np1,cp1,sk1,ak1,lk1,ck1,by simp,hdf.out,hlz1,hPf.out,hnp1,hzf.out,hlk1,hnw.out⟩
 by_cases h4:kd=4
 ·subst h4
  clear h0 h1 h2 h3
  have x:=(AB.new w 4 sd ad ld cd ap np cp sk ak lk ck).below (below_alloc _ (.cells #[.int .i64 0,.bool false,.slice none 0 0,.slice none 0 0,.bool false,.slice none 0 0] 57))
  have y:=AB.new (w.alloc (.cells #[.int .i64 4,.bool sd,.slice ad ld cd,.slice ap np cp,.bool sk,.slice ak lk ck] 57)) 0 false none 0 0 none 0 0 false none 0 0
  rw[show(w.alloc (.cells #[.int .i64 4,.bool sd,.slice ad ld cd,.slice ap np cp,.bool sk,.slice ak lk ck] 57)).heap.size=w.heap.size+1 from by simp]at y
  have b0:Below w.heap.size w ((w.alloc (.cells #[.int .i64 4,.bool sd,.slice ad ld cd,.slice ap np cp,.bool sk,.slice ak lk ck] 57)).alloc (.cells #[.int .i64 0,.bool false,.slice none 0 0,.slice none 0 0,.bool false,.slice none 0 0] 57)):=below_alloc' (below_alloc _ _) _
  have HH:=hide (And.intro x (And.intro y (And.intro b0 (And.intro (hP.below b0) (And.intro (hd.below b0) (hk.below b0))))))
  clear x y b0
  go_enter Tryz.func56,Tryz.ntmps56
  go_wp2_with fail
  obtain⟨x,y,b0,hP,hd,hk⟩:=HH.out
  clear HH
  generalize (w.alloc (.cells #[.int .i64 4,.bool sd,.slice ad ld cd,.slice ap np cp,.bool sk,.slice ak lk ck] 57)).alloc (.cells #[.int .i64 0,.bool false,.slice none 0 0,.slice none 0 0,.bool false,.slice none 0 0] 57)=wb at*
  have hr:w.heap.size≤w.heap.size+1:=by omega
  generalize w.heap.size+1=r at*
  generalize hp:w.heap.size=p at*
  replace hp:=hide hp
  by_cases hd0:d=0
  ·subst hd0
   have hfm:Hid (formA 4 0 q0 k= .inr 11):=(show _=_ by unfold formA;rw[if_neg (by decide),if_neg (by decide),if_pos (by decide),if_pos rfl])
   refine(divi_0 hd o_m).mono ?_
   rintro e w1 ⟨hz,k1⟩
   unfold AZ at hz
   subst hz
   replace y:=y.below k1
   have e0:=y.c0
   have e1:=y.c1
   have e2:=y.c2
   have e3:=y.c3
   have e4:=y.c4
   have e5:=y.c5
   have f0:=y.f 0
   have f1:=y.f 1
   have f2:=y.f 2
   have f3:=y.f 3
   have f4:=y.f 4
   have f5:=y.f 5
   have g6:=ab_set w1 r (.int .i64 0) (.bool false) (.slice none 0 0) (.slice none 0 0) (.bool false) (.slice none 0 0)
   have kf:=hide (below_grown (grow_step k1 (show Below w.heap.size w wb from hp.out.symm▸b0)) g6 (by have:=hp.out;omega))
   replace hq0:=hide hq0
   replace hq1:=hide hq1
   clear g6 hP hd hk x b0 k1
   go_wp2
   refine bodyPost_ret (results_ct rfl _ _ r 57 _ (0,0) _ rfl (ab_fin y 0 false none 0 0 none 0 0 false none 0 0) Tryz.underlying57 rfl k_f) rfl ?_
   exact⟨q0,hq0.out,hq1.out,by rw[hfm.out];exact rfl,kf.out⟩
  refine(divi_n hd hld hP hk hlk hn hB (by decide) (by decide) hd0).mono ?_
  rintro e w1 ⟨qs,hS,hc,⟨sd1,ad1,ld1,cd1,ap1,np1,cp1,sk1,ak1,lk1,ck1,rfl,hz1,hlz1,hPn1,hnp1,hk1,hlk1,hnew1⟩,k1⟩
  have hfm:Hid (formA 4 d qs k= .inl (divF 4 d qs k)):=(show _=_ by unfold formA;rw[if_neg (by decide),if_neg (by decide),if_pos (by decide),if_neg hd0])
  generalize divF 4 d qs k=ff at*
  have hrl:=y.lt
  replace y:=y.below k1
  have e0:=y.c0
  have e1:=y.c1
  have e2:=y.c2
  have e3:=y.c3
  have e4:=y.c4
  have e5:=y.c5
  have f0:=y.f 0
  have f1:=y.f 1
  have f2:=y.f 2
  have f3:=y.f 3
  have f4:=y.f 4
  have f5:=y.f 5
  have g6:=ab_set w1 r (.int .i64 ff.kind) (.bool sd1) (.slice ad1 ld1 cd1) (.slice ap1 np1 cp1) (.bool sk1) (.slice ak1 lk1 ck1)
  have hPf:=hide (hPn1.away (fun b off e=>by have:=hnew1 b off e;omega) g6 (ab_noU y))
  have hzf:=hide (hk1.grownU g6 (ab_noU y))
  have hdf:=hide (hz1.grownU g6 (ab_noU y))
  have kf:=hide (below_grown (grow_step k1 (show Below w.heap.size w wb from hp.out.symm▸b0)) g6 (by have:=hp.out;omega))
  have hnw:Hid (∀b off,ap1=some ⟨b,off,none⟩→w.heap.size≤b):=(fun b off e=>by have h1:=hnew1 b off e;have h2:=hp.out;omega)
  replace hS:=hide hS
  replace hc:=hide hc
  clear g6 hPn1 hk1 hz1 hnew1 hP hd hk x b0 k1
  go_wp2
  refine bodyPost_ret (results_ct rfl _ _ r 57 _ (0,0) _ rfl (ab_fin y ff.kind sd1 ad1 ld1 cd1 ap1 np1 cp1 sk1 ak1 lk1 ck1) Tryz.underlying57 rfl k_f) rfl ?_
  refine⟨qs,hS.out,hc.out,?_,kf.out⟩
  rw[hfm.out]
  exact⟨sd1,ad1,ld1,cd1,ap1,np1,cp1,sk1,ak1,lk1,ck1,by simp,hdf.out,hlz1,hPf.out,hnp1,hzf.out,hlk1,hnw.out⟩
 have i0:(kd==0)=false:=by rw[beq_eq_false_iff_ne];exact h0
 have i1:(kd==1)=false:=by rw[beq_eq_false_iff_ne];exact h1
 have i2:(kd==2)=false:=by rw[beq_eq_false_iff_ne];exact h2
 have i3:(kd==3)=false:=by rw[beq_eq_false_iff_ne];exact h3
 have i4:(kd==4)=false:=by rw[beq_eq_false_iff_ne];exact h4
 have hfm:Hid (formA kd d q0 k= .inr 1):=(show _=_ by unfold formA;rw[if_neg o_m,if_neg h2,if_neg o_m])
 clear h0 h1 h2 h3 h4
 have y:=AB.new (w.alloc (.cells #[.int .i64 kd,.bool sd,.slice ad ld cd,.slice ap np cp,.bool sk,.slice ak lk ck] 57)) 0 false none 0 0 none 0 0 false none 0 0
 rw[show(w.alloc (.cells #[.int .i64 kd,.bool sd,.slice ad ld cd,.slice ap np cp,.bool sk,.slice ak lk ck] 57)).heap.size=w.heap.size+1 from by simp]at y
 have b0:Below w.heap.size w ((w.alloc (.cells #[.int .i64 kd,.bool sd,.slice ad ld cd,.slice ap np cp,.bool sk,.slice ak lk ck] 57)).alloc (.cells #[.int .i64 0,.bool false,.slice none 0 0,.slice none 0 0,.bool false,.slice none 0 0] 57)):=below_alloc' (below_alloc _ _) _
 have HH:=hide (And.intro y b0)
 clear y b0
 go_enter Tryz.func56,Tryz.ntmps56
 go_wp2
 obtain⟨y,b0⟩:=HH.out
 refine bodyPost_ret (results_ct rfl _ _ (w.heap.size+1) 57 _ (0,0) _ rfl y Tryz.underlying57 rfl k_f) rfl ?_
 exact⟨q0,hq0,hq1,by rw[hfm.out];rfl,b0⟩

theorem formA_er {kd d:Int}{qs:List (Int × Int)}{k er:Int}(h:formA kd d qs k= .inr er):er=11∨er=1:=by
 unfold formA at h
 split at h
 ·cases h
 split at h
 ·cases h
 split at h
 ·split at h
  ·cases h;exact .inl rfl
  cases h
 cases h;exact .inr rfl
theorem cmpI_pos (X:Int):0<cmpI X 0↔0<X:=by
 unfold cmpI
 split <;> (try split) <;> omega
theorem At.Fit.kind5 {a:Atm}(h:Fit a):a.kind=0∨a.kind=1∨a.kind=2∨a.kind=3∨a.kind=4:=by
 have:=h.kinds
 omega
def HO (e:Ending)(f:Atm ⊕ Int)(vs:List (Int × Int)):Prop:=match f with
 | .inr er=>e= .returned (.tuple #[.bool false,.int .i64 er])
 | .inl f=>(¬Tot f.ps vs∧e= .returned (.tuple #[.bool false,.int .i64 170]))∨(Tot f.ps vs∧∃b,e= .returned (.tuple #[.bool b,.int .i64 0])∧(b=true↔Sat f (val1 vs)))

theorem aholds_n {w:World}{kd:Int}{sd:Bool}{ad:Option Addr}{ld cd:Nat}{ap:Option Addr}{np cp:Nat}{sk:Bool}{ak:Option Addr}{lk ck:Nat}{d k:Int}{ps:List (Int × Int)}{B:Nat}{ad2:Option Addr}{n2 cp2:Nat}{vs:List (Int × Int)}{B2:Nat}
  (hd:Zm w sd ad ld cd d)(hld:ld≤B)(hP:Pr w ap np ps B)(hk:Zm w sk ak lk ck k)(hlk:lk≤B)(hn:np≤262144)(hB:B+np+1≤4194000)(hV:Pr w ad2 n2 vs B2)(hn2:n2≤16777216)(hB2:B2≤16777216):
  Calls Tryz.prog 40 #[.agg #[.int .i64 kd,.bool sd,.slice ad ld cd,.slice ap np cp,.bool sk,.slice ak lk ck],.slice ad2 n2 cp2] w fun e w'=> ∃qs,Std qs∧(∀v,csum qs v=csum ps v)∧HO e (formA kd d qs k) vs∧Below w.heap.size w w':=by
 go_enter Tryz.func40,Tryz.ntmps40
 go_wp2_with fail
 have x:=AB.new w kd sd ad ld cd ap np cp sk ak lk ck
 have b0:=below_alloc w (.cells #[.int .i64 kd,.bool sd,.slice ad ld cd,.slice ap np cp,.bool sk,.slice ak lk ck] 57)
 replace hd:=hd.below b0
 replace hP:=hP.below b0
 replace hk:=hk.below b0
 replace hV:=hide hV
 generalize w.alloc (.cells #[.int .i64 kd,.bool sd,.slice ad ld cd,.slice ap np cp,.bool sk,.slice ak lk ck] 57)=wb at*
 generalize hp:w.heap.size=p at*
 replace b0:Hid (Below w.heap.size w wb):=hp▸b0
 replace hp:=hide hp
 have hnps:=hP.1
 refine(anorm_n hd hld hP hk hlk hn hB).mono ?_
 rintro e w1 ⟨qs,hS,hc,hA,k1⟩
 have hpb:=x.lt
 replace x:=x.below k1
 have kk:=hide (grow_step k1 b0.out)
 clear hd hP hk
 have e0:=x.c0
 have e1:=x.c1
 have e2:=x.c2
 have e3:=x.c3
 have e4:=x.c4
 have e5:=x.c5
 have f0:=x.f 0
 have f1:=x.f 1
 have f2:=x.f 2
 have f3:=x.f 3
 have f4:=x.f 4
 have f5:=x.f 5
 have hpl:=x.lt
 cases hf:formA kd d qs k with
 |inr er=>
  rw[hf]at hA
  have her:=formA_er hf
  have he:_=_:=hA
  subst he
  have g6:=ab_set w1 p (.int .i64 0) (.bool false) (.slice none 0 0) (.slice none 0 0) (.bool false) (.slice none 0 0)
  have kf:=hide (below_grown kk.out g6 (by have:=hp.out;omega))
  have hres:Hid (∃qs,Std qs∧(∀v,csum qs v=csum ps v)∧HO (.returned (.tuple #[.bool false,.int .i64 er])) (formA kd d qs k) vs):=⟨qs,hS,hc,by rw[hf];rfl⟩
  clear hf hS hc hA g6 k1 kk
  rcases her with rfl|rfl
  ·go_wp2
   refine bodyPost_ret (results_tmp2 rfl _ _ _) rfl ?_
   obtain⟨q,h1,h2,h3⟩:=hres.out
   exact⟨q,h1,h2,h3,kf.out⟩
  go_wp2
  refine bodyPost_ret (results_tmp2 rfl _ _ _) rfl ?_
  obtain⟨q,h1,h2,h3⟩:=hres.out
  exact⟨q,h1,h2,h3,kf.out⟩
 |inl f=>
  rw[hf]at hA
  have hfit:=formA_fit hS hf
  have hlen:f.ps.length≤np:=by have h1:=(formA_prt hS hf).1;have h2:=std_len hS hc;omega
  obtain⟨fk,fd,fps,fkk⟩:=f
  obtain⟨sd1,ad1,ld1,cd1,ap1,np1,cp1,sk1,ak1,lk1,ck1,rfl,hz1,hlz1,hPn1,hnp1,hk1,hlk1,hnew1⟩:=hA
  dsimp only at hz1 hPn1 hk1 hlen
  have hnp2:np1≤262144:=by have:=hPn1.1;omega
  have g6:=ab_set w1 p (.int .i64 fk) (.bool sd1) (.slice ad1 ld1 cd1) (.slice ap1 np1 cp1) (.bool sk1) (.slice ak1 lk1 ck1)
  have hU:=ab_noU x
  have hz2:=hz1.grownU g6 hU
  have hk2:=hk1.grownU g6 hU
  have hP2:=hPn1.away (fun b off e=>by have h1:=hnew1 b off e;omega) g6 hU
  have x2:AB _ p fk sd1 ad1 ld1 cd1 ap1 np1 cp1 sk1 ak1 lk1 ck1:=ab_fin x fk sd1 ad1 ld1 cd1 ap1 np1 cp1 sk1 ak1 lk1 ck1
  have kw2:=hide (below_grown kk.out g6 (by have:=hp.out;omega))
  have HH:=hide (And.intro hz2 (And.intro hk2 (And.intro hP2 (And.intro x2 (hV.out.below kw2.out)))))
  have hres:Hid (∀e,HO e (.inl ⟨fk,fd,fps,fkk⟩) vs→∃qs,Std qs∧(∀v,csum qs v=csum ps v)∧HO e (formA kd d qs k) vs):=fun e he=>⟨qs,hS,hc,by rw[hf];exact he⟩
  clear hz1 hk1 hPn1 hnew1 hz2 hk2 hP2 x2 hU g6 hf hS hc k1 kk x hV
  go_wp2_with fail
  obtain⟨hz2,hk2,hP2,x2,hV2⟩:=HH.out
  clear HH e0 e1 e2 e3 e4 e5 f0 f1 f2 f3 f4 f5
  generalize (((((w1.setCell ⟨p,0,none⟩ (.int .i64 fk)).setCell ⟨p,1,none⟩ (.bool sd1)).setCell ⟨p,2,none⟩ (.slice ad1 ld1 cd1)).setCell ⟨p,3,none⟩ (.slice ap1 np1 cp1)).setCell ⟨p,4,none⟩ (.bool sk1)).setCell ⟨p,5,none⟩ (.slice ak1 lk1 ck1)=w2 at*
  refine(eval_n (B:=B+np+16+B2) (hP2.pr.mono o_m) hk2.zm o_m (hV2.mono o_m) o_m).mono ?_
  rintro e w3 ⟨s3,a3,l3,c3,er,rfl,k3,hcase⟩
  have kz:=below_alloc w3 (.cells #[.bool s3,.slice a3 l3 c3] 26)
  have z:=zb_new w3 s3 a3 l3 c3
  replace x2:=(x2.below k3).below kz
  replace hz2:=(hz2.below k3).below kz
  have kw3:=hide (grow_step kz (grow_step k3 kw2.out))
  clear k3 kw2 hP2 hk2 hV2
  rcases hcase with⟨hT,rfl,rfl,rfl,rfl,rfl⟩|⟨hT,rfl,hzv,hlv⟩
  ·have hfin:=hide (hres.out _ (.inl ⟨hT,rfl⟩))
   clear hres kz
   go_wp2
   refine bodyPost_ret (results_tmp2 rfl _ _ _) rfl ?_
   obtain⟨q,h1,h2,h3⟩:=hfin.out
   exact⟨q,h1,h2,h3,kw3.out⟩
  replace hzv:=hzv.below kz
  have e0:=x2.c0
  have e1:=x2.c1
  have e2:=x2.c2
  have z0:=z.c0
  have z1:=z.c1
  have hzl:=z.lt
  generalize hX:fkk+ev fps (val1 vs)=X at*
  rcases hfit.kind5 with hk5|hk5|hk5|hk5|hk5
  ·dsimp only at hk5
   subst hk5
   have hfin:=hide (hres.out (.returned (.tuple #[.bool false,.int .i64 0])) (.inr ⟨hT,false,rfl,by simp[Sat]⟩))
   clear hres kz
   go_wp2
   refine bodyPost_ret (results_tmp2 rfl _ _ _) rfl ?_
   obtain⟨q,h1,h2,h3⟩:=hfin.out
   exact⟨q,h1,h2,h3,kw3.out⟩
  ·dsimp only at hk5
   subst hk5
   have hfin:=hide (hres.out (.returned (.tuple #[.bool true,.int .i64 0])) (.inr ⟨hT,true,rfl,by simp[Sat]⟩))
   clear hres kz
   go_wp2
   refine bodyPost_ret (results_tmp2 rfl _ _ _) rfl ?_
   obtain⟨q,h1,h2,h3⟩:=hfin.out
   exact⟨q,h1,h2,h3,kw3.out⟩
  ·dsimp only at hk5
   subst hk5
   have hfin:=hide (hres.out (.returned (.tuple #[.bool (decide (0<cmpI X 0)),.int .i64 0])) (.inr ⟨hT,_,rfl,by simp[Sat,hX,cmpI_pos]⟩))
   clear hres kz
   go_wp2_with fail
   generalize w3.alloc (.cells #[.bool s3,.slice a3 l3 c3] 26)=w4 at*
   refine(zsign_n hzv.zm o_m).mono ?_
   rintro e w5 ⟨rfl,k5⟩
   have kf:=hide (grow_step k5 kw3.out)
   clear k5 kw3
   generalize cmpI X 0=cz at*
   go_wp2
   refine bodyPost_ret (results_tmp2 rfl _ _ _) rfl ?_
   obtain⟨q,h1,h2,h3⟩:=hfin.out
   exact⟨q,h1,h2,h3,kf.out⟩
  ·dsimp only at hk5
   subst hk5
   have hpos:0<fd:=hfit.dpos (.inl rfl)
   have hfin:=hide (hres.out (.returned (.tuple #[.bool (decide (fd∣X)),.int .i64 0])) (.inr ⟨hT,_,rfl,by simp[Sat,hX]⟩))
   clear hres kz
   go_wp2_with fail
   generalize w3.alloc (.cells #[.bool s3,.slice a3 l3 c3] 26)=w4 at*
   refine(divides_n hz2.zm hzv.zm o_m o_m hpos).mono ?_
   rintro e w5 ⟨rfl,k5⟩
   have kf:=hide (grow_step k5 kw3.out)
   clear k5 kw3
   generalize decide (fd∣X)=cz at*
   go_wp2
   refine bodyPost_ret (results_tmp2 rfl _ _ _) rfl ?_
   obtain⟨q,h1,h2,h3⟩:=hfin.out
   exact⟨q,h1,h2,h3,kf.out⟩
  dsimp only at hk5
  subst hk5
  have hpos:0<fd:=hfit.dpos (.inr rfl)
  have hfin:=hide (hres.out (.returned (.tuple #[.bool (!decide (fd∣X)),.int .i64 0])) (.inr ⟨hT,_,rfl,by simp[Sat,hX]⟩))
  clear hres kz
  go_wp2_with fail
  generalize w3.alloc (.cells #[.bool s3,.slice a3 l3 c3] 26)=w4 at*
  refine(divides_n hz2.zm hzv.zm o_m o_m hpos).mono ?_
  rintro e w5 ⟨rfl,k5⟩
  have kf:=hide (grow_step k5 kw3.out)
  clear k5 kw3
  generalize decide (fd∣X)=cz at*
  go_wp2
  refine bodyPost_ret (results_tmp2 rfl _ _ _) rfl ?_
  obtain⟨q,h1,h2,h3⟩:=hfin.out
  exact⟨q,h1,h2,h3,kf.out⟩

def A0v (e:Ending):Prop:=e= .returned (.agg #[.int .i64 0,.bool false,.slice none 0 0,.slice none 0 0,.bool false,.slice none 0 0])
theorem AB.neq {w:World}{p r:Nat}{kd:Int}{s:Bool}{a:Option Addr}{l c:Nat}{ad:Option Addr}{n cp:Nat}{t:Bool}{b:Option Addr}{m d:Nat}{w':World}(h:AB w p kd s a l c ad n cp t b m d)(hg:w.grownBy w' (some r))(hne:p≠r):AB w' p kd s a l c ad n cp t b m d:=(hg.block p h.lt (by simpa using hne)).trans h
theorem TB.neq {w:World}{p r:Nat}{ad:Option Addr}{n cp:Nat}{s:Bool}{a:Option Addr}{l c:Nat}{w':World}(h:TB w p ad n cp s a l c)(hg:w.grownBy w' (some r))(hne:p≠r):TB w' p ad n cp s a l c:=(hg.block p h.lt (by simpa using hne)).trans h
theorem ab_put {w:World}{p:Nat}{k0:Int}{s0:Bool}{a0:Option Addr}{l0 c0:Nat}{ad0:Option Addr}{n0 cp0:Nat}{t0:Bool}{b0:Option Addr}{m0 d0:Nat}{sd1:Bool}{ad1:Option Addr}{ld1 cd1:Nat}{ap1:Option Addr}{np1:Nat}{sk1:Bool}{ak1:Option Addr}{lk1 ck1:Nat}{zd zk:Int}{qs:List (Int × Int)}{B:Nat}
  (x:AB w p k0 s0 a0 l0 c0 ad0 n0 cp0 t0 b0 m0 d0)(hz:Zn w sd1 ad1 ld1 cd1 zd)(hP:Pn w ap1 np1 qs B)(hk:Zn w sk1 ak1 lk1 ck1 zk)(hb: ∀b off,ap1=some ⟨b,off,none⟩→b≠p)(fk:Int)(cp1:Nat):
  w.grownBy ((((((w.setCell ⟨p,0,none⟩ (.int .i64 fk)).setCell ⟨p,1,none⟩ (.bool sd1)).setCell ⟨p,2,none⟩ (.slice ad1 ld1 cd1)).setCell ⟨p,3,none⟩ (.slice ap1 np1 cp1)).setCell ⟨p,4,none⟩ (.bool sk1)).setCell ⟨p,5,none⟩ (.slice ak1 lk1 ck1)) (some p)∧AB ((((((w.setCell ⟨p,0,none⟩ (.int .i64 fk)).setCell ⟨p,1,none⟩ (.bool sd1)).setCell ⟨p,2,none⟩ (.slice ad1 ld1 cd1)).setCell ⟨p,3,none⟩ (.slice ap1 np1 cp1)).setCell ⟨p,4,none⟩ (.bool sk1)).setCell ⟨p,5,none⟩ (.slice ak1 lk1 ck1)) p fk sd1 ad1 ld1 cd1 ap1 np1 cp1 sk1 ak1 lk1 ck1∧Zn ((((((w.setCell ⟨p,0,none⟩ (.int .i64 fk)).setCell ⟨p,1,none⟩ (.bool sd1)).setCell ⟨p,2,none⟩ (.slice ad1 ld1 cd1)).setCell ⟨p,3,none⟩ (.slice ap1 np1 cp1)).setCell ⟨p,4,none⟩ (.bool sk1)).setCell ⟨p,5,none⟩ (.slice ak1 lk1 ck1)) sd1 ad1 ld1 cd1 zd∧Pn ((((((w.setCell ⟨p,0,none⟩ (.int .i64 fk)).setCell ⟨p,1,none⟩ (.bool sd1)).setCell ⟨p,2,none⟩ (.slice ad1 ld1 cd1)).setCell ⟨p,3,none⟩ (.slice ap1 np1 cp1)).setCell ⟨p,4,none⟩ (.bool sk1)).setCell ⟨p,5,none⟩ (.slice ak1 lk1 ck1)) ap1 np1 qs B∧Zn ((((((w.setCell ⟨p,0,none⟩ (.int .i64 fk)).setCell ⟨p,1,none⟩ (.bool sd1)).setCell ⟨p,2,none⟩ (.slice ad1 ld1 cd1)).setCell ⟨p,3,none⟩ (.slice ap1 np1 cp1)).setCell ⟨p,4,none⟩ (.bool sk1)).setCell ⟨p,5,none⟩ (.slice ak1 lk1 ck1)) sk1 ak1 lk1 ck1 zk:=by
 have g6:=ab_set w p (.int .i64 fk) (.bool sd1) (.slice ad1 ld1 cd1) (.slice ap1 np1 cp1) (.bool sk1) (.slice ak1 lk1 ck1)
 have hU:=ab_noU x
 exact⟨g6,ab_fin x fk sd1 ad1 ld1 cd1 ap1 np1 cp1 sk1 ak1 lk1 ck1,hz.grownU g6 hU,hP.away hb g6 hU,hk.grownU g6 hU⟩

theorem TN.new {w w':World}{ad:Option Addr}{n:Nat}{s:Bool}{a:Option Addr}{l c:Nat}{rs:List Raw}{k:Int}{B:Nat}(h:TN w w' ad n s a l c rs k B): ∀b off,ad=some ⟨b,off,none⟩→w.heap.size≤b:=by
 intro b off e
 obtain⟨w1,h1,h2,⟨h3,h4⟩,_⟩:=h
 rcases h4 with⟨h5,_⟩|⟨g,h5,hg,_⟩
 ·rw[h5]at e;cases e
 rw[h5]at e
 simp at e
 have:=h1.size
 omega

def PT (w:World)(e:Ending)(f:Atm ⊕ Int)(v:Int)(us:List (Int × Int))(uk:Int)(B B0:Nat):Prop:=match f with
 | .inl f=> ∃rs f',Std rs∧(∀u,csum rs u=csum (wo v f.ps++scl (csum f.ps v) us) u)∧formA f.kind f.d rs (f.k+csum f.ps v*uk)= .inl f'∧AW w e f' B B0
 | .inr _=>A0v e
theorem tb3_put {w:World}{p:Nat}{k0:Int}{sd1:Bool}{ad1:Option Addr}{ld1 cd1:Nat}{ap0:Option Addr}{np0 cp0:Nat}{sk0:Bool}{ak0:Option Addr}{lk0 ck0:Nat}(x:AB w p k0 sd1 ad1 ld1 cd1 ap0 np0 cp0 sk0 ak0 lk0 ck0)(ap1:Option Addr)(np1 cp1:Nat)(sk1:Bool)(ak1:Option Addr)(lk1 ck1:Nat):
  w.grownBy (((w.setCell ⟨p,3,none⟩ (.slice ap1 np1 cp1)).setCell ⟨p,4,none⟩ (.bool sk1)).setCell ⟨p,5,none⟩ (.slice ak1 lk1 ck1)) (some p)∧AB (((w.setCell ⟨p,3,none⟩ (.slice ap1 np1 cp1)).setCell ⟨p,4,none⟩ (.bool sk1)).setCell ⟨p,5,none⟩ (.slice ak1 lk1 ck1)) p k0 sd1 ad1 ld1 cd1 ap1 np1 cp1 sk1 ak1 lk1 ck1:=
 ⟨gb_trans (gb_trans (gb_set _ _ _ _) (gb_set _ _ _ _)) (gb_set _ _ _ _),heap_setCell_same _ p 5 _ _ _ (heap_setCell_same _ p 4 _ _ _ (heap_setCell_same _ p 3 _ _ _ x))⟩

theorem aput_n {w:World}{kd:Int}{sd:Bool}{ad:Option Addr}{ld cd:Nat}{ap:Option Addr}{np cp:Nat}{sk:Bool}{ak:Option Addr}{lk ck:Nat}{d k:Int}{ps:List (Int × Int)}{v:Int}{apu:Option Addr}{nu cpu:Nat}{su:Bool}{au:Option Addr}{lu cu:Nat}{us:List (Int × Int)}{uk:Int}{B:Nat}
  (hd:Zm w sd ad ld cd d)(hld:ld≤B)(hP:Pr w ap np ps B)(hk:Zm w sk ak lk ck k)(hlk:lk≤B)(hv:I64 v)(hPu:Pr w apu nu us B)(hku:Zm w su au lu cu uk)(hlu:lu≤B)(hn:np+nu≤262144)(hB:2*B+6*(np+nu)+128≤4194000):
  Calls Tryz.prog 85 #[.agg #[.int .i64 kd,.bool sd,.slice ad ld cd,.slice ap np cp,.bool sk,.slice ak lk ck],.int .i64 v,.agg #[.slice apu nu cpu,.bool su,.slice au lu cu]] w fun e w'=> ∃qs,Std qs∧(∀v,csum qs v=csum ps v)∧PT w' e (formA kd d qs k) v us uk (2*B+6*(np+nu)+128) w.heap.size∧Below w.heap.size w w':=by
 go_enter Tryz.func85,Tryz.ntmps85
 go_wp2_with fail
 have x:=((AB.new w kd sd ad ld cd ap np cp sk ak lk ck).below (below_alloc _ (.cells #[.slice apu nu cpu,.bool su,.slice au lu cu] 28))).below (below_alloc _ (.cells #[.int .i64 0,.bool false,.slice none 0 0,.slice none 0 0,.bool false,.slice none 0 0] 57))
 have t:=(tb_new (w.alloc (.cells #[.int .i64 kd,.bool sd,.slice ad ld cd,.slice ap np cp,.bool sk,.slice ak lk ck] 57)) apu nu cpu su au lu cu).below (below_alloc _ (.cells #[.int .i64 0,.bool false,.slice none 0 0,.slice none 0 0,.bool false,.slice none 0 0] 57))
 have y:=AB.new ((w.alloc (.cells #[.int .i64 kd,.bool sd,.slice ad ld cd,.slice ap np cp,.bool sk,.slice ak lk ck] 57)).alloc (.cells #[.slice apu nu cpu,.bool su,.slice au lu cu] 28)) 0 false none 0 0 none 0 0 false none 0 0
 rw[show(w.alloc (.cells #[.int .i64 kd,.bool sd,.slice ad ld cd,.slice ap np cp,.bool sk,.slice ak lk ck] 57)).heap.size=w.heap.size+1 from by simp]at t
 rw[show((w.alloc (.cells #[.int .i64 kd,.bool sd,.slice ad ld cd,.slice ap np cp,.bool sk,.slice ak lk ck] 57)).alloc (.cells #[.slice apu nu cpu,.bool su,.slice au lu cu] 28)).heap.size=w.heap.size+1+1 from by simp]at y
 have b0:Below w.heap.size w (((w.alloc (.cells #[.int .i64 kd,.bool sd,.slice ad ld cd,.slice ap np cp,.bool sk,.slice ak lk ck] 57)).alloc (.cells #[.slice apu nu cpu,.bool su,.slice au lu cu] 28)).alloc (.cells #[.int .i64 0,.bool false,.slice none 0 0,.slice none 0 0,.bool false,.slice none 0 0] 57)):=below_alloc' (below_alloc' (below_alloc _ _) _) _
 generalize ((w.alloc (.cells #[.int .i64 kd,.bool sd,.slice ad ld cd,.slice ap np cp,.bool sk,.slice ak lk ck] 57)).alloc (.cells #[.slice apu nu cpu,.bool su,.slice au lu cu] 28)).alloc (.cells #[.int .i64 0,.bool false,.slice none 0 0,.slice none 0 0,.bool false,.slice none 0 0] 57)=wb at*
 have hPu0:=hide hPu
 have hku0:=hide hku
 replace hd:=hd.below b0
 replace hP:=hP.below b0
 replace hk:=hk.below b0
 clear hPu hku
 have hpq:w.heap.size<w.heap.size+1:=by omega
 have hqr:w.heap.size+1<w.heap.size+1+1:=by omega
 generalize w.heap.size+1+1=r at*
 generalize w.heap.size+1=q at*
 generalize hp:w.heap.size=p at*
 replace b0:Hid (Below w.heap.size w wb):=hp▸b0
 replace hp:=hide hp
 have hnps:=hP.1
 refine(anorm_n hd hld hP hk hlk o_m o_m).mono ?_
 rintro e w1 ⟨qs,hS,hc,hA,k1⟩
 have hrb:=y.lt
 replace x:=x.below k1
 replace y:=y.below k1
 replace t:=t.below k1
 have kk:=hide (grow_step k1 b0.out)
 clear hd hP hk k1
 have hpl:=x.lt
 have hql:=t.lt
 have hrl:=y.lt
 have hne1: ¬r=p:=by omega
 have hne2: ¬p=r:=by omega
 have hne3: ¬q=p:=by omega
 have hne4: ¬p=q:=by omega
 have hne5: ¬q=r:=by omega
 have hne6: ¬r=q:=by omega
 have hwp:w.heap.size≤p:=by have:=hp.out;omega
 have hwr:w.heap.size≤r:=by omega
 cases hf:formA kd d qs k with
 |inr er=>
  rw[hf]at hA
  have her:=formA_er hf
  have he:_=_:=hA
  subst he
  have g6:=ab_set w1 p (.int .i64 0) (.bool false) (.slice none 0 0) (.slice none 0 0) (.bool false) (.slice none 0 0)
  have y2:=y.neq g6 o_m
  have kf:=below_grown kk.out g6 hwp
  have hres:Hid (∃qs,Std qs∧(∀v,csum qs v=csum ps v)∧∀w',PT w' (.returned (.agg #[.int .i64 0,.bool false,.slice none 0 0,.slice none 0 0,.bool false,.slice none 0 0])) (formA kd d qs k) v us uk (2*B+6*(np+nu)+128) w.heap.size):=⟨qs,hS,hc,fun w'=>by rw[hf];rfl⟩
  have HH:=hide (And.intro y2 kf)
  have e0:=x.c0
  have e1:=x.c1
  have e2:=x.c2
  have e3:=x.c3
  have e4:=x.c4
  have e5:=x.c5
  have f0:=x.f 0
  have f1:=x.f 1
  have f2:=x.f 2
  have f3:=x.f 3
  have f4:=x.f 4
  have f5:=x.f 5
  have g0:=y.c0
  have g1:=y.c1
  have g2:=y.c2
  have g3:=y.c3
  have g4:=y.c4
  have g5:=y.c5
  have h0:=y.f 0
  have h1:=y.f 1
  have h2:=y.f 2
  have h3:=y.f 3
  have h4:=y.f 4
  have h5:=y.f 5
  clear hf hS hc hA kk g6 y2 kf x y t
  rcases her with rfl|rfl
  ·go_wp2
   refine bodyPost_ret (results_cell_row rfl _ _ r 57 _ (0,0) _ rfl (ab_fin HH.out.1 0 false none 0 0 none 0 0 false none 0 0) Tryz.underlying57 rfl k_f) rfl ?_
   obtain⟨q,h1,h2,h3⟩:=hres.out
   exact⟨q,h1,h2,by simpa using h3 _,below_grown HH.out.2 (ab_set _ _ _ _ _ _ _ _) hwr⟩
  go_wp2
  refine bodyPost_ret (results_cell_row rfl _ _ r 57 _ (0,0) _ rfl (ab_fin HH.out.1 0 false none 0 0 none 0 0 false none 0 0) Tryz.underlying57 rfl k_f) rfl ?_
  obtain⟨q,h1,h2,h3⟩:=hres.out
  exact⟨q,h1,h2,by simpa using h3 _,below_grown HH.out.2 (ab_set _ _ _ _ _ _ _ _) hwr⟩
 |inl f=>
  rw[hf]at hA
  have hfit:=formA_fit hS hf
  have hlen:f.ps.length≤np:=by have h1:=(formA_prt hS hf).1;have h2:=std_len hS hc;omega
  have hform:=fun qs k=>hfit.form qs k
  obtain⟨fk,fd,fps,fkk⟩:=f
  obtain⟨sd1,ad1,ld1,cd1,ap1,np1,cp1,sk1,ak1,lk1,ck1,rfl,hz1,hlz1,hPn1,hnp1,hk1,hlk1,hnew1⟩:=hA
  dsimp only at hz1 hPn1 hk1 hlen hform
  have hnp2:np1≤np:=by have:=hPn1.1;omega
  have hres:Hid (∀e w' rs f',Std rs→(∀u,csum rs u=csum (wo v fps++scl (csum fps v) us) u)→formA fk fd rs (fkk+csum fps v*uk)= .inl f'→AW w' e f' (2*B+6*(np+nu)+128) w.heap.size→∃qs,Std qs∧(∀v,csum qs v=csum ps v)∧PT w' e (formA kd d qs k) v us uk (2*B+6*(np+nu)+128) w.heap.size):=fun e w' rs f' h1 h2 h3 h4=>⟨qs,hS,hc,by rw[hf];exact⟨rs,f',h1,h2,h3,h4⟩⟩
  have hbp: ∀b off,ap1=some ⟨b,off,none⟩→b≠p:=fun b off e=>by have h1:=hnew1 b off e;omega
  obtain⟨g6,x2,hz2,hP2,hk2⟩:=ab_put x hz1 hPn1 hk1 hbp fk cp1
  have y2:=y.neq g6 o_m
  have t2:=t.neq g6 o_m
  have kf:=below_grown kk.out g6 hwp
  have u0:=t.c0
  have u1:=t.c1
  have u2:=t.c2
  have HH:=hide (And.intro x2 (And.intro y2 (And.intro t2 (And.intro hz2 (And.intro hP2 (And.intro hk2 kf))))))
  replace hform:=hide hform
  have e0:=x.c0
  have e1:=x.c1
  have e2:=x.c2
  have e3:=x.c3
  have e4:=x.c4
  have e5:=x.c5
  have f0:=x.f 0
  have f1:=x.f 1
  have f2:=x.f 2
  have f3:=x.f 3
  have f4:=x.f 4
  have f5:=x.f 5
  clear hf hS hc kk g6 y2 kf x y t t2 x2 hz2 hP2 hk2 hz1 hPn1 hk1 hnew1 hbp hfit
  go_wp2_with fail
  obtain⟨x2,y2,t2,hz2,hP2,hk2,kf⟩:=HH.out
  clear HH e0 e1 e2 e3 e4 e5 f0 f1 f2 f3 f4 f5 u0 u1 u2
  generalize ((((((w1.setCell ⟨p,0,none⟩ (.int .i64 fk)).setCell ⟨p,1,none⟩ (.bool sd1)).setCell ⟨p,2,none⟩ (.slice ad1 ld1 cd1)).setCell ⟨p,3,none⟩ (.slice ap1 np1 cp1)).setCell ⟨p,4,none⟩ (.bool sk1)).setCell ⟨p,5,none⟩ (.slice ak1 lk1 ck1))=w2 at*
  refine(tput_n (B:=B+np+16) hv hP2.pr hk2.zm hlk1 ((hPu0.out.below kf).mono o_m) (hku0.out.below kf) o_m o_m).mono ?_
  rintro e w3 ⟨ad3,n3,cp3,s3,a3,l3,c3,rs,rfl,hT,hn3,hStd,hcs⟩
  have k3:=hT.below
  have hs2:=x2.lt
  have hs3:=y2.lt
  have hnewT:=hT.new
  have x3:=x2.below k3
  have y3:=y2.below k3
  obtain⟨g3,x4⟩:=tb3_put x3 ad3 n3 cp3 s3 a3 l3 c3
  have hU:=ab_noU x3
  have hz4:=(hz2.below k3).grownU g3 hU
  have hP4:=hT.pn.away (fun b off e=>by have h9:=hnewT b off e;omega) g3 hU
  have hk4:=hT.zn.grownU g3 hU
  have hl4:=hT.le
  have y4:=y3.neq g3 o_m
  have kf4:=below_grown (grow_step k3 kf) g3 hwp
  have e0:=x3.c0
  have e1:=x3.c1
  have e2:=x3.c2
  have e3:=x3.c3
  have e4:=x3.c4
  have e5:=x3.c5
  have f3:=x3.f 3
  have f4:=x3.f 4
  have f5:=x3.f 5
  have HH:=hide (And.intro x4 (And.intro y4 (And.intro hz4 (And.intro hP4 (And.intro hk4 kf4)))))
  replace hStd:=hide hStd
  replace hcs:=hide hcs
  clear x2 y2 t2 hz2 hP2 hk2 kf hT k3 hnewT x3 y3 g3 x4 hU hz4 hP4 hk4 y4 kf4
  go_wp2_with fail
  obtain⟨x4,y4,hz4,hP4,hk4,kf4⟩:=HH.out
  clear HH e0 e1 e2 e3 e4 e5 f3 f4 f5
  generalize ((w3.setCell ⟨p,3,none⟩ (.slice ad3 n3 cp3)).setCell ⟨p,4,none⟩ (.bool s3)).setCell ⟨p,5,none⟩ (.slice a3 l3 c3)=w4 at*
  refine(anorm_n (B:=B+np+16+np1+(B+np+16+nu+1)+(np1+nu)+2) hz4.zm o_m hP4.pr hk4.zm hl4 o_m o_m).mono ?_
  rintro e w5 ⟨q5,hS5,hc5,hA5,k5⟩
  obtain⟨f',hf'⟩:=hform.out q5 (fkk+csum fps v*uk)
  rw[hf']at hA5
  have hdone:=hide (fun e w'=>hres.out e w' q5 f' hS5 (fun u=>(hc5 u).trans (hcs.out u)) hf')
  clear hres hform hf' hS5 hc5 hcs hStd
  obtain⟨sdL,adL,ldL,cdL,apL,npL,cpL,skL,akL,lkL,ckL,rfl,hzL,hlzL,hPnL,hnpL,hkL,hlkL,hnewL⟩:=hA5
  have hs4:=x4.lt
  have hs5:=y4.lt
  replace x4:=x4.below k5
  replace y4:=y4.below k5
  obtain⟨g5,x6,hz6,hP6,hk6⟩:=ab_put x4 hzL hPnL hkL (fun b off e=>by have h9:=hnewL b off e;omega) f'.kind cpL
  have y6:=y4.neq g5 o_m
  have kf6:=below_grown (grow_step k5 kf4) g5 hwp
  obtain⟨g7,y7,hz7,hP7,hk7⟩:=ab_put y6 hz6 hP6 hk6 (fun b off e=>by have h9:=hnewL b off e;omega) f'.kind cpL
  have kf7:=below_grown kf6 g7 hwr
  have hbw: ∀b off,apL=some ⟨b,off,none⟩→w.heap.size≤b:=fun b off e=>by have h9:=hnewL b off e;omega
  have hbd:ldL≤2*B+6*(np+nu)+128∧npL≤2*B+6*(np+nu)+128∧lkL≤2*B+6*(np+nu)+128∧B+np+16+np1+(B+np+16+nu+1)+(np1+nu)+2+n3+16≤2*B+6*(np+nu)+128:=by omega
  have HI:=hide (And.intro x6 y6)
  have HH:=hide (And.intro y7 (And.intro hz7 (And.intro hP7 (And.intro hk7 (And.intro hbw (And.intro kf7 hbd))))))
  have e0:=x4.c0
  have e1:=x4.c1
  have e2:=x4.c2
  have e3:=x4.c3
  have e4:=x4.c4
  have e5:=x4.c5
  have f0:=x4.f 0
  have f1:=x4.f 1
  have f2:=x4.f 2
  have f3:=x4.f 3
  have f4:=x4.f 4
  have f5:=x4.f 5
  have g0:=y4.c0
  have g1:=y4.c1
  have g2:=y4.c2
  have g3:=y4.c3
  have g4:=y4.c4
  have g5:=y4.c5
  have h0:=y4.f 0
  have h1:=y4.f 1
  have h2:=y4.f 2
  have h3:=y4.f 3
  have h4:=y4.f 4
  have h5:=y4.f 5
  clear x4 y4 hz4 hP4 hk4 kf4 hzL hPnL hkL hnewL k5 g5 x6 hz6 hP6 hk6 y6 kf6 g7 y7 hz7 hP7 hk7 kf7 hbw hbd hld hlk hlu hn hB hlz1 hnp1 hlk1 hnp2 hlen hn3 hl4 hlzL hnpL hlkL hs2 hs3 hs4 hs5 hnps hrb hpl hql hrl hpq hqr hwp hwr hp b0 hPu0 hku0 hv
  iterate 19 (first|go_skip|go_guarded|go_step|go_upon|go_simp)
  obtain⟨x6,y6⟩:=HI.out
  clear HI e0 e1 e2 e3 e4 e5 f0 f1 f2 f3 f4 f5 g0 g1 g2 g3 g4 g5 h0 h1 h2 h3 h4 h5
  generalize ((((((w5.setCell ⟨p,0,none⟩ (.int .i64 f'.kind)).setCell ⟨p,1,none⟩ (.bool sdL)).setCell ⟨p,2,none⟩ (.slice adL ldL cdL)).setCell ⟨p,3,none⟩ (.slice apL npL cpL)).setCell ⟨p,4,none⟩ (.bool skL)).setCell ⟨p,5,none⟩ (.slice akL lkL ckL))=w6 at*
  have e0:=x6.c0
  have e1:=x6.c1
  have e2:=x6.c2
  have e3:=x6.c3
  have e4:=x6.c4
  have e5:=x6.c5
  have g0:=y6.c0
  have g1:=y6.c1
  have g2:=y6.c2
  have g3:=y6.c3
  have g4:=y6.c4
  have g5:=y6.c5
  have h0:=y6.f 0
  have h1:=y6.f 1
  have h2:=y6.f 2
  have h3:=y6.f 3
  have h4:=y6.f 4
  have h5:=y6.f 5
  clear x6 y6
  go_wp2
  obtain⟨y4,hz4,hP4,hk4,hbw,kf4,hb1,hb2,hb3,hb4⟩:=HH.out
  refine bodyPost_ret (results_cell_row rfl _ _ r 57 _ (0,0) _ rfl y4 Tryz.underlying57 rfl k_f) rfl ?_
  obtain⟨q,h1,h2,h3⟩:=hdone.out (.returned (.agg #[.int .i64 f'.kind,.bool sdL,.slice adL ldL cdL,.slice apL npL cpL,.bool skL,.slice akL lkL ckL])) _ ⟨sdL,adL,ldL,cdL,apL,npL,cpL,skL,akL,lkL,ckL,rfl,hz4,hb1,hP4.mono hb4,hb2,hk4,hb3,hbw⟩
  exact⟨q,h1,h2,by first|exact h3|simpa using h3,kf4⟩
end Go.Proofs.YtbgpddlcfiiiaaaGreatDoor
