/-
 Several texts in one: YP,YS,B3,B4,BF,BH,BI,BK,G3.
-/
import Derived.Test.YtcfmkjegolpgaaaGreatDoorP27
import Derived.Test.YtcfmkjegolpgaaaGreatDoorP28
import Derived.Test.YtcfmkjegolpgaaaGreatDoorP26
import Derived.Test.YtcfmkjegolpgaaaGreatDoorP15
import Derived.Test.YtcfmkjegolpgaaaGreatDoorP18
import Derived.Test.YtcfmkjegolpgaaaGreatDoorP25
namespace Go.Proofs.YtcfmkjegolpgaaaGreatDoor
open Go.RowKit Go.Sort Go.Shelf
open Tm

variable {w : World} {ad : Option Addr} {n B : Nat} {ps : List (Int × Int)}
open Classical in
theorem pn_px (h : Pn w ad n ps B) (hS : Std ps) : ∃ X,PX w ad n X B∧VX X:=by
 obtain ⟨hn,h2⟩:=h
 rcases h2 with h2 | ⟨b,off,e,hlt,h2⟩
 ·exact ⟨(List.range n).map fun _ => (0,false,[]),⟨by simp,.inl h2⟩,fun i hi => by simp at hi; omega⟩
 ·have hx : ∀ i,∃ x : Int × Bool × List Int,(h : i < ps.length)→x.1 = (ps[i]).1∧okX x∧∃ a l c,w.cell? ⟨b,off + i * 3,none⟩ = some (.int .i64 x.1)∧w.cell? ⟨b,off + i * 3 + 1,none⟩ = some (.bool x.2.1)∧w.cell? ⟨b,off + i * 3 + 2,none⟩ = some (.slice a l c)∧Rd w a l c x.2.2∧l≤B∧I64 x.1:=fun i => by
   by_cases hi : i < ps.length
   ·obtain ⟨s,a,l,c,e0,e1,e2,hz,hl,hv⟩:=h2 i hi
    obtain ⟨xs,hr,hst,hval⟩:=hz.stands
    refine ⟨((ps[i]).1,s,xs),fun _ => ⟨rfl,⟨by rw [hr.1]; exact hst,fun h0 => ?_⟩,a,l,c,e0,e1,e2,hr,hl,hv⟩⟩
    exact hS.2 _ (List.getElem_mem hi) (hval.symm.trans (sg_zero.2 h0))
   ·exact ⟨(0,false,[]),fun h => absurd h hi⟩
  refine ⟨(List.range n).map fun i => Classical.choose (hx i),⟨by simp,.inr ⟨b,off,e,hlt,fun i hi => ?_⟩⟩,fun i hi => ?_⟩
  ·rw [gx_range hi]
   exact (Classical.choose_spec (hx i) (by omega)).2.2
  ·have hi' : i < n:=by simpa using hi
   rw [gx_range hi',gx_range (by omega)]
   have h3:=Classical.choose_spec (hx i) (by omega)
   refine ⟨h3.2.1,fun h0 => ?_⟩
   have h4:=Classical.choose_spec (hx (i - 1)) (by omega)
   rw [h3.1,h4.1]
   exact List.pairwise_iff_getElem.1 hS.1 (i - 1) i (by omega) (by omega) (by omega)
theorem TN.pn {w' : World} {s : Bool} {a : Option Addr} {l c : Nat} {rs : List Raw} {k : Int} (h : TN w w' ad n s a l c rs k B) : Pn w' ad n (rs.map Raw.p) B:=by
 obtain ⟨w1,h1,h2,⟨h3,h4⟩,_⟩:=h
 refine ⟨by simpa using h3,?_⟩
 rcases h4 with ⟨_,h4⟩ | ⟨g,e,hg,hlt,h4⟩
 ·exact .inl h4
 ·refine .inr ⟨g,0,e,hlt,fun i hi => ?_⟩
  have hi' : i < rs.length:=by simpa using hi
  obtain ⟨⟨c0,c1,c2⟩,_,hz,hl,hv⟩:=h4 i hi'
  rw [List.getElem_map,Nat.zero_add]
  exact ⟨_,_,_,_,c0,c1,c2,hz.below h2,hl,hv⟩

theorem std_lays (ps : List (Int × Int)) : Std (nz (lays [] ps)):=std_nz (rise_lays ps (by simp [Rise]))
theorem csum_nzl (ps : List (Int × Int)) (v : Int) : csum (nz (lays [] ps)) v = csum ps v:=by rw [csum_nz,csum_lays]; simp [csum]
theorem lays_eq {qs : List (Int × Int)} (h : Std qs) (hc : ∀ v,csum qs v = csum ps v) : qs = nz (lays [] ps):=std_unique h (std_lays ps) fun v => (hc v).trans (csum_nzl ps v).symm
theorem Pn.tb {w' : World} {p : Nat} {ad0 : Option Addr} {n0 cp0 : Nat} {s0 : Bool} {a0 : Option Addr} {l0 c0 : Nat} (h : Pn w ad n ps B) (y : TB w p ad0 n0 cp0 s0 a0 l0 c0) (hg : w.grownBy w' (some p)) : Pn w' ad n ps B:=by
 refine ⟨h.1,?_⟩
 rcases h.2 with h2 | ⟨b,off,e,hb,h2⟩
 ·exact .inl h2
 ·by_cases h0 : ps.length = 0
  ·exact .inl (h.1.symm.trans h0)
  ·refine .inr ⟨b,off,e,Nat.lt_of_lt_of_le hb hg.size,fun i hi => ?_⟩
   obtain ⟨s,a,l,c,e0,e1,e2,hz,hl⟩:=h2 i hi
   have hne : b ≠ p:=by
    intro e
    subst e
    rw [cell_of_row w b _ _ _ (0,0) y] at e0
    match hk : off + i * 3,e0 with
    | 0,e0 => simp at e0
    | 1,e0 => simp at e0
    | 2,e0 => simp at e0
    | k + 3,e0 => simp at e0
   have eb : w'.heap[b]? = w.heap[b]?:=hg.block b hb (by simpa using hne)
   exact ⟨s,a,l,c,(World.cell?_of_block (a:=⟨b,off + i * 3,none⟩) eb).trans e0,(World.cell?_of_block (a:=⟨b,off + i * 3 + 1,none⟩) eb).trans e1,(World.cell?_of_block (a:=⟨b,off + i * 3 + 2,none⟩) eb).trans e2,hz.grownU hg (tb_noU y),hl⟩
theorem ordL_self (ps : List (Int × Int)) : ordL ps ps = 0:=by
 induction ps with
 | nil => rfl
 | cons p ps ih => simp [ordL,ordQ,cmpI_self,ih]
theorem ordT_self (ps : List (Int × Int)) (k : Int) : ordT ps ps k k = 0:=by simp [ordT,ordL_self,cmpI_self]

end Go.Proofs.YtcfmkjegolpgaaaGreatDoor

namespace Go.Proofs.YtcfmkjegolpgaaaGreatDoor
open Go.RowKit Go.Sort Go.Shelf
open Tm At

variable {w : World} {b l c l2 c2 n cp B : Nat} {s s2 : Bool} {a a2 ad : Option Addr} {z d : Int} {ps : List (Int × Int)}
set_option maxRecDepth 100000 in
set_option maxHeartbeats 1600000 in
theorem mod1_n (y : ZB w b s2 a2 l2 c2) (hz : Zm w s a l c z) (hd : Zm w s2 a2 l2 c2 d) (hl : l≤1099511627776) (hl2 : l2≤1099511627776) (h0 : 0 < d) :
  Calls Tryz.prog 149 (#[.agg #[.bool s,.slice a l c]] ++ #[.pointer (some ⟨b,0,none⟩)]) w fun e w' => ∃ s' a' l' c',e = .returned (.agg #[.bool s',.slice a' l' c'])∧Zn w' s' a' l' c' (z % d)∧Below w.heap.size w w'∧l'≤l2:=by
 show Calls Tryz.prog 149 #[.agg #[.bool s,.slice a l c],.pointer (some ⟨b,0,none⟩)] w _
 go_enter Tryz.func149,Tryz.ntmps149
 have y0:=y.c0
 have y1:=y.c1
 have hbl:=y.lt
 go_wp2_with fail
 have r0:=zb_new (w.alloc (.cells #[.bool s,.slice a l c] 37)) false none 0 0
 have b0 : Below w.heap.size w ((w.alloc (.cells #[.bool s,.slice a l c] 37)).alloc (.cells #[.bool false,.slice none 0 0] 37)):=below_alloc' (below_alloc _ _) _
 rw [show (w.alloc (.cells #[.bool s,.slice a l c] 37)).heap.size = w.heap.size + 1 from by simp] at r0
 generalize (w.alloc (.cells #[.bool s,.slice a l c] 37)).alloc (.cells #[.bool false,.slice none 0 0] 37) = wb at *
 have hr : w.heap.size≤w.heap.size + 1:=by omega
 generalize w.heap.size + 1 = r at *
 refine (remainder_n (hz.below b0) (hd.below b0) hl hl2 h0).mono ?_
 rintro e w1 ⟨s',a',l',c',rfl,hz1,k1,hl1⟩
 have r1:=r0.below k1
 have r2:=r1.c0
 have r3:=r1.c1
 have r4:=r1.f 0
 have r5:=r1.f 1
 have hzf:=hide (zb_zn r1 hz1 s' a' l' c')
 have kf:=hide (((grow_step k1 b0).setCell (p:=⟨r,0,none⟩) hr (.bool s')).setCell (p:=⟨r,1,none⟩) hr (.slice a' l' c'))
 clear y0 y1 k1 b0
 go_wp2
 refine bodyPost_ret (results_cell_row rfl _ _ r 37 _ (0,0) _ rfl (zb_fin r1 s' a' l' c') Tryz.underlying37 rfl (by kernel_rfl)) rfl ?_
 exact ⟨s',a',l',c',by simp,hzf.out,kf.out,hl1⟩
set_option maxRecDepth 100000 in
set_option maxHeartbeats 1600000 in
theorem less1_n (y : ZB w b s2 a2 l2 c2) (hz : Zm w s a l c z) (hd : Zm w s2 a2 l2 c2 d) (hl : l≤1099511627776) (hl2 : l2≤1099511627776) (h0 : 0 < d) :
  Calls Tryz.prog 102 (#[.agg #[.bool s,.slice a l c]] ++ #[.pointer (some ⟨b,0,none⟩)]) w fun e w' => ∃ s' a' l' c',e = .returned (.agg #[.bool s',.slice a' l' c'])∧Zn w' s' a' l' c' (z / d)∧Below w.heap.size w w'∧l'≤l + 3:=by
 show Calls Tryz.prog 102 #[.agg #[.bool s,.slice a l c],.pointer (some ⟨b,0,none⟩)] w _
 go_enter Tryz.func102,Tryz.ntmps102
 have y0:=y.c0
 have y1:=y.c1
 have hbl:=y.lt
 go_wp2_with fail
 have r0:=zb_new (w.alloc (.cells #[.bool s,.slice a l c] 37)) false none 0 0
 have b0 : Below w.heap.size w ((w.alloc (.cells #[.bool s,.slice a l c] 37)).alloc (.cells #[.bool false,.slice none 0 0] 37)):=below_alloc' (below_alloc _ _) _
 rw [show (w.alloc (.cells #[.bool s,.slice a l c] 37)).heap.size = w.heap.size + 1 from by simp] at r0
 generalize (w.alloc (.cells #[.bool s,.slice a l c] 37)).alloc (.cells #[.bool false,.slice none 0 0] 37) = wb at *
 have hr : w.heap.size≤w.heap.size + 1:=by omega
 generalize w.heap.size + 1 = r at *
 refine (quotient_n (hz.below b0) (hd.below b0) hl hl2 h0).mono ?_
 rintro e w1 ⟨s',a',l',c',rfl,hz1,k1,hl1⟩
 have r1:=r0.below k1
 have r2:=r1.c0
 have r3:=r1.c1
 have r4:=r1.f 0
 have r5:=r1.f 1
 have hzf:=hide (zb_zn r1 hz1 s' a' l' c')
 have kf:=hide (((grow_step k1 b0).setCell (p:=⟨r,0,none⟩) hr (.bool s')).setCell (p:=⟨r,1,none⟩) hr (.slice a' l' c'))
 clear y0 y1 k1 b0
 go_wp2
 refine bodyPost_ret (results_cell_row rfl _ _ r 37 _ (0,0) _ rfl (zb_fin r1 s' a' l' c') Tryz.underlying37 rfl (by kernel_rfl)) rfl ?_
 exact ⟨s',a',l',c',by simp,hzf.out,kf.out,hl1⟩
set_option maxRecDepth 100000 in
set_option maxHeartbeats 1600000 in
theorem divi1_n (y : ZB w b s2 a2 l2 c2) (hz : Zm w s a l c z) (hd : Zm w s2 a2 l2 c2 d) (hl : l≤1099511627776) (hl2 : l2≤1099511627776) (h0 : 0 < d) :
  Calls Tryz.prog 107 (#[.agg #[.bool s,.slice a l c]] ++ #[.pointer (some ⟨b,0,none⟩)]) w fun e w' => ∃ s' a' l' c',e = .returned (.agg #[.bool s',.slice a' l' c'])∧Zn w' s' a' l' c' (z / d)∧Below w.heap.size w w'∧l'≤l + 3:=by
 show Calls Tryz.prog 107 #[.agg #[.bool s,.slice a l c],.pointer (some ⟨b,0,none⟩)] w _
 go_enter Tryz.func107,Tryz.ntmps107
 have y0:=y.c0
 have y1:=y.c1
 have hbl:=y.lt
 go_wp2_with fail
 have r0:=zb_new (w.alloc (.cells #[.bool s,.slice a l c] 37)) false none 0 0
 have b0 : Below w.heap.size w ((w.alloc (.cells #[.bool s,.slice a l c] 37)).alloc (.cells #[.bool false,.slice none 0 0] 37)):=below_alloc' (below_alloc _ _) _
 rw [show (w.alloc (.cells #[.bool s,.slice a l c] 37)).heap.size = w.heap.size + 1 from by simp] at r0
 generalize (w.alloc (.cells #[.bool s,.slice a l c] 37)).alloc (.cells #[.bool false,.slice none 0 0] 37) = wb at *
 have hr : w.heap.size≤w.heap.size + 1:=by omega
 generalize w.heap.size + 1 = r at *
 refine (quotient_n (hz.below b0) (hd.below b0) hl hl2 h0).mono ?_
 rintro e w1 ⟨s',a',l',c',rfl,hz1,k1,hl1⟩
 have r1:=r0.below k1
 have r2:=r1.c0
 have r3:=r1.c1
 have r4:=r1.f 0
 have r5:=r1.f 1
 have hzf:=hide (zb_zn r1 hz1 s' a' l' c')
 have kf:=hide (((grow_step k1 b0).setCell (p:=⟨r,0,none⟩) hr (.bool s')).setCell (p:=⟨r,1,none⟩) hr (.slice a' l' c'))
 clear y0 y1 k1 b0
 go_wp2
 refine bodyPost_ret (results_cell_row rfl _ _ r 37 _ (0,0) _ rfl (zb_fin r1 s' a' l' c') Tryz.underlying37 rfl (by kernel_rfl)) rfl ?_
 exact ⟨s',a',l',c',by simp,hzf.out,kf.out,hl1⟩

set_option maxRecDepth 100000 in
set_option maxHeartbeats 1600000 in
theorem modulo_n {k : Int} (hP : Pr w ad n ps B) (hz : Zm w s a l c k) (hl : l≤B) (hd : Zm w s2 a2 l2 c2 d) (h0 : 0 < d) (hn : n≤268435456) (hB : B≤1099511627776) (hl2 : l2≤1099511627776) :
  Calls Tryz.prog 104 #[.agg #[.slice ad n cp,.bool s,.slice a l c],.agg #[.bool s2,.slice a2 l2 c2]] w fun e w' => ∃ ad' n' cp' s' a' l' c',e = .returned (.agg #[.slice ad' n' cp',.bool s',.slice a' l' c'])∧Pn w' ad' n' (eachP (fun x => x % d) ps) l2∧Zn w' s' a' l' c' (k % d)∧l'≤l2∧n'≤n∧(∀ b off,ad' = some ⟨b,off,none⟩→w.heap.size≤b)∧Below w.heap.size w w':=by
 have eg : ∀ args w,(callFunc 149 args).run Tryz.prog w = .ok (.enter 149 args) w:=enters_of Tryz.func149 (by kernel_rfl) rfl
 go_enter Tryz.func104,Tryz.ntmps104
 go_wp2_with fail
 have yd:=(zb_new (w.alloc (.cells #[.slice ad n cp,.bool s,.slice a l c] 40)) s2 a2 l2 c2).below (below_alloc _ (.cells #[.slice none 0 0,.bool false,.slice none 0 0] 40))
 have yr:=tb_new ((w.alloc (.cells #[.slice ad n cp,.bool s,.slice a l c] 40)).alloc (.cells #[.bool s2,.slice a2 l2 c2] 37)) none 0 0 false none 0 0
 have b0 : Below w.heap.size w (((w.alloc (.cells #[.slice ad n cp,.bool s,.slice a l c] 40)).alloc (.cells #[.bool s2,.slice a2 l2 c2] 37)).alloc (.cells #[.slice none 0 0,.bool false,.slice none 0 0] 40)):=below_alloc' (below_alloc' (below_alloc _ _) _) _
 rw [show (w.alloc (.cells #[.slice ad n cp,.bool s,.slice a l c] 40)).heap.size = w.heap.size + 1 from by simp] at yd
 rw [show ((w.alloc (.cells #[.slice ad n cp,.bool s,.slice a l c] 40)).alloc (.cells #[.bool s2,.slice a2 l2 c2] 37)).heap.size = w.heap.size + 1 + 1 from by simp] at yr
 generalize ((w.alloc (.cells #[.slice ad n cp,.bool s,.slice a l c] 40)).alloc (.cells #[.bool s2,.slice a2 l2 c2] 37)).alloc (.cells #[.slice none 0 0,.bool false,.slice none 0 0] 40) = wb at *
 have hr : w.heap.size≤w.heap.size + 1 + 1:=by omega
 replace hP:=hP.below b0
 replace hz:=hz.below b0
 replace hd:=hd.below b0
 generalize w.heap.size + 1 + 1 = r at *
 generalize w.heap.size + 1 = q at *
 refine (each_n (F:=fun x => x % d) (C:=l2) (B:=B) eg (fun w' s5 a5 l5 c5 z5 hb5 hz5 hl5 => mod1_n (yd.below hb5) hz5 (hd.below hb5) (by omega) hl2 h0) hP hz hl hn hl2).mono ?_
 rintro e w1 ⟨ad1,n1,cp1,s1,a1,l1,c1,rfl,hP1,hz1,hl1,hn1,hnew,k1⟩
 have y5:=yr.below k1
 have y0:=y5.c0
 have y1:=y5.c1
 have y2:=y5.c2
 have y3:=y5.f 0
 have y4:=y5.f 1
 have y6:=y5.f 2
 have g:=tb_set w1 r (.slice ad1 n1 cp1) (.bool s1) (.slice a1 l1 c1)
 have hzf:=hide (hz1.grownU g (tb_noU y5))
 have hPf:=hide (hP1.tb y5 g)
 have kf:=hide (below_grown (grow_step k1 b0) g hr)
 have hnew':=hide (fun (b off : Nat) (e : ad1 = some ⟨b,off,none⟩) => Nat.le_trans b0.size (hnew b off e))
 clear g k1 b0 eg hnew
 go_wp2
 refine bodyPost_ret (results_cell_row rfl _ _ r 40 _ (0,0) _ rfl (tb_fin y5 ad1 n1 cp1 s1 a1 l1 c1) Tryz.underlying40 rfl (by kernel_rfl)) rfl ?_
 exact ⟨ad1,n1,cp1,s1,a1,l1,c1,by simp,hPf.out,hzf.out,hl1,hn1,hnew'.out,kf.out⟩

theorem getD_at {N : List Raw} {i : Nat} (h : i < N.length) : N.getD i zr = N[i]:=by simp [List.getElem?_eq_getElem h]
def encN (x : Raw) : List Value:=[.bool x.s,.slice x.a x.l x.c]
def okN (w : World) (B : Nat) (x : Raw) : Prop:=Zm w x.s x.a x.l x.c x.z∧x.l≤B
theorem okN.below {w' : World} {x : Raw} (h : okN w B x) (hb : Below w.heap.size w w') : okN w' B x:=⟨h.1.below hb,h.2⟩
theorem info2 : (Tryz.prog.info? 37).map (fun i => (i.zero,i.size,i.bytes)) = some (some (.agg #[.bool false,.slice none 0 0]),2,32):=by kernel_rfl
theorem two_one (s : Bool) (a : Option Addr) (l c : Nat) : ∀ u ∈ [Value.bool s,.slice a l c],u.oneCell' = true:=by
 intro u h
 simp at h
 rcases h with rfl | rfl <;> rfl
theorem two_new (w : World) (s : Bool) (a : Option Addr) (l c : Nat) : ∀ j u,[Value.bool s,.slice a l c][j]? = some u→(w.alloc (.cells #[.bool s,.slice a l c] 37)).cell? ((⟨w.heap.size,0,none⟩ : Addr).add j) = some u:=by
 intro j u h
 have y:=zb_new w s a l c
 match j,h with
 | 0,h => simp at h; subst h; exact y.c0
 | 1,h => simp at h; subst h; exact y.c1
 | j + 2,h => simp at h
theorem flatN_get (xs : List Raw) : ∀ (i c : Nat) (h : i < xs.length),c < 2→(xs.flatMap encN)[i * 2 + c]? = (encN (xs[i]))[c]?:=by
 induction xs with
 | nil => intro i c h; simp at h
 | cons x xs ih =>
  intro i c h hc
  rw [List.flatMap_cons]
  match i,h with
  | 0,_ => rw [List.getElem?_append_left (by simp [encN]; omega)]; simp
  | i + 1,h =>
   rw [List.getElem?_append_right (by simp [encN]; omega),show (i + 1) * 2 + c - (encN x).length = i * 2 + c by simp [encN]; omega]
   exact ih i c (by simpa using h) hc
theorem row_zl {base : Nat} {v : Value} {N : List Raw} (h : w.ownsRow base 37 2 v n (N.flatMap encN)) (hn : N.length = n) (hok : ∀ x ∈ N,okN w B x) (hB : B≤4294967296) (h0 : 0 < w.heap.size) :
  ∃ (adl : Option Addr) (cap b : Nat),v = .slice adl n cap∧(0 < n→adl = some ⟨b,0,none⟩)∧ZL w b 0 n (fun i => (N.getD i zr).s) (fun i => (N.getD i zr).a) (fun i => (N.getD i zr).l) (fun i => (N.getD i zr).c) (fun i => ((N.getD i zr).z.natAbs : Int)):=by
 have hnm : ∀ i,i < n→Nm w (N.getD i zr).a (N.getD i zr).l (N.getD i zr).c ((N.getD i zr).z.natAbs : Int)∧(N.getD i zr).l≤4294967296:=fun i hi => by
  have hm : N.getD i zr ∈ N:=by rw [getD_at (by omega)]; exact List.getElem_mem _
  obtain ⟨⟨m,hN,hz⟩,hl⟩:=hok _ hm
  have h0:=hN.nonneg
  refine ⟨?_,by omega⟩
  rw [hz,show ((sg (N.getD i zr).s m).natAbs : Int) = m by cases (N.getD i zr).s <;> simp [sg] <;> omega]
  exact hN
 rcases h.2 with ⟨rfl,rfl⟩ | ⟨g,cap,cur,rfl,hg,hcur,hsz,hcap,hm,htake⟩
 ·exact ⟨none,0,0,rfl,fun h => by omega,⟨h0,fun i hi => by omega,fun i hi => by omega,fun i hi => by omega,fun i hi => by omega⟩⟩
 ·have hc : ∀ i c,i < n→c < 2→w.cell? ⟨g,0 + i * 2 + c,none⟩ = (encN (N.getD i zr))[c]?:=fun i c hi hc => by
   have e : (cur.toList.take (n * 2))[i * 2 + c]? = (encN (N.getD i zr))[c]?:=by rw [htake,flatN_get N i c (by omega) hc,getD_at (by omega)]
   rw [List.getElem?_take,if_pos (by omega)] at e
   rw [cell_of_row w g _ _ _ (0,0) hcur,Nat.zero_add]
   simpa using e
  refine ⟨_,cap,g,rfl,fun _ => rfl,⟨(Array.getElem?_eq_some_iff.1 hcur).1,fun i hi => by have:=hc i 0 hi (by omega); simpa [encN] using this,fun i hi => by have:=hc i 1 hi (by omega); simpa [encN] using this,fun i hi => (hnm i hi).1,fun i hi => (hnm i hi).2⟩⟩
def gcdZ (zs : List Int) : Nat:=zs.foldl (fun g z => Nat.gcd g z.natAbs) 0
theorem fold_gcd (N : List Raw) : ∀ n,n≤N.length→fold gcdI 0 (fun i => ((N.getD i zr).z.natAbs : Int)) n = (gcdZ ((N.take n).map Raw.z) : Int):=by
 intro n
 induction n with
 | zero => intro _; rfl
 | succ n ih =>
  intro h
  rw [List.take_succ_eq_append_getElem (by omega),List.map_append]
  simp only [fold]
  rw [ih (by omega)]
  unfold gcdZ
  rw [List.foldl_append]
  simp only [List.map_cons,List.map_nil,List.foldl_cons,List.foldl_nil]
  unfold gcdI
  rw [Int.toNat_natCast,Int.toNat_natCast,getD_at (by omega)]
theorem foldL_le (N : List Raw) (B : Nat) (h : ∀ x ∈ N,x.l≤B) : ∀ n,n≤N.length→foldL 2 (fun i => (N.getD i zr).l) n≤n * B + 2:=by
 intro n
 induction n with
 | zero => intro _; simp [foldL]
 | succ n ih =>
  intro hn
  simp only [foldL]
  have h1:=ih (by omega)
  have h2 : (N.getD n zr).l≤B:=by rw [getD_at (by omega)]; exact h _ (List.getElem_mem _)
  rw [Nat.add_mul,Nat.one_mul]
  omega
theorem gcdZ_gcdL (zs : List Int) (ps : List (Int × Int)) : gcdZ (zs ++ ps.map Prod.snd) = gcdL (gcdZ zs) ps:=by
 unfold gcdZ gcdL
 rw [List.foldl_append,List.foldl_map]

set_option maxRecDepth 100000 in
set_option maxHeartbeats 1600000 in
theorem common_n {w0 : World} {v0 : Value} {m : Nat} {N0 : List Raw} (hb0 : Below w0.heap.size w0 w) (hP : Pr w0 ad n ps B) (hrow0 : w.ownsRow w0.heap.size 37 2 v0 m (N0.flatMap encN)) (hm : N0.length = m) (hok0 : ∀ x ∈ N0,okN w0 B x) (hpos : 0 < m + n) (hn : m + n≤262145) (hB : B≤4194000) :
  Calls Tryz.prog 97 #[.agg #[.slice ad n cp,.bool s,.slice a l c],v0] w fun e w' => ∃ s' a' l' c',e = .returned (.agg #[.bool s',.slice a' l' c'])∧Zn w' s' a' l' c' (gcdL (gcdZ (N0.map Raw.z)) ps)∧l'≤(m + n) * B + 2∧Below w0.heap.size w0 w':=by
 go_enter Tryz.func97,Tryz.ntmps97
 go_wp2_with fail
 have y:=zb_new (w.alloc (.cells #[.slice ad n cp,.bool s,.slice a l c] 40)) false none 0 0
 have b1 : Below w0.heap.size w0 ((w.alloc (.cells #[.slice ad n cp,.bool s,.slice a l c] 40)).alloc (.cells #[.bool false,.slice none 0 0] 37)):=grow_alloc (grow_alloc hb0 _) _
 have hrow1:=(hrow0.alloc (.cells #[.slice ad n cp,.bool s,.slice a l c] 40)).alloc (.cells #[.bool false,.slice none 0 0] 37)
 rw [show (w.alloc (.cells #[.slice ad n cp,.bool s,.slice a l c] 40)).heap.size = w.heap.size + 1 from by simp] at y
 generalize (w.alloc (.cells #[.slice ad n cp,.bool s,.slice a l c] 40)).alloc (.cells #[.bool false,.slice none 0 0] 37) = wb at *
 have hrb : Hid (w0.heap.size≤w.heap.size + 1):=(by have:=hb0.size; omega : w0.heap.size≤w.heap.size + 1)
 have hown0 : Hid (∀ g,v0.ownBlock = some g→g ≠ w.heap.size + 1):=(fun g e => by have:=(hrow0.lt g e).2; omega)
 generalize w.heap.size + 1 = r at *
 obtain ⟨hps,hP⟩:=hP
 obtain ⟨i0,hi,iz0,iz1,iz2⟩:=info_parts info2
 replace hok0:=hide hok0
 go_loopw [1,10] (fun vv i wr => ∃ (t : Nat) (N : List Raw),t≤n∧i = .int .i64 t∧N.length = m + t∧wr.ownsRow w0.heap.size 37 2 vv (m + t) (N.flatMap encN)∧Hid (∀ x ∈ N,okN w0 B x)∧Hid (N.map Raw.z = N0.map Raw.z ++ (ps.take t).map Prod.snd)∧Below w0.heap.size w0 wr∧Hid (ZB wr r false none 0 0)∧Hid (∀ g,vv.ownBlock = some g→g ≠ r)) (fun _ i _ => n - (intOf i).toNat)
 case atStart => exact ⟨0,N0,Nat.zero_le _,rfl,by omega,hrow1,hok0,(show _ = _ by simp),b1,y,hown0⟩
 case round =>
  obtain ⟨t,N,ht,rfl,hN,hrow,hok,hNz,kr,yr,hob⟩:=hrel
  by_cases htn : t < n
  ·rcases hP with hP | ⟨bp,op,rfl,hP⟩
   ·omega
   ·obtain ⟨s2,a2,l2,c2,e0,e1,e2,hz2,hl2,hv⟩:=(hP.below kr).2 t (by omega)
    obtain ⟨s3,a3,l3,c3,f0,f1,f2,hz3,hl3, -⟩:=hP.2 t (by omega)
    have hps' : Hid (ps.take (t + 1) = ps.take t ++ [ps[t]]):=List.take_succ_eq_append_getElem (l:=ps) (i:=t) (by omega)
    have hsame : s2 = s3∧a2 = a3∧l2 = l3∧c2 = c3:=by
     have g1:=e1.symm.trans ((kr.cell (p:=⟨bp,op + t * 3 + 1,none⟩) hP.1).trans f1)
     have g2:=e2.symm.trans ((kr.cell (p:=⟨bp,op + t * 3 + 2,none⟩) hP.1).trans f2)
     simp at g1 g2
     exact ⟨g1,g2.1,g2.2.1,g2.2.2⟩
    obtain ⟨rfl,rfl,rfl,rfl⟩:=hsame
    clear f0 f1 f2
    generalize ps[t] = pp at *
    have hbase:=hide (show w0.heap.size≤wr.heap.size from kr.size)
    have ka:=below_alloc wr (.cells #[.int .i64 pp.1,.bool s2,.slice a2 l2 c2] 69)
    have kb:=below_alloc (wr.alloc (.cells #[.int .i64 pp.1,.bool s2,.slice a2 l2 c2] 69)) (.cells #[.bool s2,.slice a2 l2 c2] 37)
    have kab:=hide (grow_step kb ka)
    clear ka kb
    go_wp2_with (at_builtin; refine wpList_append_own_at _ rfl _ _ 116 rfl w0.heap.size 37 i0 _ 2 32 Tryz.underlying116 hi iz0 iz1 iz2 rfl (by decide) _ _ _ rfl ((hrow.alloc _).alloc _) ⟨wr.heap.size + 1,0,none⟩ 1 1 [.bool s2,.slice a2 l2 c2] rfl rfl (by simpa using two_new (wr.alloc (.cells #[.int .i64 pp.1,.bool s2,.slice a2 l2 c2] 69)) s2 a2 l2 c2) (two_one _ _ _ _) (by unfold maxLen; omega) (by omega) (by have:=hbase.out; simp; omega) ?_; intro v' w4 hown' hgrow hnil hat')
    have k4 : Below w0.heap.size w0 w4:=(grow_step kab.out kr).grown hgrow (grow_step kab.out kr).size (fun k e => (hrow.lt k e).1)
    have hrl:=yr.out.lt
    have y4 : Hid (ZB w4 r false none 0 0):=(hgrow.block r (by simp; omega) (fun e => hob.out r e.symm rfl)).trans ((kab.out.block r hrl).trans yr.out)
    have hob4 : Hid (∀ g,v'.ownBlock = some g→g ≠ r):=(fun g e => by
     rcases hat' with h | h
     ·exact hob.out g (h.symm.trans e)
     ·rw [h] at e
      simp at e
      omega)
    refine ⟨⟨t + 1,N ++ [⟨pp.1,s2,a2,l2,c2,pp.2⟩],by omega,by go_num,by simp; omega,?_,?_,?_,k4,y4,hob4⟩,by simp [intOf]; omega⟩
    ·rw [List.flatMap_append]
     exact hown'
    ·exact fun x hx => (List.mem_append.1 hx).elim (hok.out x) (fun h => by rw [List.mem_singleton.1 h]; exact ⟨hz3,hl3⟩)
    ·show _ = _
     rw [List.map_append,hNz.out,hps'.out,List.map_append,List.append_assoc]
     rfl
  ·obtain rfl : t = n:=by omega
   rw [List.take_of_length_le (Nat.le_of_eq hps)] at hNz
   have hokr : ∀ x ∈ N,okN wr B x:=fun x hx => (hok.out x hx).below kr
   obtain ⟨adl,cap,b,rfl,had,hZL⟩:=row_zl hrow (by omega) hokr (by omega) (by have:=yr.out.lt; omega)
   obtain rfl:=had hpos
   have hfl:=foldL_le N B (fun x hx => (hok.out x hx).2) (m + t) (by omega)
   have hmul : (m + t) * B≤262145 * 4194000:=Nat.mul_le_mul hn hB
   have hval : Hid (fold gcdI 0 (fun i => ((N.getD i zr).z.natAbs : Int)) (m + t) = (gcdL (gcdZ (N0.map Raw.z)) ps : Int)):=(show _ = _ by
    rw [fold_gcd N (m + t) (by omega),List.take_of_length_le (by omega),hNz.out,gcdZ_gcdL])
   clear hrow hokr hP
   go_wp2_with fail
   refine (zgcd_any hZL (by omega) (by omega)).mono ?_
   rintro e w5 ⟨s5,a5,l5,c5,rfl,hz5,k5,hl5⟩
   rw [hval.out] at hz5
   have y5:=yr.out.below k5
   have r2:=y5.c0
   have r3:=y5.c1
   have r4:=y5.f 0
   have r5:=y5.f 1
   have hzf:=hide (zb_zn y5 hz5 s5 a5 l5 c5)
   have kf:=hide (((grow_step k5 kr).setCell (p:=⟨r,0,none⟩) hrb.out (.bool s5)).setCell (p:=⟨r,1,none⟩) hrb.out (.slice a5 l5 c5))
   have hlf : Hid (l5≤(m + t) * B + 2):=(Nat.le_trans hl5 hfl : l5≤(m + t) * B + 2)
   clear k5 hZL hfl hl5 hval hmul
   go_wp2
   refine bodyPost_ret (results_cell_row rfl _ _ r 37 _ (0,0) _ rfl (zb_fin y5 s5 a5 l5 c5) Tryz.underlying37 rfl (by kernel_rfl)) rfl ?_
   exact ⟨s5,a5,l5,c5,by simp,hzf.out,hlf.out,kf.out⟩

set_option maxRecDepth 100000 in
set_option maxHeartbeats 1600000 in
theorem rconst6_n {b : Bool} :
  Calls Tryz.prog 118 #[.bool b] w fun e w' => e = .returned (.agg #[.int .i64 (if b then 1 else 0),.bool false,.slice none 0 0,.slice none 0 0,.bool false,.slice none 0 0])∧Below w.heap.size w w':=by
 go_enter Tryz.func118,Tryz.ntmps118
 have kb : ∀ v,Hid (Below w.heap.size w (w.alloc (.cells #[.int .i64 v,.bool false,.slice none 0 0,.slice none 0 0,.bool false,.slice none 0 0] 42))):=fun _ => below_alloc w _
 have hn : ∀ v,Hid ((w.alloc (.cells #[.int .i64 v,.bool false,.slice none 0 0,.slice none 0 0,.bool false,.slice none 0 0] 42)).heap[w.heap.size]? = some (.cells #[.int .i64 v,.bool false,.slice none 0 0,.slice none 0 0,.bool false,.slice none 0 0] 42 (0,0))):=fun _ => heap_alloc_new w _
 replace hn:=hide hn
 replace kb:=hide kb
 cases b
 ·go_wp2
  refine bodyPost_ret (results_cell_row rfl _ _ w.heap.size 42 _ (0,0) _ rfl (hn.out 0).out Tryz.underlying42 rfl (by kernel_rfl)) rfl ?_
  exact ⟨by simp,(kb.out 0).out⟩
 ·go_wp2
  refine bodyPost_ret (results_cell_row rfl _ _ w.heap.size 42 _ (0,0) _ rfl (hn.out 1).out Tryz.underlying42 rfl (by kernel_rfl)) rfl ?_
  exact ⟨by simp,(kb.out 1).out⟩

set_option maxRecDepth 100000 in
set_option maxHeartbeats 1600000 in
theorem coefs_n (hP : Pr w ad n ps B) (hn : n≤262144) :
  Calls Tryz.prog 120 #[.agg #[.slice ad n cp,.bool s,.slice a l c]] w fun e w' => ∃ (v : Value) (N : List Raw),e = .returned v∧w'.ownsRow w.heap.size 37 2 v n (N.flatMap encN)∧N.length = n∧(∀ x ∈ N,okN w B x)∧N.map Raw.z = ps.map Prod.snd∧Below w.heap.size w w':=by
 go_enter Tryz.func120,Tryz.ntmps120
 go_wp2_with fail
 have x:=tb_new w ad n cp s a l c
 have b1:=below_alloc w (.cells #[.slice ad n cp,.bool s,.slice a l c] 40)
 have hrow1 : (w.alloc (.cells #[.slice ad n cp,.bool s,.slice a l c] 40)).ownsRow w.heap.size 37 2 (.slice none 0 0) 0 ([] : List Value):=⟨rfl,.inl ⟨rfl,rfl⟩⟩
 have hpb : Hid (w.heap.size≤w.heap.size):=Nat.le_refl w.heap.size
 generalize w.alloc (.cells #[.slice ad n cp,.bool s,.slice a l c] 40) = wb at *
 have hps:=hP.1
 obtain ⟨i0,hi,iz0,iz1,iz2⟩:=info_parts info2
 generalize hp : w.heap.size = p at *
 replace hp:=hide hp
 go_loopw [3,4] (fun vv i wr => ∃ (t : Nat) (N : List Raw),t≤n∧i = .int .i64 t∧N.length = t∧wr.ownsRow w.heap.size 37 2 vv t (N.flatMap encN)∧Hid (∀ x ∈ N,okN w B x)∧Hid (N.map Raw.z = (ps.take t).map Prod.snd)∧Below w.heap.size w wr∧Hid (TB wr p ad n cp s a l c)∧Hid (∀ g,vv.ownBlock = some g→g ≠ p)) (fun _ i _ => n - (intOf i).toNat)
 case atStart => exact ⟨0,[],Nat.zero_le _,rfl,rfl,hp.out.symm ▸ hrow1,(fun x hx => by cases hx),(show _ = _ by simp),hp.out.symm ▸ b1,x,(fun g e => by cases e)⟩
 case round =>
  obtain ⟨t,N,ht,rfl,hN,hrow,hok,hNz,kr,yr,hob⟩:=hrel
  have u0:=yr.out.c0
  by_cases htn : t < n
  ·obtain ⟨hps2,hP2⟩:=hP
   rcases hP2 with hP2 | ⟨bp,op,rfl,hP2⟩
   ·omega
   ·obtain ⟨s2,a2,l2,c2,e0,e1,e2,hz2,hl2,hv⟩:=(hP2.below kr).2 t (by omega)
    obtain ⟨s3,a3,l3,c3,f0,f1,f2,hz3,hl3, -⟩:=hP2.2 t (by omega)
    have hps' : Hid (ps.take (t + 1) = ps.take t ++ [ps[t]]):=List.take_succ_eq_append_getElem (l:=ps) (i:=t) (by omega)
    have hsame : s2 = s3∧a2 = a3∧l2 = l3∧c2 = c3:=by
     have g1:=e1.symm.trans ((kr.cell (p:=⟨bp,op + t * 3 + 1,none⟩) hP2.1).trans f1)
     have g2:=e2.symm.trans ((kr.cell (p:=⟨bp,op + t * 3 + 2,none⟩) hP2.1).trans f2)
     simp at g1 g2
     exact ⟨g1,g2.1,g2.2.1,g2.2.2⟩
    obtain ⟨rfl,rfl,rfl,rfl⟩:=hsame
    clear f0 f1 f2
    generalize ps[t] = pp at *
    have hbase:=hide (show w.heap.size≤wr.heap.size from kr.size)
    have kb:=below_alloc wr (.cells #[.bool s2,.slice a2 l2 c2] 37)
    have kab:=hide kb
    clear kb
    go_wp2_with (at_builtin; refine wpList_append_own_at _ rfl _ _ 116 rfl w.heap.size 37 i0 _ 2 32 Tryz.underlying116 hi iz0 iz1 iz2 rfl (by decide) _ _ _ rfl (hrow.alloc _) ⟨wr.heap.size,0,none⟩ 1 1 [.bool s2,.slice a2 l2 c2] rfl rfl (by simpa using two_new wr s2 a2 l2 c2) (two_one _ _ _ _) (by unfold maxLen; omega) (by omega) (by have:=hbase.out; simp; omega) ?_; intro v' w4 hown' hgrow hnil hat')
    have k4 : Below w.heap.size w w4:=(grow_step kab.out kr).grown hgrow (grow_step kab.out kr).size (fun k e => (hrow.lt k e).1)
    have hrl:=yr.out.lt
    have y4 : Hid (TB w4 p (some ⟨bp,op,none⟩) n cp s a l c):=(hgrow.block p (by simp; omega) (fun e => hob.out p e.symm rfl)).trans ((kab.out.block p hrl).trans yr.out)
    have hob4 : Hid (∀ g,v'.ownBlock = some g→g ≠ p):=(fun g e => by
     rcases hat' with h | h
     ·exact hob.out g (h.symm.trans e)
     ·rw [h] at e
      simp at e
      omega)
    refine ⟨⟨t + 1,N ++ [⟨pp.1,s2,a2,l2,c2,pp.2⟩],by omega,by go_num,by simp; omega,?_,?_,?_,k4,y4,hob4⟩,by simp [intOf]; omega⟩
    ·rw [List.flatMap_append]
     exact hown'
    ·exact fun x hx => (List.mem_append.1 hx).elim (hok.out x) (fun h => by rw [List.mem_singleton.1 h]; exact ⟨hz3,hl3⟩)
    ·show _ = _
     rw [List.map_append,hNz.out,hps'.out,List.map_append]
     rfl
  ·obtain rfl : t = n:=by omega
   rw [List.take_of_length_le (Nat.le_of_eq hps)] at hNz
   replace kr:=hide kr
   replace hrow:=hide hrow
   go_wp2
   go_ret
   exact ⟨_,N,rfl,hrow.out,hN,hok.out,hNz.out,kr.out⟩
end Go.Proofs.YtcfmkjegolpgaaaGreatDoor

namespace Go.Proofs.YtcfmkjegolpgaaaGreatDoor.At
open Tm

def mapP (F : Int→Int) (qs : List (Int × Int)) : List (Int × Int):=qs.map fun q => (q.1,F q.2)
theorem csum_eachP (F : Int→Int) (qs : List (Int × Int)) (v : Int) : csum (eachP F qs) v = csum (mapP F qs) v:=by
 induction qs with
 | nil => rfl
 | cons q qs ih =>
  rw [eachP_cons]
  by_cases h : F q.2 = 0
  ·rw [if_pos h,ih]
   simp [mapP,csum,h]
  ·rw [if_neg h]
   simp only [mapP,List.map_cons,csum] at ih ⊢
   rw [ih]
theorem nz_mapP {F : Int→Int} {qs : List (Int × Int)} (h : Std qs) : nz (lays [] (mapP F qs)) = eachP F qs :=
 (lays_eq (eachP_std h) fun v => csum_eachP F qs v).symm
theorem eachP_mapP {F : Int→Int} {qs : List (Int × Int)} (h : ∀ q ∈ qs,F q.2 ≠ 0) : eachP F qs = mapP F qs:=eachP_ne h
theorem gcdZ_snoc (qs : List (Int × Int)) (m : Int) : gcdZ (qs.map Prod.snd ++ [m]) = gcdL m.natAbs qs:=by
 have e : gcdZ (qs.map Prod.snd ++ [m]) = gcdL 0 (qs ++ [(0,m)]):=by
  unfold gcdZ gcdL
  rw [List.foldl_append,List.foldl_append,List.foldl_map]
  rfl
 rw [e]
 refine gcdL_eq fun d => ⟨fun ⟨_,h⟩ => ⟨?_,fun q hq => h q (by simp [hq])⟩,fun ⟨h1,h2⟩ => ⟨⟨0,rfl⟩,fun q hq => ?_⟩⟩
 ·exact Int.natCast_dvd_natCast.1 (Int.dvd_natAbs.2 (h (0,m) (by simp)))
 ·rcases List.mem_append.1 hq with hq | hq
  ·exact h2 q hq
  ·obtain rfl:=List.mem_singleton.1 hq
   exact Int.dvd_natAbs.1 (Int.natCast_dvd_natCast.2 h1)
theorem gcdZ_all (qs : List (Int × Int)) : gcdZ (qs.map Prod.snd) = gcdL 0 qs:=by
 unfold gcdZ gcdL
 rw [List.foldl_map]
end Go.Proofs.YtcfmkjegolpgaaaGreatDoor.At

namespace Go.Proofs.YtcfmkjegolpgaaaGreatDoor
open Go.RowKit Go.Sort Go.Shelf
open Tm At

theorem mapP_snoc (F : Int→Int) (qs : List (Int × Int)) (q : Int × Int) : mapP F (qs ++ [q]) = mapP F qs ++ [(q.1,F q.2)]:=by simp [mapP]
theorem anyH_append {P : Program} {w : World} {o : Oper} {a : Act} {K : Act→World→Prop} {Q : Exit→Act→World→Prop} {ys : Nat→Option Bool} (hgd : o.guard = none) (s x : Operand) (t : TypeId)
  (ho : o.op = .call { callee:=.builtin .append,args:=#[s,x],argTypes:=#[t,t] }) (v1 v2 : Value) (hs : a.eval s = v1) (hx : a.eval x = v2) (F : Value→World→Prop)
  (hr : ∃ v' w',(Builtin.append_ #[t,t] o.type #[v1,v2]).run P w = .ok v' w'∧F v' w')
  (h : ∀ v' w',F v' w'→K (a.put o.dst v') w') : if Region.wanted o ys = true then Oper.wp P o a w K Q else K (a.put o.dst undef) w:=by
 obtain ⟨v',w',hr,hF⟩:=hr
 rw [if_pos (by simp [Region.wanted,hgd])]
 unfold Oper.wp execOp
 simp only [ho,resolve,invoke,builtin,Sem.run_bind,Sem.run_pure,Result.andThen_ok,List.map_toArray,List.map_cons,List.map_nil,hs,hx,hr]
 exact h v' w' hF
theorem nk2 {wo w' : World} {p q o bp f t : Nat} {ad : Option Addr} {n cp : Nat} {s : Bool} {a : Option Addr} {l c : Nat} {u0 u1 u2 : Value} {s2 : Bool} {a2 : Option Addr} {l2 c2 : Nat} (x : TB wo p ad n cp s a l c) (hpo : p ≠ o) (g0 : wo.cell? ⟨bp,f + t * 3,none⟩ = some u0) (g1 : wo.cell? ⟨bp,f + t * 3 + 1,none⟩ = some u1) (g2 : wo.cell? ⟨bp,f + t * 3 + 2,none⟩ = some u2) (hb : bp < wo.heap.size) (hbo : bp ≠ o) (z : ZB wo q s2 a2 l2 c2) (hqo : q ≠ o) (hg : wo.grownBy w' (some o)) :
  w'.cell? ⟨p,0,none⟩ = some (.slice ad n cp)∧w'.cell? ⟨bp,f + t * 3,none⟩ = some u0∧w'.cell? ⟨bp,f + t * 3 + 1,none⟩ = some u1∧w'.cell? ⟨bp,f + t * 3 + 2,none⟩ = some u2∧w'.cell? ⟨q,0,none⟩ = some (.bool s2)∧w'.cell? ⟨q,1,none⟩ = some (.slice a2 l2 c2)∧wo.grownBy w' (some o):=by
 obtain ⟨h1,h2,h3,h4,h5⟩:=nk x hpo g0 g1 g2 hb hbo hg
 have z' : ZB w' q s2 a2 l2 c2:=(hg.block q z.lt (by simpa using hqo)).trans z
 exact ⟨h1,h2,h3,h4,z'.c0,z'.c1,h5⟩


theorem sk5 {wb w' : World} {p q bp f t : Nat} {ad : Option Addr} {n cp : Nat} {s : Bool} {a : Option Addr} {l c : Nat} {u0 u1 u2 : Value} {s2 : Bool} {a2 : Option Addr} {l2 c2 : Nat} (x : TB wb q ad n cp s a l c) (z : ZB wb p s2 a2 l2 c2) (g0 : wb.cell? ⟨bp,f + t * 3,none⟩ = some u0) (g1 : wb.cell? ⟨bp,f + t * 3 + 1,none⟩ = some u1) (g2 : wb.cell? ⟨bp,f + t * 3 + 2,none⟩ = some u2) (hb : bp < wb.heap.size) (k : Below wb.heap.size wb w') :
  w'.cell? ⟨q,0,none⟩ = some (.slice ad n cp)∧w'.cell? ⟨bp,f + t * 3,none⟩ = some u0∧w'.cell? ⟨bp,f + t * 3 + 1,none⟩ = some u1∧w'.cell? ⟨bp,f + t * 3 + 2,none⟩ = some u2∧w'.cell? ⟨p,0,none⟩ = some (.bool s2)∧w'.cell? ⟨p,1,none⟩ = some (.slice a2 l2 c2)∧Below wb.heap.size wb w' :=
 ⟨(x.below k).c0,(k.cell (p:=⟨bp,f + t * 3,none⟩) hb).trans g0,(k.cell (p:=⟨bp,f + t * 3 + 1,none⟩) hb).trans g1,(k.cell (p:=⟨bp,f + t * 3 + 2,none⟩) hb).trans g2,(z.below k).c0,(z.below k).c1,k⟩

end Go.Proofs.YtcfmkjegolpgaaaGreatDoor

namespace Go.Proofs.YtcfmkjegolpgaaaGreatDoor.Low
open Go.RowKit Go.Sort Go.Shelf
open Tm At
open Lw (Lo)

variable {Fw l0 c0 n B cp l c : Nat} {w : World} {s0 s : Bool} {a0 ad a : Option Addr} {ps : List (Int × Int)} {k : Int}
theorem Pn.tb {w' : World} {p : Nat} {ad0 : Option Addr} {n0 cp0 : Nat} (h : Pn Fw w ad n ps B) (y : TB w p ad0 n0 cp0 s0 a0 l0 c0) (hg : w.grownBy w' (some p)) : Pn Fw w' ad n ps B:=by
 refine ⟨h.1,?_⟩
 rcases h.2 with h2 | ⟨b,off,e,hb,h2⟩
 ·exact .inl h2
 ·by_cases h0 : ps.length = 0
  ·exact .inl (h.1.symm.trans h0)
  ·refine .inr ⟨b,off,e,Nat.lt_of_lt_of_le hb hg.size,fun i hi => ?_⟩
   obtain ⟨s,a,l,c,e0,e1,e2,hz,hl⟩:=h2 i hi
   have hne : b ≠ p:=by
    intro e
    subst e
    rw [cell_of_row w b _ _ _ (0,0) y] at e0
    match hk : off + i * 3,e0 with
    | 0,e0 => simp at e0
    | 1,e0 => simp at e0
    | 2,e0 => simp at e0
    | k + 3,e0 => simp at e0
   have eb : w'.heap[b]? = w.heap[b]?:=hg.block b hb (by simpa using hne)
   exact ⟨s,a,l,c,(World.cell?_of_block (a:=⟨b,off + i * 3,none⟩) eb).trans e0,(World.cell?_of_block (a:=⟨b,off + i * 3 + 1,none⟩) eb).trans e1,(World.cell?_of_block (a:=⟨b,off + i * 3 + 2,none⟩) eb).trans e2,hz.grownU hg (tb_noU y),hl⟩
set_option maxRecDepth 100000 in
set_option maxHeartbeats 6400000 in
theorem rscale5_g {k0 : Int} (hk : Zm Fw w s0 a0 l0 c0 k0) (hk0 : l0≤B) (hP : Pr Fw w ad n ps B) (hz : Zm Fw w s a l c k) (hl : l≤B) (hn : n≤4194304) (hB : B≤67108864) :
  Calls Tryz.prog 128 #[.agg #[.bool s0,.slice a0 l0 c0],.agg #[.slice ad n cp,.bool s,.slice a l c]] w fun e w' => ∃ ad' n' cp' s' a' l' c',e = .returned (.agg #[.slice ad' n' cp',.bool s',.slice a' l' c'])∧Pn Fw w' ad' n' (nz (lays [] (mapP (fun x => k0 * x) ps))) (2 * B + n + 2)∧Zn Fw w' s' a' l' c' (k0 * k)∧l'≤2 * B + n + 2∧n'≤n∧(∀ b off,ad' = some ⟨b,off,none⟩→w.heap.size≤b)∧Below w.heap.size w w':=by
 go_enter Tryz.func128,Tryz.ntmps128
 go_wp2_with fail
 have z:=((zb_new w s0 a0 l0 c0).below (below_alloc _ (.cells #[.slice ad n cp,.bool s,.slice a l c] 40))).below (below_alloc _ (.cells #[.slice none 0 0,.bool false,.slice none 0 0] 40))
 have x:=(tb_new (w.alloc (.cells #[.bool s0,.slice a0 l0 c0] 37)) ad n cp s a l c).below (below_alloc _ (.cells #[.slice none 0 0,.bool false,.slice none 0 0] 40))
 have y:=tb_new ((w.alloc (.cells #[.bool s0,.slice a0 l0 c0] 37)).alloc (.cells #[.slice ad n cp,.bool s,.slice a l c] 40)) none 0 0 false none 0 0
 have b0 : Below w.heap.size w (((w.alloc (.cells #[.bool s0,.slice a0 l0 c0] 37)).alloc (.cells #[.slice ad n cp,.bool s,.slice a l c] 40)).alloc (.cells #[.slice none 0 0,.bool false,.slice none 0 0] 40)):=below_alloc' (below_alloc' (below_alloc _ _) _) _
 rw [show (w.alloc (.cells #[.bool s0,.slice a0 l0 c0] 37)).heap.size = w.heap.size + 1 from by simp] at x
 rw [show ((w.alloc (.cells #[.bool s0,.slice a0 l0 c0] 37)).alloc (.cells #[.slice ad n cp,.bool s,.slice a l c] 40)).heap.size = w.heap.size + 1 + 1 from by simp] at y
 generalize ((w.alloc (.cells #[.bool s0,.slice a0 l0 c0] 37)).alloc (.cells #[.slice ad n cp,.bool s,.slice a l c] 40)).alloc (.cells #[.slice none 0 0,.bool false,.slice none 0 0] 40) = wb at *
 have hwr : w.heap.size≤w.heap.size + 1 + 1:=by omega
 replace hP:=hP.below b0
 replace hz:=hz.below b0
 replace hk:=hk.below b0
 generalize w.heap.size + 1 + 1 = r at *
 generalize w.heap.size + 1 = q at *
 have hwr' : Hid (w.heap.size≤r):=hwr
 clear hwr
 generalize hp : w.heap.size = p at *
 replace b0 : Hid (Below w.heap.size w wb):=hp ▸ b0
 replace hwr' : Hid (w.heap.size≤r):=(show w.heap.size≤r by rw [hp]; exact hwr'.out)
 clear hp
 go_loopw [5,6] (fun v i wr => ∃ (t : Nat) (ad' : Option Addr) (cap' : Nat) (L' : List Raw),t≤n∧i = .int .i64 t∧v = .slice ad' t cap'∧Hid (RS wb.heap.size wr (.slice ad' t cap') t cap' L')∧Hid (Rok Fw wr (2 * B + 1) L')∧Hid ((L'.take t).map Raw.p = mapP (fun x => k0 * x) (ps.take t))∧Hid (Below wb.heap.size wb wr)) (fun _ i _ => n - (intOf i).toNat)
 case atStart => exact ⟨0,none,0,[],Nat.zero_le _,rfl,rfl,.inl ⟨rfl,rfl,rfl,rfl⟩,(fun x hx => absurd hx (by simp)),(show _ = _ from rfl),Below.refl _ _⟩
 case round =>
  obtain ⟨t,ad',cap',L',ht,rfl,rfl,hR,hok,hlays,hkr⟩:=hrel
  have kr:=hkr.out
  have xr:=x.below kr
  have u0:=xr.c0
  by_cases htn : t < n
  ·obtain ⟨hpn,hPr⟩:=hP
   rcases hPr with hPr | ⟨bp,f,rfl,hPr⟩
   ·omega
   have hbpl:=hPr.1
   obtain ⟨s3,a3,l3,c3,g0,g1,g2,hz3,hl3,hv⟩:=hPr.2 t (by omega)
   replace hz3:=hz3.below kr
   have hk3:=hk.below kr
   have hps : Hid (ps.take (t + 1) = ps.take t ++ [ps[t]]):=List.take_succ_eq_append_getElem (l:=ps) (i:=t) (by omega)
   generalize ps[t] = pp at *
   obtain ⟨pv,pz⟩:=pp
   dsimp only at *
   have hRq:=hR.out
   have hokq:=hok.out
   have HH:=hide (And.intro kr (And.intro hz3 (And.intro hk3 (And.intro hRq hokq))))
   clear kr hz3 hk3 hRq hokq hPr
   go_wp2_with fail
   obtain ⟨kr,hz3,hk3,hRq,hokq⟩:=HH.out
   clear HH
   refine wp_region_held_drew (S:=(fun w' => w'.cell? ⟨q,0,none⟩ = some (.slice (some ⟨bp,f,none⟩) n cp)∧w'.cell? ⟨bp,f + t * 3,none⟩ = some (.int .i64 pv)∧w'.cell? ⟨bp,f + t * 3 + 1,none⟩ = some (.bool s3)∧w'.cell? ⟨bp,f + t * 3 + 2,none⟩ = some (.slice a3 l3 c3)∧w'.cell? ⟨p,0,none⟩ = some (.bool s0)∧w'.cell? ⟨p,1,none⟩ = some (.slice a0 l0 c0)∧Below wb.heap.size wb w')) (by kernel_rfl) (sk5 x z g0 g1 g2 hbpl (grow_drew kr)) (fun hHeld => ?_)
   show wpAnyH _ _ _ _ _ 19 _ _ _
   have kd:=grow_drew (Below.refl wr.heap.size wr)
   have kW:=grow_drew kr
   have hRq:=hRq.below kd
   have hokq:=hokq.below kd
   have hz3:=hz3.below kd
   have hk3:=hk3.below kd
   clear kd
   generalize wr.drew = wQ at *
   refine wpAnyH_take (i:=0) (oi:=⟨some 14,_,_,_,_,_⟩) (v:=?_) rfl (by kernel_rfl) (by kernel_rfl) (by kernel_rfl) (fun _ _ _ h => h) (Or.inl ⟨by rfl,?_⟩) (by assumption) ?_
   rotate_left
   ·intro wq hSw; (try dsimp only at hSw); go_simp; (try with_reducible rfl)
   (try simp only [pz])
   refine wpAnyH_take (i:=1) (oi:=⟨some 15,_,_,_,_,_⟩) (v:=?_) rfl (by kernel_rfl) (by kernel_rfl) (by kernel_rfl) (fun _ _ _ h => h) (Or.inl ⟨by rfl,?_⟩) (by assumption) ?_
   rotate_left
   ·intro wq hSw; (try dsimp only at hSw); go_simp; (try with_reducible rfl)
   (try simp only [pz])
   refine wpAnyH_take (i:=2) (oi:=⟨some 16,_,_,_,_,_⟩) (v:=?_) rfl (by kernel_rfl) (by kernel_rfl) (by kernel_rfl) (fun _ _ _ h => h) (Or.inl ⟨by rfl,?_⟩) (by assumption) ?_
   rotate_left
   ·intro wq hSw; (try dsimp only at hSw); go_simp; (try with_reducible rfl)
   (try simp only [pz])
   refine wpAnyH_take (i:=3) (oi:=⟨some 17,_,_,_,_,_⟩) (v:=?_) rfl (by kernel_rfl) (by kernel_rfl) (by kernel_rfl) (fun _ _ _ h => h) (Or.inl ⟨by rfl,?_⟩) (by assumption) ?_
   rotate_left
   ·intro wq hSw; (try dsimp only at hSw); go_simp; (try with_reducible rfl)
   (try simp only [pz])
   refine wpAnyH_take (i:=4) (oi:=⟨some 18,_,_,_,_,_⟩) (v:=?_) rfl (by kernel_rfl) (by kernel_rfl) (by kernel_rfl) (fun _ _ _ h => h) (Or.inl ⟨by rfl,?_⟩) (by assumption) ?_
   rotate_left
   ·intro wq hSw; (try dsimp only at hSw); go_simp; (try with_reducible rfl)
   (try simp only [pz])
   refine wpAnyH_take (i:=5) (oi:=⟨some 19,_,_,_,_,_⟩) (v:=?_) rfl (by kernel_rfl) (by kernel_rfl) (by kernel_rfl) (fun _ _ _ h => h) (Or.inl ⟨by rfl,?_⟩) (by assumption) ?_
   rotate_left
   ·intro wq hSw; (try dsimp only at hSw); go_simp; (try with_reducible rfl)
   (try simp only [pz])
   refine wpAnyH_take (i:=6) (oi:=⟨some 20,_,_,_,_,_⟩) (v:=?_) rfl (by kernel_rfl) (by kernel_rfl) (by kernel_rfl) (fun _ _ _ h => h) (Or.inl ⟨by rfl,?_⟩) (by assumption) ?_
   rotate_left
   ·intro wq hSw; (try dsimp only at hSw); go_simp; (try with_reducible rfl)
   (try simp only [pz])
   refine wpAnyH_take (i:=7) (oi:=⟨some 21,_,_,_,_,_⟩) (v:=?_) rfl (by kernel_rfl) (by kernel_rfl) (by kernel_rfl) (fun _ _ _ h => h) (Or.inl ⟨by rfl,?_⟩) (by assumption) ?_
   rotate_left
   ·intro wq hSw; (try dsimp only at hSw); go_simp; (try with_reducible rfl)
   (try simp only [pz])
   refine wpAnyH_take (i:=8) (oi:=⟨some 22,_,_,_,_,_⟩) (v:=?_) rfl (by kernel_rfl) (by kernel_rfl) (by kernel_rfl) (fun _ _ _ h => h) (Or.inl ⟨by rfl,?_⟩) (by assumption) ?_
   rotate_left
   ·intro wq hSw; (try dsimp only at hSw); go_simp; (try with_reducible rfl)
   (try simp only [pz])
   refine wpAnyH_take (i:=9) (oi:=⟨some 23,_,_,_,_,_⟩) (v:=?_) rfl (by kernel_rfl) (by kernel_rfl) (by kernel_rfl) (fun _ _ _ h => h) (Or.inl ⟨by rfl,?_⟩) (by assumption) ?_
   rotate_left
   ·intro wq hSw; (try dsimp only at hSw); go_simp; (try with_reducible rfl)
   (try simp only [pz])
   refine wpAnyH_take (i:=10) (oi:=⟨some 24,_,_,_,_,_⟩) (v:=?_) rfl (by kernel_rfl) (by kernel_rfl) (by kernel_rfl) (fun _ _ _ h => h) (Or.inl ⟨by rfl,?_⟩) (by assumption) ?_
   rotate_left
   ·intro wq hSw; (try dsimp only at hSw); go_simp; (try with_reducible rfl)
   (try simp only [pz])
   refine wpAnyH_take (i:=11) (oi:=⟨some 25,_,_,_,_,_⟩) (v:=?_) rfl (by kernel_rfl) (by kernel_rfl) (by kernel_rfl) (fun _ _ _ h => h) (Or.inl ⟨by rfl,?_⟩) (by assumption) ?_
   rotate_left
   ·intro wq hSw; (try dsimp only at hSw); go_simp; (try with_reducible rfl)
   (try simp only [pz])
   refine wpAnyH_take (i:=12) (oi:=⟨some 26,_,_,_,_,_⟩) (v:=?_) rfl (by kernel_rfl) (by kernel_rfl) (by kernel_rfl) (fun _ _ _ h => h) (Or.inl ⟨by rfl,?_⟩) (by assumption) ?_
   rotate_left
   ·intro wq hSw; (try dsimp only at hSw); go_simp; (try with_reducible rfl)
   (try simp only [pz])
   refine wpAnyH_take (i:=13) (oi:=⟨some 27,_,_,_,_,_⟩) (v:=?_) rfl (by kernel_rfl) (by kernel_rfl) (by kernel_rfl) (fun _ _ _ h => h) (Or.inl ⟨by rfl,?_⟩) (by assumption) ?_
   rotate_left
   ·intro wq hSw; (try dsimp only at hSw); go_simp; (try with_reducible rfl)
   (try simp only [pz])
   refine wpAnyH_ready (rs:=[14]) (by kernel_rfl) (by simp) ?_
   refine AllReadyH.cons (o:=⟨some 28,_,_,_,_,_⟩) rfl (fun K hK => ?_) AllReadyH.nil
   go_simp
   go_at_call 165; refine Calls.mono (rmul2_n hk3 hz3 (by omega) (by omega)) ?_; rintro e wA ⟨sN,aN,lN,cN,rfl,hN,kA,hlN⟩
   have hRq:=hRq.below kA
   have hokq:=hokq.below kA
   have kW:=grow_step kA kW
   (try go_wp2_with fail)
   refine hK.out _ _ ?_ ?_
   ·(try dsimp only); exact sk5 x z g0 g1 g2 hbpl kW
   clear hK K hHeld; intro hHeld
   (try simp only [pz])
   refine wpAnyH_ready (rs:=[15]) (by kernel_rfl) (by simp) ?_
   refine AllReadyH.cons (o:=⟨some 29,_,_,_,_,_⟩) rfl (fun K hK => ?_) AllReadyH.nil
   go_simp
   refine hK.out _ _ ?_ ?_
   ·(try dsimp only); exact sk5 x z g0 g1 g2 hbpl kW
   clear hK K hHeld; intro hHeld
   (try simp only [pz])
   refine wpAnyH_ready (rs:=[16]) (by kernel_rfl) (by simp) ?_
   refine AllReadyH.cons (o:=⟨some 30,_,_,_,_,_⟩) rfl (fun K hK => ?_) AllReadyH.nil
   have kL:=below_alloc wA (.cells #[.int .i64 pv,.bool sN,.slice aN lN cN] 69)
   have hRq:=hRq.below kL
   have hokq:=hokq.below kL
   have hN:=hN.below kL
   have hv3:=v3_new wA pv sN aN lN cN
   have kW:=grow_step kL kW
   go_simp
   refine hK.out _ _ ?_ ?_
   ·(try dsimp only); exact sk5 x z g0 g1 g2 hbpl kW
   clear hK K hHeld; intro hHeld
   (try simp only [pz])
   generalize wA.alloc (.cells #[.int .i64 pv,.bool sN,.slice aN lN cN] 69) = wL at *
   refine wpAnyH_ready (rs:=[17]) (by kernel_rfl) (by simp) ?_
   refine AllReadyH.cons (o:=⟨some 31,_,_,_,_,_⟩) rfl (fun K hK => ?_) AllReadyH.nil
   refine anyH_append rfl _ _ 38 rfl _ _ rfl rfl _ (run_append_rs (w0:=wb) hRq kW ⟨pv,sN,aN,lN,cN,k0 * pz⟩ ⟨wA.heap.size,0,none⟩ hv3 (by omega) _) ?_
   rintro v5 w8 ⟨cap5,L5,hR5,htk,hmem,hb5,hg5, -⟩
   obtain ⟨ad5,rfl⟩:=hR5.row
   have kW:=hb5
   refine hK.out _ _ ?_ ?_
   ·(try dsimp only); exact sk5 x z g0 g1 g2 hbpl kW
   clear hK K hHeld; intro hHeld
   (try simp only [pz])
   refine wpAnyH_ready (rs:=[18]) (by kernel_rfl) (by simp) ?_
   refine AllReadyH.cons (o:=⟨some 5,_,_,_,_,_⟩) rfl (fun K hK => ?_) AllReadyH.nil
   go_simp
   refine hK.out _ _ ?_ ?_
   ·(try dsimp only); exact sk5 x z g0 g1 g2 hbpl kW
   clear hK K hHeld; intro hHeld
   (try simp only [pz])
   refine wpAnyH_done (by kernel_rfl) ?_ _
   have ok5 : Rok Fw w8 (2 * B + 1) L5:=fun y hy => by
    rcases hmem y hy with h | rfl | rfl
    ·exact ⟨rs_zn hRq hg5 (hokq y h).1,(hokq y h).2⟩
    ·exact ⟨rs_zn hRq hg5 hN,by show lN≤_; omega,hv⟩
    ·exact zr_ok _ _
   have hlays3 : Hid ((L5.take (t + 1)).map Raw.p = mapP (fun x => k0 * x) (ps.take (t + 1))):=(show _ = _ by rw [htk,List.map_append,hps.out,mapP_snoc,hlays.out]; rfl)
   replace hR5:=hide hR5
   replace ok5:=hide ok5
   replace hb5:=hide hb5
   clear hHeld hmem htk hg5 hRq hokq hN hv3 kW kA kL
   go_wp2_with fail
   exact ⟨⟨t + 1,ad5,cap5,L5,by omega,by go_num,rfl,hR5,ok5,hlays3,hb5⟩,by simp [intOf]; omega⟩
  ·obtain rfl : n = t:=by omega
   have hall : (L'.take n).map Raw.p = mapP (fun x => k0 * x) ps:=by rw [hlays.out,List.take_of_length_le (by have:=hP.1; omega)]
   have hPr:=rs_pr hR.out hok.out
   rw [hall] at hPr
   have hzr:=hz.below kr
   have hk3:=hk.below kr
   have zr:=z.below kr
   have yr:=y.below kr
   have hbr : Hid (Below w.heap.size w wr):=grow_step kr b0.out
   have e0:=zr.c0
   have e1:=zr.c1
   have u1:=xr.c1
   have u2:=xr.c2
   clear hlays hall hR hok hkr
   go_wp2_with fail
   refine (rmul2_n hk3 hzr (by omega) (by omega)).mono ?_
   rintro e w2 ⟨sM,aM,lM,cM,rfl,hM,k2,hlM⟩
   replace hPr:=hPr.below k2
   replace yr:=yr.below k2
   replace hbr:=hide (grow_step k2 hbr.out)
   clear k2 e0 e1 u0 u1 u2 hzr hk3 zr xr kr
   go_wp2_with fail
   refine (rnorm5_w (B:=2 * B + 1) hPr hM.zm (by omega) (by omega) (by omega)).mono ?_
   rintro e w3 ⟨adN,nN,cpN,sN,aN,lN,cN,rfl,hTW,hzN,kN,hnN,hPN,hnewN⟩
   have hlN:=hTW.2.2
   have y2:=yr.below kN
   have v0:=y2.c0
   have v1:=y2.c1
   have v2:=y2.c2
   have v3:=y2.f 0
   have v4:=y2.f 1
   have v5:=y2.f 2
   have g:=tb_set w3 r (.slice adN nN cpN) (.bool sN) (.slice aN lN cN)
   have HH:=hide (And.intro (hPN.tb y2 g) (And.intro (hzN.grownU g (tb_noU y2)) (And.intro (below_grown (grow_step kN hbr.out) g hwr'.out) (And.intro (tb_fin y2 adN nN cpN sN aN lN cN) (fun b off e => Nat.le_trans hbr.out.size (hnewN b off e))))))
   clear hTW hzN kN hPN hnewN y2 yr g hPr hbr hM
   go_wp2
   obtain ⟨hPf,hzf,kf,yf,hnf⟩:=HH.out
   refine bodyPost_ret (results_cell_row rfl _ _ r 40 _ (0,0) _ rfl yf Tryz.underlying40 rfl (by kernel_rfl)) rfl ?_
   exact ⟨adN,nN,cpN,sN,aN,lN,cN,by simp,hPf.mono (by omega),hzf,by omega,hnN,hnf,kf⟩
theorem rscale5_n {k0 : Int} (hk : Zm Fw w s0 a0 l0 c0 k0) (hk0 : l0≤B) (hP : Pr Fw w ad n ps B) (hz : Zm Fw w s a l c k) (hl : l≤B) (hn : n≤262144) (hB : B≤67108864) :
  Calls Tryz.prog 128 #[.agg #[.bool s0,.slice a0 l0 c0],.agg #[.slice ad n cp,.bool s,.slice a l c]] w fun e w' => ∃ ad' n' cp' s' a' l' c',e = .returned (.agg #[.slice ad' n' cp',.bool s',.slice a' l' c'])∧Pn Fw w' ad' n' (nz (lays [] (mapP (fun x => k0 * x) ps))) (2 * B + n + 2)∧Zn Fw w' s' a' l' c' (k0 * k)∧l'≤2 * B + n + 2∧n'≤n∧(∀ b off,ad' = some ⟨b,off,none⟩→w.heap.size≤b)∧Below w.heap.size w w' :=
 rscale5_g hk hk0 hP hz hl (by omega) hB
set_option maxRecDepth 100000 in
set_option maxHeartbeats 6400000 in
theorem rmodulo6_n {s2 : Bool} {a2 : Option Addr} {l2 c2 : Nat} {d : Int} (hS : Std ps) (hP : Pr Fw w ad n ps B) (hz : Zm Fw w s a l c k) (hl : l≤B) (hd : Go.Proofs.YtcfmkjegolpgaaaGreatDoor.Zm w s2 a2 l2 c2 d) (hl2 : l2≤B) (hd0 : 0 < d) (hn : n≤262144) (hB : B≤67108864) :
  Calls Tryz.prog 126 #[.agg #[.slice ad n cp,.bool s,.slice a l c],.agg #[.bool s2,.slice a2 l2 c2]] w fun e w' => ∃ ad' n' cp' s' a' l' c',e = .returned (.agg #[.slice ad' n' cp',.bool s',.slice a' l' c'])∧Pn Fw w' ad' n' (eachP (fun x => x % d) ps) (2 * B + n + 6)∧Zn Fw w' s' a' l' c' (k % d)∧l'≤2 * B + n + 6∧n'≤n∧(∀ b off,ad' = some ⟨b,off,none⟩→w.heap.size≤b)∧Below w.heap.size w w':=by
 replace hS:=hide hS
 go_enter Tryz.func126,Tryz.ntmps126
 go_wp2_with fail
 have x:=((tb_new w ad n cp s a l c).below (below_alloc _ (.cells #[.bool s2,.slice a2 l2 c2] 37))).below (below_alloc _ (.cells #[.slice none 0 0,.bool false,.slice none 0 0] 40))
 have z:=(zb_new (w.alloc (.cells #[.slice ad n cp,.bool s,.slice a l c] 40)) s2 a2 l2 c2).below (below_alloc _ (.cells #[.slice none 0 0,.bool false,.slice none 0 0] 40))
 have y:=tb_new ((w.alloc (.cells #[.slice ad n cp,.bool s,.slice a l c] 40)).alloc (.cells #[.bool s2,.slice a2 l2 c2] 37)) none 0 0 false none 0 0
 have b0 : Below w.heap.size w (((w.alloc (.cells #[.slice ad n cp,.bool s,.slice a l c] 40)).alloc (.cells #[.bool s2,.slice a2 l2 c2] 37)).alloc (.cells #[.slice none 0 0,.bool false,.slice none 0 0] 40)):=below_alloc' (below_alloc' (below_alloc _ _) _) _
 rw [show (w.alloc (.cells #[.slice ad n cp,.bool s,.slice a l c] 40)).heap.size = w.heap.size + 1 from by simp] at z
 rw [show ((w.alloc (.cells #[.slice ad n cp,.bool s,.slice a l c] 40)).alloc (.cells #[.bool s2,.slice a2 l2 c2] 37)).heap.size = w.heap.size + 1 + 1 from by simp] at y
 generalize ((w.alloc (.cells #[.slice ad n cp,.bool s,.slice a l c] 40)).alloc (.cells #[.bool s2,.slice a2 l2 c2] 37)).alloc (.cells #[.slice none 0 0,.bool false,.slice none 0 0] 40) = wb at *
 have hpr : w.heap.size < w.heap.size + 1∧w.heap.size + 1 < w.heap.size + 1 + 1:=by omega
 have hP0:=hide hP
 clear hP
 replace hz:=hz.below b0
 replace hd:=hd.below b0
 generalize w.heap.size + 1 + 1 = r at *
 generalize w.heap.size + 1 = q at *
 generalize hp : w.heap.size = p at *
 replace hp:=hide hp
 refine (rmod6_n hz hd (by omega) (by omega) hd0).mono ?_
 rintro e w1 ⟨s1,a1,l1,c1,rfl,hz1,k1,hl1⟩
 have x1:=x.below k1
 have z1:=z.below k1
 have y1:=y.below k1
 replace hd:=hd.below k1
 have v0:=y1.c0
 have v1:=y1.c1
 have v2:=y1.c2
 have v3:=y1.f 0
 have v4:=y1.f 1
 have v5:=y1.f 2
 go_wp2_with fail
 have yo:=tb_new w1 none 0 0 s1 a1 l1 c1
 have ko:=below_alloc w1 (.cells #[.slice none 0 0,.bool s1,.slice a1 l1 c1] 40)
 replace hz1:=hz1.below ko
 replace hd:=hd.below ko
 replace x1:=x1.below ko
 replace z1:=z1.below ko
 replace y1:=y1.below ko
 have hrl:=y.lt
 have hbo:=hide (hp.out.symm ▸ (b0.trans ((k1.mono (by omega)).trans (ko.mono (Nat.le_trans (by omega) k1.size)))) : Below w.heap.size w _)
 have hro : Hid (p < q∧q < r∧r < w1.heap.size):=⟨hpr.1,hpr.2,Nat.lt_of_lt_of_le y.lt k1.size⟩
 generalize w1.alloc (.cells #[.slice none 0 0,.bool s1,.slice a1 l1 c1] 40) = wo at *
 generalize w1.heap.size = o at *
 clear k1 ko b0 v0 v1 v2 v3 v4 v5 x y z hz
 go_loopw [6] (fun i wr => ∃ (t : Nat) (ad' : Option Addr) (cap' : Nat) (L' : List Raw),t≤n∧i = .int .i64 t∧TB wr o ad' t cap' s1 a1 l1 c1∧Hid (RS wo.heap.size wr (.slice ad' t cap') t cap' L')∧Hid (Rok Fw wr (2 * B + 5) L')∧Hid ((L'.take t).map Raw.p = mapP (fun x => x % d) (ps.take t))∧Hid (wo.grownBy wr (some o))) (fun i _ => n - (intOf i).toNat)
 case atStart => exact ⟨0,none,0,[],Nat.zero_le _,rfl,yo,.inl ⟨rfl,rfl,rfl,rfl⟩,(fun x hx => absurd hx (by simp)),(show _ = _ from rfl),⟨rfl,rfl,rfl,Nat.le_refl _,fun _ _ _ => rfl⟩⟩
 case round =>
  obtain ⟨t,ad',cap',L',ht,rfl,yr,hR,hok,hlays,hg⟩:=hrel
  have xr:=x1.grown hg.out (by have:=hro.out; omega)
  have u0:=xr.c0
  have e0:=yr.c0
  have f0:=yr.f 0
  have hol:=yo.lt
  by_cases htn : t < n
  ·obtain ⟨hpn,hPr⟩:=hP0.out
   rcases hPr with hPr | ⟨bp,f,rfl,hPr⟩
   ·omega
   ·have hbp:=hPr.1
    obtain ⟨s3,a3,l3,c3,g0,g1,g2,hz3,hl3,hv⟩:=(hPr.below hbo.out).2 t (by omega)
    have hbpo : bp ≠ o:=by have:=hro.out; have:=hp.out; omega
    have hbpl : bp < wo.heap.size:=(hPr.below hbo.out).1
    have hpo : p ≠ o:=by have:=hro.out; omega
    have hqo : q ≠ o:=by have:=hro.out; omega
    have hps : Hid (ps.take (t + 1) = ps.take t ++ [ps[t]]):=List.take_succ_eq_append_getElem (l:=ps) (i:=t) (by omega)
    generalize ps[t] = pp at *
    obtain ⟨pv,pz⟩:=pp
    dsimp only at *
    obtain ⟨w0,hw0,hbr,hnext⟩:=own_base yo hg.out yr
    replace hz3:=hz3.grownU hg.out (tb_noU yo)
    have hd3:=hd.grownU hg.out (tb_noU yo)
    have hRq : RS w0.heap.size wr (.slice ad' t cap') t cap' L':=hw0 ▸ hR.out
    have hokq:=hok.out
    clear hPr
    have HH:=hide (And.intro hbr (And.intro hz3 (And.intro hd3 (And.intro hRq (And.intro hokq (And.intro hnext hw0))))))
    clear hbr hz3 hd3 hRq hokq hnext hw0
    go_wp2_with fail
    obtain ⟨hbr,hz3,hd3,hRq,hokq,hnext,hw0⟩:=HH.out
    clear HH
    refine wp_region_held_drew (S:=(fun w' => w'.cell? ⟨p,0,none⟩ = some (.slice (some ⟨bp,f,none⟩) n cp)∧w'.cell? ⟨bp,f + t * 3,none⟩ = some (.int .i64 pv)∧w'.cell? ⟨bp,f + t * 3 + 1,none⟩ = some (.bool s3)∧w'.cell? ⟨bp,f + t * 3 + 2,none⟩ = some (.slice a3 l3 c3)∧w'.cell? ⟨q,0,none⟩ = some (.bool s2)∧w'.cell? ⟨q,1,none⟩ = some (.slice a2 l2 c2)∧wo.grownBy w' (some o))) (by kernel_rfl) (nk2 x1 hpo g0 g1 g2 hbpl hbpo z1 hqo (gb_below hg.out (grow_drew (Below.refl wr.heap.size wr)))) (fun hHeld => ?_)
    show wpAnyH _ _ _ _ _ 21 _ _ _
    have kW:=grow_drew (Below.refl wr.heap.size wr)
    have yr:=yr.below kW
    have hRq:=hRq.below kW
    have hokq:=hokq.below kW
    generalize wr.drew = wQ at *
    refine wpAnyH_take (i:=0) (oi:=⟨some 19,_,_,_,_,_⟩) (v:=?_) rfl (by kernel_rfl) (by kernel_rfl) (by kernel_rfl) (fun _ _ _ h => h) (Or.inl ⟨by rfl,?_⟩) (by assumption) ?_
    rotate_left
    ·intro wq hSw; (try dsimp only at hSw); go_simp; (try with_reducible rfl)
    (try simp only [pz])
    refine wpAnyH_take (i:=2) (oi:=⟨some 21,_,_,_,_,_⟩) (v:=?_) rfl (by kernel_rfl) (by kernel_rfl) (by kernel_rfl) (fun _ _ _ h => h) (Or.inl ⟨by rfl,?_⟩) (by assumption) ?_
    rotate_left
    ·intro wq hSw; (try dsimp only at hSw); go_simp; (try with_reducible rfl)
    (try simp only [pz])
    refine wpAnyH_take (i:=3) (oi:=⟨some 22,_,_,_,_,_⟩) (v:=?_) rfl (by kernel_rfl) (by kernel_rfl) (by kernel_rfl) (fun _ _ _ h => h) (Or.inl ⟨by rfl,?_⟩) (by assumption) ?_
    rotate_left
    ·intro wq hSw; (try dsimp only at hSw); go_simp; (try with_reducible rfl)
    (try simp only [pz])
    refine wpAnyH_take (i:=4) (oi:=⟨some 23,_,_,_,_,_⟩) (v:=?_) rfl (by kernel_rfl) (by kernel_rfl) (by kernel_rfl) (fun _ _ _ h => h) (Or.inl ⟨by rfl,?_⟩) (by assumption) ?_
    rotate_left
    ·intro wq hSw; (try dsimp only at hSw); go_simp; (try with_reducible rfl)
    (try simp only [pz])
    refine wpAnyH_take (i:=5) (oi:=⟨some 24,_,_,_,_,_⟩) (v:=?_) rfl (by kernel_rfl) (by kernel_rfl) (by kernel_rfl) (fun _ _ _ h => h) (Or.inl ⟨by rfl,?_⟩) (by assumption) ?_
    rotate_left
    ·intro wq hSw; (try dsimp only at hSw); go_simp; (try with_reducible rfl)
    (try simp only [pz])
    refine wpAnyH_take (i:=6) (oi:=⟨some 25,_,_,_,_,_⟩) (v:=?_) rfl (by kernel_rfl) (by kernel_rfl) (by kernel_rfl) (fun _ _ _ h => h) (Or.inl ⟨by rfl,?_⟩) (by assumption) ?_
    rotate_left
    ·intro wq hSw; (try dsimp only at hSw); go_simp; (try with_reducible rfl)
    (try simp only [pz])
    refine wpAnyH_take (i:=7) (oi:=⟨some 26,_,_,_,_,_⟩) (v:=?_) rfl (by kernel_rfl) (by kernel_rfl) (by kernel_rfl) (fun _ _ _ h => h) (Or.inl ⟨by rfl,?_⟩) (by assumption) ?_
    rotate_left
    ·intro wq hSw; (try dsimp only at hSw); go_simp; (try with_reducible rfl)
    (try simp only [pz])
    refine wpAnyH_take (i:=8) (oi:=⟨some 27,_,_,_,_,_⟩) (v:=?_) rfl (by kernel_rfl) (by kernel_rfl) (by kernel_rfl) (fun _ _ _ h => h) (Or.inl ⟨by rfl,?_⟩) (by assumption) ?_
    rotate_left
    ·intro wq hSw; (try dsimp only at hSw); go_simp; (try with_reducible rfl)
    (try simp only [pz])
    refine wpAnyH_take (i:=9) (oi:=⟨some 28,_,_,_,_,_⟩) (v:=?_) rfl (by kernel_rfl) (by kernel_rfl) (by kernel_rfl) (fun _ _ _ h => h) (Or.inl ⟨by rfl,?_⟩) (by assumption) ?_
    rotate_left
    ·intro wq hSw; (try dsimp only at hSw); go_simp; (try with_reducible rfl)
    (try simp only [pz])
    refine wpAnyH_take (i:=10) (oi:=⟨some 29,_,_,_,_,_⟩) (v:=?_) rfl (by kernel_rfl) (by kernel_rfl) (by kernel_rfl) (fun _ _ _ h => h) (Or.inl ⟨by rfl,?_⟩) (by assumption) ?_
    rotate_left
    ·intro wq hSw; (try dsimp only at hSw); go_simp; (try with_reducible rfl)
    (try simp only [pz])
    refine wpAnyH_take (i:=11) (oi:=⟨some 30,_,_,_,_,_⟩) (v:=?_) rfl (by kernel_rfl) (by kernel_rfl) (by kernel_rfl) (fun _ _ _ h => h) (Or.inl ⟨by rfl,?_⟩) (by assumption) ?_
    rotate_left
    ·intro wq hSw; (try dsimp only at hSw); go_simp; (try with_reducible rfl)
    (try simp only [pz])
    refine wpAnyH_take (i:=12) (oi:=⟨some 31,_,_,_,_,_⟩) (v:=?_) rfl (by kernel_rfl) (by kernel_rfl) (by kernel_rfl) (fun _ _ _ h => h) (Or.inl ⟨by rfl,?_⟩) (by assumption) ?_
    rotate_left
    ·intro wq hSw; (try dsimp only at hSw); go_simp; (try with_reducible rfl)
    (try simp only [pz])
    refine wpAnyH_take (i:=13) (oi:=⟨some 32,_,_,_,_,_⟩) (v:=?_) rfl (by kernel_rfl) (by kernel_rfl) (by kernel_rfl) (fun _ _ _ h => h) (Or.inl ⟨by rfl,?_⟩) (by assumption) ?_
    rotate_left
    ·intro wq hSw; (try dsimp only at hSw); go_simp; (try with_reducible rfl)
    (try simp only [pz])
    refine wpAnyH_take (i:=14) (oi:=⟨some 33,_,_,_,_,_⟩) (v:=?_) rfl (by kernel_rfl) (by kernel_rfl) (by kernel_rfl) (fun _ _ _ h => h) (Or.inl ⟨by rfl,?_⟩) (by assumption) ?_
    rotate_left
    ·intro wq hSw; (try dsimp only at hSw); go_simp; (try with_reducible rfl)
    (try simp only [pz])
    refine wpAnyH_ready (rs:=[1,15]) (by kernel_rfl) (by simp) ?_
    refine AllReadyH.cons (o:=⟨some 20,_,_,_,_,_⟩) rfl (fun K hK => ?_) ?_
    ·have f0:=yr.c0
     go_simp
     refine hK.out _ _ ?_ ?_
     ·(try dsimp only); exact nk2 x1 hpo g0 g1 g2 hbpl hbpo z1 hqo (gb_below hg.out kW)
     clear hK K hHeld; intro hHeld
     (try simp only [pz])
     refine wpAnyH_ready (rs:=[15]) (by kernel_rfl) (by simp) ?_
     refine AllReadyH.cons (o:=⟨some 34,_,_,_,_,_⟩) rfl (fun K hK => ?_) ?_
     ·go_simp
      go_at_call 127; refine Calls.mono (rmod6_n (hz3.below kW) (hd3.below kW) (by omega) (by omega) hd0) ?_; rintro e wA ⟨sN,aN,lN,cN,rfl,hN,kA,hlN⟩
      have yr:=yr.below kA
      have hRq:=hRq.below kA
      have hokq:=hokq.below kA
      have kW:=grow_step kA kW
      (try go_wp2_with fail)
      refine hK.out _ _ ?_ ?_
      ·(try dsimp only); exact nk2 x1 hpo g0 g1 g2 hbpl hbpo z1 hqo (gb_below hg.out kW)
      clear hK K hHeld; intro hHeld
      (try simp only [pz])
      refine wpAnyH_ready (rs:=[16]) (by kernel_rfl) (by simp) ?_
      refine AllReadyH.cons (o:=⟨some 35,_,_,_,_,_⟩) rfl (fun K hK => ?_) ?_
      ·go_simp
       refine hK.out _ _ ?_ ?_
       ·(try dsimp only); exact nk2 x1 hpo g0 g1 g2 hbpl hbpo z1 hqo (gb_below hg.out kW)
       clear hK K hHeld; intro hHeld
       (try simp only [pz])
       refine wpAnyH_ready (rs:=[17]) (by kernel_rfl) (by simp) ?_
       refine AllReadyH.cons (o:=⟨some 36,_,_,_,_,_⟩) rfl (fun K hK => ?_) ?_
       ·have kL:=below_alloc (wA) (.cells #[.int .i64 pv,.bool sN,.slice aN lN cN] 69)
        have yr:=yr.below kL
        have hRq:=hRq.below kL
        have hokq:=hokq.below kL
        have hN:=hN.below kL
        have hv3:=v3_new wA pv sN aN lN cN
        have kW:=grow_step kL kW
        go_simp
        refine hK.out _ _ ?_ ?_
        ·(try dsimp only); exact nk2 x1 hpo g0 g1 g2 hbpl hbpo z1 hqo (gb_below hg.out kW)
        clear hK K hHeld; intro hHeld
        (try simp only [pz])
        generalize (wA).alloc (.cells #[.int .i64 pv,.bool sN,.slice aN lN cN] 69) = wL at *
        refine wpAnyH_ready (rs:=[18]) (by kernel_rfl) (by simp) ?_
        refine AllReadyH.cons (o:=⟨some 37,_,_,_,_,_⟩) rfl (fun K hK => ?_) ?_
        ·skip
         refine anyH_append rfl _ _ 38 rfl _ _ rfl rfl _ (run_append_rs (w0:=w0) hRq (grow_step kW hbr) ⟨pv,sN,aN,lN,cN,pz % d⟩ ⟨wA.heap.size,0,none⟩ hv3 (by omega) _) ?_
         rintro v5 w8 ⟨cap5,L5,hR5,htk,hmem,hb5,hg5, -⟩
         obtain ⟨ad5,rfl⟩:=hR5.row
         obtain ⟨hgS,y8⟩:=hnext w8 hb5
         refine hK.out _ _ ?_ ?_
         ·(try dsimp only); exact nk2 x1 hpo g0 g1 g2 hbpl hbpo z1 hqo hgS
         clear hK K hHeld; intro hHeld
         (try simp only [pz])
         refine wpAnyH_ready (rs:=[19]) (by kernel_rfl) (by simp) ?_
         refine AllReadyH.cons (o:=⟨some 38,_,_,_,_,_⟩) rfl (fun K hK => ?_) ?_
         ·go_simp
          refine hK.out _ _ ?_ ?_
          ·(try dsimp only); exact nk2 x1 hpo g0 g1 g2 hbpl hbpo z1 hqo hgS
          clear hK K hHeld; intro hHeld
          (try simp only [pz])
          refine wpAnyH_ready (rs:=[20]) (by kernel_rfl) (by simp) ?_
          refine AllReadyH.cons (o:=⟨none,_,_,_,_,_⟩) rfl (fun K hK => ?_) ?_
          ·have f0:=y8.c0
           have f1:=y8.f 0
           go_simp
           have hgS:=gb_trans hgS (gb_set w8 o 0 (.slice ad5 (t + 1) cap5))
           refine hK.out _ _ ?_ ?_
           ·(try dsimp only); exact nk2 x1 hpo g0 g1 g2 hbpl hbpo z1 hqo hgS
           clear hK K hHeld; intro hHeld
           (try simp only [pz])
           refine wpAnyH_done (by kernel_rfl) ?_ _
           have y3:=tb_set0 y8 ad5 (t + 1) cap5
           have hR3:=hide (RS.grown (o:=o) (hw0 ▸ hR5 : RS wo.heap.size w8 (.slice ad5 (t + 1) cap5) (t + 1) cap5 L5) (gb_set w8 o 0 (.slice ad5 (t + 1) cap5)) hol)
           have ok5 : Rok Fw w8 (2 * B + 5) L5:=fun y hy => by
            rcases hmem y hy with h | rfl | rfl
            ·exact ⟨rs_zn hRq hg5 (hokq y h).1,(hokq y h).2⟩
            ·exact ⟨rs_zn hRq hg5 hN,by show lN≤_; omega,hv⟩
            ·exact zr_ok _ _
           have hok3 : Hid (Rok Fw (w8.setCell ⟨o,0,none⟩ (.slice ad5 (t + 1) cap5)) (2 * B + 5) L5):=ok5.grownU (gb_set w8 o 0 (.slice ad5 (t + 1) cap5)) (tb_noU y8)
           have hlays3 : Hid ((L5.take (t + 1)).map Raw.p = mapP (fun x => x % d) (ps.take (t + 1))):=(show _ = _ by rw [htk,List.map_append,hps.out,mapP_snoc,hlays.out]; rfl)
           replace hgS:=hide hgS
           clear hHeld hR5 ok5 hmem htk hb5 hg5 y8 hRq hokq hN yr hv3 kW kA hbr hnext
           go_wp2_with fail
           exact ⟨⟨t + 1,ad5,cap5,L5,by omega,by go_num,y3,hR3,hok3,hlays3,hgS⟩,by simp [intOf]; omega⟩
          exact AllReadyH.nil
         exact AllReadyH.nil
        exact AllReadyH.nil
       exact AllReadyH.nil
      exact AllReadyH.nil
     exact AllReadyH.nil
    refine AllReadyH.cons (o:=⟨some 34,_,_,_,_,_⟩) rfl (fun K hK => ?_) ?_
    ·go_simp
     go_at_call 127; refine Calls.mono (rmod6_n (hz3.below kW) (hd3.below kW) (by omega) (by omega) hd0) ?_; rintro e wA ⟨sN,aN,lN,cN,rfl,hN,kA,hlN⟩
     have yr:=yr.below kA
     have hRq:=hRq.below kA
     have hokq:=hokq.below kA
     have kW:=grow_step kA kW
     (try go_wp2_with fail)
     refine hK.out _ _ ?_ ?_
     ·(try dsimp only); exact nk2 x1 hpo g0 g1 g2 hbpl hbpo z1 hqo (gb_below hg.out kW)
     clear hK K hHeld; intro hHeld
     (try simp only [pz])
     refine wpAnyH_ready (rs:=[1,16]) (by kernel_rfl) (by simp) ?_
     refine AllReadyH.cons (o:=⟨some 20,_,_,_,_,_⟩) rfl (fun K hK => ?_) ?_
     ·have f0:=yr.c0
      go_simp
      refine hK.out _ _ ?_ ?_
      ·(try dsimp only); exact nk2 x1 hpo g0 g1 g2 hbpl hbpo z1 hqo (gb_below hg.out kW)
      clear hK K hHeld; intro hHeld
      (try simp only [pz])
      refine wpAnyH_ready (rs:=[16]) (by kernel_rfl) (by simp) ?_
      refine AllReadyH.cons (o:=⟨some 35,_,_,_,_,_⟩) rfl (fun K hK => ?_) ?_
      ·go_simp
       refine hK.out _ _ ?_ ?_
       ·(try dsimp only); exact nk2 x1 hpo g0 g1 g2 hbpl hbpo z1 hqo (gb_below hg.out kW)
       clear hK K hHeld; intro hHeld
       (try simp only [pz])
       refine wpAnyH_ready (rs:=[17]) (by kernel_rfl) (by simp) ?_
       refine AllReadyH.cons (o:=⟨some 36,_,_,_,_,_⟩) rfl (fun K hK => ?_) ?_
       ·have kL:=below_alloc (wA) (.cells #[.int .i64 pv,.bool sN,.slice aN lN cN] 69)
        have yr:=yr.below kL
        have hRq:=hRq.below kL
        have hokq:=hokq.below kL
        have hN:=hN.below kL
        have hv3:=v3_new wA pv sN aN lN cN
        have kW:=grow_step kL kW
        go_simp
        refine hK.out _ _ ?_ ?_
        ·(try dsimp only); exact nk2 x1 hpo g0 g1 g2 hbpl hbpo z1 hqo (gb_below hg.out kW)
        clear hK K hHeld; intro hHeld
        (try simp only [pz])
        generalize (wA).alloc (.cells #[.int .i64 pv,.bool sN,.slice aN lN cN] 69) = wL at *
        refine wpAnyH_ready (rs:=[18]) (by kernel_rfl) (by simp) ?_
        refine AllReadyH.cons (o:=⟨some 37,_,_,_,_,_⟩) rfl (fun K hK => ?_) ?_
        ·skip
         refine anyH_append rfl _ _ 38 rfl _ _ rfl rfl _ (run_append_rs (w0:=w0) hRq (grow_step kW hbr) ⟨pv,sN,aN,lN,cN,pz % d⟩ ⟨wA.heap.size,0,none⟩ hv3 (by omega) _) ?_
         rintro v5 w8 ⟨cap5,L5,hR5,htk,hmem,hb5,hg5, -⟩
         obtain ⟨ad5,rfl⟩:=hR5.row
         obtain ⟨hgS,y8⟩:=hnext w8 hb5
         refine hK.out _ _ ?_ ?_
         ·(try dsimp only); exact nk2 x1 hpo g0 g1 g2 hbpl hbpo z1 hqo hgS
         clear hK K hHeld; intro hHeld
         (try simp only [pz])
         refine wpAnyH_ready (rs:=[19]) (by kernel_rfl) (by simp) ?_
         refine AllReadyH.cons (o:=⟨some 38,_,_,_,_,_⟩) rfl (fun K hK => ?_) ?_
         ·go_simp
          refine hK.out _ _ ?_ ?_
          ·(try dsimp only); exact nk2 x1 hpo g0 g1 g2 hbpl hbpo z1 hqo hgS
          clear hK K hHeld; intro hHeld
          (try simp only [pz])
          refine wpAnyH_ready (rs:=[20]) (by kernel_rfl) (by simp) ?_
          refine AllReadyH.cons (o:=⟨none,_,_,_,_,_⟩) rfl (fun K hK => ?_) ?_
          ·have f0:=y8.c0
           have f1:=y8.f 0
           go_simp
           have hgS:=gb_trans hgS (gb_set w8 o 0 (.slice ad5 (t + 1) cap5))
           refine hK.out _ _ ?_ ?_
           ·(try dsimp only); exact nk2 x1 hpo g0 g1 g2 hbpl hbpo z1 hqo hgS
           clear hK K hHeld; intro hHeld
           (try simp only [pz])
           refine wpAnyH_done (by kernel_rfl) ?_ _
           have y3:=tb_set0 y8 ad5 (t + 1) cap5
           have hR3:=hide (RS.grown (o:=o) (hw0 ▸ hR5 : RS wo.heap.size w8 (.slice ad5 (t + 1) cap5) (t + 1) cap5 L5) (gb_set w8 o 0 (.slice ad5 (t + 1) cap5)) hol)
           have ok5 : Rok Fw w8 (2 * B + 5) L5:=fun y hy => by
            rcases hmem y hy with h | rfl | rfl
            ·exact ⟨rs_zn hRq hg5 (hokq y h).1,(hokq y h).2⟩
            ·exact ⟨rs_zn hRq hg5 hN,by show lN≤_; omega,hv⟩
            ·exact zr_ok _ _
           have hok3 : Hid (Rok Fw (w8.setCell ⟨o,0,none⟩ (.slice ad5 (t + 1) cap5)) (2 * B + 5) L5):=ok5.grownU (gb_set w8 o 0 (.slice ad5 (t + 1) cap5)) (tb_noU y8)
           have hlays3 : Hid ((L5.take (t + 1)).map Raw.p = mapP (fun x => x % d) (ps.take (t + 1))):=(show _ = _ by rw [htk,List.map_append,hps.out,mapP_snoc,hlays.out]; rfl)
           replace hgS:=hide hgS
           clear hHeld hR5 ok5 hmem htk hb5 hg5 y8 hRq hokq hN yr hv3 kW kA hbr hnext
           go_wp2_with fail
           exact ⟨⟨t + 1,ad5,cap5,L5,by omega,by go_num,y3,hR3,hok3,hlays3,hgS⟩,by simp [intOf]; omega⟩
          exact AllReadyH.nil
         exact AllReadyH.nil
        exact AllReadyH.nil
       exact AllReadyH.nil
      exact AllReadyH.nil
     refine AllReadyH.cons (o:=⟨some 35,_,_,_,_,_⟩) rfl (fun K hK => ?_) ?_
     ·go_simp
      refine hK.out _ _ ?_ ?_
      ·(try dsimp only); exact nk2 x1 hpo g0 g1 g2 hbpl hbpo z1 hqo (gb_below hg.out kW)
      clear hK K hHeld; intro hHeld
      (try simp only [pz])
      refine wpAnyH_ready (rs:=[1,17]) (by kernel_rfl) (by simp) ?_
      refine AllReadyH.cons (o:=⟨some 20,_,_,_,_,_⟩) rfl (fun K hK => ?_) ?_
      ·have f0:=yr.c0
       go_simp
       refine hK.out _ _ ?_ ?_
       ·(try dsimp only); exact nk2 x1 hpo g0 g1 g2 hbpl hbpo z1 hqo (gb_below hg.out kW)
       clear hK K hHeld; intro hHeld
       (try simp only [pz])
       refine wpAnyH_ready (rs:=[17]) (by kernel_rfl) (by simp) ?_
       refine AllReadyH.cons (o:=⟨some 36,_,_,_,_,_⟩) rfl (fun K hK => ?_) ?_
       ·have kL:=below_alloc (wA) (.cells #[.int .i64 pv,.bool sN,.slice aN lN cN] 69)
        have yr:=yr.below kL
        have hRq:=hRq.below kL
        have hokq:=hokq.below kL
        have hN:=hN.below kL
        have hv3:=v3_new wA pv sN aN lN cN
        have kW:=grow_step kL kW
        go_simp
        refine hK.out _ _ ?_ ?_
        ·(try dsimp only); exact nk2 x1 hpo g0 g1 g2 hbpl hbpo z1 hqo (gb_below hg.out kW)
        clear hK K hHeld; intro hHeld
        (try simp only [pz])
        generalize (wA).alloc (.cells #[.int .i64 pv,.bool sN,.slice aN lN cN] 69) = wL at *
        refine wpAnyH_ready (rs:=[18]) (by kernel_rfl) (by simp) ?_
        refine AllReadyH.cons (o:=⟨some 37,_,_,_,_,_⟩) rfl (fun K hK => ?_) ?_
        ·skip
         refine anyH_append rfl _ _ 38 rfl _ _ rfl rfl _ (run_append_rs (w0:=w0) hRq (grow_step kW hbr) ⟨pv,sN,aN,lN,cN,pz % d⟩ ⟨wA.heap.size,0,none⟩ hv3 (by omega) _) ?_
         rintro v5 w8 ⟨cap5,L5,hR5,htk,hmem,hb5,hg5, -⟩
         obtain ⟨ad5,rfl⟩:=hR5.row
         obtain ⟨hgS,y8⟩:=hnext w8 hb5
         refine hK.out _ _ ?_ ?_
         ·(try dsimp only); exact nk2 x1 hpo g0 g1 g2 hbpl hbpo z1 hqo hgS
         clear hK K hHeld; intro hHeld
         (try simp only [pz])
         refine wpAnyH_ready (rs:=[19]) (by kernel_rfl) (by simp) ?_
         refine AllReadyH.cons (o:=⟨some 38,_,_,_,_,_⟩) rfl (fun K hK => ?_) ?_
         ·go_simp
          refine hK.out _ _ ?_ ?_
          ·(try dsimp only); exact nk2 x1 hpo g0 g1 g2 hbpl hbpo z1 hqo hgS
          clear hK K hHeld; intro hHeld
          (try simp only [pz])
          refine wpAnyH_ready (rs:=[20]) (by kernel_rfl) (by simp) ?_
          refine AllReadyH.cons (o:=⟨none,_,_,_,_,_⟩) rfl (fun K hK => ?_) ?_
          ·have f0:=y8.c0
           have f1:=y8.f 0
           go_simp
           have hgS:=gb_trans hgS (gb_set w8 o 0 (.slice ad5 (t + 1) cap5))
           refine hK.out _ _ ?_ ?_
           ·(try dsimp only); exact nk2 x1 hpo g0 g1 g2 hbpl hbpo z1 hqo hgS
           clear hK K hHeld; intro hHeld
           (try simp only [pz])
           refine wpAnyH_done (by kernel_rfl) ?_ _
           have y3:=tb_set0 y8 ad5 (t + 1) cap5
           have hR3:=hide (RS.grown (o:=o) (hw0 ▸ hR5 : RS wo.heap.size w8 (.slice ad5 (t + 1) cap5) (t + 1) cap5 L5) (gb_set w8 o 0 (.slice ad5 (t + 1) cap5)) hol)
           have ok5 : Rok Fw w8 (2 * B + 5) L5:=fun y hy => by
            rcases hmem y hy with h | rfl | rfl
            ·exact ⟨rs_zn hRq hg5 (hokq y h).1,(hokq y h).2⟩
            ·exact ⟨rs_zn hRq hg5 hN,by show lN≤_; omega,hv⟩
            ·exact zr_ok _ _
           have hok3 : Hid (Rok Fw (w8.setCell ⟨o,0,none⟩ (.slice ad5 (t + 1) cap5)) (2 * B + 5) L5):=ok5.grownU (gb_set w8 o 0 (.slice ad5 (t + 1) cap5)) (tb_noU y8)
           have hlays3 : Hid ((L5.take (t + 1)).map Raw.p = mapP (fun x => x % d) (ps.take (t + 1))):=(show _ = _ by rw [htk,List.map_append,hps.out,mapP_snoc,hlays.out]; rfl)
           replace hgS:=hide hgS
           clear hHeld hR5 ok5 hmem htk hb5 hg5 y8 hRq hokq hN yr hv3 kW kA hbr hnext
           go_wp2_with fail
           exact ⟨⟨t + 1,ad5,cap5,L5,by omega,by go_num,y3,hR3,hok3,hlays3,hgS⟩,by simp [intOf]; omega⟩
          exact AllReadyH.nil
         exact AllReadyH.nil
        exact AllReadyH.nil
       exact AllReadyH.nil
      refine AllReadyH.cons (o:=⟨some 36,_,_,_,_,_⟩) rfl (fun K hK => ?_) ?_
      ·have kL:=below_alloc (wA) (.cells #[.int .i64 pv,.bool sN,.slice aN lN cN] 69)
       have yr:=yr.below kL
       have hRq:=hRq.below kL
       have hokq:=hokq.below kL
       have hN:=hN.below kL
       have hv3:=v3_new wA pv sN aN lN cN
       have kW:=grow_step kL kW
       go_simp
       refine hK.out _ _ ?_ ?_
       ·(try dsimp only); exact nk2 x1 hpo g0 g1 g2 hbpl hbpo z1 hqo (gb_below hg.out kW)
       clear hK K hHeld; intro hHeld
       (try simp only [pz])
       generalize (wA).alloc (.cells #[.int .i64 pv,.bool sN,.slice aN lN cN] 69) = wL at *
       refine wpAnyH_ready (rs:=[1]) (by kernel_rfl) (by simp) ?_
       refine AllReadyH.cons (o:=⟨some 20,_,_,_,_,_⟩) rfl (fun K hK => ?_) ?_
       ·have f0:=yr.c0
        go_simp
        refine hK.out _ _ ?_ ?_
        ·(try dsimp only); exact nk2 x1 hpo g0 g1 g2 hbpl hbpo z1 hqo (gb_below hg.out kW)
        clear hK K hHeld; intro hHeld
        (try simp only [pz])
        refine wpAnyH_ready (rs:=[18]) (by kernel_rfl) (by simp) ?_
        refine AllReadyH.cons (o:=⟨some 37,_,_,_,_,_⟩) rfl (fun K hK => ?_) ?_
        ·skip
         refine anyH_append rfl _ _ 38 rfl _ _ rfl rfl _ (run_append_rs (w0:=w0) hRq (grow_step kW hbr) ⟨pv,sN,aN,lN,cN,pz % d⟩ ⟨wA.heap.size,0,none⟩ hv3 (by omega) _) ?_
         rintro v5 w8 ⟨cap5,L5,hR5,htk,hmem,hb5,hg5, -⟩
         obtain ⟨ad5,rfl⟩:=hR5.row
         obtain ⟨hgS,y8⟩:=hnext w8 hb5
         refine hK.out _ _ ?_ ?_
         ·(try dsimp only); exact nk2 x1 hpo g0 g1 g2 hbpl hbpo z1 hqo hgS
         clear hK K hHeld; intro hHeld
         (try simp only [pz])
         refine wpAnyH_ready (rs:=[19]) (by kernel_rfl) (by simp) ?_
         refine AllReadyH.cons (o:=⟨some 38,_,_,_,_,_⟩) rfl (fun K hK => ?_) ?_
         ·go_simp
          refine hK.out _ _ ?_ ?_
          ·(try dsimp only); exact nk2 x1 hpo g0 g1 g2 hbpl hbpo z1 hqo hgS
          clear hK K hHeld; intro hHeld
          (try simp only [pz])
          refine wpAnyH_ready (rs:=[20]) (by kernel_rfl) (by simp) ?_
          refine AllReadyH.cons (o:=⟨none,_,_,_,_,_⟩) rfl (fun K hK => ?_) ?_
          ·have f0:=y8.c0
           have f1:=y8.f 0
           go_simp
           have hgS:=gb_trans hgS (gb_set w8 o 0 (.slice ad5 (t + 1) cap5))
           refine hK.out _ _ ?_ ?_
           ·(try dsimp only); exact nk2 x1 hpo g0 g1 g2 hbpl hbpo z1 hqo hgS
           clear hK K hHeld; intro hHeld
           (try simp only [pz])
           refine wpAnyH_done (by kernel_rfl) ?_ _
           have y3:=tb_set0 y8 ad5 (t + 1) cap5
           have hR3:=hide (RS.grown (o:=o) (hw0 ▸ hR5 : RS wo.heap.size w8 (.slice ad5 (t + 1) cap5) (t + 1) cap5 L5) (gb_set w8 o 0 (.slice ad5 (t + 1) cap5)) hol)
           have ok5 : Rok Fw w8 (2 * B + 5) L5:=fun y hy => by
            rcases hmem y hy with h | rfl | rfl
            ·exact ⟨rs_zn hRq hg5 (hokq y h).1,(hokq y h).2⟩
            ·exact ⟨rs_zn hRq hg5 hN,by show lN≤_; omega,hv⟩
            ·exact zr_ok _ _
           have hok3 : Hid (Rok Fw (w8.setCell ⟨o,0,none⟩ (.slice ad5 (t + 1) cap5)) (2 * B + 5) L5):=ok5.grownU (gb_set w8 o 0 (.slice ad5 (t + 1) cap5)) (tb_noU y8)
           have hlays3 : Hid ((L5.take (t + 1)).map Raw.p = mapP (fun x => x % d) (ps.take (t + 1))):=(show _ = _ by rw [htk,List.map_append,hps.out,mapP_snoc,hlays.out]; rfl)
           replace hgS:=hide hgS
           clear hHeld hR5 ok5 hmem htk hb5 hg5 y8 hRq hokq hN yr hv3 kW kA hbr hnext
           go_wp2_with fail
           exact ⟨⟨t + 1,ad5,cap5,L5,by omega,by go_num,y3,hR3,hok3,hlays3,hgS⟩,by simp [intOf]; omega⟩
          exact AllReadyH.nil
         exact AllReadyH.nil
        exact AllReadyH.nil
       exact AllReadyH.nil
      exact AllReadyH.nil
     exact AllReadyH.nil
    exact AllReadyH.nil
  ·obtain rfl : n = t:=by omega
   have hall : (L'.take n).map Raw.p = mapP (fun x => x % d) ps:=by rw [hlays.out,List.take_of_length_le (by have:=hP0.out.1; omega)]
   have hzr:=hz1.grownU hg.out (tb_noU yo)
   have yr0:=y1.grown hg.out (by have:=hro.out; omega)
   have hPr:=rs_pr hR.out hok.out
   rw [hall] at hPr
   have hbr : Hid (Below w.heap.size w wr):=below_grown hbo.out hg.out (by have:=hro.out; have:=hp.out; omega)
   have e1:=yr.c1
   have e2:=yr.c2
   have hwr : Hid (w.heap.size≤r):=(show w.heap.size≤r by have:=hro.out; have:=hp.out; omega)
   clear hg hlays hbo hol ht htn yo x1 y1 hz1 hR hok hall z1 hd f0 yr
   go_wp2_with fail
   refine (rnorm5_w (B:=2 * B + 5) hPr hzr.zm (by omega) (by omega) (by omega)).mono ?_
   rintro e w2 ⟨adN,nN,cpN,sN,aN,lN,cN,rfl,hTW,hzN,kN,hnN,hPN,hnewN⟩
   rw [nz_mapP hS.out] at hPN
   have hlN:=hTW.2.2
   have y2:=yr0.below kN
   have v0:=y2.c0
   have v1:=y2.c1
   have v2:=y2.c2
   have v3:=y2.f 0
   have v4:=y2.f 1
   have v5:=y2.f 2
   have g:=tb_set w2 r (.slice adN nN cpN) (.bool sN) (.slice aN lN cN)
   have HH:=hide (And.intro (hPN.tb y2 g) (And.intro (hzN.grownU g (tb_noU y2)) (And.intro (below_grown (grow_step kN hbr.out) g hwr.out) (And.intro (tb_fin y2 adN nN cpN sN aN lN cN) (fun b off e => Nat.le_trans hbr.out.size (hnewN b off e))))))
   clear hTW hzN kN hPN hnewN y2 yr0 g hPr hzr e1 e2 hbr
   go_wp2
   obtain ⟨hPf,hzf,kf,yf,hnf⟩:=HH.out
   refine bodyPost_ret (results_cell_row rfl _ _ r 40 _ (0,0) _ rfl yf Tryz.underlying40 rfl (by kernel_rfl)) rfl ?_
   exact ⟨adN,nN,cpN,sN,aN,lN,cN,by simp,hPf.mono (by omega),hzf,by omega,hnN,hnf,kf⟩
end Go.Proofs.YtcfmkjegolpgaaaGreatDoor.Low
