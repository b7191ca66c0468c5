/-
 Several texts in one: YP,YS,B3,B4,B5,BF,BH,BI,BK.
-/
import Derived.Test.YtcfmkjegolpgaaaGreatDoorPT
import Derived.Test.YtcfmkjegolpgaaaGreatDoorP26
import Derived.Test.YtcfmkjegolpgaaaGreatDoorP27
import Derived.Test.YtcfmkjegolpgaaaGreatDoorP25
import Derived.Test.YtcfmkjegolpgaaaGreatDoorP15
import Derived.Test.YtcfmkjegolpgaaaGreatDoorP18
import Derived.Test.YtcfmkjegolpgaaaGreatDoorP24
set_option maxRecDepth 100000
set_option maxHeartbeats 3200000
namespace Go.Proofs.YtcfmkjegolpgaaaGreatDoor
open Go.RowKit Go.Sort Go.Shelf
open Tm

variable {w : World} {ad : Option Addr} {n B : Nat} {ps : List (Int × Int)}
open Classical in
theorem pn_px (h : Pn w ad n ps B) (hS : Std ps) : ∃ X,PX w ad n X B∧VX X:=by
 obtain ⟨hn,h2⟩:=h
 rcases h2 with h2 | ⟨b,off,e,hlt,h2⟩
 ·exact ⟨(List.range n).map fun _ => (0,false,[]),⟨by simp,.inl h2⟩,fun i hi => by simp at hi; omega⟩
 have hx : ∀ i,∃ x : Int × Bool × List Int,(h : i < ps.length)→x.1 = (ps[i]).1∧okX x∧∃ a l c,w.cell? ⟨b,off + i * 3,none⟩ = some (.int .i64 x.1)∧w.cell? ⟨b,off + i * 3 + 1,none⟩ = some (.bool x.2.1)∧w.cell? ⟨b,off + i * 3 + 2,none⟩ = some (.slice a l c)∧Rd w a l c x.2.2∧l≤B∧I64 x.1:=fun i => by
  by_cases hi : i < ps.length
  ·obtain ⟨s,a,l,c,e0,e1,e2,hz,hl,hv⟩:=h2 i hi
   obtain ⟨xs,hr,hst,hval⟩:=hz.stands
   refine ⟨((ps[i]).1,s,xs),fun _ => ⟨rfl,⟨by rw [hr.1]; exact hst,fun h0 => ?_⟩,a,l,c,e0,e1,e2,hr,hl,hv⟩⟩
   exact hS.2 _ (List.getElem_mem hi) (hval.symm.trans (sg_zero.2 h0))
  exact ⟨(0,false,[]),fun h => absurd h hi⟩
 refine ⟨(List.range n).map fun i => Classical.choose (hx i),⟨by simp,.inr ⟨b,off,e,hlt,fun i hi => ?_⟩⟩,fun i hi => ?_⟩
 ·rw [gx_range hi]
  exact (Classical.choose_spec (hx i) o_m).2.2
 have hi' : i < n:=by simpa using hi
 rw [gx_range hi',gx_range o_m]
 have h3:=Classical.choose_spec (hx i) o_m
 refine ⟨h3.2.1,fun h0 => ?_⟩
 have h4:=Classical.choose_spec (hx (i - 1)) o_m
 rw [h3.1,h4.1]
 exact List.pairwise_iff_getElem.1 hS.1 (i - 1) i o_m o_m o_m
theorem TN.pn {w' : World} {s : Bool} {a : Option Addr} {l c : Nat} {rs : List Raw} {k : Int} (h : TN w w' ad n s a l c rs k B) : Pn w' ad n (rs.map Raw.p) B:=by
 obtain ⟨w1,h1,h2,⟨h3,h4⟩,_⟩:=h
 refine ⟨by simpa using h3,?_⟩
 rcases h4 with ⟨_,h4⟩ | ⟨g,e,hg,hlt,h4⟩
 ·exact .inl h4
 refine .inr ⟨g,0,e,hlt,fun i hi => ?_⟩
 have hi' : i < rs.length:=by simpa using hi
 obtain ⟨⟨c0,c1,c2⟩,_,hz,hl,hv⟩:=h4 i hi'
 rw [List.getElem_map,Nat.zero_add]
 exact ⟨_,_,_,_,c0,c1,c2,hz.below h2,hl,hv⟩

theorem std_lays (ps : List (Int × Int)) : Std (nz (lays [] ps)):=std_nz (rise_lays ps (by simp [Rise]))
theorem csum_nzl (ps : List (Int × Int)) (v : Int) : csum (nz (lays [] ps)) v = csum ps v:=by rw [csum_nz,csum_lays]; simp [csum]
theorem lays_eq {qs : List (Int × Int)} (h : Std qs) (hc : ∀ v,csum qs v = csum ps v) : qs = nz (lays [] ps):=std_unique h (std_lays ps) fun v => (hc v).trans (csum_nzl ps v).symm
theorem Pn.tb {w' : World} {p : Nat} {ad0 : Option Addr} {n0 cp0 : Nat} {s0 : Bool} {a0 : Option Addr} {l0 c0 : Nat} (h : Pn w ad n ps B) (y : TB w p ad0 n0 cp0 s0 a0 l0 c0) (hg : w.grownBy w' (some p)) : Pn w' ad n ps B:=by
 refine ⟨h.1,?_⟩
 rcases h.2 with h2 | ⟨b,off,e,hb,h2⟩
 ·exact .inl h2
 by_cases h0 : ps.length = 0
 ·exact .inl (h.1.symm.trans h0)
 refine .inr ⟨b,off,e,Nat.lt_of_lt_of_le hb hg.size,fun i hi => ?_⟩
 obtain ⟨s,a,l,c,e0,e1,e2,hz,hl⟩:=h2 i hi
 have hne : b ≠ p:=by
  intro e
  subst e
  rw [cell_of_row w b _ _ _ (0,0) y] at e0
  match hk : off + i * 3,e0 with
  | 0,e0 => simp at e0
  | 1,e0 => simp at e0
  | 2,e0 => simp at e0
  | k + 3,e0 => simp at e0
 have eb : w'.heap[b]? = w.heap[b]?:=hg.block b hb (by simpa using hne)
 exact ⟨s,a,l,c,(World.cell?_of_block (a:=⟨b,off + i * 3,none⟩) eb).trans e0,(World.cell?_of_block (a:=⟨b,off + i * 3 + 1,none⟩) eb).trans e1,(World.cell?_of_block (a:=⟨b,off + i * 3 + 2,none⟩) eb).trans e2,hz.grownU hg (tb_noU y),hl⟩
theorem ordL_self (ps : List (Int × Int)) : ordL ps ps = 0:=by
 induction ps with
 | nil => rfl
 | cons p ps ih => simp [ordL,ordQ,cmpI_self,ih]
theorem ordT_self (ps : List (Int × Int)) (k : Int) : ordT ps ps k k = 0:=by simp [ordT,ordL_self,cmpI_self]

end Go.Proofs.YtcfmkjegolpgaaaGreatDoor

namespace Go.Proofs.YtcfmkjegolpgaaaGreatDoor
open Go.RowKit Go.Sort Go.Shelf
open Tm At

variable {w w' : World} {b l c l2 c2 n cp B r : Nat} {s s2 : Bool} {a a2 ad : Option Addr} {z d : Int} {ps : List (Int × Int)}
theorem mod1_n (y : ZB w b s2 a2 l2 c2) (hz : Zm w s a l c z) (hd : Zm w s2 a2 l2 c2 d) (hl : l≤1099511627776) (hl2 : l2≤1099511627776) (h0 : 0 < d) :
  Calls Tryz.prog 149 (#[.agg #[.bool s,.slice a l c]] ++ #[.pointer (some ⟨b,0,none⟩)]) w fun e w' => ∃ s' a' l' c',e = .returned (.agg #[.bool s',.slice a' l' c'])∧Zn w' s' a' l' c' (z % d)∧Below w.heap.size w w'∧l'≤l2:=by
 show Calls Tryz.prog 149 #[.agg #[.bool s,.slice a l c],.pointer (some ⟨b,0,none⟩)] w _
 go_enter Tryz.func149,Tryz.ntmps149
 have y0:=y.c0
 have y1:=y.c1
 have hbl:=y.lt
 go_wp2_with fail
 have r0:=zb_new (w.alloc (.cells #[.bool s,.slice a l c] 37)) false none 0 0
 have b0 : Below w.heap.size w ((w.alloc (.cells #[.bool s,.slice a l c] 37)).alloc (.cells #[.bool false,.slice none 0 0] 37)):=below_alloc' (below_alloc _ _) _
 rw [show (w.alloc (.cells #[.bool s,.slice a l c] 37)).heap.size = w.heap.size + 1 from by simp] at r0
 generalize (w.alloc (.cells #[.bool s,.slice a l c] 37)).alloc (.cells #[.bool false,.slice none 0 0] 37) = wb at *
 have hr : w.heap.size≤w.heap.size + 1:=by omega
 generalize w.heap.size + 1 = r at *
 refine (remainder_n (hz.below b0) (hd.below b0) hl hl2 h0).mono ?_
 rintro e w1 ⟨s',a',l',c',rfl,hz1,k1,hl1⟩
 have r1:=r0.below k1
 have r2:=r1.c0
 have r3:=r1.c1
 have r4:=r1.f 0
 have r5:=r1.f 1
 have hzf:=hide (zb_zn r1 hz1 s' a' l' c')
 have kf:=hide (((grow_step k1 b0).setCell (p:=⟨r,0,none⟩) hr (.bool s')).setCell (p:=⟨r,1,none⟩) hr (.slice a' l' c'))
 clear y0 y1 k1 b0
 go_wp2
 refine bodyPost_ret (results_cell_row rfl _ _ r 37 _ (0,0) _ rfl (zb_fin r1 s' a' l' c') Tryz.underlying37 rfl k_f) rfl ?_
 exact ⟨s',a',l',c',by simp,hzf.out,kf.out,hl1⟩
theorem less1_n (y : ZB w b s2 a2 l2 c2) (hz : Zm w s a l c z) (hd : Zm w s2 a2 l2 c2 d) (hl : l≤1099511627776) (hl2 : l2≤1099511627776) (h0 : 0 < d) :
  Calls Tryz.prog 102 (#[.agg #[.bool s,.slice a l c]] ++ #[.pointer (some ⟨b,0,none⟩)]) w fun e w' => ∃ s' a' l' c',e = .returned (.agg #[.bool s',.slice a' l' c'])∧Zn w' s' a' l' c' (z / d)∧Below w.heap.size w w'∧l'≤l + 3:=by
 show Calls Tryz.prog 102 #[.agg #[.bool s,.slice a l c],.pointer (some ⟨b,0,none⟩)] w _
 go_enter Tryz.func102,Tryz.ntmps102
 have y0:=y.c0
 have y1:=y.c1
 have hbl:=y.lt
 go_wp2_with fail
 have r0:=zb_new (w.alloc (.cells #[.bool s,.slice a l c] 37)) false none 0 0
 have b0 : Below w.heap.size w ((w.alloc (.cells #[.bool s,.slice a l c] 37)).alloc (.cells #[.bool false,.slice none 0 0] 37)):=below_alloc' (below_alloc _ _) _
 rw [show (w.alloc (.cells #[.bool s,.slice a l c] 37)).heap.size = w.heap.size + 1 from by simp] at r0
 generalize (w.alloc (.cells #[.bool s,.slice a l c] 37)).alloc (.cells #[.bool false,.slice none 0 0] 37) = wb at *
 have hr : w.heap.size≤w.heap.size + 1:=by omega
 generalize w.heap.size + 1 = r at *
 refine (quotient_n (hz.below b0) (hd.below b0) hl hl2 h0).mono ?_
 rintro e w1 ⟨s',a',l',c',rfl,hz1,k1,hl1⟩
 have r1:=r0.below k1
 have r2:=r1.c0
 have r3:=r1.c1
 have r4:=r1.f 0
 have r5:=r1.f 1
 have hzf:=hide (zb_zn r1 hz1 s' a' l' c')
 have kf:=hide (((grow_step k1 b0).setCell (p:=⟨r,0,none⟩) hr (.bool s')).setCell (p:=⟨r,1,none⟩) hr (.slice a' l' c'))
 clear y0 y1 k1 b0
 go_wp2
 refine bodyPost_ret (results_cell_row rfl _ _ r 37 _ (0,0) _ rfl (zb_fin r1 s' a' l' c') Tryz.underlying37 rfl k_f) rfl ?_
 exact ⟨s',a',l',c',by simp,hzf.out,kf.out,hl1⟩
theorem divi1_n (y : ZB w b s2 a2 l2 c2) (hz : Zm w s a l c z) (hd : Zm w s2 a2 l2 c2 d) (hl : l≤1099511627776) (hl2 : l2≤1099511627776) (h0 : 0 < d) :
  Calls Tryz.prog 107 (#[.agg #[.bool s,.slice a l c]] ++ #[.pointer (some ⟨b,0,none⟩)]) w fun e w' => ∃ s' a' l' c',e = .returned (.agg #[.bool s',.slice a' l' c'])∧Zn w' s' a' l' c' (z / d)∧Below w.heap.size w w'∧l'≤l + 3:=by
 show Calls Tryz.prog 107 #[.agg #[.bool s,.slice a l c],.pointer (some ⟨b,0,none⟩)] w _
 go_enter Tryz.func107,Tryz.ntmps107
 have y0:=y.c0
 have y1:=y.c1
 have hbl:=y.lt
 go_wp2_with fail
 have r0:=zb_new (w.alloc (.cells #[.bool s,.slice a l c] 37)) false none 0 0
 have b0 : Below w.heap.size w ((w.alloc (.cells #[.bool s,.slice a l c] 37)).alloc (.cells #[.bool false,.slice none 0 0] 37)):=below_alloc' (below_alloc _ _) _
 rw [show (w.alloc (.cells #[.bool s,.slice a l c] 37)).heap.size = w.heap.size + 1 from by simp] at r0
 generalize (w.alloc (.cells #[.bool s,.slice a l c] 37)).alloc (.cells #[.bool false,.slice none 0 0] 37) = wb at *
 have hr : w.heap.size≤w.heap.size + 1:=by omega
 generalize w.heap.size + 1 = r at *
 refine (quotient_n (hz.below b0) (hd.below b0) hl hl2 h0).mono ?_
 rintro e w1 ⟨s',a',l',c',rfl,hz1,k1,hl1⟩
 have r1:=r0.below k1
 have r2:=r1.c0
 have r3:=r1.c1
 have r4:=r1.f 0
 have r5:=r1.f 1
 have hzf:=hide (zb_zn r1 hz1 s' a' l' c')
 have kf:=hide (((grow_step k1 b0).setCell (p:=⟨r,0,none⟩) hr (.bool s')).setCell (p:=⟨r,1,none⟩) hr (.slice a' l' c'))
 clear y0 y1 k1 b0
 go_wp2
 refine bodyPost_ret (results_cell_row rfl _ _ r 37 _ (0,0) _ rfl (zb_fin r1 s' a' l' c') Tryz.underlying37 rfl k_f) rfl ?_
 exact ⟨s',a',l',c',by simp,hzf.out,kf.out,hl1⟩

theorem modulo_n {k : Int} (hP : Pr w ad n ps B) (hz : Zm w s a l c k) (hl : l≤B) (hd : Zm w s2 a2 l2 c2 d) (h0 : 0 < d) (hn : n≤268435456) (hB : B≤1099511627776) (hl2 : l2≤1099511627776) :
  Calls Tryz.prog 104 #[.agg #[.slice ad n cp,.bool s,.slice a l c],.agg #[.bool s2,.slice a2 l2 c2]] w fun e w' => ∃ ad' n' cp' s' a' l' c',e = .returned (.agg #[.slice ad' n' cp',.bool s',.slice a' l' c'])∧Pn w' ad' n' (eachP (fun x => x % d) ps) l2∧Zn w' s' a' l' c' (k % d)∧l'≤l2∧n'≤n∧(∀ b off,ad' = some ⟨b,off,none⟩→w.heap.size≤b)∧Below w.heap.size w w':=by
 have eg : ∀ args w,(callFunc 149 args).run Tryz.prog w = .ok (.enter 149 args) w:=enters_of Tryz.func149 k_f rfl
 go_enter Tryz.func104,Tryz.ntmps104
 go_wp2_with fail
 have yd:=(zb_new (w.alloc (.cells #[.slice ad n cp,.bool s,.slice a l c] 40)) s2 a2 l2 c2).below (below_alloc _ (.cells #[.slice none 0 0,.bool false,.slice none 0 0] 40))
 have yr:=tb_new ((w.alloc (.cells #[.slice ad n cp,.bool s,.slice a l c] 40)).alloc (.cells #[.bool s2,.slice a2 l2 c2] 37)) none 0 0 false none 0 0
 have b0 : Below w.heap.size w (((w.alloc (.cells #[.slice ad n cp,.bool s,.slice a l c] 40)).alloc (.cells #[.bool s2,.slice a2 l2 c2] 37)).alloc (.cells #[.slice none 0 0,.bool false,.slice none 0 0] 40)):=below_alloc' (below_alloc' (below_alloc _ _) _) _
 rw [show (w.alloc (.cells #[.slice ad n cp,.bool s,.slice a l c] 40)).heap.size = w.heap.size + 1 from by simp] at yd
 rw [show ((w.alloc (.cells #[.slice ad n cp,.bool s,.slice a l c] 40)).alloc (.cells #[.bool s2,.slice a2 l2 c2] 37)).heap.size = w.heap.size + 1 + 1 from by simp] at yr
 generalize ((w.alloc (.cells #[.slice ad n cp,.bool s,.slice a l c] 40)).alloc (.cells #[.bool s2,.slice a2 l2 c2] 37)).alloc (.cells #[.slice none 0 0,.bool false,.slice none 0 0] 40) = wb at *
 have hr : w.heap.size≤w.heap.size + 1 + 1:=by omega
 replace hP:=hP.below b0
 replace hz:=hz.below b0
 replace hd:=hd.below b0
 generalize w.heap.size + 1 + 1 = r at *
 generalize w.heap.size + 1 = q at *
 refine (each_n (F:=fun x => x % d) (C:=l2) (B:=B) eg (fun w' s5 a5 l5 c5 z5 hb5 hz5 hl5 => mod1_n (yd.below hb5) hz5 (hd.below hb5) o_m hl2 h0) hP hz hl hn hl2).mono ?_
 rintro e w1 ⟨ad1,n1,cp1,s1,a1,l1,c1,rfl,hP1,hz1,hl1,hn1,hnew,k1⟩
 have y5:=yr.below k1
 have y0:=y5.c0
 have y1:=y5.c1
 have y2:=y5.c2
 have y3:=y5.f 0
 have y4:=y5.f 1
 have y6:=y5.f 2
 have g:=tb_set w1 r (.slice ad1 n1 cp1) (.bool s1) (.slice a1 l1 c1)
 have hzf:=hide (hz1.grownU g (tb_noU y5))
 have hPf:=hide (hP1.tb y5 g)
 have kf:=hide (below_grown (grow_step k1 b0) g hr)
 have hnew':=hide (fun (b off : Nat) (e : ad1 = some ⟨b,off,none⟩) => Nat.le_trans b0.size (hnew b off e))
 clear g k1 b0 eg hnew
 go_wp2
 refine bodyPost_ret (results_cell_row rfl _ _ r 40 _ (0,0) _ rfl (tb_fin y5 ad1 n1 cp1 s1 a1 l1 c1) Tryz.underlying40 rfl k_f) rfl ?_
 exact ⟨ad1,n1,cp1,s1,a1,l1,c1,by simp,hPf.out,hzf.out,hl1,hn1,hnew'.out,kf.out⟩

theorem getD_at {N : List Raw} {i : Nat} (h : i < N.length) : N.getD i zr = N[i]:=by simp [List.getElem?_eq_getElem h]
def encN (x : Raw) : List Value:=[.bool x.s,.slice x.a x.l x.c]
def okN (w : World) (B : Nat) (x : Raw) : Prop:=Zm w x.s x.a x.l x.c x.z∧x.l≤B
theorem okN.below {x : Raw} (h : okN w B x) (hb : Below w.heap.size w w') : okN w' B x:=⟨h.1.below hb,h.2⟩
theorem info2 : (Tryz.prog.info? 37).map (fun i => (i.zero,i.size,i.bytes)) = some (some (.agg #[.bool false,.slice none 0 0]),2,32):=by kernel_rfl
theorem two_one (s : Bool) (a : Option Addr) (l c : Nat) : ∀ u ∈ [Value.bool s,.slice a l c],u.oneCell' = true:=by
 intro u h
 simp at h
 rcases h with rfl | rfl <;> rfl
theorem two_new (w : World) (s : Bool) (a : Option Addr) (l c : Nat) : ∀ j u,[Value.bool s,.slice a l c][j]? = some u→(w.alloc (.cells #[.bool s,.slice a l c] 37)).cell? ((⟨w.heap.size,0,none⟩ : Addr).add j) = some u:=by
 intro j u h
 have y:=zb_new w s a l c
 match j,h with
 | 0,h => simp at h; subst h; exact y.c0
 | 1,h => simp at h; subst h; exact y.c1
 | j + 2,h => simp at h
theorem flatN_get (xs : List Raw) : ∀ (i c : Nat) (h : i < xs.length),c < 2→(xs.flatMap encN)[i * 2 + c]? = (encN (xs[i]))[c]?:=by
 induction xs with
 | nil => intro i c h; simp at h
 | cons x xs ih =>
  intro i c h hc
  rw [List.flatMap_cons]
  match i,h with
  | 0,_ => rw [List.getElem?_append_left (by simp [encN]; omega)]; simp
  | i + 1,h =>
   rw [List.getElem?_append_right (by simp [encN]; omega),show (i + 1) * 2 + c - (encN x).length = i * 2 + c by simp [encN]; omega]
   exact ih i c (by simpa using h) hc
theorem row_zl {base : Nat} {v : Value} {N : List Raw} (h : w.ownsRow base 37 2 v n (N.flatMap encN)) (hn : N.length = n) (hok : ∀ x ∈ N,okN w B x) (hB : B≤4294967296) (h0 : 0 < w.heap.size) :
  ∃ (adl : Option Addr) (cap b : Nat),v = .slice adl n cap∧(0 < n→adl = some ⟨b,0,none⟩)∧ZL w b 0 n (fun i => (N.getD i zr).s) (fun i => (N.getD i zr).a) (fun i => (N.getD i zr).l) (fun i => (N.getD i zr).c) (fun i => ((N.getD i zr).z.natAbs : Int)):=by
 have hnm : ∀ i,i < n→Nm w (N.getD i zr).a (N.getD i zr).l (N.getD i zr).c ((N.getD i zr).z.natAbs : Int)∧(N.getD i zr).l≤4294967296:=fun i hi => by
  have hm : N.getD i zr ∈ N:=by rw [getD_at o_m]; exact List.getElem_mem _
  obtain ⟨⟨m,hN,hz⟩,hl⟩:=hok _ hm
  have h0:=hN.nonneg
  refine ⟨?_,by omega⟩
  rw [hz,show ((sg (N.getD i zr).s m).natAbs : Int) = m by cases (N.getD i zr).s <;> simp [sg] <;> omega]
  exact hN
 rcases h.2 with ⟨rfl,rfl⟩ | ⟨g,cap,cur,rfl,hg,hcur,hsz,hcap,hm,htake⟩
 ·exact ⟨none,0,0,rfl,fun h => by omega,⟨h0,fun i hi => by omega,fun i hi => by omega,fun i hi => by omega,fun i hi => by omega⟩⟩
 have hc : ∀ i c,i < n→c < 2→w.cell? ⟨g,0 + i * 2 + c,none⟩ = (encN (N.getD i zr))[c]?:=fun i c hi hc => by
  have e : (cur.toList.take (n * 2))[i * 2 + c]? = (encN (N.getD i zr))[c]?:=by rw [htake,flatN_get N i c o_m hc,getD_at o_m]
  rw [List.getElem?_take,if_pos o_m] at e
  rw [cell_of_row w g _ _ _ (0,0) hcur,Nat.zero_add]
  simpa using e
 refine ⟨_,cap,g,rfl,fun _ => rfl,⟨(Array.getElem?_eq_some_iff.1 hcur).1,fun i hi => by have:=hc i 0 hi o_m; simpa [encN] using this,fun i hi => by have:=hc i 1 hi o_m; simpa [encN] using this,fun i hi => (hnm i hi).1,fun i hi => (hnm i hi).2⟩⟩
def gcdZ (zs : List Int) : Nat:=zs.foldl (fun g z => Nat.gcd g z.natAbs) 0
theorem fold_gcd (N : List Raw) : ∀ n,n≤N.length→fold gcdI 0 (fun i => ((N.getD i zr).z.natAbs : Int)) n = (gcdZ ((N.take n).map Raw.z) : Int):=by
 intro n
 induction n with
 | zero => intro _; rfl
 | succ n ih =>
  intro h
  rw [List.take_succ_eq_append_getElem o_m,List.map_append]
  simp only [fold]
  rw [ih o_m]
  unfold gcdZ
  rw [List.foldl_append]
  simp only [List.map_cons,List.map_nil,List.foldl_cons,List.foldl_nil]
  unfold gcdI
  rw [Int.toNat_natCast,Int.toNat_natCast,getD_at o_m]
theorem foldL_le (N : List Raw) (B : Nat) (h : ∀ x ∈ N,x.l≤B) : ∀ n,n≤N.length→foldL 2 (fun i => (N.getD i zr).l) n≤n * B + 2:=by
 intro n
 induction n with
 | zero => intro _; simp [foldL]
 | succ n ih =>
  intro hn
  simp only [foldL]
  have h1:=ih o_m
  have h2 : (N.getD n zr).l≤B:=by rw [getD_at o_m]; exact h _ (List.getElem_mem _)
  rw [Nat.add_mul,Nat.one_mul]
  omega
theorem gcdZ_gcdL (zs : List Int) (ps : List (Int × Int)) : gcdZ (zs ++ ps.map Prod.snd) = gcdL (gcdZ zs) ps:=by
 unfold gcdZ gcdL
 rw [List.foldl_append,List.foldl_map]

theorem common_n {w0 : World} {v0 : Value} {m : Nat} {N0 : List Raw} (hb0 : Below w0.heap.size w0 w) (hP : Pr w0 ad n ps B) (hrow0 : w.ownsRow w0.heap.size 37 2 v0 m (N0.flatMap encN)) (hm : N0.length = m) (hok0 : ∀ x ∈ N0,okN w0 B x) (hpos : 0 < m + n) (hn : m + n≤262145) (hB : B≤4194000) :
  Calls Tryz.prog 97 #[.agg #[.slice ad n cp,.bool s,.slice a l c],v0] w fun e w' => ∃ s' a' l' c',e = .returned (.agg #[.bool s',.slice a' l' c'])∧Zn w' s' a' l' c' (gcdL (gcdZ (N0.map Raw.z)) ps)∧l'≤(m + n) * B + 2∧Below w0.heap.size w0 w':=by
 go_enter Tryz.func97,Tryz.ntmps97
 go_wp2_with fail
 have y:=zb_new (w.alloc (.cells #[.slice ad n cp,.bool s,.slice a l c] 40)) false none 0 0
 have b1 : Below w0.heap.size w0 ((w.alloc (.cells #[.slice ad n cp,.bool s,.slice a l c] 40)).alloc (.cells #[.bool false,.slice none 0 0] 37)):=grow_alloc (grow_alloc hb0 _) _
 have hrow1:=(hrow0.alloc (.cells #[.slice ad n cp,.bool s,.slice a l c] 40)).alloc (.cells #[.bool false,.slice none 0 0] 37)
 rw [show (w.alloc (.cells #[.slice ad n cp,.bool s,.slice a l c] 40)).heap.size = w.heap.size + 1 from by simp] at y
 generalize (w.alloc (.cells #[.slice ad n cp,.bool s,.slice a l c] 40)).alloc (.cells #[.bool false,.slice none 0 0] 37) = wb at *
 have hrb : Hid (w0.heap.size≤w.heap.size + 1):=(by have:=hb0.size; omega : w0.heap.size≤w.heap.size + 1)
 have hown0 : Hid (∀ g,v0.ownBlock = some g→g ≠ w.heap.size + 1):=(fun g e => by have:=(hrow0.lt g e).2; omega)
 generalize w.heap.size + 1 = r at *
 obtain ⟨hps,hP⟩:=hP
 obtain ⟨i0,hi,iz0,iz1,iz2⟩:=info_parts info2
 replace hok0:=hide hok0
 go_loopw [1,10] (fun vv i wr => ∃ (t : Nat) (N : List Raw),t≤n∧i = .int .i64 t∧N.length = m + t∧wr.ownsRow w0.heap.size 37 2 vv (m + t) (N.flatMap encN)∧Hid (∀ x ∈ N,okN w0 B x)∧Hid (N.map Raw.z = N0.map Raw.z ++ (ps.take t).map Prod.snd)∧Below w0.heap.size w0 wr∧Hid (ZB wr r false none 0 0)∧Hid (∀ g,vv.ownBlock = some g→g ≠ r)) (fun _ i _ => n - (intOf i).toNat)
 case atStart => exact ⟨0,N0,Nat.zero_le _,rfl,by omega,hrow1,hok0,(show _ = _ by simp),b1,y,hown0⟩
 case round =>
  obtain ⟨t,N,ht,rfl,hN,hrow,hok,hNz,kr,yr,hob⟩:=hrel
  by_cases htn : t < n
  ·rcases hP with hP | ⟨bp,op,rfl,hP⟩
   ·omega
   obtain ⟨s2,a2,l2,c2,e0,e1,e2,hz2,hl2,hv⟩:=(hP.below kr).2 t o_m
   obtain ⟨s3,a3,l3,c3,f0,f1,f2,hz3,hl3, -⟩:=hP.2 t o_m
   have hps' : Hid (ps.take (t + 1) = ps.take t ++ [ps[t]]):=List.take_succ_eq_append_getElem (l:=ps) (i:=t) o_m
   have hsame : s2 = s3∧a2 = a3∧l2 = l3∧c2 = c3:=by
    have g1:=e1.symm.trans ((kr.cell (p:=⟨bp,op + t * 3 + 1,none⟩) hP.1).trans f1)
    have g2:=e2.symm.trans ((kr.cell (p:=⟨bp,op + t * 3 + 2,none⟩) hP.1).trans f2)
    simp at g1 g2
    exact ⟨g1,g2.1,g2.2.1,g2.2.2⟩
   obtain ⟨rfl,rfl,rfl,rfl⟩:=hsame
   clear f0 f1 f2
   generalize ps[t] = pp at *
   have hbase:=hide (show w0.heap.size≤wr.heap.size from kr.size)
   have ka:=below_alloc wr (.cells #[.int .i64 pp.1,.bool s2,.slice a2 l2 c2] 69)
   have kb:=below_alloc (wr.alloc (.cells #[.int .i64 pp.1,.bool s2,.slice a2 l2 c2] 69)) (.cells #[.bool s2,.slice a2 l2 c2] 37)
   have kab:=hide (grow_step kb ka)
   clear ka kb
   go_wp2_with (at_builtin; refine wpList_append_own_at _ rfl _ _ 116 rfl w0.heap.size 37 i0 _ 2 32 Tryz.underlying116 hi iz0 iz1 iz2 rfl (by decide) _ _ _ rfl ((hrow.alloc _).alloc _) ⟨wr.heap.size + 1,0,none⟩ 1 1 [.bool s2,.slice a2 l2 c2] rfl rfl (by simpa using two_new (wr.alloc (.cells #[.int .i64 pp.1,.bool s2,.slice a2 l2 c2] 69)) s2 a2 l2 c2) (two_one _ _ _ _) (by unfold maxLen; omega) o_m (by have:=hbase.out; simp; omega) ?_; intro v' w4 hown' hgrow hnil hat')
   have k4 : Below w0.heap.size w0 w4:=(grow_step kab.out kr).grown hgrow (grow_step kab.out kr).size (fun k e => (hrow.lt k e).1)
   have hrl:=yr.out.lt
   have y4 : Hid (ZB w4 r false none 0 0):=(hgrow.block r (by simp; omega) (fun e => hob.out r e.symm rfl)).trans ((kab.out.block r hrl).trans yr.out)
   have hob4 : Hid (∀ g,v'.ownBlock = some g→g ≠ r):=(fun g e => by
    rcases hat' with h | h
    ·exact hob.out g (h.symm.trans e)
    rw [h] at e
    simp at e
    omega)
   refine ⟨⟨t + 1,N ++ [⟨pp.1,s2,a2,l2,c2,pp.2⟩],by omega,by go_num,by simp; omega,?_,?_,?_,k4,y4,hob4⟩,by simp [intOf]; omega⟩
   ·rw [List.flatMap_append]
    exact hown'
   ·exact fun x hx => (List.mem_append.1 hx).elim (hok.out x) (fun h => by rw [List.mem_singleton.1 h]; exact ⟨hz3,hl3⟩)
   show _ = _
   rw [List.map_append,hNz.out,hps'.out,List.map_append,List.append_assoc]
   rfl
  obtain rfl : t = n:=by omega
  rw [List.take_of_length_le (Nat.le_of_eq hps)] at hNz
  have hokr : ∀ x ∈ N,okN wr B x:=fun x hx => (hok.out x hx).below kr
  obtain ⟨adl,cap,b,rfl,had,hZL⟩:=row_zl hrow o_m hokr o_m (by have:=yr.out.lt; omega)
  obtain rfl:=had hpos
  have hfl:=foldL_le N B (fun x hx => (hok.out x hx).2) (m + t) o_m
  have hmul : (m + t) * B≤262145 * 4194000:=Nat.mul_le_mul hn hB
  have hval : Hid (fold gcdI 0 (fun i => ((N.getD i zr).z.natAbs : Int)) (m + t) = (gcdL (gcdZ (N0.map Raw.z)) ps : Int)):=(show _ = _ by
   rw [fold_gcd N (m + t) o_m,List.take_of_length_le o_m,hNz.out,gcdZ_gcdL])
  clear hrow hokr hP
  go_wp2_with fail
  refine (zgcd_any hZL o_m o_m).mono ?_
  rintro e w5 ⟨s5,a5,l5,c5,rfl,hz5,k5,hl5⟩
  rw [hval.out] at hz5
  have y5:=yr.out.below k5
  have r2:=y5.c0
  have r3:=y5.c1
  have r4:=y5.f 0
  have r5:=y5.f 1
  have hzf:=hide (zb_zn y5 hz5 s5 a5 l5 c5)
  have kf:=hide (((grow_step k5 kr).setCell (p:=⟨r,0,none⟩) hrb.out (.bool s5)).setCell (p:=⟨r,1,none⟩) hrb.out (.slice a5 l5 c5))
  have hlf : Hid (l5≤(m + t) * B + 2):=(Nat.le_trans hl5 hfl : l5≤(m + t) * B + 2)
  clear k5 hZL hfl hl5 hval hmul
  go_wp2
  refine bodyPost_ret (results_cell_row rfl _ _ r 37 _ (0,0) _ rfl (zb_fin y5 s5 a5 l5 c5) Tryz.underlying37 rfl k_f) rfl ?_
  exact ⟨s5,a5,l5,c5,by simp,hzf.out,hlf.out,kf.out⟩

def AW (w : World) (e : Ending) (f : Atm) (B B0 : Nat) : Prop :=
 ∃ sd ad ld cd ap np cp sk ak lk ck,e = .returned (.agg #[.int .i64 f.kind,.bool sd,.slice ad ld cd,.slice ap np cp,.bool sk,.slice ak lk ck])∧Zn w sd ad ld cd f.d∧ld≤B∧Pn w ap np f.ps B∧np≤B∧Zn w sk ak lk ck f.k∧lk≤B∧∀ b off,ap = some ⟨b,off,none⟩→B0≤b

theorem ab_fin {k0 : Int} {s0 : Bool} {a0 : Option Addr} {l0 c0 : Nat} {ad0 : Option Addr} {n0 cp0 : Nat} {t0 : Bool} {b0 : Option Addr} {m0 d0 : Nat} (h : w.heap[r]? = some (.cells #[.int .i64 k0,.bool s0,.slice a0 l0 c0,.slice ad0 n0 cp0,.bool t0,.slice b0 m0 d0] 42 (0,0))) (k : Int) (s : Bool) (a : Option Addr) (l c : Nat) (ad : Option Addr) (n cp : Nat) (t : Bool) (b : Option Addr) (m d : Nat) :
  ((((((w.setCell ⟨r,0,none⟩ (.int .i64 k)).setCell ⟨r,1,none⟩ (.bool s)).setCell ⟨r,2,none⟩ (.slice a l c)).setCell ⟨r,3,none⟩ (.slice ad n cp)).setCell ⟨r,4,none⟩ (.bool t)).setCell ⟨r,5,none⟩ (.slice b m d)).heap[r]? = some (.cells #[.int .i64 k,.bool s,.slice a l c,.slice ad n cp,.bool t,.slice b m d] 42 (0,0)) :=
 heap_setCell_same _ r 5 _ _ _ (heap_setCell_same _ r 4 _ _ _ (heap_setCell_same _ r 3 _ _ _ (heap_setCell_same _ r 2 _ _ _ (heap_setCell_same _ r 1 _ _ _ (heap_setCell_same w r 0 _ _ _ h)))))
theorem ab_noU {k0 : Int} {s0 : Bool} {a0 : Option Addr} {l0 c0 : Nat} {ad0 : Option Addr} {n0 cp0 : Nat} {t0 : Bool} {b0 : Option Addr} {m0 d0 : Nat} (h : w.heap[r]? = some (.cells #[.int .i64 k0,.bool s0,.slice a0 l0 c0,.slice ad0 n0 cp0,.bool t0,.slice b0 m0 d0] 42 (0,0))) : NoU w r:=by
 intro off x
 rw [cell_of_row w r off _ _ (0,0) h]
 match off with
 | 0 => simp
 | 1 => simp
 | 2 => simp
 | 3 => simp
 | 4 => simp
 | 5 => simp
 | k + 6 => simp
theorem ab_set (w : World) (r : Nat) (v0 v1 v2 v3 v4 v5 : Value) : w.grownBy ((((((w.setCell ⟨r,0,none⟩ v0).setCell ⟨r,1,none⟩ v1).setCell ⟨r,2,none⟩ v2).setCell ⟨r,3,none⟩ v3).setCell ⟨r,4,none⟩ v4).setCell ⟨r,5,none⟩ v5) (some r) :=
 gb_trans (gb_trans (gb_trans (gb_trans (gb_trans (gb_set w r 0 v0) (gb_set _ r 1 v1)) (gb_set _ r 2 v2)) (gb_set _ r 3 v3)) (gb_set _ r 4 v4)) (gb_set _ r 5 v5)
theorem Pn.away (h : Pn w ad n ps B) (hr : ∀ b off,ad = some ⟨b,off,none⟩→b ≠ r) (hg : w.grownBy w' (some r)) (hU : NoU w r) : Pn w' ad n ps B:=by
 refine ⟨h.1,?_⟩
 rcases h.2 with h2 | ⟨b,off,e,hb,h2⟩
 ·exact .inl h2
 refine .inr ⟨b,off,e,Nat.lt_of_lt_of_le hb hg.size,fun i hi => ?_⟩
 obtain ⟨s,a,l,c,e0,e1,e2,hz,hl⟩:=h2 i hi
 have eb : w'.heap[b]? = w.heap[b]?:=hg.block b hb (by simpa using hr b off e)
 exact ⟨s,a,l,c,(World.cell?_of_block (a:=⟨b,off + i * 3,none⟩) eb).trans e0,(World.cell?_of_block (a:=⟨b,off + i * 3 + 1,none⟩) eb).trans e1,(World.cell?_of_block (a:=⟨b,off + i * 3 + 2,none⟩) eb).trans e2,hz.grownU hg hU,hl⟩
theorem tq3 {p : Nat} (x : TB w p ad n cp s a l c) (k : Below w.heap.size w w') : w'.cell? ⟨p,0,none⟩ = some (.slice ad n cp)∧w'.cell? ⟨p,1,none⟩ = some (.bool s)∧w'.cell? ⟨p,2,none⟩ = some (.slice a l c)∧Below w.heap.size w w' :=
 ⟨(x.below k).c0,(x.below k).c1,(x.below k).c2,k⟩

theorem tq7 {p b3 b4 : Nat} {s3 : Bool} {a3 : Option Addr} {l3 c3 : Nat} {s4 : Bool} {a4 : Option Addr} {l4 c4 : Nat} (x : TB w p ad n cp s a l c) (z3 : ZB w b3 s3 a3 l3 c3) (z4 : ZB w b4 s4 a4 l4 c4) (k : Below w.heap.size w w') :
  w'.cell? ⟨p,1,none⟩ = some (.bool s)∧w'.cell? ⟨p,2,none⟩ = some (.slice a l c)∧w'.cell? ⟨b3,0,none⟩ = some (.bool s3)∧w'.cell? ⟨b3,1,none⟩ = some (.slice a3 l3 c3)∧w'.cell? ⟨b4,0,none⟩ = some (.bool s4)∧w'.cell? ⟨b4,1,none⟩ = some (.slice a4 l4 c4)∧Below w.heap.size w w' :=
 ⟨(x.below k).c1,(x.below k).c2,(z3.below k).c0,(z3.below k).c1,(z4.below k).c0,(z4.below k).c1,k⟩

theorem less_n {k : Int} (hP : Pr w ad n ps B) (hz : Zm w s a l c k) (hl : l≤B) (hn : n≤262144) (hB : B + n + 1≤4194000) :
  Calls Tryz.prog 63 #[.agg #[.slice ad n cp,.bool s,.slice a l c]] w fun e w' => ∃ qs,Std qs∧(∀ v,csum qs v = csum ps v)∧AW w' e (lessF qs k) (B + n + 16) w.heap.size∧Below w.heap.size w w':=by
 have eg : ∀ args w,(callFunc 102 args).run Tryz.prog w = .ok (.enter 102 args) w:=enters_of Tryz.func102 k_f rfl
 go_enter Tryz.func63,Tryz.ntmps63
 go_wp2_with fail
 have x:=(tb_new w ad n cp s a l c).below (below_alloc _ (.cells #[.int .i64 0,.bool false,.slice none 0 0,.slice none 0 0,.bool false,.slice none 0 0] 42))
 have yr : ((w.alloc (.cells #[.slice ad n cp,.bool s,.slice a l c] 40)).alloc (.cells #[.int .i64 0,.bool false,.slice none 0 0,.slice none 0 0,.bool false,.slice none 0 0] 42)).heap[w.heap.size + 1]? = some (.cells #[.int .i64 0,.bool false,.slice none 0 0,.slice none 0 0,.bool false,.slice none 0 0] 42 (0,0)):=by
  have h:=heap_alloc_new (w.alloc (.cells #[.slice ad n cp,.bool s,.slice a l c] 40)) (.cells #[.int .i64 0,.bool false,.slice none 0 0,.slice none 0 0,.bool false,.slice none 0 0] 42)
  rwa [show (w.alloc (.cells #[.slice ad n cp,.bool s,.slice a l c] 40)).heap.size = w.heap.size + 1 from by simp] at h
 have b0 : Below w.heap.size w ((w.alloc (.cells #[.slice ad n cp,.bool s,.slice a l c] 40)).alloc (.cells #[.int .i64 0,.bool false,.slice none 0 0,.slice none 0 0,.bool false,.slice none 0 0] 42)):=below_alloc' (below_alloc _ _) _
 generalize (w.alloc (.cells #[.slice ad n cp,.bool s,.slice a l c] 40)).alloc (.cells #[.int .i64 0,.bool false,.slice none 0 0,.slice none 0 0,.bool false,.slice none 0 0] 42) = wb at *
 replace hP:=hP.below b0
 replace hz:=hz.below b0
 generalize hp : w.heap.size = p at *
 replace b0 : Hid (Below w.heap.size w wb):=hp ▸ b0
 have hpr : Hid (w.heap.size = p∧p < p + 1):=⟨hp,by omega⟩
 clear hp
 generalize p + 1 = r at *
 refine (tnorm_n hP hz hl o_m).mono ?_
 rintro e w1 ⟨ad1,n1,cp1,s1,a1,l1,c1,rs,rfl,hTN,hn1,hStd,hcs⟩
 have hrl : r < wb.heap.size:=(Array.getElem?_eq_some_iff.1 yr).1
 have yr1 : w1.heap[r]? = _:=(hTN.below.block r hrl).trans yr
 have hPn:=hTN.pn
 have hZn:=hTN.zn
 have hle:=hTN.le
 have x1:=x.below hTN.below
 have k1:=hide (grow_step hTN.below b0.out)
 generalize rs.map Raw.p = qs at *
 have g1:=tb_set w1 p (.slice ad1 n1 cp1) (.bool s1) (.slice a1 l1 c1)
 have x2:=tb_fin x1 ad1 n1 cp1 s1 a1 l1 c1
 replace hPn:=hPn.tb x1 g1
 replace hZn:=hZn.grownU g1 (tb_noU x1)
 have k2:=hide (below_grown k1.out g1 (by have:=hpr.out; omega))
 have yr2:=(g1.block r (Array.getElem?_eq_some_iff.1 yr1).1 (by have:=hpr.out.2; simp; omega)).trans yr1
 have v0:=x1.c0
 have v1:=x1.c1
 have v2:=x1.c2
 have v3:=x1.f 0
 have v4:=x1.f 1
 have v5:=x1.f 2
 clear hTN hP hz g1 x b0 k1 yr yr1
 by_cases hn0 : n1 = 0
 ·subst hn0
  obtain rfl : qs = []:=List.length_eq_zero_iff.1 hPn.1
  go_wp2_with fail
  generalize ((w1.setCell ⟨p,0,none⟩ (.slice ad1 0 cp1)).setCell ⟨p,1,none⟩ (.bool s1)).setCell ⟨p,2,none⟩ (.slice a1 l1 c1) = w2 at *
  have hr2 : r < w2.heap.size:=(Array.getElem?_eq_some_iff.1 yr2).1
  refine (zsign_n hZn.zm o_m).mono ?_
  rintro e w3 ⟨rfl,k3⟩
  have yr3 : w3.heap[r]? = _:=(k3.block r hr2).trans yr2
  have hr3 : r < w3.heap.size:=(Array.getElem?_eq_some_iff.1 yr3).1
  have kk3:=hide (grow_step k3 k2.out)
  have hsg : Hid ((0 < cmpI k 0) ↔ 0 < k):=(by unfold cmpI; split <;> (try split) <;> omega : (0 < cmpI k 0) ↔ 0 < k)
  clear k3 k2 v0 v1 v2 v3 v4 v5 hZn hPn x1 x2
  generalize cmpI k 0 = cz at *
  go_wp2_with fail
  refine truth_n.mono ?_
  rintro e w4 ⟨rfl,k4⟩
  have yr4 : w4.heap[r]? = _:=(k4.block r hr3).trans yr3
  have kk4:=hide (grow_step k4 kk3.out)
  have hval : Hid ((if decide (0 < cz) = true then (1 : Int) else 0) = (lessF [] k).kind):=(show _ = _ by simp [lessF,tru,hsg.out])
  generalize (if decide (0 < cz) = true then (1 : Int) else 0) = kv at *
  have c0:=cell_of_row w4 r 0 _ _ (0,0) yr4
  have c1':=cell_of_row w4 r 1 _ _ (0,0) yr4
  have c2:=cell_of_row w4 r 2 _ _ (0,0) yr4
  have c3:=cell_of_row w4 r 3 _ _ (0,0) yr4
  have c4:=cell_of_row w4 r 4 _ _ (0,0) yr4
  have c5:=cell_of_row w4 r 5 _ _ (0,0) yr4
  have f0:=frozen_of_row w4 r 0 _ _ yr4
  have f1:=frozen_of_row w4 r 1 _ _ yr4
  have f2:=frozen_of_row w4 r 2 _ _ yr4
  have f3:=frozen_of_row w4 r 3 _ _ yr4
  have f4:=frozen_of_row w4 r 4 _ _ yr4
  have f5:=frozen_of_row w4 r 5 _ _ yr4
  clear k4
  have hwr : w.heap.size≤r:=by have:=hpr.out; omega
  have kf:=hide ((((((kk4.out.setCell (p:=⟨r,0,none⟩) hwr (.int .i64 kv)).setCell (p:=⟨r,1,none⟩) hwr (.bool false)).setCell (p:=⟨r,2,none⟩) hwr (.slice none 0 0)).setCell (p:=⟨r,3,none⟩) hwr (.slice none 0 0)).setCell (p:=⟨r,4,none⟩) hwr (.bool false)).setCell (p:=⟨r,5,none⟩) hwr (.slice none 0 0))
  have hfin:=hide (ab_fin yr4 kv false none 0 0 none 0 0 false none 0 0)
  go_wp2
  refine bodyPost_ret (results_cell_row rfl _ _ r 42 _ (0,0) _ rfl hfin.out Tryz.underlying42 rfl k_f) rfl ?_
  refine ⟨[],std_nil,hcs,⟨false,none,0,0,none,0,0,false,none,0,0,?_,?_,by omega,?_,by omega,?_,by omega,fun _ _ h => by cases h⟩,kf.out⟩
  ·rw [hval.out]
  ·exact zn_zero _
  ·exact pn_nil _ _ _
  exact zn_zero _
 go_wp2_with fail
 generalize ((w1.setCell ⟨p,0,none⟩ (.slice ad1 n1 cp1)).setCell ⟨p,1,none⟩ (.bool s1)).setCell ⟨p,2,none⟩ (.slice a1 l1 c1) = w2 at *
 replace hPn:=hide hPn
 replace hZn:=hide hZn
 have hq1 : qs.length = n1:=hPn.out.1
 refine Code.wp_mono (Q:=fun e a' W' => e = .normal∧∃ b3 b4 sA aA lA cA sB aB lB cB,a' = ⟨List.toArray ((.agg #[.slice ad n cp,.bool s,.slice a l c] : Value) :: (.pointer (some ⟨p,0,none⟩) : Value) :: (.pointer (some ⟨r,0,none⟩) : Value) :: (.pointer (some ⟨b3,0,none⟩) : Value) :: (.pointer (some ⟨b4,0,none⟩) : Value) :: undef :: (.agg #[.slice ad n cp,.bool s,.slice a l c] : Value) :: (.agg #[.slice ad1 n1 cp1,.bool s1,.slice a1 l1 c1] : Value) :: (.pointer (some ⟨p,0,none⟩) : Value) :: (.slice ad1 n1 cp1 : Value) :: (.int .i64 n1 : Value) :: (.bool false : Value) :: undef :: undef :: undef :: undef :: undef :: (.agg #[.bool sA,.slice aA lA cA] : Value) :: (.agg #[.slice ad1 n1 cp1,.bool s1,.slice a1 l1 c1] : Value) :: (.agg #[.bool sB,.slice aB lB cB] : Value) :: undef :: undef :: undef :: undef :: undef :: undef :: undef :: undef :: undef :: undef :: undef :: undef :: undef :: undef :: undef :: undef :: []),[]⟩∧ZB W' b3 sA aA lA cA∧ZB W' b4 sB aB lB cB∧Zn W' sA aA lA cA 1∧lA≤2∧Zn W' sB aB lB cB (gcdL 0 qs)∧lB≤(0 + n1) * (B + n + 1) + 2∧b3 ≠ b4∧w2.heap.size≤b3∧w2.heap.size≤b4∧Below w2.heap.size w2 W') ?_ ?_
 ·rintro e a' W' ⟨rfl,b3,b4,sA,aA,lA,cA,sB,aB,lB,cB,rfl,z3,z4,hzA,hlA,hzB,hlB,hne,hb3,hb4,kW⟩
  have x3:=x2.below kW
  have p1:=x3.c1
  have p2:=x3.c2
  have q0:=z3.c0
  have q1:=z3.c1
  have q2:=z4.c0
  have q3:=z4.c1
  go_wp2_with fail
  clear p1 p2 q0 q1 q2 q3
  have hZk:=hide (hZn.out.below kW)
  have hOne:=hide hzA
  have hGcd:=hide hzB
  have hgp : (0 : Int) < (gcdL 0 qs : Nat):=by
   have : 0 < gcdL 0 qs:=gcdL_pos (.inr (std_some hStd (fun e => hn0 (by rw [← hq1,e]; rfl))))
   omega
  have hmul : n1 * (B + n + 1)≤262144 * 4194000:=Nat.mul_le_mul o_m o_m
  have hlB9 : lB≤1099511627776:=by rw [Nat.zero_add] at hlB; omega
  clear hlB hmul
  refine Code.wp_mono (Q:=fun e a' W2 => e = .normal∧∃ b5 sC aC lC cC sD aD lD cD sE aE lE cE,a' = ⟨List.toArray ((.agg #[.slice ad n cp,.bool s,.slice a l c] : Value) :: (.pointer (some ⟨p,0,none⟩) : Value) :: (.pointer (some ⟨r,0,none⟩) : Value) :: (.pointer (some ⟨b3,0,none⟩) : Value) :: (.pointer (some ⟨b4,0,none⟩) : Value) :: (.pointer (some ⟨b5,0,none⟩) : Value) :: (.agg #[.slice ad n cp,.bool s,.slice a l c] : Value) :: (.agg #[.slice ad1 n1 cp1,.bool s1,.slice a1 l1 c1] : Value) :: (.pointer (some ⟨p,0,none⟩) : Value) :: (.slice ad1 n1 cp1 : Value) :: (.int .i64 n1 : Value) :: (.bool false : Value) :: undef :: undef :: undef :: undef :: undef :: (.agg #[.bool sA,.slice aA lA cA] : Value) :: (.agg #[.slice ad1 n1 cp1,.bool s1,.slice a1 l1 c1] : Value) :: (.agg #[.bool sB,.slice aB lB cB] : Value) :: (.pointer (some ⟨p,1,none⟩) : Value) :: (.agg #[.bool s1,.slice a1 l1 c1] : Value) :: (.agg #[.bool sA,.slice aA lA cA] : Value) :: (.agg #[.bool sC,.slice aC lC cC] : Value) :: (.agg #[.bool sB,.slice aB lB cB] : Value) :: (.agg #[.bool sD,.slice aD lD cD] : Value) :: (.agg #[.bool sA,.slice aA lA cA] : Value) :: (.agg #[.bool sE,.slice aE lE cE] : Value) :: undef :: undef :: undef :: undef :: undef :: undef :: undef :: undef :: []),[]⟩∧ZB W2 b5 sE aE lE cE∧Zn W2 sE aE lE cE ((k - 1) / (gcdL 0 qs : Nat) + 1)∧lE≤max lD lA + 1∧lD≤lC + 3∧lC≤max l1 lA + 1∧W'.heap.size≤b5∧Below W'.heap.size W' W2) ?_ ?_
  ·rintro e a' W2 ⟨rfl,b5,sC,aC,lC,cC,sD,aD,lD,cD,sE,aE,lE,cE,rfl,z5,hzE,hlE,hlD,hlC,hb5,kX⟩
   have x4:=x3.below kX
   have zg:=z4.below kX
   have hG2:=hide (hGcd.out.below kX)
   have hP2:=hide ((hPn.out.below kW).below kX)
   have hZ2:=hide (hZk.out.below kX)
   have p0:=x4.c0
   have p1:=x4.c1
   have p2:=x4.c2
   go_wp2_with fail
   refine (each_n (F:=fun x => x / ((gcdL 0 qs : Nat) : Int)) (C:=B + n + 4) (B:=B + n + 1) eg (fun w' s9 a9 l9 c9 z9 hb9 hz9 hl9 => (less1_n (zg.below hb9) hz9 (hG2.out.zm.below hb9) o_m hlB9 hgp).mono fun _ _ ⟨s',a',l',c',he,h1,h2,h3⟩ => ⟨s',a',l',c',he,h1,h2,by omega⟩) (hP2.out.pr.mono o_m) hZ2.out.zm o_m o_m o_m).mono ?_
   rintro e w5 ⟨ad5,n5,cp5,s5,a5,l5,c5,rfl,hP5,hz5,hl5,hn5,hnew,k5⟩
   have hrl2 : r < w2.heap.size:=(Array.getElem?_eq_some_iff.1 yr2).1
   have hrlW:=Nat.lt_of_lt_of_le hrl2 kW.size
   have hrlX:=Nat.lt_of_lt_of_le hrlW kX.size
   have hrl5:=Nat.lt_of_lt_of_le hrlX k5.size
   have yr5:=(k5.block r hrlX).trans ((kX.block r hrlW).trans ((kW.block r hrl2).trans yr2))
   have x5:=x4.below k5
   have z55:=z5.below k5
   have hzE5:=hzE.below k5
   have kk5:=hide (grow_step k5 (grow_step kX (grow_step kW k2.out)))
   have g5:=tb_set w5 p (.slice ad5 n5 cp5) (.bool s5) (.slice a5 l5 c5)
   have x6:=tb_fin x5 ad5 n5 cp5 s5 a5 l5 c5
   have hP6:=hP5.tb x5 g5
   have hpb : p ≠ b5:=by have h1:=x2.lt; have h2:=kW.size; omega
   have hb5l : b5 < w5.heap.size:=z55.lt
   have z6 : ZB _ b5 sE aE lE cE:=(g5.block b5 hb5l (by simp; omega)).trans z55
   have hzE6:=hzE5.grownU g5 (tb_noU x5)
   have yr6:=(g5.block r hrl5 (by have:=hpr.out.2; simp; omega)).trans yr5
   have kk6:=hide (below_grown kk5.out g5 (by have:=hpr.out; omega))
   have u0:=x5.c0
   have u1:=x5.c1
   have u2:=x5.c2
   have u3:=x5.f 0
   have u4:=x5.f 1
   have u5:=x5.f 2
   have t0:=x6.c0
   have t1:=z6.c0
   have t2:=z6.c1
   have e0:=cell_of_row _ r 0 _ _ (0,0) yr6
   have e1:=cell_of_row _ r 1 _ _ (0,0) yr6
   have e2:=cell_of_row _ r 2 _ _ (0,0) yr6
   have e3:=cell_of_row _ r 3 _ _ (0,0) yr6
   have e4:=cell_of_row _ r 4 _ _ (0,0) yr6
   have e5:=cell_of_row _ r 5 _ _ (0,0) yr6
   have f0:=frozen_of_row _ r 0 _ _ yr6
   have f1:=frozen_of_row _ r 1 _ _ yr6
   have f2:=frozen_of_row _ r 2 _ _ yr6
   have f3:=frozen_of_row _ r 3 _ _ yr6
   have f4:=frozen_of_row _ r 4 _ _ yr6
   have f5:=frozen_of_row _ r 5 _ _ yr6
   have hnr : ∀ b off,ad5 = some ⟨b,off,none⟩→b ≠ r:=fun b off e => by have:=hnew b off e; omega
   have g6:=ab_set (((w5.setCell ⟨p,0,none⟩ (.slice ad5 n5 cp5)).setCell ⟨p,1,none⟩ (.bool s5)).setCell ⟨p,2,none⟩ (.slice a5 l5 c5)) r (.int .i64 2) (.bool false) (.slice none 0 0) (.slice ad5 n5 cp5) (.bool sE) (.slice aE lE cE)
   have hPf:=hide (hP6.away hnr g6 (ab_noU yr6))
   have hzf:=hide (hzE6.grownU g6 (ab_noU yr6))
   have kf:=hide (below_grown kk6.out g6 (by have:=hpr.out; omega))
   have hfin:=hide (ab_fin yr6 2 false none 0 0 ad5 n5 cp5 sE aE lE cE)
   have hqs : Hid (lessF qs k = ⟨2,0,eachP (fun x => x / ((gcdL 0 qs : Nat) : Int)) qs,(k - 1) / ((gcdL 0 qs : Nat) : Int) + 1⟩):=(show _ = _ by unfold lessF; rw [if_neg (fun e => hn0 (by rw [← hq1,e]; rfl))])
   have hnw : Hid (∀ b off,ad5 = some ⟨b,off,none⟩→w.heap.size≤b):=(fun b off e => Nat.le_trans (grow_step kX (grow_step kW k2.out)).size (hnew b off e))
   replace hStd:=hide hStd
   replace hcs:=hide hcs
   clear p0 p1 p2 k5 g5 kX kW yr5 yr2 eg hnew hnr g6 hP6 hzE6
   go_wp2
   refine bodyPost_ret (results_cell_row rfl _ _ r 42 _ (0,0) _ rfl hfin.out Tryz.underlying42 rfl k_f) rfl ?_
   refine ⟨qs,hStd.out,hcs.out,?_,kf.out⟩
   rw [hqs.out]
   exact ⟨false,none,0,0,ad5,n5,cp5,sE,aE,lE,cE,by simp,zn_zero _,by omega,hPf.out.mono o_m,by omega,hzf.out,by omega,hnw.out⟩
  refine wp_region_held_drew (S:=(fun w' => w'.cell? ⟨p,1,none⟩ = some (.bool s1)∧w'.cell? ⟨p,2,none⟩ = some (.slice a1 l1 c1)∧w'.cell? ⟨b3,0,none⟩ = some (.bool sA)∧w'.cell? ⟨b3,1,none⟩ = some (.slice aA lA cA)∧w'.cell? ⟨b4,0,none⟩ = some (.bool sB)∧w'.cell? ⟨b4,1,none⟩ = some (.slice aB lB cB)∧Below W'.heap.size W' w')) k_f (tq7 x3 z3 z4 (grow_drew (Below.refl _ _))) (fun hHeld => ?_)
  show wpAnyH _ _ _ _ _ 10 _ _ _
  have kW:=grow_drew (Below.refl W'.heap.size W')
  generalize W'.drew = wD at *
  refine wpAnyH_take (i:=0) (oi:=⟨some 20,_,_,_,_,_⟩) (v:=?_) rfl k_f k_f k_f (fun _ _ _ h => by cases h.1) (Or.inl ⟨by rfl,?_⟩) (by assumption) ?_
  rotate_left
  ·intro wq hSw; (try dsimp only at hSw); go_simp; (try with_reducible rfl)
  (try simp only [pz])
  refine wpAnyH_take (i:=1) (oi:=⟨some 21,_,_,_,_,_⟩) (v:=?_) rfl k_f k_f k_f (fun _ _ _ h => by cases h.1) (Or.inl ⟨by rfl,?_⟩) (by assumption) ?_
  rotate_left
  ·intro wq hSw; (try dsimp only at hSw); go_simp; (try with_reducible rfl)
  (try simp only [pz])
  refine wpAnyH_take (i:=2) (oi:=⟨some 22,_,_,_,_,_⟩) (v:=?_) rfl k_f k_f k_f (fun _ _ _ h => by cases h.1) (Or.inl ⟨by rfl,?_⟩) (by assumption) ?_
  rotate_left
  ·intro wq hSw; (try dsimp only at hSw); go_simp; (try with_reducible rfl)
  (try simp only [pz])
  refine wpAnyH_take (i:=4) (oi:=⟨some 24,_,_,_,_,_⟩) (v:=?_) rfl k_f k_f k_f (fun _ _ _ h => by cases h.1) (Or.inl ⟨by rfl,?_⟩) (by assumption) ?_
  rotate_left
  ·intro wq hSw; (try dsimp only at hSw); go_simp; (try with_reducible rfl)
  (try simp only [pz])
  refine wpAnyH_take (i:=6) (oi:=⟨some 26,_,_,_,_,_⟩) (v:=?_) rfl k_f k_f k_f (fun _ _ _ h => by cases h.1) (Or.inl ⟨by rfl,?_⟩) (by assumption) ?_
  rotate_left
  ·intro wq hSw; (try dsimp only at hSw); go_simp; (try with_reducible rfl)
  (try simp only [pz])
  refine wpAnyH_ready (rs:=[3,8]) k_f (by simp) ?_
  refine AllReadyH.cons (o:=⟨some 23,_,_,_,_,_⟩) rfl (fun K hK => ?_) ?_
  ·go_simp
   go_at_call 100; refine Calls.mono (zsub_n (hZk.out.zm.below kW) (hOne.out.zm.below kW) o_m o_m) ?_; rintro e wC ⟨sC,aC,lC,cC,rfl,hzC,kC,hlC⟩
   have kW:=grow_step kC kW
   (try go_wp2_with fail)
   refine hK.out _ _ ?_ ?_
   ·(try dsimp only); exact tq7 x3 z3 z4 kW
   clear hK K hHeld; intro hHeld
   (try simp only [pz])
   refine wpAnyH_ready (rs:=[5,8]) k_f (by simp) ?_
   refine AllReadyH.cons (o:=⟨some 25,_,_,_,_,_⟩) rfl (fun K hK => ?_) ?_
   ·go_simp
    go_at_call 99; refine Calls.mono (quotient_n hzC.zm (hGcd.out.zm.below kW) o_m o_m hgp) ?_; rintro e wDq ⟨sD,aD,lD,cD,rfl,hzD,kD,hlD⟩
    have hzC:=hzC.below kD
    have kW:=grow_step kD kW
    (try go_wp2_with fail)
    refine hK.out _ _ ?_ ?_
    ·(try dsimp only); exact tq7 x3 z3 z4 kW
    clear hK K hHeld; intro hHeld
    (try simp only [pz])
    refine wpAnyH_ready (rs:=[7,8]) k_f (by simp) ?_
    refine AllReadyH.cons (o:=⟨some 27,_,_,_,_,_⟩) rfl (fun K hK => ?_) ?_
    ·go_simp
     go_at_call 98; refine Calls.mono (zadd_n hzD.zm (hOne.out.zm.below kW) o_m o_m) ?_; rintro e wE ⟨sE,aE,lE,cE,rfl,hzE,kE,hlE⟩
     have hzC:=hzC.below kE
     have hzD:=hzD.below kE
     have kW:=grow_step kE kW
     (try go_wp2_with fail)
     refine hK.out _ _ ?_ ?_
     ·(try dsimp only); exact tq7 x3 z3 z4 kW
     clear hK K hHeld; intro hHeld
     (try simp only [pz])
     refine ryz 8 (some 5) (fun K hK => ?_) ?_
     ·have kL:=below_alloc (wE) (.cells #[.bool false,.slice none 0 0] 37)
      have hzC:=hzC.below kL
      have hzD:=hzD.below kL
      have hzE:=hzE.below kL
      have z5 : ZB ((wE).alloc (.cells #[.bool false,.slice none 0 0] 37)) (wE.heap.size) false none 0 0:=zb_new _ _ _ _ _
      have hb5 : W'.heap.size≤wE.heap.size:=kW.size
      have kW:=grow_step kL kW
      go_simp
      refine hK.out _ _ ?_ ?_
      ·(try dsimp only); exact tq7 x3 z3 z4 kW
      clear hK K hHeld; intro hHeld
      (try simp only [pz])
      generalize (wE).alloc (.cells #[.bool false,.slice none 0 0] 37) = wL5 at *
      refine ryz 9 none (fun K hK => ?_) ?_
      ·have f0:=z5.c0
       have f1:=z5.c1
       have f2:=z5.f 0
       have f3:=z5.f 1
       go_simp
       have hzC:=zb_zn z5 hzC sE aE lE cE
       have hzD:=zb_zn z5 hzD sE aE lE cE
       have hzE:=zb_zn z5 hzE sE aE lE cE
       have z5:=zb_fin z5 sE aE lE cE
       have kW:=(kW.setCell (p:=⟨wE.heap.size,0,none⟩) hb5 (.bool sE)).setCell (p:=⟨wE.heap.size,1,none⟩) hb5 (.slice aE lE cE)
       refine hK.out _ _ ?_ ?_
       ·(try dsimp only); exact tq7 x3 z3 z4 kW
       clear hK K hHeld; intro hHeld
       (try simp only [pz])
       refine wpAnyH_done k_f ?_ _
       exact ⟨rfl,_,sC,aC,lC,cC,sD,aD,lD,cD,sE,aE,lE,cE,rfl,z5,hzE,hlE,hlD,hlC,hb5,kW⟩
      exact AllReadyH.nil
     exact AllReadyH.nil
    refine AllReadyH.cons (o:=⟨some 5,_,_,_,_,_⟩) rfl (fun K hK => ?_) ?_
    ·have kL:=below_alloc (wDq) (.cells #[.bool false,.slice none 0 0] 37)
     have hzC:=hzC.below kL
     have hzD:=hzD.below kL
     have z5 : ZB ((wDq).alloc (.cells #[.bool false,.slice none 0 0] 37)) (wDq.heap.size) false none 0 0:=zb_new _ _ _ _ _
     have hb5 : W'.heap.size≤wDq.heap.size:=kW.size
     have kW:=grow_step kL kW
     go_simp
     refine hK.out _ _ ?_ ?_
     ·(try dsimp only); exact tq7 x3 z3 z4 kW
     clear hK K hHeld; intro hHeld
     (try simp only [pz])
     generalize (wDq).alloc (.cells #[.bool false,.slice none 0 0] 37) = wL5 at *
     refine ryz 7 (some 27) (fun K hK => ?_) ?_
     ·go_simp
      go_at_call 98; refine Calls.mono (zadd_n hzD.zm (hOne.out.zm.below kW) o_m o_m) ?_; rintro e wE ⟨sE,aE,lE,cE,rfl,hzE,kE,hlE⟩
      have z5:=z5.below kE
      have hzC:=hzC.below kE
      have hzD:=hzD.below kE
      have kW:=grow_step kE kW
      (try go_wp2_with fail)
      refine hK.out _ _ ?_ ?_
      ·(try dsimp only); exact tq7 x3 z3 z4 kW
      clear hK K hHeld; intro hHeld
      (try simp only [pz])
      refine ryz 9 none (fun K hK => ?_) ?_
      ·have f0:=z5.c0
       have f1:=z5.c1
       have f2:=z5.f 0
       have f3:=z5.f 1
       go_simp
       have hzC:=zb_zn z5 hzC sE aE lE cE
       have hzD:=zb_zn z5 hzD sE aE lE cE
       have hzE:=zb_zn z5 hzE sE aE lE cE
       have z5:=zb_fin z5 sE aE lE cE
       have kW:=(kW.setCell (p:=⟨wDq.heap.size,0,none⟩) hb5 (.bool sE)).setCell (p:=⟨wDq.heap.size,1,none⟩) hb5 (.slice aE lE cE)
       refine hK.out _ _ ?_ ?_
       ·(try dsimp only); exact tq7 x3 z3 z4 kW
       clear hK K hHeld; intro hHeld
       (try simp only [pz])
       refine wpAnyH_done k_f ?_ _
       exact ⟨rfl,_,sC,aC,lC,cC,sD,aD,lD,cD,sE,aE,lE,cE,rfl,z5,hzE,hlE,hlD,hlC,hb5,kW⟩
      exact AllReadyH.nil
     exact AllReadyH.nil
    exact AllReadyH.nil
   refine AllReadyH.cons (o:=⟨some 5,_,_,_,_,_⟩) rfl (fun K hK => ?_) ?_
   ·have kL:=below_alloc (wC) (.cells #[.bool false,.slice none 0 0] 37)
    have hzC:=hzC.below kL
    have z5 : ZB ((wC).alloc (.cells #[.bool false,.slice none 0 0] 37)) (wC.heap.size) false none 0 0:=zb_new _ _ _ _ _
    have hb5 : W'.heap.size≤wC.heap.size:=kW.size
    have kW:=grow_step kL kW
    go_simp
    refine hK.out _ _ ?_ ?_
    ·(try dsimp only); exact tq7 x3 z3 z4 kW
    clear hK K hHeld; intro hHeld
    (try simp only [pz])
    generalize (wC).alloc (.cells #[.bool false,.slice none 0 0] 37) = wL5 at *
    refine ryz 5 (some 25) (fun K hK => ?_) ?_
    ·go_simp
     go_at_call 99; refine Calls.mono (quotient_n hzC.zm (hGcd.out.zm.below kW) o_m o_m hgp) ?_; rintro e wDq ⟨sD,aD,lD,cD,rfl,hzD,kD,hlD⟩
     have z5:=z5.below kD
     have hzC:=hzC.below kD
     have kW:=grow_step kD kW
     (try go_wp2_with fail)
     refine hK.out _ _ ?_ ?_
     ·(try dsimp only); exact tq7 x3 z3 z4 kW
     clear hK K hHeld; intro hHeld
     (try simp only [pz])
     refine ryz 7 (some 27) (fun K hK => ?_) ?_
     ·go_simp
      go_at_call 98; refine Calls.mono (zadd_n hzD.zm (hOne.out.zm.below kW) o_m o_m) ?_; rintro e wE ⟨sE,aE,lE,cE,rfl,hzE,kE,hlE⟩
      have z5:=z5.below kE
      have hzC:=hzC.below kE
      have hzD:=hzD.below kE
      have kW:=grow_step kE kW
      (try go_wp2_with fail)
      refine hK.out _ _ ?_ ?_
      ·(try dsimp only); exact tq7 x3 z3 z4 kW
      clear hK K hHeld; intro hHeld
      (try simp only [pz])
      refine ryz 9 none (fun K hK => ?_) ?_
      ·have f0:=z5.c0
       have f1:=z5.c1
       have f2:=z5.f 0
       have f3:=z5.f 1
       go_simp
       have hzC:=zb_zn z5 hzC sE aE lE cE
       have hzD:=zb_zn z5 hzD sE aE lE cE
       have hzE:=zb_zn z5 hzE sE aE lE cE
       have z5:=zb_fin z5 sE aE lE cE
       have kW:=(kW.setCell (p:=⟨wC.heap.size,0,none⟩) hb5 (.bool sE)).setCell (p:=⟨wC.heap.size,1,none⟩) hb5 (.slice aE lE cE)
       refine hK.out _ _ ?_ ?_
       ·(try dsimp only); exact tq7 x3 z3 z4 kW
       clear hK K hHeld; intro hHeld
       (try simp only [pz])
       refine wpAnyH_done k_f ?_ _
       exact ⟨rfl,_,sC,aC,lC,cC,sD,aD,lD,cD,sE,aE,lE,cE,rfl,z5,hzE,hlE,hlD,hlC,hb5,kW⟩
      exact AllReadyH.nil
     exact AllReadyH.nil
    exact AllReadyH.nil
   exact AllReadyH.nil
  refine AllReadyH.cons (o:=⟨some 5,_,_,_,_,_⟩) rfl (fun K hK => ?_) ?_
  ·have kL:=below_alloc (wD) (.cells #[.bool false,.slice none 0 0] 37)
   have z5 : ZB ((wD).alloc (.cells #[.bool false,.slice none 0 0] 37)) (wD.heap.size) false none 0 0:=zb_new _ _ _ _ _
   have hb5 : W'.heap.size≤wD.heap.size:=kW.size
   have kW:=grow_step kL kW
   go_simp
   refine hK.out _ _ ?_ ?_
   ·(try dsimp only); exact tq7 x3 z3 z4 kW
   clear hK K hHeld; intro hHeld
   (try simp only [pz])
   generalize (wD).alloc (.cells #[.bool false,.slice none 0 0] 37) = wL5 at *
   refine ryz 3 (some 23) (fun K hK => ?_) ?_
   ·go_simp
    go_at_call 100; refine Calls.mono (zsub_n (hZk.out.zm.below kW) (hOne.out.zm.below kW) o_m o_m) ?_; rintro e wC ⟨sC,aC,lC,cC,rfl,hzC,kC,hlC⟩
    have z5:=z5.below kC
    have kW:=grow_step kC kW
    (try go_wp2_with fail)
    refine hK.out _ _ ?_ ?_
    ·(try dsimp only); exact tq7 x3 z3 z4 kW
    clear hK K hHeld; intro hHeld
    (try simp only [pz])
    refine ryz 5 (some 25) (fun K hK => ?_) ?_
    ·go_simp
     go_at_call 99; refine Calls.mono (quotient_n hzC.zm (hGcd.out.zm.below kW) o_m o_m hgp) ?_; rintro e wDq ⟨sD,aD,lD,cD,rfl,hzD,kD,hlD⟩
     have z5:=z5.below kD
     have hzC:=hzC.below kD
     have kW:=grow_step kD kW
     (try go_wp2_with fail)
     refine hK.out _ _ ?_ ?_
     ·(try dsimp only); exact tq7 x3 z3 z4 kW
     clear hK K hHeld; intro hHeld
     (try simp only [pz])
     refine ryz 7 (some 27) (fun K hK => ?_) ?_
     ·go_simp
      go_at_call 98; refine Calls.mono (zadd_n hzD.zm (hOne.out.zm.below kW) o_m o_m) ?_; rintro e wE ⟨sE,aE,lE,cE,rfl,hzE,kE,hlE⟩
      have z5:=z5.below kE
      have hzC:=hzC.below kE
      have hzD:=hzD.below kE
      have kW:=grow_step kE kW
      (try go_wp2_with fail)
      refine hK.out _ _ ?_ ?_
      ·(try dsimp only); exact tq7 x3 z3 z4 kW
      clear hK K hHeld; intro hHeld
      (try simp only [pz])
      refine ryz 9 none (fun K hK => ?_) ?_
      ·have f0:=z5.c0
       have f1:=z5.c1
       have f2:=z5.f 0
       have f3:=z5.f 1
       go_simp
       have hzC:=zb_zn z5 hzC sE aE lE cE
       have hzD:=zb_zn z5 hzD sE aE lE cE
       have hzE:=zb_zn z5 hzE sE aE lE cE
       have z5:=zb_fin z5 sE aE lE cE
       have kW:=(kW.setCell (p:=⟨wD.heap.size,0,none⟩) hb5 (.bool sE)).setCell (p:=⟨wD.heap.size,1,none⟩) hb5 (.slice aE lE cE)
       refine hK.out _ _ ?_ ?_
       ·(try dsimp only); exact tq7 x3 z3 z4 kW
       clear hK K hHeld; intro hHeld
       (try simp only [pz])
       refine wpAnyH_done k_f ?_ _
       exact ⟨rfl,_,sC,aC,lC,cC,sD,aD,lD,cD,sE,aE,lE,cE,rfl,z5,hzE,hlE,hlD,hlC,hb5,kW⟩
      exact AllReadyH.nil
     exact AllReadyH.nil
    exact AllReadyH.nil
   exact AllReadyH.nil
  exact AllReadyH.nil
 refine wp_region_held_drew (S:=(fun w' => w'.cell? ⟨p,0,none⟩ = some (.slice ad1 n1 cp1)∧w'.cell? ⟨p,1,none⟩ = some (.bool s1)∧w'.cell? ⟨p,2,none⟩ = some (.slice a1 l1 c1)∧Below w2.heap.size w2 w')) k_f (tq3 x2 (grow_drew (Below.refl _ _))) (fun hHeld => ?_)
 show wpAnyH _ _ _ _ _ 7 _ _ _
 have kW:=grow_drew (Below.refl w2.heap.size w2)
 generalize w2.drew = wD at *
 refine wpAnyH_take (i:=1) (oi:=⟨some 18,_,_,_,_,_⟩) (v:=?_) rfl k_f k_f k_f (fun _ _ _ h => by cases h.1) (Or.inl ⟨by rfl,?_⟩) (by assumption) ?_
 rotate_left
 ·intro wq hSw; (try dsimp only at hSw); go_simp; (try with_reducible rfl)
 (try simp only [pz])
 refine wpAnyH_ready (rs:=[0,3,4]) k_f (by simp) ?_
 refine AllReadyH.cons (o:=⟨some 17,_,_,_,_,_⟩) rfl (fun K hK => ?_) ?_
 ·go_simp
  go_at_call 60; refine Calls.mono (zof_n 1 (by decide) (by decide) _) ?_; rintro e wA ⟨sA,aA,lA,cA,rfl,hzA,kA,hlA⟩
  have kW:=grow_step kA kW
  (try go_wp2_with fail)
  refine hK.out _ _ ?_ ?_
  ·(try dsimp only); exact tq3 x2 kW
  clear hK K hHeld; intro hHeld
  (try simp only [pz])
  refine wpAnyH_ready (rs:=[2,3,4]) k_f (by simp) ?_
  refine AllReadyH.cons (o:=⟨some 19,_,_,_,_,_⟩) rfl (fun K hK => ?_) ?_
  ·go_simp
   go_at_call 97; refine Calls.mono (common_n (N0:=[]) (m:=0) (B:=B + n + 1) (Below.refl _ _) (Pr.below (hPn.out.pr.mono o_m) kW) (World.ownsRow_nil _ _ _ _) rfl (fun x hx => by cases hx) o_m o_m o_m) ?_; rintro e wB ⟨sB,aB,lB,cB,rfl,hzB,hlB,kB⟩
   have hzA:=hzA.below kB
   have kW:=grow_step kB kW
   (try go_wp2_with fail)
   refine hK.out _ _ ?_ ?_
   ·(try dsimp only); exact tq3 x2 kW
   clear hK K hHeld; intro hHeld
   (try simp only [pz])
   refine wpAnyH_ready (rs:=[3,4]) k_f (by simp) ?_
   refine AllReadyH.cons (o:=⟨some 3,_,_,_,_,_⟩) rfl (fun K hK => ?_) ?_
   ·have kL:=below_alloc (wB) (.cells #[.bool false,.slice none 0 0] 37)
    have hzA:=hzA.below kL
    have hzB:=hzB.below kL
    have z3 : ZB ((wB).alloc (.cells #[.bool false,.slice none 0 0] 37)) (wB.heap.size) false none 0 0:=(by simpa using zb_new (wB) false none 0 0)
    have hb3 : w2.heap.size≤wB.heap.size:=by have h9:=kW.size; first | exact h9 | (simp at h9 ⊢; omega) | simp
    have kW:=grow_step kL kW
    go_simp
    refine hK.out _ _ ?_ ?_
    ·(try dsimp only); exact tq3 x2 kW
    clear hK K hHeld; intro hHeld
    (try simp only [pz])
    generalize (wB).alloc (.cells #[.bool false,.slice none 0 0] 37) = wL3 at *
    refine ryz 4 (some 4) (fun K hK => ?_) ?_
    ·have kL:=below_alloc (wL3) (.cells #[.bool false,.slice none 0 0] 37)
     have hne : wB.heap.size ≠ wL3.heap.size:=by have h9:=z3.lt; first | omega | (simp at h9 ⊢; omega) | (simp at h9 ⊢)
     have z3:=z3.below kL
     have hzA:=hzA.below kL
     have hzB:=hzB.below kL
     have z4 : ZB ((wL3).alloc (.cells #[.bool false,.slice none 0 0] 37)) (wL3.heap.size) false none 0 0:=(by simpa using zb_new (wL3) false none 0 0)
     have hb4 : w2.heap.size≤wL3.heap.size:=by have h9:=kW.size; first | exact h9 | (simp at h9 ⊢; omega) | simp
     have kW:=grow_step kL kW
     go_simp
     refine hK.out _ _ ?_ ?_
     ·(try dsimp only); exact tq3 x2 kW
     clear hK K hHeld; intro hHeld
     (try simp only [pz])
     generalize (wL3).alloc (.cells #[.bool false,.slice none 0 0] 37) = wL4 at *
     refine ryz 5 none (fun K hK => ?_) ?_
     ·have f0:=z3.c0
      have f1:=z3.c1
      have f2:=z3.f 0
      have f3:=z3.f 1
      go_simp
      have hzA:=zb_zn z3 hzA sA aA lA cA
      have hzB:=zb_zn z3 hzB sA aA lA cA
      have z4:=z4.only (only2 _ _ (.bool sA) (.slice aA lA cA)) hne.symm
      have z3:=zb_fin z3 sA aA lA cA
      have kW:=(kW.setCell (p:=⟨wB.heap.size,0,none⟩) hb3 (.bool sA)).setCell (p:=⟨wB.heap.size,1,none⟩) hb3 (.slice aA lA cA)
      refine hK.out _ _ ?_ ?_
      ·(try dsimp only); exact tq3 x2 kW
      clear hK K hHeld; intro hHeld
      (try simp only [pz])
      refine ryz 6 none (fun K hK => ?_) ?_
      ·have f0:=z4.c0
       have f1:=z4.c1
       have f2:=z4.f 0
       have f3:=z4.f 1
       go_simp
       have hzA:=zb_zn z4 hzA sB aB lB cB
       have hzB:=zb_zn z4 hzB sB aB lB cB
       have z3:=z3.only (only2 _ _ (.bool sB) (.slice aB lB cB)) hne
       have z4:=zb_fin z4 sB aB lB cB
       have kW:=(kW.setCell (p:=⟨wL3.heap.size,0,none⟩) hb4 (.bool sB)).setCell (p:=⟨wL3.heap.size,1,none⟩) hb4 (.slice aB lB cB)
       refine hK.out _ _ ?_ ?_
       ·(try dsimp only); exact tq3 x2 kW
       clear hK K hHeld; intro hHeld
       (try simp only [pz])
       refine wpAnyH_done k_f ?_ _
       exact ⟨rfl,_,_,sA,aA,lA,cA,sB,aB,lB,cB,rfl,z3,z4,hzA,hlA,hzB,hlB,hne,hb3,hb4,kW⟩
      exact AllReadyH.nil
     exact AllReadyH.nil
    exact AllReadyH.nil
   refine AllReadyH.cons (o:=⟨some 4,_,_,_,_,_⟩) rfl (fun K hK => ?_) ?_
   ·have kL:=below_alloc (wB) (.cells #[.bool false,.slice none 0 0] 37)
    have hzA:=hzA.below kL
    have hzB:=hzB.below kL
    have z4 : ZB ((wB).alloc (.cells #[.bool false,.slice none 0 0] 37)) (wB.heap.size) false none 0 0:=(by simpa using zb_new (wB) false none 0 0)
    have hb4 : w2.heap.size≤wB.heap.size:=by have h9:=kW.size; first | exact h9 | (simp at h9 ⊢; omega) | simp
    have kW:=grow_step kL kW
    go_simp
    refine hK.out _ _ ?_ ?_
    ·(try dsimp only); exact tq3 x2 kW
    clear hK K hHeld; intro hHeld
    (try simp only [pz])
    generalize (wB).alloc (.cells #[.bool false,.slice none 0 0] 37) = wL4 at *
    refine ryz 3 (some 3) (fun K hK => ?_) ?_
    ·have kL:=below_alloc (wL4) (.cells #[.bool false,.slice none 0 0] 37)
     have hne : wL4.heap.size ≠ wB.heap.size:=by have h9:=z4.lt; first | omega | (simp at h9 ⊢; omega) | (simp at h9 ⊢)
     have z4:=z4.below kL
     have hzA:=hzA.below kL
     have hzB:=hzB.below kL
     have z3 : ZB ((wL4).alloc (.cells #[.bool false,.slice none 0 0] 37)) (wL4.heap.size) false none 0 0:=(by simpa using zb_new (wL4) false none 0 0)
     have hb3 : w2.heap.size≤wL4.heap.size:=by have h9:=kW.size; first | exact h9 | (simp at h9 ⊢; omega) | simp
     have kW:=grow_step kL kW
     go_simp
     refine hK.out _ _ ?_ ?_
     ·(try dsimp only); exact tq3 x2 kW
     clear hK K hHeld; intro hHeld
     (try simp only [pz])
     generalize (wL4).alloc (.cells #[.bool false,.slice none 0 0] 37) = wL3 at *
     refine ryz 5 none (fun K hK => ?_) ?_
     ·have f0:=z3.c0
      have f1:=z3.c1
      have f2:=z3.f 0
      have f3:=z3.f 1
      go_simp
      have hzA:=zb_zn z3 hzA sA aA lA cA
      have hzB:=zb_zn z3 hzB sA aA lA cA
      have z4:=z4.only (only2 _ _ (.bool sA) (.slice aA lA cA)) hne.symm
      have z3:=zb_fin z3 sA aA lA cA
      have kW:=(kW.setCell (p:=⟨wL4.heap.size,0,none⟩) hb3 (.bool sA)).setCell (p:=⟨wL4.heap.size,1,none⟩) hb3 (.slice aA lA cA)
      refine hK.out _ _ ?_ ?_
      ·(try dsimp only); exact tq3 x2 kW
      clear hK K hHeld; intro hHeld
      (try simp only [pz])
      refine ryz 6 none (fun K hK => ?_) ?_
      ·have f0:=z4.c0
       have f1:=z4.c1
       have f2:=z4.f 0
       have f3:=z4.f 1
       go_simp
       have hzA:=zb_zn z4 hzA sB aB lB cB
       have hzB:=zb_zn z4 hzB sB aB lB cB
       have z3:=z3.only (only2 _ _ (.bool sB) (.slice aB lB cB)) hne
       have z4:=zb_fin z4 sB aB lB cB
       have kW:=(kW.setCell (p:=⟨wB.heap.size,0,none⟩) hb4 (.bool sB)).setCell (p:=⟨wB.heap.size,1,none⟩) hb4 (.slice aB lB cB)
       refine hK.out _ _ ?_ ?_
       ·(try dsimp only); exact tq3 x2 kW
       clear hK K hHeld; intro hHeld
       (try simp only [pz])
       refine wpAnyH_done k_f ?_ _
       exact ⟨rfl,_,_,sA,aA,lA,cA,sB,aB,lB,cB,rfl,z3,z4,hzA,hlA,hzB,hlB,hne,hb3,hb4,kW⟩
      exact AllReadyH.nil
     exact AllReadyH.nil
    exact AllReadyH.nil
   exact AllReadyH.nil
  refine AllReadyH.cons (o:=⟨some 3,_,_,_,_,_⟩) rfl (fun K hK => ?_) ?_
  ·have kL:=below_alloc (wA) (.cells #[.bool false,.slice none 0 0] 37)
   have hzA:=hzA.below kL
   have z3 : ZB ((wA).alloc (.cells #[.bool false,.slice none 0 0] 37)) (wA.heap.size) false none 0 0:=(by simpa using zb_new (wA) false none 0 0)
   have hb3 : w2.heap.size≤wA.heap.size:=by have h9:=kW.size; first | exact h9 | (simp at h9 ⊢; omega) | simp
   have kW:=grow_step kL kW
   go_simp
   refine hK.out _ _ ?_ ?_
   ·(try dsimp only); exact tq3 x2 kW
   clear hK K hHeld; intro hHeld
   (try simp only [pz])
   generalize (wA).alloc (.cells #[.bool false,.slice none 0 0] 37) = wL3 at *
   refine wpAnyH_ready (rs:=[2,4]) k_f (by simp) ?_
   refine AllReadyH.cons (o:=⟨some 19,_,_,_,_,_⟩) rfl (fun K hK => ?_) ?_
   ·go_simp
    go_at_call 97; refine Calls.mono (common_n (N0:=[]) (m:=0) (B:=B + n + 1) (Below.refl _ _) (Pr.below (hPn.out.pr.mono o_m) kW) (World.ownsRow_nil _ _ _ _) rfl (fun x hx => by cases hx) o_m o_m o_m) ?_; rintro e wB ⟨sB,aB,lB,cB,rfl,hzB,hlB,kB⟩
    have z3:=z3.below kB
    have hzA:=hzA.below kB
    have kW:=grow_step kB kW
    (try go_wp2_with fail)
    refine hK.out _ _ ?_ ?_
    ·(try dsimp only); exact tq3 x2 kW
    clear hK K hHeld; intro hHeld
    (try simp only [pz])
    refine ryz 4 (some 4) (fun K hK => ?_) ?_
    ·have kL:=below_alloc (wB) (.cells #[.bool false,.slice none 0 0] 37)
     have hne : wA.heap.size ≠ wB.heap.size:=by have h9:=z3.lt; first | omega | (simp at h9 ⊢; omega) | (simp at h9 ⊢)
     have z3:=z3.below kL
     have hzA:=hzA.below kL
     have hzB:=hzB.below kL
     have z4 : ZB ((wB).alloc (.cells #[.bool false,.slice none 0 0] 37)) (wB.heap.size) false none 0 0:=(by simpa using zb_new (wB) false none 0 0)
     have hb4 : w2.heap.size≤wB.heap.size:=by have h9:=kW.size; first | exact h9 | (simp at h9 ⊢; omega) | simp
     have kW:=grow_step kL kW
     go_simp
     refine hK.out _ _ ?_ ?_
     ·(try dsimp only); exact tq3 x2 kW
     clear hK K hHeld; intro hHeld
     (try simp only [pz])
     generalize (wB).alloc (.cells #[.bool false,.slice none 0 0] 37) = wL4 at *
     refine ryz 5 none (fun K hK => ?_) ?_
     ·have f0:=z3.c0
      have f1:=z3.c1
      have f2:=z3.f 0
      have f3:=z3.f 1
      go_simp
      have hzA:=zb_zn z3 hzA sA aA lA cA
      have hzB:=zb_zn z3 hzB sA aA lA cA
      have z4:=z4.only (only2 _ _ (.bool sA) (.slice aA lA cA)) hne.symm
      have z3:=zb_fin z3 sA aA lA cA
      have kW:=(kW.setCell (p:=⟨wA.heap.size,0,none⟩) hb3 (.bool sA)).setCell (p:=⟨wA.heap.size,1,none⟩) hb3 (.slice aA lA cA)
      refine hK.out _ _ ?_ ?_
      ·(try dsimp only); exact tq3 x2 kW
      clear hK K hHeld; intro hHeld
      (try simp only [pz])
      refine ryz 6 none (fun K hK => ?_) ?_
      ·have f0:=z4.c0
       have f1:=z4.c1
       have f2:=z4.f 0
       have f3:=z4.f 1
       go_simp
       have hzA:=zb_zn z4 hzA sB aB lB cB
       have hzB:=zb_zn z4 hzB sB aB lB cB
       have z3:=z3.only (only2 _ _ (.bool sB) (.slice aB lB cB)) hne
       have z4:=zb_fin z4 sB aB lB cB
       have kW:=(kW.setCell (p:=⟨wB.heap.size,0,none⟩) hb4 (.bool sB)).setCell (p:=⟨wB.heap.size,1,none⟩) hb4 (.slice aB lB cB)
       refine hK.out _ _ ?_ ?_
       ·(try dsimp only); exact tq3 x2 kW
       clear hK K hHeld; intro hHeld
       (try simp only [pz])
       refine wpAnyH_done k_f ?_ _
       exact ⟨rfl,_,_,sA,aA,lA,cA,sB,aB,lB,cB,rfl,z3,z4,hzA,hlA,hzB,hlB,hne,hb3,hb4,kW⟩
      exact AllReadyH.nil
     exact AllReadyH.nil
    exact AllReadyH.nil
   refine AllReadyH.cons (o:=⟨some 4,_,_,_,_,_⟩) rfl (fun K hK => ?_) ?_
   ·have kL:=below_alloc (wL3) (.cells #[.bool false,.slice none 0 0] 37)
    have hne : wA.heap.size ≠ wL3.heap.size:=by have h9:=z3.lt; first | omega | (simp at h9 ⊢; omega) | (simp at h9 ⊢)
    have z3:=z3.below kL
    have hzA:=hzA.below kL
    have z4 : ZB ((wL3).alloc (.cells #[.bool false,.slice none 0 0] 37)) (wL3.heap.size) false none 0 0:=(by simpa using zb_new (wL3) false none 0 0)
    have hb4 : w2.heap.size≤wL3.heap.size:=by have h9:=kW.size; first | exact h9 | (simp at h9 ⊢; omega) | simp
    have kW:=grow_step kL kW
    go_simp
    refine hK.out _ _ ?_ ?_
    ·(try dsimp only); exact tq3 x2 kW
    clear hK K hHeld; intro hHeld
    (try simp only [pz])
    generalize (wL3).alloc (.cells #[.bool false,.slice none 0 0] 37) = wL4 at *
    refine ryz 2 (some 19) (fun K hK => ?_) ?_
    ·go_simp
     go_at_call 97; refine Calls.mono (common_n (N0:=[]) (m:=0) (B:=B + n + 1) (Below.refl _ _) (Pr.below (hPn.out.pr.mono o_m) kW) (World.ownsRow_nil _ _ _ _) rfl (fun x hx => by cases hx) o_m o_m o_m) ?_; rintro e wB ⟨sB,aB,lB,cB,rfl,hzB,hlB,kB⟩
     have z3:=z3.below kB
     have z4:=z4.below kB
     have hzA:=hzA.below kB
     have kW:=grow_step kB kW
     (try go_wp2_with fail)
     refine hK.out _ _ ?_ ?_
     ·(try dsimp only); exact tq3 x2 kW
     clear hK K hHeld; intro hHeld
     (try simp only [pz])
     refine ryz 5 none (fun K hK => ?_) ?_
     ·have f0:=z3.c0
      have f1:=z3.c1
      have f2:=z3.f 0
      have f3:=z3.f 1
      go_simp
      have hzA:=zb_zn z3 hzA sA aA lA cA
      have hzB:=zb_zn z3 hzB sA aA lA cA
      have z4:=z4.only (only2 _ _ (.bool sA) (.slice aA lA cA)) hne.symm
      have z3:=zb_fin z3 sA aA lA cA
      have kW:=(kW.setCell (p:=⟨wA.heap.size,0,none⟩) hb3 (.bool sA)).setCell (p:=⟨wA.heap.size,1,none⟩) hb3 (.slice aA lA cA)
      refine hK.out _ _ ?_ ?_
      ·(try dsimp only); exact tq3 x2 kW
      clear hK K hHeld; intro hHeld
      (try simp only [pz])
      refine ryz 6 none (fun K hK => ?_) ?_
      ·have f0:=z4.c0
       have f1:=z4.c1
       have f2:=z4.f 0
       have f3:=z4.f 1
       go_simp
       have hzA:=zb_zn z4 hzA sB aB lB cB
       have hzB:=zb_zn z4 hzB sB aB lB cB
       have z3:=z3.only (only2 _ _ (.bool sB) (.slice aB lB cB)) hne
       have z4:=zb_fin z4 sB aB lB cB
       have kW:=(kW.setCell (p:=⟨wL3.heap.size,0,none⟩) hb4 (.bool sB)).setCell (p:=⟨wL3.heap.size,1,none⟩) hb4 (.slice aB lB cB)
       refine hK.out _ _ ?_ ?_
       ·(try dsimp only); exact tq3 x2 kW
       clear hK K hHeld; intro hHeld
       (try simp only [pz])
       refine wpAnyH_done k_f ?_ _
       exact ⟨rfl,_,_,sA,aA,lA,cA,sB,aB,lB,cB,rfl,z3,z4,hzA,hlA,hzB,hlB,hne,hb3,hb4,kW⟩
      exact AllReadyH.nil
     exact AllReadyH.nil
    exact AllReadyH.nil
   exact AllReadyH.nil
  refine AllReadyH.cons (o:=⟨some 4,_,_,_,_,_⟩) rfl (fun K hK => ?_) ?_
  ·have kL:=below_alloc (wA) (.cells #[.bool false,.slice none 0 0] 37)
   have hzA:=hzA.below kL
   have z4 : ZB ((wA).alloc (.cells #[.bool false,.slice none 0 0] 37)) (wA.heap.size) false none 0 0:=(by simpa using zb_new (wA) false none 0 0)
   have hb4 : w2.heap.size≤wA.heap.size:=by have h9:=kW.size; first | exact h9 | (simp at h9 ⊢; omega) | simp
   have kW:=grow_step kL kW
   go_simp
   refine hK.out _ _ ?_ ?_
   ·(try dsimp only); exact tq3 x2 kW
   clear hK K hHeld; intro hHeld
   (try simp only [pz])
   generalize (wA).alloc (.cells #[.bool false,.slice none 0 0] 37) = wL4 at *
   refine wpAnyH_ready (rs:=[2,3]) k_f (by simp) ?_
   refine AllReadyH.cons (o:=⟨some 19,_,_,_,_,_⟩) rfl (fun K hK => ?_) ?_
   ·go_simp
    go_at_call 97; refine Calls.mono (common_n (N0:=[]) (m:=0) (B:=B + n + 1) (Below.refl _ _) (Pr.below (hPn.out.pr.mono o_m) kW) (World.ownsRow_nil _ _ _ _) rfl (fun x hx => by cases hx) o_m o_m o_m) ?_; rintro e wB ⟨sB,aB,lB,cB,rfl,hzB,hlB,kB⟩
    have z4:=z4.below kB
    have hzA:=hzA.below kB
    have kW:=grow_step kB kW
    (try go_wp2_with fail)
    refine hK.out _ _ ?_ ?_
    ·(try dsimp only); exact tq3 x2 kW
    clear hK K hHeld; intro hHeld
    (try simp only [pz])
    refine ryz 3 (some 3) (fun K hK => ?_) ?_
    ·have kL:=below_alloc (wB) (.cells #[.bool false,.slice none 0 0] 37)
     have hne : wB.heap.size ≠ wA.heap.size:=by have h9:=z4.lt; first | omega | (simp at h9 ⊢; omega) | (simp at h9 ⊢)
     have z4:=z4.below kL
     have hzA:=hzA.below kL
     have hzB:=hzB.below kL
     have z3 : ZB ((wB).alloc (.cells #[.bool false,.slice none 0 0] 37)) (wB.heap.size) false none 0 0:=(by simpa using zb_new (wB) false none 0 0)
     have hb3 : w2.heap.size≤wB.heap.size:=by have h9:=kW.size; first | exact h9 | (simp at h9 ⊢; omega) | simp
     have kW:=grow_step kL kW
     go_simp
     refine hK.out _ _ ?_ ?_
     ·(try dsimp only); exact tq3 x2 kW
     clear hK K hHeld; intro hHeld
     (try simp only [pz])
     generalize (wB).alloc (.cells #[.bool false,.slice none 0 0] 37) = wL3 at *
     refine ryz 5 none (fun K hK => ?_) ?_
     ·have f0:=z3.c0
      have f1:=z3.c1
      have f2:=z3.f 0
      have f3:=z3.f 1
      go_simp
      have hzA:=zb_zn z3 hzA sA aA lA cA
      have hzB:=zb_zn z3 hzB sA aA lA cA
      have z4:=z4.only (only2 _ _ (.bool sA) (.slice aA lA cA)) hne.symm
      have z3:=zb_fin z3 sA aA lA cA
      have kW:=(kW.setCell (p:=⟨wB.heap.size,0,none⟩) hb3 (.bool sA)).setCell (p:=⟨wB.heap.size,1,none⟩) hb3 (.slice aA lA cA)
      refine hK.out _ _ ?_ ?_
      ·(try dsimp only); exact tq3 x2 kW
      clear hK K hHeld; intro hHeld
      (try simp only [pz])
      refine ryz 6 none (fun K hK => ?_) ?_
      ·have f0:=z4.c0
       have f1:=z4.c1
       have f2:=z4.f 0
       have f3:=z4.f 1
       go_simp
       have hzA:=zb_zn z4 hzA sB aB lB cB
       have hzB:=zb_zn z4 hzB sB aB lB cB
       have z3:=z3.only (only2 _ _ (.bool sB) (.slice aB lB cB)) hne
       have z4:=zb_fin z4 sB aB lB cB
       have kW:=(kW.setCell (p:=⟨wA.heap.size,0,none⟩) hb4 (.bool sB)).setCell (p:=⟨wA.heap.size,1,none⟩) hb4 (.slice aB lB cB)
       refine hK.out _ _ ?_ ?_
       ·(try dsimp only); exact tq3 x2 kW
       clear hK K hHeld; intro hHeld
       (try simp only [pz])
       refine wpAnyH_done k_f ?_ _
       exact ⟨rfl,_,_,sA,aA,lA,cA,sB,aB,lB,cB,rfl,z3,z4,hzA,hlA,hzB,hlB,hne,hb3,hb4,kW⟩
      exact AllReadyH.nil
     exact AllReadyH.nil
    exact AllReadyH.nil
   refine AllReadyH.cons (o:=⟨some 3,_,_,_,_,_⟩) rfl (fun K hK => ?_) ?_
   ·have kL:=below_alloc (wL4) (.cells #[.bool false,.slice none 0 0] 37)
    have hne : wL4.heap.size ≠ wA.heap.size:=by have h9:=z4.lt; first | omega | (simp at h9 ⊢; omega) | (simp at h9 ⊢)
    have z4:=z4.below kL
    have hzA:=hzA.below kL
    have z3 : ZB ((wL4).alloc (.cells #[.bool false,.slice none 0 0] 37)) (wL4.heap.size) false none 0 0:=(by simpa using zb_new (wL4) false none 0 0)
    have hb3 : w2.heap.size≤wL4.heap.size:=by have h9:=kW.size; first | exact h9 | (simp at h9 ⊢; omega) | simp
    have kW:=grow_step kL kW
    go_simp
    refine hK.out _ _ ?_ ?_
    ·(try dsimp only); exact tq3 x2 kW
    clear hK K hHeld; intro hHeld
    (try simp only [pz])
    generalize (wL4).alloc (.cells #[.bool false,.slice none 0 0] 37) = wL3 at *
    refine ryz 2 (some 19) (fun K hK => ?_) ?_
    ·go_simp
     go_at_call 97; refine Calls.mono (common_n (N0:=[]) (m:=0) (B:=B + n + 1) (Below.refl _ _) (Pr.below (hPn.out.pr.mono o_m) kW) (World.ownsRow_nil _ _ _ _) rfl (fun x hx => by cases hx) o_m o_m o_m) ?_; rintro e wB ⟨sB,aB,lB,cB,rfl,hzB,hlB,kB⟩
     have z3:=z3.below kB
     have z4:=z4.below kB
     have hzA:=hzA.below kB
     have kW:=grow_step kB kW
     (try go_wp2_with fail)
     refine hK.out _ _ ?_ ?_
     ·(try dsimp only); exact tq3 x2 kW
     clear hK K hHeld; intro hHeld
     (try simp only [pz])
     refine ryz 5 none (fun K hK => ?_) ?_
     ·have f0:=z3.c0
      have f1:=z3.c1
      have f2:=z3.f 0
      have f3:=z3.f 1
      go_simp
      have hzA:=zb_zn z3 hzA sA aA lA cA
      have hzB:=zb_zn z3 hzB sA aA lA cA
      have z4:=z4.only (only2 _ _ (.bool sA) (.slice aA lA cA)) hne.symm
      have z3:=zb_fin z3 sA aA lA cA
      have kW:=(kW.setCell (p:=⟨wL4.heap.size,0,none⟩) hb3 (.bool sA)).setCell (p:=⟨wL4.heap.size,1,none⟩) hb3 (.slice aA lA cA)
      refine hK.out _ _ ?_ ?_
      ·(try dsimp only); exact tq3 x2 kW
      clear hK K hHeld; intro hHeld
      (try simp only [pz])
      refine ryz 6 none (fun K hK => ?_) ?_
      ·have f0:=z4.c0
       have f1:=z4.c1
       have f2:=z4.f 0
       have f3:=z4.f 1
       go_simp
       have hzA:=zb_zn z4 hzA sB aB lB cB
       have hzB:=zb_zn z4 hzB sB aB lB cB
       have z3:=z3.only (only2 _ _ (.bool sB) (.slice aB lB cB)) hne
       have z4:=zb_fin z4 sB aB lB cB
       have kW:=(kW.setCell (p:=⟨wA.heap.size,0,none⟩) hb4 (.bool sB)).setCell (p:=⟨wA.heap.size,1,none⟩) hb4 (.slice aB lB cB)
       refine hK.out _ _ ?_ ?_
       ·(try dsimp only); exact tq3 x2 kW
       clear hK K hHeld; intro hHeld
       (try simp only [pz])
       refine wpAnyH_done k_f ?_ _
       exact ⟨rfl,_,_,sA,aA,lA,cA,sB,aB,lB,cB,rfl,z3,z4,hzA,hlA,hzB,hlB,hne,hb3,hb4,kW⟩
      exact AllReadyH.nil
     exact AllReadyH.nil
    exact AllReadyH.nil
   exact AllReadyH.nil
  exact AllReadyH.nil
 refine AllReadyH.cons (o:=⟨some 3,_,_,_,_,_⟩) rfl (fun K hK => ?_) ?_
 ·have kL:=below_alloc (wD) (.cells #[.bool false,.slice none 0 0] 37)
  have z3 : ZB ((wD).alloc (.cells #[.bool false,.slice none 0 0] 37)) (wD.heap.size) false none 0 0:=(by simpa using zb_new (wD) false none 0 0)
  have hb3 : w2.heap.size≤wD.heap.size:=by have h9:=kW.size; first | exact h9 | (simp at h9 ⊢; omega) | simp
  have kW:=grow_step kL kW
  go_simp
  refine hK.out _ _ ?_ ?_
  ·(try dsimp only); exact tq3 x2 kW
  clear hK K hHeld; intro hHeld
  (try simp only [pz])
  generalize (wD).alloc (.cells #[.bool false,.slice none 0 0] 37) = wL3 at *
  refine wpAnyH_ready (rs:=[0,4]) k_f (by simp) ?_
  refine AllReadyH.cons (o:=⟨some 17,_,_,_,_,_⟩) rfl (fun K hK => ?_) ?_
  ·go_simp
   go_at_call 60; refine Calls.mono (zof_n 1 (by decide) (by decide) _) ?_; rintro e wA ⟨sA,aA,lA,cA,rfl,hzA,kA,hlA⟩
   have z3:=z3.below kA
   have kW:=grow_step kA kW
   (try go_wp2_with fail)
   refine hK.out _ _ ?_ ?_
   ·(try dsimp only); exact tq3 x2 kW
   clear hK K hHeld; intro hHeld
   (try simp only [pz])
   refine wpAnyH_ready (rs:=[2,4]) k_f (by simp) ?_
   refine AllReadyH.cons (o:=⟨some 19,_,_,_,_,_⟩) rfl (fun K hK => ?_) ?_
   ·go_simp
    go_at_call 97; refine Calls.mono (common_n (N0:=[]) (m:=0) (B:=B + n + 1) (Below.refl _ _) (Pr.below (hPn.out.pr.mono o_m) kW) (World.ownsRow_nil _ _ _ _) rfl (fun x hx => by cases hx) o_m o_m o_m) ?_; rintro e wB ⟨sB,aB,lB,cB,rfl,hzB,hlB,kB⟩
    have z3:=z3.below kB
    have hzA:=hzA.below kB
    have kW:=grow_step kB kW
    (try go_wp2_with fail)
    refine hK.out _ _ ?_ ?_
    ·(try dsimp only); exact tq3 x2 kW
    clear hK K hHeld; intro hHeld
    (try simp only [pz])
    refine ryz 4 (some 4) (fun K hK => ?_) ?_
    ·have kL:=below_alloc (wB) (.cells #[.bool false,.slice none 0 0] 37)
     have hne : wD.heap.size ≠ wB.heap.size:=by have h9:=z3.lt; first | omega | (simp at h9 ⊢; omega) | (simp at h9 ⊢)
     have z3:=z3.below kL
     have hzA:=hzA.below kL
     have hzB:=hzB.below kL
     have z4 : ZB ((wB).alloc (.cells #[.bool false,.slice none 0 0] 37)) (wB.heap.size) false none 0 0:=(by simpa using zb_new (wB) false none 0 0)
     have hb4 : w2.heap.size≤wB.heap.size:=by have h9:=kW.size; first | exact h9 | (simp at h9 ⊢; omega) | simp
     have kW:=grow_step kL kW
     go_simp
     refine hK.out _ _ ?_ ?_
     ·(try dsimp only); exact tq3 x2 kW
     clear hK K hHeld; intro hHeld
     (try simp only [pz])
     generalize (wB).alloc (.cells #[.bool false,.slice none 0 0] 37) = wL4 at *
     refine ryz 5 none (fun K hK => ?_) ?_
     ·have f0:=z3.c0
      have f1:=z3.c1
      have f2:=z3.f 0
      have f3:=z3.f 1
      go_simp
      have hzA:=zb_zn z3 hzA sA aA lA cA
      have hzB:=zb_zn z3 hzB sA aA lA cA
      have z4:=z4.only (only2 _ _ (.bool sA) (.slice aA lA cA)) hne.symm
      have z3:=zb_fin z3 sA aA lA cA
      have kW:=(kW.setCell (p:=⟨wD.heap.size,0,none⟩) hb3 (.bool sA)).setCell (p:=⟨wD.heap.size,1,none⟩) hb3 (.slice aA lA cA)
      refine hK.out _ _ ?_ ?_
      ·(try dsimp only); exact tq3 x2 kW
      clear hK K hHeld; intro hHeld
      (try simp only [pz])
      refine ryz 6 none (fun K hK => ?_) ?_
      ·have f0:=z4.c0
       have f1:=z4.c1
       have f2:=z4.f 0
       have f3:=z4.f 1
       go_simp
       have hzA:=zb_zn z4 hzA sB aB lB cB
       have hzB:=zb_zn z4 hzB sB aB lB cB
       have z3:=z3.only (only2 _ _ (.bool sB) (.slice aB lB cB)) hne
       have z4:=zb_fin z4 sB aB lB cB
       have kW:=(kW.setCell (p:=⟨wB.heap.size,0,none⟩) hb4 (.bool sB)).setCell (p:=⟨wB.heap.size,1,none⟩) hb4 (.slice aB lB cB)
       refine hK.out _ _ ?_ ?_
       ·(try dsimp only); exact tq3 x2 kW
       clear hK K hHeld; intro hHeld
       (try simp only [pz])
       refine wpAnyH_done k_f ?_ _
       exact ⟨rfl,_,_,sA,aA,lA,cA,sB,aB,lB,cB,rfl,z3,z4,hzA,hlA,hzB,hlB,hne,hb3,hb4,kW⟩
      exact AllReadyH.nil
     exact AllReadyH.nil
    exact AllReadyH.nil
   refine AllReadyH.cons (o:=⟨some 4,_,_,_,_,_⟩) rfl (fun K hK => ?_) ?_
   ·have kL:=below_alloc (wA) (.cells #[.bool false,.slice none 0 0] 37)
    have hne : wD.heap.size ≠ wA.heap.size:=by have h9:=z3.lt; first | omega | (simp at h9 ⊢; omega) | (simp at h9 ⊢)
    have z3:=z3.below kL
    have hzA:=hzA.below kL
    have z4 : ZB ((wA).alloc (.cells #[.bool false,.slice none 0 0] 37)) (wA.heap.size) false none 0 0:=(by simpa using zb_new (wA) false none 0 0)
    have hb4 : w2.heap.size≤wA.heap.size:=by have h9:=kW.size; first | exact h9 | (simp at h9 ⊢; omega) | simp
    have kW:=grow_step kL kW
    go_simp
    refine hK.out _ _ ?_ ?_
    ·(try dsimp only); exact tq3 x2 kW
    clear hK K hHeld; intro hHeld
    (try simp only [pz])
    generalize (wA).alloc (.cells #[.bool false,.slice none 0 0] 37) = wL4 at *
    refine ryz 2 (some 19) (fun K hK => ?_) ?_
    ·go_simp
     go_at_call 97; refine Calls.mono (common_n (N0:=[]) (m:=0) (B:=B + n + 1) (Below.refl _ _) (Pr.below (hPn.out.pr.mono o_m) kW) (World.ownsRow_nil _ _ _ _) rfl (fun x hx => by cases hx) o_m o_m o_m) ?_; rintro e wB ⟨sB,aB,lB,cB,rfl,hzB,hlB,kB⟩
     have z3:=z3.below kB
     have z4:=z4.below kB
     have hzA:=hzA.below kB
     have kW:=grow_step kB kW
     (try go_wp2_with fail)
     refine hK.out _ _ ?_ ?_
     ·(try dsimp only); exact tq3 x2 kW
     clear hK K hHeld; intro hHeld
     (try simp only [pz])
     refine ryz 5 none (fun K hK => ?_) ?_
     ·have f0:=z3.c0
      have f1:=z3.c1
      have f2:=z3.f 0
      have f3:=z3.f 1
      go_simp
      have hzA:=zb_zn z3 hzA sA aA lA cA
      have hzB:=zb_zn z3 hzB sA aA lA cA
      have z4:=z4.only (only2 _ _ (.bool sA) (.slice aA lA cA)) hne.symm
      have z3:=zb_fin z3 sA aA lA cA
      have kW:=(kW.setCell (p:=⟨wD.heap.size,0,none⟩) hb3 (.bool sA)).setCell (p:=⟨wD.heap.size,1,none⟩) hb3 (.slice aA lA cA)
      refine hK.out _ _ ?_ ?_
      ·(try dsimp only); exact tq3 x2 kW
      clear hK K hHeld; intro hHeld
      (try simp only [pz])
      refine ryz 6 none (fun K hK => ?_) ?_
      ·have f0:=z4.c0
       have f1:=z4.c1
       have f2:=z4.f 0
       have f3:=z4.f 1
       go_simp
       have hzA:=zb_zn z4 hzA sB aB lB cB
       have hzB:=zb_zn z4 hzB sB aB lB cB
       have z3:=z3.only (only2 _ _ (.bool sB) (.slice aB lB cB)) hne
       have z4:=zb_fin z4 sB aB lB cB
       have kW:=(kW.setCell (p:=⟨wA.heap.size,0,none⟩) hb4 (.bool sB)).setCell (p:=⟨wA.heap.size,1,none⟩) hb4 (.slice aB lB cB)
       refine hK.out _ _ ?_ ?_
       ·(try dsimp only); exact tq3 x2 kW
       clear hK K hHeld; intro hHeld
       (try simp only [pz])
       refine wpAnyH_done k_f ?_ _
       exact ⟨rfl,_,_,sA,aA,lA,cA,sB,aB,lB,cB,rfl,z3,z4,hzA,hlA,hzB,hlB,hne,hb3,hb4,kW⟩
      exact AllReadyH.nil
     exact AllReadyH.nil
    exact AllReadyH.nil
   exact AllReadyH.nil
  refine AllReadyH.cons (o:=⟨some 4,_,_,_,_,_⟩) rfl (fun K hK => ?_) ?_
  ·have kL:=below_alloc (wL3) (.cells #[.bool false,.slice none 0 0] 37)
   have hne : wD.heap.size ≠ wL3.heap.size:=by have h9:=z3.lt; first | omega | (simp at h9 ⊢; omega) | (simp at h9 ⊢)
   have z3:=z3.below kL
   have z4 : ZB ((wL3).alloc (.cells #[.bool false,.slice none 0 0] 37)) (wL3.heap.size) false none 0 0:=(by simpa using zb_new (wL3) false none 0 0)
   have hb4 : w2.heap.size≤wL3.heap.size:=by have h9:=kW.size; first | exact h9 | (simp at h9 ⊢; omega) | simp
   have kW:=grow_step kL kW
   go_simp
   refine hK.out _ _ ?_ ?_
   ·(try dsimp only); exact tq3 x2 kW
   clear hK K hHeld; intro hHeld
   (try simp only [pz])
   generalize (wL3).alloc (.cells #[.bool false,.slice none 0 0] 37) = wL4 at *
   refine ryz 0 (some 17) (fun K hK => ?_) ?_
   ·go_simp
    go_at_call 60; refine Calls.mono (zof_n 1 (by decide) (by decide) _) ?_; rintro e wA ⟨sA,aA,lA,cA,rfl,hzA,kA,hlA⟩
    have z3:=z3.below kA
    have z4:=z4.below kA
    have kW:=grow_step kA kW
    (try go_wp2_with fail)
    refine hK.out _ _ ?_ ?_
    ·(try dsimp only); exact tq3 x2 kW
    clear hK K hHeld; intro hHeld
    (try simp only [pz])
    refine ryz 2 (some 19) (fun K hK => ?_) ?_
    ·go_simp
     go_at_call 97; refine Calls.mono (common_n (N0:=[]) (m:=0) (B:=B + n + 1) (Below.refl _ _) (Pr.below (hPn.out.pr.mono o_m) kW) (World.ownsRow_nil _ _ _ _) rfl (fun x hx => by cases hx) o_m o_m o_m) ?_; rintro e wB ⟨sB,aB,lB,cB,rfl,hzB,hlB,kB⟩
     have z3:=z3.below kB
     have z4:=z4.below kB
     have hzA:=hzA.below kB
     have kW:=grow_step kB kW
     (try go_wp2_with fail)
     refine hK.out _ _ ?_ ?_
     ·(try dsimp only); exact tq3 x2 kW
     clear hK K hHeld; intro hHeld
     (try simp only [pz])
     refine ryz 5 none (fun K hK => ?_) ?_
     ·have f0:=z3.c0
      have f1:=z3.c1
      have f2:=z3.f 0
      have f3:=z3.f 1
      go_simp
      have hzA:=zb_zn z3 hzA sA aA lA cA
      have hzB:=zb_zn z3 hzB sA aA lA cA
      have z4:=z4.only (only2 _ _ (.bool sA) (.slice aA lA cA)) hne.symm
      have z3:=zb_fin z3 sA aA lA cA
      have kW:=(kW.setCell (p:=⟨wD.heap.size,0,none⟩) hb3 (.bool sA)).setCell (p:=⟨wD.heap.size,1,none⟩) hb3 (.slice aA lA cA)
      refine hK.out _ _ ?_ ?_
      ·(try dsimp only); exact tq3 x2 kW
      clear hK K hHeld; intro hHeld
      (try simp only [pz])
      refine ryz 6 none (fun K hK => ?_) ?_
      ·have f0:=z4.c0
       have f1:=z4.c1
       have f2:=z4.f 0
       have f3:=z4.f 1
       go_simp
       have hzA:=zb_zn z4 hzA sB aB lB cB
       have hzB:=zb_zn z4 hzB sB aB lB cB
       have z3:=z3.only (only2 _ _ (.bool sB) (.slice aB lB cB)) hne
       have z4:=zb_fin z4 sB aB lB cB
       have kW:=(kW.setCell (p:=⟨wL3.heap.size,0,none⟩) hb4 (.bool sB)).setCell (p:=⟨wL3.heap.size,1,none⟩) hb4 (.slice aB lB cB)
       refine hK.out _ _ ?_ ?_
       ·(try dsimp only); exact tq3 x2 kW
       clear hK K hHeld; intro hHeld
       (try simp only [pz])
       refine wpAnyH_done k_f ?_ _
       exact ⟨rfl,_,_,sA,aA,lA,cA,sB,aB,lB,cB,rfl,z3,z4,hzA,hlA,hzB,hlB,hne,hb3,hb4,kW⟩
      exact AllReadyH.nil
     exact AllReadyH.nil
    exact AllReadyH.nil
   exact AllReadyH.nil
  exact AllReadyH.nil
 refine AllReadyH.cons (o:=⟨some 4,_,_,_,_,_⟩) rfl (fun K hK => ?_) ?_
 ·have kL:=below_alloc (wD) (.cells #[.bool false,.slice none 0 0] 37)
  have z4 : ZB ((wD).alloc (.cells #[.bool false,.slice none 0 0] 37)) (wD.heap.size) false none 0 0:=(by simpa using zb_new (wD) false none 0 0)
  have hb4 : w2.heap.size≤wD.heap.size:=by have h9:=kW.size; first | exact h9 | (simp at h9 ⊢; omega) | simp
  have kW:=grow_step kL kW
  go_simp
  refine hK.out _ _ ?_ ?_
  ·(try dsimp only); exact tq3 x2 kW
  clear hK K hHeld; intro hHeld
  (try simp only [pz])
  generalize (wD).alloc (.cells #[.bool false,.slice none 0 0] 37) = wL4 at *
  refine wpAnyH_ready (rs:=[0,3]) k_f (by simp) ?_
  refine AllReadyH.cons (o:=⟨some 17,_,_,_,_,_⟩) rfl (fun K hK => ?_) ?_
  ·go_simp
   go_at_call 60; refine Calls.mono (zof_n 1 (by decide) (by decide) _) ?_; rintro e wA ⟨sA,aA,lA,cA,rfl,hzA,kA,hlA⟩
   have z4:=z4.below kA
   have kW:=grow_step kA kW
   (try go_wp2_with fail)
   refine hK.out _ _ ?_ ?_
   ·(try dsimp only); exact tq3 x2 kW
   clear hK K hHeld; intro hHeld
   (try simp only [pz])
   refine wpAnyH_ready (rs:=[2,3]) k_f (by simp) ?_
   refine AllReadyH.cons (o:=⟨some 19,_,_,_,_,_⟩) rfl (fun K hK => ?_) ?_
   ·go_simp
    go_at_call 97; refine Calls.mono (common_n (N0:=[]) (m:=0) (B:=B + n + 1) (Below.refl _ _) (Pr.below (hPn.out.pr.mono o_m) kW) (World.ownsRow_nil _ _ _ _) rfl (fun x hx => by cases hx) o_m o_m o_m) ?_; rintro e wB ⟨sB,aB,lB,cB,rfl,hzB,hlB,kB⟩
    have z4:=z4.below kB
    have hzA:=hzA.below kB
    have kW:=grow_step kB kW
    (try go_wp2_with fail)
    refine hK.out _ _ ?_ ?_
    ·(try dsimp only); exact tq3 x2 kW
    clear hK K hHeld; intro hHeld
    (try simp only [pz])
    refine ryz 3 (some 3) (fun K hK => ?_) ?_
    ·have kL:=below_alloc (wB) (.cells #[.bool false,.slice none 0 0] 37)
     have hne : wB.heap.size ≠ wD.heap.size:=by have h9:=z4.lt; first | omega | (simp at h9 ⊢; omega) | (simp at h9 ⊢)
     have z4:=z4.below kL
     have hzA:=hzA.below kL
     have hzB:=hzB.below kL
     have z3 : ZB ((wB).alloc (.cells #[.bool false,.slice none 0 0] 37)) (wB.heap.size) false none 0 0:=(by simpa using zb_new (wB) false none 0 0)
     have hb3 : w2.heap.size≤wB.heap.size:=by have h9:=kW.size; first | exact h9 | (simp at h9 ⊢; omega) | simp
     have kW:=grow_step kL kW
     go_simp
     refine hK.out _ _ ?_ ?_
     ·(try dsimp only); exact tq3 x2 kW
     clear hK K hHeld; intro hHeld
     (try simp only [pz])
     generalize (wB).alloc (.cells #[.bool false,.slice none 0 0] 37) = wL3 at *
     refine ryz 5 none (fun K hK => ?_) ?_
     ·have f0:=z3.c0
      have f1:=z3.c1
      have f2:=z3.f 0
      have f3:=z3.f 1
      go_simp
      have hzA:=zb_zn z3 hzA sA aA lA cA
      have hzB:=zb_zn z3 hzB sA aA lA cA
      have z4:=z4.only (only2 _ _ (.bool sA) (.slice aA lA cA)) hne.symm
      have z3:=zb_fin z3 sA aA lA cA
      have kW:=(kW.setCell (p:=⟨wB.heap.size,0,none⟩) hb3 (.bool sA)).setCell (p:=⟨wB.heap.size,1,none⟩) hb3 (.slice aA lA cA)
      refine hK.out _ _ ?_ ?_
      ·(try dsimp only); exact tq3 x2 kW
      clear hK K hHeld; intro hHeld
      (try simp only [pz])
      refine ryz 6 none (fun K hK => ?_) ?_
      ·have f0:=z4.c0
       have f1:=z4.c1
       have f2:=z4.f 0
       have f3:=z4.f 1
       go_simp
       have hzA:=zb_zn z4 hzA sB aB lB cB
       have hzB:=zb_zn z4 hzB sB aB lB cB
       have z3:=z3.only (only2 _ _ (.bool sB) (.slice aB lB cB)) hne
       have z4:=zb_fin z4 sB aB lB cB
       have kW:=(kW.setCell (p:=⟨wD.heap.size,0,none⟩) hb4 (.bool sB)).setCell (p:=⟨wD.heap.size,1,none⟩) hb4 (.slice aB lB cB)
       refine hK.out _ _ ?_ ?_
       ·(try dsimp only); exact tq3 x2 kW
       clear hK K hHeld; intro hHeld
       (try simp only [pz])
       refine wpAnyH_done k_f ?_ _
       exact ⟨rfl,_,_,sA,aA,lA,cA,sB,aB,lB,cB,rfl,z3,z4,hzA,hlA,hzB,hlB,hne,hb3,hb4,kW⟩
      exact AllReadyH.nil
     exact AllReadyH.nil
    exact AllReadyH.nil
   refine AllReadyH.cons (o:=⟨some 3,_,_,_,_,_⟩) rfl (fun K hK => ?_) ?_
   ·have kL:=below_alloc (wA) (.cells #[.bool false,.slice none 0 0] 37)
    have hne : wA.heap.size ≠ wD.heap.size:=by have h9:=z4.lt; first | omega | (simp at h9 ⊢; omega) | (simp at h9 ⊢)
    have z4:=z4.below kL
    have hzA:=hzA.below kL
    have z3 : ZB ((wA).alloc (.cells #[.bool false,.slice none 0 0] 37)) (wA.heap.size) false none 0 0:=(by simpa using zb_new (wA) false none 0 0)
    have hb3 : w2.heap.size≤wA.heap.size:=by have h9:=kW.size; first | exact h9 | (simp at h9 ⊢; omega) | simp
    have kW:=grow_step kL kW
    go_simp
    refine hK.out _ _ ?_ ?_
    ·(try dsimp only); exact tq3 x2 kW
    clear hK K hHeld; intro hHeld
    (try simp only [pz])
    generalize (wA).alloc (.cells #[.bool false,.slice none 0 0] 37) = wL3 at *
    refine ryz 2 (some 19) (fun K hK => ?_) ?_
    ·go_simp
     go_at_call 97; refine Calls.mono (common_n (N0:=[]) (m:=0) (B:=B + n + 1) (Below.refl _ _) (Pr.below (hPn.out.pr.mono o_m) kW) (World.ownsRow_nil _ _ _ _) rfl (fun x hx => by cases hx) o_m o_m o_m) ?_; rintro e wB ⟨sB,aB,lB,cB,rfl,hzB,hlB,kB⟩
     have z3:=z3.below kB
     have z4:=z4.below kB
     have hzA:=hzA.below kB
     have kW:=grow_step kB kW
     (try go_wp2_with fail)
     refine hK.out _ _ ?_ ?_
     ·(try dsimp only); exact tq3 x2 kW
     clear hK K hHeld; intro hHeld
     (try simp only [pz])
     refine ryz 5 none (fun K hK => ?_) ?_
     ·have f0:=z3.c0
      have f1:=z3.c1
      have f2:=z3.f 0
      have f3:=z3.f 1
      go_simp
      have hzA:=zb_zn z3 hzA sA aA lA cA
      have hzB:=zb_zn z3 hzB sA aA lA cA
      have z4:=z4.only (only2 _ _ (.bool sA) (.slice aA lA cA)) hne.symm
      have z3:=zb_fin z3 sA aA lA cA
      have kW:=(kW.setCell (p:=⟨wA.heap.size,0,none⟩) hb3 (.bool sA)).setCell (p:=⟨wA.heap.size,1,none⟩) hb3 (.slice aA lA cA)
      refine hK.out _ _ ?_ ?_
      ·(try dsimp only); exact tq3 x2 kW
      clear hK K hHeld; intro hHeld
      (try simp only [pz])
      refine ryz 6 none (fun K hK => ?_) ?_
      ·have f0:=z4.c0
       have f1:=z4.c1
       have f2:=z4.f 0
       have f3:=z4.f 1
       go_simp
       have hzA:=zb_zn z4 hzA sB aB lB cB
       have hzB:=zb_zn z4 hzB sB aB lB cB
       have z3:=z3.only (only2 _ _ (.bool sB) (.slice aB lB cB)) hne
       have z4:=zb_fin z4 sB aB lB cB
       have kW:=(kW.setCell (p:=⟨wD.heap.size,0,none⟩) hb4 (.bool sB)).setCell (p:=⟨wD.heap.size,1,none⟩) hb4 (.slice aB lB cB)
       refine hK.out _ _ ?_ ?_
       ·(try dsimp only); exact tq3 x2 kW
       clear hK K hHeld; intro hHeld
       (try simp only [pz])
       refine wpAnyH_done k_f ?_ _
       exact ⟨rfl,_,_,sA,aA,lA,cA,sB,aB,lB,cB,rfl,z3,z4,hzA,hlA,hzB,hlB,hne,hb3,hb4,kW⟩
      exact AllReadyH.nil
     exact AllReadyH.nil
    exact AllReadyH.nil
   exact AllReadyH.nil
  refine AllReadyH.cons (o:=⟨some 3,_,_,_,_,_⟩) rfl (fun K hK => ?_) ?_
  ·have kL:=below_alloc (wL4) (.cells #[.bool false,.slice none 0 0] 37)
   have hne : wL4.heap.size ≠ wD.heap.size:=by have h9:=z4.lt; first | omega | (simp at h9 ⊢; omega) | (simp at h9 ⊢)
   have z4:=z4.below kL
   have z3 : ZB ((wL4).alloc (.cells #[.bool false,.slice none 0 0] 37)) (wL4.heap.size) false none 0 0:=(by simpa using zb_new (wL4) false none 0 0)
   have hb3 : w2.heap.size≤wL4.heap.size:=by have h9:=kW.size; first | exact h9 | (simp at h9 ⊢; omega) | simp
   have kW:=grow_step kL kW
   go_simp
   refine hK.out _ _ ?_ ?_
   ·(try dsimp only); exact tq3 x2 kW
   clear hK K hHeld; intro hHeld
   (try simp only [pz])
   generalize (wL4).alloc (.cells #[.bool false,.slice none 0 0] 37) = wL3 at *
   refine ryz 0 (some 17) (fun K hK => ?_) ?_
   ·go_simp
    go_at_call 60; refine Calls.mono (zof_n 1 (by decide) (by decide) _) ?_; rintro e wA ⟨sA,aA,lA,cA,rfl,hzA,kA,hlA⟩
    have z3:=z3.below kA
    have z4:=z4.below kA
    have kW:=grow_step kA kW
    (try go_wp2_with fail)
    refine hK.out _ _ ?_ ?_
    ·(try dsimp only); exact tq3 x2 kW
    clear hK K hHeld; intro hHeld
    (try simp only [pz])
    refine ryz 2 (some 19) (fun K hK => ?_) ?_
    ·go_simp
     go_at_call 97; refine Calls.mono (common_n (N0:=[]) (m:=0) (B:=B + n + 1) (Below.refl _ _) (Pr.below (hPn.out.pr.mono o_m) kW) (World.ownsRow_nil _ _ _ _) rfl (fun x hx => by cases hx) o_m o_m o_m) ?_; rintro e wB ⟨sB,aB,lB,cB,rfl,hzB,hlB,kB⟩
     have z3:=z3.below kB
     have z4:=z4.below kB
     have hzA:=hzA.below kB
     have kW:=grow_step kB kW
     (try go_wp2_with fail)
     refine hK.out _ _ ?_ ?_
     ·(try dsimp only); exact tq3 x2 kW
     clear hK K hHeld; intro hHeld
     (try simp only [pz])
     refine ryz 5 none (fun K hK => ?_) ?_
     ·have f0:=z3.c0
      have f1:=z3.c1
      have f2:=z3.f 0
      have f3:=z3.f 1
      go_simp
      have hzA:=zb_zn z3 hzA sA aA lA cA
      have hzB:=zb_zn z3 hzB sA aA lA cA
      have z4:=z4.only (only2 _ _ (.bool sA) (.slice aA lA cA)) hne.symm
      have z3:=zb_fin z3 sA aA lA cA
      have kW:=(kW.setCell (p:=⟨wL4.heap.size,0,none⟩) hb3 (.bool sA)).setCell (p:=⟨wL4.heap.size,1,none⟩) hb3 (.slice aA lA cA)
      refine hK.out _ _ ?_ ?_
      ·(try dsimp only); exact tq3 x2 kW
      clear hK K hHeld; intro hHeld
      (try simp only [pz])
      refine ryz 6 none (fun K hK => ?_) ?_
      ·have f0:=z4.c0
       have f1:=z4.c1
       have f2:=z4.f 0
       have f3:=z4.f 1
       go_simp
       have hzA:=zb_zn z4 hzA sB aB lB cB
       have hzB:=zb_zn z4 hzB sB aB lB cB
       have z3:=z3.only (only2 _ _ (.bool sB) (.slice aB lB cB)) hne
       have z4:=zb_fin z4 sB aB lB cB
       have kW:=(kW.setCell (p:=⟨wD.heap.size,0,none⟩) hb4 (.bool sB)).setCell (p:=⟨wD.heap.size,1,none⟩) hb4 (.slice aB lB cB)
       refine hK.out _ _ ?_ ?_
       ·(try dsimp only); exact tq3 x2 kW
       clear hK K hHeld; intro hHeld
       (try simp only [pz])
       refine wpAnyH_done k_f ?_ _
       exact ⟨rfl,_,_,sA,aA,lA,cA,sB,aB,lB,cB,rfl,z3,z4,hzA,hlA,hzB,hlB,hne,hb3,hb4,kW⟩
      exact AllReadyH.nil
     exact AllReadyH.nil
    exact AllReadyH.nil
   exact AllReadyH.nil
  exact AllReadyH.nil
 exact AllReadyH.nil

theorem rconst6_n {b : Bool} :
  Calls Tryz.prog 118 #[.bool b] w fun e w' => e = .returned (.agg #[.int .i64 (if b then 1 else 0),.bool false,.slice none 0 0,.slice none 0 0,.bool false,.slice none 0 0])∧Below w.heap.size w w':=by
 go_enter Tryz.func118,Tryz.ntmps118
 have kb : ∀ v,Hid (Below w.heap.size w (w.alloc (.cells #[.int .i64 v,.bool false,.slice none 0 0,.slice none 0 0,.bool false,.slice none 0 0] 42))):=fun _ => below_alloc w _
 have hn : ∀ v,Hid ((w.alloc (.cells #[.int .i64 v,.bool false,.slice none 0 0,.slice none 0 0,.bool false,.slice none 0 0] 42)).heap[w.heap.size]? = some (.cells #[.int .i64 v,.bool false,.slice none 0 0,.slice none 0 0,.bool false,.slice none 0 0] 42 (0,0))):=fun _ => heap_alloc_new w _
 replace hn:=hide hn
 replace kb:=hide kb
 cases b
 ·go_wp2
  refine bodyPost_ret (results_cell_row rfl _ _ w.heap.size 42 _ (0,0) _ rfl (hn.out 0).out Tryz.underlying42 rfl k_f) rfl ?_
  exact ⟨by simp,(kb.out 0).out⟩
 go_wp2
 refine bodyPost_ret (results_cell_row rfl _ _ w.heap.size 42 _ (0,0) _ rfl (hn.out 1).out Tryz.underlying42 rfl k_f) rfl ?_
 exact ⟨by simp,(kb.out 1).out⟩

theorem coefs_n (hP : Pr w ad n ps B) (hn : n≤262144) :
  Calls Tryz.prog 120 #[.agg #[.slice ad n cp,.bool s,.slice a l c]] w fun e w' => ∃ (v : Value) (N : List Raw),e = .returned v∧w'.ownsRow w.heap.size 37 2 v n (N.flatMap encN)∧N.length = n∧(∀ x ∈ N,okN w B x)∧N.map Raw.z = ps.map Prod.snd∧Below w.heap.size w w':=by
 go_enter Tryz.func120,Tryz.ntmps120
 go_wp2_with fail
 have x:=tb_new w ad n cp s a l c
 have b1:=below_alloc w (.cells #[.slice ad n cp,.bool s,.slice a l c] 40)
 have hrow1 : (w.alloc (.cells #[.slice ad n cp,.bool s,.slice a l c] 40)).ownsRow w.heap.size 37 2 (.slice none 0 0) 0 ([] : List Value):=⟨rfl,.inl ⟨rfl,rfl⟩⟩
 have hpb : Hid (w.heap.size≤w.heap.size):=Nat.le_refl w.heap.size
 generalize w.alloc (.cells #[.slice ad n cp,.bool s,.slice a l c] 40) = wb at *
 have hps:=hP.1
 obtain ⟨i0,hi,iz0,iz1,iz2⟩:=info_parts info2
 generalize hp : w.heap.size = p at *
 replace hp:=hide hp
 go_loopw [3,4] (fun vv i wr => ∃ (t : Nat) (N : List Raw),t≤n∧i = .int .i64 t∧N.length = t∧wr.ownsRow w.heap.size 37 2 vv t (N.flatMap encN)∧Hid (∀ x ∈ N,okN w B x)∧Hid (N.map Raw.z = (ps.take t).map Prod.snd)∧Below w.heap.size w wr∧Hid (TB wr p ad n cp s a l c)∧Hid (∀ g,vv.ownBlock = some g→g ≠ p)) (fun _ i _ => n - (intOf i).toNat)
 case atStart => exact ⟨0,[],Nat.zero_le _,rfl,rfl,hp.out.symm ▸ hrow1,(fun x hx => by cases hx),(show _ = _ by simp),hp.out.symm ▸ b1,x,(fun g e => by cases e)⟩
 case round =>
  obtain ⟨t,N,ht,rfl,hN,hrow,hok,hNz,kr,yr,hob⟩:=hrel
  have u0:=yr.out.c0
  by_cases htn : t < n
  ·obtain ⟨hps2,hP2⟩:=hP
   rcases hP2 with hP2 | ⟨bp,op,rfl,hP2⟩
   ·omega
   obtain ⟨s2,a2,l2,c2,e0,e1,e2,hz2,hl2,hv⟩:=(hP2.below kr).2 t o_m
   obtain ⟨s3,a3,l3,c3,f0,f1,f2,hz3,hl3, -⟩:=hP2.2 t o_m
   have hps' : Hid (ps.take (t + 1) = ps.take t ++ [ps[t]]):=List.take_succ_eq_append_getElem (l:=ps) (i:=t) o_m
   have hsame : s2 = s3∧a2 = a3∧l2 = l3∧c2 = c3:=by
    have g1:=e1.symm.trans ((kr.cell (p:=⟨bp,op + t * 3 + 1,none⟩) hP2.1).trans f1)
    have g2:=e2.symm.trans ((kr.cell (p:=⟨bp,op + t * 3 + 2,none⟩) hP2.1).trans f2)
    simp at g1 g2
    exact ⟨g1,g2.1,g2.2.1,g2.2.2⟩
   obtain ⟨rfl,rfl,rfl,rfl⟩:=hsame
   clear f0 f1 f2
   generalize ps[t] = pp at *
   have hbase:=hide (show w.heap.size≤wr.heap.size from kr.size)
   have kb:=below_alloc wr (.cells #[.bool s2,.slice a2 l2 c2] 37)
   have kab:=hide kb
   clear kb
   go_wp2_with (at_builtin; refine wpList_append_own_at _ rfl _ _ 116 rfl w.heap.size 37 i0 _ 2 32 Tryz.underlying116 hi iz0 iz1 iz2 rfl (by decide) _ _ _ rfl (hrow.alloc _) ⟨wr.heap.size,0,none⟩ 1 1 [.bool s2,.slice a2 l2 c2] rfl rfl (by simpa using two_new wr s2 a2 l2 c2) (two_one _ _ _ _) (by unfold maxLen; omega) o_m (by have:=hbase.out; simp; omega) ?_; intro v' w4 hown' hgrow hnil hat')
   have k4 : Below w.heap.size w w4:=(grow_step kab.out kr).grown hgrow (grow_step kab.out kr).size (fun k e => (hrow.lt k e).1)
   have hrl:=yr.out.lt
   have y4 : Hid (TB w4 p (some ⟨bp,op,none⟩) n cp s a l c):=(hgrow.block p (by simp; omega) (fun e => hob.out p e.symm rfl)).trans ((kab.out.block p hrl).trans yr.out)
   have hob4 : Hid (∀ g,v'.ownBlock = some g→g ≠ p):=(fun g e => by
    rcases hat' with h | h
    ·exact hob.out g (h.symm.trans e)
    rw [h] at e
    simp at e
    omega)
   refine ⟨⟨t + 1,N ++ [⟨pp.1,s2,a2,l2,c2,pp.2⟩],by omega,by go_num,by simp; omega,?_,?_,?_,k4,y4,hob4⟩,by simp [intOf]; omega⟩
   ·rw [List.flatMap_append]
    exact hown'
   ·exact fun x hx => (List.mem_append.1 hx).elim (hok.out x) (fun h => by rw [List.mem_singleton.1 h]; exact ⟨hz3,hl3⟩)
   show _ = _
   rw [List.map_append,hNz.out,hps'.out,List.map_append]
   rfl
  obtain rfl : t = n:=by omega
  rw [List.take_of_length_le (Nat.le_of_eq hps)] at hNz
  replace kr:=hide kr
  replace hrow:=hide hrow
  go_wp2
  go_ret
  exact ⟨_,N,rfl,hrow.out,hN,hok.out,hNz.out,kr.out⟩
end Go.Proofs.YtcfmkjegolpgaaaGreatDoor

namespace Go.Proofs.YtcfmkjegolpgaaaGreatDoor.At
open Tm

def mapP (F : Int→Int) (qs : List (Int × Int)) : List (Int × Int):=qs.map fun q => (q.1,F q.2)
theorem csum_eachP (F : Int→Int) (qs : List (Int × Int)) (v : Int) : csum (eachP F qs) v = csum (mapP F qs) v:=by
 induction qs with
 | nil => rfl
 | cons q qs ih =>
  rw [eachP_cons]
  by_cases h : F q.2 = 0
  ·rw [if_pos h,ih]
   simp [mapP,csum,h]
  rw [if_neg h]
  simp only [mapP,List.map_cons,csum] at ih ⊢
  rw [ih]
theorem nz_mapP {F : Int→Int} {qs : List (Int × Int)} (h : Std qs) : nz (lays [] (mapP F qs)) = eachP F qs :=
 (lays_eq (eachP_std h) fun v => csum_eachP F qs v).symm
theorem eachP_mapP {F : Int→Int} {qs : List (Int × Int)} (h : ∀ q ∈ qs,F q.2 ≠ 0) : eachP F qs = mapP F qs:=eachP_ne h
theorem gcdZ_snoc (qs : List (Int × Int)) (m : Int) : gcdZ (qs.map Prod.snd ++ [m]) = gcdL m.natAbs qs:=by
 have e : gcdZ (qs.map Prod.snd ++ [m]) = gcdL 0 (qs ++ [(0,m)]):=by
  unfold gcdZ gcdL
  rw [List.foldl_append,List.foldl_append,List.foldl_map]
  rfl
 rw [e]
 refine gcdL_eq fun d => ⟨fun ⟨_,h⟩ => ⟨?_,fun q hq => h q (by simp [hq])⟩,fun ⟨h1,h2⟩ => ⟨⟨0,rfl⟩,fun q hq => ?_⟩⟩
 ·exact Int.natCast_dvd_natCast.1 (Int.dvd_natAbs.2 (h (0,m) (by simp)))
 rcases List.mem_append.1 hq with hq | hq
 ·exact h2 q hq
 obtain rfl:=List.mem_singleton.1 hq
 exact Int.dvd_natAbs.1 (Int.natCast_dvd_natCast.2 h1)
theorem gcdZ_all (qs : List (Int × Int)) : gcdZ (qs.map Prod.snd) = gcdL 0 qs:=by
 unfold gcdZ gcdL
 rw [List.foldl_map]
end Go.Proofs.YtcfmkjegolpgaaaGreatDoor.At

namespace Go.Proofs.YtcfmkjegolpgaaaGreatDoor
open Go.RowKit Go.Sort Go.Shelf
open Tm At

theorem mapP_snoc (F : Int→Int) (qs : List (Int × Int)) (q : Int × Int) : mapP F (qs ++ [q]) = mapP F qs ++ [(q.1,F q.2)]:=by simp [mapP]
theorem anyH_append {P : Program} {w : World} {o : Oper} {a : Act} {K : Act→World→Prop} {Q : Exit→Act→World→Prop} {ys : Nat→Option Bool} (hgd : o.guard = none) (s x : Operand) (t : TypeId)
  (ho : o.op = .call { callee:=.builtin .append,args:=#[s,x],argTypes:=#[t,t] }) (v1 v2 : Value) (hs : a.eval s = v1) (hx : a.eval x = v2) (F : Value→World→Prop)
  (hr : ∃ v' w',(Builtin.append_ #[t,t] o.type #[v1,v2]).run P w = .ok v' w'∧F v' w')
  (h : ∀ v' w',F v' w'→K (a.put o.dst v') w') : if Region.wanted o ys = true then Oper.wp P o a w K Q else K (a.put o.dst undef) w:=by
 obtain ⟨v',w',hr,hF⟩:=hr
 rw [if_pos (by simp [Region.wanted,hgd])]
 unfold Oper.wp execOp
 simp only [ho,resolve,invoke,builtin,Sem.run_bind,Sem.run_pure,Result.andThen_ok,List.map_toArray,List.map_cons,List.map_nil,hs,hx,hr]
 exact h v' w' hF
theorem nk2 {wo w' : World} {p q o bp f t : Nat} {ad : Option Addr} {n cp : Nat} {s : Bool} {a : Option Addr} {l c : Nat} {u0 u1 u2 : Value} {s2 : Bool} {a2 : Option Addr} {l2 c2 : Nat} (x : TB wo p ad n cp s a l c) (hpo : p ≠ o) (g0 : wo.cell? ⟨bp,f + t * 3,none⟩ = some u0) (g1 : wo.cell? ⟨bp,f + t * 3 + 1,none⟩ = some u1) (g2 : wo.cell? ⟨bp,f + t * 3 + 2,none⟩ = some u2) (hb : bp < wo.heap.size) (hbo : bp ≠ o) (z : ZB wo q s2 a2 l2 c2) (hqo : q ≠ o) (hg : wo.grownBy w' (some o)) :
  w'.cell? ⟨p,0,none⟩ = some (.slice ad n cp)∧w'.cell? ⟨bp,f + t * 3,none⟩ = some u0∧w'.cell? ⟨bp,f + t * 3 + 1,none⟩ = some u1∧w'.cell? ⟨bp,f + t * 3 + 2,none⟩ = some u2∧w'.cell? ⟨q,0,none⟩ = some (.bool s2)∧w'.cell? ⟨q,1,none⟩ = some (.slice a2 l2 c2)∧wo.grownBy w' (some o):=by
 obtain ⟨h1,h2,h3,h4,h5⟩:=nk x hpo g0 g1 g2 hb hbo hg
 have z' : ZB w' q s2 a2 l2 c2:=(hg.block q z.lt (by simpa using hqo)).trans z
 exact ⟨h1,h2,h3,h4,z'.c0,z'.c1,h5⟩


theorem sk5 {wb w' : World} {p q bp f t : Nat} {ad : Option Addr} {n cp : Nat} {s : Bool} {a : Option Addr} {l c : Nat} {u0 u1 u2 : Value} {s2 : Bool} {a2 : Option Addr} {l2 c2 : Nat} (x : TB wb q ad n cp s a l c) (z : ZB wb p s2 a2 l2 c2) (g0 : wb.cell? ⟨bp,f + t * 3,none⟩ = some u0) (g1 : wb.cell? ⟨bp,f + t * 3 + 1,none⟩ = some u1) (g2 : wb.cell? ⟨bp,f + t * 3 + 2,none⟩ = some u2) (hb : bp < wb.heap.size) (k : Below wb.heap.size wb w') :
  w'.cell? ⟨q,0,none⟩ = some (.slice ad n cp)∧w'.cell? ⟨bp,f + t * 3,none⟩ = some u0∧w'.cell? ⟨bp,f + t * 3 + 1,none⟩ = some u1∧w'.cell? ⟨bp,f + t * 3 + 2,none⟩ = some u2∧w'.cell? ⟨p,0,none⟩ = some (.bool s2)∧w'.cell? ⟨p,1,none⟩ = some (.slice a2 l2 c2)∧Below wb.heap.size wb w' :=
 ⟨(x.below k).c0,(k.cell (p:=⟨bp,f + t * 3,none⟩) hb).trans g0,(k.cell (p:=⟨bp,f + t * 3 + 1,none⟩) hb).trans g1,(k.cell (p:=⟨bp,f + t * 3 + 2,none⟩) hb).trans g2,(z.below k).c0,(z.below k).c1,k⟩

end Go.Proofs.YtcfmkjegolpgaaaGreatDoor
