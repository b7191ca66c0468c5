/-
 Several texts in one: YP,YS,B3,B4,B5,B6,G8,B7,BB,BD,BG,BF,BH,BI,BK,BJ,BL,BM,BN,BC,B8,B9.
-/
import Derived.Test.YtepdckgfolkjjaaGreatDoorS21
import Derived.Test.YtepdckgfolkjjaaGreatDoorS22
import Derived.Test.YtepdckgfolkjjaaGreatDoorS20
import Derived.Test.YtepdckgfolkjjaaGreatDoorS09
import Derived.Test.YtepdckgfolkjjaaGreatDoorS13
import Derived.Test.YtepdckgfolkjjaaGreatDoorS12
import Derived.Test.YtepdckgfolkjjaaGreatDoorS19
import Derived.Test.YtepdckgfolkjjaaGreatDoorS18
import Derived.Test.YtepdckgfolkjjaaGreatDoorS16
import Derived.Test.YtepdckgfolkjjaaGreatDoorS15
namespace Go.Proofs.YtepdckgfolkjjaaGreatDoor
open Go.RowKit Go.Sort Go.Shelf
open Tm

variable {w : World} {ad : Option Addr} {n B : Nat} {ps : List (Int × Int)}
open Classical in
theorem pn_px (h : Pn w ad n ps B) (hS : Std ps) : ∃ X,PX w ad n X B∧VX X:=by
 obtain ⟨hn,h2⟩:=h
 rcases h2 with h2 | ⟨b,off,e,hlt,h2⟩
 ·exact ⟨(List.range n).map fun _ => (0,false,[]),⟨by simp,.inl h2⟩,fun i hi => by simp at hi; omega⟩
 ·have hx : ∀ i,∃ x : Int × Bool × List Int,(h : i < ps.length)→x.1 = (ps[i]).1∧okX x∧∃ a l c,w.cell? ⟨b,off + i * 3,none⟩ = some (.int .i64 x.1)∧w.cell? ⟨b,off + i * 3 + 1,none⟩ = some (.bool x.2.1)∧w.cell? ⟨b,off + i * 3 + 2,none⟩ = some (.slice a l c)∧Rd w a l c x.2.2∧l≤B∧I64 x.1:=fun i => by
   by_cases hi : i < ps.length
   ·obtain ⟨s,a,l,c,e0,e1,e2,hz,hl,hv⟩:=h2 i hi
    obtain ⟨xs,hr,hst,hval⟩:=hz.stands
    refine ⟨((ps[i]).1,s,xs),fun _ => ⟨rfl,⟨by rw [hr.1]; exact hst,fun h0 => ?_⟩,a,l,c,e0,e1,e2,hr,hl,hv⟩⟩
    exact hS.2 _ (List.getElem_mem hi) (hval.symm.trans (sg_zero.2 h0))
   ·exact ⟨(0,false,[]),fun h => absurd h hi⟩
  refine ⟨(List.range n).map fun i => Classical.choose (hx i),⟨by simp,.inr ⟨b,off,e,hlt,fun i hi => ?_⟩⟩,fun i hi => ?_⟩
  ·rw [gx_range hi]
   exact (Classical.choose_spec (hx i) (by omega)).2.2
  ·have hi' : i < n:=by simpa using hi
   rw [gx_range hi',gx_range (by omega)]
   have h3:=Classical.choose_spec (hx i) (by omega)
   refine ⟨h3.2.1,fun h0 => ?_⟩
   have h4:=Classical.choose_spec (hx (i - 1)) (by omega)
   rw [h3.1,h4.1]
   exact List.pairwise_iff_getElem.1 hS.1 (i - 1) i (by omega) (by omega) (by omega)
theorem TN.pn {w' : World} {s : Bool} {a : Option Addr} {l c : Nat} {rs : List Raw} {k : Int} (h : TN w w' ad n s a l c rs k B) : Pn w' ad n (rs.map Raw.p) B:=by
 obtain ⟨w1,h1,h2,⟨h3,h4⟩,_⟩:=h
 refine ⟨by simpa using h3,?_⟩
 rcases h4 with ⟨_,h4⟩ | ⟨g,e,hg,hlt,h4⟩
 ·exact .inl h4
 ·refine .inr ⟨g,0,e,hlt,fun i hi => ?_⟩
  have hi' : i < rs.length:=by simpa using hi
  obtain ⟨⟨c0,c1,c2⟩,_,hz,hl,hv⟩:=h4 i hi'
  rw [List.getElem_map,Nat.zero_add]
  exact ⟨_,_,_,_,c0,c1,c2,hz.below h2,hl,hv⟩

theorem std_lays (ps : List (Int × Int)) : Std (nz (lays [] ps)):=std_nz (rise_lays ps (by simp [Rise]))
theorem csum_nzl (ps : List (Int × Int)) (v : Int) : csum (nz (lays [] ps)) v = csum ps v:=by rw [csum_nz,csum_lays]; simp [csum]
theorem lays_eq {qs : List (Int × Int)} (h : Std qs) (hc : ∀ v,csum qs v = csum ps v) : qs = nz (lays [] ps):=std_unique h (std_lays ps) fun v => (hc v).trans (csum_nzl ps v).symm
theorem Pn.tb {w' : World} {p : Nat} {ad0 : Option Addr} {n0 cp0 : Nat} {s0 : Bool} {a0 : Option Addr} {l0 c0 : Nat} (h : Pn w ad n ps B) (y : TB w p ad0 n0 cp0 s0 a0 l0 c0) (hg : w.grownBy w' (some p)) : Pn w' ad n ps B:=by
 refine ⟨h.1,?_⟩
 rcases h.2 with h2 | ⟨b,off,e,hb,h2⟩
 ·exact .inl h2
 ·by_cases h0 : ps.length = 0
  ·exact .inl (h.1.symm.trans h0)
  ·refine .inr ⟨b,off,e,Nat.lt_of_lt_of_le hb hg.size,fun i hi => ?_⟩
   obtain ⟨s,a,l,c,e0,e1,e2,hz,hl⟩:=h2 i hi
   have hne : b ≠ p:=by
    intro e
    subst e
    rw [cell_of_row w b _ _ _ (0,0) y] at e0
    match hk : off + i * 3,e0 with
    | 0,e0 => simp at e0
    | 1,e0 => simp at e0
    | 2,e0 => simp at e0
    | k + 3,e0 => simp at e0
   have eb : w'.heap[b]? = w.heap[b]?:=hg.block b hb (by simpa using hne)
   exact ⟨s,a,l,c,(World.cell?_of_block (a:=⟨b,off + i * 3,none⟩) eb).trans e0,(World.cell?_of_block (a:=⟨b,off + i * 3 + 1,none⟩) eb).trans e1,(World.cell?_of_block (a:=⟨b,off + i * 3 + 2,none⟩) eb).trans e2,hz.grownU hg (tb_noU y),hl⟩
theorem ordL_self (ps : List (Int × Int)) : ordL ps ps = 0:=by
 induction ps with
 | nil => rfl
 | cons p ps ih => simp [ordL,ordQ,cmpI_self,ih]
theorem ordT_self (ps : List (Int × Int)) (k : Int) : ordT ps ps k k = 0:=by simp [ordT,ordL_self,cmpI_self]

set_option maxRecDepth 100000 in
set_option maxHeartbeats 1600000 in
theorem rconst5_n {s : Bool} {a : Option Addr} {l c : Nat} {k : Int} (hz : Zm w s a l c k) (hl : l≤1099511627776) :
  Calls Tryz.prog 34 #[.agg #[.bool s,.slice a l c]] w fun e w' => ∃ s' a' l' c',e = .returned (.agg #[.slice none 0 0,.bool s',.slice a' l' c'])∧Zn w' s' a' l' c' k∧l'≤l∧Below w.heap.size w w':=by
 go_enter Tryz.func34,Tryz.ntmps34
 go_wp2_with fail
 have y:=tb_new (w.alloc (.cells #[.bool s,.slice a l c] 24)) none 0 0 false none 0 0
 have b0 : Below w.heap.size w ((w.alloc (.cells #[.bool s,.slice a l c] 24)).alloc (.cells #[.slice none 0 0,.bool false,.slice none 0 0] 27)):=below_alloc' (below_alloc _ _) _
 rw [show (w.alloc (.cells #[.bool s,.slice a l c] 24)).heap.size = w.heap.size + 1 from by simp] at y
 generalize (w.alloc (.cells #[.bool s,.slice a l c] 24)).alloc (.cells #[.slice none 0 0,.bool false,.slice none 0 0] 27) = wb at *
 have hr : w.heap.size≤w.heap.size + 1:=by omega
 generalize w.heap.size + 1 = r at *
 refine (rnorm_n (hz.below b0) hl).mono ?_
 rintro e w2 ⟨s',a',l',c',rfl,hz2,k2,hl2⟩
 have y':=y.below k2
 have y0:=y'.c0
 have y1:=y'.c1
 have y2:=y'.c2
 have y3:=y'.f 0
 have y4:=y'.f 1
 have y5:=y'.f 2
 have g:=tb_set w2 r (.slice none 0 0) (.bool s') (.slice a' l' c')
 have hz3:=hide (hz2.grownU g (tb_noU y'))
 have k3:=hide (below_grown (grow_step k2 b0) g hr)
 clear b0 k2 g
 go_wp2
 refine bodyPost_ret (results_cell_row rfl _ _ r 27 _ (0,0) _ rfl (tb_fin y' none 0 0 s' a' l' c') Tryz.underlying27 rfl (by kernel_rfl)) rfl ?_
 exact ⟨s',a',l',c',by simp,hz3.out,hl2,k3.out⟩

end Go.Proofs.YtepdckgfolkjjaaGreatDoor

namespace Go.Proofs.YtepdckgfolkjjaaGreatDoor
open Go.RowKit Go.Sort Go.Shelf
open Tm At


theorem getD_at {N : List Raw} {i : Nat} (h : i < N.length) : N.getD i zr = N[i]:=by simp [List.getElem?_eq_getElem h]
def encN (x : Raw) : List Value:=[.bool x.s,.slice x.a x.l x.c]
def okN (w : World) (B : Nat) (x : Raw) : Prop:=Zm w x.s x.a x.l x.c x.z∧x.l≤B
theorem okN.below {w w' : World} {B : Nat} {x : Raw} (h : okN w B x) (hb : Below w.heap.size w w') : okN w' B x:=⟨h.1.below hb,h.2⟩
theorem info2 : (Tryz.prog.info? 24).map (fun i => (i.zero,i.size,i.bytes)) = some (some (.agg #[.bool false,.slice none 0 0]),2,32):=by kernel_rfl
theorem two_one (s : Bool) (a : Option Addr) (l c : Nat) : ∀ u ∈ [Value.bool s,.slice a l c],u.oneCell' = true:=by
 intro u h
 simp at h
 rcases h with rfl | rfl <;> rfl
theorem two_new (w : World) (s : Bool) (a : Option Addr) (l c : Nat) : ∀ j u,[Value.bool s,.slice a l c][j]? = some u→(w.alloc (.cells #[.bool s,.slice a l c] 24)).cell? ((⟨w.heap.size,0,none⟩ : Addr).add j) = some u:=by
 intro j u h
 have y:=zb_new w s a l c
 match j,h with
 | 0,h => simp at h; subst h; exact y.c0
 | 1,h => simp at h; subst h; exact y.c1
 | j + 2,h => simp at h
theorem flatN_get (xs : List Raw) : ∀ (i c : Nat) (h : i < xs.length),c < 2→(xs.flatMap encN)[i * 2 + c]? = (encN (xs[i]))[c]?:=by
 induction xs with
 | nil => intro i c h; simp at h
 | cons x xs ih =>
  intro i c h hc
  rw [List.flatMap_cons]
  match i,h with
  | 0,_ => rw [List.getElem?_append_left (by simp [encN]; omega)]; simp
  | i + 1,h =>
   rw [List.getElem?_append_right (by simp [encN]; omega),show (i + 1) * 2 + c - (encN x).length = i * 2 + c by simp [encN]; omega]
   exact ih i c (by simpa using h) hc
theorem row_zl {w : World} {base n B : Nat} {v : Value} {N : List Raw} (h : w.ownsRow base 24 2 v n (N.flatMap encN)) (hn : N.length = n) (hok : ∀ x ∈ N,okN w B x) (hB : B≤4294967296) (h0 : 0 < w.heap.size) :
  ∃ (adl : Option Addr) (cap b : Nat),v = .slice adl n cap∧(0 < n→adl = some ⟨b,0,none⟩)∧ZL w b 0 n (fun i => (N.getD i zr).s) (fun i => (N.getD i zr).a) (fun i => (N.getD i zr).l) (fun i => (N.getD i zr).c) (fun i => ((N.getD i zr).z.natAbs : Int)):=by
 have hnm : ∀ i,i < n→Nm w (N.getD i zr).a (N.getD i zr).l (N.getD i zr).c ((N.getD i zr).z.natAbs : Int)∧(N.getD i zr).l≤4294967296:=fun i hi => by
  have hm : N.getD i zr ∈ N:=by rw [getD_at (by omega)]; exact List.getElem_mem _
  obtain ⟨⟨m,hN,hz⟩,hl⟩:=hok _ hm
  have h0:=hN.nonneg
  refine ⟨?_,by omega⟩
  rw [hz,show ((sg (N.getD i zr).s m).natAbs : Int) = m by cases (N.getD i zr).s <;> simp [sg] <;> omega]
  exact hN
 rcases h.2 with ⟨rfl,rfl⟩ | ⟨g,cap,cur,rfl,hg,hcur,hsz,hcap,hm,htake⟩
 ·exact ⟨none,0,0,rfl,fun h => by omega,⟨h0,fun i hi => by omega,fun i hi => by omega,fun i hi => by omega,fun i hi => by omega⟩⟩
 ·have hc : ∀ i c,i < n→c < 2→w.cell? ⟨g,0 + i * 2 + c,none⟩ = (encN (N.getD i zr))[c]?:=fun i c hi hc => by
   have e : (cur.toList.take (n * 2))[i * 2 + c]? = (encN (N.getD i zr))[c]?:=by rw [htake,flatN_get N i c (by omega) hc,getD_at (by omega)]
   rw [List.getElem?_take,if_pos (by omega)] at e
   rw [cell_of_row w g _ _ _ (0,0) hcur,Nat.zero_add]
   simpa using e
  refine ⟨_,cap,g,rfl,fun _ => rfl,⟨(Array.getElem?_eq_some_iff.1 hcur).1,fun i hi => by have:=hc i 0 hi (by omega); simpa [encN] using this,fun i hi => by have:=hc i 1 hi (by omega); simpa [encN] using this,fun i hi => (hnm i hi).1,fun i hi => (hnm i hi).2⟩⟩
def gcdZ (zs : List Int) : Nat:=zs.foldl (fun g z => Nat.gcd g z.natAbs) 0
theorem fold_gcd (N : List Raw) : ∀ n,n≤N.length→fold gcdI 0 (fun i => ((N.getD i zr).z.natAbs : Int)) n = (gcdZ ((N.take n).map Raw.z) : Int):=by
 intro n
 induction n with
 | zero => intro _; rfl
 | succ n ih =>
  intro h
  rw [List.take_succ_eq_append_getElem (by omega),List.map_append]
  simp only [fold]
  rw [ih (by omega)]
  unfold gcdZ
  rw [List.foldl_append]
  simp only [List.map_cons,List.map_nil,List.foldl_cons,List.foldl_nil]
  unfold gcdI
  rw [Int.toNat_natCast,Int.toNat_natCast,getD_at (by omega)]
theorem foldL_le (N : List Raw) (B : Nat) (h : ∀ x ∈ N,x.l≤B) : ∀ n,n≤N.length→foldL 2 (fun i => (N.getD i zr).l) n≤n * B + 2:=by
 intro n
 induction n with
 | zero => intro _; simp [foldL]
 | succ n ih =>
  intro hn
  simp only [foldL]
  have h1:=ih (by omega)
  have h2 : (N.getD n zr).l≤B:=by rw [getD_at (by omega)]; exact h _ (List.getElem_mem _)
  rw [Nat.add_mul,Nat.one_mul]
  omega
theorem gcdZ_gcdL (zs : List Int) (ps : List (Int × Int)) : gcdZ (zs ++ ps.map Prod.snd) = gcdL (gcdZ zs) ps:=by
 unfold gcdZ gcdL
 rw [List.foldl_append,List.foldl_map]

set_option maxRecDepth 100000 in
set_option maxHeartbeats 1600000 in
theorem common_n {w0 w : World} {v0 : Value} {m : Nat} {N0 : List Raw} {ad : Option Addr} {n cp : Nat} {s : Bool} {a : Option Addr} {l c : Nat} {ps : List (Int × Int)} {B : Nat} (hb0 : Below w0.heap.size w0 w) (hP : Pr w0 ad n ps B) (hrow0 : w.ownsRow w0.heap.size 24 2 v0 m (N0.flatMap encN)) (hm : N0.length = m) (hok0 : ∀ x ∈ N0,okN w0 B x) (hpos : 0 < m + n) (hn : m + n≤262145) (hB : B≤4194000) :
  Calls Tryz.prog 58 #[.agg #[.slice ad n cp,.bool s,.slice a l c],v0] w fun e w' => ∃ s' a' l' c',e = .returned (.agg #[.bool s',.slice a' l' c'])∧Zn w' s' a' l' c' (gcdL (gcdZ (N0.map Raw.z)) ps)∧l'≤(m + n) * B + 2∧Below w0.heap.size w0 w':=by
 go_enter Tryz.func58,Tryz.ntmps58
 go_wp2_with fail
 have y:=zb_new (w.alloc (.cells #[.slice ad n cp,.bool s,.slice a l c] 27)) false none 0 0
 have b1 : Below w0.heap.size w0 ((w.alloc (.cells #[.slice ad n cp,.bool s,.slice a l c] 27)).alloc (.cells #[.bool false,.slice none 0 0] 24)):=grow_alloc (grow_alloc hb0 _) _
 have hrow1:=(hrow0.alloc (.cells #[.slice ad n cp,.bool s,.slice a l c] 27)).alloc (.cells #[.bool false,.slice none 0 0] 24)
 rw [show (w.alloc (.cells #[.slice ad n cp,.bool s,.slice a l c] 27)).heap.size = w.heap.size + 1 from by simp] at y
 generalize (w.alloc (.cells #[.slice ad n cp,.bool s,.slice a l c] 27)).alloc (.cells #[.bool false,.slice none 0 0] 24) = wb at *
 have hrb : Hid (w0.heap.size≤w.heap.size + 1):=(by have:=hb0.size; omega : w0.heap.size≤w.heap.size + 1)
 have hown0 : Hid (∀ g,v0.ownBlock = some g→g ≠ w.heap.size + 1):=(fun g e => by have:=(hrow0.lt g e).2; omega)
 generalize w.heap.size + 1 = r at *
 obtain ⟨hps,hP⟩:=hP
 obtain ⟨i0,hi,iz0,iz1,iz2⟩:=info_parts info2
 replace hok0:=hide hok0
 go_loopw [1,10] (fun vv i wr => ∃ (t : Nat) (N : List Raw),t≤n∧i = .int .i64 t∧N.length = m + t∧wr.ownsRow w0.heap.size 24 2 vv (m + t) (N.flatMap encN)∧Hid (∀ x ∈ N,okN w0 B x)∧Hid (N.map Raw.z = N0.map Raw.z ++ (ps.take t).map Prod.snd)∧Below w0.heap.size w0 wr∧Hid (ZB wr r false none 0 0)∧Hid (∀ g,vv.ownBlock = some g→g ≠ r)) (fun _ i _ => n - (intOf i).toNat)
 case atStart => exact ⟨0,N0,Nat.zero_le _,rfl,by omega,hrow1,hok0,(show _ = _ by simp),b1,y,hown0⟩
 case round =>
  obtain ⟨t,N,ht,rfl,hN,hrow,hok,hNz,kr,yr,hob⟩:=hrel
  by_cases htn : t < n
  ·rcases hP with hP | ⟨bp,op,rfl,hP⟩
   ·omega
   ·obtain ⟨s2,a2,l2,c2,e0,e1,e2,hz2,hl2,hv⟩:=(hP.below kr).2 t (by omega)
    obtain ⟨s3,a3,l3,c3,f0,f1,f2,hz3,hl3, -⟩:=hP.2 t (by omega)
    have hps' : Hid (ps.take (t + 1) = ps.take t ++ [ps[t]]):=List.take_succ_eq_append_getElem (l:=ps) (i:=t) (by omega)
    have hsame : s2 = s3∧a2 = a3∧l2 = l3∧c2 = c3:=by
     have g1:=e1.symm.trans ((kr.cell (p:=⟨bp,op + t * 3 + 1,none⟩) hP.1).trans f1)
     have g2:=e2.symm.trans ((kr.cell (p:=⟨bp,op + t * 3 + 2,none⟩) hP.1).trans f2)
     simp at g1 g2
     exact ⟨g1,g2.1,g2.2.1,g2.2.2⟩
    obtain ⟨rfl,rfl,rfl,rfl⟩:=hsame
    clear f0 f1 f2
    generalize ps[t] = pp at *
    have hbase:=hide (show w0.heap.size≤wr.heap.size from kr.size)
    have ka:=below_alloc wr (.cells #[.int .i64 pp.1,.bool s2,.slice a2 l2 c2] 59)
    have kb:=below_alloc (wr.alloc (.cells #[.int .i64 pp.1,.bool s2,.slice a2 l2 c2] 59)) (.cells #[.bool s2,.slice a2 l2 c2] 24)
    have kab:=hide (grow_step kb ka)
    clear ka kb
    go_wp2_with (at_builtin; refine wpList_append_own_at _ rfl _ _ 86 rfl w0.heap.size 24 i0 _ 2 32 Tryz.underlying86 hi iz0 iz1 iz2 rfl (by decide) _ _ _ rfl ((hrow.alloc _).alloc _) ⟨wr.heap.size + 1,0,none⟩ 1 1 [.bool s2,.slice a2 l2 c2] rfl rfl (by simpa using two_new (wr.alloc (.cells #[.int .i64 pp.1,.bool s2,.slice a2 l2 c2] 59)) s2 a2 l2 c2) (two_one _ _ _ _) (by unfold maxLen; omega) (by omega) (by have:=hbase.out; simp; omega) ?_; intro v' w4 hown' hgrow hnil hat')
    have k4 : Below w0.heap.size w0 w4:=(grow_step kab.out kr).grown hgrow (grow_step kab.out kr).size (fun k e => (hrow.lt k e).1)
    have hrl:=yr.out.lt
    have y4 : Hid (ZB w4 r false none 0 0):=(hgrow.block r (by simp; omega) (fun e => hob.out r e.symm rfl)).trans ((kab.out.block r hrl).trans yr.out)
    have hob4 : Hid (∀ g,v'.ownBlock = some g→g ≠ r):=(fun g e => by
     rcases hat' with h | h
     ·exact hob.out g (h.symm.trans e)
     ·rw [h] at e
      simp at e
      omega)
    refine ⟨⟨t + 1,N ++ [⟨pp.1,s2,a2,l2,c2,pp.2⟩],by omega,by go_num,by simp; omega,?_,?_,?_,k4,y4,hob4⟩,by simp [intOf]; omega⟩
    ·rw [List.flatMap_append]
     exact hown'
    ·exact fun x hx => (List.mem_append.1 hx).elim (hok.out x) (fun h => by rw [List.mem_singleton.1 h]; exact ⟨hz3,hl3⟩)
    ·show _ = _
     rw [List.map_append,hNz.out,hps'.out,List.map_append,List.append_assoc]
     rfl
  ·obtain rfl : t = n:=by omega
   rw [List.take_of_length_le (Nat.le_of_eq hps)] at hNz
   have hokr : ∀ x ∈ N,okN wr B x:=fun x hx => (hok.out x hx).below kr
   obtain ⟨adl,cap,b,rfl,had,hZL⟩:=row_zl hrow (by omega) hokr (by omega) (by have:=yr.out.lt; omega)
   obtain rfl:=had hpos
   have hfl:=foldL_le N B (fun x hx => (hok.out x hx).2) (m + t) (by omega)
   have hmul : (m + t) * B≤262145 * 4194000:=Nat.mul_le_mul hn hB
   have hval : Hid (fold gcdI 0 (fun i => ((N.getD i zr).z.natAbs : Int)) (m + t) = (gcdL (gcdZ (N0.map Raw.z)) ps : Int)):=(show _ = _ by
    rw [fold_gcd N (m + t) (by omega),List.take_of_length_le (by omega),hNz.out,gcdZ_gcdL])
   clear hrow hokr hP
   go_wp2_with fail
   refine (zgcd_any hZL (by omega) (by omega)).mono ?_
   rintro e w5 ⟨s5,a5,l5,c5,rfl,hz5,k5,hl5⟩
   rw [hval.out] at hz5
   have y5:=yr.out.below k5
   have r2:=y5.c0
   have r3:=y5.c1
   have r4:=y5.f 0
   have r5:=y5.f 1
   have hzf:=hide (zb_zn y5 hz5 s5 a5 l5 c5)
   have kf:=hide (((grow_step k5 kr).setCell (p:=⟨r,0,none⟩) hrb.out (.bool s5)).setCell (p:=⟨r,1,none⟩) hrb.out (.slice a5 l5 c5))
   have hlf : Hid (l5≤(m + t) * B + 2):=(Nat.le_trans hl5 hfl : l5≤(m + t) * B + 2)
   clear k5 hZL hfl hl5 hval hmul
   go_wp2
   refine bodyPost_ret (results_cell_row rfl _ _ r 24 _ (0,0) _ rfl (zb_fin y5 s5 a5 l5 c5) Tryz.underlying24 rfl (by kernel_rfl)) rfl ?_
   exact ⟨s5,a5,l5,c5,by simp,hzf.out,hlf.out,kf.out⟩

def AW (w : World) (e : Ending) (f : Atm) (B B0 : Nat) : Prop :=
 ∃ sd ad ld cd ap np cp sk ak lk ck,e = .returned (.agg #[.int .i64 f.kind,.bool sd,.slice ad ld cd,.slice ap np cp,.bool sk,.slice ak lk ck])∧Zn w sd ad ld cd f.d∧ld≤B∧Pn w ap np f.ps B∧np≤B∧Zn w sk ak lk ck f.k∧lk≤B∧∀ b off,ap = some ⟨b,off,none⟩→B0≤b

theorem ab_fin {w : World} {r : Nat} {k0 : Int} {s0 : Bool} {a0 : Option Addr} {l0 c0 : Nat} {ad0 : Option Addr} {n0 cp0 : Nat} {t0 : Bool} {b0 : Option Addr} {m0 d0 : Nat} (h : w.heap[r]? = some (.cells #[.int .i64 k0,.bool s0,.slice a0 l0 c0,.slice ad0 n0 cp0,.bool t0,.slice b0 m0 d0] 29 (0,0))) (k : Int) (s : Bool) (a : Option Addr) (l c : Nat) (ad : Option Addr) (n cp : Nat) (t : Bool) (b : Option Addr) (m d : Nat) :
  ((((((w.setCell ⟨r,0,none⟩ (.int .i64 k)).setCell ⟨r,1,none⟩ (.bool s)).setCell ⟨r,2,none⟩ (.slice a l c)).setCell ⟨r,3,none⟩ (.slice ad n cp)).setCell ⟨r,4,none⟩ (.bool t)).setCell ⟨r,5,none⟩ (.slice b m d)).heap[r]? = some (.cells #[.int .i64 k,.bool s,.slice a l c,.slice ad n cp,.bool t,.slice b m d] 29 (0,0)) :=
 heap_setCell_same _ r 5 _ _ _ (heap_setCell_same _ r 4 _ _ _ (heap_setCell_same _ r 3 _ _ _ (heap_setCell_same _ r 2 _ _ _ (heap_setCell_same _ r 1 _ _ _ (heap_setCell_same w r 0 _ _ _ h)))))
theorem ab_noU {w : World} {r : Nat} {k0 : Int} {s0 : Bool} {a0 : Option Addr} {l0 c0 : Nat} {ad0 : Option Addr} {n0 cp0 : Nat} {t0 : Bool} {b0 : Option Addr} {m0 d0 : Nat} (h : w.heap[r]? = some (.cells #[.int .i64 k0,.bool s0,.slice a0 l0 c0,.slice ad0 n0 cp0,.bool t0,.slice b0 m0 d0] 29 (0,0))) : NoU w r:=by
 intro off x
 rw [cell_of_row w r off _ _ (0,0) h]
 match off with
 | 0 => simp
 | 1 => simp
 | 2 => simp
 | 3 => simp
 | 4 => simp
 | 5 => simp
 | k + 6 => simp
theorem ab_set (w : World) (r : Nat) (v0 v1 v2 v3 v4 v5 : Value) : w.grownBy ((((((w.setCell ⟨r,0,none⟩ v0).setCell ⟨r,1,none⟩ v1).setCell ⟨r,2,none⟩ v2).setCell ⟨r,3,none⟩ v3).setCell ⟨r,4,none⟩ v4).setCell ⟨r,5,none⟩ v5) (some r) :=
 gb_trans (gb_trans (gb_trans (gb_trans (gb_trans (gb_set w r 0 v0) (gb_set _ r 1 v1)) (gb_set _ r 2 v2)) (gb_set _ r 3 v3)) (gb_set _ r 4 v4)) (gb_set _ r 5 v5)
theorem Pn.away {w w' : World} {r : Nat} {ad : Option Addr} {n : Nat} {ps : List (Int × Int)} {B : Nat} (h : Pn w ad n ps B) (hr : ∀ b off,ad = some ⟨b,off,none⟩→b ≠ r) (hg : w.grownBy w' (some r)) (hU : NoU w r) : Pn w' ad n ps B:=by
 refine ⟨h.1,?_⟩
 rcases h.2 with h2 | ⟨b,off,e,hb,h2⟩
 ·exact .inl h2
 ·refine .inr ⟨b,off,e,Nat.lt_of_lt_of_le hb hg.size,fun i hi => ?_⟩
  obtain ⟨s,a,l,c,e0,e1,e2,hz,hl⟩:=h2 i hi
  have eb : w'.heap[b]? = w.heap[b]?:=hg.block b hb (by simpa using hr b off e)
  exact ⟨s,a,l,c,(World.cell?_of_block (a:=⟨b,off + i * 3,none⟩) eb).trans e0,(World.cell?_of_block (a:=⟨b,off + i * 3 + 1,none⟩) eb).trans e1,(World.cell?_of_block (a:=⟨b,off + i * 3 + 2,none⟩) eb).trans e2,hz.grownU hg hU,hl⟩
theorem tq3 {w w' : World} {p : Nat} {ad : Option Addr} {n cp : Nat} {s : Bool} {a : Option Addr} {l c : Nat} (x : TB w p ad n cp s a l c) (k : Below w.heap.size w w') : w'.cell? ⟨p,0,none⟩ = some (.slice ad n cp)∧w'.cell? ⟨p,1,none⟩ = some (.bool s)∧w'.cell? ⟨p,2,none⟩ = some (.slice a l c)∧Below w.heap.size w w' :=
 ⟨(x.below k).c0,(x.below k).c1,(x.below k).c2,k⟩

theorem tq7 {w w' : World} {p b3 b4 : Nat} {ad : Option Addr} {n cp : Nat} {s : Bool} {a : Option Addr} {l c : Nat} {s3 : Bool} {a3 : Option Addr} {l3 c3 : Nat} {s4 : Bool} {a4 : Option Addr} {l4 c4 : Nat} (x : TB w p ad n cp s a l c) (z3 : ZB w b3 s3 a3 l3 c3) (z4 : ZB w b4 s4 a4 l4 c4) (k : Below w.heap.size w w') :
  w'.cell? ⟨p,1,none⟩ = some (.bool s)∧w'.cell? ⟨p,2,none⟩ = some (.slice a l c)∧w'.cell? ⟨b3,0,none⟩ = some (.bool s3)∧w'.cell? ⟨b3,1,none⟩ = some (.slice a3 l3 c3)∧w'.cell? ⟨b4,0,none⟩ = some (.bool s4)∧w'.cell? ⟨b4,1,none⟩ = some (.slice a4 l4 c4)∧Below w.heap.size w w' :=
 ⟨(x.below k).c1,(x.below k).c2,(z3.below k).c0,(z3.below k).c1,(z4.below k).c0,(z4.below k).c1,k⟩


def AB (w : World) (r : Nat) (kd : Int) (s : Bool) (a : Option Addr) (l c : Nat) (ad : Option Addr) (n cp : Nat) (t : Bool) (b : Option Addr) (m d : Nat) : Prop :=
 w.heap[r]? = some (.cells #[.int .i64 kd,.bool s,.slice a l c,.slice ad n cp,.bool t,.slice b m d] 29 (0,0))
namespace AB
variable {w w' : World} {r : Nat} {kd : Int} {s : Bool} {a : Option Addr} {l c : Nat} {ad : Option Addr} {n cp : Nat} {t : Bool} {b : Option Addr} {m d : Nat}
theorem lt (h : AB w r kd s a l c ad n cp t b m d) : r < w.heap.size:=(Array.getElem?_eq_some_iff.1 h).1
theorem c0 (h : AB w r kd s a l c ad n cp t b m d) : w.cell? ⟨r,0,none⟩ = some (.int .i64 kd):=cell_of_row w r 0 _ _ (0,0) h
theorem c1 (h : AB w r kd s a l c ad n cp t b m d) : w.cell? ⟨r,1,none⟩ = some (.bool s):=cell_of_row w r 1 _ _ (0,0) h
theorem c2 (h : AB w r kd s a l c ad n cp t b m d) : w.cell? ⟨r,2,none⟩ = some (.slice a l c):=cell_of_row w r 2 _ _ (0,0) h
theorem c3 (h : AB w r kd s a l c ad n cp t b m d) : w.cell? ⟨r,3,none⟩ = some (.slice ad n cp):=cell_of_row w r 3 _ _ (0,0) h
theorem c4 (h : AB w r kd s a l c ad n cp t b m d) : w.cell? ⟨r,4,none⟩ = some (.bool t):=cell_of_row w r 4 _ _ (0,0) h
theorem c5 (h : AB w r kd s a l c ad n cp t b m d) : w.cell? ⟨r,5,none⟩ = some (.slice b m d):=cell_of_row w r 5 _ _ (0,0) h
theorem f (h : AB w r kd s a l c ad n cp t b m d) (i : Nat) : w.frozen? ⟨r,i,none⟩ = false:=frozen_of_row w r i _ _ h
theorem below (h : AB w r kd s a l c ad n cp t b m d) (hb : Below w.heap.size w w') : AB w' r kd s a l c ad n cp t b m d:=(hb.block r h.lt).trans h
theorem new (w : World) (kd : Int) (s : Bool) (a : Option Addr) (l c : Nat) (ad : Option Addr) (n cp : Nat) (t : Bool) (b : Option Addr) (m d : Nat) : AB (w.alloc (.cells #[.int .i64 kd,.bool s,.slice a l c,.slice ad n cp,.bool t,.slice b m d] 29)) w.heap.size kd s a l c ad n cp t b m d:=heap_alloc_new w _
end AB

theorem aq5 {w w' : World} {p b : Nat} {kd : Int} {s : Bool} {a : Option Addr} {l c : Nat} {ad : Option Addr} {n cp : Nat} {t : Bool} {a5 : Option Addr} {m d : Nat} {s2 : Bool} {a2 : Option Addr} {l2 c2 : Nat} (x : AB w p kd s a l c ad n cp t a5 m d) (z : ZB w b s2 a2 l2 c2) (k : Below w.heap.size w w') :
  w'.cell? ⟨p,3,none⟩ = some (.slice ad n cp)∧w'.cell? ⟨p,4,none⟩ = some (.bool t)∧w'.cell? ⟨p,5,none⟩ = some (.slice a5 m d)∧w'.cell? ⟨b,0,none⟩ = some (.bool s2)∧w'.cell? ⟨b,1,none⟩ = some (.slice a2 l2 c2)∧Below w.heap.size w w' :=
 ⟨(x.below k).c3,(x.below k).c4,(x.below k).c5,(z.below k).c0,(z.below k).c1,k⟩

theorem zb2_set (w : World) (b : Nat) (v0 v1 : Value) : w.grownBy ((w.setCell ⟨b,0,none⟩ v0).setCell ⟨b,1,none⟩ v1) (some b):=gb_trans (gb_set w b 0 v0) (gb_set _ b 1 v1)
theorem zb2_noU {w : World} {b : Nat} {s : Bool} {a : Option Addr} {l c : Nat} (y : ZB w b s a l c) : NoU w b:=by
 intro off x
 rw [cell_of_row w b off _ _ (0,0) y]
 match off with
 | 0 => simp
 | 1 => simp
 | k + 2 => simp

theorem zq2 {w w' : World} {b : Nat} {s : Bool} {a : Option Addr} {l c : Nat} (z : ZB w b s a l c) (k : Below w.heap.size w w') : w'.cell? ⟨b,0,none⟩ = some (.bool s)∧w'.cell? ⟨b,1,none⟩ = some (.slice a l c)∧Below w.heap.size w w':=⟨(z.below k).c0,(z.below k).c1,k⟩
theorem tq5 {w w' : World} {p b : Nat} {ad : Option Addr} {n cp : Nat} {s : Bool} {a : Option Addr} {l c : Nat} {s2 : Bool} {a2 : Option Addr} {l2 c2 : Nat} (x : TB w p ad n cp s a l c) (z : ZB w b s2 a2 l2 c2) (k : Below w.heap.size w w') :
  w'.cell? ⟨p,0,none⟩ = some (.slice ad n cp)∧w'.cell? ⟨p,1,none⟩ = some (.bool s)∧w'.cell? ⟨p,2,none⟩ = some (.slice a l c)∧w'.cell? ⟨b,0,none⟩ = some (.bool s2)∧w'.cell? ⟨b,1,none⟩ = some (.slice a2 l2 c2)∧Below w.heap.size w w' :=
 ⟨(x.below k).c0,(x.below k).c1,(x.below k).c2,(z.below k).c0,(z.below k).c1,k⟩
def AE (w : World) (e : Ending) (f : Atm) (B B0 : Nat) : Prop :=
 ∃ sd ad ld cd ap np cp sk ak lk ck,e = .returned (.tuple #[.agg #[.int .i64 f.kind,.bool sd,.slice ad ld cd,.slice ap np cp,.bool sk,.slice ak lk ck],.int .i64 0])∧Zn w sd ad ld cd f.d∧ld≤B∧Pn w ap np f.ps B∧np≤B∧Zn w sk ak lk ck f.k∧lk≤B∧∀ b off,ap = some ⟨b,off,none⟩→B0≤b

end Go.Proofs.YtepdckgfolkjjaaGreatDoor

namespace Go.Proofs.YtepdckgfolkjjaaGreatDoor.Fx
open Go.RowKit Go.Sort Go.Shelf
open Tm At
open Low (FLE)

variable {w w' : World} {kd d z z1 z2 : Int} {s s0 s1 s2 : Bool} {a ad ad0 a0 a1 a2 : Option Addr} {l c n cp b m F n0 cp0 l0 c0 Fw l1 c1 l2 c2 : Nat}
theorem nr_ab {r : Nat} {t : Bool} {b : Option Addr} {d : Nat} (h : AB w r kd s a l c ad n cp t b m d) : Fresh.NR w r:=Fresh.nr_cells h (by decide)
theorem zn_ne (h : Fresh.Zn F w s a l c z) (hg : w.grownBy w' (some m)) (hm : NoU w m) (hr : Fresh.NR w m) : Fresh.Zn F w' s a l c z:=by
 obtain ⟨n,⟨⟨zs,h1,h2,h3⟩,h4,h5⟩,h6⟩:=h
 exact ⟨n,⟨⟨zs,h1.grownU hg hm,h2,h3⟩,Nat.le_trans h4 hg.size,h5.grownN hg hr⟩,h6⟩
theorem zn_tb (h : Fresh.Zn F w s a l c z) (y : TB w m ad0 n0 cp0 s0 a0 l0 c0) (hg : w.grownBy w' (some m)) : Fresh.Zn F w' s a l c z:=zn_ne h hg (tb_noU y) (Fresh.nr_tb y)
theorem zn_ab {t0 : Bool} {b0 : Option Addr} {m0 d0 : Nat} (h : Fresh.Zn F w s a l c z) (y : AB w m kd s0 a0 l0 c0 ad0 n0 cp0 t0 b0 m0 d0) (hg : w.grownBy w' (some m)) : Fresh.Zn F w' s a l c z:=zn_ne h hg (ab_noU y) (nr_ab y)
theorem new_rs {base : Nat} {v : Value} {cap : Nat} {L L' : List Raw} (h : Fresh.New F w L) (hR : RS base w v n cap L') (hg : w.grownBy w' v.ownBlock) : Fresh.New F w' L:=by
 rcases hR with ⟨rfl,_⟩ | ⟨g,rfl,_,hr,_⟩
 ·exact h.below (gb_none hg)
 ·exact h.grownN hg (Fresh.nr_rb hr)
theorem fr_rs {base : Nat} {v : Value} {cap : Nat} {L' : List Raw} (h : Fresh.Fr F w a c) (hR : RS base w v n cap L') (hg : w.grownBy w' v.ownBlock) : Fresh.Fr F w' a c:=by
 rcases hR with ⟨rfl,_⟩ | ⟨g,rfl,_,hr,_⟩
 ·exact h.below (gb_none hg)
 ·exact h.grownN hg (Fresh.nr_rb hr)
theorem rb_cells {g : Nat} {L : List Raw} {cs : Array Value} {ty : TypeId} {fz : Nat × Nat} (h : RB w g L) (y : w.heap[m]? = some (.cells cs ty fz)) (ht : ty ≠ 59) : g ≠ m:=by
 rintro rfl
 have e:=Option.some.inj ((show w.heap[g]? = _ from h).symm.trans y)
 injection e with _ e
 exact ht e.symm
theorem nw_ne (h : Fresh.NW F w ad n cp a l c) (hg : w.grownBy w' (some m)) (hr : Fresh.NR w m) (hb : ∀ g L,RB w g L→g ≠ m) : Fresh.NW F w' ad n cp a l c:=by
 obtain ⟨L,h1,h2,h3,h4⟩:=h
 refine ⟨L,?_,h2.grownN hg hr,h3,h4.grownN hg hr⟩
 rcases h1 with h1 | ⟨g,e,hb',hr',h5⟩
 ·exact .inl h1
 ·exact .inr ⟨g,e,hb',hr'.grown hg (hb g L hr'),h5⟩
theorem nw_ab {t0 : Bool} {b0 : Option Addr} {m0 d0 : Nat} (h : Fresh.NW F w ad n cp a l c) (y : AB w m kd s0 a0 l0 c0 ad0 n0 cp0 t0 b0 m0 d0) (hg : w.grownBy w' (some m)) : Fresh.NW F w' ad n cp a l c:=nw_ne h hg (nr_ab y) (fun g L hr => rb_cells hr y (by decide))
theorem nw_nil : Fresh.NW F w none 0 0 none 0 0:=⟨[],.inl ⟨rfl,rfl,rfl,rfl⟩,(fun x hx => absurd hx (by simp)),Nat.le_refl _,.inl ⟨rfl,rfl⟩⟩
theorem zadd_x (hF : Fw≤w.heap.size) (h1 : Zm w s1 a1 l1 c1 z1) (h2 : Zm w s2 a2 l2 c2 z2) (hl1 : l1≤1099511627776) (hl2 : l2≤1099511627776) :
  Calls Tryz.prog 59 #[.agg #[.bool s1,.slice a1 l1 c1],.agg #[.bool s2,.slice a2 l2 c2]] w fun e w' => ∃ s' ad len cap,e = .returned (.agg #[.bool s',.slice ad len cap])∧Fresh.Zn Fw w' s' ad len cap (z1 + z2)∧Below w.heap.size w w'∧len≤max l1 l2 + 1:=Fresh.zadd_n (Fresh.zm_of h1 hF) (Fresh.zm_of h2 hF) hl1 hl2
theorem neg_x (hF : Fw≤w.heap.size) (h : Zm w s a l c z) (hl : l≤1099511627776) :
  Calls Tryz.prog 90 #[.agg #[.bool s,.slice a l c]] w fun e w' => ∃ s' ad len cap,e = .returned (.agg #[.bool s',.slice ad len cap])∧Fresh.Zn Fw w' s' ad len cap (-z)∧Below w.heap.size w w'∧len≤l + 1:=Fresh.neg_n (Fresh.zm_of h hF) hl
set_option maxRecDepth 100000 in
set_option maxHeartbeats 1600000 in
theorem quotient_n (hF : FLE Fw w) (h1 : Zm w s1 a1 l1 c1 z1) (h2 : Zm w s2 a2 l2 c2 z2) (hl1 : l1≤1099511627776) (hl2 : l2≤1099511627776) (hz : 0 < z2) :
  Calls Tryz.prog 60 #[.agg #[.bool s1,.slice a1 l1 c1],.agg #[.bool s2,.slice a2 l2 c2]] w fun e w' => ∃ s a l c,e = .returned (.agg #[.bool s,.slice a l c])∧Fresh.Zn Fw w' s a l c (z1 / z2)∧Below w.heap.size w w'∧l≤l1 + 3:=by
 go_enter Tryz.func60,Tryz.ntmps60
 go_wp2_with fail
 have y:=zb_new ((w.alloc (.cells #[.bool s1,.slice a1 l1 c1] 24)).alloc (.cells #[.bool s2,.slice a2 l2 c2] 24)) false none 0 0
 have b0 : Below w.heap.size w (((w.alloc (.cells #[.bool s1,.slice a1 l1 c1] 24)).alloc (.cells #[.bool s2,.slice a2 l2 c2] 24)).alloc (.cells #[.bool false,.slice none 0 0] 24)):=below_alloc' (below_alloc' (below_alloc _ _) _) _
 rw [show ((w.alloc (.cells #[.bool s1,.slice a1 l1 c1] 24)).alloc (.cells #[.bool s2,.slice a2 l2 c2] 24)).heap.size = w.heap.size + 1 + 1 from by simp] at y
 generalize ((w.alloc (.cells #[.bool s1,.slice a1 l1 c1] 24)).alloc (.cells #[.bool s2,.slice a2 l2 c2] 24)).alloc (.cells #[.bool false,.slice none 0 0] 24) = wb at *
 have hr : w.heap.size≤w.heap.size + 1 + 1:=by omega
 generalize w.heap.size + 1 + 1 = r at *
 refine (Fresh.zdivmod_n (Fresh.zm_of (h1.below b0) (hF.le b0)) (Fresh.zm_of (h2.below b0) (hF.le b0)) hl1 hl2 (by omega)).mono ?_
 rintro e w1 ⟨sq,aq,lq,cq,sr,ar,lr,cr,qv,rv,rfl,hzq,hzr,hFD,k1,hlq,hlr⟩
 have hval : qv = z1 / z2∧rv = z1 % z2:=fd_div hFD hz
 obtain ⟨rfl,rfl⟩:=hval
 have kk:=hide (grow_step k1 b0)
 have y1:=y.below k1
 clear k1 b0 y h1 h2
 have ka:=below_alloc w1 (.cells #[.bool sq,.slice aq lq cq] 24)
 have kb:=below_alloc (w1.alloc (.cells #[.bool sq,.slice aq lq cq] 24)) (.cells #[.bool sr,.slice ar lr cr] 24)
 have kc:=grow_step kb ka
 have y2:=y1.below kc
 have y3:=y2.c0
 have y4:=y2.c1
 have y5:=y2.f 0
 have y6:=y2.f 1
 have hz9:=hide (Fresh.zb_zn y2 (hzq.below kc) sq aq lq cq)
 have hk9:=hide (((grow_step kc kk.out).setCell (p:=⟨r,0,none⟩) hr (.bool sq)).setCell (p:=⟨r,1,none⟩) hr (.slice aq lq cq))
 clear ka kb kc
 go_wp2
 refine bodyPost_ret (results_cell_row rfl _ _ r 24 _ (0,0) _ rfl (zb_fin y2 sq aq lq cq) Tryz.underlying24 rfl (by kernel_rfl)) rfl ?_
 exact ⟨sq,aq,lq,cq,by simp,hz9.out,hk9.out,by omega⟩
set_option maxRecDepth 100000 in
set_option maxHeartbeats 1600000 in
theorem remainder_n (hF : FLE Fw w) (h1 : Zm w s1 a1 l1 c1 z1) (h2 : Zm w s2 a2 l2 c2 z2) (hl1 : l1≤1099511627776) (hl2 : l2≤1099511627776) (hz : 0 < z2) :
  Calls Tryz.prog 97 #[.agg #[.bool s1,.slice a1 l1 c1],.agg #[.bool s2,.slice a2 l2 c2]] w fun e w' => ∃ s a l c,e = .returned (.agg #[.bool s,.slice a l c])∧Fresh.Zn Fw w' s a l c (z1 % z2)∧Below w.heap.size w w'∧l≤l2:=by
 go_enter Tryz.func97,Tryz.ntmps97
 go_wp2_with fail
 have y:=zb_new ((w.alloc (.cells #[.bool s1,.slice a1 l1 c1] 24)).alloc (.cells #[.bool s2,.slice a2 l2 c2] 24)) false none 0 0
 have b0 : Below w.heap.size w (((w.alloc (.cells #[.bool s1,.slice a1 l1 c1] 24)).alloc (.cells #[.bool s2,.slice a2 l2 c2] 24)).alloc (.cells #[.bool false,.slice none 0 0] 24)):=below_alloc' (below_alloc' (below_alloc _ _) _) _
 rw [show ((w.alloc (.cells #[.bool s1,.slice a1 l1 c1] 24)).alloc (.cells #[.bool s2,.slice a2 l2 c2] 24)).heap.size = w.heap.size + 1 + 1 from by simp] at y
 generalize ((w.alloc (.cells #[.bool s1,.slice a1 l1 c1] 24)).alloc (.cells #[.bool s2,.slice a2 l2 c2] 24)).alloc (.cells #[.bool false,.slice none 0 0] 24) = wb at *
 have hr : w.heap.size≤w.heap.size + 1 + 1:=by omega
 generalize w.heap.size + 1 + 1 = r at *
 refine (Fresh.zdivmod_n (Fresh.zm_of (h1.below b0) (hF.le b0)) (Fresh.zm_of (h2.below b0) (hF.le b0)) hl1 hl2 (by omega)).mono ?_
 rintro e w1 ⟨sq,aq,lq,cq,sr,ar,lr,cr,qv,rv,rfl,hzq,hzr,hFD,k1,hlq,hlr⟩
 have hval : qv = z1 / z2∧rv = z1 % z2:=fd_div hFD hz
 obtain ⟨rfl,rfl⟩:=hval
 have kk:=hide (grow_step k1 b0)
 have y1:=y.below k1
 clear k1 b0 y h1 h2
 have ka:=below_alloc w1 (.cells #[.bool sq,.slice aq lq cq] 24)
 have kb:=below_alloc (w1.alloc (.cells #[.bool sq,.slice aq lq cq] 24)) (.cells #[.bool sr,.slice ar lr cr] 24)
 have kc:=grow_step kb ka
 have y2:=y1.below kc
 have y3:=y2.c0
 have y4:=y2.c1
 have y5:=y2.f 0
 have y6:=y2.f 1
 have hz9:=hide (Fresh.zb_zn y2 (hzr.below kc) sr ar lr cr)
 have hk9:=hide (((grow_step kc kk.out).setCell (p:=⟨r,0,none⟩) hr (.bool sr)).setCell (p:=⟨r,1,none⟩) hr (.slice ar lr cr))
 clear ka kb kc
 go_wp2
 refine bodyPost_ret (results_cell_row rfl _ _ r 24 _ (0,0) _ rfl (zb_fin y2 sr ar lr cr) Tryz.underlying24 rfl (by kernel_rfl)) rfl ?_
 exact ⟨sr,ar,lr,cr,by simp,hz9.out,hk9.out,by omega⟩
set_option maxRecDepth 100000 in
set_option maxHeartbeats 3200000 in
theorem each_n {ps : List (Int × Int)} {k : Int} {B C kf : Nat} {lb : Array Value} {F : Int→Int} (eg : ∀ args w,(callFunc kf args).run Tryz.prog w = .ok (.enter kf args) w)
  (hf : ∀ w' s a l c z,Below w.heap.size w w'→Zm w' s a l c z→l≤B→Calls Tryz.prog kf (#[.agg #[.bool s,.slice a l c]] ++ lb) w' fun e w'' => ∃ s' a' l' c',e = .returned (.agg #[.bool s',.slice a' l' c'])∧Fresh.Zn Fw w'' s' a' l' c' (F z)∧Below w'.heap.size w' w''∧l'≤C)
  (hF : FLE Fw w) (hP : Pr w ad n ps B) (hz : Zm w s a l c k) (hl : l≤B) (hn : n≤268435456) (hC : C≤1099511627776) :
  Calls Tryz.prog 62 #[.agg #[.slice ad n cp,.bool s,.slice a l c],.func (.func kf) #[] lb] w fun e w' => ∃ ad' n' cp' s' a' l' c',e = .returned (.agg #[.slice ad' n' cp',.bool s',.slice a' l' c'])∧Pn w' ad' n' (eachP F ps) C∧Fresh.Zn Fw w' s' a' l' c' (F k)∧l'≤C∧n'≤n∧(∀ b off,ad' = some ⟨b,off,none⟩→w.heap.size≤b)∧Below w.heap.size w w'∧Fresh.NW Fw w' ad' n' cp' a' l' c':=by
 go_enter Tryz.func62,Tryz.ntmps62
 go_wp2_with fail
 have x:=(tb_new w ad n cp s a l c).below (below_alloc _ (.cells #[.slice none 0 0,.bool false,.slice none 0 0] 27))
 have y:=tb_new (w.alloc (.cells #[.slice ad n cp,.bool s,.slice a l c] 27)) none 0 0 false none 0 0
 have b0 : Below w.heap.size w ((w.alloc (.cells #[.slice ad n cp,.bool s,.slice a l c] 27)).alloc (.cells #[.slice none 0 0,.bool false,.slice none 0 0] 27)):=below_alloc' (below_alloc _ _) _
 rw [show (w.alloc (.cells #[.slice ad n cp,.bool s,.slice a l c] 27)).heap.size = w.heap.size + 1 from by simp] at y
 generalize (w.alloc (.cells #[.slice ad n cp,.bool s,.slice a l c] 27)).alloc (.cells #[.slice none 0 0,.bool false,.slice none 0 0] 27) = wb at *
 replace hP:=hP.below b0
 replace hz:=hz.below b0
 have hf2 : Hid (∀ w' s a l c z,Below wb.heap.size wb w'→Zm w' s a l c z→l≤B→Calls Tryz.prog kf (#[.agg #[.bool s,.slice a l c]] ++ lb) w' fun e w'' => ∃ s' a' l' c',e = .returned (.agg #[.bool s',.slice a' l' c'])∧Fresh.Zn Fw w'' s' a' l' c' (F z)∧Below w'.heap.size w' w''∧l'≤C):=(fun w' s a l c z h => hf w' s a l c z (grow_step h b0))
 clear hf
 have hFb:=hide (hF.le b0)
 generalize hp : w.heap.size = p at *
 replace b0 : Hid (Below w.heap.size w wb):=hp ▸ b0
 have hpr : Hid (w.heap.size = p∧p < p + 1):=⟨hp,by omega⟩
 clear hp
 generalize p + 1 = r at *
 obtain ⟨hps,hP⟩:=hP
 go_loopw [5,12] (fun v i wr => ∃ (t : Nat) (ad3 : Option Addr) (n3 cap3 : Nat) (L3 : List Raw),t≤n∧i = .int .i64 t∧v = .slice ad3 n3 cap3∧Hid (RS wb.heap.size wr (.slice ad3 n3 cap3) n3 cap3 L3)∧Hid (Rok wr C L3)∧Hid (Fresh.New Fw wr L3)∧Hid ((L3.take n3).map Raw.p = eachP F (ps.take t))∧n3≤t∧Hid (Below wb.heap.size wb wr)) (fun _ i _ => n - (intOf i).toNat)
 case atStart => exact ⟨0,none,0,0,[],Nat.zero_le _,rfl,rfl,.inl ⟨rfl,rfl,rfl,rfl⟩,(fun x hx => absurd hx (by simp)),(fun x hx => absurd hx (by simp)),(show _ = _ from rfl),by omega,Below.refl _ _⟩
 case round =>
  obtain ⟨t,ad3,n3,cap3,L3,ht,rfl,rfl,hR3,hok3,hnw3,hea,hn3,kr⟩:=hrel
  by_cases htn : t < n
  ·rcases hP with hP | ⟨bp,op,rfl,hP⟩
   ·omega
   ·obtain ⟨s2,a2,l2,c2,e0,e1,e2,hz2,hl2,hv⟩:=(hP.below kr.out).2 t (by omega)
    have hstep : Hid (eachP F (ps.take (t + 1)) = eachP F (ps.take t) ++ if F (ps[t]).2 = 0 then [] else [((ps[t]).1,F (ps[t]).2)]):=(show _ = _ by rw [List.take_succ_eq_append_getElem (l:=ps) (i:=t) (by omega),eachP_snoc])
    generalize ps[t] = pp at *
    obtain ⟨pv,pz⟩:=pp
    dsimp only at *
    have pb : PB (wr.alloc (.cells #[.int .i64 pv,.bool s2,.slice a2 l2 c2] 59)) wr.heap.size pv s2 a2 l2 c2:=pb_new wr pv s2 a2 l2 c2
    have ka:=below_alloc wr (.cells #[.int .i64 pv,.bool s2,.slice a2 l2 c2] 59)
    have kb:=hide (grow_step ka kr.out)
    have hcall:=hide (hf2.out _ s2 a2 l2 c2 pz kb.out (hz2.below ka) hl2)
    have hR4:=hide (hR3.out.below ka)
    have hok4:=hide (hok3.out.below ka)
    have hnw4:=hide (hnw3.out.below ka)
    clear ka
    go_wp2_with fail
    refine hcall.out.mono ?_
    rintro e w5 ⟨s5,a5,l5,c5,rfl,hz5,k5,hl5⟩
    have kc:=hide (below_alloc w5 (.cells #[.bool s5,.slice a5 l5 c5] 24))
    have cb:=zb_new w5 s5 a5 l5 c5
    have k6:=hide (grow_step kc.out (grow_step k5 kb.out))
    have hz6:=hide (hz5.below kc.out)
    have pb6:=(pb.below9 k5).below9 kc.out
    have hR6:=hide ((hR4.out.below k5).below kc.out)
    have hok6:=hide ((hok4.out.below k5).below kc.out)
    have hnw6:=hide ((hnw4.out.below k5).below kc.out)
    clear k5 kb hz5 pb hR4 hok4 hcall hR3 hok3
    replace cb:=hide cb
    replace pb6:=hide pb6
    go_wp2_with fail
    refine (zsign_n hz6.out.zn.zm (by omega)).mono ?_
    rintro e w7 ⟨rfl,k7⟩
    have cb7:=cb.out.below k7
    have pb7:=pb6.out.below9 k7
    have hz7:=hide (hz6.out.below k7)
    have hR7:=hide (hR6.out.below k7)
    have hok7:=hide (hok6.out.below k7)
    have hnw7:=hide (hnw6.out.below k7)
    replace k7:=hide (grow_step k7 k6.out)
    clear hz6 hR6 hok6 k6 cb pb6 kc
    generalize w5.heap.size = qc at *
    generalize wr.heap.size = qp at *
    by_cases hz0 : F pz = 0
    ·have hea' : Hid ((L3.take n3).map Raw.p = eachP F (ps.take (t + 1))):=(show _ = _ by rw [hstep.out,hea.out]; simp [hz0])
     rw [hz0,show cmpI 0 0 = 0 from rfl]
     go_wp2_with fail
     exact ⟨⟨t + 1,ad3,n3,cap3,L3,by omega,by go_num,rfl,hR7,hok7,hnw7,hea',by omega,k7⟩,by simp [intOf]; omega⟩
    ·have hc : cmpI (F pz) 0 ≠ 0:=by unfold cmpI; split <;> (try split) <;> omega
     generalize cmpI (F pz) 0 = cz at *
     have t0:=pb7.c0
     have u0:=cb7.c0
     have u1:=cb7.c1
     have hcq:=cb7.lt
     have hpq:=pb7.lt
     have kz:=below_alloc w7 (.cells #[.int .i64 pv,.bool s5,.slice a5 l5 c5] 59)
     have happ:=hide (run_append_rs (w0:=wb) (hR7.out.below kz) (grow_step kz k7.out) ⟨pv,s5,a5,l5,c5,F pz⟩ ⟨w7.heap.size,0,none⟩ (v3_new w7 pv s5 a5 l5 c5) (by omega))
     replace kz:=hide kz
     go_wp2_with (at_builtin; refine wpList_append_run rfl _ _ 25 rfl _ _ rfl rfl _ (happ.out _) ?_; rintro v5 w8 ⟨cap5,L5,hR5,htk,hmem,hb5,hg5, -⟩; obtain ⟨ad5,rfl⟩:=hR5.row; replace hR5:=hide hR5; replace hmem:=hide hmem; replace hb5:=hide hb5; replace hg5:=hide hg5; replace htk:=hide htk)
     have ok5 : Hid (Rok w8 C L5):=fun y hy => by
      rcases hmem.out y hy with h | rfl | rfl
      ·exact ⟨(hR7.out.below kz.out).zn hg5.out ((hok7.out y h).1.below kz.out),(hok7.out y h).2⟩
      ·exact ⟨(hR7.out.below kz.out).zn hg5.out (hz7.out.zn.below kz.out),hl5,hv⟩
      ·exact zr_ok _ _
     have nw5 : Hid (Fresh.New Fw w8 L5):=fun y hy => by
      rcases hmem.out y hy with h | rfl | rfl
      ·exact new_rs (hnw7.out.below kz.out) (hR7.out.below kz.out) hg5.out y h
      ·exact ⟨Fresh.zn_lc hz7.out,fr_rs (hz7.out.fr.below kz.out) (hR7.out.below kz.out) hg5.out⟩
      ·exact ⟨Nat.le_refl _,.inl ⟨rfl,rfl⟩⟩
     have hea' : Hid ((L5.take (n3 + 1)).map Raw.p = eachP F (ps.take (t + 1))):=(show _ = _ by rw [htk.out,List.map_append,hea.out,hstep.out]; simp [Raw.p,hz0])
     exact ⟨⟨t + 1,ad5,n3 + 1,cap5,L5,by omega,by go_num,rfl,hR5,ok5,nw5,hea',by omega,hb5⟩,by simp [intOf]; omega⟩
  ·obtain rfl : t = n:=by omega
   rw [List.take_of_length_le (Nat.le_of_eq hps)] at hea
   have xr:=x.below kr.out
   have yr:=y.below kr.out
   have x1:=xr.c1
   have x2:=xr.c2
   have hcall:=hide (hf2.out wr s a l c k kr.out (hz.below kr.out) hl)
   go_wp2_with fail
   refine hcall.out.mono ?_
   rintro e w5 ⟨s5,a5,l5,c5,rfl,hz5,k5,hl5⟩
   have y5:=yr.below k5
   have y0:=y5.c0
   have y1:=y5.c1
   have y2:=y5.c2
   have y3:=y5.f 0
   have y4:=y5.f 1
   have y6:=y5.f 2
   have g:=tb_set w5 r (.slice ad3 n3 cap3) (.bool s5) (.slice a5 l5 c5)
   have hzf:=hide (zn_tb hz5 y5 g)
   have hnwf:=hide ((hnw3.out.below k5).grownN g (Fresh.nr_tb y5))
   have hRf:=hide ((hR3.out.below k5).grown g y.lt)
   have hokf:=hide ((hok3.out.below k5).grownU g (tb_noU y5))
   have kf:=hide (below_grown (grow_step (grow_step k5 kr.out) b0.out) g (by have:=hpr.out; omega))
   clear g k5 hcall x1 x2
   go_wp2
   refine bodyPost_ret (results_cell_row rfl _ _ r 27 _ (0,0) _ rfl (tb_fin y5 ad3 n3 cap3 s5 a5 l5 c5) Tryz.underlying27 rfl (by kernel_rfl)) rfl ?_
   have hpn:=rs_pn hRf.out hokf.out
   rw [hea.out] at hpn
   have hnew : ∀ b off,ad3 = some ⟨b,off,none⟩→w.heap.size≤b:=fun b off e => by
    rcases hRf.out with ⟨h1,_⟩ | ⟨g,h1,hg,_⟩
    ·simp at h1
     rw [h1.1] at e
     cases e
    ·simp at h1
     rw [h1] at e
     simp at e
     have:=b0.out.size
     omega
   exact ⟨ad3,n3,cap3,s5,a5,l5,c5,by simp,hpn,hzf.out,hl5,by omega,hnew,kf.out,L3,Fresh.rs_mono hRf.out hFb.out,hnwf.out,Fresh.zn_lc hzf.out,hzf.out.fr⟩
set_option maxRecDepth 100000 in
set_option maxHeartbeats 1600000 in
theorem mod1_n (hF : FLE Fw w) (y : ZB w b s2 a2 l2 c2) (hz : Zm w s a l c z) (hd : Zm w s2 a2 l2 c2 d) (hl : l≤1099511627776) (hl2 : l2≤1099511627776) (h0 : 0 < d) :
  Calls Tryz.prog 121 (#[.agg #[.bool s,.slice a l c]] ++ #[.pointer (some ⟨b,0,none⟩)]) w fun e w' => ∃ s' a' l' c',e = .returned (.agg #[.bool s',.slice a' l' c'])∧Fresh.Zn Fw w' s' a' l' c' (z % d)∧Below w.heap.size w w'∧l'≤l2:=by
 show Calls Tryz.prog 121 #[.agg #[.bool s,.slice a l c],.pointer (some ⟨b,0,none⟩)] w _
 go_enter Tryz.func121,Tryz.ntmps121
 have y0:=y.c0
 have y1:=y.c1
 have hbl:=y.lt
 go_wp2_with fail
 have r0:=zb_new (w.alloc (.cells #[.bool s,.slice a l c] 24)) false none 0 0
 have b0 : Below w.heap.size w ((w.alloc (.cells #[.bool s,.slice a l c] 24)).alloc (.cells #[.bool false,.slice none 0 0] 24)):=below_alloc' (below_alloc _ _) _
 rw [show (w.alloc (.cells #[.bool s,.slice a l c] 24)).heap.size = w.heap.size + 1 from by simp] at r0
 generalize (w.alloc (.cells #[.bool s,.slice a l c] 24)).alloc (.cells #[.bool false,.slice none 0 0] 24) = wb at *
 have hr : w.heap.size≤w.heap.size + 1:=by omega
 generalize w.heap.size + 1 = r at *
 refine (remainder_n (Fw:=Fw) (hF.le b0) (hz.below b0) (hd.below b0) hl hl2 h0).mono ?_
 rintro e w1 ⟨s',a',l',c',rfl,hz1,k1,hl1⟩
 have r1:=r0.below k1
 have r2:=r1.c0
 have r3:=r1.c1
 have r4:=r1.f 0
 have r5:=r1.f 1
 have hzf:=hide (Fresh.zb_zn r1 hz1 s' a' l' c')
 have kf:=hide (((grow_step k1 b0).setCell (p:=⟨r,0,none⟩) hr (.bool s')).setCell (p:=⟨r,1,none⟩) hr (.slice a' l' c'))
 clear y0 y1 k1 b0
 go_wp2
 refine bodyPost_ret (results_cell_row rfl _ _ r 24 _ (0,0) _ rfl (zb_fin r1 s' a' l' c') Tryz.underlying24 rfl (by kernel_rfl)) rfl ?_
 exact ⟨s',a',l',c',by simp,hzf.out,kf.out,hl1⟩
set_option maxRecDepth 100000 in
set_option maxHeartbeats 1600000 in
theorem less1_n (hF : FLE Fw w) (y : ZB w b s2 a2 l2 c2) (hz : Zm w s a l c z) (hd : Zm w s2 a2 l2 c2 d) (hl : l≤1099511627776) (hl2 : l2≤1099511627776) (h0 : 0 < d) :
  Calls Tryz.prog 63 (#[.agg #[.bool s,.slice a l c]] ++ #[.pointer (some ⟨b,0,none⟩)]) w fun e w' => ∃ s' a' l' c',e = .returned (.agg #[.bool s',.slice a' l' c'])∧Fresh.Zn Fw w' s' a' l' c' (z / d)∧Below w.heap.size w w'∧l'≤l + 3:=by
 show Calls Tryz.prog 63 #[.agg #[.bool s,.slice a l c],.pointer (some ⟨b,0,none⟩)] w _
 go_enter Tryz.func63,Tryz.ntmps63
 have y0:=y.c0
 have y1:=y.c1
 have hbl:=y.lt
 go_wp2_with fail
 have r0:=zb_new (w.alloc (.cells #[.bool s,.slice a l c] 24)) false none 0 0
 have b0 : Below w.heap.size w ((w.alloc (.cells #[.bool s,.slice a l c] 24)).alloc (.cells #[.bool false,.slice none 0 0] 24)):=below_alloc' (below_alloc _ _) _
 rw [show (w.alloc (.cells #[.bool s,.slice a l c] 24)).heap.size = w.heap.size + 1 from by simp] at r0
 generalize (w.alloc (.cells #[.bool s,.slice a l c] 24)).alloc (.cells #[.bool false,.slice none 0 0] 24) = wb at *
 have hr : w.heap.size≤w.heap.size + 1:=by omega
 generalize w.heap.size + 1 = r at *
 refine (quotient_n (Fw:=Fw) (hF.le b0) (hz.below b0) (hd.below b0) hl hl2 h0).mono ?_
 rintro e w1 ⟨s',a',l',c',rfl,hz1,k1,hl1⟩
 have r1:=r0.below k1
 have r2:=r1.c0
 have r3:=r1.c1
 have r4:=r1.f 0
 have r5:=r1.f 1
 have hzf:=hide (Fresh.zb_zn r1 hz1 s' a' l' c')
 have kf:=hide (((grow_step k1 b0).setCell (p:=⟨r,0,none⟩) hr (.bool s')).setCell (p:=⟨r,1,none⟩) hr (.slice a' l' c'))
 clear y0 y1 k1 b0
 go_wp2
 refine bodyPost_ret (results_cell_row rfl _ _ r 24 _ (0,0) _ rfl (zb_fin r1 s' a' l' c') Tryz.underlying24 rfl (by kernel_rfl)) rfl ?_
 exact ⟨s',a',l',c',by simp,hzf.out,kf.out,hl1⟩
set_option maxRecDepth 100000 in
set_option maxHeartbeats 1600000 in
theorem divi1_n (hF : FLE Fw w) (y : ZB w b s2 a2 l2 c2) (hz : Zm w s a l c z) (hd : Zm w s2 a2 l2 c2 d) (hl : l≤1099511627776) (hl2 : l2≤1099511627776) (h0 : 0 < d) :
  Calls Tryz.prog 89 (#[.agg #[.bool s,.slice a l c]] ++ #[.pointer (some ⟨b,0,none⟩)]) w fun e w' => ∃ s' a' l' c',e = .returned (.agg #[.bool s',.slice a' l' c'])∧Fresh.Zn Fw w' s' a' l' c' (z / d)∧Below w.heap.size w w'∧l'≤l + 3:=by
 show Calls Tryz.prog 89 #[.agg #[.bool s,.slice a l c],.pointer (some ⟨b,0,none⟩)] w _
 go_enter Tryz.func89,Tryz.ntmps89
 have y0:=y.c0
 have y1:=y.c1
 have hbl:=y.lt
 go_wp2_with fail
 have r0:=zb_new (w.alloc (.cells #[.bool s,.slice a l c] 24)) false none 0 0
 have b0 : Below w.heap.size w ((w.alloc (.cells #[.bool s,.slice a l c] 24)).alloc (.cells #[.bool false,.slice none 0 0] 24)):=below_alloc' (below_alloc _ _) _
 rw [show (w.alloc (.cells #[.bool s,.slice a l c] 24)).heap.size = w.heap.size + 1 from by simp] at r0
 generalize (w.alloc (.cells #[.bool s,.slice a l c] 24)).alloc (.cells #[.bool false,.slice none 0 0] 24) = wb at *
 have hr : w.heap.size≤w.heap.size + 1:=by omega
 generalize w.heap.size + 1 = r at *
 refine (quotient_n (Fw:=Fw) (hF.le b0) (hz.below b0) (hd.below b0) hl hl2 h0).mono ?_
 rintro e w1 ⟨s',a',l',c',rfl,hz1,k1,hl1⟩
 have r1:=r0.below k1
 have r2:=r1.c0
 have r3:=r1.c1
 have r4:=r1.f 0
 have r5:=r1.f 1
 have hzf:=hide (Fresh.zb_zn r1 hz1 s' a' l' c')
 have kf:=hide (((grow_step k1 b0).setCell (p:=⟨r,0,none⟩) hr (.bool s')).setCell (p:=⟨r,1,none⟩) hr (.slice a' l' c'))
 clear y0 y1 k1 b0
 go_wp2
 refine bodyPost_ret (results_cell_row rfl _ _ r 24 _ (0,0) _ rfl (zb_fin r1 s' a' l' c') Tryz.underlying24 rfl (by kernel_rfl)) rfl ?_
 exact ⟨s',a',l',c',by simp,hzf.out,kf.out,hl1⟩
set_option maxRecDepth 100000 in
set_option maxHeartbeats 1600000 in
theorem modulo_n {ps : List (Int × Int)} {k : Int} {B : Nat} (hF : FLE Fw w) (hP : Pr w ad n ps B) (hz : Zm w s a l c k) (hl : l≤B) (hd : Zm w s2 a2 l2 c2 d) (h0 : 0 < d) (hn : n≤268435456) (hB : B≤1099511627776) (hl2 : l2≤1099511627776) :
  Calls Tryz.prog 88 #[.agg #[.slice ad n cp,.bool s,.slice a l c],.agg #[.bool s2,.slice a2 l2 c2]] w fun e w' => ∃ ad' n' cp' s' a' l' c',e = .returned (.agg #[.slice ad' n' cp',.bool s',.slice a' l' c'])∧Pn w' ad' n' (eachP (fun x => x % d) ps) l2∧Fresh.Zn Fw w' s' a' l' c' (k % d)∧l'≤l2∧n'≤n∧(∀ b off,ad' = some ⟨b,off,none⟩→w.heap.size≤b)∧Below w.heap.size w w'∧Fresh.NW Fw w' ad' n' cp' a' l' c':=by
 have eg : ∀ args w,(callFunc 121 args).run Tryz.prog w = .ok (.enter 121 args) w:=enters_of Tryz.func121 (by kernel_rfl) rfl
 go_enter Tryz.func88,Tryz.ntmps88
 go_wp2_with fail
 have yd:=(zb_new (w.alloc (.cells #[.slice ad n cp,.bool s,.slice a l c] 27)) s2 a2 l2 c2).below (below_alloc _ (.cells #[.slice none 0 0,.bool false,.slice none 0 0] 27))
 have yr:=tb_new ((w.alloc (.cells #[.slice ad n cp,.bool s,.slice a l c] 27)).alloc (.cells #[.bool s2,.slice a2 l2 c2] 24)) none 0 0 false none 0 0
 have b0 : Below w.heap.size w (((w.alloc (.cells #[.slice ad n cp,.bool s,.slice a l c] 27)).alloc (.cells #[.bool s2,.slice a2 l2 c2] 24)).alloc (.cells #[.slice none 0 0,.bool false,.slice none 0 0] 27)):=below_alloc' (below_alloc' (below_alloc _ _) _) _
 rw [show (w.alloc (.cells #[.slice ad n cp,.bool s,.slice a l c] 27)).heap.size = w.heap.size + 1 from by simp] at yd
 rw [show ((w.alloc (.cells #[.slice ad n cp,.bool s,.slice a l c] 27)).alloc (.cells #[.bool s2,.slice a2 l2 c2] 24)).heap.size = w.heap.size + 1 + 1 from by simp] at yr
 generalize ((w.alloc (.cells #[.slice ad n cp,.bool s,.slice a l c] 27)).alloc (.cells #[.bool s2,.slice a2 l2 c2] 24)).alloc (.cells #[.slice none 0 0,.bool false,.slice none 0 0] 27) = wb at *
 have hr : w.heap.size≤w.heap.size + 1 + 1:=by omega
 replace hF : FLE Fw wb:=hF.le b0
 replace hP:=hP.below b0
 replace hz:=hz.below b0
 replace hd:=hd.below b0
 generalize w.heap.size + 1 + 1 = r at *
 generalize w.heap.size + 1 = q at *
 refine (each_n (Fw:=Fw) (F:=fun x => x % d) (C:=l2) (B:=B) eg (fun w' s5 a5 l5 c5 z5 hb5 hz5 hl5 => mod1_n (hF.le hb5) (yd.below hb5) hz5 (hd.below hb5) (by omega) hl2 h0) hF hP hz hl hn hl2).mono ?_
 rintro e w1 ⟨ad1,n1,cp1,s1,a1,l1,c1,rfl,hP1,hz1,hl1,hn1,hnew,k1,hNW⟩
 have y5:=yr.below k1
 have y0:=y5.c0
 have y1:=y5.c1
 have y2:=y5.c2
 have y3:=y5.f 0
 have y4:=y5.f 1
 have y6:=y5.f 2
 have g:=tb_set w1 r (.slice ad1 n1 cp1) (.bool s1) (.slice a1 l1 c1)
 have hzf:=hide (zn_tb hz1 y5 g)
 have hNWf:=hide (hNW.tb y5 g)
 have hPf:=hide (hP1.tb y5 g)
 have kf:=hide (below_grown (grow_step k1 b0) g hr)
 have hnew':=hide (fun (b off : Nat) (e : ad1 = some ⟨b,off,none⟩) => Nat.le_trans b0.size (hnew b off e))
 clear g k1 b0 eg hnew
 go_wp2
 refine bodyPost_ret (results_cell_row rfl _ _ r 27 _ (0,0) _ rfl (tb_fin y5 ad1 n1 cp1 s1 a1 l1 c1) Tryz.underlying27 rfl (by kernel_rfl)) rfl ?_
 exact ⟨ad1,n1,cp1,s1,a1,l1,c1,by simp,hPf.out,hzf.out,hl1,hn1,hnew'.out,kf.out,hNWf.out⟩
end Go.Proofs.YtepdckgfolkjjaaGreatDoor.Fx

namespace Go.Proofs.YtepdckgfolkjjaaGreatDoor
open Go.RowKit Go.Sort Go.Shelf
open Tm At

variable {w w' : World} {kd : Int} {ad a : Option Addr} {cp p r l c n B : Nat} {s : Bool}
def AZ (e : Ending) (er : Int) : Prop:=e = .returned (.tuple #[.agg #[.int .i64 0,.bool false,.slice none 0 0,.slice none 0 0,.bool false,.slice none 0 0],.int .i64 er])
def AN (w : World) (e : Ending) (f : Atm ⊕ Int) (B B0 : Nat) : Prop:=match f with
 | .inl f => AE w e f B B0
 | .inr er => AZ e er

set_option maxRecDepth 100000 in
set_option maxHeartbeats 3200000 in
theorem divi_0 {sd : Bool} {ld cd : Nat} {ap : Option Addr} {np : Nat} {sk : Bool} {ak : Option Addr} {lk ck : Nat} {al ne : Int}
  (hd : Zm w sd ad ld cd 0) (hld : ld≤1099511627776) :
  Calls Tryz.prog 38 #[.agg #[.int .i64 kd,.bool sd,.slice ad ld cd,.slice ap np cp,.bool sk,.slice ak lk ck],.int .i64 al,.int .i64 ne] w fun e w' => AZ e 11∧Below w.heap.size w w':=by
 go_enter Tryz.func38,Tryz.ntmps38
 go_wp2_with fail
 have y:=AB.new (w.alloc (.cells #[.int .i64 kd,.bool sd,.slice ad ld cd,.slice ap np cp,.bool sk,.slice ak lk ck] 29)) 0 false none 0 0 none 0 0 false none 0 0
 rw [show (w.alloc (.cells #[.int .i64 kd,.bool sd,.slice ad ld cd,.slice ap np cp,.bool sk,.slice ak lk ck] 29)).heap.size = w.heap.size + 1 from by simp] at y
 have b0 : Below w.heap.size w ((w.alloc (.cells #[.int .i64 kd,.bool sd,.slice ad ld cd,.slice ap np cp,.bool sk,.slice ak lk ck] 29)).alloc (.cells #[.int .i64 0,.bool false,.slice none 0 0,.slice none 0 0,.bool false,.slice none 0 0] 29)):=below_alloc' (below_alloc _ _) _
 generalize (w.alloc (.cells #[.int .i64 kd,.bool sd,.slice ad ld cd,.slice ap np cp,.bool sk,.slice ak lk ck] 29)).alloc (.cells #[.int .i64 0,.bool false,.slice none 0 0,.slice none 0 0,.bool false,.slice none 0 0] 29) = wb at *
 have hr : w.heap.size≤w.heap.size + 1:=by omega
 generalize w.heap.size + 1 = r at *
 refine (zsign_n (hd.below b0) hld).mono ?_
 rintro e w1 ⟨rfl,k1⟩
 rw [show cmpI 0 0 = 0 from rfl]
 replace y:=y.below k1
 have K1:=grow_step k1 b0
 have e0:=y.c0
 have e1:=y.c1
 have e2:=y.c2
 have e3:=y.c3
 have e4:=y.c4
 have e5:=y.c5
 have f0:=y.f 0
 have f1:=y.f 1
 have f2:=y.f 2
 have f3:=y.f 3
 have f4:=y.f 4
 have f5:=y.f 5
 have g6:=ab_set w1 r (.int .i64 0) (.bool false) (.slice none 0 0) (.slice none 0 0) (.bool false) (.slice none 0 0)
 have kf:=hide (below_grown K1 g6 hr)
 clear g6 K1 k1 b0
 go_wp2
 refine bodyPost_ret (results_ct rfl _ _ r 29 _ (0,0) _ rfl (ab_fin y 0 false none 0 0 none 0 0 false none 0 0) Tryz.underlying29 rfl (by kernel_rfl)) rfl ?_
 exact ⟨rfl,kf.out⟩


theorem formA_er {d : Int} {qs : List (Int × Int)} {k er : Int} (h : formA kd d qs k = .inr er) : er = 11 ∨ er = 1:=by
 unfold formA at h
 split at h
 ·cases h
 ·split at h
  ·cases h
  ·split at h
   ·split at h
    ·cases h; exact .inl rfl
    ·cases h
   ·cases h; exact .inr rfl
theorem cmpI_pos (X : Int) : 0 < cmpI X 0 ↔ 0 < X:=by
 unfold cmpI
 split <;> (try split) <;> omega
theorem At.Fit.kind5 {a : Atm} (h : Fit a) : a.kind = 0 ∨ a.kind = 1 ∨ a.kind = 2 ∨ a.kind = 3 ∨ a.kind = 4:=by
 have:=h.kinds
 omega

def A0v (e : Ending) : Prop:=e = .returned (.agg #[.int .i64 0,.bool false,.slice none 0 0,.slice none 0 0,.bool false,.slice none 0 0])
theorem aq3r {t : Bool} {b : Option Addr} {m d : Nat} (x : AB w p kd s a l c ad n cp t b m d) (hp : p < r) (k : Below r w w') :
  w'.cell? ⟨p,3,none⟩ = some (.slice ad n cp)∧w'.cell? ⟨p,4,none⟩ = some (.bool t)∧w'.cell? ⟨p,5,none⟩ = some (.slice b m d)∧Below r w w':=by
 have x' : AB w' p kd s a l c ad n cp t b m d:=(k.block p hp).trans x
 exact ⟨x'.c3,x'.c4,x'.c5,k⟩
def NG (w : World) (e : Ending) (f : Atm ⊕ Int) (B B0 : Nat) : Prop:=match f with
 | .inl f => AW w e (negA f) B B0
 | .inr _ => A0v e
theorem AB.neq {t : Bool} {b : Option Addr} {m d : Nat} (h : AB w p kd s a l c ad n cp t b m d) (hg : w.grownBy w' (some r)) (hne : p ≠ r) : AB w' p kd s a l c ad n cp t b m d:=(hg.block p h.lt (by simpa using hne)).trans h
theorem TB.neq (h : TB w p ad n cp s a l c) (hg : w.grownBy w' (some r)) (hne : p ≠ r) : TB w' p ad n cp s a l c:=(hg.block p h.lt (by simpa using hne)).trans h
theorem ab_put {k0 : Int} {s0 : Bool} {a0 : Option Addr} {l0 c0 : Nat} {ad0 : Option Addr} {n0 cp0 : Nat} {t0 : Bool} {b0 : Option Addr} {m0 d0 : Nat} {sd1 : Bool} {ad1 : Option Addr} {ld1 cd1 : Nat} {ap1 : Option Addr} {np1 : Nat} {sk1 : Bool} {ak1 : Option Addr} {lk1 ck1 : Nat} {zd zk : Int} {qs : List (Int × Int)}
  (x : AB w p k0 s0 a0 l0 c0 ad0 n0 cp0 t0 b0 m0 d0) (hz : Zn w sd1 ad1 ld1 cd1 zd) (hP : Pn w ap1 np1 qs B) (hk : Zn w sk1 ak1 lk1 ck1 zk) (hb : ∀ b off,ap1 = some ⟨b,off,none⟩→b ≠ p) (fk : Int) (cp1 : Nat) :
  w.grownBy ((((((w.setCell ⟨p,0,none⟩ (.int .i64 fk)).setCell ⟨p,1,none⟩ (.bool sd1)).setCell ⟨p,2,none⟩ (.slice ad1 ld1 cd1)).setCell ⟨p,3,none⟩ (.slice ap1 np1 cp1)).setCell ⟨p,4,none⟩ (.bool sk1)).setCell ⟨p,5,none⟩ (.slice ak1 lk1 ck1)) (some p)∧AB ((((((w.setCell ⟨p,0,none⟩ (.int .i64 fk)).setCell ⟨p,1,none⟩ (.bool sd1)).setCell ⟨p,2,none⟩ (.slice ad1 ld1 cd1)).setCell ⟨p,3,none⟩ (.slice ap1 np1 cp1)).setCell ⟨p,4,none⟩ (.bool sk1)).setCell ⟨p,5,none⟩ (.slice ak1 lk1 ck1)) p fk sd1 ad1 ld1 cd1 ap1 np1 cp1 sk1 ak1 lk1 ck1∧Zn ((((((w.setCell ⟨p,0,none⟩ (.int .i64 fk)).setCell ⟨p,1,none⟩ (.bool sd1)).setCell ⟨p,2,none⟩ (.slice ad1 ld1 cd1)).setCell ⟨p,3,none⟩ (.slice ap1 np1 cp1)).setCell ⟨p,4,none⟩ (.bool sk1)).setCell ⟨p,5,none⟩ (.slice ak1 lk1 ck1)) sd1 ad1 ld1 cd1 zd∧Pn ((((((w.setCell ⟨p,0,none⟩ (.int .i64 fk)).setCell ⟨p,1,none⟩ (.bool sd1)).setCell ⟨p,2,none⟩ (.slice ad1 ld1 cd1)).setCell ⟨p,3,none⟩ (.slice ap1 np1 cp1)).setCell ⟨p,4,none⟩ (.bool sk1)).setCell ⟨p,5,none⟩ (.slice ak1 lk1 ck1)) ap1 np1 qs B∧Zn ((((((w.setCell ⟨p,0,none⟩ (.int .i64 fk)).setCell ⟨p,1,none⟩ (.bool sd1)).setCell ⟨p,2,none⟩ (.slice ad1 ld1 cd1)).setCell ⟨p,3,none⟩ (.slice ap1 np1 cp1)).setCell ⟨p,4,none⟩ (.bool sk1)).setCell ⟨p,5,none⟩ (.slice ak1 lk1 ck1)) sk1 ak1 lk1 ck1 zk:=by
 have g6:=ab_set w p (.int .i64 fk) (.bool sd1) (.slice ad1 ld1 cd1) (.slice ap1 np1 cp1) (.bool sk1) (.slice ak1 lk1 ck1)
 have hU:=ab_noU x
 exact ⟨g6,ab_fin x fk sd1 ad1 ld1 cd1 ap1 np1 cp1 sk1 ak1 lk1 ck1,hz.grownU g6 hU,hP.away hb g6 hU,hk.grownU g6 hU⟩

theorem TN.new {rs : List Raw} {k : Int} (h : TN w w' ad n s a l c rs k B) : ∀ b off,ad = some ⟨b,off,none⟩→w.heap.size≤b:=by
 intro b off e
 obtain ⟨w1,h1,h2,⟨h3,h4⟩,_⟩:=h
 rcases h4 with ⟨h5,_⟩ | ⟨g,h5,hg,_⟩
 ·rw [h5] at e; cases e
 ·rw [h5] at e
  simp at e
  have:=h1.size
  omega

def PT (w : World) (e : Ending) (f : Atm ⊕ Int) (v : Int) (us : List (Int × Int)) (uk : Int) (B B0 : Nat) : Prop:=match f with
 | .inl f => ∃ rs f',Std rs∧(∀ u,csum rs u = csum (wo v f.ps ++ scl (csum f.ps v) us) u)∧formA f.kind f.d rs (f.k + csum f.ps v * uk) = .inl f'∧AW w e f' B B0
 | .inr _ => A0v e
theorem tb3_put {k0 : Int} {sd1 : Bool} {ad1 : Option Addr} {ld1 cd1 : Nat} {ap0 : Option Addr} {np0 cp0 : Nat} {sk0 : Bool} {ak0 : Option Addr} {lk0 ck0 : Nat} (x : AB w p k0 sd1 ad1 ld1 cd1 ap0 np0 cp0 sk0 ak0 lk0 ck0) (ap1 : Option Addr) (np1 cp1 : Nat) (sk1 : Bool) (ak1 : Option Addr) (lk1 ck1 : Nat) :
  w.grownBy (((w.setCell ⟨p,3,none⟩ (.slice ap1 np1 cp1)).setCell ⟨p,4,none⟩ (.bool sk1)).setCell ⟨p,5,none⟩ (.slice ak1 lk1 ck1)) (some p)∧AB (((w.setCell ⟨p,3,none⟩ (.slice ap1 np1 cp1)).setCell ⟨p,4,none⟩ (.bool sk1)).setCell ⟨p,5,none⟩ (.slice ak1 lk1 ck1)) p k0 sd1 ad1 ld1 cd1 ap1 np1 cp1 sk1 ak1 lk1 ck1 :=
 ⟨gb_trans (gb_trans (gb_set _ _ _ _) (gb_set _ _ _ _)) (gb_set _ _ _ _),heap_setCell_same _ p 5 _ _ _ (heap_setCell_same _ p 4 _ _ _ (heap_setCell_same _ p 3 _ _ _ x))⟩


set_option maxRecDepth 100000 in
set_option maxHeartbeats 1600000 in
theorem rconst6_n {b : Bool} :
  Calls Tryz.prog 74 #[.bool b] w fun e w' => e = .returned (.agg #[.int .i64 (if b then 1 else 0),.bool false,.slice none 0 0,.slice none 0 0,.bool false,.slice none 0 0])∧Below w.heap.size w w':=by
 go_enter Tryz.func74,Tryz.ntmps74
 have kb : ∀ v,Hid (Below w.heap.size w (w.alloc (.cells #[.int .i64 v,.bool false,.slice none 0 0,.slice none 0 0,.bool false,.slice none 0 0] 29))):=fun _ => below_alloc w _
 have hn : ∀ v,Hid ((w.alloc (.cells #[.int .i64 v,.bool false,.slice none 0 0,.slice none 0 0,.bool false,.slice none 0 0] 29)).heap[w.heap.size]? = some (.cells #[.int .i64 v,.bool false,.slice none 0 0,.slice none 0 0,.bool false,.slice none 0 0] 29 (0,0))):=fun _ => heap_alloc_new w _
 replace hn:=hide hn
 replace kb:=hide kb
 cases b
 ·go_wp2
  refine bodyPost_ret (results_cell_row rfl _ _ w.heap.size 29 _ (0,0) _ rfl (hn.out 0).out Tryz.underlying29 rfl (by kernel_rfl)) rfl ?_
  exact ⟨by simp,(kb.out 0).out⟩
 ·go_wp2
  refine bodyPost_ret (results_cell_row rfl _ _ w.heap.size 29 _ (0,0) _ rfl (hn.out 1).out Tryz.underlying29 rfl (by kernel_rfl)) rfl ?_
  exact ⟨by simp,(kb.out 1).out⟩

set_option maxRecDepth 100000 in
set_option maxHeartbeats 1600000 in
theorem coefs_n {ps : List (Int × Int)} (hP : Pr w ad n ps B) (hn : n≤262144) :
  Calls Tryz.prog 76 #[.agg #[.slice ad n cp,.bool s,.slice a l c]] w fun e w' => ∃ (v : Value) (N : List Raw),e = .returned v∧w'.ownsRow w.heap.size 24 2 v n (N.flatMap encN)∧N.length = n∧(∀ x ∈ N,okN w B x)∧N.map Raw.z = ps.map Prod.snd∧Below w.heap.size w w':=by
 go_enter Tryz.func76,Tryz.ntmps76
 go_wp2_with fail
 have x:=tb_new w ad n cp s a l c
 have b1:=below_alloc w (.cells #[.slice ad n cp,.bool s,.slice a l c] 27)
 have hrow1 : (w.alloc (.cells #[.slice ad n cp,.bool s,.slice a l c] 27)).ownsRow w.heap.size 24 2 (.slice none 0 0) 0 ([] : List Value):=⟨rfl,.inl ⟨rfl,rfl⟩⟩
 have hpb : Hid (w.heap.size≤w.heap.size):=Nat.le_refl w.heap.size
 generalize w.alloc (.cells #[.slice ad n cp,.bool s,.slice a l c] 27) = wb at *
 have hps:=hP.1
 obtain ⟨i0,hi,iz0,iz1,iz2⟩:=info_parts info2
 generalize hp : w.heap.size = p at *
 replace hp:=hide hp
 go_loopw [3,4] (fun vv i wr => ∃ (t : Nat) (N : List Raw),t≤n∧i = .int .i64 t∧N.length = t∧wr.ownsRow w.heap.size 24 2 vv t (N.flatMap encN)∧Hid (∀ x ∈ N,okN w B x)∧Hid (N.map Raw.z = (ps.take t).map Prod.snd)∧Below w.heap.size w wr∧Hid (TB wr p ad n cp s a l c)∧Hid (∀ g,vv.ownBlock = some g→g ≠ p)) (fun _ i _ => n - (intOf i).toNat)
 case atStart => exact ⟨0,[],Nat.zero_le _,rfl,rfl,hp.out.symm ▸ hrow1,(fun x hx => by cases hx),(show _ = _ by simp),hp.out.symm ▸ b1,x,(fun g e => by cases e)⟩
 case round =>
  obtain ⟨t,N,ht,rfl,hN,hrow,hok,hNz,kr,yr,hob⟩:=hrel
  have u0:=yr.out.c0
  by_cases htn : t < n
  ·obtain ⟨hps2,hP2⟩:=hP
   rcases hP2 with hP2 | ⟨bp,op,rfl,hP2⟩
   ·omega
   ·obtain ⟨s2,a2,l2,c2,e0,e1,e2,hz2,hl2,hv⟩:=(hP2.below kr).2 t (by omega)
    obtain ⟨s3,a3,l3,c3,f0,f1,f2,hz3,hl3, -⟩:=hP2.2 t (by omega)
    have hps' : Hid (ps.take (t + 1) = ps.take t ++ [ps[t]]):=List.take_succ_eq_append_getElem (l:=ps) (i:=t) (by omega)
    have hsame : s2 = s3∧a2 = a3∧l2 = l3∧c2 = c3:=by
     have g1:=e1.symm.trans ((kr.cell (p:=⟨bp,op + t * 3 + 1,none⟩) hP2.1).trans f1)
     have g2:=e2.symm.trans ((kr.cell (p:=⟨bp,op + t * 3 + 2,none⟩) hP2.1).trans f2)
     simp at g1 g2
     exact ⟨g1,g2.1,g2.2.1,g2.2.2⟩
    obtain ⟨rfl,rfl,rfl,rfl⟩:=hsame
    clear f0 f1 f2
    generalize ps[t] = pp at *
    have hbase:=hide (show w.heap.size≤wr.heap.size from kr.size)
    have kb:=below_alloc wr (.cells #[.bool s2,.slice a2 l2 c2] 24)
    have kab:=hide kb
    clear kb
    go_wp2_with (at_builtin; refine wpList_append_own_at _ rfl _ _ 86 rfl w.heap.size 24 i0 _ 2 32 Tryz.underlying86 hi iz0 iz1 iz2 rfl (by decide) _ _ _ rfl (hrow.alloc _) ⟨wr.heap.size,0,none⟩ 1 1 [.bool s2,.slice a2 l2 c2] rfl rfl (by simpa using two_new wr s2 a2 l2 c2) (two_one _ _ _ _) (by unfold maxLen; omega) (by omega) (by have:=hbase.out; simp; omega) ?_; intro v' w4 hown' hgrow hnil hat')
    have k4 : Below w.heap.size w w4:=(grow_step kab.out kr).grown hgrow (grow_step kab.out kr).size (fun k e => (hrow.lt k e).1)
    have hrl:=yr.out.lt
    have y4 : Hid (TB w4 p (some ⟨bp,op,none⟩) n cp s a l c):=(hgrow.block p (by simp; omega) (fun e => hob.out p e.symm rfl)).trans ((kab.out.block p hrl).trans yr.out)
    have hob4 : Hid (∀ g,v'.ownBlock = some g→g ≠ p):=(fun g e => by
     rcases hat' with h | h
     ·exact hob.out g (h.symm.trans e)
     ·rw [h] at e
      simp at e
      omega)
    refine ⟨⟨t + 1,N ++ [⟨pp.1,s2,a2,l2,c2,pp.2⟩],by omega,by go_num,by simp; omega,?_,?_,?_,k4,y4,hob4⟩,by simp [intOf]; omega⟩
    ·rw [List.flatMap_append]
     exact hown'
    ·exact fun x hx => (List.mem_append.1 hx).elim (hok.out x) (fun h => by rw [List.mem_singleton.1 h]; exact ⟨hz3,hl3⟩)
    ·show _ = _
     rw [List.map_append,hNz.out,hps'.out,List.map_append]
     rfl
  ·obtain rfl : t = n:=by omega
   rw [List.take_of_length_le (Nat.le_of_eq hps)] at hNz
   replace kr:=hide kr
   replace hrow:=hide hrow
   go_wp2
   go_ret
   exact ⟨_,N,rfl,hrow.out,hN,hok.out,hNz.out,kr.out⟩
end Go.Proofs.YtepdckgfolkjjaaGreatDoor

namespace Go.Proofs.YtepdckgfolkjjaaGreatDoor.At
open Tm

def mapP (F : Int→Int) (qs : List (Int × Int)) : List (Int × Int):=qs.map fun q => (q.1,F q.2)
theorem csum_eachP (F : Int→Int) (qs : List (Int × Int)) (v : Int) : csum (eachP F qs) v = csum (mapP F qs) v:=by
 induction qs with
 | nil => rfl
 | cons q qs ih =>
  rw [eachP_cons]
  by_cases h : F q.2 = 0
  ·rw [if_pos h,ih]
   simp [mapP,csum,h]
  ·rw [if_neg h]
   simp only [mapP,List.map_cons,csum] at ih ⊢
   rw [ih]
theorem nz_mapP {F : Int→Int} {qs : List (Int × Int)} (h : Std qs) : nz (lays [] (mapP F qs)) = eachP F qs :=
 (lays_eq (eachP_std h) fun v => csum_eachP F qs v).symm
theorem eachP_mapP {F : Int→Int} {qs : List (Int × Int)} (h : ∀ q ∈ qs,F q.2 ≠ 0) : eachP F qs = mapP F qs:=eachP_ne h
theorem gcdZ_snoc (qs : List (Int × Int)) (m : Int) : gcdZ (qs.map Prod.snd ++ [m]) = gcdL m.natAbs qs:=by
 have e : gcdZ (qs.map Prod.snd ++ [m]) = gcdL 0 (qs ++ [(0,m)]):=by
  unfold gcdZ gcdL
  rw [List.foldl_append,List.foldl_append,List.foldl_map]
  rfl
 rw [e]
 refine gcdL_eq fun d => ⟨fun ⟨_,h⟩ => ⟨?_,fun q hq => h q (by simp [hq])⟩,fun ⟨h1,h2⟩ => ⟨⟨0,rfl⟩,fun q hq => ?_⟩⟩
 ·exact Int.natCast_dvd_natCast.1 (Int.dvd_natAbs.2 (h (0,m) (by simp)))
 ·rcases List.mem_append.1 hq with hq | hq
  ·exact h2 q hq
  ·obtain rfl:=List.mem_singleton.1 hq
   exact Int.dvd_natAbs.1 (Int.natCast_dvd_natCast.2 h1)
theorem gcdZ_all (qs : List (Int × Int)) : gcdZ (qs.map Prod.snd) = gcdL 0 qs:=by
 unfold gcdZ gcdL
 rw [List.foldl_map]
end Go.Proofs.YtepdckgfolkjjaaGreatDoor.At

namespace Go.Proofs.YtepdckgfolkjjaaGreatDoor
open Go.RowKit Go.Sort Go.Shelf
open Tm At

variable {w w' : World} {o p q n cp l c l2 c2 : Nat} {a ad a2 : Option Addr} {s s2 : Bool}
theorem mapP_snoc (F : Int→Int) (qs : List (Int × Int)) (q : Int × Int) : mapP F (qs ++ [q]) = mapP F qs ++ [(q.1,F q.2)]:=by simp [mapP]
theorem anyH_append {P : Program} {o : Oper} {a : Act} {K : Act→World→Prop} {Q : Exit→Act→World→Prop} {ys : Nat→Option Bool} (hgd : o.guard = none) (s x : Operand) (t : TypeId)
  (ho : o.op = .call { callee:=.builtin .append,args:=#[s,x],argTypes:=#[t,t] }) (v1 v2 : Value) (hs : a.eval s = v1) (hx : a.eval x = v2) (F : Value→World→Prop)
  (hr : ∃ v' w',(Builtin.append_ #[t,t] o.type #[v1,v2]).run P w = .ok v' w'∧F v' w')
  (h : ∀ v' w',F v' w'→K (a.put o.dst v') w') : if Region.wanted o ys = true then Oper.wp P o a w K Q else K (a.put o.dst undef) w:=by
 obtain ⟨v',w',hr,hF⟩:=hr
 rw [if_pos (by simp [Region.wanted,hgd])]
 unfold Oper.wp execOp
 simp only [ho,resolve,invoke,builtin,Sem.run_bind,Sem.run_pure,Result.andThen_ok,List.map_toArray,List.map_cons,List.map_nil,hs,hx,hr]
 exact h v' w' hF
theorem nk2 {wo : World} {bp f t : Nat} {u0 u1 u2 : Value} (x : TB wo p ad n cp s a l c) (hpo : p ≠ o) (g0 : wo.cell? ⟨bp,f + t * 3,none⟩ = some u0) (g1 : wo.cell? ⟨bp,f + t * 3 + 1,none⟩ = some u1) (g2 : wo.cell? ⟨bp,f + t * 3 + 2,none⟩ = some u2) (hb : bp < wo.heap.size) (hbo : bp ≠ o) (z : ZB wo q s2 a2 l2 c2) (hqo : q ≠ o) (hg : wo.grownBy w' (some o)) :
  w'.cell? ⟨p,0,none⟩ = some (.slice ad n cp)∧w'.cell? ⟨bp,f + t * 3,none⟩ = some u0∧w'.cell? ⟨bp,f + t * 3 + 1,none⟩ = some u1∧w'.cell? ⟨bp,f + t * 3 + 2,none⟩ = some u2∧w'.cell? ⟨q,0,none⟩ = some (.bool s2)∧w'.cell? ⟨q,1,none⟩ = some (.slice a2 l2 c2)∧wo.grownBy w' (some o):=by
 obtain ⟨h1,h2,h3,h4,h5⟩:=nk x hpo g0 g1 g2 hb hbo hg
 have z' : ZB w' q s2 a2 l2 c2:=(hg.block q z.lt (by simpa using hqo)).trans z
 exact ⟨h1,h2,h3,h4,z'.c0,z'.c1,h5⟩


theorem sk5 {wb : World} {bp f t : Nat} {u0 u1 u2 : Value} (x : TB wb q ad n cp s a l c) (z : ZB wb p s2 a2 l2 c2) (g0 : wb.cell? ⟨bp,f + t * 3,none⟩ = some u0) (g1 : wb.cell? ⟨bp,f + t * 3 + 1,none⟩ = some u1) (g2 : wb.cell? ⟨bp,f + t * 3 + 2,none⟩ = some u2) (hb : bp < wb.heap.size) (k : Below wb.heap.size wb w') :
  w'.cell? ⟨q,0,none⟩ = some (.slice ad n cp)∧w'.cell? ⟨bp,f + t * 3,none⟩ = some u0∧w'.cell? ⟨bp,f + t * 3 + 1,none⟩ = some u1∧w'.cell? ⟨bp,f + t * 3 + 2,none⟩ = some u2∧w'.cell? ⟨p,0,none⟩ = some (.bool s2)∧w'.cell? ⟨p,1,none⟩ = some (.slice a2 l2 c2)∧Below wb.heap.size wb w' :=
 ⟨(x.below k).c0,(k.cell (p:=⟨bp,f + t * 3,none⟩) hb).trans g0,(k.cell (p:=⟨bp,f + t * 3 + 1,none⟩) hb).trans g1,(k.cell (p:=⟨bp,f + t * 3 + 2,none⟩) hb).trans g2,(z.below k).c0,(z.below k).c1,k⟩


theorem lq7 {s3 : Bool} {a3 : Option Addr} {l3 c3 : Nat} (x : TB w p ad n cp s a l c) (z : ZB w o s2 a2 l2 c2) (z2 : ZB w q s3 a3 l3 c3) (k : Below w.heap.size w w') :
  w'.cell? ⟨p,1,none⟩ = some (.bool s)∧w'.cell? ⟨p,2,none⟩ = some (.slice a l c)∧w'.cell? ⟨o,0,none⟩ = some (.bool s2)∧w'.cell? ⟨o,1,none⟩ = some (.slice a2 l2 c2)∧w'.cell? ⟨q,0,none⟩ = some (.bool s3)∧w'.cell? ⟨q,1,none⟩ = some (.slice a3 l3 c3)∧Below w.heap.size w w' :=
 ⟨(x.below k).c1,(x.below k).c2,(z.below k).c0,(z.below k).c1,(z2.below k).c0,(z2.below k).c1,k⟩


set_option maxRecDepth 100000 in
set_option maxHeartbeats 1600000 in
theorem rsame6_n {s1 : Bool} {a1 : Option Addr} {l1 c1 : Nat} {z1 z2 : Int} (h1 : Zm w s1 a1 l1 c1 z1) (h2 : Zm w s2 a2 l2 c2 z2) (hl1 : l1≤1099511627776) (hl2 : l2≤1099511627776) :
  Calls Tryz.prog 69 #[.agg #[.bool s1,.slice a1 l1 c1],.agg #[.bool s2,.slice a2 l2 c2]] w fun e w' => e = .returned (.bool (cmpI z1 z2 == 0))∧Below w.heap.size w w':=by
 go_enter Tryz.func69,Tryz.ntmps69
 go_wp2_with fail
 have x:=(zb_new w s1 a1 l1 c1).below (below_alloc _ (.cells #[.bool s2,.slice a2 l2 c2] 24))
 have x2:=zb_new (w.alloc (.cells #[.bool s1,.slice a1 l1 c1] 24)) s2 a2 l2 c2
 have b0 : Below w.heap.size w ((w.alloc (.cells #[.bool s1,.slice a1 l1 c1] 24)).alloc (.cells #[.bool s2,.slice a2 l2 c2] 24)):=below_alloc' (below_alloc _ _) _
 rw [show (w.alloc (.cells #[.bool s1,.slice a1 l1 c1] 24)).heap.size = w.heap.size + 1 from by simp] at x2
 replace h1:=h1.below b0
 replace h2:=h2.below b0
 generalize (w.alloc (.cells #[.bool s1,.slice a1 l1 c1] 24)).alloc (.cells #[.bool s2,.slice a2 l2 c2] 24) = wb at *
 generalize hp : w.heap.size = p at *
 replace hp:=hide hp
 generalize p + 1 = q at *
 refine (rcmp2_n h1 h2 hl1 hl2).mono ?_
 rintro e w1 ⟨rfl,k1⟩
 generalize hcz : cmpI z1 z2 = cz at *
 replace hcz:=hide hcz
 go_wp2
 go_ret
 exact ⟨by simp [hcz.out],hp.out.symm ▸ b0.trans (k1.mono (Nat.le_of_lt x.lt))⟩

theorem cmpI_nil0 (X : Int) : cmpI X 0 = 0 ↔ X = 0:=by
 unfold cmpI
 split <;> (try split) <;> omega

theorem zb_gb {b : Nat} (z : ZB w b s a l c) (hg : w.grownBy w' (some o)) (hne : b ≠ o) : ZB w' b s a l c:=(hg.block b z.lt (by simpa using hne)).trans z
theorem ab_gb {r : Nat} {kd : Int} {t : Bool} {b : Option Addr} {m d : Nat} (h : AB w p kd s a l c ad n cp t b m d) (hg : w.grownBy w' (some r)) (hne : p ≠ r) : AB w' p kd s a l c ad n cp t b m d:=(hg.block p h.lt (by simpa using hne)).trans h
theorem divG_nil {D : Nat} (h0 : (0 : Int) < (D : Int)) {k : Int} (hk : 0≤k∧k < (D : Int)) (nt : Bool) : divG (if nt = true then 4 else 3) D [] k = ⟨if ((cmpI k 0 == 0) != nt) = true then 1 else 0,0,[],0⟩:=by
 have hd : ((D : Nat) : Int) ∣ k ↔ k = 0:=by
  constructor
  ·intro h
   rcases Int.lt_or_eq_of_le hk.1 with h1 | h1
   ·have:=Int.le_of_dvd h1 h
    omega
   ·exact h1.symm
  ·rintro rfl
   exact Int.dvd_zero _
 have hc : cmpI k 0 = 0 ↔ k = 0:=cmpI_nil0 k
 have hDD : (D : Int) / (D : Int) = 1:=Int.ediv_self (by omega)
 unfold divG
 rw [show gcdL D [] = D from rfl]
 by_cases h : k = 0
 ·have h2 : cmpI k 0 = 0:=hc.2 h
  rw [if_neg (by simpa using hd.2 h),if_pos hDD,h2]
  cases nt <;> simp
 ·have h2 : cmpI k 0 ≠ 0:=fun e => h (hc.1 e)
  rw [if_pos (fun e => h (hd.1 e))]
  have h3 : (cmpI k 0 == 0) = false:=by rw [beq_eq_false_iff_ne]; exact h2
  rw [h3]
  cases nt <;> simp




set_option maxRecDepth 100000 in
set_option maxHeartbeats 1600000 in
theorem itoa_small (i : Nat) (h : i < 100) (w : World) :
  Calls Tryz.prog 101 #[.int .i64 i] w fun e w' => e = .returned (.string ⟨(Lib.decDigits i).toArray⟩)∧Below w.heap.size w w':=by
 have hf : Calls Tryz.prog 142 #[.int .i64 i,.int .i64 10] w fun e w' => e = .returned (.string ⟨(Lib.decDigits i).toArray⟩)∧Below w.heap.size w w':=by
  go_enter Tryz.func142,Tryz.ntmps142
  go_wp2_with (go_at_call 161; refine (small_lay i h _).mono ?_; rintro e w' ⟨rfl,rfl⟩)
  go_ret
  exact ⟨rfl,Below.refl _ _⟩
 have hi : Calls Tryz.prog 125 #[.int .i64 i] w fun e w' => e = .returned (.string ⟨(Lib.decDigits i).toArray⟩)∧Below w.heap.size w w':=by
  go_enter Tryz.func125,Tryz.ntmps125
  go_wp2_with fail
  refine hf.mono ?_
  rintro e w' ⟨rfl,hb⟩
  go_wp2
  go_ret
  exact ⟨rfl,hb⟩
 go_enter Tryz.func101,Tryz.ntmps101
 go_wp2_with fail
 refine hi.mono ?_
 rintro e w' ⟨rfl,hb⟩
 go_wp2
 go_ret
 exact ⟨rfl,hb⟩

set_option maxRecDepth 100000 in
set_option maxHeartbeats 1600000 in
theorem sign6_n : Calls Tryz.prog 100 #[.agg #[.bool s,.slice a l c]] w fun e w' => e = .returned (.string ⟨#[if s then 45 else 43]⟩)∧Below w.heap.size w w':=by
 have hk:=below_alloc w (.cells #[.bool s,.slice a l c] 24)
 cases s with
 | true =>
  go_enter Tryz.func100,Tryz.ntmps100
  go_wp2
  go_ret
  exact ⟨rfl,hk⟩
 | false =>
  go_enter Tryz.func100,Tryz.ntmps100
  go_wp2
  go_ret
  exact ⟨rfl,hk⟩

theorem ztext_one : zText (((1 : Int).natAbs : Nat) : Int) = ⟨#[49]⟩:=by
 unfold zText
 rw [if_neg (by decide)]
 show (⟨(Lib.decDigits 1).toArray⟩ : ByteArray) = _
 rw [Lib.decDigits_one (by decide)]
 rfl
theorem dec_sm6 {v : Nat} (h : v < 100) : (Lib.decDigits v).length≤2:=by
 by_cases h1 : v < 10
 ·rw [Lib.decDigits_one h1]; simp
 ·rw [Lib.decDigits_two h1 h]; simp

theorem ba_cons (x : UInt8) (D : List UInt8) : (⟨#[x]⟩ ++ ⟨D.toArray⟩ : ByteArray) = ⟨(x :: D).toArray⟩:=by
 apply ByteArray.ext
 simp [ByteArray.data_append]
theorem Zn.plus {z : Int} (h : Zn w s a l c z) (hz : 0≤z) : s = false:=by
 obtain ⟨n,hn,rfl,h0⟩:=h
 cases s with
 | false => rfl
 | true =>
  have h1:=hn.nm.nonneg
  have h2:=h0 rfl
  simp [sg] at hz
  omega

set_option maxRecDepth 100000 in
set_option maxHeartbeats 6400000 in
theorem termText_one {ap : Option Addr} {sk : Bool} {ak : Option Addr} {lk ck : Nat} {k : Int} {v B : Nat} (hP : Pn w ap 1 [((v : Int),1)] B) (hk : Zn w sk ak lk ck k) (hlk : lk≤B) (hB : B≤1048576) (hv : v < 100) (hk0 : 0≤k) (htab : Tab w) :
  Calls Tryz.prog 47 #[.agg #[.slice ap 1 cp,.bool sk,.slice ak lk ck]] w fun e w' => e = .returned (.string ⟨(118 :: Lib.decDigits v ++ if k = 0 then [] else 43 :: Lib.decDigits k.toNat).toArray⟩)∧Below w.heap.size w w':=by
 go_enter Tryz.func47,Tryz.ntmps47
 go_wp2_with fail
 have x:=(tb_new w ap 1 cp sk ak lk ck).below (below_alloc _ (.cells #[.pointer none,.slice none 0 0] 102))
 have hbu:=builder_new 102 5 (w.alloc (.cells #[.slice ap 1 cp,.bool sk,.slice ak lk ck] 27))
 rw [show (w.alloc (.cells #[.slice ap 1 cp,.bool sk,.slice ak lk ck] 27)).heap.size = w.heap.size + 1 from by simp] at hbu
 have hsz : w.heap.size + 1 + 1≤((w.alloc (.cells #[.slice ap 1 cp,.bool sk,.slice ak lk ck] 27)).alloc (.cells #[.pointer none,.slice none 0 0] 102)).heap.size:=by simp
 have b0 : Below w.heap.size w ((w.alloc (.cells #[.slice ap 1 cp,.bool sk,.slice ak lk ck] 27)).alloc (.cells #[.pointer none,.slice none 0 0] 102)):=below_alloc' (below_alloc _ _) _
 generalize ((w.alloc (.cells #[.slice ap 1 cp,.bool sk,.slice ak lk ck] 27)).alloc (.cells #[.pointer none,.slice none 0 0] 102)) = wb at *
 have hr1 : w.heap.size < w.heap.size + 1:=by omega
 have hrb : w.heap.size + 1 + 1≤wb.heap.size:=hsz
 generalize w.heap.size + 1 = r at *
 generalize hp : w.heap.size = p at *
 replace hp:=hide hp
 replace b0 : Hid (Below w.heap.size w wb):=hp.out.symm ▸ b0
 go_loopw [10] (fun i wr => ((i = .int .i64 0∧Lib.IsBuilder 102 5 r r (Lib.byteCells []) wr) ∨ (i = .int .i64 1∧Lib.IsBuilder 102 5 r r (Lib.byteCells (118 :: Lib.decDigits v)) wr))∧Hid (Below r wb wr)) (fun i _ => 1 - (intOf i).toNat)
 case atStart => exact ⟨.inl ⟨rfl,hbu⟩,Below.refl _ _⟩
 case round =>
  obtain ⟨hcase,kr⟩:=hrel
  clear hbu
  have kw : Hid (Below w.heap.size w wr):=b0.out.trans (kr.out.mono (by have:=hp.out; omega))
  have hrw : r + 1≤wr.heap.size:=Nat.le_trans hrb kr.out.size
  have xr : TB wr p ap 1 cp sk ak lk ck:=(kr.out.block p hr1).trans x
  rcases hcase with ⟨rfl,hbu⟩ | ⟨rfl,hbu⟩
  ·obtain ⟨-,hPP⟩:=hP.below kw.out
   rcases hPP with h0 | ⟨bp,op,rfl,hbp,hPP⟩
   ·omega
   obtain ⟨s,a,l,c,e0,e1,e2,hz,hl, -⟩:=hPP 0 (by simp)
   rw [show ([((v : Int),(1 : Int))] : List (Int × Int))[0] = ((v : Int),1) from rfl] at e0 hz
   dsimp only at e0 hz
   rw [Nat.zero_mul,Nat.add_zero] at e0 e1 e2
   obtain rfl:=hz.plus (by decide)
   have pb:=pb_new wr v false a l c
   have kp:=below_alloc wr (.cells #[.int .i64 v,.bool false,.slice a l c] 59)
   have hbup:=builder_below hbu kp
   have HH:=hide (And.intro pb (And.intro kp (And.intro hbup (hz.below kp))))
   clear pb kp hbup hPP
   go_wp2_with fail
   obtain ⟨pb,kp,hbup,hzp⟩:=HH.out
   clear HH hbu hz e0 e1 e2
   have hqr : r + 1≤(wr.alloc (.cells #[.int .i64 v,.bool false,.slice a l c] 59)).heap.size:=Nat.le_trans hrw kp.size
   replace kr:=hide (kr.out.trans (kp.mono (by omega)))
   generalize wr.alloc (.cells #[.int .i64 v,.bool false,.slice a l c] 59) = wp at *
   refine (abs_n hzp.zm (by omega)).mono ?_
   rintro e w1 ⟨s1,a1,l1,c1,rfl,hz1,k1,hl1⟩
   replace hbup:=builder_below hbup k1
   replace pb:=pb.below9 k1
   replace kr:=hide (kr.out.trans (k1.mono (by omega)))
   have hq1 : r + 1≤w1.heap.size:=Nat.le_trans hqr k1.size
   have ht1 : Tab w1:=htab.below (b0.out.trans (kr.out.mono (by have:=hp.out; omega)))
   clear k1 hzp kp
   go_wp2_with fail
   refine (ztext_n hz1.zm (by omega) ht1).mono ?_
   rintro e w2 ⟨rfl,k2⟩
   rw [ztext_one]
   replace hbup:=builder_below hbup k2
   replace pb:=pb.below9 k2
   replace kr:=hide (kr.out.trans (k2.mono (by omega)))
   have hq2 : r + 1≤w2.heap.size:=Nat.le_trans hq1 k2.size
   clear k2 hz1 ht1
   have q0:=pb.c0
   go_wp2_with fail
   refine (itoa_small v hv _).mono ?_
   rintro e w3 ⟨rfl,k3⟩
   replace hbup:=builder_below hbup k3
   replace kr:=hide (kr.out.trans (k3.mono (by omega)))
   have hq3 : r + 1≤w3.heap.size:=Nat.le_trans hq2 k3.size
   have hd2:=dec_sm6 hv
   clear k3 q0
   generalize hD : Lib.decDigits v = D at *
   go_wp2_with fail
   rw [ba_cons]
   refine (write_lay r r _ _ w3 hbup (by rw [Lib.byteCells_length,size_list]; simp; omega) (by omega)).mono ?_
   rintro e w4 ⟨rfl,hbu4,k4⟩
   rw [strCells_list,byteCells_append,List.nil_append] at hbu4
   have kr4:=hide (kr.out.trans k4)
   clear hbup k4 kr
   go_wp2
   go_round
   case rel => exact ⟨.inr ⟨rfl,.inr (by rw [hD]; exact hbu4)⟩,kr4.out⟩
   case measure => simp [intOf]
  ·have q1:=xr.c1
   have q2:=xr.c2
   go_wp2_with fail
   have hkr:=hk.below kw.out
   refine (zsign_n hkr.zm (by omega)).mono ?_
   rintro e w1 ⟨rfl,k1⟩
   have hbu1:=builder_below hbu k1
   have x1:=xr.below k1
   have hk1:=hkr.below k1
   have hq1 : r + 1≤w1.heap.size:=Nat.le_trans hrw k1.size
   have kr1:=hide (kr.out.trans (k1.mono (by omega)))
   clear hbu xr hkr k1 q1 q2 kr
   by_cases hk00 : k = 0
   ·subst hk00
    rw [show cmpI 0 0 = 0 from rfl]
    go_wp2_with fail
    refine (string_lay _ _ _ w1 hbu1 (by omega)).mono ?_
    rintro e w2 ⟨rfl,k2⟩
    have kf : Hid (Below w.heap.size w w2):=(b0.out.trans ((kr1.out.trans k2).mono (by have:=hp.out; omega)))
    clear k2
    go_wp2
    go_ret
    exact ⟨by first | rfl | simp,kf.out⟩
   ·rw [show cmpI k 0 = 1 from cmpI_gt (by omega)]
    obtain rfl:=hk1.plus hk0
    have ht1 : Tab w1:=htab.below (b0.out.trans (kr1.out.mono (by have:=hp.out; omega)))
    obtain ⟨n9,h9,h8, -⟩:=id hk1
    have hkn : Nm w1 ak lk ck k:=by
     have h7 : k = n9:=by simpa [sg] using h8
     rw [h7]; exact h9.nm
    have hdl:=dec_bound hkn
    have hzt : Hid (zText ((k.natAbs : Nat) : Int) = ⟨(Lib.decDigits k.toNat).toArray⟩):=(show _ = _ by unfold zText; rw [if_neg (by omega)]; congr 3; omega)
    have hres : Hid ((118 :: (Lib.decDigits v ++ if k = 0 then [] else 43 :: Lib.decDigits k.toNat)) = 118 :: Lib.decDigits v ++ (43 :: Lib.decDigits k.toNat)):=(show _ = _ by rw [if_neg hk00]; rfl)
    clear hkn h9 h8
    generalize hDk : Lib.decDigits k.toNat = D at *
    replace hDk:=hide hDk
    replace hdl : D.length≤10485770:=by omega
    have hrle : r≤w1.heap.size:=by omega
    have hdv:=dec_sm6 hv
    go_wp2_with fail
    have q1:=x1.c1
    have q2:=x1.c2
    go_region_with (first | (go_at_call 100; with_reducible refine (sign6_n).mono ?_; rintro e w2 ⟨rfl,hg2⟩; have q3:=(TB.below x1 (show Below w1.heap.size w1 w2 from gw)).c1; have q4:=(TB.below x1 (show Below w1.heap.size w1 w2 from gw)).c2) | (go_at_call 87; with_reducible refine (abs_n (Zn.zm (Zn.below hk1 gw)) (by omega)).mono ?_; rintro e w3 ⟨s3,a3,l3,c3,rfl,hz3,hg3,hl3⟩) | (go_at_call 48; with_reducible refine (ztext_n (Zn.zm (Zn.below hz3 gw)) (by omega) (Tab.below ht1 gw)).mono ?_; rintro e w4 ⟨rfl,hg4⟩; rw [hzt.out]) | (go_at_call 99; refine (write_lay r r _ _ _ (builder_below hbu1 gw) (by rw [Lib.byteCells_length,ba_cons,size_list]; simp; omega) (Nat.le_trans hrle (Below.size (show Below w1.heap.size w1 _ from gw)))).mono ?_; rintro e w5 ⟨rfl,hbu5,hW⟩))
    all_goals
     rw [ba_cons,strCells_list,byteCells_append,← hres.out] at hbu5
     have kw5 : Below r w1 w5:=Below.trans (Below.mono (show Below w1.heap.size w1 w4 from gw) hrle) hW
     have hs5 : r≤w5.heap.size:=Nat.le_trans hrle kw5.size
     have kr5:=hide (kr1.out.trans kw5)
     clear kw5 hW hg2 hg3 hg4 hbu1 kr1
     go_wp2_with fail
     refine (string_lay _ _ _ w5 (.inr hbu5) hs5).mono ?_
     rintro e w6 ⟨rfl,k6⟩
     have kf : Hid (Below w.heap.size w w6):=(b0.out.trans ((kr5.out.trans k6).mono (by have:=hp.out; omega)))
     clear k6
     go_wp2
     go_ret
     exact ⟨by simp; exact hDk.out.symm,kf.out⟩

theorem form_div : divF 3 (-6) [(0,4)] 0 = ⟨3,3,[(0,1)],0⟩:=by rfl
theorem form_less : lessF [(1,2)] 3 = ⟨2,0,[(1,1)],2⟩:=by rfl
theorem form_div2 : divF 3 3 [(0,1)] 0 = ⟨3,3,[(0,1)],0⟩:=by rfl
theorem form_less2 : lessF [(1,1)] 2 = ⟨2,0,[(1,1)],2⟩:=by rfl
theorem zt_3 : zText 3 = ⟨#[51]⟩:=by
 unfold zText
 rw [if_neg (by decide)]
 show (⟨(Lib.decDigits 3).toArray⟩ : ByteArray) = _
 rw [Lib.decDigits_one (by decide)]
 rfl
theorem tt_0 : (⟨(118 :: Lib.decDigits 0 ++ if (0 : Int) = 0 then [] else 43 :: Lib.decDigits (0 : Int).toNat).toArray⟩ : ByteArray) = ⟨#[118,48]⟩:=by
 rw [if_pos rfl,Lib.decDigits_one (by decide)]
 rfl
theorem tt_1 : (⟨(118 :: Lib.decDigits 1 ++ if (2 : Int) = 0 then [] else 43 :: Lib.decDigits (2 : Int).toNat).toArray⟩ : ByteArray) = ⟨#[118,49,43,50]⟩:=by
 rw [if_neg (by decide),show (2 : Int).toNat = 2 from rfl,Lib.decDigits_one (by decide),Lib.decDigits_one (by decide)]
 rfl
theorem aq6 {kd : Int} {t : Bool} {a5 : Option Addr} {m d : Nat} (x : AB w p kd s a l c ad n cp t a5 m d) (k : Below w.heap.size w w') :
  w'.cell? ⟨p,1,none⟩ = some (.bool s)∧w'.cell? ⟨p,2,none⟩ = some (.slice a l c)∧w'.cell? ⟨p,3,none⟩ = some (.slice ad n cp)∧w'.cell? ⟨p,4,none⟩ = some (.bool t)∧w'.cell? ⟨p,5,none⟩ = some (.slice a5 m d)∧Below w.heap.size w w' :=
 ⟨(x.below k).c1,(x.below k).c2,(x.below k).c3,(x.below k).c4,(x.below k).c5,k⟩
theorem std_1 (v : Int) (c : Int) (h : c ≠ 0) : Std [(v,c)]:=by
 refine ⟨?_,?_⟩ <;> simp [h]

end Go.Proofs.YtepdckgfolkjjaaGreatDoor
