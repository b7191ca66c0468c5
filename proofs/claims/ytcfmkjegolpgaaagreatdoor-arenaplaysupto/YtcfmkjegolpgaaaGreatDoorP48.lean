/-
 Several texts in one: EX,EZ,H3.
-/
import Derived.Test.YtcfmkjegolpgaaaGreatDoorP47
import Derived.Test.YtcfmkjegolpgaaaGreatDoorP46
namespace Go.Proofs.YtcfmkjegolpgaaaGreatDoor
open Go.RowKit Go.Sort Go.Shelf
open Tm At
namespace Nt

theorem map_exact {w : World} {P : Program} {k : TypeId} {R : Value→Option (DataW Value × List MemPlace)} {b n : Nat} {D : DataW Value} (h : w.ownsMap P k R b n D) : w.ownsMap P k R b (Maps.size D) D:=by
 obtain ⟨es,clock,hb,F,hs,rfl⟩:=h
 refine ⟨es,clock,hb,F,?_,rfl⟩
 simp [Maps.size,Go.length_sorted]
def MapI (D : DataW Value) (L : List Nd) (n j : Nat) : Prop :=
 (∀ i (h : i < L.length) z,i < n ∨ n + j≤i→D.atKey (.string (txt L[i])) z = .lit (.int .i64 i))∧∀ t,(∀ i (h : i < L.length),i < n ∨ n + j≤i→txt L[i] ≠ t)→∀ z,D.atKey (.string t) z = z
theorem mapI_start {D : DataW Value} {L : List Nd} {n : Nat} (h : MapIs D L) : MapI D L n 0:=by
 refine ⟨fun i hi z _ => h.1 i hi z,fun t ht z => h.2 t (fun x hx e => ?_) z⟩
 obtain ⟨i,hi,rfl⟩:=List.getElem_of_mem hx
 exact ht i hi (by omega) e
theorem mapI_end {D : DataW Value} {L : List Nd} {n j : Nat} (h : MapI D L n j) (hn : n≤L.length) (hj : L.length≤n + j) : MapIs D (L.take n):=by
 refine ⟨fun i hi z => ?_,fun t ht z => h.2 t (fun i hi hor e => ?_) z⟩
 ·have hi2 : i < n:=by rw [List.length_take] at hi; omega
  rw [List.getElem_take]
  exact h.1 i (by omega) z (.inl hi2)
 ·have hi2 : i < n:=by omega
  refine ht L[i] ?_ e
  exact List.mem_take_iff_getElem.2 ⟨i,by omega,rfl⟩
theorem mapI_del {D : DataW Value} {L : List Nd} {n j : Nat} (h : MapI D L n j) (hU : Uq L) (hi : n + j < L.length) : MapI (D.del (.string (txt L[n + j]))) L n (j + 1):=by
 have hne : ∀ i (h : i < L.length),i ≠ n + j→txt L[i] ≠ txt L[n + j]:=fun i h hij e => by
  have e2:=txt_inj e
  exact hij (hU i (n + j) L[i] (List.getElem?_eq_getElem h) (by rw [e2]; exact List.getElem?_eq_getElem hi))
 refine ⟨fun i h9 z hor => ?_,fun t ht z => ?_⟩
 ·rw [Maps.atKey_del_other (fun e => hne i h9 (by omega) (Lit.string.inj e))]
  exact h.1 i h9 z (by omega)
 ·by_cases e : t = txt L[n + j]
  ·subst e
   exact Maps.atKey_del_same z
  ·rw [Maps.atKey_del_other (fun e2 => e (Lit.string.inj e2))]
   refine h.2 t (fun i h9 hor e3 => ?_) z
   by_cases hij : i = n + j
   ·subst hij
    exact e e3.symm
   ·exact ht i h9 (by omega) e3

theorem map_move {w w' : World} {P : Program} {k : TypeId} {R : Value→Option (DataW Value × List MemPlace)} {b n : Nat} {D : DataW Value} (h : w.ownsMap P k R b n D) (hb : w'.heap[b]? = w.heap[b]?) : w'.ownsMap P k R b n D:=by
 obtain ⟨es,clock,hb2,h2⟩:=h
 exact ⟨es,clock,hb.trans hb2,h2⟩
theorem turned_block {w w' : World} {b : Nat} (h : w.mapTurned w' b) : ButF (fun c => c = b) w w':=by
 obtain ⟨es,clock,es',clock',_,rfl⟩:=h
 refine ⟨rfl,rfl,rfl,by simp [ChangeMaps.setBlock],fun i _ hn => ?_⟩
 simp only [ChangeMaps.setBlock]
 rw [Array.getElem?_setIfInBounds_ne (fun e => hn e.symm)]
theorem cells_other (g : Nat) {b : Nat} (hb : b ≠ g) : ∀ (vs : List Value) (o : Nat) (w : World),(w.setCells g o vs).heap[b]? = w.heap[b]?
 | [],_,_ => rfl
 | v :: r,o,w => (cells_other g hb r (o + 1) (w.setCell ⟨g,o,none⟩ v)).trans (heap_setCell_other w ⟨g,o,none⟩ b v hb)
theorem cells_rest (g : Nat) : ∀ (vs : List Value) (o : Nat) (w : World),(w.setCells g o vs).os = w.os∧(w.setCells g o vs).tape = w.tape∧(w.setCells g o vs).output = w.output
 | [],_,_ => ⟨rfl,rfl,rfl⟩
 | v :: r,o,w => by
  obtain ⟨h1,h2,h3⟩:=cells_rest g r (o + 1) (w.setCell ⟨g,o,none⟩ v)
  have gs:=gb_set w g o v
  exact ⟨h1.trans gs.os,h2.trans gs.tape,h3.trans gs.output⟩
theorem cells_row (g : Nat) (t : TypeId) : ∀ (vs : List Value) (o : Nat) (w : World) (cur : Array Value),w.heap[g]? = some (.cells cur t (0,0))→∃ cur',(w.setCells g o vs).heap[g]? = some (.cells cur' t (0,0))∧cur'.size = cur.size∧cur'.toList.take o = cur.toList.take o
 | [],_,w,cur,h => ⟨cur,h,rfl,rfl⟩
 | v :: r,o,w,cur,h => by
  obtain ⟨cur',h1,h2,h3⟩:=cells_row g t r (o + 1) (w.setCell ⟨g,o,none⟩ v) _ (heap_setCell_same w g o cur t v h)
  refine ⟨cur',h1,h2.trans (by simp),?_⟩
  have h4:=congrArg (List.take o) h3
  rw [List.take_take,List.take_take,Nat.min_eq_left (by omega)] at h4
  rw [h4]
  apply List.ext_getElem?
  intro i
  rw [List.getElem?_take,List.getElem?_take]
  split
  ·have h5 : ¬ o = i:=by omega
   simp [h5]
  ·rfl
theorem flat_take : ∀ (X : List NR) (n : Nat),(X.take n).flatMap NR.enc = (X.flatMap NR.enc).take (n * 8)
 | [],n => by simp
 | x :: X,0 => by simp
 | x :: X,n + 1 => by
  rw [List.take_succ_cons,List.flatMap_cons,List.flatMap_cons,flat_take X n,List.take_append]
  have hl : x.enc.length = 8:=rfl
  rw [List.take_of_length_le (show x.enc.length≤(n + 1) * 8 by omega),hl,show (n + 1) * 8 - 8 = n * 8 by omega]
def zN : Value:=.agg #[.int .i64 0,.bool false,.slice none 0 0,.slice none 0 0,.bool false,.slice none 0 0,.int .i64 0,.slice none 0 0]
theorem zN_len (m : Nat) : (Builtin.zeroCells zN.cells m).toList.length = m * 8:=by
 simp [Builtin.zeroCells,zN,Value.cells]
theorem zN_one (m : Nat) : ∀ v ∈ (Builtin.zeroCells zN.cells m).toList,v.oneCell' = true:=by
 intro v hv
 simp only [Builtin.zeroCells,zN,Value.cells,Array.toList_map,List.mem_map] at hv
 obtain ⟨i,_,rfl⟩:=hv
 have h8 : i % 8 < 8:=Nat.mod_lt _ (by decide)
 change (#[Value.int .i64 0,.bool false,.slice none 0 0,.slice none 0 0,.bool false,.slice none 0 0,.int .i64 0,.slice none 0 0][i % 8]!).oneCell' = true
 generalize i % 8 = q at h8
 match q,h8 with
 | 0,_ => rfl
 | 1,_ => rfl
 | 2,_ => rfl
 | 3,_ => rfl
 | 4,_ => rfl
 | 5,_ => rfl
 | 6,_ => rfl
 | 7,_ => rfl
theorem store_nodes {w : World} {g o m : Nat} {cur : Array Value} (hg : w.heap[g]? = some (.cells cur 65 (0,0))) (hs : o + m * 8≤cur.size) :
  (storeCells ⟨g,o,none⟩ (Builtin.zeroCells zN.cells m).toList).run Tryz.prog w = .ok () (w.setCells g o (Builtin.zeroCells zN.cells m).toList):=by
 have hst:=run_storeCells_cells (P:=Tryz.prog) g o (Builtin.zeroCells zN.cells m).toList 0 w (fun j hj => by rw [zN_len] at hj; rw [cell_of_row w g _ _ _ (0,0) hg,Array.getElem?_eq_getElem (by omega)]; rfl) (fun j _ => frozen_of_row w g _ _ _ hg) (zN_one m)
 simpa only [Nat.add_zero] using hst
theorem clear_nodes {w : World} {g o k c : Nat} {cur : Array Value} (hg : w.heap[g]? = some (.cells cur 65 (0,0))) (hs : o + (k + 1) * 8≤cur.size) (ty : TypeId) :
  (Builtin.clear_ #[59] ty #[.slice (some ⟨g,o,none⟩) (k + 1) c]).run Tryz.prog w = .ok (.tuple #[]) (w.setCells g o (Builtin.zeroCells zN.cells (k + 1)).toList):=by
 have hst:=store_nodes hg hs
 simp only [zN] at hst ⊢
 simp [Builtin.clear_,run_underlying Tryz.underlying59,hst]
theorem clear_none (w : World) (g o c : Nat) (ty : TypeId) : (Builtin.clear_ #[59] ty #[.slice (some ⟨g,o,none⟩) 0 c]).run Tryz.prog w = .ok (.tuple #[]) w:=by
 simp [Builtin.clear_,run_underlying Tryz.underlying59]
def RL (w w' : World) (e : Ending) (pa pm : Nat) (L : List Nd) (C : Nat→Prop) (nv : Value) (bm : Nat) (X : List NR) (n : Nat) : Prop :=
 e = .returned (.int .i64 0)∧∃ nv' D',AS w' pa pm (L.take n) C 2097152 nv' bm (X.take n) D'∧nv'.ownBlock = nv.ownBlock∧ButF (fun b => b = pa ∨ b = bm ∨ nv.ownBlock = some b) w w'

theorem as_release {w wr wf : World} {pa pm : Nat} {L : List Nd} {C : Nat→Prop} {g cap bm : Nat} {X : List NR} {D Dj : DataW Value} {n : Nat} (hA : AS w pa pm L C 2097152 (.slice (some ⟨g,0,none⟩) L.length cap) bm X D) (hn : n≤L.length) (hbr : ButF (fun b => b = bm) w wr) (hmap : wr.ownsMap Tryz.prog 9 (plainElem Tryz.prog 3) bm n Dj) (his : MapIs Dj (L.take n))
  (hpa : wf.heap[pa]? = some (.cells #[.pointer (some ⟨pm,0,none⟩),.slice (some ⟨g,0,none⟩) n cap,.map (some bm)] 83 (0,0))) (hg : ∀ cur,wr.heap[g]? = some (.cells cur 65 (0,0))→∃ cur',wf.heap[g]? = some (.cells cur' 65 (0,0))∧cur'.size = cur.size∧cur'.toList.take (n * 8) = cur.toList.take (n * 8))
  (ho : ∀ b,b ≠ pa→b ≠ g→wf.heap[b]? = wr.heap[b]?) (hs : wf.heap.size = wr.heap.size) (hr : wf.os = wr.os∧wf.tape = wr.tape∧wf.output = wr.output) : RL w wf (.returned (.int .i64 0)) pa pm L C (.slice (some ⟨g,0,none⟩) L.length cap) bm X n:=by
 have hgb : g ≠ bm:=fun e => hA.bv (by rw [e]; rfl)
 have hgp : g ≠ pa:=fun e => hA.av (by rw [e]; rfl)
 have hgl : g < w.heap.size:=hA.fl (.inr (.inr (.inl rfl)))
 have hLn : (L.take n).length = n:=by rw [List.length_take]; omega
 have hXl:=hA.len
 refine ⟨rfl,_,Dj,⟨hpa,by rw [List.length_take,List.length_take]; omega,?_,fun i hi => ?_,?_,his,fun b hb => Nat.lt_of_lt_of_le (hA.cl b hb) (by rw [hs]; exact hbr.size),hA.ca,hA.cm,fun g' e => hA.cv g' e⟩,rfl,⟨hr.1.trans hbr.os,hr.2.1.trans hbr.tape,hr.2.2.trans hbr.output,by rw [hs]; exact hbr.size,fun b hb hnb => ?_⟩⟩
 ·rcases hA.row with ⟨h1,h2⟩
  rcases h2 with ⟨e9,_⟩ | ⟨g9,cap9,cur,e9,e1,e2,e3,e4,e5,e6⟩
  ·cases e9
  ·cases e9
   obtain ⟨cur',f1,f2,f3⟩:=hg cur ((hbr.block g hgl hgb).trans e2)
   rw [hLn]
   refine ⟨?_,.inr ⟨g,cap,cur',rfl,e1,f1,by omega,e4,by rw [f2]; exact e5,?_⟩⟩
   ·rw [flat_take,List.length_take]
    omega
   ·rw [f3,flat_take,← e6,List.take_take,Nat.min_eq_left (by omega)]
 ·have hi2 : i < L.length:=by omega
  simp only [List.getElem_take]
  refine (hA.nodes i hi2).move (by rw [hs]; exact hbr.size) (fun b hb hl => ?_) fun _ h _ => h
  rw [ho b (fun e => hA.ca (e ▸ hb)) (fun e => hA.cv g rfl (e ▸ hb))]
  exact hbr.block b hl fun e => hA.cm (e ▸ hb)
 ·rw [hLn]
  exact map_move hmap (ho bm (fun e => hA.ab e.symm) fun e => hgb e.symm)
 ·rw [ho b (fun e => hnb (.inl e)) (fun e => hnb (.inr (.inr (by rw [e]; rfl))))]
  exact hbr.block b hb fun e => hnb (.inr (.inl e))

set_option maxRecDepth 100000 in
set_option maxHeartbeats 3200000 in
theorem release8_n {w : World} {pa pm : Nat} {L : List Nd} {C : Nat→Prop} {nv : Value} {bm : Nat} {X : List NR} {D : DataW Value} {n : Nat} (hA : AS w pa pm L C 2097152 nv bm X D) (hn2 : 2≤n) (hn : n≤L.length) (hL : L.length≤1048576) (htab : ∀ w',ButF (fun b => b = pa ∨ b = bm ∨ nv.ownBlock = some b) w w'→Tab w') :
  Calls Tryz.prog 17 #[.pointer (some ⟨pa,0,none⟩),.int .i64 (n : Int)] w fun e w' => RL w w' e pa pm L C nv bm X n:=by
 have hln:=hide (len8_n hA)
 obtain ⟨g,cap,rfl, -⟩:=hA.cell (i:=0) (by omega)
 have u1 : w.cell? ⟨pa,1,none⟩ = some (.slice (some ⟨g,0,none⟩) L.length cap):=cell_of_row _ pa 1 _ _ (0,0) hA.blk
 have hgb : g ≠ bm:=fun e => hA.bv (by rw [e]; rfl)
 have hgl : g < w.heap.size:=hA.fl (.inr (.inr (.inl rfl)))
 have hpa:=hA.pal
 have hpb:=hA.ab
 have hlc : L.length≤cap:=by
  rcases hA.row.2 with ⟨e9,_⟩ | ⟨g9,cap9,cur9,e9,_,_,h9,_⟩
  ·cases e9
  ·cases e9
   exact h9
 by_cases hLn : L.length = n
 ·subst hLn
  have hb1:=frozen_of_row _ pa 1 _ _ hA.blk
  have hfin : Hid (RL w (w.setCell ⟨pa,1,none⟩ (.slice (some ⟨g,0,none⟩) L.length cap)) (.returned (.int .i64 0)) pa pm L C (.slice (some ⟨g,0,none⟩) L.length cap) bm X L.length):=hide (as_release hA hn (butF_below (Below.refl _ _)) hA.map (mapI_end (mapI_start (n:=L.length) hA.is) hn (by omega)) (heap_setCell_same _ pa 1 _ _ _ hA.blk) (fun cur2 h2 => ⟨cur2,(heap_setCell_other _ _ g _ (fun e => hA.av (by rw [show g = pa from e]; rfl))).trans h2,rfl,rfl⟩) (fun b h8 _ => heap_setCell_other _ _ b _ h8) (by simp) (by
   have gs:=gb_set w pa 1 (.slice (some ⟨g,0,none⟩) L.length cap)
   exact ⟨gs.os,gs.tape,gs.output⟩))
  have hd1 : decide ((L.length : Int) < 2) = false:=by simp; omega
  clear hA htab
  go_enter Tryz.func17,Tryz.ntmps17
  go_wp2_with (go_at_call 34; refine hln.out.mono ?_; rintro e w1 ⟨rfl,rfl⟩)
  all_goals
   (try subst h)
   clear hln
   go_loopw [24] (fun i wr => i = .int .i64 0∧wr = w1) (fun _ _ => 0)
   case atStart => exact ⟨rfl,rfl⟩
   case round =>
    obtain ⟨rfl,rfl⟩:=hrel
    have hcl:=clear_none wr
    go_wp2
    go_ret
    exact hfin.out
 have hcn : ¬ cap = n:=by omega
 go_enter Tryz.func17,Tryz.ntmps17
 go_wp2_with (go_at_call 34; refine hln.out.mono ?_; rintro e w1 ⟨rfl,rfl⟩)
 have hd1 : decide ((n : Int) < 2) = false:=by simp; omega
 have hd2 : decide (L.length < n) = false:=by simp; omega
 simp only [hd1,hd2,Bool.or_self]
 have hmap0:=hide hA.map
 have hmi0:=hide (mapI_start (n:=n) hA.is)
 replace hA:=hide hA
 go_loopw [24] (fun i wr => ∃ (j : Nat) (Dj : DataW Value),j≤L.length - n∧i = .int .i64 j∧Hid (ButF (fun b => b = bm) w1 wr)∧Hid (wr.ownsMap Tryz.prog 9 (plainElem Tryz.prog 3) bm (L.length - j) Dj)∧Hid (MapI Dj L n j)) (fun i _ => L.length - n - (intOf i).toNat)
 case atStart => exact ⟨0,D,Nat.zero_le _,rfl,hide (butF_below (Below.refl _ _)),hmap0,hmi0⟩
 case round =>
  obtain ⟨j,Dj,hj,rfl,hbr,hmap,hmi⟩:=hrel
  by_cases hjn : j < L.length - n
  ·have hi : n + j < L.length:=by omega
   obtain ⟨g2,cap2,e2,hcell⟩:=hA.out.cell hi
   cases e2
   have hXi : n + j < X.length:=by have:=hA.out.len; omega
   have hN:=(hA.out.nodes (n + j) hi).move (G:=C) hbr.out.size (fun b hb hl => hbr.out.block b hl fun e => hA.out.cm (e ▸ hb)) fun _ h _ => h
   have hgr : ∀ o,wr.cell? ⟨g,o,none⟩ = w1.cell? ⟨g,o,none⟩:=fun o => World.cell?_of_block (a:=⟨g,o,none⟩) (hbr.out.block g hgl hgb)
   have hdel:=mapI_del hmi.out hA.out.uq hi
   have hat0:=fun z => hmi.out.1 (n + j) hi z (.inr (Nat.le_refl _))
   have hhas:=Maps.has_true_of_atKey hat0
   have hc:=fun c (hc8 : c < 8) => (hgr ((n + j) * 8 + c)).trans (hcell c hc8 hXi)
   generalize L[n + j] = nd at *
   generalize X[n + j] = x at *
   have e0:=hc 0 (by decide)
   have e1:=hc 1 (by decide)
   have e2:=hc 2 (by decide)
   have e3:=hc 3 (by decide)
   have e4:=hc 4 (by decide)
   have e5:=hc 5 (by decide)
   have e6:=hc 6 (by decide)
   have e7:=hc 7 (by decide)
   clear hc hcell hgr hat0
   simp only [NR.enc,List.getElem?_cons_zero,List.getElem?_cons_succ,Nat.add_zero,Nat.add_mul] at e0 e1 e2 e3 e4 e5 e6 e7
   have hkd:=hN.kd
   have hvr:=hN.vr
   rw [hkd] at e0
   rw [hvr] at e6
   have q2 : wr.cell? ⟨pa,2,none⟩ = some (.map (some bm)):=cell_of_row _ pa 2 _ _ (0,0) ((hbr.out.block pa hpa hpb).trans hA.out.blk)
   have hpr : pa < wr.heap.size:=Nat.lt_of_lt_of_le hpa hbr.out.size
   have hbmr : bm < wr.heap.size:=hmap.out.lt
   have htr : Tab wr:=htab wr (hbr.out.mono fun b h => .inr (.inl h))
   clear hkd hvr
   go_wp2_with fail
   clear e0 e1 e2 e3 e4 e5 e6 e7
   have b9:=below_alloc wr (.cells #[.int .i64 nd.kind,.bool x.sd,.slice x.ad x.ld x.cd,.slice x.ap x.np x.cp,.bool x.sk,.slice x.ak x.lk x.ck,.int .i64 nd.var,.slice x.ka x.kn x.kc] 65)
   have y:=NB.new wr nd.kind x.sd x.ad x.ld x.cd x.ap x.np x.cp x.sk x.ak x.lk x.ck nd.var x.ka x.kn x.kc
   have hpr2 : pa < wr.heap.size:=hpr
   have kb : Hid (Below wr.heap.size wr (wr.alloc (.cells #[.int .i64 nd.kind,.bool x.sd,.slice x.ad x.ld x.cd,.slice x.ap x.np x.cp,.bool x.sk,.slice x.ak x.lk x.ck,.int .i64 nd.var,.slice x.ka x.kn x.kc] 65))):=hide b9
   generalize wr.alloc (.cells #[.int .i64 nd.kind,.bool x.sd,.slice x.ad x.ld x.cd,.slice x.ap x.np x.cp,.bool x.sk,.slice x.ak x.lk x.ck,.int .i64 nd.var,.slice x.ka x.kn x.kc] 65) = w2 at *
   have kD : Below wr.heap.size wr w2.drew:=grow_drew kb.out
   have y2 : NB w2.drew wr.heap.size nd.kind x.sd x.ad x.ld x.cd x.ap x.np x.cp x.sk x.ak x.lk x.ck nd.var x.ka x.kn x.kc:=y.below (grow_drew (Below.refl _ _))
   have q22:=(kD.cell (p:=⟨pa,2,none⟩) hpr).trans q2
   clear b9
   generalize hpe : wr.heap.size = p at *
   refine wp_region_held_drew (S:=(fun w' => w'.cell? ⟨p,0,none⟩ = some (.int .i64 nd.kind)∧w'.cell? ⟨p,1,none⟩ = some (.bool x.sd)∧w'.cell? ⟨p,2,none⟩ = some (.slice x.ad x.ld x.cd)∧w'.cell? ⟨p,3,none⟩ = some (.slice x.ap x.np x.cp)∧w'.cell? ⟨p,4,none⟩ = some (.bool x.sk)∧w'.cell? ⟨p,5,none⟩ = some (.slice x.ak x.lk x.ck)∧w'.cell? ⟨p,6,none⟩ = some (.int .i64 nd.var)∧w'.cell? ⟨p,7,none⟩ = some (.slice x.ka x.kn x.kc)∧w'.cell? ⟨pa,2,none⟩ = some (.map (some bm)))) (by kernel_rfl) (⟨y2.c0,y2.c1,y2.c2,y2.c3,y2.c4,y2.c5,y2.c6,y2.c7,q22⟩) (fun hHeld => ?_)
   show wpAnyH _ _ _ _ _ 7 _ _ _
   refine wpAnyH_take (i:=0) (oi:=⟨some 28,_,_,_,_,_⟩) (v:=?_) rfl (by kernel_rfl) (by kernel_rfl) (by kernel_rfl) (fun _ _ _ h => h) (Or.inl ⟨by rfl,?_⟩) (by assumption) ?_
   rotate_left
   ·intro wq hSw; (try dsimp only at hSw); go_simp; (try with_reducible rfl)
   (try simp only [pz])
   refine wpAnyH_take (i:=1) (oi:=⟨some 29,_,_,_,_,_⟩) (v:=?_) rfl (by kernel_rfl) (by kernel_rfl) (by kernel_rfl) (fun _ _ _ h => h) (Or.inl ⟨by rfl,?_⟩) (by assumption) ?_
   rotate_left
   ·intro wq hSw; (try dsimp only at hSw); go_simp; (try with_reducible rfl)
   (try simp only [pz])
   refine wpAnyH_take (i:=2) (oi:=⟨some 30,_,_,_,_,_⟩) (v:=?_) rfl (by kernel_rfl) (by kernel_rfl) (by kernel_rfl) (fun _ _ _ h => h) (Or.inl ⟨by rfl,?_⟩) (by assumption) ?_
   rotate_left
   ·intro wq hSw; (try dsimp only at hSw); go_simp; (try with_reducible rfl)
   (try simp only [pz])
   refine wpAnyH_take (i:=3) (oi:=⟨some 31,_,_,_,_,_⟩) (v:=?_) rfl (by kernel_rfl) (by kernel_rfl) (by kernel_rfl) (fun _ _ _ h => h) (Or.inl ⟨by rfl,?_⟩) (by assumption) ?_
   rotate_left
   ·intro wq hSw; (try dsimp only at hSw); go_simp; (try with_reducible rfl)
   (try simp only [pz])
   refine wpAnyH_take (i:=4) (oi:=⟨some 32,_,_,_,_,_⟩) (v:=?_) rfl (by kernel_rfl) (by kernel_rfl) (by kernel_rfl) (fun _ _ _ h => h) (Or.inl ⟨by rfl,?_⟩) (by assumption) ?_
   rotate_left
   ·intro wq hSw; (try dsimp only at hSw); go_simp; (try with_reducible rfl)
   (try simp only [pz])
   refine wpAnyH_ready (rs:=[5]) (by kernel_rfl) (by simp) ?_
   refine AllReadyH.cons (o:=⟨some 33,_,_,_,_,_⟩) rfl (fun K hK => ?_) AllReadyH.nil
   go_simp
   have hN2:=hN.move (G:=C) (w':=w2.drew) (hpe ▸ kD.size) (fun b hb hl => kD.block b (hpe ▸ hl)) fun _ h _ => h
   refine Calls.mono (text_n hN2.zd hN2.hld hN2.pn.pn hN2.zk hN2.hlk hN2.kids hN2.ikd hN2.ivr hN2.hnp hN2.hkn (Nat.le_refl _) (htr.below (hpe ▸ kD))) ?_
   rintro e w3 ⟨rfl,k3⟩
   have htl:=txt_length hN2.zd hN2.hld hN2.pn.pn hN2.zk hN2.hlk hN2.kids hN2.ikd hN2.ivr hN2.hnp hN2.hkn (Nat.le_refl _)
   have y3:=y2.below k3
   have k23 : Below p wr w3:=hpe ▸ grow_step k3 (hpe ▸ kD)
   have q23:=(k23.cell (p:=⟨pa,2,none⟩) (hpe ▸ hpr)).trans q2
   (try go_wp2_with fail)
   refine hK.out _ _ ?_ ?_
   ·(try dsimp only); exact ⟨y3.c0,y3.c1,y3.c2,y3.c3,y3.c4,y3.c5,y3.c6,y3.c7,q23⟩
   clear hK K hHeld; intro hHeld
   (try simp only [pz])
   refine wpAnyH_ready (rs:=[6]) (by kernel_rfl) (by simp) ?_
   refine AllReadyH.cons (o:=⟨none,_,_,_,_,_⟩) rfl (fun K hK => ?_) AllReadyH.nil
   have hkey:=WideMaps.keyOf_string_mk (P:=Tryz.prog) (k:=9) (s:=⟨(txt nd).toArray⟩) Tryz.underlying9 (by rw [size_list]; exact htl)
   have hm3 : w3.ownsMap Tryz.prog 9 (plainElem Tryz.prog 3) bm (L.length - j) Dj:=map_move hmap.out (k23.block bm (hpe ▸ hbmr))
   obtain ⟨w4,hrun,hm4,ht4⟩:=hm3.drop ks Tryz.underlying81 hkey 0
   have hb4:=turned_block ht4
   have y4 : NB w4 p nd.kind x.sd x.ad x.ld x.cd x.ap x.np x.cp x.sk x.ak x.lk x.ck nd.var x.ka x.kn x.kc:=(hb4.block p y3.lt (by omega)).trans y3
   have q24:=(World.cell?_of_block (a:=⟨pa,2,none⟩) (hb4.block pa (Nat.lt_of_lt_of_le (hpe ▸ hpr) (hpe ▸ k23.size)) hpb)).trans q23
   have hsz : Maps.size (Dj.del (.string (txt nd))) + 1 = Maps.size Dj:=by
    have h9:=Maps.size_del (k:=.string (txt nd)) (hm3.tidy ks)
    rw [hhas] at h9
    simpa using h9
   have hm5 : Hid (w4.ownsMap Tryz.prog 9 (plainElem Tryz.prog 3) bm (L.length - (j + 1)) (Dj.del (.string (txt nd)))):=hide ((map_exact hm4).mono (by have h9:=hm3.size_le; change Maps.size (Dj.del (.string (txt nd)))≤_; omega))
   have hbw : Hid (ButF (fun b => b = bm) w1 w4):=hide (ButF.trans (ButF.trans hbr.out (butF_below (hpe ▸ k23)) fun _ _ h => h) hb4 fun _ _ h => h)
   clear hm4 ht4 hb4 hm3
   go_simp
   refine hK.out _ _ ?_ ?_
   ·(try dsimp only); exact ⟨y4.c0,y4.c1,y4.c2,y4.c3,y4.c4,y4.c5,y4.c6,y4.c7,q24⟩
   clear hK K hHeld; intro hHeld
   (try simp only [pz])
   refine wpAnyH_done (by kernel_rfl) ?_ _
   replace hdel:=hide hdel
   clear hHeld y4 y3 y2 y q2 q22 q23 q24 hN hN2 htr hmap hmi hhas hsz hkey htl k3 k23 kD kb hrun
   go_wp2
   exact ⟨⟨j + 1,_,by omega,by go_num,hbw,hm5,hdel⟩,by simp [intOf]; omega⟩
  ·obtain rfl : j = L.length - n:=by omega
   have hgr : g < wr.heap.size:=Nat.lt_of_lt_of_le hgl hbr.out.size
   obtain ⟨cur,hcur,hcsz⟩ : ∃ cur,wr.heap[g]? = some (.cells cur 65 (0,0))∧cur.size = cap * 8:=by
    rcases hA.out.row.2 with ⟨e9,_⟩ | ⟨g9,cap9,cur,e9,_,e2,_,_,e5,_⟩
    ·cases e9
    ·cases e9
     exact ⟨cur,(hbr.out.block g hgl hgb).trans e2,e5⟩
   have hblk : wr.heap[pa]? = some (.cells #[.pointer (some ⟨pm,0,none⟩),.slice (some ⟨g,0,none⟩) L.length cap,.map (some bm)] 83 (0,0)):=(hbr.out.block pa hpa hpb).trans hA.out.blk
   have hgp : pa ≠ g:=fun e => hA.out.av (by rw [← e]; rfl)
   have hb5 : (wr.setCells g (n * 8) (Builtin.zeroCells zN.cells (L.length - n)).toList).heap[pa]? = some (.cells #[.pointer (some ⟨pm,0,none⟩),.slice (some ⟨g,0,none⟩) L.length cap,.map (some bm)] 83 (0,0)):=(cells_other g hgp _ _ _).trans hblk
   have v1:=cell_of_row _ pa 1 _ _ (0,0) hb5
   have f1:=frozen_of_row _ pa 1 _ _ hb5
   have hfin : Hid (RL w1 ((wr.setCells g (n * 8) (Builtin.zeroCells zN.cells (L.length - n)).toList).setCell ⟨pa,1,none⟩ (.slice (some ⟨g,0,none⟩) n cap)) (.returned (.int .i64 0)) pa pm L C (.slice (some ⟨g,0,none⟩) L.length cap) bm X n):=hide (as_release hA.out hn hbr.out (by have h9:=hmap.out; rwa [show L.length - (L.length - n) = n by omega] at h9) (mapI_end hmi.out hn (by omega)) (heap_setCell_same _ pa 1 _ _ _ hb5) (fun cur2 h2 => by
    obtain ⟨cur',c1,c2,c3⟩:=cells_row g _ (Builtin.zeroCells zN.cells (L.length - n)).toList (n * 8) wr cur2 h2
    exact ⟨cur',(heap_setCell_other _ _ g _ (fun e => hgp e.symm)).trans c1,c2,c3⟩) (fun b h8 h9 => (heap_setCell_other _ _ b _ h8).trans (cells_other g h9 _ _ _)) (by simp) (by
    obtain ⟨r1,r2,r3⟩:=cells_rest g (Builtin.zeroCells zN.cells (L.length - n)).toList (n * 8) wr
    have gs:=gb_set (wr.setCells g (n * 8) (Builtin.zeroCells zN.cells (L.length - n)).toList) pa 1 (.slice (some ⟨g,0,none⟩) n cap)
    exact ⟨gs.os.trans r1,gs.tape.trans r2,gs.output.trans r3⟩))
   obtain ⟨k,hk⟩ : ∃ k,L.length - n = k + 1:=⟨L.length - n - 1,by omega⟩
   have hcl:=fun ty => clear_nodes (c:=cap - n) (k:=k) (o:=n * 8) hcur (by omega) ty
   clear hA hbr hmap hmi hb5 hblk hcur hmap0 hmi0 hln
   rw [hk] at v1 f1 hfin ⊢
   generalize wr.setCells g (n * 8) (Builtin.zeroCells zN.cells (k + 1)).toList = w5 at *
   go_wp2
   go_ret
   exact hfin.out
end Nt
namespace Nt

theorem release_ag {w : World} {pa pm : Nat} {nn kk : Int} {s : St} {F : Nat→Prop} {n : Nat} (hG : AG w pa pm nn kk s F) (hn2 : 2≤n) (hn : n≤s.L.length) (htab : ∀ w',ButF F w w'→Tab w') :
  Calls Tryz.prog 17 #[.pointer (some ⟨pa,0,none⟩),.int .i64 (n : Int)] w fun e w' => e = .returned (.int .i64 0)∧AG w' pa pm nn kk ⟨s.L.take n,s.c,s.er⟩ F∧ButF F w w':=by
 obtain ⟨C,nv,bm,X,D,hA,hpm,hF⟩:=hG.ar
 have h1:=hG.cn
 have h2:=hG.n2
 have h3:=hG.ln
 have hsub : ∀ b,(b = pa ∨ b = bm ∨ nv.ownBlock = some b)→F b:=fun b hb => hF b (by
  rcases hb with hb | hb | hb
  ·exact .inl hb
  ·exact .inr (.inl hb)
  ·exact .inr (.inr (.inl hb)))
 refine (release8_n hA hn2 hn (by omega) fun w' h => htab w' (h.mono hsub)).mono ?_
 rintro e w' ⟨rfl,nv',D',hA',hob,hB⟩
 have hFF : ∀ b,FF pa bm nv' C b→FF pa bm nv C b:=fun b hb => by
  rcases hb with hb | hb | hb | hb
  ·exact .inl hb
  ·exact .inr (.inl hb)
  ·exact .inr (.inr (.inl (hob ▸ hb)))
  ·exact .inr (.inr (.inr hb))
 have hml : pm < w.heap.size:=hG.mb.lt
 have hmb : MB w' pm nn kk s.c s.er:=(hB.block pm hml fun hb => hpm (by
  rcases hb with hb | hb | hb
  ·exact .inl hb
  ·exact .inr (.inl hb)
  ·exact .inr (.inr (.inl hb)))).trans hG.mb
 exact ⟨rfl,⟨⟨C,nv',bm,X.take n,D',hA',fun hf => hpm (hFF pm hf),fun b hb => hF b (hFF b hb)⟩,hmb,hG.c0,hG.cn,hG.n2,hG.e0,hG.e2,by show ((s.L.take n).length : Int)≤s.c + 2; rw [List.length_take]; omega,fun b hb => Nat.lt_of_lt_of_le (hG.fl b hb) hB.size⟩,hB.mono hsub⟩

open Classical in
def putE (nn kk : Int) (s : St) (n : Nd) : St × Int × Int :=
 if spot s.L n < s.L.length then (s,(spot s.L n : Int),0)
 else if (mstep nn kk s.c s.er (nums n)).1 = 0 then (⟨s.L ++ [n],(mstep nn kk s.c s.er (nums n)).2.1,(mstep nn kk s.c s.er (nums n)).2.2⟩,(s.L.length : Int),0)
 else (⟨s.L,(mstep nn kk s.c s.er (nums n)).2.1,(mstep nn kk s.c s.er (nums n)).2.2⟩,0,(mstep nn kk s.c s.er (nums n)).1)
theorem putE_found {nn kk : Int} {F : St} {n : Nd} {i : Nat} (hU : Uq F.L) (h : F.L[i]? = some n) : putE nn kk F n = (F,(i : Int),0):=by
 have h9 : ∃ i : Nat,F.L[i]? = some n:=⟨i,h⟩
 unfold putE
 rw [if_pos (spot_at h9).1,hU _ i n (spot_at h9).2 h]
def actA (nn kk : Int) (s : St) (kd d : Int) (ps : List (Int × Int)) (k : Int) : St × Int × Int:=match formA kd d (nz (lays [] ps)) k with
 | .inr e => (s,0,e)
 | .inl f => putE nn kk s ⟨f.kind,f.d,f.ps,f.k,0,[]⟩
def actJ (nn kk : Int) (s : St) (kd : Int) (l : List Int) : St × Int × Int :=
 if ¬ (kd = 5 ∨ kd = 6) then (s,0,1) else if l.any (lck s.L.length) = true then (s,0,80) else match ris l with
  | [] => (s,if kd = 5 then 1 else 0,0)
  | [x] => (s,x,0)
  | x :: y :: t => putE nn kk s ⟨kd,0,[],0,0,x :: y :: t⟩
def actB (nn kk : Int) (s : St) (kd v kid : Int) : St × Int × Int :=
 if ¬ (kd = 7 ∨ kd = 8) then (s,0,1) else if kid < 0 ∨ (s.L.length : Int)≤kid then (s,0,80) else putE nn kk s ⟨kd,0,[],0,v,[kid]⟩
def actR (s : St) (n : Int) : St × Int:=if n < 2 ∨ (s.L.length : Int) < n then (s,1) else (⟨s.L.take n.toNat,s.c,s.er⟩,0)
def AO2 (w w' : World) (e : Ending) (pa pm : Nat) (nn kk : Int) (F : Nat→Prop) (r : St × Int × Int) : Prop :=
 e = .returned (.tuple #[.int .i64 r.2.1,.int .i64 r.2.2])∧∃ F',AG w' pa pm nn kk r.1 F'∧(∀ b,F' b→F b ∨ w.heap.size≤b)∧ButF (fun b => b = pm ∨ F b) w w'
theorem ao2_now {w w' : World} {pa pm : Nat} {nn kk : Int} {s : St} {F : Nat→Prop} (hG : AG w pa pm nn kk s F) (k : Below w.heap.size w w') (i er : Int) : AO2 w w' (.returned (.tuple #[.int .i64 i,.int .i64 er])) pa pm nn kk F (s,i,er) :=
 ⟨rfl,F,hG.below k,fun _ h => .inl h,butF_below k⟩
theorem md_ao2 {w w' : World} {e : Ending} {pa pm : Nat} {nn kk : Int} {s : St} {F C : Nat→Prop} {nv : Value} {bm : Nat} {X : List NR} {D : DataW Value} {n : Nd} (hG : AG w pa pm nn kk s F) (hA : AS w pa pm s.L C 2097152 nv bm X D) (hpm : ¬ FF pa bm nv C pm) (hF : ∀ b,FF pa bm nv C b→F b) (h : MD w w' e pa pm s.L C 2097152 nv bm nn kk s.c s.er n) : AO2 w w' e pa pm nn kk F (putE nn kk s n):=by
 have hn : n ∉ s.L→¬ ∃ i : Nat,s.L[i]? = some n:=fun h ⟨i,hi⟩ => h (List.mem_of_getElem? hi)
 have h0:=hG.c0
 have h1:=hG.cn
 have h2:=hG.n2
 have h3:=hG.e0
 have h4:=hG.e2
 have h5:=hG.ln
 rcases h with ⟨i,g1,rfl,k⟩ | ⟨g1,g2,rfl,g4,k⟩ | ⟨g1,g2,rfl,g4,C',nv',X',D',g5,g6,g7⟩
 ·rw [putE_found hA.uq g1]
  exact ao2_now hG k _ _
 ·change (mstep nn kk s.c s.er (nums n)).1 ≠ 0 at g2
  change MB w' pm nn kk (mstep nn kk s.c s.er (nums n)).2.1 (mstep nn kk s.c s.er (nums n)).2.2 at g4
  have hA' : AS w' pa pm s.L C 2097152 nv bm X D:=hA.move k.size fun b hb => k.block b (hA.fl hb) fun e => hpm (e ▸ hb)
  unfold putE
  rw [if_neg (spot_no (hn g1)),if_neg g2]
  refine ⟨rfl,F,⟨⟨C,nv,bm,X,D,hA',hpm,hF⟩,g4,?_,?_,h2,?_,?_,?_,fun b hb => Nat.lt_of_lt_of_le (hG.fl b hb) k.size⟩,fun b hb => .inl hb,but_butF k⟩
  all_goals
   rcases mstep_cases nn kk s.c s.er (nums n) with ⟨a1,a2⟩ | ⟨a1,r,a2,a3,a4⟩ | ⟨a1,a2,a3,a4⟩
  all_goals
   first
    | (rw [a2]; dsimp only; omega)
    | (rw [a3]; dsimp only; omega)
 ·change (mstep nn kk s.c s.er (nums n)).1 = 0 at g2
  change MB w' pm nn kk (mstep nn kk s.c s.er (nums n)).2.1 (mstep nn kk s.c s.er (nums n)).2.2 at g4
  unfold putE
  rw [if_neg (spot_no (hn g1)),if_pos g2]
  have hpm' : ¬ FF pa bm nv' C' pm:=fun hf => (g6 pm hf).elim hpm fun h => absurd (hG.mb.lt) (by omega)
  refine ⟨rfl,FF pa bm nv' C',⟨⟨C',nv',bm,X',D',g5,hpm',fun _ hb => hb⟩,g4,?_,?_,h2,?_,?_,?_,fun b hb => g5.fl hb⟩,fun b hb => (g6 b hb).imp (hF b) id,g7.mono fun b hb => hb.imp id (hF b)⟩
  all_goals
   rcases mstep_cases nn kk s.c s.er (nums n) with ⟨a1,a2⟩ | ⟨a1,r,a2,a3,a4⟩ | ⟨a1,a2,a3,a4⟩
  all_goals
   first
    | (rw [a2] at g2; exact absurd g2 a1)
    | (rw [a3] at g2; exact absurd g2 a2)
    | (rw [a2]; dsimp only; simp only [List.length_append,List.length_cons,List.length_nil]; omega)
    | (rw [a2]; dsimp only; omega)


theorem atom_ao2 {w : World} {pa pm : Nat} {nn kk : Int} {s : St} {F : Nat→Prop} {kd : Int} {sd : Bool} {ad : Option Addr} {ld cd : Nat} {ap : Option Addr} {np cp : Nat} {sk : Bool} {ak : Option Addr} {lk ck : Nat} {d k : Int} {ps : List (Int × Int)} {B : Nat}
  (hG : AG w pa pm nn kk s F) (hd : Zm w sd ad ld cd d) (hld : ld≤B) (hP : Pr w ap np ps B) (hk : Zm w sk ak lk ck k) (hlk : lk≤B) (hn : np≤209716) (hB : B≤1048576) (htab : Tab w) :
  Calls Tryz.prog 11 #[.pointer (some ⟨pa,0,none⟩),.agg #[.int .i64 kd,.bool sd,.slice ad ld cd,.slice ap np cp,.bool sk,.slice ak lk ck]] w fun e w' => AO2 w w' e pa pm nn kk F (actA nn kk s kd d ps k):=by
 obtain ⟨C,nv,bm,X,D,hA,hpm,hF⟩:=hG.ar
 have h1:=hG.cn
 have h2:=hG.n2
 have h3:=hG.ln
 refine (atom8_n hA hG.mb hpm hG.c0 hG.cn hG.n2 hG.e0 hG.e2 hd hld hP hk hlk hn hB (by omega) htab).mono ?_
 intro e w' h
 unfold AM at h
 unfold actA
 cases hf : formA kd d (nz (lays [] ps)) k with
 | inr er =>
  rw [hf] at h
  obtain ⟨rfl,kb⟩:=h
  exact ao2_now hG kb _ _
 | inl f =>
  rw [hf] at h
  exact md_ao2 hG hA hpm hF h

theorem join_ao2 {w : World} {pa pm : Nat} {nn kk : Int} {s : St} {F : Nat→Prop} {kd : Int} {ka : Option Addr} {kc : Nat} {l : List Int}
  (hG : AG w pa pm nn kk s F) (hI : IL w ka l.length l) (hl : l.length≤1048576) (htab : Tab w) :
  Calls Tryz.prog 13 #[.pointer (some ⟨pa,0,none⟩),.int .i64 kd,.slice ka l.length kc] w fun e w' => AO2 w w' e pa pm nn kk F (actJ nn kk s kd l):=by
 obtain ⟨C,nv,bm,X,D,hA,hpm,hF⟩:=hG.ar
 have h1:=hG.cn
 have h2:=hG.n2
 have h3:=hG.ln
 refine (join8_n hA hG.mb hpm hG.c0 hG.cn hG.n2 hG.e0 hG.e2 hI hl (by omega) htab).mono ?_
 intro e w' h
 unfold JO at h
 unfold actJ
 by_cases hkd : kd = 5 ∨ kd = 6
 ·rw [if_neg (fun h => h hkd)] at h ⊢
  by_cases ha : l.any (lck s.L.length) = true
  ·rw [if_pos ha] at h ⊢
   obtain ⟨rfl,rfl⟩:=h
   exact ao2_now hG (Below.refl _ _) _ _
  ·rw [if_neg ha] at h ⊢
   cases hr : ris l with
   | nil =>
    rw [hr] at h
    obtain ⟨rfl,kb⟩:=h
    exact ao2_now hG kb _ _
   | cons x t =>
    cases t with
    | nil =>
     rw [hr] at h
     obtain ⟨rfl,kb⟩:=h
     exact ao2_now hG kb _ _
    | cons y t =>
     rw [hr] at h
     exact md_ao2 hG hA hpm hF h
 ·rw [if_pos hkd] at h ⊢
  obtain ⟨rfl,rfl⟩:=h
  exact ao2_now hG (Below.refl _ _) _ _

theorem bind_ao2 {w : World} {pa pm : Nat} {nn kk : Int} {s : St} {F : Nat→Prop} {kd v kid : Int}
  (hG : AG w pa pm nn kk s F) (hv : I64 v) (hkid : I64 kid) (htab : Tab w) :
  Calls Tryz.prog 15 #[.pointer (some ⟨pa,0,none⟩),.int .i64 kd,.int .i64 v,.int .i64 kid] w fun e w' => AO2 w w' e pa pm nn kk F (actB nn kk s kd v kid):=by
 obtain ⟨C,nv,bm,X,D,hA,hpm,hF⟩:=hG.ar
 have h1:=hG.cn
 have h2:=hG.n2
 have h3:=hG.ln
 refine (bind8_n hA hG.mb hpm hG.c0 hG.cn hG.n2 hG.e0 hG.e2 hv hkid (by omega) htab).mono ?_
 intro e w' h
 unfold BI at h
 unfold actB
 by_cases hkd : kd = 7 ∨ kd = 8
 ·rw [if_neg (fun h => h hkd)] at h ⊢
  by_cases ha : kid < 0 ∨ (s.L.length : Int)≤kid
  ·rw [if_pos ha] at h ⊢
   obtain ⟨rfl,rfl⟩:=h
   exact ao2_now hG (Below.refl _ _) _ _
  ·rw [if_neg ha] at h ⊢
   exact md_ao2 hG hA hpm hF h
 ·rw [if_pos hkd] at h ⊢
  obtain ⟨rfl,rfl⟩:=h
  exact ao2_now hG (Below.refl _ _) _ _

set_option maxRecDepth 100000 in
theorem release_bad {w : World} {pa pm : Nat} {nn kk : Int} {s : St} {F : Nat→Prop} {n : Int} (hG : AG w pa pm nn kk s F) (hn : n < 2 ∨ (s.L.length : Int) < n) :
  Calls Tryz.prog 17 #[.pointer (some ⟨pa,0,none⟩),.int .i64 n] w fun e w' => e = .returned (.int .i64 1)∧w' = w:=by
 have hln:=hide (len_ag hG)
 clear hG
 by_cases h2 : n < 2
 ·go_enter Tryz.func17,Tryz.ntmps17
  go_wp2
  go_ret
  exact ⟨rfl,rfl⟩
 ·have h3 : (s.L.length : Int) < n:=by omega
  go_enter Tryz.func17,Tryz.ntmps17
  go_wp2_with (go_at_call 34; refine hln.out.mono ?_; rintro e w1 ⟨rfl,rfl⟩)
  go_ret
  exact ⟨rfl,rfl⟩
theorem release_ao2 {w : World} {pa pm : Nat} {nn kk : Int} {s : St} {F : Nat→Prop} {n : Int} (hG : AG w pa pm nn kk s F) (htab : ∀ w',ButF F w w'→Tab w') :
  Calls Tryz.prog 17 #[.pointer (some ⟨pa,0,none⟩),.int .i64 n] w fun e w' => e = .returned (.int .i64 (actR s n).2)∧AG w' pa pm nn kk (actR s n).1 F∧ButF F w w':=by
 unfold actR
 by_cases hn : n < 2 ∨ (s.L.length : Int) < n
 ·rw [if_pos hn]
  refine (release_bad hG hn).mono ?_
  rintro e w' ⟨rfl,rfl⟩
  exact ⟨rfl,hG,butF_below (Below.refl _ _)⟩
 ·rw [if_neg hn]
  have h0 : ((n.toNat : Nat) : Int) = n:=by omega
  have h9:=release_ag (n:=n.toNat) hG (by omega) (by omega) htab
  rwa [h0] at h9
end Nt
namespace Nt

structure RA (w : World) (ra rm : Nat) (L : List Nd) (C : Nat→Prop) (B : Nat) (nv : Value) (X : List NR) : Prop where
 blk : w.heap[ra]? = some (.cells #[nv,.pointer (some ⟨rm,0,none⟩)] 61 (0,0))
 len : X.length = L.length
 row : w.ownsRow 0 65 8 nv L.length (X.flatMap NR.enc)
 nodes : ∀ i (h : i < L.length),NC C w (X[i]'(by omega)) L[i] B
 cl : ∀ b,C b→b < w.heap.size
 ca : ¬ C ra
 cv : ∀ g,nv.ownBlock = some g→¬ C g
def RFF (ra : Nat) (nv : Value) (C : Nat→Prop) (b : Nat) : Prop:=b = ra ∨ nv.ownBlock = some b ∨ C b
section
variable {w w' : World} {ra rm : Nat} {L : List Nd} {C : Nat→Prop} {B : Nat} {nv : Value} {X : List NR}
theorem RA.pal (h : RA w ra rm L C B nv X) : ra < w.heap.size:=(Array.getElem?_eq_some_iff.1 h.blk).1
theorem RA.fl (h : RA w ra rm L C B nv X) {b : Nat} (hb : RFF ra nv C b) : b < w.heap.size:=by
 rcases hb with rfl | hb | hb
 ·exact h.pal
 ·exact (World.ownsRow.lt h.row b hb).2
 ·exact h.cl b hb
theorem RA.av (h : RA w ra rm L C B nv X) : nv.ownBlock ≠ some ra:=by
 intro e
 obtain ⟨c,fz,hk⟩:=Lib.ownsRow_kind h.row ra e
 rw [h.blk] at hk
 injection hk with hk
 injection hk with h1 h2
 exact absurd h2 (by decide)
theorem RA.c0 (h : RA w ra rm L C B nv X) : w.cell? ⟨ra,0,none⟩ = some nv:=cell_of_row _ ra 0 _ _ (0,0) h.blk
theorem RA.c1 (h : RA w ra rm L C B nv X) : w.cell? ⟨ra,1,none⟩ = some (.pointer (some ⟨rm,0,none⟩)):=cell_of_row _ ra 1 _ _ (0,0) h.blk
theorem RA.form (h : RA w ra rm L C B nv X) : ∃ a c,nv = .slice a L.length c:=by
 rcases Joins.ownsRow_forms h.row with ⟨h1,h2⟩ | ⟨g,cap,h1⟩
 ·exact ⟨none,0,by rw [h1,h2]⟩
 ·exact ⟨_,cap,h1⟩
theorem RA.move (h : RA w ra rm L C B nv X) (hs : w.heap.size≤w'.heap.size) (hm : ∀ b,RFF ra nv C b→w'.heap[b]? = w.heap[b]?) : RA w' ra rm L C B nv X:=by
 refine ⟨(hm ra (.inl rfl)).trans h.blk,h.len,?_,fun i hi => (h.nodes i hi).move hs (fun b hb _ => hm b (.inr (.inr hb))) (fun b hb _ => hb),fun b hb => Nat.lt_of_lt_of_le (h.cl b hb) hs,h.ca,h.cv⟩
 obtain ⟨h1,h2⟩:=h.row
 refine ⟨h1,?_⟩
 rcases h2 with h2 | ⟨g,cap,cur,e1,e2,e3,e4⟩
 ·exact .inl h2
 ·exact .inr ⟨g,cap,cur,e1,e2,(hm g (.inr (.inl (by rw [e1]; rfl)))).trans e3,e4⟩
theorem RA.below (h : RA w ra rm L C B nv X) (hb : Below w.heap.size w w') : RA w' ra rm L C B nv X :=
 h.move hb.size fun b hf => hb.block b (h.fl hf)
theorem RA.butF {G : Nat→Prop} (h : RA w ra rm L C B nv X) (hb : ButF G w w') (hG : ∀ b,RFF ra nv C b→¬ G b) : RA w' ra rm L C B nv X :=
 h.move hb.size fun b hf => hb.block b (h.fl hf) (hG b hf)
theorem RA.cell (h : RA w ra rm L C B nv X) {i : Nat} (hi : i < L.length) :
  ∃ g cap,nv = .slice (some ⟨g,0,none⟩) L.length cap∧g < w.heap.size∧∀ j,j < 8→∀ (hX : i < X.length),w.cell? ⟨g,i * 8 + j,none⟩ = (X[i].enc)[j]?:=by
 rcases h.row.2 with ⟨_,h0⟩ | ⟨g,cap,cur,e1,_,e3,h1,h2,h3,h4⟩
 ·omega
 ·refine ⟨g,cap,e1,(Array.getElem?_eq_some_iff.1 e3).1,fun j hj hX => ?_⟩
  rw [cell_of_row w g (i * 8 + j) _ _ (0,0) e3,← flat_get X i j hX hj,← h4,List.getElem?_take,if_pos (by omega)]
  simp
end
theorem ra_lay {w3 w4 w5 : World} {s0 s1 ra rm : Nat} {L : List Nd} {C : Nat→Prop} {B : Nat} {nv v' : Value} {X : List NR} {x : NR} {n : Nd} (h : RA w3 ra rm L C B nv X) (hs1 : s1≤w3.heap.size) (hfa : ∀ b,RFF ra nv C b→b < s0)
  (hx : NC (fun b => s0≤b∧b < s1) w3 x n B) (hown : w4.ownsRow 0 65 8 v' (L.length + 1) (X.flatMap NR.enc ++ x.enc)) (hg : w3.grownBy w4 nv.ownBlock) (hat : v'.ownBlock = nv.ownBlock ∨ v'.ownBlock = some w3.heap.size)
  (h5 : w5 = w4.setCell ⟨ra,0,none⟩ v') :
  RA w5 ra rm (L ++ [n]) (fun b => C b ∨ (s0≤b∧b < s1)) B v' (X ++ [x])∧ButF (RFF ra nv C) w3 w5:=by
 have hpa:=h.pal
 have hsz4 : w3.heap.size≤w4.heap.size:=hg.size
 have hsz5 : w5.heap.size = w4.heap.size:=by rw [h5]; simp [World.setCell]
 have hpav : v'.ownBlock ≠ some ra:=by
  rcases hat with e | e
  ·rw [e]; exact h.av
  ·rw [e]; intro e2; injection e2 with e2; omega
 have hoth : ∀ b,b < w3.heap.size→nv.ownBlock ≠ some b→b ≠ ra→w5.heap[b]? = w3.heap[b]?:=fun b hb h1 h2 => by
  rw [h5,heap_setCell_other _ _ _ _ h2]
  exact hg.block b hb (fun e => h1 e.symm)
 constructor
 ·refine ⟨?_,by simp [h.len],?_,?_,?_,?_,?_⟩
  ·rw [h5]
   exact heap_setCell_same w4 ra 0 _ _ _ ((hg.block ra hpa (fun e => h.av e.symm)).trans h.blk)
  ·rw [List.length_append,List.length_singleton,List.flatMap_append,List.flatMap_singleton,h5]
   exact ownsRow_setCell_other hown hpav v'
  ·intro i hi
   rw [List.length_append,List.length_singleton] at hi
   by_cases e : i < L.length
   ·rw [List.getElem_append_left e,List.getElem_append_left (by have:=h.len; omega)]
    refine (h.nodes i e).move (by omega) (fun b hb hl => hoth b hl (fun e => h.cv b e hb) (fun e => h.ca (e ▸ hb))) fun b hb _ => .inl hb
   ·obtain rfl : i = L.length:=by omega
    have hxl:=h.len
    have e1 : (X ++ [x])[L.length]'(by simp; omega) = x:=by
     rw [List.getElem_append_right (by omega)]
     simp [hxl]
    have e2 : (L ++ [n])[L.length]'(by simp) = n:=by
     rw [List.getElem_append_right (Nat.le_refl _)]
     simp
    rw [e1,e2]
    refine hx.move (by omega) (fun b hb hl => hoth b hl (fun e => by have:=hfa b (.inr (.inl e)); omega) (fun e => by have:=hfa b (.inl e); omega)) fun b hb _ => .inr hb
  ·rintro b (hb | hb)
   ·have:=h.cl b hb; omega
   ·omega
  ·rintro (hb | hb)
   ·exact h.ca hb
   ·have:=hfa ra (.inl rfl); omega
  ·intro g hgv
   rintro (hb | hb)
   ·rcases hat with e | e
    ·exact h.cv g (e ▸ hgv) hb
    ·rw [e] at hgv; injection hgv with hgv; have:=h.cl g hb; omega
   ·rcases hat with e | e
    ·have:=hfa g (.inr (.inl (e ▸ hgv))); omega
    ·rw [e] at hgv; injection hgv with hgv; omega
 ·refine ⟨?_,?_,?_,by omega,fun b hb hf => hoth b hb (fun e => hf (.inr (.inl e))) (fun e => hf (.inl e))⟩
  ·rw [h5]; exact hg.os
  ·rw [h5]; exact hg.tape
  ·rw [h5]; exact hg.output

set_option maxRecDepth 100000 in
set_option maxHeartbeats 1600000 in
theorem has_n {w : World} {ra rm : Nat} {L : List Nd} {C : Nat→Prop} {B : Nat} {nv : Value} {X : List NR} (h : RA w ra rm L C B nv X) (i : Int) :
  Calls Tryz.prog 28 #[.pointer (some ⟨ra,0,none⟩),.int .i64 i] w fun e w' => e = .returned (.bool (!lck L.length i))∧w' = w:=by
 obtain ⟨av,cv,rfl⟩:=h.form
 have u0:=h.c0
 by_cases h1 : 0≤i
 ·by_cases h2 : i < L.length
  ·have hl : lck L.length i = false:=by unfold lck; exact decide_eq_false (by omega)
   rw [hl]
   clear hl
   go_enter Tryz.func28,Tryz.ntmps28
   go_wp2_with fail
   go_ret
   exact ⟨rfl,rfl⟩
  ·have hl : lck L.length i = true:=by unfold lck; exact decide_eq_true (by omega)
   rw [hl]
   clear hl
   go_enter Tryz.func28,Tryz.ntmps28
   go_wp2_with fail
   go_ret
   exact ⟨rfl,rfl⟩
 ·have hl : lck L.length i = true:=by unfold lck; exact decide_eq_true (by omega)
  rw [hl]
  clear hl
  go_enter Tryz.func28,Tryz.ntmps28
  go_wp2_with fail
  go_ret
  exact ⟨rfl,rfl⟩
end Nt
end Go.Proofs.YtcfmkjegolpgaaaGreatDoor
