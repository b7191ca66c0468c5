/-
 Several texts in one: ED,EE,EF,EG,EP,EQ,ER,H8,ES,EH,EI,ET,EV,EW.
-/
import Derived.Test.YtcfmkjegolpgaaaGreatDoorP46
import Derived.Lib.OwnBridge
import Derived.Test.YtcfmkjegolpgaaaGreatDoorP06
import Derived.Test.YtcfmkjegolpgaaaGreatDoorP44
import Derived.Test.YtcfmkjegolpgaaaGreatDoorP25
namespace Go.Proofs.YtcfmkjegolpgaaaGreatDoor
open Go.RowKit Go.Sort Go.Shelf
open Tm At
namespace Nt

def ris (l : List Int) : List Int:=Lib.compact (l.mergeSort fun x y => decide (x≤y))
theorem compact_len (l : List Int) : (Lib.compact l).length≤l.length:=by
 unfold Lib.compact Lib.compactUpTo
 rw [List.length_map]
 exact Nat.le_trans (List.length_filter_le _ _) (by simp)
theorem compact_mem {l : List Int} {x : Int} (h : x ∈ Lib.compact l) : x ∈ l:=by
 unfold Lib.compact Lib.compactUpTo at h
 obtain ⟨j,hj,rfl⟩:=List.mem_map.1 h
 have hj:=List.mem_range.1 (List.mem_filter.1 hj).1
 rw [getElem!_pos _ _ (by simpa using hj)]
 simp
theorem ris_mem {l : List Int} {x : Int} (h : x ∈ ris l) : x ∈ l:=(List.mem_mergeSort).1 (compact_mem h)
theorem ris_nil : ris [] = []:=by simp [ris,Lib.compact,Lib.compactUpTo]
def RI (w w' : World) (e : Ending) (l : List Int) : Prop:=CI w w' e (ris l).length (ris l)

set_option maxRecDepth 100000 in
set_option maxHeartbeats 1600000 in
theorem rising_n {w : World} {ka : Option Addr} {kc : Nat} {l : List Int} (hI : IL w ka l.length l) (hkn : l.length≤4194304) :
  Calls Tryz.prog 43 #[.slice ka l.length kc] w fun e w' => RI w w' e l:=by
 go_enter Tryz.func43,Tryz.ntmps43
 go_wp2_with fail
 by_cases h0 : l = []
 ·subst h0
  refine (cloneI_n (kn:=0) hI (by simp)).mono ?_
  rintro e w1 ⟨a,c,rfl,h1,h2,k1⟩
  go_wp2_with (first | (go_at_call 73; refine (Tryz.slices_Sort_int_none a c w1).mono ?_; rintro e w2 ⟨rfl,rfl⟩) | (go_at_call 74; refine (Tryz.slices_Compact_int_empty a c _).mono ?_; rintro e w3 ⟨rfl,rfl⟩))
  go_ret
  unfold RI
  rw [ris_nil]
  exact ⟨a,c,rfl,h1,h2,k1⟩
 ·have hl0 : 0 < l.length:=List.length_pos_iff.2 h0
  rcases hI.2 with h2 | ⟨b,off,rfl,hb,h2⟩
  ·omega
  have hx : ∀ x ∈ l,I64 x:=fun x hx => by
   obtain ⟨i,hi,rfl⟩:=List.getElem_of_mem hx
   exact (h2 i hi).2
  refine (Tryz.slices_Clone_int b off l.length kc l w (Nat.le_refl _) (by omega) (fun j hj => ?_)).mono ?_
  ·rw [(h2 j hj).1,List.getD_eq_getElem?_getD,List.getElem?_eq_getElem hj]
   rfl
  ·rintro e w1 ⟨v,rfl,hown,hv0,k1⟩
   rw [List.take_of_length_le (Nat.le_refl _)] at hown
   obtain ⟨g,cap,rfl,hg1,hg2,hcap,hmax, -,hH⟩:=Lib.holds_of_ownsRow hown hv0
   go_wp2_with fail
   refine (Tryz.slices_Sort_int g 0 cap l w1 hH hg2 (by omega)).mono ?_
   rintro e w2 ⟨rfl,q,os,rfl⟩
   have hsl : (l.mergeSort fun x y => decide (x≤y)).length = l.length:=List.length_mergeSort _
   have hrl : (ris l).length≤l.length:=hsl ▸ compact_len _
   have r2:=Lib.ownsRow_putRow (q:=q) hown hsl (Nat.le_refl _)
   rw [List.take_of_length_le (Nat.le_of_eq hsl)] at r2
   have r3:=Lib.ownsRow_grow r2 0 os
   have kb:=Lib.below_putRow (enc:=Value.int .i64) (q:=q) (d:=(l.mergeSort fun x y => decide (x≤y)).toArray) k1 hg1
   have kb3:=kb.trans (Lib.below_grow w.heap.size _ kb.size 0 os)
   have e0 : (putRow (Value.int .i64) (Sort.ahead w1 q) g 0 (l.mergeSort fun x y => decide (x≤y)).toArray).drewN 0 = putRow (Value.int .i64) (Sort.ahead w1 q) g 0 (l.mergeSort fun x y => decide (x≤y)).toArray:=rfl
   rw [e0] at r3 kb3
   generalize grow (putRow (Value.int .i64) (Sort.ahead w1 q) g 0 (l.mergeSort fun x y => decide (x≤y)).toArray) os = w3 at *
   obtain ⟨g',cap',e9, -, -, -, -, -,hH3⟩:=Lib.holds_of_ownsRow r3 (by simp)
   cases e9
   replace r3:=hide r3
   replace kb3:=hide kb3
   clear kb r2 hown hH e0
   have hcomp:=Tryz.slices_Compact_int g 0 cap (l.mergeSort fun x y => decide (x≤y)) w3 hH3 (by omega) (by omega)
   rw [hsl] at hcomp
   replace hcomp:=hide hcomp
   clear hH3
   go_wp2_with fail
   refine hcomp.out.mono ?_
   rintro e w4 ⟨rfl,q4,rfl⟩
   have r4:=Lib.ownsRow_putRow (q:=q4) (ys:=ris l ++ List.replicate (l.length - (ris l).length) 0) r3.out (by simp; omega) (k:=(ris l).length) hrl
   rw [List.take_left' rfl] at r4
   have k4:=Lib.below_putRow (enc:=Value.int .i64) (q:=q4) (d:=(ris l ++ List.replicate (l.length - (ris l).length) 0).toArray) kb3.out hg1
   obtain ⟨a5,c5,e5,hI5,hn5⟩:=row_il r4 (fun x hx' => hx x (ris_mem hx'))
   cases e5
   have hfin : Hid (CI w _ (.returned (.slice (some ⟨g,0,none⟩) (ris l).length cap)) (ris l).length (ris l)):=hide ⟨_,_,rfl,hI5,hn5,k4⟩
   clear r4 k4 hI5 hn5
   go_wp2
   go_ret
   exact hfin.out
end Nt
namespace Nt

def cst (k : Int) : Nd:=⟨k,0,[],0,0,[]⟩
def NW (w w' : World) (e : Ending) (pm : Nat) : Prop :=
 ∃ pa C nv bm X D,e = .returned (.pointer (some ⟨pa,0,none⟩))∧AS w' pa pm [cst 0,cst 1] C 2097152 nv bm X D∧(∀ b,FF pa bm nv C b→w.heap.size≤b)∧Below w.heap.size w w'
theorem as_new {w : World} {pa pm bm : Nat} (h : w.heap[pa]? = some (.cells #[.pointer (some ⟨pm,0,none⟩),.slice none 0 0,.map (some bm)] 83 (0,0))) (hm : w.ownsMap Tryz.prog 9 (plainElem Tryz.prog 3) bm 0 (.map [] : DataW Value)) : AS w pa pm [] (fun _ => False) 2097152 (.slice none 0 0) bm [] (.map []) :=
 ⟨h,rfl,⟨rfl,.inl ⟨rfl,rfl⟩⟩,fun i hi => absurd hi (Nat.not_lt_zero _),hm,⟨fun i hi => absurd hi (Nat.not_lt_zero _),fun t _ z => by simp [DataW.atKey]⟩,fun _ h => h.elim,id,id,fun _ _ h => h⟩
theorem cst_take (t : Nat) (h : t < 2) : [cst 0,cst 1].take (t + 1) = [cst 0,cst 1].take t ++ [cst t]∧cst t ∉ [cst 0,cst 1].take t:=by
 obtain rfl | rfl : t = 0 ∨ t = 1:=by omega
 ·exact ⟨rfl,by simp⟩
 ·refine ⟨rfl,fun h => ?_⟩
  have h1 : cst ((1 : Nat) : Int) = cst 0:=by simpa using h
  have:=congrArg Nd.kind h1
  exact absurd this (by decide)

set_option maxRecDepth 100000 in
set_option maxHeartbeats 3200000 in
theorem newM_n {w : World} {pm : Nat} {nn kk c er : Int} (_hM : MB w pm nn kk c er) (htab : Tab w) :
  Calls Tryz.prog 8 #[.pointer (some ⟨pm,0,none⟩)] w fun e w' => NW w w' e pm:=by
 have hmk:=run_makeMap (P:=Tryz.prog) 81 w
 go_enter Tryz.func8,Tryz.ntmps8
 go_wp2_with fail
 clear hmk
 have b0 : Below w.heap.size w (((w.alloc (.map #[] 0)).alloc (.cells #[.pointer (some ⟨pm,0,none⟩),.slice none 0 0,.map (some w.heap.size)] 83)).alloc (.cells #[.int .i64 0,.int .i64 1] 3)):=below_alloc' (below_alloc' (below_alloc _ _) _) _
 have hlb : (((w.alloc (.map #[] 0)).alloc (.cells #[.pointer (some ⟨pm,0,none⟩),.slice none 0 0,.map (some w.heap.size)] 83)).alloc (.cells #[.int .i64 0,.int .i64 1] 3)).heap[w.heap.size + 1 + 1]? = some (.cells #[.int .i64 0,.int .i64 1] 3 (0,0)):=by
  have:=heap_alloc_new ((w.alloc (.map #[] 0)).alloc (.cells #[.pointer (some ⟨pm,0,none⟩),.slice none 0 0,.map (some w.heap.size)] 83)) (.cells #[.int .i64 0,.int .i64 1] 3)
  simpa using this
 have hab : (((w.alloc (.map #[] 0)).alloc (.cells #[.pointer (some ⟨pm,0,none⟩),.slice none 0 0,.map (some w.heap.size)] 83)).alloc (.cells #[.int .i64 0,.int .i64 1] 3)).heap[w.heap.size + 1]? = some (.cells #[.pointer (some ⟨pm,0,none⟩),.slice none 0 0,.map (some w.heap.size)] 83 (0,0)):=by
  have h1:=heap_alloc_new (w.alloc (.map #[] 0)) (.cells #[.pointer (some ⟨pm,0,none⟩),.slice none 0 0,.map (some w.heap.size)] 83)
  have h2:=(below_alloc ((w.alloc (.map #[] 0)).alloc (.cells #[.pointer (some ⟨pm,0,none⟩),.slice none 0 0,.map (some w.heap.size)] 83)) (.cells #[.int .i64 0,.int .i64 1] 3)).block (w.heap.size + 1) (by simp)
  rw [h2]
  simpa using h1
 have hmp : (((w.alloc (.map #[] 0)).alloc (.cells #[.pointer (some ⟨pm,0,none⟩),.slice none 0 0,.map (some w.heap.size)] 83)).alloc (.cells #[.int .i64 0,.int .i64 1] 3)).ownsMap Tryz.prog 9 (plainElem Tryz.prog 3) w.heap.size 0 (.map [] : DataW Value):=((World.ownsMap_made w Tryz.prog 9 (plainElem (H:=Value) Tryz.prog 3)).alloc _).alloc _
 have hA0:=as_new hab hmp
 clear hab hmp
 generalize ((w.alloc (.map #[] 0)).alloc (.cells #[.pointer (some ⟨pm,0,none⟩),.slice none 0 0,.map (some w.heap.size)] 83)).alloc (.cells #[.int .i64 0,.int .i64 1] 3) = wb at *
 generalize hs : w.heap.size = s at *
 replace b0 : Hid (Below w.heap.size w wb):=hs ▸ b0
 go_loopw [19] (fun i wr => ∃ (t : Nat) (C : Nat→Prop) (nv : Value) (X : List NR) (D : DataW Value),t≤2∧i = .int .i64 t∧Hid (AS wr (s + 1) pm ([cst 0,cst 1].take t) C 2097152 nv s X D)∧Hid (∀ b,FF (s + 1) s nv C b→s≤b∧b ≠ s + 1 + 1)∧Hid (wr.heap[s + 1 + 1]? = some (.cells #[.int .i64 0,.int .i64 1] 3 (0,0)))∧Hid (Below w.heap.size w wr)) (fun i _ => 2 - (intOf i).toNat)
 case atStart => exact ⟨0,_,_,_,_,by omega,rfl,hA0,(fun b hb => by rcases hb with rfl | rfl | hb | hb <;> first | omega | (cases hb)),hlb,b0⟩
 case round =>
  obtain ⟨t,C,nv,X,D,ht,rfl,hA,hF,hl,kr⟩:=hrel
  by_cases htn : t < 2
  ·have hc0 : wr.cell? ⟨s + 1 + 1,t,none⟩ = some (.int .i64 (t : Int)):=by
    rw [cell_of_row _ (s + 1 + 1) t _ _ (0,0) hl.out]
    obtain rfl | rfl : t = 0 ∨ t = 1:=by omega
    ·rfl
    ·rfl
   obtain ⟨htk,hnew⟩:=cst_take t htn
   have y:=NB.new wr (t : Int) false none 0 0 none 0 0 false none 0 0 0 none 0 0
   have ka:=below_alloc wr (.cells #[.int .i64 (t : Int),.bool false,.slice none 0 0,.slice none 0 0,.bool false,.slice none 0 0,.int .i64 0,.slice none 0 0] 65)
   have hA1:=hA.out.below ka
   have hT1:=htab.below (grow_step ka kr.out)
   have hl1:=(ka.block (s + 1 + 1) (Array.getElem?_eq_some_iff.1 hl.out).1).trans hl.out
   have kr1:=grow_step ka kr.out
   replace y:=hide y
   replace hA1:=hide hA1
   go_wp2_with fail
   clear hc0
   replace y:=y.out
   replace hA1:=hA1.out
   have hq : s + 1 + 1 < wr.heap.size:=(Array.getElem?_eq_some_iff.1 hl.out).1
   generalize wr.alloc (.cells #[.int .i64 (t : Int),.bool false,.slice none 0 0,.slice none 0 0,.bool false,.slice none 0 0,.int .i64 0,.slice none 0 0] 65) = wq at *
   generalize hqe : wr.heap.size = q at *
   refine wp_region_held_drew (S:=(fun w' => w'.cell? ⟨q,0,none⟩ = some (.int .i64 (t : Int))∧w'.cell? ⟨q,1,none⟩ = some (.bool false)∧w'.cell? ⟨q,2,none⟩ = some (.slice none 0 0)∧w'.cell? ⟨q,3,none⟩ = some (.slice none 0 0)∧w'.cell? ⟨q,4,none⟩ = some (.bool false)∧w'.cell? ⟨q,5,none⟩ = some (.slice none 0 0)∧w'.cell? ⟨q,6,none⟩ = some (.int .i64 0)∧w'.cell? ⟨q,7,none⟩ = some (.slice none 0 0))) (by kernel_rfl) (lay_S y) (fun hHeld => ?_)
   show wpAnyH _ _ _ _ _ 5 _ _ _
   refine wpAnyH_take (i:=0) (oi:=⟨some 25,_,_,_,_,_⟩) (v:=?_) rfl (by kernel_rfl) (by kernel_rfl) (by kernel_rfl) (fun _ _ _ h => h) (Or.inl ⟨by rfl,?_⟩) (by assumption) ?_
   rotate_left
   ·intro wq hSw; (try dsimp only at hSw); go_simp; (try with_reducible rfl)
   (try simp only [pz])
   refine wpAnyH_take (i:=1) (oi:=⟨some 26,_,_,_,_,_⟩) (v:=?_) rfl (by kernel_rfl) (by kernel_rfl) (by kernel_rfl) (fun _ _ _ h => h) (Or.inl ⟨by rfl,?_⟩) (by assumption) ?_
   rotate_left
   ·intro wq hSw; (try dsimp only at hSw); go_simp; (try with_reducible rfl)
   (try simp only [pz])
   refine wpAnyH_take (i:=2) (oi:=⟨some 27,_,_,_,_,_⟩) (v:=?_) rfl (by kernel_rfl) (by kernel_rfl) (by kernel_rfl) (fun _ _ _ h => h) (Or.inl ⟨by rfl,?_⟩) (by assumption) ?_
   rotate_left
   ·intro wq hSw; (try dsimp only at hSw); go_simp; (try with_reducible rfl)
   (try simp only [pz])
   refine wpAnyH_ready (rs:=[3]) (by kernel_rfl) (by simp) ?_
   refine AllReadyH.cons (o:=⟨some 28,_,_,_,_,_⟩) rfl (fun K hK => ?_) AllReadyH.nil
   go_simp
   refine Calls.mono (text_n (w:=wq.drew) (kids:=[]) (ps:=[]) (d:=0) (k:=0) (B:=0) (zn_zero _) (by omega) (pn_nil _ _ _) (zn_zero _) (by omega) ⟨rfl,.inl rfl⟩ (by unfold I64; omega) (by unfold I64; decide) (by omega) (by omega) (by omega) hT1) ?_
   rintro e w2 ⟨rfl,k2⟩
   replace k2:=grow_step k2 (grow_drew (Below.refl _ _))
   have y:=y.below k2
   have hA1:=hA1.below k2
   (try go_wp2_with fail)
   refine hK.out _ _ ?_ ?_
   ·(try dsimp only); exact lay_S y
   clear hK K hHeld; intro hHeld
   (try simp only [pz])
   refine wpAnyH_ready (rs:=[4]) (by kernel_rfl) (by simp) ?_
   refine AllReadyH.cons (o:=⟨some 29,_,_,_,_,_⟩) rfl (fun K hK => ?_) AllReadyH.nil
   go_simp
   refine Calls.mono (lay_n (w:=w2) (kids:=[]) (ps:=[]) (d:=0) (k:=0) hA1 (zn_zero _) (by omega) (pn_nil _ _ _) (zn_zero _) (by omega) ⟨rfl,.inl rfl⟩ (by unfold I64; omega) (by unfold I64; decide) (by omega) (by omega) (by omega) (by simp; omega) hnew (txt_length (w:=w2) (ap:=none) (np:=0) (ka:=none) (kn:=0) (B:=0) (zn_zero _) (by omega) (pn_nil _ _ _) (zn_zero _) (by omega) ⟨rfl,.inl rfl⟩ (by unfold I64; omega) (by unfold I64; decide) (by omega) (by omega) (by omega))) ?_
   rintro e w3 ⟨rfl,C',nv',X',D',hA3,hF3,hB3⟩
   have y3 : NB w3 q (t : Int) false none 0 0 none 0 0 false none 0 0 0 none 0 0:=(hB3.block q y.lt (fun hf => by have h1:=hA.out.fl hf; omega)).trans y
   (try go_wp2_with fail)
   refine hK.out _ _ ?_ ?_
   ·(try dsimp only); exact lay_S y3
   clear hK K hHeld; intro hHeld
   (try simp only [pz])
   refine wpAnyH_done (by kernel_rfl) ?_ _
   have hA4 : Hid (AS w3 (s + 1) pm ([cst 0,cst 1].take (t + 1)) C' 2097152 nv' s X' D'):=hide (by rw [htk]; exact hA3)
   have h2q : q < w2.heap.size:=y.lt
   have hF4 : Hid (∀ b,FF (s + 1) s nv' C' b→s≤b∧b ≠ s + 1 + 1):=hide fun b hb => (hF3 b hb).elim (hF.out b) fun h => ⟨by omega,by omega⟩
   have hl2:=(k2.block (s + 1 + 1) (Array.getElem?_eq_some_iff.1 hl1).1).trans hl1
   have hl4 : Hid (w3.heap[s + 1 + 1]? = some (.cells #[.int .i64 0,.int .i64 1] 3 (0,0))):=hide ((hB3.block (s + 1 + 1) (by omega) (fun hf => (hF.out _ hf).2 rfl)).trans hl2)
   have k4 : Hid (Below w.heap.size w w3):=hide ((grow_step k2 kr1).trans (hB3.below (fun b hb => by have:=(hF.out b hb).1; omega) (by omega)))
   clear hHeld hA3 hF3 hB3 y y3 hA1 k2 hl1 hl2 kr1 hA hF hl kr ka hT1 hA0 hlb
   go_wp2
   exact ⟨⟨t + 1,C',nv',X',D',by omega,by go_num,hA4,hF4,hl4,k4⟩,by simp [intOf]; omega⟩
  ·obtain rfl : t = 2:=by omega
   have hfin : Hid (NW w wr (.returned (.pointer (some ⟨s + 1,0,none⟩))) pm):=hide ⟨s + 1,C,nv,s,X,D,rfl,hA.out,fun b hb => by have:=(hF.out b hb).1; omega,kr.out⟩
   clear hA hF hl kr hA0 hlb
   go_wp2
   go_ret
   exact hfin.out
def NN (w w' : World) (e : Ending) : Prop :=
 ∃ pm pa C nv bm X D,e = .returned (.pointer (some ⟨pa,0,none⟩))∧AS w' pa pm [cst 0,cst 1] C 2097152 nv bm X D∧MB w' pm 2000 8 0 0∧¬ FF pa bm nv C pm∧(∀ b,FF pa bm nv C b→w.heap.size≤b)∧w.heap.size≤pm∧Below w.heap.size w w'
theorem nw_nn {w w1 w' : World} {e : Ending} {pm : Nat} (h : NW w1 w' e pm) (hM : MB w1 pm 2000 8 0 0) (k : Below w.heap.size w w1∧w.heap.size≤pm) : NN w w' e:=by
 obtain ⟨pa,C,nv,bm,X,D,h1,h2,h3,h4⟩:=h
 have hl:=hM.lt
 exact ⟨pm,pa,C,nv,bm,X,D,h1,h2,hM.below h4,fun hf => by have:=h3 pm hf; omega,fun b hb => Nat.le_trans k.1.size (h3 b hb),k.2,grow_step h4 k.1⟩
set_option maxRecDepth 100000 in
set_option maxHeartbeats 3200000 in
theorem newN_n {w : World} (htab : Tab w) : Calls Tryz.prog 8 #[.pointer none] w fun e w' => NN w w' e:=by
 go_enter Tryz.func8,Tryz.ntmps8
 go_wp2_with fail
 refine (new_n (by decide) (by decide) (by decide) (by decide)).mono ?_
 rintro e w1 ⟨rfl,hM1,k1⟩
 have htab1:=htab.below k1
 have k0 : Below w.heap.size w w1∧w.heap.size≤w.heap.size:=⟨k1,Nat.le_refl _⟩
 generalize hpm : w.heap.size = pm at hM1 ⊢
 replace k0 : Below w.heap.size w w1∧w.heap.size≤pm:=⟨k0.1,Nat.le_of_eq hpm⟩
 clear hpm k1
 have hmk:=run_makeMap (P:=Tryz.prog) 81 w1
 go_wp2_with fail
 clear hmk
 have b0 : Below w1.heap.size w1 (((w1.alloc (.map #[] 0)).alloc (.cells #[.pointer (some ⟨pm,0,none⟩),.slice none 0 0,.map (some w1.heap.size)] 83)).alloc (.cells #[.int .i64 0,.int .i64 1] 3)):=below_alloc' (below_alloc' (below_alloc _ _) _) _
 have hlb : (((w1.alloc (.map #[] 0)).alloc (.cells #[.pointer (some ⟨pm,0,none⟩),.slice none 0 0,.map (some w1.heap.size)] 83)).alloc (.cells #[.int .i64 0,.int .i64 1] 3)).heap[w1.heap.size + 1 + 1]? = some (.cells #[.int .i64 0,.int .i64 1] 3 (0,0)):=by
  have:=heap_alloc_new ((w1.alloc (.map #[] 0)).alloc (.cells #[.pointer (some ⟨pm,0,none⟩),.slice none 0 0,.map (some w1.heap.size)] 83)) (.cells #[.int .i64 0,.int .i64 1] 3)
  simpa using this
 have hab : (((w1.alloc (.map #[] 0)).alloc (.cells #[.pointer (some ⟨pm,0,none⟩),.slice none 0 0,.map (some w1.heap.size)] 83)).alloc (.cells #[.int .i64 0,.int .i64 1] 3)).heap[w1.heap.size + 1]? = some (.cells #[.pointer (some ⟨pm,0,none⟩),.slice none 0 0,.map (some w1.heap.size)] 83 (0,0)):=by
  have h1:=heap_alloc_new (w1.alloc (.map #[] 0)) (.cells #[.pointer (some ⟨pm,0,none⟩),.slice none 0 0,.map (some w1.heap.size)] 83)
  have h2:=(below_alloc ((w1.alloc (.map #[] 0)).alloc (.cells #[.pointer (some ⟨pm,0,none⟩),.slice none 0 0,.map (some w1.heap.size)] 83)) (.cells #[.int .i64 0,.int .i64 1] 3)).block (w1.heap.size + 1) (by simp)
  rw [h2]
  simpa using h1
 have hmp : (((w1.alloc (.map #[] 0)).alloc (.cells #[.pointer (some ⟨pm,0,none⟩),.slice none 0 0,.map (some w1.heap.size)] 83)).alloc (.cells #[.int .i64 0,.int .i64 1] 3)).ownsMap Tryz.prog 9 (plainElem Tryz.prog 3) w1.heap.size 0 (.map [] : DataW Value):=((World.ownsMap_made w1 Tryz.prog 9 (plainElem (H:=Value) Tryz.prog 3)).alloc _).alloc _
 have hA0:=as_new hab hmp
 clear hab hmp
 generalize ((w1.alloc (.map #[] 0)).alloc (.cells #[.pointer (some ⟨pm,0,none⟩),.slice none 0 0,.map (some w1.heap.size)] 83)).alloc (.cells #[.int .i64 0,.int .i64 1] 3) = wb at *
 generalize hs : w1.heap.size = s at *
 replace b0 : Hid (Below w1.heap.size w1 wb):=hs ▸ b0
 go_loopw [19] (fun i wr => ∃ (t : Nat) (C : Nat→Prop) (nv : Value) (X : List NR) (D : DataW Value),t≤2∧i = .int .i64 t∧Hid (AS wr (s + 1) pm ([cst 0,cst 1].take t) C 2097152 nv s X D)∧Hid (∀ b,FF (s + 1) s nv C b→s≤b∧b ≠ s + 1 + 1)∧Hid (wr.heap[s + 1 + 1]? = some (.cells #[.int .i64 0,.int .i64 1] 3 (0,0)))∧Hid (Below w1.heap.size w1 wr)) (fun i _ => 2 - (intOf i).toNat)
 case atStart => exact ⟨0,_,_,_,_,by omega,rfl,hA0,(fun b hb => by rcases hb with rfl | rfl | hb | hb <;> first | omega | (cases hb)),hlb,b0⟩
 case round =>
  obtain ⟨t,C,nv,X,D,ht,rfl,hA,hF,hl,kr⟩:=hrel
  by_cases htn : t < 2
  ·have hc0 : wr.cell? ⟨s + 1 + 1,t,none⟩ = some (.int .i64 (t : Int)):=by
    rw [cell_of_row _ (s + 1 + 1) t _ _ (0,0) hl.out]
    obtain rfl | rfl : t = 0 ∨ t = 1:=by omega
    ·rfl
    ·rfl
   obtain ⟨htk,hnew⟩:=cst_take t htn
   have y:=NB.new wr (t : Int) false none 0 0 none 0 0 false none 0 0 0 none 0 0
   have ka:=below_alloc wr (.cells #[.int .i64 (t : Int),.bool false,.slice none 0 0,.slice none 0 0,.bool false,.slice none 0 0,.int .i64 0,.slice none 0 0] 65)
   have hA1:=hA.out.below ka
   have hT1:=htab1.below (grow_step ka kr.out)
   have hl1:=(ka.block (s + 1 + 1) (Array.getElem?_eq_some_iff.1 hl.out).1).trans hl.out
   have kr1:=grow_step ka kr.out
   replace y:=hide y
   replace hA1:=hide hA1
   go_wp2_with fail
   clear hc0
   replace y:=y.out
   replace hA1:=hA1.out
   have hq : s + 1 + 1 < wr.heap.size:=(Array.getElem?_eq_some_iff.1 hl.out).1
   generalize wr.alloc (.cells #[.int .i64 (t : Int),.bool false,.slice none 0 0,.slice none 0 0,.bool false,.slice none 0 0,.int .i64 0,.slice none 0 0] 65) = wq at *
   generalize hqe : wr.heap.size = q at *
   refine wp_region_held_drew (S:=(fun w' => w'.cell? ⟨q,0,none⟩ = some (.int .i64 (t : Int))∧w'.cell? ⟨q,1,none⟩ = some (.bool false)∧w'.cell? ⟨q,2,none⟩ = some (.slice none 0 0)∧w'.cell? ⟨q,3,none⟩ = some (.slice none 0 0)∧w'.cell? ⟨q,4,none⟩ = some (.bool false)∧w'.cell? ⟨q,5,none⟩ = some (.slice none 0 0)∧w'.cell? ⟨q,6,none⟩ = some (.int .i64 0)∧w'.cell? ⟨q,7,none⟩ = some (.slice none 0 0))) (by kernel_rfl) (lay_S y) (fun hHeld => ?_)
   show wpAnyH _ _ _ _ _ 5 _ _ _
   refine wpAnyH_take (i:=0) (oi:=⟨some 25,_,_,_,_,_⟩) (v:=?_) rfl (by kernel_rfl) (by kernel_rfl) (by kernel_rfl) (fun _ _ _ h => h) (Or.inl ⟨by rfl,?_⟩) (by assumption) ?_
   rotate_left
   ·intro wq hSw; (try dsimp only at hSw); go_simp; (try with_reducible rfl)
   (try simp only [pz])
   refine wpAnyH_take (i:=1) (oi:=⟨some 26,_,_,_,_,_⟩) (v:=?_) rfl (by kernel_rfl) (by kernel_rfl) (by kernel_rfl) (fun _ _ _ h => h) (Or.inl ⟨by rfl,?_⟩) (by assumption) ?_
   rotate_left
   ·intro wq hSw; (try dsimp only at hSw); go_simp; (try with_reducible rfl)
   (try simp only [pz])
   refine wpAnyH_take (i:=2) (oi:=⟨some 27,_,_,_,_,_⟩) (v:=?_) rfl (by kernel_rfl) (by kernel_rfl) (by kernel_rfl) (fun _ _ _ h => h) (Or.inl ⟨by rfl,?_⟩) (by assumption) ?_
   rotate_left
   ·intro wq hSw; (try dsimp only at hSw); go_simp; (try with_reducible rfl)
   (try simp only [pz])
   refine wpAnyH_ready (rs:=[3]) (by kernel_rfl) (by simp) ?_
   refine AllReadyH.cons (o:=⟨some 28,_,_,_,_,_⟩) rfl (fun K hK => ?_) AllReadyH.nil
   go_simp
   refine Calls.mono (text_n (w:=wq.drew) (kids:=[]) (ps:=[]) (d:=0) (k:=0) (B:=0) (zn_zero _) (by omega) (pn_nil _ _ _) (zn_zero _) (by omega) ⟨rfl,.inl rfl⟩ (by unfold I64; omega) (by unfold I64; decide) (by omega) (by omega) (by omega) hT1) ?_
   rintro e w2 ⟨rfl,k2⟩
   replace k2:=grow_step k2 (grow_drew (Below.refl _ _))
   have y:=y.below k2
   have hA1:=hA1.below k2
   (try go_wp2_with fail)
   refine hK.out _ _ ?_ ?_
   ·(try dsimp only); exact lay_S y
   clear hK K hHeld; intro hHeld
   (try simp only [pz])
   refine wpAnyH_ready (rs:=[4]) (by kernel_rfl) (by simp) ?_
   refine AllReadyH.cons (o:=⟨some 29,_,_,_,_,_⟩) rfl (fun K hK => ?_) AllReadyH.nil
   go_simp
   refine Calls.mono (lay_n (w:=w2) (kids:=[]) (ps:=[]) (d:=0) (k:=0) hA1 (zn_zero _) (by omega) (pn_nil _ _ _) (zn_zero _) (by omega) ⟨rfl,.inl rfl⟩ (by unfold I64; omega) (by unfold I64; decide) (by omega) (by omega) (by omega) (by simp; omega) hnew (txt_length (w:=w2) (ap:=none) (np:=0) (ka:=none) (kn:=0) (B:=0) (zn_zero _) (by omega) (pn_nil _ _ _) (zn_zero _) (by omega) ⟨rfl,.inl rfl⟩ (by unfold I64; omega) (by unfold I64; decide) (by omega) (by omega) (by omega))) ?_
   rintro e w3 ⟨rfl,C',nv',X',D',hA3,hF3,hB3⟩
   have y3 : NB w3 q (t : Int) false none 0 0 none 0 0 false none 0 0 0 none 0 0:=(hB3.block q y.lt (fun hf => by have h1:=hA.out.fl hf; omega)).trans y
   (try go_wp2_with fail)
   refine hK.out _ _ ?_ ?_
   ·(try dsimp only); exact lay_S y3
   clear hK K hHeld; intro hHeld
   (try simp only [pz])
   refine wpAnyH_done (by kernel_rfl) ?_ _
   have hA4 : Hid (AS w3 (s + 1) pm ([cst 0,cst 1].take (t + 1)) C' 2097152 nv' s X' D'):=hide (by rw [htk]; exact hA3)
   have h2q : q < w2.heap.size:=y.lt
   have hF4 : Hid (∀ b,FF (s + 1) s nv' C' b→s≤b∧b ≠ s + 1 + 1):=hide fun b hb => (hF3 b hb).elim (hF.out b) fun h => ⟨by omega,by omega⟩
   have hl2:=(k2.block (s + 1 + 1) (Array.getElem?_eq_some_iff.1 hl1).1).trans hl1
   have hl4 : Hid (w3.heap[s + 1 + 1]? = some (.cells #[.int .i64 0,.int .i64 1] 3 (0,0))):=hide ((hB3.block (s + 1 + 1) (by omega) (fun hf => (hF.out _ hf).2 rfl)).trans hl2)
   have k4 : Hid (Below w1.heap.size w1 w3):=hide ((grow_step k2 kr1).trans (hB3.below (fun b hb => by have:=(hF.out b hb).1; omega) (by omega)))
   clear hHeld hA3 hF3 hB3 y y3 hA1 k2 hl1 hl2 kr1 hA hF hl kr ka hT1 hA0 hlb
   go_wp2
   exact ⟨⟨t + 1,C',nv',X',D',by omega,by go_num,hA4,hF4,hl4,k4⟩,by simp [intOf]; omega⟩
  ·obtain rfl : t = 2:=by omega
   have hfin : Hid (NW w1 wr (.returned (.pointer (some ⟨s + 1,0,none⟩))) pm):=hide ⟨s + 1,C,nv,s,X,D,rfl,hA.out,fun b hb => by have:=(hF.out b hb).1; omega,kr.out⟩
   clear hA hF hl kr hA0 hlb
   go_wp2
   go_ret
   exact nw_nn hfin.out hM1 k0
end Nt
namespace Nt

def lck (n : Nat) (id : Int) : Bool:=decide (id < 0 ∨ (n : Int)≤id)

set_option maxRecDepth 100000 in
set_option maxHeartbeats 1600000 in
theorem index8_n {w : World} {pa pm : Nat} {L : List Nd} {C : Nat→Prop} {B : Nat} {nv : Value} {bm : Nat} {X : List NR} {D : DataW Value} {ka : Option Addr} {kc : Nat} {l : List Int} (hA : AS w pa pm L C B nv bm X D) (hI : IL w ka l.length l) (hm : l.length≤4194304) :
  Calls Tryz.prog 71 #[.slice ka l.length kc,.func (.func 42) #[.pointer (some ⟨pa,0,none⟩)] #[]] w fun x w' => ∃ i : Int,x = .returned (.int .i64 i)∧(decide (0≤i) = l.any (lck L.length))∧-1≤i∧i < l.length∧w' = w:=by
 go_enter Tryz.func71,Tryz.ntmps71
 go_wp2_with fail
 go_loopw [8] (fun i wr => ∃ t : Nat,t≤l.length∧i = .int .i64 t∧Hid ((l.take t).any (lck L.length) = false)∧wr = w) (fun i _ => l.length - (intOf i).toNat)
 case atStart => exact ⟨0,Nat.zero_le _,rfl,(show _ = _ by simp),rfl⟩
 case round =>
  obtain ⟨t,ht,rfl,hno,rfl⟩:=hrel
  by_cases htm : t < l.length
  ·rcases hI.2 with h0 | ⟨bp,op,rfl,hbp,hLL⟩
   ·omega
   ·obtain ⟨e0,hx⟩:=hLL t htm
    have hstep : Hid ((l.take (t + 1)).any (lck L.length) = lck L.length l[t]):=(show _ = _ by rw [List.take_succ_eq_append_getElem (l:=l) (i:=t) (by omega),List.any_append,hno.out]; simp)
    have hex : Hid (lck L.length l[t] = true→l.any (lck L.length) = true):=(fun hh => List.any_eq_true.2 ⟨l[t],List.getElem_mem _,hh⟩)
    generalize l[t] = lt at *
    clear hI hLL
    go_wp2_with fail
    refine (lacks_n hA lt).mono ?_
    rintro x w2 ⟨rfl,rfl⟩
    cases hil : lck L.length lt with
    | true =>
     have hany:=hide (hex.out hil)
     unfold lck at hil
     rw [hil]
     clear hil
     go_wp2
     go_ret
     exact ⟨t,rfl,by rw [hany.out]; simp,by omega,by omega,rfl⟩
    | false =>
     have hst:=hide (hstep.out.trans hil)
     unfold lck at hil
     rw [hil]
     clear hil
     go_wp2
     go_round
     case rel => exact ⟨t + 1,by omega,by go_num,hst,by trivial⟩
     case measure => simp [intOf]; omega
  ·obtain rfl : t = l.length:=by omega
   have hall : Hid (l.any (lck L.length) = false):=by
    have h1:=hno.out
    rw [List.take_of_length_le (Nat.le_refl _)] at h1
    exact h1
   clear hno
   go_wp2
   go_ret
   exact ⟨-1,rfl,by rw [hall.out]; rfl,by omega,by omega,rfl⟩

set_option maxRecDepth 100000 in
set_option maxHeartbeats 1600000 in
theorem contains8_n {w : World} {pa pm : Nat} {L : List Nd} {C : Nat→Prop} {B : Nat} {nv : Value} {bm : Nat} {X : List NR} {D : DataW Value} {ka : Option Addr} {kc : Nat} {l : List Int} (hA : AS w pa pm L C B nv bm X D) (hI : IL w ka l.length l) (hm : l.length≤4194304) :
  Calls Tryz.prog 41 #[.slice ka l.length kc,.func (.func 42) #[.pointer (some ⟨pa,0,none⟩)] #[]] w fun x w' => x = .returned (.bool (l.any (lck L.length)))∧w' = w:=by
 go_enter Tryz.func41,Tryz.ntmps41
 go_wp2_with fail
 refine (index8_n hA hI hm).mono ?_
 rintro x w2 ⟨i,rfl,hi,hi1,hi2,rfl⟩
 replace hi:=hide hi
 go_wp2
 go_ret
 exact ⟨by rw [← hi.out]; rfl,rfl⟩
end Nt
namespace Nt

def JO (w w' : World) (e : Ending) (pa pm : Nat) (L : List Nd) (C : Nat→Prop) (B : Nat) (nv : Value) (bm : Nat) (nn kk c er kd : Int) (l : List Int) : Prop :=
 if ¬ (kd = 5 ∨ kd = 6) then e = .returned (.tuple #[.int .i64 0,.int .i64 1])∧w' = w
 else if l.any (lck L.length) = true then e = .returned (.tuple #[.int .i64 0,.int .i64 80])∧w' = w
 else match ris l with
  | [] => e = .returned (.tuple #[.int .i64 (if kd = 5 then 1 else 0),.int .i64 0])∧Below w.heap.size w w'
  | [x] => e = .returned (.tuple #[.int .i64 x,.int .i64 0])∧Below w.heap.size w w'
  | x :: y :: t => MD w w' e pa pm L C B nv bm nn kk c er ⟨kd,0,[],0,0,x :: y :: t⟩
theorem ris_len (l : List Int) : (ris l).length≤l.length:=by
 have h:=compact_len (l.mergeSort fun x y => decide (x≤y))
 rwa [List.length_mergeSort] at h

set_option maxRecDepth 100000 in
set_option maxHeartbeats 3200000 in
theorem join8_n {w : World} {pa pm : Nat} {L : List Nd} {C : Nat→Prop} {nv : Value} {bm : Nat} {X : List NR} {D : DataW Value} {nn kk c er : Int} {kd : Int} {ka : Option Addr} {kc : Nat} {l : List Int}
  (hA : AS w pa pm L C 2097152 nv bm X D) (hM : MB w pm nn kk c er) (hpm : ¬ FF pa bm nv C pm) (hc : 0≤c) (hcn : c≤nn) (hnn : nn≤2000) (he : 0≤er) (he2 : er < 256) (hI : IL w ka l.length l) (hl : l.length≤1048576) (hL : L.length≤1048576) (htab : Tab w) :
  Calls Tryz.prog 13 #[.pointer (some ⟨pa,0,none⟩),.int .i64 kd,.slice ka l.length kc] w fun e w' => JO w w' e pa pm L C 2097152 nv bm nn kk c er kd l:=by
 by_cases hb : kd = 5 ∨ kd = 6
 ·cases ha : l.any (lck L.length) with
  | true =>
   rcases hb with rfl | rfl
   all_goals
    go_enter Tryz.func13,Tryz.ntmps13
    go_wp2_with (go_at_call 41; refine (contains8_n hA hI (by omega)).mono ?_; rintro e w1 ⟨rfl,rfl⟩; rw [ha])
    refine bodyPost_ret (results_tmp2 rfl _ _ _) rfl ?_
    unfold JO
    rw [if_neg (by decide),if_pos ha]
    exact ⟨rfl,rfl⟩
  | false =>
   have hrl:=ris_len l
   rcases hb with rfl | rfl
   ·go_enter Tryz.func13,Tryz.ntmps13
    go_wp2_with (go_at_call 41; refine (contains8_n hA hI (by omega)).mono ?_; rintro e w1 ⟨rfl,rfl⟩; rw [ha])
    refine (rising_n hI (by omega)).mono ?_
    rintro e w2 ⟨a2,c2,rfl,hI2,hn2,k2⟩
    cases hr : ris l with
    | nil =>
     simp only [List.length_nil]
     clear hI2 hn2 hA hM hI htab
     go_wp2
     refine bodyPost_ret (results_tmp2 rfl _ _ _) rfl ?_
     unfold JO
     rw [if_neg (by decide),if_neg (by rw [ha]; decide),hr]
     exact ⟨rfl,k2⟩
    | cons x t =>
     cases t with
     | nil =>
      rw [hr] at hI2
      rcases hI2.2 with h0 | ⟨b,off,rfl,hb,hI3⟩
      ·exact absurd h0 (by simp)
      obtain ⟨e0, -⟩:=hI3 0 (by simp)
      simp only [Nat.add_zero,List.getElem_cons_zero] at e0
      simp only [List.length_cons,List.length_nil,Nat.zero_add]
      clear hI2 hI3 hn2 hA hM hI htab
      go_wp2
      refine bodyPost_ret (results_tmp2 rfl _ _ _) rfl ?_
      unfold JO
      rw [if_neg (by decide),if_neg (by rw [ha]; decide),hr]
      exact ⟨rfl,k2⟩
     | cons y t =>
      rw [hr] at hI2 hn2 hrl
      have hml:=hM.lt
      have hkp : InF (fun b => b ≠ pm) a2 (x :: y :: t).length:=fun b off e h0 => by have:=hn2 b off e h0; omega
      have hl2 : 1 < (x :: y :: t).length:=by simp
      generalize hgt : x :: y :: t = m at *
      generalize hgl : m.length = ml at *
      have hmade:=made_n (kc:=c2) (sd:=false) (ad:=none) (ld:=0) (cd:=0) (ap:=none) (np:=0) (cp:=0) (sk:=false) (ak:=none) (lk:=0) (ck:=0) (d:=0) (k:=0) (ps:=[]) (vr:=0) (hA.below k2) (hM.below k2) hpm hc hcn hnn he he2 (zn_zero _) (by omega) (pn_nil _ _ _) (zn_zero _) (by omega) hI2 hkp (show I64 (5 : Int) by unfold I64; decide) (by unfold I64; decide) (by omega) (by omega) (by omega) hL (htab.below k2)
      replace hmade:=hide hmade
      clear hI2 hA hM hI htab hkp hn2
      go_wp2_with fail
      refine hmade.out.mono ?_
      rintro e w3 hMD
      have hMD2:=hide (md_back hMD k2)
      obtain ⟨ra,rb,rfl⟩ : ∃ ra rb : Int,e = .returned (.tuple #[.int .i64 ra,.int .i64 rb]):=by
       rcases hMD with ⟨i,_,h2,_⟩ | ⟨_,_,h3,_⟩ | ⟨_,_,h3,_⟩
       ·exact ⟨_,_,h2⟩
       ·exact ⟨_,_,h3⟩
       ·exact ⟨_,_,h3⟩
      clear hMD hmade
      go_wp2
      refine bodyPost_ret (results_tmp2 rfl _ _ _) rfl ?_
      unfold JO
      rw [if_neg (by decide),if_neg (by rw [ha]; decide),hr,← hgt]
      rw [← hgt] at hMD2
      exact hMD2.out
   ·go_enter Tryz.func13,Tryz.ntmps13
    go_wp2_with (go_at_call 41; refine (contains8_n hA hI (by omega)).mono ?_; rintro e w1 ⟨rfl,rfl⟩; rw [ha])
    refine (rising_n hI (by omega)).mono ?_
    rintro e w2 ⟨a2,c2,rfl,hI2,hn2,k2⟩
    cases hr : ris l with
    | nil =>
     simp only [List.length_nil]
     clear hI2 hn2 hA hM hI htab
     go_wp2
     refine bodyPost_ret (results_tmp2 rfl _ _ _) rfl ?_
     unfold JO
     rw [if_neg (by decide),if_neg (by rw [ha]; decide),hr]
     exact ⟨rfl,k2⟩
    | cons x t =>
     cases t with
     | nil =>
      rw [hr] at hI2
      rcases hI2.2 with h0 | ⟨b,off,rfl,hb,hI3⟩
      ·exact absurd h0 (by simp)
      obtain ⟨e0, -⟩:=hI3 0 (by simp)
      simp only [Nat.add_zero,List.getElem_cons_zero] at e0
      simp only [List.length_cons,List.length_nil,Nat.zero_add]
      clear hI2 hI3 hn2 hA hM hI htab
      go_wp2
      refine bodyPost_ret (results_tmp2 rfl _ _ _) rfl ?_
      unfold JO
      rw [if_neg (by decide),if_neg (by rw [ha]; decide),hr]
      exact ⟨rfl,k2⟩
     | cons y t =>
      rw [hr] at hI2 hn2 hrl
      have hml:=hM.lt
      have hkp : InF (fun b => b ≠ pm) a2 (x :: y :: t).length:=fun b off e h0 => by have:=hn2 b off e h0; omega
      have hl2 : 1 < (x :: y :: t).length:=by simp
      generalize hgt : x :: y :: t = m at *
      generalize hgl : m.length = ml at *
      have hmade:=made_n (kc:=c2) (sd:=false) (ad:=none) (ld:=0) (cd:=0) (ap:=none) (np:=0) (cp:=0) (sk:=false) (ak:=none) (lk:=0) (ck:=0) (d:=0) (k:=0) (ps:=[]) (vr:=0) (hA.below k2) (hM.below k2) hpm hc hcn hnn he he2 (zn_zero _) (by omega) (pn_nil _ _ _) (zn_zero _) (by omega) hI2 hkp (show I64 (6 : Int) by unfold I64; decide) (by unfold I64; decide) (by omega) (by omega) (by omega) hL (htab.below k2)
      replace hmade:=hide hmade
      clear hI2 hA hM hI htab hkp hn2
      go_wp2_with fail
      refine hmade.out.mono ?_
      rintro e w3 hMD
      have hMD2:=hide (md_back hMD k2)
      obtain ⟨ra,rb,rfl⟩ : ∃ ra rb : Int,e = .returned (.tuple #[.int .i64 ra,.int .i64 rb]):=by
       rcases hMD with ⟨i,_,h2,_⟩ | ⟨_,_,h3,_⟩ | ⟨_,_,h3,_⟩
       ·exact ⟨_,_,h2⟩
       ·exact ⟨_,_,h3⟩
       ·exact ⟨_,_,h3⟩
      clear hMD hmade
      go_wp2
      refine bodyPost_ret (results_tmp2 rfl _ _ _) rfl ?_
      unfold JO
      rw [if_neg (by decide),if_neg (by rw [ha]; decide),hr,← hgt]
      rw [← hgt] at hMD2
      exact hMD2.out
 ·go_enter Tryz.func13,Tryz.ntmps13
  have h5 : (kd != 5) = true:=by simp; omega
  have h6 : (kd != 6) = true:=by simp; omega
  go_wp2
  refine bodyPost_ret (results_tmp2 rfl _ _ _) rfl ?_
  unfold JO
  rw [if_pos hb]
  exact ⟨rfl,rfl⟩
end Nt
namespace Nt
theorem upto_rises {d : Array Int} (hs : ∀ i j,i≤j→j < d.size→d[i]!≤d[j]!) : ∀ m,m≤d.size→(Lib.compactUpTo d m).Pairwise (· < ·)∧∀ x ∈ Lib.compactUpTo d m,∃ j,j < m∧x = d[j]!
 | 0,_ => ⟨by simp [Lib.compactUpTo],by simp [Lib.compactUpTo]⟩
 | m + 1,hm => by
  obtain ⟨h1,h2⟩:=upto_rises hs m (by omega)
  rw [Lib.compactUpTo_succ]
  by_cases hk : Lib.keeps d m = true
  ·rw [if_pos hk]
   refine ⟨List.pairwise_append.2 ⟨h1,by simp,fun x hx y hy => ?_⟩,fun x hx => ?_⟩
   ·obtain ⟨j,hj,rfl⟩:=h2 x hx
    obtain rfl:=List.mem_singleton.1 hy
    have h3 : d[m]! ≠ d[m - 1]!:=by
     have h4:=of_decide_eq_true hk
     rcases h4 with h4 | h4
     ·omega
     ·exact h4
    have h5:=hs j (m - 1) (by omega) (by omega)
    have h6:=hs (m - 1) m (by omega) (by omega)
    omega
   ·rcases List.mem_append.1 hx with h | h
    ·obtain ⟨j,hj,e⟩:=h2 x h
     exact ⟨j,by omega,e⟩
    ·exact ⟨m,by omega,List.mem_singleton.1 h⟩
  ·rw [if_neg hk,List.append_nil]
   exact ⟨h1,fun x hx => by obtain ⟨j,hj,e⟩:=h2 x hx; exact ⟨j,by omega,e⟩⟩
theorem sort_le (l : List Int) : (l.mergeSort fun x y => decide (x≤y)).Pairwise (·≤·):=by
 have h:=List.pairwise_mergeSort (le:=fun x y : Int => decide (x≤y)) (fun a b c h1 h2 => by simp at *; omega) (fun a b => by simp; omega) l
 exact h.imp (fun h => by simpa using h)
theorem ris_rises (l : List Int) : (ris l).Pairwise (· < ·):=by
 have h:=sort_le l
 refine (upto_rises (d:=(l.mergeSort fun x y => decide (x≤y)).toArray) (fun i j hij hj => ?_) _ (by simp)).1
 have hj2 : j < (l.mergeSort fun x y => decide (x≤y)).length:=by simpa using hj
 rw [getElem!_pos (l.mergeSort fun x y => decide (x≤y)).toArray i (by simpa using Nat.lt_of_le_of_lt hij hj2),getElem!_pos (l.mergeSort fun x y => decide (x≤y)).toArray j hj]
 by_cases he : i = j
 ·subst he; exact Int.le_refl _
 ·exact List.pairwise_iff_getElem.1 h i j _ _ (by omega)
theorem ris_two (x : Int) : ris [x,x] = [x]:=by
 unfold ris
 rw [List.mergeSort_of_pairwise (by simp)]
 simp [Lib.compact,Lib.compactUpTo,Lib.keeps,List.range_succ]
structure St where
 L : List Nd
 c : Int
 er : Int
def nums (n : Nd) : List Int:=n.d :: n.k :: n.ps.map Prod.snd
def Uq (L : List Nd) : Prop:=∀ (i j : Nat) (n : Nd),L[i]? = some n→L[j]? = some n→i = j
open Classical in
def eqn (a b : Nd) : Bool:=decide (a.kind = b.kind∧a.d = b.d∧a.ps = b.ps∧a.k = b.k∧a.var = b.var∧a.kids = b.kids)
theorem eqn_iff (a b : Nd) : eqn a b = true ↔ a = b:=by
 cases a
 cases b
 simp [eqn]
def spot (L : List Nd) (n : Nd) : Nat:=L.findIdx (eqn n)
theorem spot_at {L : List Nd} {n : Nd} (h : ∃ i : Nat,L[i]? = some n) : spot L n < L.length∧L[spot L n]? = some n:=by
 obtain ⟨i,hi⟩:=h
 have h1 : spot L n < L.length:=List.findIdx_lt_length_of_exists ⟨n,List.mem_of_getElem? hi,(eqn_iff n n).2 rfl⟩
 refine ⟨h1,?_⟩
 have h2 : eqn n (L[spot L n]'h1) = true:=List.findIdx_getElem (w:=h1)
 rw [List.getElem?_eq_getElem h1,← (eqn_iff _ _).1 h2]
theorem spot_no {L : List Nd} {n : Nd} (h : ¬ ∃ i : Nat,L[i]? = some n) : ¬ spot L n < L.length:=fun h1 => h ⟨spot L n,by
 have h2 : eqn n (L[spot L n]'h1) = true:=List.findIdx_getElem (w:=h1)
 rw [List.getElem?_eq_getElem h1,← (eqn_iff _ _).1 h2]⟩
def put (nn kk : Int) (s : St) (n : Nd) : St × Option Int :=
 if spot s.L n < s.L.length then (s,some (spot s.L n : Int))
 else if (mstep nn kk s.c s.er (nums n)).1 = 0 then (⟨s.L ++ [n],(mstep nn kk s.c s.er (nums n)).2.1,(mstep nn kk s.c s.er (nums n)).2.2⟩,some (s.L.length : Int))
 else (⟨s.L,(mstep nn kk s.c s.er (nums n)).2.1,(mstep nn kk s.c s.er (nums n)).2.2⟩,none)
def joinA (kd : Int) (l : List Int) : Option Int ⊕ Nd:=match ris l with
 | [] => .inl (some (if kd = 5 then 1 else 0))
 | [x] => .inl (some x)
 | x :: y :: t => .inr ⟨kd,0,[],0,0,x :: y :: t⟩
def atomA (kd d : Int) (ps : List (Int × Int)) (k : Int) : Option Int ⊕ Nd:=match formA kd d (nz (lays [] ps)) k with
 | .inr _ => .inl none
 | .inl f => .inr ⟨f.kind,f.d,f.ps,f.k,0,[]⟩
def asked (nn kk : Int) (s : St) (q : Option Int ⊕ Nd) : St × Option Int:=match q with
 | .inl o => (s,o)
 | .inr n => put nn kk s n
theorem mstep_cases (nn kk c e : Int) (zs : List Int) : (e ≠ 0∧mstep nn kk c e zs = (e,c,e)) ∨ (e = 0∧∃ r,r ≠ 0∧mstep nn kk c e zs = (r,c,r)∧(r = 70 ∨ r = 71)) ∨ (e = 0∧mstep nn kk c e zs = (0,c + 1,0)∧(zs.any fun z => decide (kk < (lim z : Int))) = false∧1≤nn - c):=by
 unfold mstep
 by_cases h : e ≠ 0
 ·rw [if_pos h]; exact .inl ⟨h,rfl⟩
 ·rw [if_neg h]
  have h0 : e = 0:=Decidable.not_not.1 h
  by_cases h1 : (zs.any fun z => decide (kk < (lim z : Int))) = true
  ·rw [if_pos h1]; exact .inr (.inl ⟨h0,71,by decide,rfl,.inr rfl⟩)
  ·rw [if_neg h1]
   by_cases h2 : nn - c < 1
   ·rw [if_pos h2]; exact .inr (.inl ⟨h0,70,by decide,rfl,.inl rfl⟩)
   ·rw [if_neg h2]; exact .inr (.inr ⟨h0,rfl,by simpa using h1,by omega⟩)
theorem put_cases (nn kk : Int) (s : St) (n : Nd) :
  (∃ i : Nat,s.L[i]? = some n∧put nn kk s n = (s,some (i : Int))) ∨
  ((∀ i : Nat,s.L[i]? ≠ some n)∧s.er ≠ 0∧put nn kk s n = (s,none)) ∨
  ((∀ i : Nat,s.L[i]? ≠ some n)∧s.er = 0∧∃ r,(r = 70 ∨ r = 71)∧put nn kk s n = (⟨s.L,s.c,r⟩,none)) ∨
  ((∀ i : Nat,s.L[i]? ≠ some n)∧s.er = 0∧((nums n).any fun z => decide (kk < (lim z : Int))) = false∧1≤nn - s.c∧put nn kk s n = (⟨s.L ++ [n],s.c + 1,0⟩,some (s.L.length : Int))):=by
 unfold put
 by_cases h : ∃ i : Nat,s.L[i]? = some n
 ·rw [if_pos (spot_at h).1]; exact .inl ⟨spot s.L n,(spot_at h).2,rfl⟩
 ·rw [if_neg (spot_no h)]
  have hn : ∀ i : Nat,s.L[i]? ≠ some n:=fun i hi => h ⟨i,hi⟩
  rcases mstep_cases nn kk s.c s.er (nums n) with ⟨h1,h2⟩ | ⟨h1,r,h2,h3,h4⟩ | ⟨h1,h2,h3,h4⟩
  ·rw [h2,if_neg h1]; exact .inr (.inl ⟨hn,h1,rfl⟩)
  ·rw [h3,if_neg h2]; exact .inr (.inr (.inl ⟨hn,h1,r,h4,rfl⟩))
  ·rw [h2,if_pos rfl]; exact .inr (.inr (.inr ⟨hn,h1,h3,h4,rfl⟩))
theorem put_found {nn kk : Int} {F : St} {n : Nd} {i : Nat} (hU : Uq F.L) (h : F.L[i]? = some n) : put nn kk F n = (F,some (i : Int)):=by
 rcases put_cases nn kk F n with ⟨j,hj,e⟩ | ⟨h2,_⟩ | ⟨h2,_⟩ | ⟨h2,_⟩
 ·rw [e,hU i j n h hj]
 ·exact absurd h (h2 i)
 ·exact absurd h (h2 i)
 ·exact absurd h (h2 i)
def st0 : St:=⟨[cst 0,cst 1],0,0⟩
theorem st0_uq : Uq st0.L:=by
 intro i j n hi hj
 have hi1:=(List.getElem?_eq_some_iff.1 hi).1
 have hj1:=(List.getElem?_eq_some_iff.1 hj).1
 simp [st0] at hi1 hj1
 obtain rfl | rfl : i = 0 ∨ i = 1:=by omega
 ·obtain rfl | rfl : j = 0 ∨ j = 1:=by omega
  ·rfl
  ·exact absurd (congrArg (Option.map Nd.kind) (hi.trans hj.symm)) (by simp [st0,cst])
 ·obtain rfl | rfl : j = 0 ∨ j = 1:=by omega
  ·exact absurd (congrArg (Option.map Nd.kind) (hi.trans hj.symm)) (by simp [st0,cst])
  ·rfl
end Nt
namespace Nt

structure AG (w : World) (pa pm : Nat) (nn kk : Int) (s : St) (F : Nat→Prop) : Prop where
 ar : ∃ C nv bm X D,AS w pa pm s.L C 2097152 nv bm X D∧¬ FF pa bm nv C pm∧∀ b,FF pa bm nv C b→F b
 mb : MB w pm nn kk s.c s.er
 c0 : 0≤s.c
 cn : s.c≤nn
 n2 : nn≤2000
 e0 : 0≤s.er
 e2 : s.er < 256
 ln : (s.L.length : Int)≤s.c + 2
 fl : ∀ b,F b→b < w.heap.size
theorem AS.uq {w : World} {pa pm : Nat} {L : List Nd} {C : Nat→Prop} {B : Nat} {nv : Value} {bm : Nat} {X : List NR} {D : DataW Value} (h : AS w pa pm L C B nv bm X D) : Uq L:=by
 intro i j n hi hj
 obtain ⟨hi1,hi2⟩:=List.getElem?_eq_some_iff.1 hi
 obtain ⟨hj1,hj2⟩:=List.getElem?_eq_some_iff.1 hj
 have e1:=h.is.1 i hi1 .nil
 have e2:=h.is.1 j hj1 .nil
 rw [hi2] at e1
 rw [hj2,e1] at e2
 injection e2 with e2
 injection e2 with _ e2
 omega
theorem AG.below {w w' : World} {pa pm : Nat} {nn kk : Int} {s : St} {F : Nat→Prop} (h : AG w pa pm nn kk s F) (k : Below w.heap.size w w') : AG w' pa pm nn kk s F:=by
 obtain ⟨⟨C,nv,bm,X,D,h1,h2,h3⟩,h4,h5,h6,h7,h8,h9,h10,h11⟩:=h
 exact ⟨⟨C,nv,bm,X,D,h1.below k,h2,h3⟩,h4.below k,h5,h6,h7,h8,h9,h10,fun b hb => Nat.lt_of_lt_of_le (h11 b hb) k.size⟩
def AO (w w' : World) (e : Ending) (pa pm : Nat) (nn kk : Int) (F : Nat→Prop) (r : St × Option Int) : Prop :=
 ∃ x er : Int,e = .returned (.tuple #[.int .i64 x,.int .i64 er])∧(r.2 = none→er ≠ 0)∧(∀ i,r.2 = some i→x = i∧er = 0)∧∃ F',AG w' pa pm nn kk r.1 F'∧(∀ b,F' b→F b ∨ w.heap.size≤b)∧ButF (fun b => b = pm ∨ F b) w w'
theorem but_butF {w w' : World} {p : Nat} {F : Nat→Prop} (h : But p w w') : ButF (fun b => b = p ∨ F b) w w':=⟨h.os,h.tape,h.output,h.size,fun i hi hn => h.block i hi fun e => hn (.inl e)⟩
theorem ao_now {w w' : World} {pa pm : Nat} {nn kk : Int} {s : St} {F : Nat→Prop} (hG : AG w pa pm nn kk s F) (k : Below w.heap.size w w') (i : Int) : AO w w' (.returned (.tuple #[.int .i64 i,.int .i64 0])) pa pm nn kk F (s,some i) :=
 ⟨i,0,rfl,fun h => (by cases h),fun j h => (by cases h; exact ⟨rfl,rfl⟩),F,hG.below k,fun _ h => .inl h,butF_below k⟩
theorem ao_not {w w' : World} {pa pm : Nat} {nn kk : Int} {s : St} {F : Nat→Prop} (hG : AG w pa pm nn kk s F) (k : Below w.heap.size w w') {x er : Int} (he : er ≠ 0) : AO w w' (.returned (.tuple #[.int .i64 x,.int .i64 er])) pa pm nn kk F (s,none) :=
 ⟨x,er,rfl,fun _ => he,fun j h => (by cases h),F,hG.below k,fun _ h => .inl h,butF_below k⟩
theorem md_ao {w w' : World} {e : Ending} {pa pm : Nat} {nn kk : Int} {s : St} {F C : Nat→Prop} {nv : Value} {bm : Nat} {X : List NR} {D : DataW Value} {n : Nd} (hG : AG w pa pm nn kk s F) (hA : AS w pa pm s.L C 2097152 nv bm X D) (hpm : ¬ FF pa bm nv C pm) (hF : ∀ b,FF pa bm nv C b→F b) (h : MD w w' e pa pm s.L C 2097152 nv bm nn kk s.c s.er n) : AO w w' e pa pm nn kk F (put nn kk s n):=by
 have hn : n ∉ s.L→¬ ∃ i : Nat,s.L[i]? = some n:=fun h ⟨i,hi⟩ => h (List.mem_of_getElem? hi)
 have h0:=hG.c0
 have h1:=hG.cn
 have h2:=hG.n2
 have h3:=hG.e0
 have h4:=hG.e2
 have h5:=hG.ln
 rcases h with ⟨i,g1,rfl,k⟩ | ⟨g1,g2,rfl,g4,k⟩ | ⟨g1,g2,rfl,g4,C',nv',X',D',g5,g6,g7⟩
 ·rw [put_found hA.uq g1]
  exact ao_now hG k i
 ·change (mstep nn kk s.c s.er (nums n)).1 ≠ 0 at g2
  change MB w' pm nn kk (mstep nn kk s.c s.er (nums n)).2.1 (mstep nn kk s.c s.er (nums n)).2.2 at g4
  have hA' : AS w' pa pm s.L C 2097152 nv bm X D:=hA.move k.size fun b hb => k.block b (hA.fl hb) fun e => hpm (e ▸ hb)
  unfold put
  rw [if_neg (spot_no (hn g1)),if_neg g2]
  refine ⟨_,_,rfl,fun _ => g2,fun i h => (by cases h),F,⟨⟨C,nv,bm,X,D,hA',hpm,hF⟩,g4,?_,?_,h2,?_,?_,?_,fun b hb => Nat.lt_of_lt_of_le (hG.fl b hb) k.size⟩,fun b hb => .inl hb,but_butF k⟩
  all_goals
   rcases mstep_cases nn kk s.c s.er (nums n) with ⟨a1,a2⟩ | ⟨a1,r,a2,a3,a4⟩ | ⟨a1,a2,a3,a4⟩
  all_goals
   first
    | (rw [a2]; dsimp only; omega)
    | (rw [a3]; dsimp only; omega)
 ·change (mstep nn kk s.c s.er (nums n)).1 = 0 at g2
  change MB w' pm nn kk (mstep nn kk s.c s.er (nums n)).2.1 (mstep nn kk s.c s.er (nums n)).2.2 at g4
  unfold put
  rw [if_neg (spot_no (hn g1)),if_pos g2]
  have hpm' : ¬ FF pa bm nv' C' pm:=fun hf => (g6 pm hf).elim hpm fun h => absurd (hG.mb.lt) (by omega)
  refine ⟨_,_,rfl,fun h => (by cases h),fun i h => (by cases h; exact ⟨rfl,rfl⟩),FF pa bm nv' C',⟨⟨C',nv',bm,X',D',g5,hpm',fun _ hb => hb⟩,g4,?_,?_,h2,?_,?_,?_,fun b hb => g5.fl hb⟩,fun b hb => (g6 b hb).imp (hF b) id,g7.mono fun b hb => hb.imp id (hF b)⟩
  all_goals
   rcases mstep_cases nn kk s.c s.er (nums n) with ⟨a1,a2⟩ | ⟨a1,r,a2,a3,a4⟩ | ⟨a1,a2,a3,a4⟩
  all_goals
   first
    | (rw [a2] at g2; exact absurd g2 a1)
    | (rw [a3] at g2; exact absurd g2 a2)
    | (rw [a2]; dsimp only; simp only [List.length_append,List.length_cons,List.length_nil]; omega)
    | (rw [a2]; dsimp only; omega)

theorem atom_ao {w : World} {pa pm : Nat} {nn kk : Int} {s : St} {F : Nat→Prop} {kd : Int} {sd : Bool} {ad : Option Addr} {ld cd : Nat} {ap : Option Addr} {np cp : Nat} {sk : Bool} {ak : Option Addr} {lk ck : Nat} {d k : Int} {ps : List (Int × Int)} {B : Nat}
  (hG : AG w pa pm nn kk s F) (hd : Zm w sd ad ld cd d) (hld : ld≤B) (hP : Pr w ap np ps B) (hk : Zm w sk ak lk ck k) (hlk : lk≤B) (hn : np≤209716) (hB : B≤1048576) (htab : Tab w) :
  Calls Tryz.prog 11 #[.pointer (some ⟨pa,0,none⟩),.agg #[.int .i64 kd,.bool sd,.slice ad ld cd,.slice ap np cp,.bool sk,.slice ak lk ck]] w fun e w' => AO w w' e pa pm nn kk F (asked nn kk s (atomA kd d ps k)):=by
 obtain ⟨C,nv,bm,X,D,hA,hpm,hF⟩:=hG.ar
 have h1:=hG.cn
 have h2:=hG.n2
 have h3:=hG.ln
 refine (atom8_n hA hG.mb hpm hG.c0 hG.cn hG.n2 hG.e0 hG.e2 hd hld hP hk hlk hn hB (by omega) htab).mono ?_
 intro e w' h
 unfold AM at h
 unfold atomA
 cases hf : formA kd d (nz (lays [] ps)) k with
 | inr er =>
  rw [hf] at h
  obtain ⟨rfl,kb⟩:=h
  exact ao_not hG kb (by rcases formA_er hf with rfl | rfl <;> decide)
 | inl f =>
  rw [hf] at h
  exact md_ao hG hA hpm hF h

theorem join_ao {w : World} {pa pm : Nat} {nn kk : Int} {s : St} {F : Nat→Prop} {kd : Int} {ka : Option Addr} {kc : Nat} {l : List Int} (hkd : kd = 5 ∨ kd = 6)
  (hG : AG w pa pm nn kk s F) (hI : IL w ka l.length l) (hl : l.length≤1048576) (hi : ∀ x ∈ l,0≤x∧x < (s.L.length : Int)) (htab : Tab w) :
  Calls Tryz.prog 13 #[.pointer (some ⟨pa,0,none⟩),.int .i64 kd,.slice ka l.length kc] w fun e w' => AO w w' e pa pm nn kk F (asked nn kk s (joinA kd l)):=by
 obtain ⟨C,nv,bm,X,D,hA,hpm,hF⟩:=hG.ar
 have h1:=hG.cn
 have h2:=hG.n2
 have h3:=hG.ln
 refine (join8_n hA hG.mb hpm hG.c0 hG.cn hG.n2 hG.e0 hG.e2 hI hl (by omega) htab).mono ?_
 intro e w' h
 unfold JO at h
 rw [if_neg (fun h => h hkd),if_neg (by
  intro ha
  obtain ⟨x,hx,hx2⟩:=List.any_eq_true.1 ha
  have:=hi x hx
  unfold lck at hx2
  simp at hx2
  omega)] at h
 unfold joinA
 cases hr : ris l with
 | nil =>
  rw [hr] at h
  obtain ⟨rfl,kb⟩:=h
  exact ao_now hG kb _
 | cons x t =>
  cases t with
  | nil =>
   rw [hr] at h
   obtain ⟨rfl,kb⟩:=h
   exact ao_now hG kb _
  | cons y t =>
   rw [hr] at h
   exact md_ao hG hA hpm hF h

theorem bind_ao {w : World} {pa pm : Nat} {nn kk : Int} {s : St} {F : Nat→Prop} {kd v kid : Int} (hkd : kd = 7 ∨ kd = 8)
  (hG : AG w pa pm nn kk s F) (hv : I64 v) (hi : 0≤kid∧kid < (s.L.length : Int)) (htab : Tab w) :
  Calls Tryz.prog 15 #[.pointer (some ⟨pa,0,none⟩),.int .i64 kd,.int .i64 v,.int .i64 kid] w fun e w' => AO w w' e pa pm nn kk F (asked nn kk s (.inr ⟨kd,0,[],0,v,[kid]⟩)):=by
 obtain ⟨C,nv,bm,X,D,hA,hpm,hF⟩:=hG.ar
 have h1:=hG.cn
 have h2:=hG.n2
 have h3:=hG.ln
 refine (bind8_n hA hG.mb hpm hG.c0 hG.cn hG.n2 hG.e0 hG.e2 hv (by unfold I64; omega) (by omega) htab).mono ?_
 intro e w' h
 unfold BI at h
 rw [if_neg (fun h => h hkd),if_neg (by omega)] at h
 exact md_ao hG hA hpm hF h
theorem new_ag {w : World} (htab : Tab w) : Calls Tryz.prog 8 #[.pointer none] w fun e w' => ∃ pa pm F,e = .returned (.pointer (some ⟨pa,0,none⟩))∧AG w' pa pm 2000 8 st0 F∧(∀ b,F b→w.heap.size≤b)∧w.heap.size≤pm∧Below w.heap.size w w':=by
 refine (newN_n htab).mono ?_
 rintro e w' ⟨pm,pa,C,nv,bm,X,D,rfl,hA,hM,hpm,hF,hpw,k⟩
 exact ⟨pa,pm,FF pa bm nv C,rfl,⟨⟨C,nv,bm,X,D,hA,hpm,fun _ hb => hb⟩,hM,by decide,by decide,by decide,by decide,by decide,by decide,fun b hb => hA.fl hb⟩,hF,hpw,k⟩
theorem len_ag {w : World} {pa pm : Nat} {nn kk : Int} {s : St} {F : Nat→Prop} (hG : AG w pa pm nn kk s F) : Calls Tryz.prog 34 #[.pointer (some ⟨pa,0,none⟩)] w fun e w' => e = .returned (.int .i64 (s.L.length : Int))∧w' = w:=by
 obtain ⟨C,nv,bm,X,D,hA,hpm,hF⟩:=hG.ar
 exact len8_n hA
end Nt
namespace Nt

end Nt
namespace Nt

def insI : List Int→Int→List Int
 | [],n => [n]
 | x :: l,n => if x < n then x :: insI l n else if x = n then x :: l else n :: x :: l
theorem insI_mem : ∀ (l : List Int) (n x : Int),x ∈ insI l n ↔ x = n ∨ x ∈ l
 | [],n,x => by simp [insI]
 | y :: l,n,x => by
  unfold insI
  by_cases h1 : y < n
  ·rw [if_pos h1,List.mem_cons,insI_mem l n x,List.mem_cons]
   constructor
   ·rintro (h | h | h)
    ·exact .inr (.inl h)
    ·exact .inl h
    ·exact .inr (.inr h)
   ·rintro (h | h | h)
    ·exact .inr (.inl h)
    ·exact .inl h
    ·exact .inr (.inr h)
  ·rw [if_neg h1]
   by_cases h2 : y = n
   ·rw [if_pos h2,List.mem_cons]
    constructor
    ·exact fun h => .inr h
    ·rintro (h | h)
     ·exact .inl (h.trans h2.symm)
     ·exact h
   ·rw [if_neg h2,List.mem_cons]
theorem insI_rises : ∀ (l : List Int) (n : Int),l.Pairwise (· < ·)→(insI l n).Pairwise (· < ·)
 | [],n,_ => by simp [insI]
 | y :: l,n,h => by
  obtain ⟨h1,h2⟩:=List.pairwise_cons.1 h
  unfold insI
  by_cases h3 : y < n
  ·rw [if_pos h3]
   refine List.pairwise_cons.2 ⟨fun x hx => ?_,insI_rises l n h2⟩
   rcases (insI_mem l n x).1 hx with rfl | hx
   ·exact h3
   ·exact h1 x hx
  ·rw [if_neg h3]
   by_cases h4 : y = n
   ·rw [if_pos h4]
    exact h
   ·rw [if_neg h4]
    refine List.pairwise_cons.2 ⟨fun x hx => ?_,h⟩
    rcases List.mem_cons.1 hx with rfl | hx
    ·omega
    ·have:=h1 x hx
     omega
theorem rise_ext : ∀ (l k : List Int),l.Pairwise (· < ·)→k.Pairwise (· < ·)→(∀ x,x ∈ l ↔ x ∈ k)→l = k
 | [],[],_,_,_ => rfl
 | [],y :: k,_,_,h => absurd ((h y).2 (by simp)) (by simp)
 | x :: l,[],_,_,h => absurd ((h x).1 (by simp)) (by simp)
 | x :: l,y :: k,hl,hk,h => by
  obtain ⟨h1,h2⟩:=List.pairwise_cons.1 hl
  obtain ⟨h3,h4⟩:=List.pairwise_cons.1 hk
  have hxy : x = y:=by
   rcases List.mem_cons.1 ((h x).1 (by simp)) with e | e
   ·exact e
   ·rcases List.mem_cons.1 ((h y).2 (by simp)) with e2 | e2
    ·exact e2.symm
    ·have a1:=h3 x e
     have a2:=h1 y e2
     omega
  subst hxy
  rw [rise_ext l k h2 h4 fun z => ?_]
  constructor
  ·intro hz
   rcases List.mem_cons.1 ((h z).1 (by simp [hz])) with e | e
   ·have:=h1 z hz
    omega
   ·exact e
  ·intro hz
   rcases List.mem_cons.1 ((h z).2 (by simp [hz])) with e | e
   ·have:=h3 z hz
    omega
   ·exact e
theorem upto_has {d : Array Int} : ∀ m j,j < m→d[j]! ∈ Lib.compactUpTo d m
 | 0,j,h => absurd h (by omega)
 | m + 1,j,h => by
  rw [Lib.compactUpTo_succ]
  by_cases hj : j < m
  ·exact List.mem_append_left _ (upto_has m j hj)
  ·obtain rfl : j = m:=by omega
   by_cases hk : Lib.keeps d j = true
   ·rw [if_pos hk]
    simp
   ·have h4 : ¬ (j = 0 ∨ d[j]! ≠ d[j - 1]!):=fun e => hk (decide_eq_true e)
    have h5 : j ≠ 0:=fun e => h4 (.inl e)
    have h6 : d[j]! = d[j - 1]!:=Decidable.byContradiction fun e => h4 (.inr e)
    rw [h6]
    exact List.mem_append_left _ (upto_has j (j - 1) (by omega))
theorem mem_ris (l : List Int) (x : Int) : x ∈ ris l ↔ x ∈ l:=by
 refine ⟨ris_mem,fun h => ?_⟩
 have h1 : x ∈ l.mergeSort fun x y => decide (x≤y):=List.mem_mergeSort.2 h
 obtain ⟨j,hj,rfl⟩:=List.mem_iff_getElem.1 h1
 have h2:=upto_has (d:=(l.mergeSort fun x y => decide (x≤y)).toArray) (l.mergeSort fun x y => decide (x≤y)).length j hj
 rw [getElem!_pos _ _ (by simpa using hj)] at h2
 simpa [ris,Lib.compact] using h2
theorem fold_mem : ∀ (l a : List Int) (x : Int),x ∈ l.foldl insI a ↔ x ∈ a ∨ x ∈ l
 | [],a,x => by simp
 | y :: l,a,x => by
  rw [List.foldl_cons,fold_mem l (insI a y) x,insI_mem,List.mem_cons]
  constructor
  ·rintro ((h | h) | h)
   ·exact .inr (.inl h)
   ·exact .inl h
   ·exact .inr (.inr h)
  ·rintro (h | h | h)
   ·exact .inl (.inr h)
   ·exact .inl (.inl h)
   ·exact .inr h
theorem fold_rises : ∀ (l a : List Int),a.Pairwise (· < ·)→(l.foldl insI a).Pairwise (· < ·)
 | [],_,h => h
 | y :: l,a,h => fold_rises l (insI a y) (insI_rises a y h)
theorem fold_ris (l : List Int) : l.foldl insI [] = ris l :=
 rise_ext _ _ (fold_rises l [] List.Pairwise.nil) (ris_rises l) fun x => by
  rw [fold_mem,mem_ris]
  simp
theorem insI_at : ∀ (l : List Int) (n : Int) (t : Nat),t≤l.length→(∀ j (h : j < l.length),j < t→l[j] < n)→(∀ h : t < l.length,n≤l[t])→insI l n = if l[t]? = some n then l else l.take t ++ n :: l.drop t
 | [],n,t,h,_,_ => by
  obtain rfl : t = 0:=by simpa using h
  simp [insI]
 | x :: l,n,0,_,_,h2 => by
  have h3:=h2 (by simp)
  unfold insI
  rw [if_neg (by simpa using h3)]
  by_cases h4 : x = n
  ·rw [if_pos h4,if_pos (by simp [h4])]
  ·rw [if_neg h4,if_neg (by simpa using h4)]
   rfl
 | x :: l,n,t + 1,h,h1,h2 => by
  have h3 : x < n:=h1 0 (by simp) (by omega)
  unfold insI
  rw [if_pos h3,insI_at l n t (by simpa using h) (fun j hj hjt => h1 (j + 1) (by simpa using hj) (by omega)) (fun ht => h2 (by simpa using ht))]
  rw [List.getElem?_cons_succ]
  split <;> simp
end Nt
namespace Nt

theorem AG.move {w w' : World} {pa pm : Nat} {nn kk : Int} {s : St} {F : Nat→Prop} (h : AG w pa pm nn kk s F) (hs : w.heap.size≤w'.heap.size) (hm : ∀ b,F b ∨ b = pm→w'.heap[b]? = w.heap[b]?) : AG w' pa pm nn kk s F:=by
 obtain ⟨⟨C,nv,bm,X,D,h1,h2,h3⟩,h4,h5,h6,h7,h8,h9,h10,h11⟩:=h
 exact ⟨⟨C,nv,bm,X,D,h1.move hs fun b hb => hm b (.inl (h3 b hb)),h2,h3⟩,(hm pm (.inr rfl)).trans h4,h5,h6,h7,h8,h9,h10,fun b hb => Nat.lt_of_lt_of_le (h11 b hb) hs⟩
end Nt
namespace Nt

end Nt
namespace Nt

theorem form_v3 : formA 2 0 (nz (lays [] [(3,1)])) 0 = .inl ⟨2,0,[(3,1)],0⟩:=by rfl
theorem put_made {nn kk : Int} {s : St} {n : Nd} (h : ∀ i : Nat,s.L[i]? ≠ some n) (he : s.er = 0) (hl : ((nums n).any fun z => decide (kk < (lim z : Int))) = false) (hc : 1≤nn - s.c) : put nn kk s n = (⟨s.L ++ [n],s.c + 1,0⟩,some (s.L.length : Int)):=by
 unfold put
 rw [if_neg (spot_no (fun ⟨i,hi⟩ => h i hi))]
 have h7 : mstep nn kk s.c s.er (nums n) = (0,s.c + 1,0):=by
  unfold mstep
  rw [if_neg (by simp [he]),if_neg (by rw [hl]; simp),if_neg (by omega)]
 rw [h7,if_pos rfl]
theorem lim_0 : lim 0 = 0:=by
 unfold lim
 rw [show (0 : Int).natAbs = 0 from rfl]
 rw [limbs_def]
 rfl
theorem lim_1 : lim 1 = 1:=by
 unfold lim
 rw [show (1 : Int).natAbs = 1 from rfl]
 rw [limbs_def]
 rw [dif_neg (by decide),show 1 / 4294967296 = 0 from rfl]
 rw [limbs_def]
 rfl
def nd1 : Nd:=⟨2,0,[(3,1)],0,0,[]⟩
def nd2 : Nd:=⟨7,0,[],0,3,[2]⟩
theorem not_in {L : List Nd} {n : Nd} (h : ∀ x ∈ L,x.kind ≠ n.kind) (i : Nat) : L[i]? ≠ some n:=fun hi => h n (List.mem_of_getElem? hi) rfl
theorem put_1 : put 2000 8 st0 nd1 = (⟨[cst 0,cst 1,nd1],1,0⟩,some 2):=by
 rw [put_made (not_in (by simp [st0,cst,nd1])) rfl (by simp [nums,nd1,lim_0,lim_1]) (by decide)]
 rfl
theorem put_2 : put 2000 8 ⟨[cst 0,cst 1,nd1],1,0⟩ nd2 = (⟨[cst 0,cst 1,nd1,nd2],2,0⟩,some 3):=by
 rw [put_made (not_in (by simp [cst,nd1,nd2])) rfl (by simp [nums,nd2,lim_0]) (by decide)]
 rfl

set_option maxRecDepth 100000 in
set_option maxHeartbeats 3200000 in
theorem awake8_n {w : World} (htab : Tab w) : Calls Tryz.prog 5 #[] w fun e w' => e = .returned (.bool true)∧Below w.heap.size w w':=by
 have ht0:=hide htab
 replace ht0:=ht0.out
 go_enter Tryz.func5,Tryz.ntmps5
 go_wp2_with fail
 refine (new_ag htab).mono ?_
 rintro e w1 ⟨pa,pm,F,rfl,hG,hF,hpw,k1⟩
 have ht1:=htab.below k1
 replace hG:=hide hG
 replace k1:=hide k1
 go_wp2_with fail
 refine (tvar_n (v:=3) (B:=2) (by unfold I64; decide) (by omega)).mono ?_
 rintro e w2 ⟨ad2,cp2,rs2,rfl,hT2,hr2⟩
 obtain ⟨hP2,hZ2,hl2⟩:=hT2.tw
 rw [hr2] at hP2
 have k2:=hT2.below
 replace hG:=hide (hG.out.below k2)
 have ht2:=ht1.below k2
 replace k1:=hide (grow_step k2 k1.out)
 clear hT2 k2 ht1
 go_wp2_with fail
 refine (atom_ao (B:=2) hG.out (zn_zero _).zm (by omega) hP2 hZ2 hl2 (by omega) (by omega) ht2).mono ?_
 rintro e w3 ⟨x3,e3,rfl, -,hx3,F3,hG3,hF3,hB3⟩
 have hput : asked 2000 8 st0 (atomA 2 0 [(3,1)] 0) = (⟨[cst 0,cst 1,nd1],1,0⟩,some 2):=by unfold atomA; rw [form_v3]; exact put_1
 rw [hput] at hx3 hG3
 clear hput
 obtain ⟨rfl,rfl⟩:=hx3 2 rfl
 have k3 : Hid (Below w.heap.size w w3):=hide (k1.out.trans (hB3.below (fun b hb => hb.elim (fun e => by omega) (hF b)) k1.out.size))
 replace hF3 : ∀ b,F3 b→w.heap.size≤b:=fun b hb => by
  rcases hF3 b hb with h | h
  ·exact hF b h
  ·exact Nat.le_trans k1.out.size h
 have kc:=below_alloc w3 (.cells #[.int .i64 2,.int .i64 2] 3)
 have hc0 : (w3.alloc (.cells #[.int .i64 2,.int .i64 2] 3)).heap[w3.heap.size]? = some (.cells #[.int .i64 2,.int .i64 2] 3 (0,0)):=heap_alloc_new w3 _
 have hI3 : Hid (IL (w3.alloc (.cells #[.int .i64 2,.int .i64 2] 3)) (some ⟨w3.heap.size,0,none⟩) ([2,2] : List Int).length [2,2]):=hide ⟨rfl,.inr ⟨w3.heap.size,0,rfl,by simp,fun i hi => by
  obtain rfl | rfl : i = 0 ∨ i = 1:=by simp at hi; omega
  ·exact ⟨cell_of_row _ w3.heap.size 0 _ _ (0,0) hc0,show I64 2 by unfold I64; decide⟩
  ·exact ⟨cell_of_row _ w3.heap.size 1 _ _ (0,0) hc0,show I64 2 by unfold I64; decide⟩⟩⟩
 replace hG3:=hide (hG3.below kc)
 have ht3:=hide (htab.below (grow_step kc k3.out))
 replace k3:=hide (grow_step kc k3.out)
 clear hx3 hB3 hG hP2 hZ2 hl2 ht2 hr2 hF k1 kc hc0 htab
 go_wp2_with fail
 generalize w3.alloc (.cells #[.int .i64 2,.int .i64 2] 3) = w4 at *
 refine (join_ao (kd:=5) (kc:=2) (l:=[2,2]) (.inl rfl) hG3.out hI3.out (by simp) (by simp) ht3.out).mono ?_
 rintro e w5 ⟨x5,e5,rfl, -,hx5,F5,hG5,hF5,hB5⟩
 have hj : asked 2000 8 ⟨[cst 0,cst 1,nd1],1,0⟩ (joinA 5 [2,2]) = (⟨[cst 0,cst 1,nd1],1,0⟩,some 2):=by unfold joinA; rw [ris_two]; rfl
 rw [hj] at hx5 hG5
 clear hj
 obtain ⟨rfl,rfl⟩:=hx5 2 rfl
 have k5 : Hid (Below w.heap.size w w5):=hide (k3.out.trans (hB5.below (fun b hb => hb.elim (fun e => by omega) (hF3 b)) k3.out.size))
 replace hF5 : ∀ b,F5 b→w.heap.size≤b:=fun b hb => by
  rcases hF5 b hb with h | h
  ·exact hF3 b h
  ·exact Nat.le_trans k3.out.size h
 have ht5:=hide (ht0.below k5.out)
 replace hG5:=hide hG5
 clear hx5 hB5 hG3 hI3 hF3 k3 ht3
 go_wp2_with fail
 refine (bind_ao (kd:=7) (v:=3) (kid:=2) (.inl rfl) hG5.out (by unfold I64; decide) (by simp) ht5.out).mono ?_
 rintro e w6 ⟨x6,e6,rfl, -,hx6,F6,hG6,hF6,hB6⟩
 have hj : asked 2000 8 ⟨[cst 0,cst 1,nd1],1,0⟩ (.inr ⟨7,0,[],0,3,[2]⟩) = (⟨[cst 0,cst 1,nd1,nd2],2,0⟩,some 3):=put_2
 rw [hj] at hx6 hG6
 clear hj
 obtain ⟨rfl,rfl⟩:=hx6 3 rfl
 have k6 : Hid (Below w.heap.size w w6):=hide (k5.out.trans (hB6.below (fun b hb => hb.elim (fun e => by omega) (hF5 b)) k5.out.size))
 have hlen:=hide (len_ag hG6)
 clear hx6 hB6 hG5 hF5 hF6 k5 ht5 hG6
 go_wp2_with (go_at_call 34; refine hlen.out.mono ?_; rintro e w7 ⟨rfl,rfl⟩)
 go_ret
 exact ⟨rfl,k6.out⟩
end Nt
namespace Nt

structure AX (w : World) (pa pm : Nat) (L : List Nd) (F : Nat→Prop) : Prop where
 ar : ∃ C nv bm X D,AS w pa pm L C 2097152 nv bm X D∧¬ FF pa bm nv C pm∧∀ b,FF pa bm nv C b→F b
 fl : ∀ b,F b→b < w.heap.size
theorem AG.ax {w : World} {pa pm : Nat} {nn kk : Int} {s : St} {F : Nat→Prop} (h : AG w pa pm nn kk s F) : AX w pa pm s.L F:=⟨h.ar,h.fl⟩
theorem AX.ag {w : World} {pa pm : Nat} {nn kk c er : Int} {L : List Nd} {F : Nat→Prop} (h : AX w pa pm L F) (hM : MB w pm nn kk c er) (h0 : 0≤c) (h1 : c≤nn) (h2 : nn≤2000) (h3 : 0≤er) (h4 : er < 256) (h5 : (L.length : Int)≤c + 2) : AG w pa pm nn kk ⟨L,c,er⟩ F:=⟨h.ar,hM,h0,h1,h2,h3,h4,h5,h.fl⟩
theorem AX.len {w : World} {pa pm : Nat} {L : List Nd} {F : Nat→Prop} (h : AX w pa pm L F) : Calls Tryz.prog 34 #[.pointer (some ⟨pa,0,none⟩)] w fun e w' => e = .returned (.int .i64 (L.length : Int))∧w' = w:=by
 obtain ⟨C,nv,bm,X,D,hA,hpm,hF⟩:=h.ar
 exact len8_n hA
theorem newM_ax {w : World} {pm : Nat} {nn kk c er : Int} (hM : MB w pm nn kk c er) (htab : Tab w) :
  Calls Tryz.prog 8 #[.pointer (some ⟨pm,0,none⟩)] w fun e w' => ∃ pa F,e = .returned (.pointer (some ⟨pa,0,none⟩))∧AX w' pa pm [cst 0,cst 1] F∧(∀ b,F b→w.heap.size≤b)∧Below w.heap.size w w':=by
 refine (newM_n hM htab).mono ?_
 rintro e w' ⟨pa,C,nv,bm,X,D,rfl,hA,hF,k⟩
 have hl:=hM.lt
 exact ⟨pa,FF pa bm nv C,rfl,⟨⟨C,nv,bm,X,D,hA,fun hf => by have:=hF pm hf; omega,fun _ hb => hb⟩,fun b hb => hA.fl hb⟩,hF,k⟩
theorem IL.but {w w' : World} {a : Option Addr} {n : Nat} {l : List Int} {G H : Nat→Prop} (h : IL w a n l) (hF : InF H a n) (k : ButF G w w') (hG : ∀ b,H b→b < w.heap.size→¬ G b) : IL w' a n l :=
 il_move h k.size fun b off e h0 => k.block b (il_lt h e h0) (hG b (hF b off e h0) (il_lt h e h0))
set_option maxRecDepth 100000 in
theorem meter8_n {w : World} {pa pm : Nat} {L : List Nd} {F : Nat→Prop} (h : AX w pa pm L F) : Calls Tryz.prog 21 #[.pointer (some ⟨pa,0,none⟩)] w fun e w' => e = .returned (.pointer (some ⟨pm,0,none⟩))∧w' = w:=by
 obtain ⟨C,nv,bm,X,D,hA, -, -⟩:=h.ar
 have u0 : w.cell? ⟨pa,0,none⟩ = some (.pointer (some ⟨pm,0,none⟩)):=cell_of_row _ pa 0 _ _ (0,0) hA.blk
 clear hA
 go_enter Tryz.func21,Tryz.ntmps21
 go_wp2
 go_ret
 exact ⟨rfl,rfl⟩
end Nt
namespace Nt

theorem flat_get : ∀ (X : List NR) (i j : Nat) (h : i < X.length),j < 8→(X.flatMap NR.enc)[i * 8 + j]? = (X[i].enc)[j]?
 | [],i,j,h,_ => absurd h (Nat.not_lt_zero _)
 | x :: X,0,j,_,hj => by
  rw [List.flatMap_cons,List.getElem?_append_left (by simp [NR.enc]; omega)]
  simp
 | x :: X,i + 1,j,h,hj => by
  rw [List.flatMap_cons,List.getElem?_append_right (by simp [NR.enc]; omega)]
  have h1:=flat_get X i j (by simpa using h) hj
  rw [show (i + 1) * 8 + j - x.enc.length = i * 8 + j by simp [NR.enc]; omega,h1]
  rfl
theorem AS.cell {w : World} {pa pm : Nat} {L : List Nd} {C : Nat→Prop} {B : Nat} {nv : Value} {bm : Nat} {X : List NR} {D : DataW Value} (h : AS w pa pm L C B nv bm X D) {i : Nat} (hi : i < L.length) :
  ∃ g cap,nv = .slice (some ⟨g,0,none⟩) L.length cap∧∀ j,j < 8→∀ (hX : i < X.length),w.cell? ⟨g,i * 8 + j,none⟩ = (X[i].enc)[j]?:=by
 rcases h.row.2 with ⟨_,h0⟩ | ⟨g,cap,cur,e1,_,e3,h1,h2,h3,h4⟩
 ·omega
 ·refine ⟨g,cap,e1,fun j hj hX => ?_⟩
  rw [cell_of_row w g (i * 8 + j) _ _ (0,0) e3,← flat_get X i j hX hj,← h4,List.getElem?_take,if_pos (by omega)]
  simp
def ND (w w' : World) (e : Ending) (n : Nd) : Prop :=
 ∃ sd ad ld cd ap np cp sk ak lk ck ka kn kc,e = .returned (.tuple #[.agg #[.int .i64 n.kind,.bool sd,.slice ad ld cd,.slice ap np cp,.bool sk,.slice ak lk ck,.int .i64 n.var,.slice ka kn kc],.bool true])∧Zn w' sd ad ld cd n.d∧Pn w' ap np n.ps 2097152∧Zn w' sk ak lk ck n.k∧IL w' ka kn n.kids∧New w.heap.size ka kn∧Below w.heap.size w w'

set_option maxRecDepth 100000 in
set_option maxHeartbeats 1600000 in
theorem node8_n {w : World} {pa pm : Nat} {L : List Nd} {F : Nat→Prop} (h : AX w pa pm L F) {i : Nat} (hi : i < L.length) (_hL : L.length≤1048576) : Calls Tryz.prog 27 #[.pointer (some ⟨pa,0,none⟩),.int .i64 (i : Int)] w fun e w' => ND w w' e L[i]:=by
 obtain ⟨C,nv,bm,X,D,hA, -, -⟩:=h.ar
 have hlk:=hide (lacks_n (hA.below (below_alloc w (.cells #[.int .i64 0,.bool false,.slice none 0 0,.slice none 0 0,.bool false,.slice none 0 0,.int .i64 0,.slice none 0 0] 65))) (i : Int))
 rw [decide_eq_false (by omega)] at hlk
 have hXi : i < X.length:=by have:=hA.len; omega
 obtain ⟨g,cap,rfl,hcell⟩:=hA.cell hi
 have hN:=hA.nodes i hi
 generalize L[i] = n at *
 have hc:=fun j hj => hcell j hj hXi
 generalize X[i] = x at *
 have e0:=hc 0 (by decide)
 have e1:=hc 1 (by decide)
 have e2:=hc 2 (by decide)
 have e3:=hc 3 (by decide)
 have e4:=hc 4 (by decide)
 have e5:=hc 5 (by decide)
 have e6:=hc 6 (by decide)
 have e7:=hc 7 (by decide)
 clear hc hcell
 simp only [NR.enc,List.getElem?_cons_zero,List.getElem?_cons_succ,Nat.add_zero] at e0 e1 e2 e3 e4 e5 e6 e7
 have u1 : w.cell? ⟨pa,1,none⟩ = some (.slice (some ⟨g,0,none⟩) L.length cap):=cell_of_row _ pa 1 _ _ (0,0) hA.blk
 have hgl : g < w.heap.size:=World.block_lt_of_cell? w _ e0
 have hpl:=hA.pal
 have b0:=below_alloc w (.cells #[.int .i64 0,.bool false,.slice none 0 0,.slice none 0 0,.bool false,.slice none 0 0,.int .i64 0,.slice none 0 0] 65)
 have y:=NB.new w 0 false none 0 0 none 0 0 false none 0 0 0 none 0 0
 go_enter Tryz.func27,Tryz.ntmps27
 go_wp2_with (go_at_call 42; refine hlk.out.mono ?_; rintro e w1 ⟨rfl,rfl⟩)
 have hsz : (w.alloc (.cells #[.int .i64 0,.bool false,.slice none 0 0,.slice none 0 0,.bool false,.slice none 0 0,.int .i64 0,.slice none 0 0] 65)).heap.size = w.heap.size + 1:=by simp
 refine (copied_n (hN.zd.below b0) hN.hld (hN.pn.pn.below b0) (hN.zk.below b0) hN.hlk (hN.kids.below b0) hN.hnp hN.hkn (Nat.le_refl _)).mono ?_
 rintro e w2 ⟨ad,cd,ap,cp,ak,ck,ka,kc,rfl,hz,hn1,hp,hk,hn2,hI,hn3,k2⟩
 have y2:=y.below k2
 replace k2:=hide (grow_step k2 b0)
 rw [hsz] at hn1 hp hn2 hn3
 have hkd:=hN.kd
 have hvr:=hN.vr
 clear hA hN hlk h b0 y hsz e0 e1 e2 e3 e4 e5 e6 e7 u1 hgl hpl
 generalize hpe : w.heap.size = p at *
 replace k2 : Hid (Below w.heap.size w w2):=hpe ▸ k2
 have g0:=y2.c0
 have f0:=y2.f 0
 have g1:=y2.c1
 have f1:=y2.f 1
 have g2:=y2.c2
 have f2:=y2.f 2
 have g3:=y2.c3
 have f3:=y2.f 3
 have g4:=y2.c4
 have f4:=y2.f 4
 have g5:=y2.c5
 have f5:=y2.f 5
 have g6:=y2.c6
 have f6:=y2.f 6
 have g7:=y2.c7
 have f7:=y2.f 7
 iterate 6 (first | go_skip | go_guarded | go_step | go_upon | go_simp)
 clear g0 g1 g2 g3 g4 g5 g6 g7 f0 f1 f2 f3 f4 f5 f6 f7
 have hfin:=hide (nb_fin y2 n.kind x.sd ad x.ld cd ap x.np cp x.sk ak x.lk ck n.var ka x.kn kc)
 have h8 : Hid (∀ b,b ≠ p→((((((((w2.setCell ⟨p,0,none⟩ (.int .i64 n.kind)).setCell ⟨p,1,none⟩ (.bool x.sd)).setCell ⟨p,2,none⟩ (.slice ad x.ld cd)).setCell ⟨p,3,none⟩ (.slice ap x.np cp)).setCell ⟨p,4,none⟩ (.bool x.sk)).setCell ⟨p,5,none⟩ (.slice ak x.lk ck)).setCell ⟨p,6,none⟩ (.int .i64 n.var)).setCell ⟨p,7,none⟩ (.slice ka x.kn kc)).heap[b]? = w2.heap[b]?):=hide fun b hb => heap_eight hb _ _ _ _ _ _ _ _
 have hs8 : Hid (w2.heap.size≤((((((((w2.setCell ⟨p,0,none⟩ (.int .i64 n.kind)).setCell ⟨p,1,none⟩ (.bool x.sd)).setCell ⟨p,2,none⟩ (.slice ad x.ld cd)).setCell ⟨p,3,none⟩ (.slice ap x.np cp)).setCell ⟨p,4,none⟩ (.bool x.sk)).setCell ⟨p,5,none⟩ (.slice ak x.lk ck)).setCell ⟨p,6,none⟩ (.int .i64 n.var)).setCell ⟨p,7,none⟩ (.slice ka x.kn kc)).heap.size):=hide (by simp)
 have kz : Hid (Below w.heap.size w ((((((((w2.setCell ⟨p,0,none⟩ (.int .i64 n.kind)).setCell ⟨p,1,none⟩ (.bool x.sd)).setCell ⟨p,2,none⟩ (.slice ad x.ld cd)).setCell ⟨p,3,none⟩ (.slice ap x.np cp)).setCell ⟨p,4,none⟩ (.bool x.sk)).setCell ⟨p,5,none⟩ (.slice ak x.lk ck)).setCell ⟨p,6,none⟩ (.int .i64 n.var)).setCell ⟨p,7,none⟩ (.slice ka x.kn kc))):=hide ((((((((k2.out.setCell (p:=⟨p,0,none⟩) (show w.heap.size≤p by omega) (.int .i64 n.kind)).setCell (p:=⟨p,1,none⟩) (show w.heap.size≤p by omega) (.bool x.sd)).setCell (p:=⟨p,2,none⟩) (show w.heap.size≤p by omega) (.slice ad x.ld cd)).setCell (p:=⟨p,3,none⟩) (show w.heap.size≤p by omega) (.slice ap x.np cp)).setCell (p:=⟨p,4,none⟩) (show w.heap.size≤p by omega) (.bool x.sk)).setCell (p:=⟨p,5,none⟩) (show w.heap.size≤p by omega) (.slice ak x.lk ck)).setCell (p:=⟨p,6,none⟩) (show w.heap.size≤p by omega) (.int .i64 n.var)).setCell (p:=⟨p,7,none⟩) (show w.heap.size≤p by omega) (.slice ka x.kn kc))
 generalize ((((((((w2.setCell ⟨p,0,none⟩ (.int .i64 n.kind)).setCell ⟨p,1,none⟩ (.bool x.sd)).setCell ⟨p,2,none⟩ (.slice ad x.ld cd)).setCell ⟨p,3,none⟩ (.slice ap x.np cp)).setCell ⟨p,4,none⟩ (.bool x.sk)).setCell ⟨p,5,none⟩ (.slice ak x.lk ck)).setCell ⟨p,6,none⟩ (.int .i64 n.var)).setCell ⟨p,7,none⟩ (.slice ka x.kn kc)) = w8 at *
 go_wp2
 refine bodyPost_ret (results_ct rfl _ _ p 65 _ (0,0) _ rfl hfin.out Tryz.underlying65 rfl (by kernel_rfl)) rfl ?_
 refine ⟨x.sd,ad,x.ld,cd,ap,x.np,cp,x.sk,ak,x.lk,ck,ka,x.kn,kc,rfl,zn_move hz hs8.out fun b off e1 h0 => h8.out b (by have:=hn1 b off e1 h0; omega),?_,zn_move hk hs8.out fun b off e1 h0 => h8.out b (by have:=hn2 b off e1 h0; omega),il_move hI hs8.out fun b off e1 h0 => h8.out b (by have:=hn3 b off e1 h0; omega),fun b off e1 h0 => by have:=hn3 b off e1 h0; omega,kz.out⟩
 exact ((hp.move hs8.out fun b hb _ => h8.out b (by omega)).pnF).pn
end Nt
namespace Nt

end Nt
end Go.Proofs.YtcfmkjegolpgaaaGreatDoor
