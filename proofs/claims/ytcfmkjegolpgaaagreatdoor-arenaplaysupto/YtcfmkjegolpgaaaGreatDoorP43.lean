/-
 Several texts in one: ED,EE,EF,EG,EP,EQ,ER,H8,ES,EH,EI,ET,EV,EW,EX,EZ,H3.
-/
import Derived.Test.YtcfmkjegolpgaaaGreatDoorPT
import Derived.Test.YtcfmkjegolpgaaaGreatDoorP42
import Derived.Lib.OwnBridge
import Derived.Test.YtcfmkjegolpgaaaGreatDoorP06
import Derived.Test.YtcfmkjegolpgaaaGreatDoorP40
import Derived.Test.YtcfmkjegolpgaaaGreatDoorP24
set_option maxRecDepth 100000
set_option maxHeartbeats 3200000
namespace Go.Proofs.YtcfmkjegolpgaaaGreatDoor
open Go.RowKit Go.Sort Go.Shelf
open Tm At
namespace Nt

def ris (l : List Int) : List Int:=Lib.compact (l.mergeSort fun x y => decide (x≤y))
theorem compact_len (l : List Int) : (Lib.compact l).length≤l.length:=by
 unfold Lib.compact Lib.compactUpTo
 rw [List.length_map]
 exact Nat.le_trans (List.length_filter_le _ _) (by simp)
theorem compact_mem {l : List Int} {x : Int} (h : x ∈ Lib.compact l) : x ∈ l:=by
 unfold Lib.compact Lib.compactUpTo at h
 obtain ⟨j,hj,rfl⟩:=List.mem_map.1 h
 have hj:=List.mem_range.1 (List.mem_filter.1 hj).1
 rw [getElem!_pos _ _ (by simpa using hj)]
 simp
theorem ris_mem {l : List Int} {x : Int} (h : x ∈ ris l) : x ∈ l:=(List.mem_mergeSort).1 (compact_mem h)
theorem ris_nil : ris [] = []:=by simp [ris,Lib.compact,Lib.compactUpTo]
def RI (w w' : World) (e : Ending) (l : List Int) : Prop:=CI w w' e (ris l).length (ris l)

theorem rising_n {w : World} {ka : Option Addr} {kc : Nat} {l : List Int} (hI : IL w ka l.length l) (hkn : l.length≤4194304) :
  Calls Tryz.prog 43 #[.slice ka l.length kc] w fun e w' => RI w w' e l:=by
 go_enter Tryz.func43,Tryz.ntmps43
 go_wp2_with fail
 by_cases h0 : l = []
 ·subst h0
  refine (cloneI_n (kn:=0) hI (by simp)).mono ?_
  rintro e w1 ⟨a,c,rfl,h1,h2,k1⟩
  go_wp2_with (first | (go_at_call 73; refine (Tryz.slices_Sort_int_none a c w1).mono ?_; rintro e w2 ⟨rfl,rfl⟩) | (go_at_call 74; refine (Tryz.slices_Compact_int_empty a c _).mono ?_; rintro e w3 ⟨rfl,rfl⟩))
  go_ret
  unfold RI
  rw [ris_nil]
  exact ⟨a,c,rfl,h1,h2,k1⟩
 have hl0 : 0 < l.length:=List.length_pos_iff.2 h0
 rcases hI.2 with h2 | ⟨b,off,rfl,hb,h2⟩
 ·omega
 have hx : ∀ x ∈ l,I64 x:=fun x hx => by
  obtain ⟨i,hi,rfl⟩:=List.getElem_of_mem hx
  exact (h2 i hi).2
 refine (Tryz.slices_Clone_int b off l.length kc l w (Nat.le_refl _) o_m (fun j hj => ?_)).mono ?_
 ·rw [(h2 j hj).1,List.getD_eq_getElem?_getD,List.getElem?_eq_getElem hj]
  rfl
 rintro e w1 ⟨v,rfl,hown,hv0,k1⟩
 rw [List.take_of_length_le (Nat.le_refl _)] at hown
 obtain ⟨g,cap,rfl,hg1,hg2,hcap,hmax, -,hH⟩:=Lib.holds_of_ownsRow hown hv0
 go_wp2_with fail
 refine (Tryz.slices_Sort_int g 0 cap l w1 hH hg2 o_m).mono ?_
 rintro e w2 ⟨rfl,q,os,rfl⟩
 have hsl : (l.mergeSort fun x y => decide (x≤y)).length = l.length:=List.length_mergeSort _
 have hrl : (ris l).length≤l.length:=hsl ▸ compact_len _
 have r2:=Lib.ownsRow_putRow (q:=q) hown hsl (Nat.le_refl _)
 rw [List.take_of_length_le (Nat.le_of_eq hsl)] at r2
 have r3:=Lib.ownsRow_grow r2 0 os
 have kb:=Lib.below_putRow (enc:=Value.int .i64) (q:=q) (d:=(l.mergeSort fun x y => decide (x≤y)).toArray) k1 hg1
 have kb3:=kb.trans (Lib.below_grow w.heap.size _ kb.size 0 os)
 have e0 : (putRow (Value.int .i64) (Sort.ahead w1 q) g 0 (l.mergeSort fun x y => decide (x≤y)).toArray).drewN 0 = putRow (Value.int .i64) (Sort.ahead w1 q) g 0 (l.mergeSort fun x y => decide (x≤y)).toArray:=rfl
 rw [e0] at r3 kb3
 generalize grow (putRow (Value.int .i64) (Sort.ahead w1 q) g 0 (l.mergeSort fun x y => decide (x≤y)).toArray) os = w3 at *
 obtain ⟨g',cap',e9, -, -, -, -, -,hH3⟩:=Lib.holds_of_ownsRow r3 (by simp)
 cases e9
 replace r3:=hide r3
 replace kb3:=hide kb3
 clear kb r2 hown hH e0
 have hcomp:=Tryz.slices_Compact_int g 0 cap (l.mergeSort fun x y => decide (x≤y)) w3 hH3 o_m o_m
 rw [hsl] at hcomp
 replace hcomp:=hide hcomp
 clear hH3
 go_wp2_with fail
 refine hcomp.out.mono ?_
 rintro e w4 ⟨rfl,q4,rfl⟩
 have r4:=Lib.ownsRow_putRow (q:=q4) (ys:=ris l ++ List.replicate (l.length - (ris l).length) 0) r3.out (by simp; omega) (k:=(ris l).length) hrl
 rw [List.take_left' rfl] at r4
 have k4:=Lib.below_putRow (enc:=Value.int .i64) (q:=q4) (d:=(ris l ++ List.replicate (l.length - (ris l).length) 0).toArray) kb3.out hg1
 obtain ⟨a5,c5,e5,hI5,hn5⟩:=row_il r4 (fun x hx' => hx x (ris_mem hx'))
 cases e5
 have hfin : Hid (CI w _ (.returned (.slice (some ⟨g,0,none⟩) (ris l).length cap)) (ris l).length (ris l)):=hide ⟨_,_,rfl,hI5,hn5,k4⟩
 clear r4 k4 hI5 hn5
 go_wp2
 go_ret
 exact hfin.out
end Nt
namespace Nt

def cst (k : Int) : Nd:=⟨k,0,[],0,0,[]⟩
def NW (w w' : World) (e : Ending) (pm : Nat) : Prop :=
 ∃ pa C nv bm X D,e = .returned (.pointer (some ⟨pa,0,none⟩))∧AS w' pa pm [cst 0,cst 1] C 2097152 nv bm X D∧(∀ b,FF pa bm nv C b→w.heap.size≤b)∧Below w.heap.size w w'
theorem as_new {w : World} {pa pm bm : Nat} (h : w.heap[pa]? = some (.cells #[.pointer (some ⟨pm,0,none⟩),.slice none 0 0,.map (some bm)] 83 (0,0))) (hm : w.ownsMap Tryz.prog 9 (plainElem Tryz.prog 3) bm 0 (.map [] : DataW Value)) : AS w pa pm [] (fun _ => False) 2097152 (.slice none 0 0) bm [] (.map []) :=
 ⟨h,rfl,⟨rfl,.inl ⟨rfl,rfl⟩⟩,fun i hi => absurd hi (Nat.not_lt_zero _),hm,⟨fun i hi => absurd hi (Nat.not_lt_zero _),fun t _ z => by simp [DataW.atKey]⟩,fun _ h => h.elim,id,id,fun _ _ h => h⟩
theorem cst_take (t : Nat) (h : t < 2) : [cst 0,cst 1].take (t + 1) = [cst 0,cst 1].take t ++ [cst t]∧cst t ∉ [cst 0,cst 1].take t:=by
 obtain rfl | rfl : t = 0 ∨ t = 1:=by omega
 ·exact ⟨rfl,by simp⟩
 refine ⟨rfl,fun h => ?_⟩
 have h1 : cst ((1 : Nat) : Int) = cst 0:=by simpa using h
 have:=congrArg Nd.kind h1
 exact absurd this (by decide)

theorem newM_n {w : World} {pm : Nat} {nn kk c er : Int} (_hM : MB w pm nn kk c er) (htab : Tab w) :
  Calls Tryz.prog 8 #[.pointer (some ⟨pm,0,none⟩)] w fun e w' => NW w w' e pm:=by
 have hmk:=run_makeMap (P:=Tryz.prog) 81 w
 go_enter Tryz.func8,Tryz.ntmps8
 go_wp2_with fail
 clear hmk
 have b0 : Below w.heap.size w (((w.alloc (.map #[] 0)).alloc (.cells #[.pointer (some ⟨pm,0,none⟩),.slice none 0 0,.map (some w.heap.size)] 83)).alloc (.cells #[.int .i64 0,.int .i64 1] 3)):=below_alloc' (below_alloc' (below_alloc _ _) _) _
 have hlb : (((w.alloc (.map #[] 0)).alloc (.cells #[.pointer (some ⟨pm,0,none⟩),.slice none 0 0,.map (some w.heap.size)] 83)).alloc (.cells #[.int .i64 0,.int .i64 1] 3)).heap[w.heap.size + 1 + 1]? = some (.cells #[.int .i64 0,.int .i64 1] 3 (0,0)):=by
  have:=heap_alloc_new ((w.alloc (.map #[] 0)).alloc (.cells #[.pointer (some ⟨pm,0,none⟩),.slice none 0 0,.map (some w.heap.size)] 83)) (.cells #[.int .i64 0,.int .i64 1] 3)
  simpa using this
 have hab : (((w.alloc (.map #[] 0)).alloc (.cells #[.pointer (some ⟨pm,0,none⟩),.slice none 0 0,.map (some w.heap.size)] 83)).alloc (.cells #[.int .i64 0,.int .i64 1] 3)).heap[w.heap.size + 1]? = some (.cells #[.pointer (some ⟨pm,0,none⟩),.slice none 0 0,.map (some w.heap.size)] 83 (0,0)):=by
  have h1:=heap_alloc_new (w.alloc (.map #[] 0)) (.cells #[.pointer (some ⟨pm,0,none⟩),.slice none 0 0,.map (some w.heap.size)] 83)
  have h2:=(below_alloc ((w.alloc (.map #[] 0)).alloc (.cells #[.pointer (some ⟨pm,0,none⟩),.slice none 0 0,.map (some w.heap.size)] 83)) (.cells #[.int .i64 0,.int .i64 1] 3)).block (w.heap.size + 1) (by simp)
  rw [h2]
  simpa using h1
 have hmp : (((w.alloc (.map #[] 0)).alloc (.cells #[.pointer (some ⟨pm,0,none⟩),.slice none 0 0,.map (some w.heap.size)] 83)).alloc (.cells #[.int .i64 0,.int .i64 1] 3)).ownsMap Tryz.prog 9 (plainElem Tryz.prog 3) w.heap.size 0 (.map [] : DataW Value):=((World.ownsMap_made w Tryz.prog 9 (plainElem (H:=Value) Tryz.prog 3)).alloc _).alloc _
 have hA0:=as_new hab hmp
 clear hab hmp
 generalize ((w.alloc (.map #[] 0)).alloc (.cells #[.pointer (some ⟨pm,0,none⟩),.slice none 0 0,.map (some w.heap.size)] 83)).alloc (.cells #[.int .i64 0,.int .i64 1] 3) = wb at *
 generalize hs : w.heap.size = s at *
 replace b0 : Hid (Below w.heap.size w wb):=hs ▸ b0
 go_loopw [19] (fun i wr => ∃ (t : Nat) (C : Nat→Prop) (nv : Value) (X : List NR) (D : DataW Value),t≤2∧i = .int .i64 t∧Hid (AS wr (s + 1) pm ([cst 0,cst 1].take t) C 2097152 nv s X D)∧Hid (∀ b,FF (s + 1) s nv C b→s≤b∧b ≠ s + 1 + 1)∧Hid (wr.heap[s + 1 + 1]? = some (.cells #[.int .i64 0,.int .i64 1] 3 (0,0)))∧Hid (Below w.heap.size w wr)) (fun i _ => 2 - (intOf i).toNat)
 case atStart => exact ⟨0,_,_,_,_,by omega,rfl,hA0,(fun b hb => by rcases hb with rfl | rfl | hb | hb <;> first | omega | (cases hb)),hlb,b0⟩
 case round =>
  obtain ⟨t,C,nv,X,D,ht,rfl,hA,hF,hl,kr⟩:=hrel
  by_cases htn : t < 2
  ·have hc0 : wr.cell? ⟨s + 1 + 1,t,none⟩ = some (.int .i64 (t : Int)):=by
    rw [cell_of_row _ (s + 1 + 1) t _ _ (0,0) hl.out]
    obtain rfl | rfl : t = 0 ∨ t = 1:=by omega
    ·rfl
    rfl
   obtain ⟨htk,hnew⟩:=cst_take t htn
   have y:=NB.new wr (t : Int) false none 0 0 none 0 0 false none 0 0 0 none 0 0
   have ka:=below_alloc wr (.cells #[.int .i64 (t : Int),.bool false,.slice none 0 0,.slice none 0 0,.bool false,.slice none 0 0,.int .i64 0,.slice none 0 0] 65)
   have hA1:=hA.out.below ka
   have hT1:=htab.below (grow_step ka kr.out)
   have hl1:=(ka.block (s + 1 + 1) (Array.getElem?_eq_some_iff.1 hl.out).1).trans hl.out
   have kr1:=grow_step ka kr.out
   replace y:=hide y
   replace hA1:=hide hA1
   go_wp2_with fail
   clear hc0
   replace y:=y.out
   replace hA1:=hA1.out
   have hq : s + 1 + 1 < wr.heap.size:=(Array.getElem?_eq_some_iff.1 hl.out).1
   generalize wr.alloc (.cells #[.int .i64 (t : Int),.bool false,.slice none 0 0,.slice none 0 0,.bool false,.slice none 0 0,.int .i64 0,.slice none 0 0] 65) = wq at *
   generalize hqe : wr.heap.size = q at *
   refine wp_region_held_drew (S:=(fun w' => w'.cell? ⟨q,0,none⟩ = some (.int .i64 (t : Int))∧w'.cell? ⟨q,1,none⟩ = some (.bool false)∧w'.cell? ⟨q,2,none⟩ = some (.slice none 0 0)∧w'.cell? ⟨q,3,none⟩ = some (.slice none 0 0)∧w'.cell? ⟨q,4,none⟩ = some (.bool false)∧w'.cell? ⟨q,5,none⟩ = some (.slice none 0 0)∧w'.cell? ⟨q,6,none⟩ = some (.int .i64 0)∧w'.cell? ⟨q,7,none⟩ = some (.slice none 0 0))) k_f (lay_S y) (fun hHeld => ?_)
   show wpAnyH _ _ _ _ _ 5 _ _ _
   refine tkz 0 25 ?_
   (try simp only [pz])
   refine tkz 1 26 ?_
   (try simp only [pz])
   refine tkz 2 27 ?_
   (try simp only [pz])
   refine ryz 3 (some 28) (fun K hK => ?_) AllReadyH.nil
   go_simp
   refine Calls.mono (text_n (w:=wq.drew) (kids:=[]) (ps:=[]) (d:=0) (k:=0) (B:=0) (zn_zero _) o_m (pn_nil _ _ _) (zn_zero _) o_m ⟨rfl,.inl rfl⟩ (by unfold I64; omega) (by unfold I64; decide) o_m o_m o_m hT1) ?_
   rintro e w2 ⟨rfl,k2⟩
   replace k2:=grow_step k2 (grow_drew (Below.refl _ _))
   have y:=y.below k2
   have hA1:=hA1.below k2
   (try go_wp2_with fail)
   refine hK.out _ _ ?_ ?_
   ·(try dsimp only); exact lay_S y
   clear hK K hHeld; intro hHeld
   (try simp only [pz])
   refine ryz 4 (some 29) (fun K hK => ?_) AllReadyH.nil
   go_simp
   refine Calls.mono (lay_n (w:=w2) (kids:=[]) (ps:=[]) (d:=0) (k:=0) hA1 (zn_zero _) o_m (pn_nil _ _ _) (zn_zero _) o_m ⟨rfl,.inl rfl⟩ (by unfold I64; omega) (by unfold I64; decide) o_m o_m o_m (by simp; omega) hnew (txt_length (w:=w2) (ap:=none) (np:=0) (ka:=none) (kn:=0) (B:=0) (zn_zero _) o_m (pn_nil _ _ _) (zn_zero _) o_m ⟨rfl,.inl rfl⟩ (by unfold I64; omega) (by unfold I64; decide) o_m o_m o_m)) ?_
   rintro e w3 ⟨rfl,C',nv',X',D',hA3,hF3,hB3⟩
   have y3 : NB w3 q (t : Int) false none 0 0 none 0 0 false none 0 0 0 none 0 0:=(hB3.block q y.lt (fun hf => by have h1:=hA.out.fl hf; omega)).trans y
   (try go_wp2_with fail)
   refine hK.out _ _ ?_ ?_
   ·(try dsimp only); exact lay_S y3
   clear hK K hHeld; intro hHeld
   (try simp only [pz])
   refine wpAnyH_done k_f ?_ _
   have hA4 : Hid (AS w3 (s + 1) pm ([cst 0,cst 1].take (t + 1)) C' 2097152 nv' s X' D'):=hide (by rw [htk]; exact hA3)
   have h2q : q < w2.heap.size:=y.lt
   have hF4 : Hid (∀ b,FF (s + 1) s nv' C' b→s≤b∧b ≠ s + 1 + 1):=hide fun b hb => (hF3 b hb).elim (hF.out b) fun h => ⟨by omega,by omega⟩
   have hl2:=(k2.block (s + 1 + 1) (Array.getElem?_eq_some_iff.1 hl1).1).trans hl1
   have hl4 : Hid (w3.heap[s + 1 + 1]? = some (.cells #[.int .i64 0,.int .i64 1] 3 (0,0))):=hide ((hB3.block (s + 1 + 1) o_m (fun hf => (hF.out _ hf).2 rfl)).trans hl2)
   have k4 : Hid (Below w.heap.size w w3):=hide ((grow_step k2 kr1).trans (hB3.below (fun b hb => by have:=(hF.out b hb).1; omega) o_m))
   clear hHeld hA3 hF3 hB3 y y3 hA1 k2 hl1 hl2 kr1 hA hF hl kr ka hT1 hA0 hlb
   go_wp2
   exact ⟨⟨t + 1,C',nv',X',D',by omega,by go_num,hA4,hF4,hl4,k4⟩,by simp [intOf]; omega⟩
  obtain rfl : t = 2:=by omega
  have hfin : Hid (NW w wr (.returned (.pointer (some ⟨s + 1,0,none⟩))) pm):=hide ⟨s + 1,C,nv,s,X,D,rfl,hA.out,fun b hb => by have:=(hF.out b hb).1; omega,kr.out⟩
  clear hA hF hl kr hA0 hlb
  go_wp2
  go_ret
  exact hfin.out
def NN (w w' : World) (e : Ending) : Prop :=
 ∃ pm pa C nv bm X D,e = .returned (.pointer (some ⟨pa,0,none⟩))∧AS w' pa pm [cst 0,cst 1] C 2097152 nv bm X D∧MB w' pm 2000 8 0 0∧¬ FF pa bm nv C pm∧(∀ b,FF pa bm nv C b→w.heap.size≤b)∧w.heap.size≤pm∧Below w.heap.size w w'
theorem nw_nn {w w1 w' : World} {e : Ending} {pm : Nat} (h : NW w1 w' e pm) (hM : MB w1 pm 2000 8 0 0) (k : Below w.heap.size w w1∧w.heap.size≤pm) : NN w w' e:=by
 obtain ⟨pa,C,nv,bm,X,D,h1,h2,h3,h4⟩:=h
 have hl:=hM.lt
 exact ⟨pm,pa,C,nv,bm,X,D,h1,h2,hM.below h4,fun hf => by have:=h3 pm hf; omega,fun b hb => Nat.le_trans k.1.size (h3 b hb),k.2,grow_step h4 k.1⟩
theorem newN_n {w : World} (htab : Tab w) : Calls Tryz.prog 8 #[.pointer none] w fun e w' => NN w w' e:=by
 go_enter Tryz.func8,Tryz.ntmps8
 go_wp2_with fail
 refine (new_n (by decide) (by decide) (by decide) (by decide)).mono ?_
 rintro e w1 ⟨rfl,hM1,k1⟩
 have htab1:=htab.below k1
 have k0 : Below w.heap.size w w1∧w.heap.size≤w.heap.size:=⟨k1,Nat.le_refl _⟩
 generalize hpm : w.heap.size = pm at hM1 ⊢
 replace k0 : Below w.heap.size w w1∧w.heap.size≤pm:=⟨k0.1,Nat.le_of_eq hpm⟩
 clear hpm k1
 have hmk:=run_makeMap (P:=Tryz.prog) 81 w1
 go_wp2_with fail
 clear hmk
 have b0 : Below w1.heap.size w1 (((w1.alloc (.map #[] 0)).alloc (.cells #[.pointer (some ⟨pm,0,none⟩),.slice none 0 0,.map (some w1.heap.size)] 83)).alloc (.cells #[.int .i64 0,.int .i64 1] 3)):=below_alloc' (below_alloc' (below_alloc _ _) _) _
 have hlb : (((w1.alloc (.map #[] 0)).alloc (.cells #[.pointer (some ⟨pm,0,none⟩),.slice none 0 0,.map (some w1.heap.size)] 83)).alloc (.cells #[.int .i64 0,.int .i64 1] 3)).heap[w1.heap.size + 1 + 1]? = some (.cells #[.int .i64 0,.int .i64 1] 3 (0,0)):=by
  have:=heap_alloc_new ((w1.alloc (.map #[] 0)).alloc (.cells #[.pointer (some ⟨pm,0,none⟩),.slice none 0 0,.map (some w1.heap.size)] 83)) (.cells #[.int .i64 0,.int .i64 1] 3)
  simpa using this
 have hab : (((w1.alloc (.map #[] 0)).alloc (.cells #[.pointer (some ⟨pm,0,none⟩),.slice none 0 0,.map (some w1.heap.size)] 83)).alloc (.cells #[.int .i64 0,.int .i64 1] 3)).heap[w1.heap.size + 1]? = some (.cells #[.pointer (some ⟨pm,0,none⟩),.slice none 0 0,.map (some w1.heap.size)] 83 (0,0)):=by
  have h1:=heap_alloc_new (w1.alloc (.map #[] 0)) (.cells #[.pointer (some ⟨pm,0,none⟩),.slice none 0 0,.map (some w1.heap.size)] 83)
  have h2:=(below_alloc ((w1.alloc (.map #[] 0)).alloc (.cells #[.pointer (some ⟨pm,0,none⟩),.slice none 0 0,.map (some w1.heap.size)] 83)) (.cells #[.int .i64 0,.int .i64 1] 3)).block (w1.heap.size + 1) (by simp)
  rw [h2]
  simpa using h1
 have hmp : (((w1.alloc (.map #[] 0)).alloc (.cells #[.pointer (some ⟨pm,0,none⟩),.slice none 0 0,.map (some w1.heap.size)] 83)).alloc (.cells #[.int .i64 0,.int .i64 1] 3)).ownsMap Tryz.prog 9 (plainElem Tryz.prog 3) w1.heap.size 0 (.map [] : DataW Value):=((World.ownsMap_made w1 Tryz.prog 9 (plainElem (H:=Value) Tryz.prog 3)).alloc _).alloc _
 have hA0:=as_new hab hmp
 clear hab hmp
 generalize ((w1.alloc (.map #[] 0)).alloc (.cells #[.pointer (some ⟨pm,0,none⟩),.slice none 0 0,.map (some w1.heap.size)] 83)).alloc (.cells #[.int .i64 0,.int .i64 1] 3) = wb at *
 generalize hs : w1.heap.size = s at *
 replace b0 : Hid (Below w1.heap.size w1 wb):=hs ▸ b0
 go_loopw [19] (fun i wr => ∃ (t : Nat) (C : Nat→Prop) (nv : Value) (X : List NR) (D : DataW Value),t≤2∧i = .int .i64 t∧Hid (AS wr (s + 1) pm ([cst 0,cst 1].take t) C 2097152 nv s X D)∧Hid (∀ b,FF (s + 1) s nv C b→s≤b∧b ≠ s + 1 + 1)∧Hid (wr.heap[s + 1 + 1]? = some (.cells #[.int .i64 0,.int .i64 1] 3 (0,0)))∧Hid (Below w1.heap.size w1 wr)) (fun i _ => 2 - (intOf i).toNat)
 case atStart => exact ⟨0,_,_,_,_,by omega,rfl,hA0,(fun b hb => by rcases hb with rfl | rfl | hb | hb <;> first | omega | (cases hb)),hlb,b0⟩
 case round =>
  obtain ⟨t,C,nv,X,D,ht,rfl,hA,hF,hl,kr⟩:=hrel
  by_cases htn : t < 2
  ·have hc0 : wr.cell? ⟨s + 1 + 1,t,none⟩ = some (.int .i64 (t : Int)):=by
    rw [cell_of_row _ (s + 1 + 1) t _ _ (0,0) hl.out]
    obtain rfl | rfl : t = 0 ∨ t = 1:=by omega
    ·rfl
    rfl
   obtain ⟨htk,hnew⟩:=cst_take t htn
   have y:=NB.new wr (t : Int) false none 0 0 none 0 0 false none 0 0 0 none 0 0
   have ka:=below_alloc wr (.cells #[.int .i64 (t : Int),.bool false,.slice none 0 0,.slice none 0 0,.bool false,.slice none 0 0,.int .i64 0,.slice none 0 0] 65)
   have hA1:=hA.out.below ka
   have hT1:=htab1.below (grow_step ka kr.out)
   have hl1:=(ka.block (s + 1 + 1) (Array.getElem?_eq_some_iff.1 hl.out).1).trans hl.out
   have kr1:=grow_step ka kr.out
   replace y:=hide y
   replace hA1:=hide hA1
   go_wp2_with fail
   clear hc0
   replace y:=y.out
   replace hA1:=hA1.out
   have hq : s + 1 + 1 < wr.heap.size:=(Array.getElem?_eq_some_iff.1 hl.out).1
   generalize wr.alloc (.cells #[.int .i64 (t : Int),.bool false,.slice none 0 0,.slice none 0 0,.bool false,.slice none 0 0,.int .i64 0,.slice none 0 0] 65) = wq at *
   generalize hqe : wr.heap.size = q at *
   refine wp_region_held_drew (S:=(fun w' => w'.cell? ⟨q,0,none⟩ = some (.int .i64 (t : Int))∧w'.cell? ⟨q,1,none⟩ = some (.bool false)∧w'.cell? ⟨q,2,none⟩ = some (.slice none 0 0)∧w'.cell? ⟨q,3,none⟩ = some (.slice none 0 0)∧w'.cell? ⟨q,4,none⟩ = some (.bool false)∧w'.cell? ⟨q,5,none⟩ = some (.slice none 0 0)∧w'.cell? ⟨q,6,none⟩ = some (.int .i64 0)∧w'.cell? ⟨q,7,none⟩ = some (.slice none 0 0))) k_f (lay_S y) (fun hHeld => ?_)
   show wpAnyH _ _ _ _ _ 5 _ _ _
   refine tkz 0 25 ?_
   (try simp only [pz])
   refine tkz 1 26 ?_
   (try simp only [pz])
   refine tkz 2 27 ?_
   (try simp only [pz])
   refine ryz 3 (some 28) (fun K hK => ?_) AllReadyH.nil
   go_simp
   refine Calls.mono (text_n (w:=wq.drew) (kids:=[]) (ps:=[]) (d:=0) (k:=0) (B:=0) (zn_zero _) o_m (pn_nil _ _ _) (zn_zero _) o_m ⟨rfl,.inl rfl⟩ (by unfold I64; omega) (by unfold I64; decide) o_m o_m o_m hT1) ?_
   rintro e w2 ⟨rfl,k2⟩
   replace k2:=grow_step k2 (grow_drew (Below.refl _ _))
   have y:=y.below k2
   have hA1:=hA1.below k2
   (try go_wp2_with fail)
   refine hK.out _ _ ?_ ?_
   ·(try dsimp only); exact lay_S y
   clear hK K hHeld; intro hHeld
   (try simp only [pz])
   refine ryz 4 (some 29) (fun K hK => ?_) AllReadyH.nil
   go_simp
   refine Calls.mono (lay_n (w:=w2) (kids:=[]) (ps:=[]) (d:=0) (k:=0) hA1 (zn_zero _) o_m (pn_nil _ _ _) (zn_zero _) o_m ⟨rfl,.inl rfl⟩ (by unfold I64; omega) (by unfold I64; decide) o_m o_m o_m (by simp; omega) hnew (txt_length (w:=w2) (ap:=none) (np:=0) (ka:=none) (kn:=0) (B:=0) (zn_zero _) o_m (pn_nil _ _ _) (zn_zero _) o_m ⟨rfl,.inl rfl⟩ (by unfold I64; omega) (by unfold I64; decide) o_m o_m o_m)) ?_
   rintro e w3 ⟨rfl,C',nv',X',D',hA3,hF3,hB3⟩
   have y3 : NB w3 q (t : Int) false none 0 0 none 0 0 false none 0 0 0 none 0 0:=(hB3.block q y.lt (fun hf => by have h1:=hA.out.fl hf; omega)).trans y
   (try go_wp2_with fail)
   refine hK.out _ _ ?_ ?_
   ·(try dsimp only); exact lay_S y3
   clear hK K hHeld; intro hHeld
   (try simp only [pz])
   refine wpAnyH_done k_f ?_ _
   have hA4 : Hid (AS w3 (s + 1) pm ([cst 0,cst 1].take (t + 1)) C' 2097152 nv' s X' D'):=hide (by rw [htk]; exact hA3)
   have h2q : q < w2.heap.size:=y.lt
   have hF4 : Hid (∀ b,FF (s + 1) s nv' C' b→s≤b∧b ≠ s + 1 + 1):=hide fun b hb => (hF3 b hb).elim (hF.out b) fun h => ⟨by omega,by omega⟩
   have hl2:=(k2.block (s + 1 + 1) (Array.getElem?_eq_some_iff.1 hl1).1).trans hl1
   have hl4 : Hid (w3.heap[s + 1 + 1]? = some (.cells #[.int .i64 0,.int .i64 1] 3 (0,0))):=hide ((hB3.block (s + 1 + 1) o_m (fun hf => (hF.out _ hf).2 rfl)).trans hl2)
   have k4 : Hid (Below w1.heap.size w1 w3):=hide ((grow_step k2 kr1).trans (hB3.below (fun b hb => by have:=(hF.out b hb).1; omega) o_m))
   clear hHeld hA3 hF3 hB3 y y3 hA1 k2 hl1 hl2 kr1 hA hF hl kr ka hT1 hA0 hlb
   go_wp2
   exact ⟨⟨t + 1,C',nv',X',D',by omega,by go_num,hA4,hF4,hl4,k4⟩,by simp [intOf]; omega⟩
  obtain rfl : t = 2:=by omega
  have hfin : Hid (NW w1 wr (.returned (.pointer (some ⟨s + 1,0,none⟩))) pm):=hide ⟨s + 1,C,nv,s,X,D,rfl,hA.out,fun b hb => by have:=(hF.out b hb).1; omega,kr.out⟩
  clear hA hF hl kr hA0 hlb
  go_wp2
  go_ret
  exact nw_nn hfin.out hM1 k0
end Nt
namespace Nt

def lck (n : Nat) (id : Int) : Bool:=decide (id < 0 ∨ (n : Int)≤id)

theorem index8_n {w : World} {pa pm : Nat} {L : List Nd} {C : Nat→Prop} {B : Nat} {nv : Value} {bm : Nat} {X : List NR} {D : DataW Value} {ka : Option Addr} {kc : Nat} {l : List Int} (hA : AS w pa pm L C B nv bm X D) (hI : IL w ka l.length l) (hm : l.length≤4194304) :
  Calls Tryz.prog 71 #[.slice ka l.length kc,.func (.func 42) #[.pointer (some ⟨pa,0,none⟩)] #[]] w fun x w' => ∃ i : Int,x = .returned (.int .i64 i)∧(decide (0≤i) = l.any (lck L.length))∧-1≤i∧i < l.length∧w' = w:=by
 go_enter Tryz.func71,Tryz.ntmps71
 go_wp2_with fail
 go_loopw [8] (fun i wr => ∃ t : Nat,t≤l.length∧i = .int .i64 t∧Hid ((l.take t).any (lck L.length) = false)∧wr = w) (fun i _ => l.length - (intOf i).toNat)
 case atStart => exact ⟨0,Nat.zero_le _,rfl,(show _ = _ by simp),rfl⟩
 case round =>
  obtain ⟨t,ht,rfl,hno,rfl⟩:=hrel
  by_cases htm : t < l.length
  ·rcases hI.2 with h0 | ⟨bp,op,rfl,hbp,hLL⟩
   ·omega
   obtain ⟨e0,hx⟩:=hLL t htm
   have hstep : Hid ((l.take (t + 1)).any (lck L.length) = lck L.length l[t]):=(show _ = _ by rw [List.take_succ_eq_append_getElem (l:=l) (i:=t) o_m,List.any_append,hno.out]; simp)
   have hex : Hid (lck L.length l[t] = true→l.any (lck L.length) = true):=(fun hh => List.any_eq_true.2 ⟨l[t],List.getElem_mem _,hh⟩)
   generalize l[t] = lt at *
   clear hI hLL
   go_wp2_with fail
   refine (lacks_n hA lt).mono ?_
   rintro x w2 ⟨rfl,rfl⟩
   cases hil : lck L.length lt with
   | true =>
    have hany:=hide (hex.out hil)
    unfold lck at hil
    rw [hil]
    clear hil
    go_wp2
    go_ret
    exact ⟨t,rfl,by rw [hany.out]; simp,by omega,by omega,rfl⟩
   | false =>
    have hst:=hide (hstep.out.trans hil)
    unfold lck at hil
    rw [hil]
    clear hil
    go_wp2
    go_round
    case rel => exact ⟨t + 1,by omega,by go_num,hst,by trivial⟩
    case measure => simp [intOf]; omega
  obtain rfl : t = l.length:=by omega
  have hall : Hid (l.any (lck L.length) = false):=by
   have h1:=hno.out
   rw [List.take_of_length_le (Nat.le_refl _)] at h1
   exact h1
  clear hno
  go_wp2
  go_ret
  exact ⟨-1,rfl,by rw [hall.out]; rfl,by omega,by omega,rfl⟩

theorem contains8_n {w : World} {pa pm : Nat} {L : List Nd} {C : Nat→Prop} {B : Nat} {nv : Value} {bm : Nat} {X : List NR} {D : DataW Value} {ka : Option Addr} {kc : Nat} {l : List Int} (hA : AS w pa pm L C B nv bm X D) (hI : IL w ka l.length l) (hm : l.length≤4194304) :
  Calls Tryz.prog 41 #[.slice ka l.length kc,.func (.func 42) #[.pointer (some ⟨pa,0,none⟩)] #[]] w fun x w' => x = .returned (.bool (l.any (lck L.length)))∧w' = w:=by
 go_enter Tryz.func41,Tryz.ntmps41
 go_wp2_with fail
 refine (index8_n hA hI hm).mono ?_
 rintro x w2 ⟨i,rfl,hi,hi1,hi2,rfl⟩
 replace hi:=hide hi
 go_wp2
 go_ret
 exact ⟨by rw [← hi.out]; rfl,rfl⟩
end Nt
namespace Nt

def JO (w w' : World) (e : Ending) (pa pm : Nat) (L : List Nd) (C : Nat→Prop) (B : Nat) (nv : Value) (bm : Nat) (nn kk c er kd : Int) (l : List Int) : Prop :=
 if ¬ (kd = 5 ∨ kd = 6) then e = .returned (.tuple #[.int .i64 0,.int .i64 1])∧w' = w
 else if l.any (lck L.length) = true then e = .returned (.tuple #[.int .i64 0,.int .i64 80])∧w' = w
 else match ris l with
  | [] => e = .returned (.tuple #[.int .i64 (if kd = 5 then 1 else 0),.int .i64 0])∧Below w.heap.size w w'
  | [x] => e = .returned (.tuple #[.int .i64 x,.int .i64 0])∧Below w.heap.size w w'
  | x :: y :: t => MD w w' e pa pm L C B nv bm nn kk c er ⟨kd,0,[],0,0,x :: y :: t⟩
theorem ris_len (l : List Int) : (ris l).length≤l.length:=by
 have h:=compact_len (l.mergeSort fun x y => decide (x≤y))
 rwa [List.length_mergeSort] at h

theorem join8_n {w : World} {pa pm : Nat} {L : List Nd} {C : Nat→Prop} {nv : Value} {bm : Nat} {X : List NR} {D : DataW Value} {nn kk c er : Int} {kd : Int} {ka : Option Addr} {kc : Nat} {l : List Int}
  (hA : AS w pa pm L C 2097152 nv bm X D) (hM : MB w pm nn kk c er) (hpm : ¬ FF pa bm nv C pm) (hc : 0≤c) (hcn : c≤nn) (hnn : nn≤2000) (he : 0≤er) (he2 : er < 256) (hI : IL w ka l.length l) (hl : l.length≤1048576) (hL : L.length≤1048576) (htab : Tab w) :
  Calls Tryz.prog 13 #[.pointer (some ⟨pa,0,none⟩),.int .i64 kd,.slice ka l.length kc] w fun e w' => JO w w' e pa pm L C 2097152 nv bm nn kk c er kd l:=by
 by_cases hb : kd = 5 ∨ kd = 6
 ·cases ha : l.any (lck L.length) with
  | true =>
   rcases hb with rfl | rfl
   all_goals
    go_enter Tryz.func13,Tryz.ntmps13
    go_wp2_with (go_at_call 41; refine (contains8_n hA hI o_m).mono ?_; rintro e w1 ⟨rfl,rfl⟩; rw [ha])
    refine bodyPost_ret (results_tmp2 rfl _ _ _) rfl ?_
    unfold JO
    rw [if_neg (by decide),if_pos ha]
    exact ⟨rfl,rfl⟩
  | false =>
   have hrl:=ris_len l
   rcases hb with rfl | rfl
   ·go_enter Tryz.func13,Tryz.ntmps13
    go_wp2_with (go_at_call 41; refine (contains8_n hA hI o_m).mono ?_; rintro e w1 ⟨rfl,rfl⟩; rw [ha])
    refine (rising_n hI o_m).mono ?_
    rintro e w2 ⟨a2,c2,rfl,hI2,hn2,k2⟩
    cases hr : ris l with
    | nil =>
     simp only [List.length_nil]
     clear hI2 hn2 hA hM hI htab
     go_wp2
     refine bodyPost_ret (results_tmp2 rfl _ _ _) rfl ?_
     unfold JO
     rw [if_neg (by decide),if_neg (by rw [ha]; decide),hr]
     exact ⟨rfl,k2⟩
    | cons x t =>
     cases t with
     | nil =>
      rw [hr] at hI2
      rcases hI2.2 with h0 | ⟨b,off,rfl,hb,hI3⟩
      ·exact absurd h0 (by simp)
      obtain ⟨e0, -⟩:=hI3 0 (by simp)
      simp only [Nat.add_zero,List.getElem_cons_zero] at e0
      simp only [List.length_cons,List.length_nil,Nat.zero_add]
      clear hI2 hI3 hn2 hA hM hI htab
      go_wp2
      refine bodyPost_ret (results_tmp2 rfl _ _ _) rfl ?_
      unfold JO
      rw [if_neg (by decide),if_neg (by rw [ha]; decide),hr]
      exact ⟨rfl,k2⟩
     | cons y t =>
      rw [hr] at hI2 hn2 hrl
      have hml:=hM.lt
      have hkp : InF (fun b => b ≠ pm) a2 (x :: y :: t).length:=fun b off e h0 => by have:=hn2 b off e h0; omega
      have hl2 : 1 < (x :: y :: t).length:=by simp
      generalize hgt : x :: y :: t = m at *
      generalize hgl : m.length = ml at *
      have hmade:=made_n (kc:=c2) (sd:=false) (ad:=none) (ld:=0) (cd:=0) (ap:=none) (np:=0) (cp:=0) (sk:=false) (ak:=none) (lk:=0) (ck:=0) (d:=0) (k:=0) (ps:=[]) (vr:=0) (hA.below k2) (hM.below k2) hpm hc hcn hnn he he2 (zn_zero _) o_m (pn_nil _ _ _) (zn_zero _) o_m hI2 hkp (show I64 (5 : Int) by unfold I64; decide) (by unfold I64; decide) o_m o_m o_m hL (htab.below k2)
      replace hmade:=hide hmade
      clear hI2 hA hM hI htab hkp hn2
      go_wp2_with fail
      refine hmade.out.mono ?_
      rintro e w3 hMD
      have hMD2:=hide (md_back hMD k2)
      obtain ⟨ra,rb,rfl⟩ : ∃ ra rb : Int,e = .returned (.tuple #[.int .i64 ra,.int .i64 rb]):=by
       rcases hMD with ⟨i,_,h2,_⟩ | ⟨_,_,h3,_⟩ | ⟨_,_,h3,_⟩
       ·exact ⟨_,_,h2⟩
       ·exact ⟨_,_,h3⟩
       exact ⟨_,_,h3⟩
      clear hMD hmade
      go_wp2
      refine bodyPost_ret (results_tmp2 rfl _ _ _) rfl ?_
      unfold JO
      rw [if_neg (by decide),if_neg (by rw [ha]; decide),hr,← hgt]
      rw [← hgt] at hMD2
      exact hMD2.out
   go_enter Tryz.func13,Tryz.ntmps13
   go_wp2_with (go_at_call 41; refine (contains8_n hA hI o_m).mono ?_; rintro e w1 ⟨rfl,rfl⟩; rw [ha])
   refine (rising_n hI o_m).mono ?_
   rintro e w2 ⟨a2,c2,rfl,hI2,hn2,k2⟩
   cases hr : ris l with
   | nil =>
    simp only [List.length_nil]
    clear hI2 hn2 hA hM hI htab
    go_wp2
    refine bodyPost_ret (results_tmp2 rfl _ _ _) rfl ?_
    unfold JO
    rw [if_neg (by decide),if_neg (by rw [ha]; decide),hr]
    exact ⟨rfl,k2⟩
   | cons x t =>
    cases t with
    | nil =>
     rw [hr] at hI2
     rcases hI2.2 with h0 | ⟨b,off,rfl,hb,hI3⟩
     ·exact absurd h0 (by simp)
     obtain ⟨e0, -⟩:=hI3 0 (by simp)
     simp only [Nat.add_zero,List.getElem_cons_zero] at e0
     simp only [List.length_cons,List.length_nil,Nat.zero_add]
     clear hI2 hI3 hn2 hA hM hI htab
     go_wp2
     refine bodyPost_ret (results_tmp2 rfl _ _ _) rfl ?_
     unfold JO
     rw [if_neg (by decide),if_neg (by rw [ha]; decide),hr]
     exact ⟨rfl,k2⟩
    | cons y t =>
     rw [hr] at hI2 hn2 hrl
     have hml:=hM.lt
     have hkp : InF (fun b => b ≠ pm) a2 (x :: y :: t).length:=fun b off e h0 => by have:=hn2 b off e h0; omega
     have hl2 : 1 < (x :: y :: t).length:=by simp
     generalize hgt : x :: y :: t = m at *
     generalize hgl : m.length = ml at *
     have hmade:=made_n (kc:=c2) (sd:=false) (ad:=none) (ld:=0) (cd:=0) (ap:=none) (np:=0) (cp:=0) (sk:=false) (ak:=none) (lk:=0) (ck:=0) (d:=0) (k:=0) (ps:=[]) (vr:=0) (hA.below k2) (hM.below k2) hpm hc hcn hnn he he2 (zn_zero _) o_m (pn_nil _ _ _) (zn_zero _) o_m hI2 hkp (show I64 (6 : Int) by unfold I64; decide) (by unfold I64; decide) o_m o_m o_m hL (htab.below k2)
     replace hmade:=hide hmade
     clear hI2 hA hM hI htab hkp hn2
     go_wp2_with fail
     refine hmade.out.mono ?_
     rintro e w3 hMD
     have hMD2:=hide (md_back hMD k2)
     obtain ⟨ra,rb,rfl⟩ : ∃ ra rb : Int,e = .returned (.tuple #[.int .i64 ra,.int .i64 rb]):=by
      rcases hMD with ⟨i,_,h2,_⟩ | ⟨_,_,h3,_⟩ | ⟨_,_,h3,_⟩
      ·exact ⟨_,_,h2⟩
      ·exact ⟨_,_,h3⟩
      exact ⟨_,_,h3⟩
     clear hMD hmade
     go_wp2
     refine bodyPost_ret (results_tmp2 rfl _ _ _) rfl ?_
     unfold JO
     rw [if_neg (by decide),if_neg (by rw [ha]; decide),hr,← hgt]
     rw [← hgt] at hMD2
     exact hMD2.out
 go_enter Tryz.func13,Tryz.ntmps13
 have h5 : (kd != 5) = true:=by simp; omega
 have h6 : (kd != 6) = true:=by simp; omega
 go_wp2
 refine bodyPost_ret (results_tmp2 rfl _ _ _) rfl ?_
 unfold JO
 rw [if_pos hb]
 exact ⟨rfl,rfl⟩
end Nt
namespace Nt
theorem upto_rises {d : Array Int} (hs : ∀ i j,i≤j→j < d.size→d[i]!≤d[j]!) : ∀ m,m≤d.size→(Lib.compactUpTo d m).Pairwise (· < ·)∧∀ x ∈ Lib.compactUpTo d m,∃ j,j < m∧x = d[j]!
 | 0,_ => ⟨by simp [Lib.compactUpTo],by simp [Lib.compactUpTo]⟩
 | m + 1,hm => by
  obtain ⟨h1,h2⟩:=upto_rises hs m o_m
  rw [Lib.compactUpTo_succ]
  by_cases hk : Lib.keeps d m = true
  ·rw [if_pos hk]
   refine ⟨List.pairwise_append.2 ⟨h1,by simp,fun x hx y hy => ?_⟩,fun x hx => ?_⟩
   ·obtain ⟨j,hj,rfl⟩:=h2 x hx
    obtain rfl:=List.mem_singleton.1 hy
    have h3 : d[m]! ≠ d[m - 1]!:=by
     have h4:=of_decide_eq_true hk
     rcases h4 with h4 | h4
     ·omega
     exact h4
    have h5:=hs j (m - 1) o_m o_m
    have h6:=hs (m - 1) m o_m o_m
    omega
   rcases List.mem_append.1 hx with h | h
   ·obtain ⟨j,hj,e⟩:=h2 x h
    exact ⟨j,by omega,e⟩
   exact ⟨m,by omega,List.mem_singleton.1 h⟩
  rw [if_neg hk,List.append_nil]
  exact ⟨h1,fun x hx => by obtain ⟨j,hj,e⟩:=h2 x hx; exact ⟨j,by omega,e⟩⟩
theorem sort_le (l : List Int) : (l.mergeSort fun x y => decide (x≤y)).Pairwise (·≤·):=by
 have h:=List.pairwise_mergeSort (le:=fun x y : Int => decide (x≤y)) (fun a b c h1 h2 => by simp at *; omega) (fun a b => by simp; omega) l
 exact h.imp (fun h => by simpa using h)
theorem ris_rises (l : List Int) : (ris l).Pairwise (· < ·):=by
 have h:=sort_le l
 refine (upto_rises (d:=(l.mergeSort fun x y => decide (x≤y)).toArray) (fun i j hij hj => ?_) _ (by simp)).1
 have hj2 : j < (l.mergeSort fun x y => decide (x≤y)).length:=by simpa using hj
 rw [getElem!_pos (l.mergeSort fun x y => decide (x≤y)).toArray i (by simpa using Nat.lt_of_le_of_lt hij hj2),getElem!_pos (l.mergeSort fun x y => decide (x≤y)).toArray j hj]
 by_cases he : i = j
 ·subst he; exact Int.le_refl _
 exact List.pairwise_iff_getElem.1 h i j _ _ o_m
theorem ris_two (x : Int) : ris [x,x] = [x]:=by
 unfold ris
 rw [List.mergeSort_of_pairwise (by simp)]
 simp [Lib.compact,Lib.compactUpTo,Lib.keeps,List.range_succ]
structure St where
 L : List Nd
 c : Int
 er : Int
def nums (n : Nd) : List Int:=n.d :: n.k :: n.ps.map Prod.snd
def Uq (L : List Nd) : Prop:=∀ (i j : Nat) (n : Nd),L[i]? = some n→L[j]? = some n→i = j
open Classical in
def eqn (a b : Nd) : Bool:=decide (a.kind = b.kind∧a.d = b.d∧a.ps = b.ps∧a.k = b.k∧a.var = b.var∧a.kids = b.kids)
theorem eqn_iff (a b : Nd) : eqn a b = true ↔ a = b:=by
 cases a
 cases b
 simp [eqn]
def spot (L : List Nd) (n : Nd) : Nat:=L.findIdx (eqn n)
theorem spot_at {L : List Nd} {n : Nd} (h : ∃ i : Nat,L[i]? = some n) : spot L n < L.length∧L[spot L n]? = some n:=by
 obtain ⟨i,hi⟩:=h
 have h1 : spot L n < L.length:=List.findIdx_lt_length_of_exists ⟨n,List.mem_of_getElem? hi,(eqn_iff n n).2 rfl⟩
 refine ⟨h1,?_⟩
 have h2 : eqn n (L[spot L n]'h1) = true:=List.findIdx_getElem (w:=h1)
 rw [List.getElem?_eq_getElem h1,← (eqn_iff _ _).1 h2]
theorem spot_no {L : List Nd} {n : Nd} (h : ¬ ∃ i : Nat,L[i]? = some n) : ¬ spot L n < L.length:=fun h1 => h ⟨spot L n,by
 have h2 : eqn n (L[spot L n]'h1) = true:=List.findIdx_getElem (w:=h1)
 rw [List.getElem?_eq_getElem h1,← (eqn_iff _ _).1 h2]⟩
def put (nn kk : Int) (s : St) (n : Nd) : St × Option Int :=
 if spot s.L n < s.L.length then (s,some (spot s.L n : Int))
 else if (mstep nn kk s.c s.er (nums n)).1 = 0 then (⟨s.L ++ [n],(mstep nn kk s.c s.er (nums n)).2.1,(mstep nn kk s.c s.er (nums n)).2.2⟩,some (s.L.length : Int))
 else (⟨s.L,(mstep nn kk s.c s.er (nums n)).2.1,(mstep nn kk s.c s.er (nums n)).2.2⟩,none)
def joinA (kd : Int) (l : List Int) : Option Int ⊕ Nd:=match ris l with
 | [] => .inl (some (if kd = 5 then 1 else 0))
 | [x] => .inl (some x)
 | x :: y :: t => .inr ⟨kd,0,[],0,0,x :: y :: t⟩
def atomA (kd d : Int) (ps : List (Int × Int)) (k : Int) : Option Int ⊕ Nd:=match formA kd d (nz (lays [] ps)) k with
 | .inr _ => .inl none
 | .inl f => .inr ⟨f.kind,f.d,f.ps,f.k,0,[]⟩
def asked (nn kk : Int) (s : St) (q : Option Int ⊕ Nd) : St × Option Int:=match q with
 | .inl o => (s,o)
 | .inr n => put nn kk s n
theorem mstep_cases (nn kk c e : Int) (zs : List Int) : (e ≠ 0∧mstep nn kk c e zs = (e,c,e)) ∨ (e = 0∧∃ r,r ≠ 0∧mstep nn kk c e zs = (r,c,r)∧(r = 70 ∨ r = 71)) ∨ (e = 0∧mstep nn kk c e zs = (0,c + 1,0)∧(zs.any fun z => decide (kk < (lim z : Int))) = false∧1≤nn - c):=by
 unfold mstep
 by_cases h : e ≠ 0
 ·rw [if_pos h]; exact .inl ⟨h,rfl⟩
 rw [if_neg h]
 have h0 : e = 0:=Decidable.not_not.1 h
 by_cases h1 : (zs.any fun z => decide (kk < (lim z : Int))) = true
 ·rw [if_pos h1]; exact .inr (.inl ⟨h0,71,by decide,rfl,.inr rfl⟩)
 rw [if_neg h1]
 by_cases h2 : nn - c < 1
 ·rw [if_pos h2]; exact .inr (.inl ⟨h0,70,by decide,rfl,.inl rfl⟩)
 rw [if_neg h2]; exact .inr (.inr ⟨h0,rfl,by simpa using h1,by omega⟩)
theorem put_cases (nn kk : Int) (s : St) (n : Nd) :
  (∃ i : Nat,s.L[i]? = some n∧put nn kk s n = (s,some (i : Int))) ∨
  ((∀ i : Nat,s.L[i]? ≠ some n)∧s.er ≠ 0∧put nn kk s n = (s,none)) ∨
  ((∀ i : Nat,s.L[i]? ≠ some n)∧s.er = 0∧∃ r,(r = 70 ∨ r = 71)∧put nn kk s n = (⟨s.L,s.c,r⟩,none)) ∨
  ((∀ i : Nat,s.L[i]? ≠ some n)∧s.er = 0∧((nums n).any fun z => decide (kk < (lim z : Int))) = false∧1≤nn - s.c∧put nn kk s n = (⟨s.L ++ [n],s.c + 1,0⟩,some (s.L.length : Int))):=by
 unfold put
 by_cases h : ∃ i : Nat,s.L[i]? = some n
 ·rw [if_pos (spot_at h).1]; exact .inl ⟨spot s.L n,(spot_at h).2,rfl⟩
 rw [if_neg (spot_no h)]
 have hn : ∀ i : Nat,s.L[i]? ≠ some n:=fun i hi => h ⟨i,hi⟩
 rcases mstep_cases nn kk s.c s.er (nums n) with ⟨h1,h2⟩ | ⟨h1,r,h2,h3,h4⟩ | ⟨h1,h2,h3,h4⟩
 ·rw [h2,if_neg h1]; exact .inr (.inl ⟨hn,h1,rfl⟩)
 ·rw [h3,if_neg h2]; exact .inr (.inr (.inl ⟨hn,h1,r,h4,rfl⟩))
 rw [h2,if_pos rfl]; exact .inr (.inr (.inr ⟨hn,h1,h3,h4,rfl⟩))
theorem put_found {nn kk : Int} {F : St} {n : Nd} {i : Nat} (hU : Uq F.L) (h : F.L[i]? = some n) : put nn kk F n = (F,some (i : Int)):=by
 rcases put_cases nn kk F n with ⟨j,hj,e⟩ | ⟨h2,_⟩ | ⟨h2,_⟩ | ⟨h2,_⟩
 ·rw [e,hU i j n h hj]
 ·exact absurd h (h2 i)
 ·exact absurd h (h2 i)
 exact absurd h (h2 i)
def st0 : St:=⟨[cst 0,cst 1],0,0⟩
theorem st0_uq : Uq st0.L:=by
 intro i j n hi hj
 have hi1:=(List.getElem?_eq_some_iff.1 hi).1
 have hj1:=(List.getElem?_eq_some_iff.1 hj).1
 simp [st0] at hi1 hj1
 obtain rfl | rfl : i = 0 ∨ i = 1:=by omega
 ·obtain rfl | rfl : j = 0 ∨ j = 1:=by omega
  ·rfl
  exact absurd (congrArg (Option.map Nd.kind) (hi.trans hj.symm)) (by simp [st0,cst])
 obtain rfl | rfl : j = 0 ∨ j = 1:=by omega
 ·exact absurd (congrArg (Option.map Nd.kind) (hi.trans hj.symm)) (by simp [st0,cst])
 rfl
end Nt
namespace Nt

structure AG (w : World) (pa pm : Nat) (nn kk : Int) (s : St) (F : Nat→Prop) : Prop where
 ar : ∃ C nv bm X D,AS w pa pm s.L C 2097152 nv bm X D∧¬ FF pa bm nv C pm∧∀ b,FF pa bm nv C b→F b
 mb : MB w pm nn kk s.c s.er
 c0 : 0≤s.c
 cn : s.c≤nn
 n2 : nn≤2000
 e0 : 0≤s.er
 e2 : s.er < 256
 ln : (s.L.length : Int)≤s.c + 2
 fl : ∀ b,F b→b < w.heap.size
theorem AS.uq {w : World} {pa pm : Nat} {L : List Nd} {C : Nat→Prop} {B : Nat} {nv : Value} {bm : Nat} {X : List NR} {D : DataW Value} (h : AS w pa pm L C B nv bm X D) : Uq L:=by
 intro i j n hi hj
 obtain ⟨hi1,hi2⟩:=List.getElem?_eq_some_iff.1 hi
 obtain ⟨hj1,hj2⟩:=List.getElem?_eq_some_iff.1 hj
 have e1:=h.is.1 i hi1 .nil
 have e2:=h.is.1 j hj1 .nil
 rw [hi2] at e1
 rw [hj2,e1] at e2
 injection e2 with e2
 injection e2 with _ e2
 omega
theorem AG.below {w w' : World} {pa pm : Nat} {nn kk : Int} {s : St} {F : Nat→Prop} (h : AG w pa pm nn kk s F) (k : Below w.heap.size w w') : AG w' pa pm nn kk s F:=by
 obtain ⟨⟨C,nv,bm,X,D,h1,h2,h3⟩,h4,h5,h6,h7,h8,h9,h10,h11⟩:=h
 exact ⟨⟨C,nv,bm,X,D,h1.below k,h2,h3⟩,h4.below k,h5,h6,h7,h8,h9,h10,fun b hb => Nat.lt_of_lt_of_le (h11 b hb) k.size⟩
def AO (w w' : World) (e : Ending) (pa pm : Nat) (nn kk : Int) (F : Nat→Prop) (r : St × Option Int) : Prop :=
 ∃ x er : Int,e = .returned (.tuple #[.int .i64 x,.int .i64 er])∧(r.2 = none→er ≠ 0)∧(∀ i,r.2 = some i→x = i∧er = 0)∧∃ F',AG w' pa pm nn kk r.1 F'∧(∀ b,F' b→F b ∨ w.heap.size≤b)∧ButF (fun b => b = pm ∨ F b) w w'
theorem but_butF {w w' : World} {p : Nat} {F : Nat→Prop} (h : But p w w') : ButF (fun b => b = p ∨ F b) w w':=⟨h.os,h.tape,h.output,h.size,fun i hi hn => h.block i hi fun e => hn (.inl e)⟩
theorem ao_now {w w' : World} {pa pm : Nat} {nn kk : Int} {s : St} {F : Nat→Prop} (hG : AG w pa pm nn kk s F) (k : Below w.heap.size w w') (i : Int) : AO w w' (.returned (.tuple #[.int .i64 i,.int .i64 0])) pa pm nn kk F (s,some i) :=
 ⟨i,0,rfl,fun h => (by cases h),fun j h => (by cases h; exact ⟨rfl,rfl⟩),F,hG.below k,fun _ h => .inl h,butF_below k⟩
theorem ao_not {w w' : World} {pa pm : Nat} {nn kk : Int} {s : St} {F : Nat→Prop} (hG : AG w pa pm nn kk s F) (k : Below w.heap.size w w') {x er : Int} (he : er ≠ 0) : AO w w' (.returned (.tuple #[.int .i64 x,.int .i64 er])) pa pm nn kk F (s,none) :=
 ⟨x,er,rfl,fun _ => he,fun j h => (by cases h),F,hG.below k,fun _ h => .inl h,butF_below k⟩
theorem md_ao {w w' : World} {e : Ending} {pa pm : Nat} {nn kk : Int} {s : St} {F C : Nat→Prop} {nv : Value} {bm : Nat} {X : List NR} {D : DataW Value} {n : Nd} (hG : AG w pa pm nn kk s F) (hA : AS w pa pm s.L C 2097152 nv bm X D) (hpm : ¬ FF pa bm nv C pm) (hF : ∀ b,FF pa bm nv C b→F b) (h : MD w w' e pa pm s.L C 2097152 nv bm nn kk s.c s.er n) : AO w w' e pa pm nn kk F (put nn kk s n):=by
 have hn : n ∉ s.L→¬ ∃ i : Nat,s.L[i]? = some n:=fun h ⟨i,hi⟩ => h (List.mem_of_getElem? hi)
 have h0:=hG.c0
 have h1:=hG.cn
 have h2:=hG.n2
 have h3:=hG.e0
 have h4:=hG.e2
 have h5:=hG.ln
 rcases h with ⟨i,g1,rfl,k⟩ | ⟨g1,g2,rfl,g4,k⟩ | ⟨g1,g2,rfl,g4,C',nv',X',D',g5,g6,g7⟩
 ·rw [put_found hA.uq g1]
  exact ao_now hG k i
 ·change (mstep nn kk s.c s.er (nums n)).1 ≠ 0 at g2
  change MB w' pm nn kk (mstep nn kk s.c s.er (nums n)).2.1 (mstep nn kk s.c s.er (nums n)).2.2 at g4
  have hA' : AS w' pa pm s.L C 2097152 nv bm X D:=hA.move k.size fun b hb => k.block b (hA.fl hb) fun e => hpm (e ▸ hb)
  unfold put
  rw [if_neg (spot_no (hn g1)),if_neg g2]
  refine ⟨_,_,rfl,fun _ => g2,fun i h => (by cases h),F,⟨⟨C,nv,bm,X,D,hA',hpm,hF⟩,g4,?_,?_,h2,?_,?_,?_,fun b hb => Nat.lt_of_lt_of_le (hG.fl b hb) k.size⟩,fun b hb => .inl hb,but_butF k⟩
  all_goals
   rcases mstep_cases nn kk s.c s.er (nums n) with ⟨a1,a2⟩ | ⟨a1,r,a2,a3,a4⟩ | ⟨a1,a2,a3,a4⟩
  all_goals
   first
    | (rw [a2]; dsimp only; omega)
    | (rw [a3]; dsimp only; omega)
 change (mstep nn kk s.c s.er (nums n)).1 = 0 at g2
 change MB w' pm nn kk (mstep nn kk s.c s.er (nums n)).2.1 (mstep nn kk s.c s.er (nums n)).2.2 at g4
 unfold put
 rw [if_neg (spot_no (hn g1)),if_pos g2]
 have hpm' : ¬ FF pa bm nv' C' pm:=fun hf => (g6 pm hf).elim hpm fun h => absurd (hG.mb.lt) o_m
 refine ⟨_,_,rfl,fun h => (by cases h),fun i h => (by cases h; exact ⟨rfl,rfl⟩),FF pa bm nv' C',⟨⟨C',nv',bm,X',D',g5,hpm',fun _ hb => hb⟩,g4,?_,?_,h2,?_,?_,?_,fun b hb => g5.fl hb⟩,fun b hb => (g6 b hb).imp (hF b) id,g7.mono fun b hb => hb.imp id (hF b)⟩
 all_goals
  rcases mstep_cases nn kk s.c s.er (nums n) with ⟨a1,a2⟩ | ⟨a1,r,a2,a3,a4⟩ | ⟨a1,a2,a3,a4⟩
 all_goals
  first
   | (rw [a2] at g2; exact absurd g2 a1)
   | (rw [a3] at g2; exact absurd g2 a2)
   | (rw [a2]; dsimp only; simp only [List.length_append,List.length_cons,List.length_nil]; omega)
   | (rw [a2]; dsimp only; omega)

theorem atom_ao {w : World} {pa pm : Nat} {nn kk : Int} {s : St} {F : Nat→Prop} {kd : Int} {sd : Bool} {ad : Option Addr} {ld cd : Nat} {ap : Option Addr} {np cp : Nat} {sk : Bool} {ak : Option Addr} {lk ck : Nat} {d k : Int} {ps : List (Int × Int)} {B : Nat}
  (hG : AG w pa pm nn kk s F) (hd : Zm w sd ad ld cd d) (hld : ld≤B) (hP : Pr w ap np ps B) (hk : Zm w sk ak lk ck k) (hlk : lk≤B) (hn : np≤209716) (hB : B≤1048576) (htab : Tab w) :
  Calls Tryz.prog 11 #[.pointer (some ⟨pa,0,none⟩),.agg #[.int .i64 kd,.bool sd,.slice ad ld cd,.slice ap np cp,.bool sk,.slice ak lk ck]] w fun e w' => AO w w' e pa pm nn kk F (asked nn kk s (atomA kd d ps k)):=by
 obtain ⟨C,nv,bm,X,D,hA,hpm,hF⟩:=hG.ar
 have h1:=hG.cn
 have h2:=hG.n2
 have h3:=hG.ln
 refine (atom8_n hA hG.mb hpm hG.c0 hG.cn hG.n2 hG.e0 hG.e2 hd hld hP hk hlk hn hB o_m htab).mono ?_
 intro e w' h
 unfold AM at h
 unfold atomA
 cases hf : formA kd d (nz (lays [] ps)) k with
 | inr er =>
  rw [hf] at h
  obtain ⟨rfl,kb⟩:=h
  exact ao_not hG kb (by rcases formA_er hf with rfl | rfl <;> decide)
 | inl f =>
  rw [hf] at h
  exact md_ao hG hA hpm hF h

theorem join_ao {w : World} {pa pm : Nat} {nn kk : Int} {s : St} {F : Nat→Prop} {kd : Int} {ka : Option Addr} {kc : Nat} {l : List Int} (hkd : kd = 5 ∨ kd = 6)
  (hG : AG w pa pm nn kk s F) (hI : IL w ka l.length l) (hl : l.length≤1048576) (hi : ∀ x ∈ l,0≤x∧x < (s.L.length : Int)) (htab : Tab w) :
  Calls Tryz.prog 13 #[.pointer (some ⟨pa,0,none⟩),.int .i64 kd,.slice ka l.length kc] w fun e w' => AO w w' e pa pm nn kk F (asked nn kk s (joinA kd l)):=by
 obtain ⟨C,nv,bm,X,D,hA,hpm,hF⟩:=hG.ar
 have h1:=hG.cn
 have h2:=hG.n2
 have h3:=hG.ln
 refine (join8_n hA hG.mb hpm hG.c0 hG.cn hG.n2 hG.e0 hG.e2 hI hl o_m htab).mono ?_
 intro e w' h
 unfold JO at h
 rw [if_neg (fun h => h hkd),if_neg (by
  intro ha
  obtain ⟨x,hx,hx2⟩:=List.any_eq_true.1 ha
  have:=hi x hx
  unfold lck at hx2
  simp at hx2
  omega)] at h
 unfold joinA
 cases hr : ris l with
 | nil =>
  rw [hr] at h
  obtain ⟨rfl,kb⟩:=h
  exact ao_now hG kb _
 | cons x t =>
  cases t with
  | nil =>
   rw [hr] at h
   obtain ⟨rfl,kb⟩:=h
   exact ao_now hG kb _
  | cons y t =>
   rw [hr] at h
   exact md_ao hG hA hpm hF h

theorem bind_ao {w : World} {pa pm : Nat} {nn kk : Int} {s : St} {F : Nat→Prop} {kd v kid : Int} (hkd : kd = 7 ∨ kd = 8)
  (hG : AG w pa pm nn kk s F) (hv : I64 v) (hi : 0≤kid∧kid < (s.L.length : Int)) (htab : Tab w) :
  Calls Tryz.prog 15 #[.pointer (some ⟨pa,0,none⟩),.int .i64 kd,.int .i64 v,.int .i64 kid] w fun e w' => AO w w' e pa pm nn kk F (asked nn kk s (.inr ⟨kd,0,[],0,v,[kid]⟩)):=by
 obtain ⟨C,nv,bm,X,D,hA,hpm,hF⟩:=hG.ar
 have h1:=hG.cn
 have h2:=hG.n2
 have h3:=hG.ln
 refine (bind8_n hA hG.mb hpm hG.c0 hG.cn hG.n2 hG.e0 hG.e2 hv (by unfold I64; omega) o_m htab).mono ?_
 intro e w' h
 unfold BI at h
 rw [if_neg (fun h => h hkd),if_neg o_m] at h
 exact md_ao hG hA hpm hF h
theorem new_ag {w : World} (htab : Tab w) : Calls Tryz.prog 8 #[.pointer none] w fun e w' => ∃ pa pm F,e = .returned (.pointer (some ⟨pa,0,none⟩))∧AG w' pa pm 2000 8 st0 F∧(∀ b,F b→w.heap.size≤b)∧w.heap.size≤pm∧Below w.heap.size w w':=by
 refine (newN_n htab).mono ?_
 rintro e w' ⟨pm,pa,C,nv,bm,X,D,rfl,hA,hM,hpm,hF,hpw,k⟩
 exact ⟨pa,pm,FF pa bm nv C,rfl,⟨⟨C,nv,bm,X,D,hA,hpm,fun _ hb => hb⟩,hM,by decide,by decide,by decide,by decide,by decide,by decide,fun b hb => hA.fl hb⟩,hF,hpw,k⟩
theorem len_ag {w : World} {pa pm : Nat} {nn kk : Int} {s : St} {F : Nat→Prop} (hG : AG w pa pm nn kk s F) : Calls Tryz.prog 34 #[.pointer (some ⟨pa,0,none⟩)] w fun e w' => e = .returned (.int .i64 (s.L.length : Int))∧w' = w:=by
 obtain ⟨C,nv,bm,X,D,hA,hpm,hF⟩:=hG.ar
 exact len8_n hA
end Nt
namespace Nt

end Nt
namespace Nt

def insI : List Int→Int→List Int
 | [],n => [n]
 | x :: l,n => if x < n then x :: insI l n else if x = n then x :: l else n :: x :: l
theorem insI_mem : ∀ (l : List Int) (n x : Int),x ∈ insI l n ↔ x = n ∨ x ∈ l
 | [],n,x => by simp [insI]
 | y :: l,n,x => by
  unfold insI
  by_cases h1 : y < n
  ·rw [if_pos h1,List.mem_cons,insI_mem l n x,List.mem_cons]
   constructor
   ·rintro (h | h | h)
    ·exact .inr (.inl h)
    ·exact .inl h
    exact .inr (.inr h)
   rintro (h | h | h)
   ·exact .inr (.inl h)
   ·exact .inl h
   exact .inr (.inr h)
  rw [if_neg h1]
  by_cases h2 : y = n
  ·rw [if_pos h2,List.mem_cons]
   constructor
   ·exact fun h => .inr h
   rintro (h | h)
   ·exact .inl (h.trans h2.symm)
   exact h
  rw [if_neg h2,List.mem_cons]
theorem insI_rises : ∀ (l : List Int) (n : Int),l.Pairwise (· < ·)→(insI l n).Pairwise (· < ·)
 | [],n,_ => by simp [insI]
 | y :: l,n,h => by
  obtain ⟨h1,h2⟩:=List.pairwise_cons.1 h
  unfold insI
  by_cases h3 : y < n
  ·rw [if_pos h3]
   refine List.pairwise_cons.2 ⟨fun x hx => ?_,insI_rises l n h2⟩
   rcases (insI_mem l n x).1 hx with rfl | hx
   ·exact h3
   exact h1 x hx
  rw [if_neg h3]
  by_cases h4 : y = n
  ·rw [if_pos h4]
   exact h
  rw [if_neg h4]
  refine List.pairwise_cons.2 ⟨fun x hx => ?_,h⟩
  rcases List.mem_cons.1 hx with rfl | hx
  ·omega
  have:=h1 x hx
  omega
theorem rise_ext : ∀ (l k : List Int),l.Pairwise (· < ·)→k.Pairwise (· < ·)→(∀ x,x ∈ l ↔ x ∈ k)→l = k
 | [],[],_,_,_ => rfl
 | [],y :: k,_,_,h => absurd ((h y).2 (by simp)) (by simp)
 | x :: l,[],_,_,h => absurd ((h x).1 (by simp)) (by simp)
 | x :: l,y :: k,hl,hk,h => by
  obtain ⟨h1,h2⟩:=List.pairwise_cons.1 hl
  obtain ⟨h3,h4⟩:=List.pairwise_cons.1 hk
  have hxy : x = y:=by
   rcases List.mem_cons.1 ((h x).1 (by simp)) with e | e
   ·exact e
   rcases List.mem_cons.1 ((h y).2 (by simp)) with e2 | e2
   ·exact e2.symm
   have a1:=h3 x e
   have a2:=h1 y e2
   omega
  subst hxy
  rw [rise_ext l k h2 h4 fun z => ?_]
  constructor
  ·intro hz
   rcases List.mem_cons.1 ((h z).1 (by simp [hz])) with e | e
   ·have:=h1 z hz
    omega
   exact e
  intro hz
  rcases List.mem_cons.1 ((h z).2 (by simp [hz])) with e | e
  ·have:=h3 z hz
   omega
  exact e
theorem upto_has {d : Array Int} : ∀ m j,j < m→d[j]! ∈ Lib.compactUpTo d m
 | 0,j,h => absurd h o_m
 | m + 1,j,h => by
  rw [Lib.compactUpTo_succ]
  by_cases hj : j < m
  ·exact List.mem_append_left _ (upto_has m j hj)
  obtain rfl : j = m:=by omega
  by_cases hk : Lib.keeps d j = true
  ·rw [if_pos hk]
   simp
  have h4 : ¬ (j = 0 ∨ d[j]! ≠ d[j - 1]!):=fun e => hk (decide_eq_true e)
  have h5 : j ≠ 0:=fun e => h4 (.inl e)
  have h6 : d[j]! = d[j - 1]!:=Decidable.byContradiction fun e => h4 (.inr e)
  rw [h6]
  exact List.mem_append_left _ (upto_has j (j - 1) o_m)
theorem mem_ris (l : List Int) (x : Int) : x ∈ ris l ↔ x ∈ l:=by
 refine ⟨ris_mem,fun h => ?_⟩
 have h1 : x ∈ l.mergeSort fun x y => decide (x≤y):=List.mem_mergeSort.2 h
 obtain ⟨j,hj,rfl⟩:=List.mem_iff_getElem.1 h1
 have h2:=upto_has (d:=(l.mergeSort fun x y => decide (x≤y)).toArray) (l.mergeSort fun x y => decide (x≤y)).length j hj
 rw [getElem!_pos _ _ (by simpa using hj)] at h2
 simpa [ris,Lib.compact] using h2
theorem fold_mem : ∀ (l a : List Int) (x : Int),x ∈ l.foldl insI a ↔ x ∈ a ∨ x ∈ l
 | [],a,x => by simp
 | y :: l,a,x => by
  rw [List.foldl_cons,fold_mem l (insI a y) x,insI_mem,List.mem_cons]
  constructor
  ·rintro ((h | h) | h)
   ·exact .inr (.inl h)
   ·exact .inl h
   exact .inr (.inr h)
  rintro (h | h | h)
  ·exact .inl (.inr h)
  ·exact .inl (.inl h)
  exact .inr h
theorem fold_rises : ∀ (l a : List Int),a.Pairwise (· < ·)→(l.foldl insI a).Pairwise (· < ·)
 | [],_,h => h
 | y :: l,a,h => fold_rises l (insI a y) (insI_rises a y h)
theorem fold_ris (l : List Int) : l.foldl insI [] = ris l :=
 rise_ext _ _ (fold_rises l [] List.Pairwise.nil) (ris_rises l) fun x => by
  rw [fold_mem,mem_ris]
  simp
theorem insI_at : ∀ (l : List Int) (n : Int) (t : Nat),t≤l.length→(∀ j (h : j < l.length),j < t→l[j] < n)→(∀ h : t < l.length,n≤l[t])→insI l n = if l[t]? = some n then l else l.take t ++ n :: l.drop t
 | [],n,t,h,_,_ => by
  obtain rfl : t = 0:=by simpa using h
  simp [insI]
 | x :: l,n,0,_,_,h2 => by
  have h3:=h2 (by simp)
  unfold insI
  rw [if_neg (by simpa using h3)]
  by_cases h4 : x = n
  ·rw [if_pos h4,if_pos (by simp [h4])]
  rw [if_neg h4,if_neg (by simpa using h4)]
  rfl
 | x :: l,n,t + 1,h,h1,h2 => by
  have h3 : x < n:=h1 0 (by simp) o_m
  unfold insI
  rw [if_pos h3,insI_at l n t (by simpa using h) (fun j hj hjt => h1 (j + 1) (by simpa using hj) o_m) (fun ht => h2 (by simpa using ht))]
  rw [List.getElem?_cons_succ]
  split <;> simp
end Nt
namespace Nt

theorem AG.move {w w' : World} {pa pm : Nat} {nn kk : Int} {s : St} {F : Nat→Prop} (h : AG w pa pm nn kk s F) (hs : w.heap.size≤w'.heap.size) (hm : ∀ b,F b ∨ b = pm→w'.heap[b]? = w.heap[b]?) : AG w' pa pm nn kk s F:=by
 obtain ⟨⟨C,nv,bm,X,D,h1,h2,h3⟩,h4,h5,h6,h7,h8,h9,h10,h11⟩:=h
 exact ⟨⟨C,nv,bm,X,D,h1.move hs fun b hb => hm b (.inl (h3 b hb)),h2,h3⟩,(hm pm (.inr rfl)).trans h4,h5,h6,h7,h8,h9,h10,fun b hb => Nat.lt_of_lt_of_le (h11 b hb) hs⟩
end Nt
namespace Nt

end Nt
namespace Nt

theorem form_v3 : formA 2 0 (nz (lays [] [(3,1)])) 0 = .inl ⟨2,0,[(3,1)],0⟩:=by rfl
theorem put_made {nn kk : Int} {s : St} {n : Nd} (h : ∀ i : Nat,s.L[i]? ≠ some n) (he : s.er = 0) (hl : ((nums n).any fun z => decide (kk < (lim z : Int))) = false) (hc : 1≤nn - s.c) : put nn kk s n = (⟨s.L ++ [n],s.c + 1,0⟩,some (s.L.length : Int)):=by
 unfold put
 rw [if_neg (spot_no (fun ⟨i,hi⟩ => h i hi))]
 have h7 : mstep nn kk s.c s.er (nums n) = (0,s.c + 1,0):=by
  unfold mstep
  rw [if_neg (by simp [he]),if_neg (by rw [hl]; simp),if_neg o_m]
 rw [h7,if_pos rfl]
theorem lim_0 : lim 0 = 0:=by
 unfold lim
 rw [show (0 : Int).natAbs = 0 from rfl]
 rw [limbs_def]
 rfl
theorem lim_1 : lim 1 = 1:=by
 unfold lim
 rw [show (1 : Int).natAbs = 1 from rfl]
 rw [limbs_def]
 rw [dif_neg (by decide),show 1 / 4294967296 = 0 from rfl]
 rw [limbs_def]
 rfl
def nd1 : Nd:=⟨2,0,[(3,1)],0,0,[]⟩
def nd2 : Nd:=⟨7,0,[],0,3,[2]⟩
theorem not_in {L : List Nd} {n : Nd} (h : ∀ x ∈ L,x.kind ≠ n.kind) (i : Nat) : L[i]? ≠ some n:=fun hi => h n (List.mem_of_getElem? hi) rfl
theorem put_1 : put 2000 8 st0 nd1 = (⟨[cst 0,cst 1,nd1],1,0⟩,some 2):=by
 rw [put_made (not_in (by simp [st0,cst,nd1])) rfl (by simp [nums,nd1,lim_0,lim_1]) (by decide)]
 rfl
theorem put_2 : put 2000 8 ⟨[cst 0,cst 1,nd1],1,0⟩ nd2 = (⟨[cst 0,cst 1,nd1,nd2],2,0⟩,some 3):=by
 rw [put_made (not_in (by simp [cst,nd1,nd2])) rfl (by simp [nums,nd2,lim_0]) (by decide)]
 rfl

theorem awake8_n {w : World} (htab : Tab w) : Calls Tryz.prog 5 #[] w fun e w' => e = .returned (.bool true)∧Below w.heap.size w w':=by
 have ht0:=hide htab
 replace ht0:=ht0.out
 go_enter Tryz.func5,Tryz.ntmps5
 go_wp2_with fail
 refine (new_ag htab).mono ?_
 rintro e w1 ⟨pa,pm,F,rfl,hG,hF,hpw,k1⟩
 have ht1:=htab.below k1
 replace hG:=hide hG
 replace k1:=hide k1
 go_wp2_with fail
 refine (tvar_n (v:=3) (B:=2) (by unfold I64; decide) o_m).mono ?_
 rintro e w2 ⟨ad2,cp2,rs2,rfl,hT2,hr2⟩
 obtain ⟨hP2,hZ2,hl2⟩:=hT2.tw
 rw [hr2] at hP2
 have k2:=hT2.below
 replace hG:=hide (hG.out.below k2)
 have ht2:=ht1.below k2
 replace k1:=hide (grow_step k2 k1.out)
 clear hT2 k2 ht1
 go_wp2_with fail
 refine (atom_ao (B:=2) hG.out (zn_zero _).zm o_m hP2 hZ2 hl2 o_m o_m ht2).mono ?_
 rintro e w3 ⟨x3,e3,rfl, -,hx3,F3,hG3,hF3,hB3⟩
 have hput : asked 2000 8 st0 (atomA 2 0 [(3,1)] 0) = (⟨[cst 0,cst 1,nd1],1,0⟩,some 2):=by unfold atomA; rw [form_v3]; exact put_1
 rw [hput] at hx3 hG3
 clear hput
 obtain ⟨rfl,rfl⟩:=hx3 2 rfl
 have k3 : Hid (Below w.heap.size w w3):=hide (k1.out.trans (hB3.below (fun b hb => hb.elim (fun e => by omega) (hF b)) k1.out.size))
 replace hF3 : ∀ b,F3 b→w.heap.size≤b:=fun b hb => by
  rcases hF3 b hb with h | h
  ·exact hF b h
  exact Nat.le_trans k1.out.size h
 have kc:=below_alloc w3 (.cells #[.int .i64 2,.int .i64 2] 3)
 have hc0 : (w3.alloc (.cells #[.int .i64 2,.int .i64 2] 3)).heap[w3.heap.size]? = some (.cells #[.int .i64 2,.int .i64 2] 3 (0,0)):=heap_alloc_new w3 _
 have hI3 : Hid (IL (w3.alloc (.cells #[.int .i64 2,.int .i64 2] 3)) (some ⟨w3.heap.size,0,none⟩) ([2,2] : List Int).length [2,2]):=hide ⟨rfl,.inr ⟨w3.heap.size,0,rfl,by simp,fun i hi => by
  obtain rfl | rfl : i = 0 ∨ i = 1:=by simp at hi; omega
  ·exact ⟨cell_of_row _ w3.heap.size 0 _ _ (0,0) hc0,show I64 2 by unfold I64; decide⟩
  exact ⟨cell_of_row _ w3.heap.size 1 _ _ (0,0) hc0,show I64 2 by unfold I64; decide⟩⟩⟩
 replace hG3:=hide (hG3.below kc)
 have ht3:=hide (htab.below (grow_step kc k3.out))
 replace k3:=hide (grow_step kc k3.out)
 clear hx3 hB3 hG hP2 hZ2 hl2 ht2 hr2 hF k1 kc hc0 htab
 go_wp2_with fail
 generalize w3.alloc (.cells #[.int .i64 2,.int .i64 2] 3) = w4 at *
 refine (join_ao (kd:=5) (kc:=2) (l:=[2,2]) (.inl rfl) hG3.out hI3.out (by simp) (by simp) ht3.out).mono ?_
 rintro e w5 ⟨x5,e5,rfl, -,hx5,F5,hG5,hF5,hB5⟩
 have hj : asked 2000 8 ⟨[cst 0,cst 1,nd1],1,0⟩ (joinA 5 [2,2]) = (⟨[cst 0,cst 1,nd1],1,0⟩,some 2):=by unfold joinA; rw [ris_two]; rfl
 rw [hj] at hx5 hG5
 clear hj
 obtain ⟨rfl,rfl⟩:=hx5 2 rfl
 have k5 : Hid (Below w.heap.size w w5):=hide (k3.out.trans (hB5.below (fun b hb => hb.elim (fun e => by omega) (hF3 b)) k3.out.size))
 replace hF5 : ∀ b,F5 b→w.heap.size≤b:=fun b hb => by
  rcases hF5 b hb with h | h
  ·exact hF3 b h
  exact Nat.le_trans k3.out.size h
 have ht5:=hide (ht0.below k5.out)
 replace hG5:=hide hG5
 clear hx5 hB5 hG3 hI3 hF3 k3 ht3
 go_wp2_with fail
 refine (bind_ao (kd:=7) (v:=3) (kid:=2) (.inl rfl) hG5.out (by unfold I64; decide) (by simp) ht5.out).mono ?_
 rintro e w6 ⟨x6,e6,rfl, -,hx6,F6,hG6,hF6,hB6⟩
 have hj : asked 2000 8 ⟨[cst 0,cst 1,nd1],1,0⟩ (.inr ⟨7,0,[],0,3,[2]⟩) = (⟨[cst 0,cst 1,nd1,nd2],2,0⟩,some 3):=put_2
 rw [hj] at hx6 hG6
 clear hj
 obtain ⟨rfl,rfl⟩:=hx6 3 rfl
 have k6 : Hid (Below w.heap.size w w6):=hide (k5.out.trans (hB6.below (fun b hb => hb.elim (fun e => by omega) (hF5 b)) k5.out.size))
 have hlen:=hide (len_ag hG6)
 clear hx6 hB6 hG5 hF5 hF6 k5 ht5 hG6
 go_wp2_with (go_at_call 34; refine hlen.out.mono ?_; rintro e w7 ⟨rfl,rfl⟩)
 go_ret
 exact ⟨rfl,k6.out⟩
end Nt
namespace Nt

structure AX (w : World) (pa pm : Nat) (L : List Nd) (F : Nat→Prop) : Prop where
 ar : ∃ C nv bm X D,AS w pa pm L C 2097152 nv bm X D∧¬ FF pa bm nv C pm∧∀ b,FF pa bm nv C b→F b
 fl : ∀ b,F b→b < w.heap.size
theorem AG.ax {w : World} {pa pm : Nat} {nn kk : Int} {s : St} {F : Nat→Prop} (h : AG w pa pm nn kk s F) : AX w pa pm s.L F:=⟨h.ar,h.fl⟩
theorem AX.ag {w : World} {pa pm : Nat} {nn kk c er : Int} {L : List Nd} {F : Nat→Prop} (h : AX w pa pm L F) (hM : MB w pm nn kk c er) (h0 : 0≤c) (h1 : c≤nn) (h2 : nn≤2000) (h3 : 0≤er) (h4 : er < 256) (h5 : (L.length : Int)≤c + 2) : AG w pa pm nn kk ⟨L,c,er⟩ F:=⟨h.ar,hM,h0,h1,h2,h3,h4,h5,h.fl⟩
theorem AX.len {w : World} {pa pm : Nat} {L : List Nd} {F : Nat→Prop} (h : AX w pa pm L F) : Calls Tryz.prog 34 #[.pointer (some ⟨pa,0,none⟩)] w fun e w' => e = .returned (.int .i64 (L.length : Int))∧w' = w:=by
 obtain ⟨C,nv,bm,X,D,hA,hpm,hF⟩:=h.ar
 exact len8_n hA
theorem newM_ax {w : World} {pm : Nat} {nn kk c er : Int} (hM : MB w pm nn kk c er) (htab : Tab w) :
  Calls Tryz.prog 8 #[.pointer (some ⟨pm,0,none⟩)] w fun e w' => ∃ pa F,e = .returned (.pointer (some ⟨pa,0,none⟩))∧AX w' pa pm [cst 0,cst 1] F∧(∀ b,F b→w.heap.size≤b)∧Below w.heap.size w w':=by
 refine (newM_n hM htab).mono ?_
 rintro e w' ⟨pa,C,nv,bm,X,D,rfl,hA,hF,k⟩
 have hl:=hM.lt
 exact ⟨pa,FF pa bm nv C,rfl,⟨⟨C,nv,bm,X,D,hA,fun hf => by have:=hF pm hf; omega,fun _ hb => hb⟩,fun b hb => hA.fl hb⟩,hF,k⟩
theorem IL.but {w w' : World} {a : Option Addr} {n : Nat} {l : List Int} {G H : Nat→Prop} (h : IL w a n l) (hF : InF H a n) (k : ButF G w w') (hG : ∀ b,H b→b < w.heap.size→¬ G b) : IL w' a n l :=
 il_move h k.size fun b off e h0 => k.block b (il_lt h e h0) (hG b (hF b off e h0) (il_lt h e h0))
theorem meter8_n {w : World} {pa pm : Nat} {L : List Nd} {F : Nat→Prop} (h : AX w pa pm L F) : Calls Tryz.prog 21 #[.pointer (some ⟨pa,0,none⟩)] w fun e w' => e = .returned (.pointer (some ⟨pm,0,none⟩))∧w' = w:=by
 obtain ⟨C,nv,bm,X,D,hA, -, -⟩:=h.ar
 have u0 : w.cell? ⟨pa,0,none⟩ = some (.pointer (some ⟨pm,0,none⟩)):=cell_of_row _ pa 0 _ _ (0,0) hA.blk
 clear hA
 go_enter Tryz.func21,Tryz.ntmps21
 go_wp2
 go_ret
 exact ⟨rfl,rfl⟩
end Nt
namespace Nt

theorem flat_get : ∀ (X : List NR) (i j : Nat) (h : i < X.length),j < 8→(X.flatMap NR.enc)[i * 8 + j]? = (X[i].enc)[j]?
 | [],i,j,h,_ => absurd h (Nat.not_lt_zero _)
 | x :: X,0,j,_,hj => by
  rw [List.flatMap_cons,List.getElem?_append_left (by simp [NR.enc]; omega)]
  simp
 | x :: X,i + 1,j,h,hj => by
  rw [List.flatMap_cons,List.getElem?_append_right (by simp [NR.enc]; omega)]
  have h1:=flat_get X i j (by simpa using h) hj
  rw [show (i + 1) * 8 + j - x.enc.length = i * 8 + j by simp [NR.enc]; omega,h1]
  rfl
theorem AS.cell {w : World} {pa pm : Nat} {L : List Nd} {C : Nat→Prop} {B : Nat} {nv : Value} {bm : Nat} {X : List NR} {D : DataW Value} (h : AS w pa pm L C B nv bm X D) {i : Nat} (hi : i < L.length) :
  ∃ g cap,nv = .slice (some ⟨g,0,none⟩) L.length cap∧∀ j,j < 8→∀ (hX : i < X.length),w.cell? ⟨g,i * 8 + j,none⟩ = (X[i].enc)[j]?:=by
 rcases h.row.2 with ⟨_,h0⟩ | ⟨g,cap,cur,e1,_,e3,h1,h2,h3,h4⟩
 ·omega
 refine ⟨g,cap,e1,fun j hj hX => ?_⟩
 rw [cell_of_row w g (i * 8 + j) _ _ (0,0) e3,← flat_get X i j hX hj,← h4,List.getElem?_take,if_pos o_m]
 simp
def ND (w w' : World) (e : Ending) (n : Nd) : Prop :=
 ∃ sd ad ld cd ap np cp sk ak lk ck ka kn kc,e = .returned (.tuple #[.agg #[.int .i64 n.kind,.bool sd,.slice ad ld cd,.slice ap np cp,.bool sk,.slice ak lk ck,.int .i64 n.var,.slice ka kn kc],.bool true])∧Zn w' sd ad ld cd n.d∧Pn w' ap np n.ps 2097152∧Zn w' sk ak lk ck n.k∧IL w' ka kn n.kids∧New w.heap.size ka kn∧Below w.heap.size w w'

theorem node8_n {w : World} {pa pm : Nat} {L : List Nd} {F : Nat→Prop} (h : AX w pa pm L F) {i : Nat} (hi : i < L.length) (_hL : L.length≤1048576) : Calls Tryz.prog 27 #[.pointer (some ⟨pa,0,none⟩),.int .i64 (i : Int)] w fun e w' => ND w w' e L[i]:=by
 obtain ⟨C,nv,bm,X,D,hA, -, -⟩:=h.ar
 have hlk:=hide (lacks_n (hA.below (below_alloc w (.cells #[.int .i64 0,.bool false,.slice none 0 0,.slice none 0 0,.bool false,.slice none 0 0,.int .i64 0,.slice none 0 0] 65))) (i : Int))
 rw [decide_eq_false o_m] at hlk
 have hXi : i < X.length:=by have:=hA.len; omega
 obtain ⟨g,cap,rfl,hcell⟩:=hA.cell hi
 have hN:=hA.nodes i hi
 generalize L[i] = n at *
 have hc:=fun j hj => hcell j hj hXi
 generalize X[i] = x at *
 have e0:=hc 0 (by decide)
 have e1:=hc 1 (by decide)
 have e2:=hc 2 (by decide)
 have e3:=hc 3 (by decide)
 have e4:=hc 4 (by decide)
 have e5:=hc 5 (by decide)
 have e6:=hc 6 (by decide)
 have e7:=hc 7 (by decide)
 clear hc hcell
 simp only [NR.enc,List.getElem?_cons_zero,List.getElem?_cons_succ,Nat.add_zero] at e0 e1 e2 e3 e4 e5 e6 e7
 have u1 : w.cell? ⟨pa,1,none⟩ = some (.slice (some ⟨g,0,none⟩) L.length cap):=cell_of_row _ pa 1 _ _ (0,0) hA.blk
 have hgl : g < w.heap.size:=World.block_lt_of_cell? w _ e0
 have hpl:=hA.pal
 have b0:=below_alloc w (.cells #[.int .i64 0,.bool false,.slice none 0 0,.slice none 0 0,.bool false,.slice none 0 0,.int .i64 0,.slice none 0 0] 65)
 have y:=NB.new w 0 false none 0 0 none 0 0 false none 0 0 0 none 0 0
 go_enter Tryz.func27,Tryz.ntmps27
 go_wp2_with (go_at_call 42; refine hlk.out.mono ?_; rintro e w1 ⟨rfl,rfl⟩)
 have hsz : (w.alloc (.cells #[.int .i64 0,.bool false,.slice none 0 0,.slice none 0 0,.bool false,.slice none 0 0,.int .i64 0,.slice none 0 0] 65)).heap.size = w.heap.size + 1:=by simp
 refine (copied_n (hN.zd.below b0) hN.hld (hN.pn.pn.below b0) (hN.zk.below b0) hN.hlk (hN.kids.below b0) hN.hnp hN.hkn (Nat.le_refl _)).mono ?_
 rintro e w2 ⟨ad,cd,ap,cp,ak,ck,ka,kc,rfl,hz,hn1,hp,hk,hn2,hI,hn3,k2⟩
 have y2:=y.below k2
 replace k2:=hide (grow_step k2 b0)
 rw [hsz] at hn1 hp hn2 hn3
 have hkd:=hN.kd
 have hvr:=hN.vr
 clear hA hN hlk h b0 y hsz e0 e1 e2 e3 e4 e5 e6 e7 u1 hgl hpl
 generalize hpe : w.heap.size = p at *
 replace k2 : Hid (Below w.heap.size w w2):=hpe ▸ k2
 have g0:=y2.c0
 have f0:=y2.f 0
 have g1:=y2.c1
 have f1:=y2.f 1
 have g2:=y2.c2
 have f2:=y2.f 2
 have g3:=y2.c3
 have f3:=y2.f 3
 have g4:=y2.c4
 have f4:=y2.f 4
 have g5:=y2.c5
 have f5:=y2.f 5
 have g6:=y2.c6
 have f6:=y2.f 6
 have g7:=y2.c7
 have f7:=y2.f 7
 iterate 6 (first | go_skip | go_guarded | go_step | go_upon | go_simp)
 clear g0 g1 g2 g3 g4 g5 g6 g7 f0 f1 f2 f3 f4 f5 f6 f7
 have hfin:=hide (nb_fin y2 n.kind x.sd ad x.ld cd ap x.np cp x.sk ak x.lk ck n.var ka x.kn kc)
 have h8 : Hid (∀ b,b ≠ p→((((((((w2.setCell ⟨p,0,none⟩ (.int .i64 n.kind)).setCell ⟨p,1,none⟩ (.bool x.sd)).setCell ⟨p,2,none⟩ (.slice ad x.ld cd)).setCell ⟨p,3,none⟩ (.slice ap x.np cp)).setCell ⟨p,4,none⟩ (.bool x.sk)).setCell ⟨p,5,none⟩ (.slice ak x.lk ck)).setCell ⟨p,6,none⟩ (.int .i64 n.var)).setCell ⟨p,7,none⟩ (.slice ka x.kn kc)).heap[b]? = w2.heap[b]?):=hide fun b hb => heap_eight hb _ _ _ _ _ _ _ _
 have hs8 : Hid (w2.heap.size≤((((((((w2.setCell ⟨p,0,none⟩ (.int .i64 n.kind)).setCell ⟨p,1,none⟩ (.bool x.sd)).setCell ⟨p,2,none⟩ (.slice ad x.ld cd)).setCell ⟨p,3,none⟩ (.slice ap x.np cp)).setCell ⟨p,4,none⟩ (.bool x.sk)).setCell ⟨p,5,none⟩ (.slice ak x.lk ck)).setCell ⟨p,6,none⟩ (.int .i64 n.var)).setCell ⟨p,7,none⟩ (.slice ka x.kn kc)).heap.size):=hide (by simp)
 have kz : Hid (Below w.heap.size w ((((((((w2.setCell ⟨p,0,none⟩ (.int .i64 n.kind)).setCell ⟨p,1,none⟩ (.bool x.sd)).setCell ⟨p,2,none⟩ (.slice ad x.ld cd)).setCell ⟨p,3,none⟩ (.slice ap x.np cp)).setCell ⟨p,4,none⟩ (.bool x.sk)).setCell ⟨p,5,none⟩ (.slice ak x.lk ck)).setCell ⟨p,6,none⟩ (.int .i64 n.var)).setCell ⟨p,7,none⟩ (.slice ka x.kn kc))):=hide ((((((((k2.out.setCell (p:=⟨p,0,none⟩) (show w.heap.size≤p by omega) (.int .i64 n.kind)).setCell (p:=⟨p,1,none⟩) (show w.heap.size≤p by omega) (.bool x.sd)).setCell (p:=⟨p,2,none⟩) (show w.heap.size≤p by omega) (.slice ad x.ld cd)).setCell (p:=⟨p,3,none⟩) (show w.heap.size≤p by omega) (.slice ap x.np cp)).setCell (p:=⟨p,4,none⟩) (show w.heap.size≤p by omega) (.bool x.sk)).setCell (p:=⟨p,5,none⟩) (show w.heap.size≤p by omega) (.slice ak x.lk ck)).setCell (p:=⟨p,6,none⟩) (show w.heap.size≤p by omega) (.int .i64 n.var)).setCell (p:=⟨p,7,none⟩) (show w.heap.size≤p by omega) (.slice ka x.kn kc))
 generalize ((((((((w2.setCell ⟨p,0,none⟩ (.int .i64 n.kind)).setCell ⟨p,1,none⟩ (.bool x.sd)).setCell ⟨p,2,none⟩ (.slice ad x.ld cd)).setCell ⟨p,3,none⟩ (.slice ap x.np cp)).setCell ⟨p,4,none⟩ (.bool x.sk)).setCell ⟨p,5,none⟩ (.slice ak x.lk ck)).setCell ⟨p,6,none⟩ (.int .i64 n.var)).setCell ⟨p,7,none⟩ (.slice ka x.kn kc)) = w8 at *
 go_wp2
 refine bodyPost_ret (results_ct rfl _ _ p 65 _ (0,0) _ rfl hfin.out Tryz.underlying65 rfl k_f) rfl ?_
 refine ⟨x.sd,ad,x.ld,cd,ap,x.np,cp,x.sk,ak,x.lk,ck,ka,x.kn,kc,rfl,zn_move hz hs8.out fun b off e1 h0 => h8.out b (by have:=hn1 b off e1 h0; omega),?_,zn_move hk hs8.out fun b off e1 h0 => h8.out b (by have:=hn2 b off e1 h0; omega),il_move hI hs8.out fun b off e1 h0 => h8.out b (by have:=hn3 b off e1 h0; omega),fun b off e1 h0 => by have:=hn3 b off e1 h0; omega,kz.out⟩
 exact ((hp.move hs8.out fun b hb _ => h8.out b o_m).pnF).pn
end Nt
namespace Nt

end Nt
namespace Nt

theorem map_exact {w : World} {P : Program} {k : TypeId} {R : Value→Option (DataW Value × List MemPlace)} {b n : Nat} {D : DataW Value} (h : w.ownsMap P k R b n D) : w.ownsMap P k R b (Maps.size D) D:=by
 obtain ⟨es,clock,hb,F,hs,rfl⟩:=h
 refine ⟨es,clock,hb,F,?_,rfl⟩
 simp [Maps.size,Go.length_sorted]
def MapI (D : DataW Value) (L : List Nd) (n j : Nat) : Prop :=
 (∀ i (h : i < L.length) z,i < n ∨ n + j≤i→D.atKey (.string (txt L[i])) z = .lit (.int .i64 i))∧∀ t,(∀ i (h : i < L.length),i < n ∨ n + j≤i→txt L[i] ≠ t)→∀ z,D.atKey (.string t) z = z
theorem mapI_start {D : DataW Value} {L : List Nd} {n : Nat} (h : MapIs D L) : MapI D L n 0:=by
 refine ⟨fun i hi z _ => h.1 i hi z,fun t ht z => h.2 t (fun x hx e => ?_) z⟩
 obtain ⟨i,hi,rfl⟩:=List.getElem_of_mem hx
 exact ht i hi o_m e
theorem mapI_end {D : DataW Value} {L : List Nd} {n j : Nat} (h : MapI D L n j) (hn : n≤L.length) (hj : L.length≤n + j) : MapIs D (L.take n):=by
 refine ⟨fun i hi z => ?_,fun t ht z => h.2 t (fun i hi hor e => ?_) z⟩
 ·have hi2 : i < n:=by rw [List.length_take] at hi; omega
  rw [List.getElem_take]
  exact h.1 i o_m z (.inl hi2)
 have hi2 : i < n:=by omega
 refine ht L[i] ?_ e
 exact List.mem_take_iff_getElem.2 ⟨i,by omega,rfl⟩
theorem mapI_del {D : DataW Value} {L : List Nd} {n j : Nat} (h : MapI D L n j) (hU : Uq L) (hi : n + j < L.length) : MapI (D.del (.string (txt L[n + j]))) L n (j + 1):=by
 have hne : ∀ i (h : i < L.length),i ≠ n + j→txt L[i] ≠ txt L[n + j]:=fun i h hij e => by
  have e2:=txt_inj e
  exact hij (hU i (n + j) L[i] (List.getElem?_eq_getElem h) (by rw [e2]; exact List.getElem?_eq_getElem hi))
 refine ⟨fun i h9 z hor => ?_,fun t ht z => ?_⟩
 ·rw [Maps.atKey_del_other (fun e => hne i h9 o_m (Lit.string.inj e))]
  exact h.1 i h9 z o_m
 by_cases e : t = txt L[n + j]
 ·subst e
  exact Maps.atKey_del_same z
 rw [Maps.atKey_del_other (fun e2 => e (Lit.string.inj e2))]
 refine h.2 t (fun i h9 hor e3 => ?_) z
 by_cases hij : i = n + j
 ·subst hij
  exact e e3.symm
 exact ht i h9 o_m e3

theorem map_move {w w' : World} {P : Program} {k : TypeId} {R : Value→Option (DataW Value × List MemPlace)} {b n : Nat} {D : DataW Value} (h : w.ownsMap P k R b n D) (hb : w'.heap[b]? = w.heap[b]?) : w'.ownsMap P k R b n D:=by
 obtain ⟨es,clock,hb2,h2⟩:=h
 exact ⟨es,clock,hb.trans hb2,h2⟩
theorem turned_block {w w' : World} {b : Nat} (h : w.mapTurned w' b) : ButF (fun c => c = b) w w':=by
 obtain ⟨es,clock,es',clock',_,rfl⟩:=h
 refine ⟨rfl,rfl,rfl,by simp [ChangeMaps.setBlock],fun i _ hn => ?_⟩
 simp only [ChangeMaps.setBlock]
 rw [Array.getElem?_setIfInBounds_ne (fun e => hn e.symm)]
theorem cells_other (g : Nat) {b : Nat} (hb : b ≠ g) : ∀ (vs : List Value) (o : Nat) (w : World),(w.setCells g o vs).heap[b]? = w.heap[b]?
 | [],_,_ => rfl
 | v :: r,o,w => (cells_other g hb r (o + 1) (w.setCell ⟨g,o,none⟩ v)).trans (heap_setCell_other w ⟨g,o,none⟩ b v hb)
theorem cells_rest (g : Nat) : ∀ (vs : List Value) (o : Nat) (w : World),(w.setCells g o vs).os = w.os∧(w.setCells g o vs).tape = w.tape∧(w.setCells g o vs).output = w.output
 | [],_,_ => ⟨rfl,rfl,rfl⟩
 | v :: r,o,w => by
  obtain ⟨h1,h2,h3⟩:=cells_rest g r (o + 1) (w.setCell ⟨g,o,none⟩ v)
  have gs:=gb_set w g o v
  exact ⟨h1.trans gs.os,h2.trans gs.tape,h3.trans gs.output⟩
theorem cells_row (g : Nat) (t : TypeId) : ∀ (vs : List Value) (o : Nat) (w : World) (cur : Array Value),w.heap[g]? = some (.cells cur t (0,0))→∃ cur',(w.setCells g o vs).heap[g]? = some (.cells cur' t (0,0))∧cur'.size = cur.size∧cur'.toList.take o = cur.toList.take o
 | [],_,w,cur,h => ⟨cur,h,rfl,rfl⟩
 | v :: r,o,w,cur,h => by
  obtain ⟨cur',h1,h2,h3⟩:=cells_row g t r (o + 1) (w.setCell ⟨g,o,none⟩ v) _ (heap_setCell_same w g o cur t v h)
  refine ⟨cur',h1,h2.trans (by simp),?_⟩
  have h4:=congrArg (List.take o) h3
  rw [List.take_take,List.take_take,Nat.min_eq_left o_m] at h4
  rw [h4]
  apply List.ext_getElem?
  intro i
  rw [List.getElem?_take,List.getElem?_take]
  split
  ·have h5 : ¬ o = i:=by omega
   simp [h5]
  rfl
theorem flat_take : ∀ (X : List NR) (n : Nat),(X.take n).flatMap NR.enc = (X.flatMap NR.enc).take (n * 8)
 | [],n => by simp
 | x :: X,0 => by simp
 | x :: X,n + 1 => by
  rw [List.take_succ_cons,List.flatMap_cons,List.flatMap_cons,flat_take X n,List.take_append]
  have hl : x.enc.length = 8:=rfl
  rw [List.take_of_length_le (show x.enc.length≤(n + 1) * 8 by omega),hl,show (n + 1) * 8 - 8 = n * 8 by omega]
def zN : Value:=.agg #[.int .i64 0,.bool false,.slice none 0 0,.slice none 0 0,.bool false,.slice none 0 0,.int .i64 0,.slice none 0 0]
theorem zN_len (m : Nat) : (Builtin.zeroCells zN.cells m).toList.length = m * 8:=by
 simp [Builtin.zeroCells,zN,Value.cells]
theorem zN_one (m : Nat) : ∀ v ∈ (Builtin.zeroCells zN.cells m).toList,v.oneCell' = true:=by
 intro v hv
 simp only [Builtin.zeroCells,zN,Value.cells,Array.toList_map,List.mem_map] at hv
 obtain ⟨i,_,rfl⟩:=hv
 have h8 : i % 8 < 8:=Nat.mod_lt _ (by decide)
 change (#[Value.int .i64 0,.bool false,.slice none 0 0,.slice none 0 0,.bool false,.slice none 0 0,.int .i64 0,.slice none 0 0][i % 8]!).oneCell' = true
 generalize i % 8 = q at h8
 match q,h8 with
 | 0,_ => rfl
 | 1,_ => rfl
 | 2,_ => rfl
 | 3,_ => rfl
 | 4,_ => rfl
 | 5,_ => rfl
 | 6,_ => rfl
 | 7,_ => rfl
theorem store_nodes {w : World} {g o m : Nat} {cur : Array Value} (hg : w.heap[g]? = some (.cells cur 65 (0,0))) (hs : o + m * 8≤cur.size) :
  (storeCells ⟨g,o,none⟩ (Builtin.zeroCells zN.cells m).toList).run Tryz.prog w = .ok () (w.setCells g o (Builtin.zeroCells zN.cells m).toList):=by
 have hst:=run_storeCells_cells (P:=Tryz.prog) g o (Builtin.zeroCells zN.cells m).toList 0 w (fun j hj => by rw [zN_len] at hj; rw [cell_of_row w g _ _ _ (0,0) hg,Array.getElem?_eq_getElem o_m]; rfl) (fun j _ => frozen_of_row w g _ _ _ hg) (zN_one m)
 simpa only [Nat.add_zero] using hst
theorem clear_nodes {w : World} {g o k c : Nat} {cur : Array Value} (hg : w.heap[g]? = some (.cells cur 65 (0,0))) (hs : o + (k + 1) * 8≤cur.size) (ty : TypeId) :
  (Builtin.clear_ #[59] ty #[.slice (some ⟨g,o,none⟩) (k + 1) c]).run Tryz.prog w = .ok (.tuple #[]) (w.setCells g o (Builtin.zeroCells zN.cells (k + 1)).toList):=by
 have hst:=store_nodes hg hs
 simp only [zN] at hst ⊢
 simp [Builtin.clear_,run_underlying Tryz.underlying59,hst]
theorem clear_none (w : World) (g o c : Nat) (ty : TypeId) : (Builtin.clear_ #[59] ty #[.slice (some ⟨g,o,none⟩) 0 c]).run Tryz.prog w = .ok (.tuple #[]) w:=by
 simp [Builtin.clear_,run_underlying Tryz.underlying59]
def RL (w w' : World) (e : Ending) (pa pm : Nat) (L : List Nd) (C : Nat→Prop) (nv : Value) (bm : Nat) (X : List NR) (n : Nat) : Prop :=
 e = .returned (.int .i64 0)∧∃ nv' D',AS w' pa pm (L.take n) C 2097152 nv' bm (X.take n) D'∧nv'.ownBlock = nv.ownBlock∧ButF (fun b => b = pa ∨ b = bm ∨ nv.ownBlock = some b) w w'

theorem as_release {w wr wf : World} {pa pm : Nat} {L : List Nd} {C : Nat→Prop} {g cap bm : Nat} {X : List NR} {D Dj : DataW Value} {n : Nat} (hA : AS w pa pm L C 2097152 (.slice (some ⟨g,0,none⟩) L.length cap) bm X D) (hn : n≤L.length) (hbr : ButF (fun b => b = bm) w wr) (hmap : wr.ownsMap Tryz.prog 9 (plainElem Tryz.prog 3) bm n Dj) (his : MapIs Dj (L.take n))
  (hpa : wf.heap[pa]? = some (.cells #[.pointer (some ⟨pm,0,none⟩),.slice (some ⟨g,0,none⟩) n cap,.map (some bm)] 83 (0,0))) (hg : ∀ cur,wr.heap[g]? = some (.cells cur 65 (0,0))→∃ cur',wf.heap[g]? = some (.cells cur' 65 (0,0))∧cur'.size = cur.size∧cur'.toList.take (n * 8) = cur.toList.take (n * 8))
  (ho : ∀ b,b ≠ pa→b ≠ g→wf.heap[b]? = wr.heap[b]?) (hs : wf.heap.size = wr.heap.size) (hr : wf.os = wr.os∧wf.tape = wr.tape∧wf.output = wr.output) : RL w wf (.returned (.int .i64 0)) pa pm L C (.slice (some ⟨g,0,none⟩) L.length cap) bm X n:=by
 have hgb : g ≠ bm:=fun e => hA.bv (by rw [e]; rfl)
 have hgp : g ≠ pa:=fun e => hA.av (by rw [e]; rfl)
 have hgl : g < w.heap.size:=hA.fl (.inr (.inr (.inl rfl)))
 have hLn : (L.take n).length = n:=by rw [List.length_take]; omega
 have hXl:=hA.len
 refine ⟨rfl,_,Dj,⟨hpa,by rw [List.length_take,List.length_take]; omega,?_,fun i hi => ?_,?_,his,fun b hb => Nat.lt_of_lt_of_le (hA.cl b hb) (by rw [hs]; exact hbr.size),hA.ca,hA.cm,fun g' e => hA.cv g' e⟩,rfl,⟨hr.1.trans hbr.os,hr.2.1.trans hbr.tape,hr.2.2.trans hbr.output,by rw [hs]; exact hbr.size,fun b hb hnb => ?_⟩⟩
 ·rcases hA.row with ⟨h1,h2⟩
  rcases h2 with ⟨e9,_⟩ | ⟨g9,cap9,cur,e9,e1,e2,e3,e4,e5,e6⟩
  ·cases e9
  cases e9
  obtain ⟨cur',f1,f2,f3⟩:=hg cur ((hbr.block g hgl hgb).trans e2)
  rw [hLn]
  refine ⟨?_,.inr ⟨g,cap,cur',rfl,e1,f1,by omega,e4,by rw [f2]; exact e5,?_⟩⟩
  ·rw [flat_take,List.length_take]
   omega
  rw [f3,flat_take,← e6,List.take_take,Nat.min_eq_left o_m]
 ·have hi2 : i < L.length:=by omega
  simp only [List.getElem_take]
  refine (hA.nodes i hi2).move (by rw [hs]; exact hbr.size) (fun b hb hl => ?_) fun _ h _ => h
  rw [ho b (fun e => hA.ca (e ▸ hb)) (fun e => hA.cv g rfl (e ▸ hb))]
  exact hbr.block b hl fun e => hA.cm (e ▸ hb)
 ·rw [hLn]
  exact map_move hmap (ho bm (fun e => hA.ab e.symm) fun e => hgb e.symm)
 rw [ho b (fun e => hnb (.inl e)) (fun e => hnb (.inr (.inr (by rw [e]; rfl))))]
 exact hbr.block b hb fun e => hnb (.inr (.inl e))

theorem release8_n {w : World} {pa pm : Nat} {L : List Nd} {C : Nat→Prop} {nv : Value} {bm : Nat} {X : List NR} {D : DataW Value} {n : Nat} (hA : AS w pa pm L C 2097152 nv bm X D) (hn2 : 2≤n) (hn : n≤L.length) (hL : L.length≤1048576) (htab : ∀ w',ButF (fun b => b = pa ∨ b = bm ∨ nv.ownBlock = some b) w w'→Tab w') :
  Calls Tryz.prog 17 #[.pointer (some ⟨pa,0,none⟩),.int .i64 (n : Int)] w fun e w' => RL w w' e pa pm L C nv bm X n:=by
 have hln:=hide (len8_n hA)
 obtain ⟨g,cap,rfl, -⟩:=hA.cell (i:=0) o_m
 have u1 : w.cell? ⟨pa,1,none⟩ = some (.slice (some ⟨g,0,none⟩) L.length cap):=cell_of_row _ pa 1 _ _ (0,0) hA.blk
 have hgb : g ≠ bm:=fun e => hA.bv (by rw [e]; rfl)
 have hgl : g < w.heap.size:=hA.fl (.inr (.inr (.inl rfl)))
 have hpa:=hA.pal
 have hpb:=hA.ab
 have hlc : L.length≤cap:=by
  rcases hA.row.2 with ⟨e9,_⟩ | ⟨g9,cap9,cur9,e9,_,_,h9,_⟩
  ·cases e9
  cases e9
  exact h9
 by_cases hLn : L.length = n
 ·subst hLn
  have hb1:=frozen_of_row _ pa 1 _ _ hA.blk
  have hfin : Hid (RL w (w.setCell ⟨pa,1,none⟩ (.slice (some ⟨g,0,none⟩) L.length cap)) (.returned (.int .i64 0)) pa pm L C (.slice (some ⟨g,0,none⟩) L.length cap) bm X L.length):=hide (as_release hA hn (butF_below (Below.refl _ _)) hA.map (mapI_end (mapI_start (n:=L.length) hA.is) hn o_m) (heap_setCell_same _ pa 1 _ _ _ hA.blk) (fun cur2 h2 => ⟨cur2,(heap_setCell_other _ _ g _ (fun e => hA.av (by rw [show g = pa from e]; rfl))).trans h2,rfl,rfl⟩) (fun b h8 _ => heap_setCell_other _ _ b _ h8) (by simp) (by
   have gs:=gb_set w pa 1 (.slice (some ⟨g,0,none⟩) L.length cap)
   exact ⟨gs.os,gs.tape,gs.output⟩))
  have hd1 : decide ((L.length : Int) < 2) = false:=by simp; omega
  clear hA htab
  go_enter Tryz.func17,Tryz.ntmps17
  go_wp2_with (go_at_call 34; refine hln.out.mono ?_; rintro e w1 ⟨rfl,rfl⟩)
  all_goals
   (try subst h)
   clear hln
   go_loopw [24] (fun i wr => i = .int .i64 0∧wr = w1) (fun _ _ => 0)
   case atStart => exact ⟨rfl,rfl⟩
   case round =>
    obtain ⟨rfl,rfl⟩:=hrel
    have hcl:=clear_none wr
    go_wp2
    go_ret
    exact hfin.out
 have hcn : ¬ cap = n:=by omega
 go_enter Tryz.func17,Tryz.ntmps17
 go_wp2_with (go_at_call 34; refine hln.out.mono ?_; rintro e w1 ⟨rfl,rfl⟩)
 have hd1 : decide ((n : Int) < 2) = false:=by simp; omega
 have hd2 : decide (L.length < n) = false:=by simp; omega
 simp only [hd1,hd2,Bool.or_self]
 have hmap0:=hide hA.map
 have hmi0:=hide (mapI_start (n:=n) hA.is)
 replace hA:=hide hA
 go_loopw [24] (fun i wr => ∃ (j : Nat) (Dj : DataW Value),j≤L.length - n∧i = .int .i64 j∧Hid (ButF (fun b => b = bm) w1 wr)∧Hid (wr.ownsMap Tryz.prog 9 (plainElem Tryz.prog 3) bm (L.length - j) Dj)∧Hid (MapI Dj L n j)) (fun i _ => L.length - n - (intOf i).toNat)
 case atStart => exact ⟨0,D,Nat.zero_le _,rfl,hide (butF_below (Below.refl _ _)),hmap0,hmi0⟩
 case round =>
  obtain ⟨j,Dj,hj,rfl,hbr,hmap,hmi⟩:=hrel
  by_cases hjn : j < L.length - n
  ·have hi : n + j < L.length:=by omega
   obtain ⟨g2,cap2,e2,hcell⟩:=hA.out.cell hi
   cases e2
   have hXi : n + j < X.length:=by have:=hA.out.len; omega
   have hN:=(hA.out.nodes (n + j) hi).move (G:=C) hbr.out.size (fun b hb hl => hbr.out.block b hl fun e => hA.out.cm (e ▸ hb)) fun _ h _ => h
   have hgr : ∀ o,wr.cell? ⟨g,o,none⟩ = w1.cell? ⟨g,o,none⟩:=fun o => World.cell?_of_block (a:=⟨g,o,none⟩) (hbr.out.block g hgl hgb)
   have hdel:=mapI_del hmi.out hA.out.uq hi
   have hat0:=fun z => hmi.out.1 (n + j) hi z (.inr (Nat.le_refl _))
   have hhas:=Maps.has_true_of_atKey hat0
   have hc:=fun c (hc8 : c < 8) => (hgr ((n + j) * 8 + c)).trans (hcell c hc8 hXi)
   generalize L[n + j] = nd at *
   generalize X[n + j] = x at *
   have e0:=hc 0 (by decide)
   have e1:=hc 1 (by decide)
   have e2:=hc 2 (by decide)
   have e3:=hc 3 (by decide)
   have e4:=hc 4 (by decide)
   have e5:=hc 5 (by decide)
   have e6:=hc 6 (by decide)
   have e7:=hc 7 (by decide)
   clear hc hcell hgr hat0
   simp only [NR.enc,List.getElem?_cons_zero,List.getElem?_cons_succ,Nat.add_zero,Nat.add_mul] at e0 e1 e2 e3 e4 e5 e6 e7
   have hkd:=hN.kd
   have hvr:=hN.vr
   rw [hkd] at e0
   rw [hvr] at e6
   have q2 : wr.cell? ⟨pa,2,none⟩ = some (.map (some bm)):=cell_of_row _ pa 2 _ _ (0,0) ((hbr.out.block pa hpa hpb).trans hA.out.blk)
   have hpr : pa < wr.heap.size:=Nat.lt_of_lt_of_le hpa hbr.out.size
   have hbmr : bm < wr.heap.size:=hmap.out.lt
   have htr : Tab wr:=htab wr (hbr.out.mono fun b h => .inr (.inl h))
   clear hkd hvr
   go_wp2_with fail
   clear e0 e1 e2 e3 e4 e5 e6 e7
   have b9:=below_alloc wr (.cells #[.int .i64 nd.kind,.bool x.sd,.slice x.ad x.ld x.cd,.slice x.ap x.np x.cp,.bool x.sk,.slice x.ak x.lk x.ck,.int .i64 nd.var,.slice x.ka x.kn x.kc] 65)
   have y:=NB.new wr nd.kind x.sd x.ad x.ld x.cd x.ap x.np x.cp x.sk x.ak x.lk x.ck nd.var x.ka x.kn x.kc
   have hpr2 : pa < wr.heap.size:=hpr
   have kb : Hid (Below wr.heap.size wr (wr.alloc (.cells #[.int .i64 nd.kind,.bool x.sd,.slice x.ad x.ld x.cd,.slice x.ap x.np x.cp,.bool x.sk,.slice x.ak x.lk x.ck,.int .i64 nd.var,.slice x.ka x.kn x.kc] 65))):=hide b9
   generalize wr.alloc (.cells #[.int .i64 nd.kind,.bool x.sd,.slice x.ad x.ld x.cd,.slice x.ap x.np x.cp,.bool x.sk,.slice x.ak x.lk x.ck,.int .i64 nd.var,.slice x.ka x.kn x.kc] 65) = w2 at *
   have kD : Below wr.heap.size wr w2.drew:=grow_drew kb.out
   have y2 : NB w2.drew wr.heap.size nd.kind x.sd x.ad x.ld x.cd x.ap x.np x.cp x.sk x.ak x.lk x.ck nd.var x.ka x.kn x.kc:=y.below (grow_drew (Below.refl _ _))
   have q22:=(kD.cell (p:=⟨pa,2,none⟩) hpr).trans q2
   clear b9
   generalize hpe : wr.heap.size = p at *
   refine wp_region_held_drew (S:=(fun w' => w'.cell? ⟨p,0,none⟩ = some (.int .i64 nd.kind)∧w'.cell? ⟨p,1,none⟩ = some (.bool x.sd)∧w'.cell? ⟨p,2,none⟩ = some (.slice x.ad x.ld x.cd)∧w'.cell? ⟨p,3,none⟩ = some (.slice x.ap x.np x.cp)∧w'.cell? ⟨p,4,none⟩ = some (.bool x.sk)∧w'.cell? ⟨p,5,none⟩ = some (.slice x.ak x.lk x.ck)∧w'.cell? ⟨p,6,none⟩ = some (.int .i64 nd.var)∧w'.cell? ⟨p,7,none⟩ = some (.slice x.ka x.kn x.kc)∧w'.cell? ⟨pa,2,none⟩ = some (.map (some bm)))) k_f (⟨y2.c0,y2.c1,y2.c2,y2.c3,y2.c4,y2.c5,y2.c6,y2.c7,q22⟩) (fun hHeld => ?_)
   show wpAnyH _ _ _ _ _ 7 _ _ _
   refine tkz 0 28 ?_
   (try simp only [pz])
   refine tkz 1 29 ?_
   (try simp only [pz])
   refine tkz 2 30 ?_
   (try simp only [pz])
   refine tkz 3 31 ?_
   (try simp only [pz])
   refine tkz 4 32 ?_
   (try simp only [pz])
   refine ryz 5 (some 33) (fun K hK => ?_) AllReadyH.nil
   go_simp
   have hN2:=hN.move (G:=C) (w':=w2.drew) (hpe ▸ kD.size) (fun b hb hl => kD.block b (hpe ▸ hl)) fun _ h _ => h
   refine Calls.mono (text_n hN2.zd hN2.hld hN2.pn.pn hN2.zk hN2.hlk hN2.kids hN2.ikd hN2.ivr hN2.hnp hN2.hkn (Nat.le_refl _) (htr.below (hpe ▸ kD))) ?_
   rintro e w3 ⟨rfl,k3⟩
   have htl:=txt_length hN2.zd hN2.hld hN2.pn.pn hN2.zk hN2.hlk hN2.kids hN2.ikd hN2.ivr hN2.hnp hN2.hkn (Nat.le_refl _)
   have y3:=y2.below k3
   have k23 : Below p wr w3:=hpe ▸ grow_step k3 (hpe ▸ kD)
   have q23:=(k23.cell (p:=⟨pa,2,none⟩) (hpe ▸ hpr)).trans q2
   (try go_wp2_with fail)
   refine hK.out _ _ ?_ ?_
   ·(try dsimp only); exact ⟨y3.c0,y3.c1,y3.c2,y3.c3,y3.c4,y3.c5,y3.c6,y3.c7,q23⟩
   clear hK K hHeld; intro hHeld
   (try simp only [pz])
   refine ryz 6 none (fun K hK => ?_) AllReadyH.nil
   have hkey:=WideMaps.keyOf_string_mk (P:=Tryz.prog) (k:=9) (s:=⟨(txt nd).toArray⟩) Tryz.underlying9 (by rw [size_list]; exact htl)
   have hm3 : w3.ownsMap Tryz.prog 9 (plainElem Tryz.prog 3) bm (L.length - j) Dj:=map_move hmap.out (k23.block bm (hpe ▸ hbmr))
   obtain ⟨w4,hrun,hm4,ht4⟩:=hm3.drop ks Tryz.underlying81 hkey 0
   have hb4:=turned_block ht4
   have y4 : NB w4 p nd.kind x.sd x.ad x.ld x.cd x.ap x.np x.cp x.sk x.ak x.lk x.ck nd.var x.ka x.kn x.kc:=(hb4.block p y3.lt o_m).trans y3
   have q24:=(World.cell?_of_block (a:=⟨pa,2,none⟩) (hb4.block pa (Nat.lt_of_lt_of_le (hpe ▸ hpr) (hpe ▸ k23.size)) hpb)).trans q23
   have hsz : Maps.size (Dj.del (.string (txt nd))) + 1 = Maps.size Dj:=by
    have h9:=Maps.size_del (k:=.string (txt nd)) (hm3.tidy ks)
    rw [hhas] at h9
    simpa using h9
   have hm5 : Hid (w4.ownsMap Tryz.prog 9 (plainElem Tryz.prog 3) bm (L.length - (j + 1)) (Dj.del (.string (txt nd)))):=hide ((map_exact hm4).mono (by have h9:=hm3.size_le; change Maps.size (Dj.del (.string (txt nd)))≤_; omega))
   have hbw : Hid (ButF (fun b => b = bm) w1 w4):=hide (ButF.trans (ButF.trans hbr.out (butF_below (hpe ▸ k23)) fun _ _ h => h) hb4 fun _ _ h => h)
   clear hm4 ht4 hb4 hm3
   go_simp
   refine hK.out _ _ ?_ ?_
   ·(try dsimp only); exact ⟨y4.c0,y4.c1,y4.c2,y4.c3,y4.c4,y4.c5,y4.c6,y4.c7,q24⟩
   clear hK K hHeld; intro hHeld
   (try simp only [pz])
   refine wpAnyH_done k_f ?_ _
   replace hdel:=hide hdel
   clear hHeld y4 y3 y2 y q2 q22 q23 q24 hN hN2 htr hmap hmi hhas hsz hkey htl k3 k23 kD kb hrun
   go_wp2
   exact ⟨⟨j + 1,_,by omega,by go_num,hbw,hm5,hdel⟩,by simp [intOf]; omega⟩
  obtain rfl : j = L.length - n:=by omega
  have hgr : g < wr.heap.size:=Nat.lt_of_lt_of_le hgl hbr.out.size
  obtain ⟨cur,hcur,hcsz⟩ : ∃ cur,wr.heap[g]? = some (.cells cur 65 (0,0))∧cur.size = cap * 8:=by
   rcases hA.out.row.2 with ⟨e9,_⟩ | ⟨g9,cap9,cur,e9,_,e2,_,_,e5,_⟩
   ·cases e9
   cases e9
   exact ⟨cur,(hbr.out.block g hgl hgb).trans e2,e5⟩
  have hblk : wr.heap[pa]? = some (.cells #[.pointer (some ⟨pm,0,none⟩),.slice (some ⟨g,0,none⟩) L.length cap,.map (some bm)] 83 (0,0)):=(hbr.out.block pa hpa hpb).trans hA.out.blk
  have hgp : pa ≠ g:=fun e => hA.out.av (by rw [← e]; rfl)
  have hb5 : (wr.setCells g (n * 8) (Builtin.zeroCells zN.cells (L.length - n)).toList).heap[pa]? = some (.cells #[.pointer (some ⟨pm,0,none⟩),.slice (some ⟨g,0,none⟩) L.length cap,.map (some bm)] 83 (0,0)):=(cells_other g hgp _ _ _).trans hblk
  have v1:=cell_of_row _ pa 1 _ _ (0,0) hb5
  have f1:=frozen_of_row _ pa 1 _ _ hb5
  have hfin : Hid (RL w1 ((wr.setCells g (n * 8) (Builtin.zeroCells zN.cells (L.length - n)).toList).setCell ⟨pa,1,none⟩ (.slice (some ⟨g,0,none⟩) n cap)) (.returned (.int .i64 0)) pa pm L C (.slice (some ⟨g,0,none⟩) L.length cap) bm X n):=hide (as_release hA.out hn hbr.out (by have h9:=hmap.out; rwa [show L.length - (L.length - n) = n by omega] at h9) (mapI_end hmi.out hn o_m) (heap_setCell_same _ pa 1 _ _ _ hb5) (fun cur2 h2 => by
   obtain ⟨cur',c1,c2,c3⟩:=cells_row g _ (Builtin.zeroCells zN.cells (L.length - n)).toList (n * 8) wr cur2 h2
   exact ⟨cur',(heap_setCell_other _ _ g _ (fun e => hgp e.symm)).trans c1,c2,c3⟩) (fun b h8 h9 => (heap_setCell_other _ _ b _ h8).trans (cells_other g h9 _ _ _)) (by simp) (by
   obtain ⟨r1,r2,r3⟩:=cells_rest g (Builtin.zeroCells zN.cells (L.length - n)).toList (n * 8) wr
   have gs:=gb_set (wr.setCells g (n * 8) (Builtin.zeroCells zN.cells (L.length - n)).toList) pa 1 (.slice (some ⟨g,0,none⟩) n cap)
   exact ⟨gs.os.trans r1,gs.tape.trans r2,gs.output.trans r3⟩))
  obtain ⟨k,hk⟩ : ∃ k,L.length - n = k + 1:=⟨L.length - n - 1,by omega⟩
  have hcl:=fun ty => clear_nodes (c:=cap - n) (k:=k) (o:=n * 8) hcur o_m ty
  clear hA hbr hmap hmi hb5 hblk hcur hmap0 hmi0 hln
  rw [hk] at v1 f1 hfin ⊢
  generalize wr.setCells g (n * 8) (Builtin.zeroCells zN.cells (k + 1)).toList = w5 at *
  go_wp2
  go_ret
  exact hfin.out
end Nt
namespace Nt

theorem release_ag {w : World} {pa pm : Nat} {nn kk : Int} {s : St} {F : Nat→Prop} {n : Nat} (hG : AG w pa pm nn kk s F) (hn2 : 2≤n) (hn : n≤s.L.length) (htab : ∀ w',ButF F w w'→Tab w') :
  Calls Tryz.prog 17 #[.pointer (some ⟨pa,0,none⟩),.int .i64 (n : Int)] w fun e w' => e = .returned (.int .i64 0)∧AG w' pa pm nn kk ⟨s.L.take n,s.c,s.er⟩ F∧ButF F w w':=by
 obtain ⟨C,nv,bm,X,D,hA,hpm,hF⟩:=hG.ar
 have h1:=hG.cn
 have h2:=hG.n2
 have h3:=hG.ln
 have hsub : ∀ b,(b = pa ∨ b = bm ∨ nv.ownBlock = some b)→F b:=fun b hb => hF b (by
  rcases hb with hb | hb | hb
  ·exact .inl hb
  ·exact .inr (.inl hb)
  exact .inr (.inr (.inl hb)))
 refine (release8_n hA hn2 hn o_m fun w' h => htab w' (h.mono hsub)).mono ?_
 rintro e w' ⟨rfl,nv',D',hA',hob,hB⟩
 have hFF : ∀ b,FF pa bm nv' C b→FF pa bm nv C b:=fun b hb => by
  rcases hb with hb | hb | hb | hb
  ·exact .inl hb
  ·exact .inr (.inl hb)
  ·exact .inr (.inr (.inl (hob ▸ hb)))
  exact .inr (.inr (.inr hb))
 have hml : pm < w.heap.size:=hG.mb.lt
 have hmb : MB w' pm nn kk s.c s.er:=(hB.block pm hml fun hb => hpm (by
  rcases hb with hb | hb | hb
  ·exact .inl hb
  ·exact .inr (.inl hb)
  exact .inr (.inr (.inl hb)))).trans hG.mb
 exact ⟨rfl,⟨⟨C,nv',bm,X.take n,D',hA',fun hf => hpm (hFF pm hf),fun b hb => hF b (hFF b hb)⟩,hmb,hG.c0,hG.cn,hG.n2,hG.e0,hG.e2,by show ((s.L.take n).length : Int)≤s.c + 2; rw [List.length_take]; omega,fun b hb => Nat.lt_of_lt_of_le (hG.fl b hb) hB.size⟩,hB.mono hsub⟩

open Classical in
def putE (nn kk : Int) (s : St) (n : Nd) : St × Int × Int :=
 if spot s.L n < s.L.length then (s,(spot s.L n : Int),0)
 else if (mstep nn kk s.c s.er (nums n)).1 = 0 then (⟨s.L ++ [n],(mstep nn kk s.c s.er (nums n)).2.1,(mstep nn kk s.c s.er (nums n)).2.2⟩,(s.L.length : Int),0)
 else (⟨s.L,(mstep nn kk s.c s.er (nums n)).2.1,(mstep nn kk s.c s.er (nums n)).2.2⟩,0,(mstep nn kk s.c s.er (nums n)).1)
theorem putE_found {nn kk : Int} {F : St} {n : Nd} {i : Nat} (hU : Uq F.L) (h : F.L[i]? = some n) : putE nn kk F n = (F,(i : Int),0):=by
 have h9 : ∃ i : Nat,F.L[i]? = some n:=⟨i,h⟩
 unfold putE
 rw [if_pos (spot_at h9).1,hU _ i n (spot_at h9).2 h]
def actA (nn kk : Int) (s : St) (kd d : Int) (ps : List (Int × Int)) (k : Int) : St × Int × Int:=match formA kd d (nz (lays [] ps)) k with
 | .inr e => (s,0,e)
 | .inl f => putE nn kk s ⟨f.kind,f.d,f.ps,f.k,0,[]⟩
def actJ (nn kk : Int) (s : St) (kd : Int) (l : List Int) : St × Int × Int :=
 if ¬ (kd = 5 ∨ kd = 6) then (s,0,1) else if l.any (lck s.L.length) = true then (s,0,80) else match ris l with
  | [] => (s,if kd = 5 then 1 else 0,0)
  | [x] => (s,x,0)
  | x :: y :: t => putE nn kk s ⟨kd,0,[],0,0,x :: y :: t⟩
def actB (nn kk : Int) (s : St) (kd v kid : Int) : St × Int × Int :=
 if ¬ (kd = 7 ∨ kd = 8) then (s,0,1) else if kid < 0 ∨ (s.L.length : Int)≤kid then (s,0,80) else putE nn kk s ⟨kd,0,[],0,v,[kid]⟩
def actR (s : St) (n : Int) : St × Int:=if n < 2 ∨ (s.L.length : Int) < n then (s,1) else (⟨s.L.take n.toNat,s.c,s.er⟩,0)
def AO2 (w w' : World) (e : Ending) (pa pm : Nat) (nn kk : Int) (F : Nat→Prop) (r : St × Int × Int) : Prop :=
 e = .returned (.tuple #[.int .i64 r.2.1,.int .i64 r.2.2])∧∃ F',AG w' pa pm nn kk r.1 F'∧(∀ b,F' b→F b ∨ w.heap.size≤b)∧ButF (fun b => b = pm ∨ F b) w w'
theorem ao2_now {w w' : World} {pa pm : Nat} {nn kk : Int} {s : St} {F : Nat→Prop} (hG : AG w pa pm nn kk s F) (k : Below w.heap.size w w') (i er : Int) : AO2 w w' (.returned (.tuple #[.int .i64 i,.int .i64 er])) pa pm nn kk F (s,i,er) :=
 ⟨rfl,F,hG.below k,fun _ h => .inl h,butF_below k⟩
theorem md_ao2 {w w' : World} {e : Ending} {pa pm : Nat} {nn kk : Int} {s : St} {F C : Nat→Prop} {nv : Value} {bm : Nat} {X : List NR} {D : DataW Value} {n : Nd} (hG : AG w pa pm nn kk s F) (hA : AS w pa pm s.L C 2097152 nv bm X D) (hpm : ¬ FF pa bm nv C pm) (hF : ∀ b,FF pa bm nv C b→F b) (h : MD w w' e pa pm s.L C 2097152 nv bm nn kk s.c s.er n) : AO2 w w' e pa pm nn kk F (putE nn kk s n):=by
 have hn : n ∉ s.L→¬ ∃ i : Nat,s.L[i]? = some n:=fun h ⟨i,hi⟩ => h (List.mem_of_getElem? hi)
 have h0:=hG.c0
 have h1:=hG.cn
 have h2:=hG.n2
 have h3:=hG.e0
 have h4:=hG.e2
 have h5:=hG.ln
 rcases h with ⟨i,g1,rfl,k⟩ | ⟨g1,g2,rfl,g4,k⟩ | ⟨g1,g2,rfl,g4,C',nv',X',D',g5,g6,g7⟩
 ·rw [putE_found hA.uq g1]
  exact ao2_now hG k _ _
 ·change (mstep nn kk s.c s.er (nums n)).1 ≠ 0 at g2
  change MB w' pm nn kk (mstep nn kk s.c s.er (nums n)).2.1 (mstep nn kk s.c s.er (nums n)).2.2 at g4
  have hA' : AS w' pa pm s.L C 2097152 nv bm X D:=hA.move k.size fun b hb => k.block b (hA.fl hb) fun e => hpm (e ▸ hb)
  unfold putE
  rw [if_neg (spot_no (hn g1)),if_neg g2]
  refine ⟨rfl,F,⟨⟨C,nv,bm,X,D,hA',hpm,hF⟩,g4,?_,?_,h2,?_,?_,?_,fun b hb => Nat.lt_of_lt_of_le (hG.fl b hb) k.size⟩,fun b hb => .inl hb,but_butF k⟩
  all_goals
   rcases mstep_cases nn kk s.c s.er (nums n) with ⟨a1,a2⟩ | ⟨a1,r,a2,a3,a4⟩ | ⟨a1,a2,a3,a4⟩
  all_goals
   first
    | (rw [a2]; dsimp only; omega)
    | (rw [a3]; dsimp only; omega)
 change (mstep nn kk s.c s.er (nums n)).1 = 0 at g2
 change MB w' pm nn kk (mstep nn kk s.c s.er (nums n)).2.1 (mstep nn kk s.c s.er (nums n)).2.2 at g4
 unfold putE
 rw [if_neg (spot_no (hn g1)),if_pos g2]
 have hpm' : ¬ FF pa bm nv' C' pm:=fun hf => (g6 pm hf).elim hpm fun h => absurd (hG.mb.lt) o_m
 refine ⟨rfl,FF pa bm nv' C',⟨⟨C',nv',bm,X',D',g5,hpm',fun _ hb => hb⟩,g4,?_,?_,h2,?_,?_,?_,fun b hb => g5.fl hb⟩,fun b hb => (g6 b hb).imp (hF b) id,g7.mono fun b hb => hb.imp id (hF b)⟩
 all_goals
  rcases mstep_cases nn kk s.c s.er (nums n) with ⟨a1,a2⟩ | ⟨a1,r,a2,a3,a4⟩ | ⟨a1,a2,a3,a4⟩
 all_goals
  first
   | (rw [a2] at g2; exact absurd g2 a1)
   | (rw [a3] at g2; exact absurd g2 a2)
   | (rw [a2]; dsimp only; simp only [List.length_append,List.length_cons,List.length_nil]; omega)
   | (rw [a2]; dsimp only; omega)


theorem atom_ao2 {w : World} {pa pm : Nat} {nn kk : Int} {s : St} {F : Nat→Prop} {kd : Int} {sd : Bool} {ad : Option Addr} {ld cd : Nat} {ap : Option Addr} {np cp : Nat} {sk : Bool} {ak : Option Addr} {lk ck : Nat} {d k : Int} {ps : List (Int × Int)} {B : Nat}
  (hG : AG w pa pm nn kk s F) (hd : Zm w sd ad ld cd d) (hld : ld≤B) (hP : Pr w ap np ps B) (hk : Zm w sk ak lk ck k) (hlk : lk≤B) (hn : np≤209716) (hB : B≤1048576) (htab : Tab w) :
  Calls Tryz.prog 11 #[.pointer (some ⟨pa,0,none⟩),.agg #[.int .i64 kd,.bool sd,.slice ad ld cd,.slice ap np cp,.bool sk,.slice ak lk ck]] w fun e w' => AO2 w w' e pa pm nn kk F (actA nn kk s kd d ps k):=by
 obtain ⟨C,nv,bm,X,D,hA,hpm,hF⟩:=hG.ar
 have h1:=hG.cn
 have h2:=hG.n2
 have h3:=hG.ln
 refine (atom8_n hA hG.mb hpm hG.c0 hG.cn hG.n2 hG.e0 hG.e2 hd hld hP hk hlk hn hB o_m htab).mono ?_
 intro e w' h
 unfold AM at h
 unfold actA
 cases hf : formA kd d (nz (lays [] ps)) k with
 | inr er =>
  rw [hf] at h
  obtain ⟨rfl,kb⟩:=h
  exact ao2_now hG kb _ _
 | inl f =>
  rw [hf] at h
  exact md_ao2 hG hA hpm hF h

theorem join_ao2 {w : World} {pa pm : Nat} {nn kk : Int} {s : St} {F : Nat→Prop} {kd : Int} {ka : Option Addr} {kc : Nat} {l : List Int}
  (hG : AG w pa pm nn kk s F) (hI : IL w ka l.length l) (hl : l.length≤1048576) (htab : Tab w) :
  Calls Tryz.prog 13 #[.pointer (some ⟨pa,0,none⟩),.int .i64 kd,.slice ka l.length kc] w fun e w' => AO2 w w' e pa pm nn kk F (actJ nn kk s kd l):=by
 obtain ⟨C,nv,bm,X,D,hA,hpm,hF⟩:=hG.ar
 have h1:=hG.cn
 have h2:=hG.n2
 have h3:=hG.ln
 refine (join8_n hA hG.mb hpm hG.c0 hG.cn hG.n2 hG.e0 hG.e2 hI hl o_m htab).mono ?_
 intro e w' h
 unfold JO at h
 unfold actJ
 by_cases hkd : kd = 5 ∨ kd = 6
 ·rw [if_neg (fun h => h hkd)] at h ⊢
  by_cases ha : l.any (lck s.L.length) = true
  ·rw [if_pos ha] at h ⊢
   obtain ⟨rfl,rfl⟩:=h
   exact ao2_now hG (Below.refl _ _) _ _
  rw [if_neg ha] at h ⊢
  cases hr : ris l with
  | nil =>
   rw [hr] at h
   obtain ⟨rfl,kb⟩:=h
   exact ao2_now hG kb _ _
  | cons x t =>
   cases t with
   | nil =>
    rw [hr] at h
    obtain ⟨rfl,kb⟩:=h
    exact ao2_now hG kb _ _
   | cons y t =>
    rw [hr] at h
    exact md_ao2 hG hA hpm hF h
 rw [if_pos hkd] at h ⊢
 obtain ⟨rfl,rfl⟩:=h
 exact ao2_now hG (Below.refl _ _) _ _

theorem bind_ao2 {w : World} {pa pm : Nat} {nn kk : Int} {s : St} {F : Nat→Prop} {kd v kid : Int}
  (hG : AG w pa pm nn kk s F) (hv : I64 v) (hkid : I64 kid) (htab : Tab w) :
  Calls Tryz.prog 15 #[.pointer (some ⟨pa,0,none⟩),.int .i64 kd,.int .i64 v,.int .i64 kid] w fun e w' => AO2 w w' e pa pm nn kk F (actB nn kk s kd v kid):=by
 obtain ⟨C,nv,bm,X,D,hA,hpm,hF⟩:=hG.ar
 have h1:=hG.cn
 have h2:=hG.n2
 have h3:=hG.ln
 refine (bind8_n hA hG.mb hpm hG.c0 hG.cn hG.n2 hG.e0 hG.e2 hv hkid o_m htab).mono ?_
 intro e w' h
 unfold BI at h
 unfold actB
 by_cases hkd : kd = 7 ∨ kd = 8
 ·rw [if_neg (fun h => h hkd)] at h ⊢
  by_cases ha : kid < 0 ∨ (s.L.length : Int)≤kid
  ·rw [if_pos ha] at h ⊢
   obtain ⟨rfl,rfl⟩:=h
   exact ao2_now hG (Below.refl _ _) _ _
  rw [if_neg ha] at h ⊢
  exact md_ao2 hG hA hpm hF h
 rw [if_pos hkd] at h ⊢
 obtain ⟨rfl,rfl⟩:=h
 exact ao2_now hG (Below.refl _ _) _ _

theorem release_bad {w : World} {pa pm : Nat} {nn kk : Int} {s : St} {F : Nat→Prop} {n : Int} (hG : AG w pa pm nn kk s F) (hn : n < 2 ∨ (s.L.length : Int) < n) :
  Calls Tryz.prog 17 #[.pointer (some ⟨pa,0,none⟩),.int .i64 n] w fun e w' => e = .returned (.int .i64 1)∧w' = w:=by
 have hln:=hide (len_ag hG)
 clear hG
 by_cases h2 : n < 2
 ·go_enter Tryz.func17,Tryz.ntmps17
  go_wp2
  go_ret
  exact ⟨rfl,rfl⟩
 have h3 : (s.L.length : Int) < n:=by omega
 go_enter Tryz.func17,Tryz.ntmps17
 go_wp2_with (go_at_call 34; refine hln.out.mono ?_; rintro e w1 ⟨rfl,rfl⟩)
 go_ret
 exact ⟨rfl,rfl⟩
theorem release_ao2 {w : World} {pa pm : Nat} {nn kk : Int} {s : St} {F : Nat→Prop} {n : Int} (hG : AG w pa pm nn kk s F) (htab : ∀ w',ButF F w w'→Tab w') :
  Calls Tryz.prog 17 #[.pointer (some ⟨pa,0,none⟩),.int .i64 n] w fun e w' => e = .returned (.int .i64 (actR s n).2)∧AG w' pa pm nn kk (actR s n).1 F∧ButF F w w':=by
 unfold actR
 by_cases hn : n < 2 ∨ (s.L.length : Int) < n
 ·rw [if_pos hn]
  refine (release_bad hG hn).mono ?_
  rintro e w' ⟨rfl,rfl⟩
  exact ⟨rfl,hG,butF_below (Below.refl _ _)⟩
 rw [if_neg hn]
 have h0 : ((n.toNat : Nat) : Int) = n:=by omega
 have h9:=release_ag (n:=n.toNat) hG o_m o_m htab
 rwa [h0] at h9
end Nt
namespace Nt

structure RA (w : World) (ra rm : Nat) (L : List Nd) (C : Nat→Prop) (B : Nat) (nv : Value) (X : List NR) : Prop where
 blk : w.heap[ra]? = some (.cells #[nv,.pointer (some ⟨rm,0,none⟩)] 61 (0,0))
 len : X.length = L.length
 row : w.ownsRow 0 65 8 nv L.length (X.flatMap NR.enc)
 nodes : ∀ i (h : i < L.length),NC C w (X[i]'o_m) L[i] B
 cl : ∀ b,C b→b < w.heap.size
 ca : ¬ C ra
 cv : ∀ g,nv.ownBlock = some g→¬ C g
def RFF (ra : Nat) (nv : Value) (C : Nat→Prop) (b : Nat) : Prop:=b = ra ∨ nv.ownBlock = some b ∨ C b
section
variable {w w' : World} {ra rm : Nat} {L : List Nd} {C : Nat→Prop} {B : Nat} {nv : Value} {X : List NR}
theorem RA.pal (h : RA w ra rm L C B nv X) : ra < w.heap.size:=(Array.getElem?_eq_some_iff.1 h.blk).1
theorem RA.fl (h : RA w ra rm L C B nv X) {b : Nat} (hb : RFF ra nv C b) : b < w.heap.size:=by
 rcases hb with rfl | hb | hb
 ·exact h.pal
 ·exact (World.ownsRow.lt h.row b hb).2
 exact h.cl b hb
theorem RA.av (h : RA w ra rm L C B nv X) : nv.ownBlock ≠ some ra:=by
 intro e
 obtain ⟨c,fz,hk⟩:=Lib.ownsRow_kind h.row ra e
 rw [h.blk] at hk
 injection hk with hk
 injection hk with h1 h2
 exact absurd h2 (by decide)
theorem RA.c0 (h : RA w ra rm L C B nv X) : w.cell? ⟨ra,0,none⟩ = some nv:=cell_of_row _ ra 0 _ _ (0,0) h.blk
theorem RA.c1 (h : RA w ra rm L C B nv X) : w.cell? ⟨ra,1,none⟩ = some (.pointer (some ⟨rm,0,none⟩)):=cell_of_row _ ra 1 _ _ (0,0) h.blk
theorem RA.form (h : RA w ra rm L C B nv X) : ∃ a c,nv = .slice a L.length c:=by
 rcases Joins.ownsRow_forms h.row with ⟨h1,h2⟩ | ⟨g,cap,h1⟩
 ·exact ⟨none,0,by rw [h1,h2]⟩
 exact ⟨_,cap,h1⟩
theorem RA.move (h : RA w ra rm L C B nv X) (hs : w.heap.size≤w'.heap.size) (hm : ∀ b,RFF ra nv C b→w'.heap[b]? = w.heap[b]?) : RA w' ra rm L C B nv X:=by
 refine ⟨(hm ra (.inl rfl)).trans h.blk,h.len,?_,fun i hi => (h.nodes i hi).move hs (fun b hb _ => hm b (.inr (.inr hb))) (fun b hb _ => hb),fun b hb => Nat.lt_of_lt_of_le (h.cl b hb) hs,h.ca,h.cv⟩
 obtain ⟨h1,h2⟩:=h.row
 refine ⟨h1,?_⟩
 rcases h2 with h2 | ⟨g,cap,cur,e1,e2,e3,e4⟩
 ·exact .inl h2
 exact .inr ⟨g,cap,cur,e1,e2,(hm g (.inr (.inl (by rw [e1]; rfl)))).trans e3,e4⟩
theorem RA.below (h : RA w ra rm L C B nv X) (hb : Below w.heap.size w w') : RA w' ra rm L C B nv X :=
 h.move hb.size fun b hf => hb.block b (h.fl hf)
theorem RA.butF {G : Nat→Prop} (h : RA w ra rm L C B nv X) (hb : ButF G w w') (hG : ∀ b,RFF ra nv C b→¬ G b) : RA w' ra rm L C B nv X :=
 h.move hb.size fun b hf => hb.block b (h.fl hf) (hG b hf)
theorem RA.cell (h : RA w ra rm L C B nv X) {i : Nat} (hi : i < L.length) :
  ∃ g cap,nv = .slice (some ⟨g,0,none⟩) L.length cap∧g < w.heap.size∧∀ j,j < 8→∀ (hX : i < X.length),w.cell? ⟨g,i * 8 + j,none⟩ = (X[i].enc)[j]?:=by
 rcases h.row.2 with ⟨_,h0⟩ | ⟨g,cap,cur,e1,_,e3,h1,h2,h3,h4⟩
 ·omega
 refine ⟨g,cap,e1,(Array.getElem?_eq_some_iff.1 e3).1,fun j hj hX => ?_⟩
 rw [cell_of_row w g (i * 8 + j) _ _ (0,0) e3,← flat_get X i j hX hj,← h4,List.getElem?_take,if_pos o_m]
 simp
end
theorem ra_lay {w3 w4 w5 : World} {s0 s1 ra rm : Nat} {L : List Nd} {C : Nat→Prop} {B : Nat} {nv v' : Value} {X : List NR} {x : NR} {n : Nd} (h : RA w3 ra rm L C B nv X) (hs1 : s1≤w3.heap.size) (hfa : ∀ b,RFF ra nv C b→b < s0)
  (hx : NC (fun b => s0≤b∧b < s1) w3 x n B) (hown : w4.ownsRow 0 65 8 v' (L.length + 1) (X.flatMap NR.enc ++ x.enc)) (hg : w3.grownBy w4 nv.ownBlock) (hat : v'.ownBlock = nv.ownBlock ∨ v'.ownBlock = some w3.heap.size)
  (h5 : w5 = w4.setCell ⟨ra,0,none⟩ v') :
  RA w5 ra rm (L ++ [n]) (fun b => C b ∨ (s0≤b∧b < s1)) B v' (X ++ [x])∧ButF (RFF ra nv C) w3 w5:=by
 have hpa:=h.pal
 have hsz4 : w3.heap.size≤w4.heap.size:=hg.size
 have hsz5 : w5.heap.size = w4.heap.size:=by rw [h5]; simp [World.setCell]
 have hpav : v'.ownBlock ≠ some ra:=by
  rcases hat with e | e
  ·rw [e]; exact h.av
  rw [e]; intro e2; injection e2 with e2; omega
 have hoth : ∀ b,b < w3.heap.size→nv.ownBlock ≠ some b→b ≠ ra→w5.heap[b]? = w3.heap[b]?:=fun b hb h1 h2 => by
  rw [h5,heap_setCell_other _ _ _ _ h2]
  exact hg.block b hb (fun e => h1 e.symm)
 constructor
 ·refine ⟨?_,by simp [h.len],?_,?_,?_,?_,?_⟩
  ·rw [h5]
   exact heap_setCell_same w4 ra 0 _ _ _ ((hg.block ra hpa (fun e => h.av e.symm)).trans h.blk)
  ·rw [List.length_append,List.length_singleton,List.flatMap_append,List.flatMap_singleton,h5]
   exact ownsRow_setCell_other hown hpav v'
  ·intro i hi
   rw [List.length_append,List.length_singleton] at hi
   by_cases e : i < L.length
   ·rw [List.getElem_append_left e,List.getElem_append_left (by have:=h.len; omega)]
    refine (h.nodes i e).move o_m (fun b hb hl => hoth b hl (fun e => h.cv b e hb) (fun e => h.ca (e ▸ hb))) fun b hb _ => .inl hb
   obtain rfl : i = L.length:=by omega
   have hxl:=h.len
   have e1 : (X ++ [x])[L.length]'(by simp; omega) = x:=by
    rw [List.getElem_append_right o_m]
    simp [hxl]
   have e2 : (L ++ [n])[L.length]'(by simp) = n:=by
    rw [List.getElem_append_right (Nat.le_refl _)]
    simp
   rw [e1,e2]
   refine hx.move o_m (fun b hb hl => hoth b hl (fun e => by have:=hfa b (.inr (.inl e)); omega) (fun e => by have:=hfa b (.inl e); omega)) fun b hb _ => .inr hb
  ·rintro b (hb | hb)
   ·have:=h.cl b hb; omega
   omega
  ·rintro (hb | hb)
   ·exact h.ca hb
   have:=hfa ra (.inl rfl); omega
  intro g hgv
  rintro (hb | hb)
  ·rcases hat with e | e
   ·exact h.cv g (e ▸ hgv) hb
   rw [e] at hgv; injection hgv with hgv; have:=h.cl g hb; omega
  rcases hat with e | e
  ·have:=hfa g (.inr (.inl (e ▸ hgv))); omega
  rw [e] at hgv; injection hgv with hgv; omega
 refine ⟨?_,?_,?_,by omega,fun b hb hf => hoth b hb (fun e => hf (.inr (.inl e))) (fun e => hf (.inl e))⟩
 ·rw [h5]; exact hg.os
 ·rw [h5]; exact hg.tape
 rw [h5]; exact hg.output

theorem has_n {w : World} {ra rm : Nat} {L : List Nd} {C : Nat→Prop} {B : Nat} {nv : Value} {X : List NR} (h : RA w ra rm L C B nv X) (i : Int) :
  Calls Tryz.prog 28 #[.pointer (some ⟨ra,0,none⟩),.int .i64 i] w fun e w' => e = .returned (.bool (!lck L.length i))∧w' = w:=by
 obtain ⟨av,cv,rfl⟩:=h.form
 have u0:=h.c0
 by_cases h1 : 0≤i
 ·by_cases h2 : i < L.length
  ·have hl : lck L.length i = false:=by unfold lck; exact decide_eq_false o_m
   rw [hl]
   clear hl
   go_enter Tryz.func28,Tryz.ntmps28
   go_wp2_with fail
   go_ret
   exact ⟨rfl,rfl⟩
  have hl : lck L.length i = true:=by unfold lck; exact decide_eq_true o_m
  rw [hl]
  clear hl
  go_enter Tryz.func28,Tryz.ntmps28
  go_wp2_with fail
  go_ret
  exact ⟨rfl,rfl⟩
 have hl : lck L.length i = true:=by unfold lck; exact decide_eq_true o_m
 rw [hl]
 clear hl
 go_enter Tryz.func28,Tryz.ntmps28
 go_wp2_with fail
 go_ret
 exact ⟨rfl,rfl⟩
end Nt
end Go.Proofs.YtcfmkjegolpgaaaGreatDoor
