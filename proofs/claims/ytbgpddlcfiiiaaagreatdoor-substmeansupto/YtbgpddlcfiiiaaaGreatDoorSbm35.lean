/-
 Several texts in one: ED,EE,EF,EG,EP,EQ,ER,H8,ES,EH,EI,ET,EV,EW,EX,EZ,J1,JK,JL,JM,JN,JQ,J7,JA,JB,VT.
-/
import Derived.Test.YtbgpddlcfiiiaaaGreatDoorSbmT
import Derived.Test.YtbgpddlcfiiiaaaGreatDoorSbm34
import Derived.Lib.OwnBridge
import Derived.Test.YtbgpddlcfiiiaaaGreatDoorSbm06
import Derived.Test.YtbgpddlcfiiiaaaGreatDoorSbm32
import Derived.Test.YtbgpddlcfiiiaaaGreatDoorSbm20
import Derived.Test.YtbgpddlcfiiiaaaGreatDoorSbm09
set_option maxRecDepth 100000
set_option maxHeartbeats 3200000
namespace Go.Proofs.YtbgpddlcfiiiaaaGreatDoor
open Go.RowKit Go.Sort Go.Shelf
open Tm At
namespace Nt

def ris (l:List Int):List Int:=Lib.compact (l.mergeSort fun x y=>decide (x≤y))
theorem compact_len (l:List Int):(Lib.compact l).length≤l.length:=by
 unfold Lib.compact Lib.compactUpTo
 rw[List.length_map]
 exact Nat.le_trans (List.length_filter_le _ _) (by simp)
theorem compact_mem {l:List Int}{x:Int}(h:x∈Lib.compact l):x∈l:=by
 unfold Lib.compact Lib.compactUpTo at h
 obtain⟨j,hj,rfl⟩:=List.mem_map.1 h
 have hj:=List.mem_range.1 (List.mem_filter.1 hj).1
 rw[getElem!_pos _ _ (by simpa using hj)]
 simp
theorem ris_mem {l:List Int}{x:Int}(h:x∈ris l):x∈l:=(List.mem_mergeSort).1 (compact_mem h)
theorem ris_nil :ris []= []:=by simp[ris,Lib.compact,Lib.compactUpTo]
def RI (w w':World)(e:Ending)(l:List Int):Prop:=CI w w' e (ris l).length (ris l)

theorem rising_n {w:World}{ka:Option Addr}{kc:Nat}{l:List Int}(hI:IL w ka l.length l)(hkn:l.length≤4294967296):
  Calls Tryz.prog 55 #[.slice ka l.length kc] w fun e w'=>RI w w' e l:=by
 go_enter Tryz.func55,Tryz.ntmps55
 go_wp2_with fail
 by_cases h0:l= []
 ·subst h0
  refine(cloneI_n (kn:=0) hI (by simp)).mono ?_
  rintro e w1 ⟨a,c,rfl,h1,h2,k1⟩
  go_wp2_with(first|(go_at_call 97;refine(Tryz.slices_Sort_int_none a c w1).mono ?_;rintro e w2 ⟨rfl,rfl⟩)|(go_at_call 98;refine(Tryz.slices_Compact_int_empty a c _).mono ?_;rintro e w3 ⟨rfl,rfl⟩))
  go_ret
  unfold RI
  rw[ris_nil]
  exact⟨a,c,rfl,h1,h2,k1⟩
 have hl0:0<l.length:=List.length_pos_iff.2 h0
 rcases hI.2 with h2|⟨b,off,rfl,hb,h2⟩
 ·omega
 have hx: ∀x∈l,I64 x:=fun x hx=>by
  obtain⟨i,hi,rfl⟩:=List.getElem_of_mem hx
  exact(h2 i hi).2
 refine(Tryz.slices_Clone_int b off l.length kc l w (Nat.le_refl _) o_m (fun j hj=> ?_)).mono ?_
 ·rw[(h2 j hj).1,List.getD_eq_getElem?_getD,List.getElem?_eq_getElem hj]
  rfl
 rintro e w1 ⟨v,rfl,hown,hv0,k1⟩
 rw[List.take_of_length_le (Nat.le_refl _)]at hown
 obtain⟨g,cap,rfl,hg1,hg2,hcap,hmax,-,hH⟩:=Lib.holds_of_ownsRow hown hv0
 go_wp2_with fail
 refine(Tryz.slices_Sort_int g 0 cap l w1 hH hg2 o_m).mono ?_
 rintro e w2 ⟨rfl,q,os,rfl⟩
 have hsl:(l.mergeSort fun x y=>decide (x≤y)).length=l.length:=List.length_mergeSort _
 have hrl:(ris l).length≤l.length:=hsl▸compact_len _
 have r2:=Lib.ownsRow_putRow (q:=q) hown hsl (Nat.le_refl _)
 rw[List.take_of_length_le (Nat.le_of_eq hsl)]at r2
 have r3:=Lib.ownsRow_grow r2 0 os
 have kb:=Lib.below_putRow (enc:=Value.int .i64) (q:=q) (d:=(l.mergeSort fun x y=>decide (x≤y)).toArray) k1 hg1
 have kb3:=kb.trans (Lib.below_grow w.heap.size _ kb.size 0 os)
 have e0:(putRow (Value.int .i64) (Sort.ahead w1 q) g 0 (l.mergeSort fun x y=>decide (x≤y)).toArray).drewN 0=putRow (Value.int .i64) (Sort.ahead w1 q) g 0 (l.mergeSort fun x y=>decide (x≤y)).toArray:=rfl
 rw[e0]at r3 kb3
 generalize grow (putRow (Value.int .i64) (Sort.ahead w1 q) g 0 (l.mergeSort fun x y=>decide (x≤y)).toArray) os=w3 at*
 obtain⟨g',cap',e9,-,-,-,-,-,hH3⟩:=Lib.holds_of_ownsRow r3 (by simp)
 cases e9
 replace r3:=hide r3
 replace kb3:=hide kb3
 clear kb r2 hown hH e0
 have hcomp:=Tryz.slices_Compact_int g 0 cap (l.mergeSort fun x y=>decide (x≤y)) w3 hH3 o_m o_m
 rw[hsl]at hcomp
 replace hcomp:=hide hcomp
 clear hH3
 go_wp2_with fail
 refine hcomp.out.mono ?_
 rintro e w4 ⟨rfl,q4,rfl⟩
 have r4:=Lib.ownsRow_putRow (q:=q4) (ys:=ris l++List.replicate (l.length-(ris l).length) 0) r3.out (by simp;omega) (k:=(ris l).length) hrl
 rw[List.take_left' rfl]at r4
 have k4:=Lib.below_putRow (enc:=Value.int .i64) (q:=q4) (d:=(ris l++List.replicate (l.length-(ris l).length) 0).toArray) kb3.out hg1
 obtain⟨a5,c5,e5,hI5,hn5⟩:=row_il r4 (fun x hx'=>hx x (ris_mem hx'))
 cases e5
 have hfin:Hid (CI w _ (.returned (.slice (some ⟨g,0,none⟩) (ris l).length cap)) (ris l).length (ris l)):=hide ⟨_,_,rfl,hI5,hn5,k4⟩
 clear r4 k4 hI5 hn5
 go_wp2
 go_ret
 exact hfin.out
end Nt
namespace Nt

def cst (k:Int):Nd:=⟨k,0,[],0,0,[]⟩
def NW (w w':World)(e:Ending)(pm:Nat):Prop:=
 ∃pa C nv bm X D,e= .returned (.pointer (some ⟨pa,0,none⟩))∧AS w' pa pm [cst 0,cst 1] C 2097152 nv bm X D∧(∀b,FF pa bm nv C b→w.heap.size≤b)∧Below w.heap.size w w'
theorem as_new {w:World}{pa pm bm:Nat}(h:w.heap[pa]? =some (.cells #[.pointer (some ⟨pm,0,none⟩),.slice none 0 0,.map (some bm)] 67 (0,0)))(hm:w.ownsMap Tryz.prog 9 (plainElem Tryz.prog 3) bm 0 (.map []:DataW Value)):AS w pa pm [] (fun _=>False) 2097152 (.slice none 0 0) bm [] (.map []):=
 ⟨h,rfl,⟨rfl,.inl ⟨rfl,rfl⟩⟩,fun i hi=>absurd hi (Nat.not_lt_zero _),hm,⟨fun i hi=>absurd hi (Nat.not_lt_zero _),fun t _ z=>by simp[DataW.atKey]⟩,fun _ h=>h.elim,id,id,fun _ _ h=>h⟩
theorem cst_take (t:Nat)(h:t<2): [cst 0,cst 1].take (t+1)= [cst 0,cst 1].take t++ [cst t]∧cst t∉ [cst 0,cst 1].take t:=by
 obtain rfl|rfl:t=0∨t=1:=by omega
 ·exact⟨rfl,by simp⟩
 refine⟨rfl,fun h=> ?_⟩
 have h1:cst ((1:Nat):Int)=cst 0:=by simpa using h
 have:=congrArg Nd.kind h1
 exact absurd this (by decide)

def NN (w w':World)(e:Ending):Prop:=
 ∃pm pa C nv bm X D,e= .returned (.pointer (some ⟨pa,0,none⟩))∧AS w' pa pm [cst 0,cst 1] C 2097152 nv bm X D∧MB w' pm 2000 8 0 0∧¬FF pa bm nv C pm∧(∀b,FF pa bm nv C b→w.heap.size≤b)∧w.heap.size≤pm∧Below w.heap.size w w'
theorem nw_nn {w w1 w':World}{e:Ending}{pm:Nat}(h:NW w1 w' e pm)(hM:MB w1 pm 2000 8 0 0)(k:Below w.heap.size w w1∧w.heap.size≤pm):NN w w' e:=by
 obtain⟨pa,C,nv,bm,X,D,h1,h2,h3,h4⟩:=h
 have hl:=hM.lt
 exact⟨pm,pa,C,nv,bm,X,D,h1,h2,hM.below h4,fun hf=>by have:=h3 pm hf;omega,fun b hb=>Nat.le_trans k.1.size (h3 b hb),k.2,grow_step h4 k.1⟩
theorem newN_n {w:World}(htab:Tab w):Calls Tryz.prog 6 #[.pointer none] w fun e w'=>NN w w' e:=by
 go_enter Tryz.func6,Tryz.ntmps6
 go_wp2_with fail
 refine(new_n (by decide) (by decide) (by decide) (by decide)).mono ?_
 rintro e w1 ⟨rfl,hM1,k1⟩
 have htab1:=htab.below k1
 have k0:Below w.heap.size w w1∧w.heap.size≤w.heap.size:=⟨k1,Nat.le_refl _⟩
 generalize hpm:w.heap.size=pm at hM1 ⊢
 replace k0:Below w.heap.size w w1∧w.heap.size≤pm:=⟨k0.1,Nat.le_of_eq hpm⟩
 clear hpm k1
 have hmk:=run_makeMap (P:=Tryz.prog) 64 w1
 go_wp2_with fail
 clear hmk
 have b0:Below w1.heap.size w1 (((w1.alloc (.map #[] 0)).alloc (.cells #[.pointer (some ⟨pm,0,none⟩),.slice none 0 0,.map (some w1.heap.size)] 67)).alloc (.cells #[.int .i64 0,.int .i64 1] 3)):=below_alloc' (below_alloc' (below_alloc _ _) _) _
 have hlb:(((w1.alloc (.map #[] 0)).alloc (.cells #[.pointer (some ⟨pm,0,none⟩),.slice none 0 0,.map (some w1.heap.size)] 67)).alloc (.cells #[.int .i64 0,.int .i64 1] 3)).heap[w1.heap.size+1+1]? =some (.cells #[.int .i64 0,.int .i64 1] 3 (0,0)):=by
  have:=heap_alloc_new ((w1.alloc (.map #[] 0)).alloc (.cells #[.pointer (some ⟨pm,0,none⟩),.slice none 0 0,.map (some w1.heap.size)] 67)) (.cells #[.int .i64 0,.int .i64 1] 3)
  simpa using this
 have hab:(((w1.alloc (.map #[] 0)).alloc (.cells #[.pointer (some ⟨pm,0,none⟩),.slice none 0 0,.map (some w1.heap.size)] 67)).alloc (.cells #[.int .i64 0,.int .i64 1] 3)).heap[w1.heap.size+1]? =some (.cells #[.pointer (some ⟨pm,0,none⟩),.slice none 0 0,.map (some w1.heap.size)] 67 (0,0)):=by
  have h1:=heap_alloc_new (w1.alloc (.map #[] 0)) (.cells #[.pointer (some ⟨pm,0,none⟩),.slice none 0 0,.map (some w1.heap.size)] 67)
  have h2:=(below_alloc ((w1.alloc (.map #[] 0)).alloc (.cells #[.pointer (some ⟨pm,0,none⟩),.slice none 0 0,.map (some w1.heap.size)] 67)) (.cells #[.int .i64 0,.int .i64 1] 3)).block (w1.heap.size+1) (by simp)
  rw[h2]
  simpa using h1
 have hmp:(((w1.alloc (.map #[] 0)).alloc (.cells #[.pointer (some ⟨pm,0,none⟩),.slice none 0 0,.map (some w1.heap.size)] 67)).alloc (.cells #[.int .i64 0,.int .i64 1] 3)).ownsMap Tryz.prog 9 (plainElem Tryz.prog 3) w1.heap.size 0 (.map []:DataW Value):=((World.ownsMap_made w1 Tryz.prog 9 (plainElem (H:=Value) Tryz.prog 3)).alloc _).alloc _
 have hA0:=as_new hab hmp
 clear hab hmp
 generalize ((w1.alloc (.map #[] 0)).alloc (.cells #[.pointer (some ⟨pm,0,none⟩),.slice none 0 0,.map (some w1.heap.size)] 67)).alloc (.cells #[.int .i64 0,.int .i64 1] 3)=wb at*
 generalize hs:w1.heap.size=s at*
 replace b0:Hid (Below w1.heap.size w1 wb):=hs▸b0
 go_loopw [19] (fun i wr=> ∃(t:Nat) (C:Nat→Prop) (nv:Value) (X:List NR) (D:DataW Value),t≤2∧i= .int .i64 t∧Hid (AS wr (s+1) pm ([cst 0,cst 1].take t) C 2097152 nv s X D)∧Hid (∀b,FF (s+1) s nv C b→s≤b∧b≠s+1+1)∧Hid (wr.heap[s+1+1]? =some (.cells #[.int .i64 0,.int .i64 1] 3 (0,0)))∧Hid (Below w1.heap.size w1 wr)) (fun i _=>2-(intOf i).toNat)
 case atStart=>exact⟨0,_,_,_,_,by omega,rfl,hA0,(fun b hb=>by rcases hb with rfl|rfl|hb|hb <;> first|omega|(cases hb)),hlb,b0⟩
 case round=>
  obtain⟨t,C,nv,X,D,ht,rfl,hA,hF,hl,kr⟩:=hrel
  by_cases htn:t<2
  ·have hc0:wr.cell? ⟨s+1+1,t,none⟩=some (.int .i64 (t:Int)):=by
    rw[cell_of_row _ (s+1+1) t _ _ (0,0) hl.out]
    obtain rfl|rfl:t=0∨t=1:=by omega
    ·rfl
    rfl
   obtain⟨htk,hnew⟩:=cst_take t htn
   have y:=NB.new wr (t:Int) false none 0 0 none 0 0 false none 0 0 0 none 0 0
   have ka:=below_alloc wr (.cells #[.int .i64 (t:Int),.bool false,.slice none 0 0,.slice none 0 0,.bool false,.slice none 0 0,.int .i64 0,.slice none 0 0] 69)
   have hA1:=hA.out.below ka
   have hT1:=htab1.below (grow_step ka kr.out)
   have hl1:=(ka.block (s+1+1) (Array.getElem?_eq_some_iff.1 hl.out).1).trans hl.out
   have kr1:=grow_step ka kr.out
   replace y:=hide y
   replace hA1:=hide hA1
   go_wp2_with fail
   clear hc0
   replace y:=y.out
   replace hA1:=hA1.out
   have hq:s+1+1<wr.heap.size:=(Array.getElem?_eq_some_iff.1 hl.out).1
   generalize wr.alloc (.cells #[.int .i64 (t:Int),.bool false,.slice none 0 0,.slice none 0 0,.bool false,.slice none 0 0,.int .i64 0,.slice none 0 0] 69)=wq at*
   generalize hqe:wr.heap.size=q at*
   refine wp_region_held_drew (S:=(fun w'=>w'.cell? ⟨q,0,none⟩=some (.int .i64 (t:Int))∧w'.cell? ⟨q,1,none⟩=some (.bool false)∧w'.cell? ⟨q,2,none⟩=some (.slice none 0 0)∧w'.cell? ⟨q,3,none⟩=some (.slice none 0 0)∧w'.cell? ⟨q,4,none⟩=some (.bool false)∧w'.cell? ⟨q,5,none⟩=some (.slice none 0 0)∧w'.cell? ⟨q,6,none⟩=some (.int .i64 0)∧w'.cell? ⟨q,7,none⟩=some (.slice none 0 0))) k_f (lay_S y) (fun hHeld=> ?_)
   show wpAnyH _ _ _ _ _ 5 _ _ _
   refine tkz 0 25 ?_
   (try simp only[pz])
   refine tkz 1 26 ?_
   (try simp only[pz])
   refine tkz 2 27 ?_
   (try simp only[pz])
   refine ryz 3 (some 28) (fun K hK=> ?_) AllReadyH.nil
   go_simp
   refine Calls.mono (text_n (w:=wq.drew) (kids:=[]) (ps:=[]) (d:=0) (k:=0) (B:=0) (zn_zero _) o_m (pn_nil _ _ _) (zn_zero _) o_m ⟨rfl,.inl rfl⟩ (by unfold I64;omega) (by unfold I64;decide) o_m o_m o_m hT1) ?_
   rintro e w2 ⟨rfl,k2⟩
   replace k2:=grow_step k2 (grow_drew (Below.refl _ _))
   have y:=y.below k2
   have hA1:=hA1.below k2
   (try go_wp2_with fail)
   refine hK.out _ _ ?_ ?_
   ·(try dsimp only);exact lay_S y
   clear hK K hHeld;intro hHeld
   (try simp only[pz])
   refine ryz 4 (some 29) (fun K hK=> ?_) AllReadyH.nil
   go_simp
   refine Calls.mono (lay_n (w:=w2) (kids:=[]) (ps:=[]) (d:=0) (k:=0) hA1 (zn_zero _) o_m (pn_nil _ _ _) (zn_zero _) o_m ⟨rfl,.inl rfl⟩ (by unfold I64;omega) (by unfold I64;decide) o_m o_m o_m (by simp;omega) hnew (txt_length (w:=w2) (ap:=none) (np:=0) (ka:=none) (kn:=0) (B:=0) (zn_zero _) o_m (pn_nil _ _ _) (zn_zero _) o_m ⟨rfl,.inl rfl⟩ (by unfold I64;omega) (by unfold I64;decide) o_m o_m o_m)) ?_
   rintro e w3 ⟨rfl,C',nv',X',D',hA3,hF3,hB3⟩
   have y3:NB w3 q (t:Int) false none 0 0 none 0 0 false none 0 0 0 none 0 0:=(hB3.block q y.lt (fun hf=>by have h1:=hA.out.fl hf;omega)).trans y
   (try go_wp2_with fail)
   refine hK.out _ _ ?_ ?_
   ·(try dsimp only);exact lay_S y3
   clear hK K hHeld;intro hHeld
   (try simp only[pz])
   refine wpAnyH_done k_f ?_ _
   have hA4:Hid (AS w3 (s+1) pm ([cst 0,cst 1].take (t+1)) C' 2097152 nv' s X' D'):=hide (by rw[htk];exact hA3)
   have h2q:q<w2.heap.size:=y.lt
   have hF4:Hid (∀b,FF (s+1) s nv' C' b→s≤b∧b≠s+1+1):=hide fun b hb=>(hF3 b hb).elim (hF.out b) fun h=>⟨by omega,by omega⟩
   have hl2:=(k2.block (s+1+1) (Array.getElem?_eq_some_iff.1 hl1).1).trans hl1
   have hl4:Hid (w3.heap[s+1+1]? =some (.cells #[.int .i64 0,.int .i64 1] 3 (0,0))):=hide ((hB3.block (s+1+1) o_m (fun hf=>(hF.out _ hf).2 rfl)).trans hl2)
   have k4:Hid (Below w1.heap.size w1 w3):=hide ((grow_step k2 kr1).trans (hB3.below (fun b hb=>by have:=(hF.out b hb).1;omega) o_m))
   clear hHeld hA3 hF3 hB3 y y3 hA1 k2 hl1 hl2 kr1 hA hF hl kr ka hT1 hA0 hlb
   go_wp2
   exact⟨⟨t+1,C',nv',X',D',by omega,by go_num,hA4,hF4,hl4,k4⟩,by simp[intOf];omega⟩
  obtain rfl:t=2:=by omega
  have hfin:Hid (NW w1 wr (.returned (.pointer (some ⟨s+1,0,none⟩))) pm):=hide ⟨s+1,C,nv,s,X,D,rfl,hA.out,fun b hb=>by have:=(hF.out b hb).1;omega,kr.out⟩
  clear hA hF hl kr hA0 hlb
  go_wp2
  go_ret
  exact nw_nn hfin.out hM1 k0
end Nt
namespace Nt

def lck (n:Nat)(id:Int):Bool:=decide (id<0∨(n:Int)≤id)

theorem index8_n {w:World}{pa pm:Nat}{L:List Nd}{C:Nat→Prop}{B:Nat}{nv:Value}{bm:Nat}{X:List NR}{D:DataW Value}{ka:Option Addr}{kc:Nat}{l:List Int}(hA:AS w pa pm L C B nv bm X D)(hI:IL w ka l.length l)(hm:l.length≤4194304):
  Calls Tryz.prog 111 #[.slice ka l.length kc,.func (.func 69) #[.pointer (some ⟨pa,0,none⟩)] #[]] w fun x w'=> ∃i:Int,x= .returned (.int .i64 i)∧(decide (0≤i)=l.any (lck L.length))∧-1≤i∧i<l.length∧w'=w:=by
 go_enter Tryz.func111,Tryz.ntmps111
 go_wp2_with fail
 go_loopw [8] (fun i wr=> ∃t:Nat,t≤l.length∧i= .int .i64 t∧Hid ((l.take t).any (lck L.length)=false)∧wr=w) (fun i _=>l.length-(intOf i).toNat)
 case atStart=>exact⟨0,Nat.zero_le _,rfl,(show _=_ by simp),rfl⟩
 case round=>
  obtain⟨t,ht,rfl,hno,rfl⟩:=hrel
  by_cases htm:t<l.length
  ·rcases hI.2 with h0|⟨bp,op,rfl,hbp,hLL⟩
   ·omega
   obtain⟨e0,hx⟩:=hLL t htm
   have hstep:Hid ((l.take (t+1)).any (lck L.length)=lck L.length l[t]):=(show _=_ by rw[List.take_succ_eq_append_getElem (l:=l) (i:=t) o_m,List.any_append,hno.out];simp)
   have hex:Hid (lck L.length l[t]=true→l.any (lck L.length)=true):=(fun hh=>List.any_eq_true.2 ⟨l[t],List.getElem_mem _,hh⟩)
   generalize l[t]=lt at*
   clear hI hLL
   go_wp2_with fail
   refine(lacks_n hA lt).mono ?_
   rintro x w2 ⟨rfl,rfl⟩
   cases hil:lck L.length lt with
   |true=>
    have hany:=hide (hex.out hil)
    unfold lck at hil
    rw[hil]
    clear hil
    go_wp2
    go_ret
    exact⟨t,rfl,by rw[hany.out];simp,by omega,by omega,rfl⟩
   |false=>
    have hst:=hide (hstep.out.trans hil)
    unfold lck at hil
    rw[hil]
    clear hil
    go_wp2
    go_round
    case rel=>exact⟨t+1,by omega,by go_num,hst,by trivial⟩
    case measure=>simp[intOf];omega
  obtain rfl:t=l.length:=by omega
  have hall:Hid (l.any (lck L.length)=false):=by
   have h1:=hno.out
   rw[List.take_of_length_le (Nat.le_refl _)]at h1
   exact h1
  clear hno
  go_wp2
  go_ret
  exact⟨-1,rfl,by rw[hall.out];rfl,by omega,by omega,rfl⟩

theorem contains8_n {w:World}{pa pm:Nat}{L:List Nd}{C:Nat→Prop}{B:Nat}{nv:Value}{bm:Nat}{X:List NR}{D:DataW Value}{ka:Option Addr}{kc:Nat}{l:List Int}(hA:AS w pa pm L C B nv bm X D)(hI:IL w ka l.length l)(hm:l.length≤4194304):
  Calls Tryz.prog 68 #[.slice ka l.length kc,.func (.func 69) #[.pointer (some ⟨pa,0,none⟩)] #[]] w fun x w'=>x= .returned (.bool (l.any (lck L.length)))∧w'=w:=by
 go_enter Tryz.func68,Tryz.ntmps68
 go_wp2_with fail
 refine(index8_n hA hI hm).mono ?_
 rintro x w2 ⟨i,rfl,hi,hi1,hi2,rfl⟩
 replace hi:=hide hi
 go_wp2
 go_ret
 exact⟨by rw[←hi.out];rfl,rfl⟩
end Nt
namespace Nt

def JO (w w':World)(e:Ending)(pa pm:Nat)(L:List Nd)(C:Nat→Prop)(B:Nat)(nv:Value)(bm:Nat)(nn kk c er kd:Int)(l:List Int):Prop:=
 if ¬(kd=5∨kd=6)then e= .returned (.tuple #[.int .i64 0,.int .i64 1])∧w'=w
 else if l.any (lck L.length)=true then e= .returned (.tuple #[.int .i64 0,.int .i64 80])∧w'=w
 else match ris l with
  | []=>e= .returned (.tuple #[.int .i64 (if kd=5 then 1 else 0),.int .i64 0])∧Below w.heap.size w w'
  | [x]=>e= .returned (.tuple #[.int .i64 x,.int .i64 0])∧Below w.heap.size w w'
  |x::y::t=>MD w w' e pa pm L C B nv bm nn kk c er ⟨kd,0,[],0,0,x::y::t⟩
theorem ris_len (l:List Int):(ris l).length≤l.length:=by
 have h:=compact_len (l.mergeSort fun x y=>decide (x≤y))
 rwa [List.length_mergeSort]at h

theorem join8_n {w:World}{pa pm:Nat}{L:List Nd}{C:Nat→Prop}{nv:Value}{bm:Nat}{X:List NR}{D:DataW Value}{nn kk c er:Int}{kd:Int}{ka:Option Addr}{kc:Nat}{l:List Int}
  (hA:AS w pa pm L C 2097152 nv bm X D)(hM:MB w pm nn kk c er)(hpm: ¬FF pa bm nv C pm)(hc:0≤c)(hcn:c≤nn)(hnn:nn≤2000)(he:0≤er)(he2:er<256)(hI:IL w ka l.length l)(hl:l.length≤1048576)(hL:L.length≤1048576)(htab:Tab w):
  Calls Tryz.prog 30 #[.pointer (some ⟨pa,0,none⟩),.int .i64 kd,.slice ka l.length kc] w fun e w'=>JO w w' e pa pm L C 2097152 nv bm nn kk c er kd l:=by
 by_cases hb:kd=5∨kd=6
 ·cases ha:l.any (lck L.length)with
  |true=>
   rcases hb with rfl|rfl
   all_goals
    go_enter Tryz.func30,Tryz.ntmps30
    go_wp2_with(go_at_call 68;refine(contains8_n hA hI o_m).mono ?_;rintro e w1 ⟨rfl,rfl⟩;rw[ha])
    refine bodyPost_ret (results_tmp2 rfl _ _ _) rfl ?_
    unfold JO
    rw[if_neg (by decide),if_pos ha]
    exact⟨rfl,rfl⟩
  |false=>
   have hrl:=ris_len l
   rcases hb with rfl|rfl
   ·go_enter Tryz.func30,Tryz.ntmps30
    go_wp2_with(go_at_call 68;refine(contains8_n hA hI o_m).mono ?_;rintro e w1 ⟨rfl,rfl⟩;rw[ha])
    refine(rising_n hI o_m).mono ?_
    rintro e w2 ⟨a2,c2,rfl,hI2,hn2,k2⟩
    cases hr:ris l with
    |nil=>
     simp only[List.length_nil]
     clear hI2 hn2 hA hM hI htab
     go_wp2
     refine bodyPost_ret (results_tmp2 rfl _ _ _) rfl ?_
     unfold JO
     rw[if_neg (by decide),if_neg (by rw[ha];decide),hr]
     exact⟨rfl,k2⟩
    |cons x t=>
     cases t with
     |nil=>
      rw[hr]at hI2
      rcases hI2.2 with h0|⟨b,off,rfl,hb,hI3⟩
      ·exact absurd h0 (by simp)
      obtain⟨e0,-⟩:=hI3 0 (by simp)
      simp only[Nat.add_zero,List.getElem_cons_zero]at e0
      simp only[List.length_cons,List.length_nil,Nat.zero_add]
      clear hI2 hI3 hn2 hA hM hI htab
      go_wp2
      refine bodyPost_ret (results_tmp2 rfl _ _ _) rfl ?_
      unfold JO
      rw[if_neg (by decide),if_neg (by rw[ha];decide),hr]
      exact⟨rfl,k2⟩
     |cons y t=>
      rw[hr]at hI2 hn2 hrl
      have hml:=hM.lt
      have hkp:InF (fun b=>b≠pm) a2 (x::y::t).length:=fun b off e h0=>by have:=hn2 b off e h0;omega
      have hl2:1<(x::y::t).length:=by simp
      generalize hgt:x::y::t=m at*
      generalize hgl:m.length=ml at*
      have hmade:=made_n (kc:=c2) (sd:=false) (ad:=none) (ld:=0) (cd:=0) (ap:=none) (np:=0) (cp:=0) (sk:=false) (ak:=none) (lk:=0) (ck:=0) (d:=0) (k:=0) (ps:=[]) (vr:=0) (hA.below k2) (hM.below k2) hpm hc hcn hnn he he2 (zn_zero _) o_m (pn_nil _ _ _) (zn_zero _) o_m hI2 hkp (show I64 (5:Int)by unfold I64;decide) (by unfold I64;decide) o_m o_m o_m hL (htab.below k2)
      replace hmade:=hide hmade
      clear hI2 hA hM hI htab hkp hn2
      go_wp2_with fail
      refine hmade.out.mono ?_
      rintro e w3 hMD
      have hMD2:=hide (md_back hMD k2)
      obtain⟨ra,rb,rfl⟩: ∃ra rb:Int,e= .returned (.tuple #[.int .i64 ra,.int .i64 rb]):=by
       rcases hMD with⟨i,_,h2,_⟩|⟨_,_,h3,_⟩|⟨_,_,h3,_⟩
       ·exact⟨_,_,h2⟩
       ·exact⟨_,_,h3⟩
       exact⟨_,_,h3⟩
      clear hMD hmade
      go_wp2
      refine bodyPost_ret (results_tmp2 rfl _ _ _) rfl ?_
      unfold JO
      rw[if_neg (by decide),if_neg (by rw[ha];decide),hr,←hgt]
      rw[←hgt]at hMD2
      exact hMD2.out
   go_enter Tryz.func30,Tryz.ntmps30
   go_wp2_with(go_at_call 68;refine(contains8_n hA hI o_m).mono ?_;rintro e w1 ⟨rfl,rfl⟩;rw[ha])
   refine(rising_n hI o_m).mono ?_
   rintro e w2 ⟨a2,c2,rfl,hI2,hn2,k2⟩
   cases hr:ris l with
   |nil=>
    simp only[List.length_nil]
    clear hI2 hn2 hA hM hI htab
    go_wp2
    refine bodyPost_ret (results_tmp2 rfl _ _ _) rfl ?_
    unfold JO
    rw[if_neg (by decide),if_neg (by rw[ha];decide),hr]
    exact⟨rfl,k2⟩
   |cons x t=>
    cases t with
    |nil=>
     rw[hr]at hI2
     rcases hI2.2 with h0|⟨b,off,rfl,hb,hI3⟩
     ·exact absurd h0 (by simp)
     obtain⟨e0,-⟩:=hI3 0 (by simp)
     simp only[Nat.add_zero,List.getElem_cons_zero]at e0
     simp only[List.length_cons,List.length_nil,Nat.zero_add]
     clear hI2 hI3 hn2 hA hM hI htab
     go_wp2
     refine bodyPost_ret (results_tmp2 rfl _ _ _) rfl ?_
     unfold JO
     rw[if_neg (by decide),if_neg (by rw[ha];decide),hr]
     exact⟨rfl,k2⟩
    |cons y t=>
     rw[hr]at hI2 hn2 hrl
     have hml:=hM.lt
     have hkp:InF (fun b=>b≠pm) a2 (x::y::t).length:=fun b off e h0=>by have:=hn2 b off e h0;omega
     have hl2:1<(x::y::t).length:=by simp
     generalize hgt:x::y::t=m at*
     generalize hgl:m.length=ml at*
     have hmade:=made_n (kc:=c2) (sd:=false) (ad:=none) (ld:=0) (cd:=0) (ap:=none) (np:=0) (cp:=0) (sk:=false) (ak:=none) (lk:=0) (ck:=0) (d:=0) (k:=0) (ps:=[]) (vr:=0) (hA.below k2) (hM.below k2) hpm hc hcn hnn he he2 (zn_zero _) o_m (pn_nil _ _ _) (zn_zero _) o_m hI2 hkp (show I64 (6:Int)by unfold I64;decide) (by unfold I64;decide) o_m o_m o_m hL (htab.below k2)
     replace hmade:=hide hmade
     clear hI2 hA hM hI htab hkp hn2
     go_wp2_with fail
     refine hmade.out.mono ?_
     rintro e w3 hMD
     have hMD2:=hide (md_back hMD k2)
     obtain⟨ra,rb,rfl⟩: ∃ra rb:Int,e= .returned (.tuple #[.int .i64 ra,.int .i64 rb]):=by
      rcases hMD with⟨i,_,h2,_⟩|⟨_,_,h3,_⟩|⟨_,_,h3,_⟩
      ·exact⟨_,_,h2⟩
      ·exact⟨_,_,h3⟩
      exact⟨_,_,h3⟩
     clear hMD hmade
     go_wp2
     refine bodyPost_ret (results_tmp2 rfl _ _ _) rfl ?_
     unfold JO
     rw[if_neg (by decide),if_neg (by rw[ha];decide),hr,←hgt]
     rw[←hgt]at hMD2
     exact hMD2.out
 go_enter Tryz.func30,Tryz.ntmps30
 have h5:(kd !=5)=true:=by simp;omega
 have h6:(kd !=6)=true:=by simp;omega
 go_wp2
 refine bodyPost_ret (results_tmp2 rfl _ _ _) rfl ?_
 unfold JO
 rw[if_pos hb]
 exact⟨rfl,rfl⟩
end Nt
namespace Nt
variable {l ids:List Int}{n:Nd}{nn kk:Int}
theorem upto_rises {d:Array Int}(hs: ∀i j,i≤j→j<d.size→d[i]!≤d[j]!): ∀m,m≤d.size→(Lib.compactUpTo d m).Pairwise (· < ·)∧∀x∈Lib.compactUpTo d m,∃j,j<m∧x=d[j]!
 |0,_=>⟨by simp[Lib.compactUpTo],by simp[Lib.compactUpTo]⟩
 |m+1,hm=>by
  obtain⟨h1,h2⟩:=upto_rises hs m o_m
  rw[Lib.compactUpTo_succ]
  by_cases hk:Lib.keeps d m=true
  ·rw[if_pos hk]
   refine⟨List.pairwise_append.2 ⟨h1,by simp,fun x hx y hy=> ?_⟩,fun x hx=> ?_⟩
   ·obtain⟨j,hj,rfl⟩:=h2 x hx
    obtain rfl:=List.mem_singleton.1 hy
    have h3:d[m]! ≠d[m-1]!:=by
     have h4:=of_decide_eq_true hk
     rcases h4 with h4|h4
     ·omega
     exact h4
    have h5:=hs j (m-1) o_m o_m
    have h6:=hs (m-1) m o_m o_m
    omega
   rcases List.mem_append.1 hx with h|h
   ·obtain⟨j,hj,e⟩:=h2 x h
    exact⟨j,by omega,e⟩
   exact⟨m,by omega,List.mem_singleton.1 h⟩
  rw[if_neg hk,List.append_nil]
  exact⟨h1,fun x hx=>by obtain⟨j,hj,e⟩:=h2 x hx;exact⟨j,by omega,e⟩⟩
theorem sort_le (l:List Int):(l.mergeSort fun x y=>decide (x≤y)).Pairwise (·≤·):=by
 have h:=List.pairwise_mergeSort (le:=fun x y:Int=>decide (x≤y)) (fun a b c h1 h2=>by simp at*;omega) (fun a b=>by simp;omega) l
 exact h.imp (fun h=>by simpa using h)
theorem ris_rises (l:List Int):(ris l).Pairwise (· < ·):=by
 have h:=sort_le l
 refine(upto_rises (d:=(l.mergeSort fun x y=>decide (x≤y)).toArray) (fun i j hij hj=> ?_) _ (by simp)).1
 have hj2:j<(l.mergeSort fun x y=>decide (x≤y)).length:=by simpa using hj
 rw[getElem!_pos (l.mergeSort fun x y=>decide (x≤y)).toArray i (by simpa using Nat.lt_of_le_of_lt hij hj2),getElem!_pos (l.mergeSort fun x y=>decide (x≤y)).toArray j hj]
 by_cases he:i=j
 ·subst he;exact Int.le_refl _
 exact List.pairwise_iff_getElem.1 h i j _ _ o_m
theorem ris_ne (h:l≠ []):ris l≠ []:=by
 unfold ris
 have h2:(l.mergeSort fun x y=>decide (x≤y))≠ []:=fun h3=>h (by have:=List.length_mergeSort (le:=fun x y:Int=>decide (x≤y)) l;rw[h3]at this;exact List.eq_nil_of_length_eq_zero this.symm)
 generalize (l.mergeSort fun x y=>decide (x≤y))=m at h2
 cases m with
 |nil=>exact absurd rfl h2
 |cons a t=>
  unfold Lib.compact Lib.compactUpTo
  rw[List.length_cons,List.range_succ_eq_map]
  simp[Lib.keeps]

structure Mk where
 kind:Int
 xk:Int
 xd:Int
 xp:List (Int × Int)
 xt:Int
 v:Int
 kids:List Int
structure St where
 L:List Nd
 c:Int
 er:Int
def nums (n:Nd):List Int:=n.d::n.k::n.ps.map Prod.snd
def Uq (L:List Nd):Prop:=∀(i j:Nat) (n:Nd),L[i]? =some n→L[j]? =some n→i=j
open Classical in
def eqn (a b:Nd):Bool:=decide (a.kind=b.kind∧a.d=b.d∧a.ps=b.ps∧a.k=b.k∧a.var=b.var∧a.kids=b.kids)
theorem eqn_iff (a b:Nd):eqn a b=true↔a=b:=by
 cases a
 cases b
 simp[eqn]
def spot (L:List Nd)(n:Nd):Nat:=L.findIdx (eqn n)
theorem spot_at {L:List Nd}(h: ∃i:Nat,L[i]? =some n):spot L n<L.length∧L[spot L n]? =some n:=by
 obtain⟨i,hi⟩:=h
 have h1:spot L n<L.length:=List.findIdx_lt_length_of_exists ⟨n,List.mem_of_getElem? hi,(eqn_iff n n).2 rfl⟩
 refine⟨h1,?_⟩
 have h2:eqn n (L[spot L n]'h1)=true:=List.findIdx_getElem (w:=h1)
 rw[List.getElem?_eq_getElem h1,←(eqn_iff _ _).1 h2]
theorem spot_no {L:List Nd}(h: ¬ ∃i:Nat,L[i]? =some n): ¬spot L n<L.length:=fun h1=>h ⟨spot L n,by
 have h2:eqn n (L[spot L n]'h1)=true:=List.findIdx_getElem (w:=h1)
 rw[List.getElem?_eq_getElem h1,←(eqn_iff _ _).1 h2]⟩
def put (nn kk:Int)(s:St)(n:Nd):St × Option Int:=
 if spot s.L n<s.L.length then(s,some (spot s.L n:Int))
 else if(mstep nn kk s.c s.er (nums n)).1=0 then(⟨s.L++ [n],(mstep nn kk s.c s.er (nums n)).2.1,(mstep nn kk s.c s.er (nums n)).2.2⟩,some (s.L.length:Int))
 else(⟨s.L,(mstep nn kk s.c s.er (nums n)).2.1,(mstep nn kk s.c s.er (nums n)).2.2⟩,none)
def joinA (kd:Int)(l:List Int):Option Int ⊕ Nd:=match ris l with
 | []=> .inl (some (if kd=5 then 1 else 0))
 | [x]=> .inl (some x)
 |x::y::t=> .inr ⟨kd,0,[],0,0,x::y::t⟩
def atomA (kd d:Int)(ps:List (Int × Int))(k:Int):Option Int ⊕ Nd:=match formA kd d (nz (lays [] ps)) k with
 | .inr _=> .inl none
 | .inl f=> .inr ⟨f.kind,f.d,f.ps,f.k,0,[]⟩
def ask (ids:List Int)(m:Mk):Option Int ⊕ Nd:=
 if whatI m.kind=0 then atomA m.xk m.xd m.xp m.xt
 else if whatI m.kind=1 then joinA 5 (ofI m.kids ids)
 else if whatI m.kind=2 then joinA 6 (ofI m.kids ids)
 else if whatI m.kind=3 then .inr ⟨7,0,[],0,pick m.v 4,[(ofI m.kids ids).headD 0]⟩
 else .inr ⟨8,0,[],0,pick m.v 4,[(ofI m.kids ids).headD 0]⟩
def asked (nn kk:Int)(s:St)(q:Option Int ⊕ Nd):St × Option Int:=match q with
 | .inl o=>(s,o)
 | .inr n=>put nn kk s n
def wants (nn kk:Int)(s:St)(ids:List Int)(m:Mk):St × Option Int:=asked nn kk s (ask ids m)
def stepW (nn kk:Int)(p:St × List Int)(m:Mk):St × List Int:=((wants nn kk p.1 p.2 m).1,p.2++(wants nn kk p.1 p.2 m).2.toList)
def runW (nn kk:Int)(p:St × List Int)(R:List Mk):St × List Int:=R.foldl (stepW nn kk) p

theorem mstep_cases (nn kk c e:Int)(zs:List Int):(e≠0∧mstep nn kk c e zs=(e,c,e))∨(e=0∧∃r,r≠0∧mstep nn kk c e zs=(r,c,r)∧(r=70∨r=71))∨(e=0∧mstep nn kk c e zs=(0,c+1,0)∧(zs.any fun z=>decide (kk<(lim z:Int)))=false∧1≤nn-c):=by
 unfold mstep
 by_cases h:e≠0
 ·rw[if_pos h];exact .inl ⟨h,rfl⟩
 rw[if_neg h]
 have h0:e=0:=Decidable.not_not.1 h
 by_cases h1:(zs.any fun z=>decide (kk<(lim z:Int)))=true
 ·rw[if_pos h1];exact .inr (.inl ⟨h0,71,by decide,rfl,.inr rfl⟩)
 rw[if_neg h1]
 by_cases h2:nn-c<1
 ·rw[if_pos h2];exact .inr (.inl ⟨h0,70,by decide,rfl,.inl rfl⟩)
 rw[if_neg h2];exact .inr (.inr ⟨h0,rfl,by simpa using h1,by omega⟩)
theorem put_cases (nn kk:Int)(s:St)(n:Nd):
  (∃i:Nat,s.L[i]? =some n∧put nn kk s n=(s,some (i:Int)))∨
  ((∀i:Nat,s.L[i]? ≠some n)∧s.er≠0∧put nn kk s n=(s,none))∨
  ((∀i:Nat,s.L[i]? ≠some n)∧s.er=0∧∃r,(r=70∨r=71)∧put nn kk s n=(⟨s.L,s.c,r⟩,none))∨
  ((∀i:Nat,s.L[i]? ≠some n)∧s.er=0∧((nums n).any fun z=>decide (kk<(lim z:Int)))=false∧1≤nn-s.c∧put nn kk s n=(⟨s.L++ [n],s.c+1,0⟩,some (s.L.length:Int))):=by
 unfold put
 by_cases h: ∃i:Nat,s.L[i]? =some n
 ·rw[if_pos (spot_at h).1];exact .inl ⟨spot s.L n,(spot_at h).2,rfl⟩
 rw[if_neg (spot_no h)]
 have hn: ∀i:Nat,s.L[i]? ≠some n:=fun i hi=>h ⟨i,hi⟩
 rcases mstep_cases nn kk s.c s.er (nums n)with⟨h1,h2⟩|⟨h1,r,h2,h3,h4⟩|⟨h1,h2,h3,h4⟩
 ·rw[h2,if_neg h1];exact .inr (.inl ⟨hn,h1,rfl⟩)
 ·rw[h3,if_neg h2];exact .inr (.inr (.inl ⟨hn,h1,r,h4,rfl⟩))
 rw[h2,if_pos rfl];exact .inr (.inr (.inr ⟨hn,h1,h3,h4,rfl⟩))
def Le (s F:St):Prop:=(∃t,F.L=s.L++t)∧(s.er≠0→F=s)
theorem Le.refl (s:St):Le s s:=⟨⟨[],by simp⟩,fun _=>rfl⟩
theorem Le.trans {s t u:St}(h:Le s t)(k:Le t u):Le s u:=by
 obtain⟨⟨a,ha⟩,h2⟩:=h
 obtain⟨⟨b,hb⟩,k2⟩:=k
 refine⟨⟨a++b,by rw[hb,ha,List.append_assoc]⟩,fun h=> ?_⟩
 obtain rfl:=h2 h
 exact k2 h
theorem put_le (nn kk:Int)(s:St)(n:Nd):Le s (put nn kk s n).1:=by
 rcases put_cases nn kk s n with⟨i,_,e⟩|⟨_,_,e⟩|⟨_,h,r,_,e⟩|⟨_,h,_,_,e⟩ <;> rw[e]
 ·exact Le.refl s
 ·exact Le.refl s
 ·exact⟨⟨[],by simp⟩,fun h1=>absurd h h1⟩
 exact⟨⟨[n],rfl⟩,fun h1=>absurd h h1⟩
theorem wants_le (nn kk:Int)(s:St)(ids:List Int)(m:Mk):Le s (wants nn kk s ids m).1:=by
 unfold wants
 cases ask ids m with
 |inl o=>exact Le.refl s
 |inr n=>exact put_le nn kk s n
theorem run_le (nn kk:Int): ∀(R:List Mk) (s:St) (ids:List Int),Le s (runW nn kk (s,ids) R).1
 | [],s,_=>Le.refl s
 |m::R,s,ids=>(wants_le nn kk s ids m).trans (run_le nn kk R _ _)
theorem put_found {F:St}{i:Nat}(hU:Uq F.L)(h:F.L[i]? =some n):put nn kk F n=(F,some (i:Int)):=by
 rcases put_cases nn kk F n with⟨j,hj,e⟩|⟨h2,_⟩|⟨h2,_⟩|⟨h2,_⟩
 ·rw[e,hU i j n h hj]
 ·exact absurd h (h2 i)
 ·exact absurd h (h2 i)
 exact absurd h (h2 i)
theorem put_uq {s:St}(h:Uq s.L):Uq (put nn kk s n).1.L:=by
 rcases put_cases nn kk s n with⟨i,hi,e⟩|⟨h1,h2,e⟩|⟨h1,h2,r,h3,e⟩|⟨h1,h2,h3,h4,e⟩ <;> rw[e]
 ·exact h
 ·exact h
 ·exact h
 intro i j x hi hj
 have key: ∀i:Nat,(s.L++ [n])[i]? =some x→(i<s.L.length∧s.L[i]? =some x)∨(i=s.L.length∧x=n):=fun i hi=>by
  by_cases hl:i<s.L.length
  ·rw[List.getElem?_append_left hl]at hi;exact .inl ⟨hl,hi⟩
  have h9:=(List.getElem?_eq_some_iff.1 hi).1
  simp at h9
  obtain rfl:i=s.L.length:=by omega
  simp at hi
  exact .inr ⟨rfl,hi.symm⟩
 rcases key i hi with⟨a1,a2⟩|⟨a1,a2⟩ <;> rcases key j hj with⟨b1,b2⟩|⟨b1,b2⟩
 ·exact h i j x a2 b2
 ·subst b2;exact absurd a2 (h1 i)
 ·subst a2;exact absurd b2 (h1 j)
 omega
theorem wants_uq {s:St}{m:Mk}(h:Uq s.L):Uq (wants nn kk s ids m).1.L:=by
 unfold wants
 cases ask ids m with
 |inl o=>exact h
 |inr n=>exact put_uq h
theorem run_uq : ∀(R:List Mk) {s:St}{ids:List Int},Uq s.L→Uq (runW nn kk (s,ids) R).1.L
 | [],_,_,h=>h
 |m::R,s,ids,h=>run_uq R (s:=(stepW nn kk (s,ids) m).1) (ids:=(stepW nn kk (s,ids) m).2) (wants_uq h)
theorem form_fit {kind d:Int}{ps:List (Int × Int)}{k:Int}{f:Atm}(h:formA kind d (nz (lays [] ps)) k= .inl f):Fit f:=formA_fit (std_lays ps) h
theorem form_len {kind d:Int}{ps:List (Int × Int)}{k:Int}{f:Atm}(h:formA kind d (nz (lays [] ps)) k= .inl f):f.ps.length≤(nz (lays [] ps)).length:=(formA_prt (std_lays ps) h).1
def Gd (kk:Int)(i:Nat)(n:Nd):Prop:=
 (∃f:Atm,Fit f∧n=⟨f.kind,f.d,f.ps,f.k,0,[]⟩∧f.ps.length≤209716∧∀z∈nums n,(lim z:Int)≤kk)∨
 (∃kd kids,(kd=5∨kd=6)∧n=⟨kd,0,[],0,0,kids⟩∧2≤kids.length∧kids.length≤5∧kids.Pairwise (· < ·)∧∀x∈kids,0≤x∧x<(i:Int))∨
 (∃kd v x,(kd=7∨kd=8)∧n=⟨kd,0,[],0,v,[x]⟩∧0≤v∧v<4∧0≤x∧x<(i:Int))
def Gs (kk:Int)(s:St):Prop:=∀(i:Nat) (n:Nd),2≤i→s.L[i]? =some n→Gd kk i n
def In (s:St)(ids:List Int):Prop:=ids≠ []∧∀x∈ids,0≤x∧x<(s.L.length:Int)
theorem In.le {s F:St}(h:In s ids)(k:Le s F):In F ids:=by
 obtain⟨⟨t,ht⟩,_⟩:=k
 refine⟨h.1,fun x hx=> ?_⟩
 have:=h.2 x hx
 rw[ht,List.length_append]
 omega
def Wd (i:Nat)(n:Nd):Prop:=
 (∃f:Atm,Fit f∧n=⟨f.kind,f.d,f.ps,f.k,0,[]⟩∧f.ps.length≤209716)∨
 (∃kd kids,(kd=5∨kd=6)∧n=⟨kd,0,[],0,0,kids⟩∧2≤kids.length∧kids.length≤5∧kids.Pairwise (· < ·)∧∀x∈kids,0≤x∧x<(i:Int))∨
 (∃kd v x,(kd=7∨kd=8)∧n=⟨kd,0,[],0,v,[x]⟩∧0≤v∧v<4∧0≤x∧x<(i:Int))
theorem Wd.gd {i:Nat}(h:Wd i n)(h2:((nums n).any fun z=>decide (kk<(lim z:Int)))=false):Gd kk i n:=by
 rcases h with⟨f,h3,h4,h5⟩|h|h
 ·refine .inl ⟨f,h3,h4,h5,fun z hz=> ?_⟩
  have h6:=List.any_eq_false.1 h2 z hz
  simpa using h6
 ·exact .inr (.inl h)
 exact .inr (.inr h)
theorem joinA_wd {s:St}{kd:Int}(hk:kd=5∨kd=6)(h:joinA kd l= .inr n)(hl:l.length≤5)(hi: ∀x∈l,0≤x∧x<(s.L.length:Int)):Wd s.L.length n:=by
 unfold joinA at h
 have h1:=ris_len l
 have h2:=ris_rises l
 have h3: ∀x∈ris l,0≤x∧x<(s.L.length:Int):=fun x hx=>hi x (ris_mem hx)
 split at h
 ·cases h
 ·cases h
 rename_i x y t e
 rw[e]at h1 h2 h3
 cases h
 exact .inr (.inl ⟨kd,_,hk,rfl,by simp,by omega,h2,h3⟩)
theorem joinA_in {s:St}{kd:Int}{o:Option Int}(h:joinA kd l= .inl o)(h0:l≠ [])(hi: ∀x∈l,0≤x∧x<(s.L.length:Int)): ∀x∈o.toList,0≤x∧x<(s.L.length:Int):=by
 unfold joinA at h
 split at h
 ·rename_i e
  exact absurd e (ris_ne h0)
 ·rename_i x e
  cases h
  intro y hy
  obtain rfl:y=x:=by simpa using hy
  exact hi y (ris_mem (by rw[e];simp))
 cases h
def Sm (m:Mk):Prop:=(nz (lays [] m.xp)).length≤209716
theorem ask_wd {s:St}{m:Mk}(hI:In s ids)(hm:Sm m)(h:ask ids m= .inr n):Wd s.L.length n:=by
 have hof: ∀x∈ofI m.kids ids,0≤x∧x<(s.L.length:Int):=fun x hx=>hI.2 x (ofI_mem hI.1 hx)
 have hv:=pick_lt m.v (n:=4) (by decide)
 have hh:0≤(ofI m.kids ids).headD 0∧(ofI m.kids ids).headD 0<(s.L.length:Int):=by
  have h1:=ofI_ne (ks:=m.kids) (ids:=ids)
  cases ho:ofI m.kids ids with
  |nil=>exact absurd ho h1
  |cons a t=>exact hof a (by rw[ho];simp)
 unfold ask at h
 by_cases h0:whatI m.kind=0
 ·rw[if_pos h0]at h
  unfold atomA at h
  cases hf:formA m.xk m.xd (nz (lays [] m.xp)) m.xt with
  |inr e=>rw[hf]at h;cases h
  |inl f=>
   rw[hf]at h
   cases h
   exact .inl ⟨f,form_fit hf,rfl,Nat.le_trans (form_len hf) hm⟩
 rw[if_neg h0]at h
 by_cases h1:whatI m.kind=1
 ·rw[if_pos h1]at h
  exact joinA_wd (.inl rfl) h ofI_len hof
 rw[if_neg h1]at h
 by_cases h2:whatI m.kind=2
 ·rw[if_pos h2]at h
  exact joinA_wd (.inr rfl) h ofI_len hof
 rw[if_neg h2]at h
 by_cases h3:whatI m.kind=3
 ·rw[if_pos h3]at h
  cases h
  exact .inr (.inr ⟨7,_,_,.inl rfl,rfl,hv.1,hv.2,hh.1,hh.2⟩)
 rw[if_neg h3]at h
 cases h
 exact .inr (.inr ⟨8,_,_,.inr rfl,rfl,hv.1,hv.2,hh.1,hh.2⟩)
theorem ask_in {s:St}{m:Mk}{o:Option Int}(hI:In s ids)(h:ask ids m= .inl o): ∀x∈o.toList,0≤x∧x<(s.L.length:Int):=by
 have hof: ∀x∈ofI m.kids ids,0≤x∧x<(s.L.length:Int):=fun x hx=>hI.2 x (ofI_mem hI.1 hx)
 unfold ask at h
 by_cases h0:whatI m.kind=0
 ·rw[if_pos h0]at h
  unfold atomA at h
  cases hf:formA m.xk m.xd (nz (lays [] m.xp)) m.xt with
  |inr e=>rw[hf]at h;cases h;simp
  |inl f=>rw[hf]at h;cases h
 rw[if_neg h0]at h
 by_cases h1:whatI m.kind=1
 ·rw[if_pos h1]at h
  exact joinA_in h ofI_ne hof
 rw[if_neg h1]at h
 by_cases h2:whatI m.kind=2
 ·rw[if_pos h2]at h
  exact joinA_in h ofI_ne hof
 rw[if_neg h2]at h
 by_cases h3:whatI m.kind=3
 ·rw[if_pos h3]at h
  cases h
 rw[if_neg h3]at h
 cases h
theorem put_gs {s:St}(h:Gs kk s)(hw:Wd s.L.length n):Gs kk (put nn kk s n).1∧∀x∈(put nn kk s n).2.toList,0≤x∧x<((put nn kk s n).1.L.length:Int):=by
 rcases put_cases nn kk s n with⟨i,hi,e⟩|⟨h1,h2,e⟩|⟨h1,h2,r,h3,e⟩|⟨h1,h2,h3,h4,e⟩ <;> rw[e]
 ·have hl:=(List.getElem?_eq_some_iff.1 hi).1
  refine⟨h,fun x hx=> ?_⟩
  obtain rfl:x=(i:Int):=by simpa using hx
  exact⟨by omega,show(i:Int)<(s.L.length:Int)by omega⟩
 ·exact⟨h,by simp⟩
 ·exact⟨h,by simp⟩
 refine⟨fun i x h2i hi=> ?_,fun x hx=> ?_⟩
 ·by_cases hl:i<s.L.length
  ·dsimp only at hi
   rw[List.getElem?_append_left hl]at hi
   exact h i x h2i hi
  have h9:=(List.getElem?_eq_some_iff.1 hi).1
  simp at h9
  obtain rfl:i=s.L.length:=by omega
  simp at hi
  subst hi
  exact hw.gd h3
 obtain rfl:x=(s.L.length:Int):=by simpa using hx
 simp;omega
theorem wants_gs {s:St}{m:Mk}(h:Gs kk s)(hI:In s ids)(hm:Sm m):Gs kk (wants nn kk s ids m).1∧In (wants nn kk s ids m).1 (ids++(wants nn kk s ids m).2.toList):=by
 have hle:=wants_le nn kk s ids m
 have hI2:=hI.le hle
 have key:Gs kk (wants nn kk s ids m).1∧∀x∈(wants nn kk s ids m).2.toList,0≤x∧x<((wants nn kk s ids m).1.L.length:Int):=by
  unfold wants
  cases ha:ask ids m with
  |inl o=>exact⟨h,ask_in hI ha⟩
  |inr n=>exact put_gs h (ask_wd hI hm ha)
 refine⟨key.1,by simp[hI.1],fun x hx=> ?_⟩
 rcases List.mem_append.1 hx with h1|h1
 ·exact hI2.2 x h1
 exact key.2 x h1
theorem run_gs : ∀(R:List Mk) {s:St}{ids:List Int},Gs kk s→In s ids→(∀m∈R,Sm m)→Gs kk (runW nn kk (s,ids) R).1∧In (runW nn kk (s,ids) R).1 (runW nn kk (s,ids) R).2
 | [],_,_,h,hI,_=>⟨h,hI⟩
 |m::R,s,ids,h,hI,hm=>by
  have h1:=wants_gs (nn:=nn) h hI (hm m (by simp))
  exact run_gs R (s:=(stepW nn kk (s,ids) m).1) (ids:=(stepW nn kk (s,ids) m).2) h1.1 h1.2 fun x hx=>hm x (by simp[hx])
theorem put_in (nn kk:Int)(s:St)(n:Nd): ∀x∈(put nn kk s n).2.toList,0≤x∧x<((put nn kk s n).1.L.length:Int):=by
 rcases put_cases nn kk s n with⟨i,hi,e⟩|⟨h1,h2,e⟩|⟨h1,h2,r,h3,e⟩|⟨h1,h2,h3,h4,e⟩ <;> rw[e]
 ·have hl:=(List.getElem?_eq_some_iff.1 hi).1
  intro x hx
  obtain rfl:x=(i:Int):=by simpa using hx
  exact⟨by omega,show(i:Int)<(s.L.length:Int)by omega⟩
 ·simp
 ·simp
 intro x hx
 obtain rfl:x=(s.L.length:Int):=by simpa using hx
 simp;omega
theorem wants_in {s:St}{m:Mk}(hI:In s ids):In (wants nn kk s ids m).1 (ids++(wants nn kk s ids m).2.toList):=by
 have hI2:=hI.le (wants_le nn kk s ids m)
 have key: ∀x∈(wants nn kk s ids m).2.toList,0≤x∧x<((wants nn kk s ids m).1.L.length:Int):=by
  unfold wants
  cases ha:ask ids m with
  |inl o=>exact ask_in hI ha
  |inr n=>exact put_in nn kk s n
 refine⟨by simp[hI.1],fun x hx=> ?_⟩
 rcases List.mem_append.1 hx with h1|h1
 ·exact hI2.2 x h1
 exact key x h1
theorem run_in : ∀(R:List Mk) {s:St}{ids:List Int},In s ids→In (runW nn kk (s,ids) R).1 (runW nn kk (s,ids) R).2
 | [],_,_,hI=>hI
 |m::R,s,ids,hI=>run_in R (s:=(stepW nn kk (s,ids) m).1) (ids:=(stepW nn kk (s,ids) m).2) (wants_in hI)
theorem run_len (nn kk:Int): ∀(R:List Mk) (p:St × List Int),(runW nn kk p R).2.length≤p.2.length+R.length
 | [],p=>Nat.le_refl _
 |m::R,p=>by
  have h1:=run_len nn kk R (stepW nn kk p m)
  have h2:(stepW nn kk p m).2.length≤p.2.length+1:=by
   unfold stepW
   rw[List.length_append]
   cases (wants nn kk p.1 p.2 m).2 <;> simp
  have h3:runW nn kk p (m::R)=runW nn kk (stepW nn kk p m) R:=rfl
  rw[h3,List.length_cons]
  omega
theorem run_snoc (nn kk:Int)(p:St × List Int)(R:List Mk)(m:Mk):runW nn kk p (R++ [m])=stepW nn kk (runW nn kk p R) m:=by simp[runW]
def st0 :St:=⟨[cst 0,cst 1],0,0⟩
theorem st0_uq :Uq st0.L:=by
 intro i j n hi hj
 have hi1:=(List.getElem?_eq_some_iff.1 hi).1
 have hj1:=(List.getElem?_eq_some_iff.1 hj).1
 simp[st0]at hi1 hj1
 obtain rfl|rfl:i=0∨i=1:=by omega
 ·obtain rfl|rfl:j=0∨j=1:=by omega
  ·rfl
  exact absurd (congrArg (Option.map Nd.kind) (hi.trans hj.symm)) (by simp[st0,cst])
 obtain rfl|rfl:j=0∨j=1:=by omega
 ·exact absurd (congrArg (Option.map Nd.kind) (hi.trans hj.symm)) (by simp[st0,cst])
 rfl
theorem st0_gs (kk:Int):Gs kk st0:=fun i n h hi=>by
 have hi1:=(List.getElem?_eq_some_iff.1 hi).1
 simp[st0]at hi1
 omega
theorem st0_in (c er:Int):In ⟨st0.L,c,er⟩ [0,1]:=⟨by simp,fun x hx=>by simp[st0]at*;omega⟩
end Nt
namespace Nt

variable {w w':World}{pa pm:Nat}{nn kk kd:Int}{s:St}{F:Nat→Prop}
structure AG (w:World) (pa pm:Nat) (nn kk:Int) (s:St) (F:Nat→Prop):Prop where
 ar: ∃C nv bm X D,AS w pa pm s.L C 2097152 nv bm X D∧¬FF pa bm nv C pm∧∀b,FF pa bm nv C b→F b
 mb:MB w pm nn kk s.c s.er
 c0:0≤s.c
 cn:s.c≤nn
 n2:nn≤2000
 e0:0≤s.er
 e2:s.er<256
 ln:(s.L.length:Int)≤s.c+2
 fl: ∀b,F b→b<w.heap.size
theorem AS.uq {L:List Nd}{C:Nat→Prop}{B:Nat}{nv:Value}{bm:Nat}{X:List NR}{D:DataW Value}(h:AS w pa pm L C B nv bm X D):Uq L:=by
 intro i j n hi hj
 obtain⟨hi1,hi2⟩:=List.getElem?_eq_some_iff.1 hi
 obtain⟨hj1,hj2⟩:=List.getElem?_eq_some_iff.1 hj
 have e1:=h.is.1 i hi1 .nil
 have e2:=h.is.1 j hj1 .nil
 rw[hi2]at e1
 rw[hj2,e1]at e2
 injection e2 with e2
 injection e2 with _ e2
 omega
theorem AG.below (h:AG w pa pm nn kk s F)(k:Below w.heap.size w w'):AG w' pa pm nn kk s F:=by
 obtain⟨⟨C,nv,bm,X,D,h1,h2,h3⟩,h4,h5,h6,h7,h8,h9,h10,h11⟩:=h
 exact⟨⟨C,nv,bm,X,D,h1.below k,h2,h3⟩,h4.below k,h5,h6,h7,h8,h9,h10,fun b hb=>Nat.lt_of_lt_of_le (h11 b hb) k.size⟩
def AO (w w':World)(e:Ending)(pa pm:Nat)(nn kk:Int)(F:Nat→Prop)(r:St × Option Int):Prop:=
 ∃x er:Int,e= .returned (.tuple #[.int .i64 x,.int .i64 er])∧(r.2=none→er≠0)∧(∀i,r.2=some i→x=i∧er=0)∧∃F',AG w' pa pm nn kk r.1 F'∧(∀b,F' b→F b∨w.heap.size≤b)∧ButF (fun b=>b=pm∨F b) w w'
theorem but_butF {p:Nat}(h:But p w w'):ButF (fun b=>b=p∨F b) w w':=⟨h.os,h.tape,h.output,h.size,fun i hi hn=>h.block i hi fun e=>hn (.inl e)⟩
theorem ao_now (hG:AG w pa pm nn kk s F)(k:Below w.heap.size w w')(i:Int):AO w w' (.returned (.tuple #[.int .i64 i,.int .i64 0])) pa pm nn kk F (s,some i):=
 ⟨i,0,rfl,fun h=>(by cases h),fun j h=>(by cases h;exact⟨rfl,rfl⟩),F,hG.below k,fun _ h=> .inl h,butF_below k⟩
theorem ao_not (hG:AG w pa pm nn kk s F)(k:Below w.heap.size w w'){x er:Int}(he:er≠0):AO w w' (.returned (.tuple #[.int .i64 x,.int .i64 er])) pa pm nn kk F (s,none):=
 ⟨x,er,rfl,fun _=>he,fun j h=>(by cases h),F,hG.below k,fun _ h=> .inl h,butF_below k⟩
theorem md_ao {e:Ending}{C:Nat→Prop}{nv:Value}{bm:Nat}{X:List NR}{D:DataW Value}{n:Nd}(hG:AG w pa pm nn kk s F)(hA:AS w pa pm s.L C 2097152 nv bm X D)(hpm: ¬FF pa bm nv C pm)(hF: ∀b,FF pa bm nv C b→F b)(h:MD w w' e pa pm s.L C 2097152 nv bm nn kk s.c s.er n):AO w w' e pa pm nn kk F (put nn kk s n):=by
 have hn:n∉s.L→¬ ∃i:Nat,s.L[i]? =some n:=fun h ⟨i,hi⟩=>h (List.mem_of_getElem? hi)
 have h0:=hG.c0
 have h1:=hG.cn
 have h2:=hG.n2
 have h3:=hG.e0
 have h4:=hG.e2
 have h5:=hG.ln
 rcases h with⟨i,g1,rfl,k⟩|⟨g1,g2,rfl,g4,k⟩|⟨g1,g2,rfl,g4,C',nv',X',D',g5,g6,g7⟩
 ·rw[put_found hA.uq g1]
  exact ao_now hG k i
 ·change (mstep nn kk s.c s.er (nums n)).1≠0 at g2
  change MB w' pm nn kk (mstep nn kk s.c s.er (nums n)).2.1 (mstep nn kk s.c s.er (nums n)).2.2 at g4
  have hA':AS w' pa pm s.L C 2097152 nv bm X D:=hA.move k.size fun b hb=>k.block b (hA.fl hb) fun e=>hpm (e▸hb)
  unfold put
  rw[if_neg (spot_no (hn g1)),if_neg g2]
  refine⟨_,_,rfl,fun _=>g2,fun i h=>(by cases h),F,⟨⟨C,nv,bm,X,D,hA',hpm,hF⟩,g4,?_,?_,h2,?_,?_,?_,fun b hb=>Nat.lt_of_lt_of_le (hG.fl b hb) k.size⟩,fun b hb=> .inl hb,but_butF k⟩
  all_goals
   rcases mstep_cases nn kk s.c s.er (nums n)with⟨a1,a2⟩|⟨a1,r,a2,a3,a4⟩|⟨a1,a2,a3,a4⟩
  all_goals
   first
    |(rw[a2];dsimp only;omega)
    |(rw[a3];dsimp only;omega)
 change (mstep nn kk s.c s.er (nums n)).1=0 at g2
 change MB w' pm nn kk (mstep nn kk s.c s.er (nums n)).2.1 (mstep nn kk s.c s.er (nums n)).2.2 at g4
 unfold put
 rw[if_neg (spot_no (hn g1)),if_pos g2]
 have hpm': ¬FF pa bm nv' C' pm:=fun hf=>(g6 pm hf).elim hpm fun h=>absurd (hG.mb.lt) o_m
 refine⟨_,_,rfl,fun h=>(by cases h),fun i h=>(by cases h;exact⟨rfl,rfl⟩),FF pa bm nv' C',⟨⟨C',nv',bm,X',D',g5,hpm',fun _ hb=>hb⟩,g4,?_,?_,h2,?_,?_,?_,fun b hb=>g5.fl hb⟩,fun b hb=>(g6 b hb).imp (hF b) id,g7.mono fun b hb=>hb.imp id (hF b)⟩
 all_goals
  rcases mstep_cases nn kk s.c s.er (nums n)with⟨a1,a2⟩|⟨a1,r,a2,a3,a4⟩|⟨a1,a2,a3,a4⟩
 all_goals
  first
   |(rw[a2]at g2;exact absurd g2 a1)
   |(rw[a3]at g2;exact absurd g2 a2)
   |(rw[a2];dsimp only;simp only[List.length_append,List.length_cons,List.length_nil];omega)
   |(rw[a2];dsimp only;omega)

theorem atom_ao {sd:Bool}{ad:Option Addr}{ld cd:Nat}{ap:Option Addr}{np cp:Nat}{sk:Bool}{ak:Option Addr}{lk ck:Nat}{d k:Int}{ps:List (Int × Int)}{B:Nat}
  (hG:AG w pa pm nn kk s F)(hd:Zm w sd ad ld cd d)(hld:ld≤B)(hP:Pr w ap np ps B)(hk:Zm w sk ak lk ck k)(hlk:lk≤B)(hn:np≤209716)(hB:B≤1048576)(htab:Tab w):
  Calls Tryz.prog 17 #[.pointer (some ⟨pa,0,none⟩),.agg #[.int .i64 kd,.bool sd,.slice ad ld cd,.slice ap np cp,.bool sk,.slice ak lk ck]] w fun e w'=>AO w w' e pa pm nn kk F (asked nn kk s (atomA kd d ps k)):=by
 obtain⟨C,nv,bm,X,D,hA,hpm,hF⟩:=hG.ar
 have h1:=hG.cn
 have h2:=hG.n2
 have h3:=hG.ln
 refine(atom8_n hA hG.mb hpm hG.c0 hG.cn hG.n2 hG.e0 hG.e2 hd hld hP hk hlk hn o_m o_m htab).mono ?_
 intro e w' h
 unfold AM at h
 unfold atomA
 cases hf:formA kd d (nz (lays [] ps)) k with
 |inr er=>
  rw[hf]at h
  obtain⟨rfl,kb⟩:=h
  exact ao_not hG kb (by rcases formA_er hf with rfl|rfl <;> decide)
 |inl f=>
  rw[hf]at h
  exact md_ao hG hA hpm hF h

theorem join_ao {ka:Option Addr}{kc:Nat}{l:List Int}(hkd:kd=5∨kd=6)
  (hG:AG w pa pm nn kk s F)(hI:IL w ka l.length l)(hl:l.length≤1048576)(hi: ∀x∈l,0≤x∧x<(s.L.length:Int))(htab:Tab w):
  Calls Tryz.prog 30 #[.pointer (some ⟨pa,0,none⟩),.int .i64 kd,.slice ka l.length kc] w fun e w'=>AO w w' e pa pm nn kk F (asked nn kk s (joinA kd l)):=by
 obtain⟨C,nv,bm,X,D,hA,hpm,hF⟩:=hG.ar
 have h1:=hG.cn
 have h2:=hG.n2
 have h3:=hG.ln
 refine(join8_n hA hG.mb hpm hG.c0 hG.cn hG.n2 hG.e0 hG.e2 hI hl o_m htab).mono ?_
 intro e w' h
 unfold JO at h
 rw[if_neg (fun h=>h hkd),if_neg (by
  intro ha
  obtain⟨x,hx,hx2⟩:=List.any_eq_true.1 ha
  have:=hi x hx
  unfold lck at hx2
  simp at hx2
  omega)]at h
 unfold joinA
 cases hr:ris l with
 |nil=>
  rw[hr]at h
  obtain⟨rfl,kb⟩:=h
  exact ao_now hG kb _
 |cons x t=>
  cases t with
  |nil=>
   rw[hr]at h
   obtain⟨rfl,kb⟩:=h
   exact ao_now hG kb _
  |cons y t=>
   rw[hr]at h
   exact md_ao hG hA hpm hF h

theorem bind_ao {v kid:Int}(hkd:kd=7∨kd=8)
  (hG:AG w pa pm nn kk s F)(hv:I64 v)(hi:0≤kid∧kid<(s.L.length:Int))(htab:Tab w):
  Calls Tryz.prog 31 #[.pointer (some ⟨pa,0,none⟩),.int .i64 kd,.int .i64 v,.int .i64 kid] w fun e w'=>AO w w' e pa pm nn kk F (asked nn kk s (.inr ⟨kd,0,[],0,v,[kid]⟩)):=by
 obtain⟨C,nv,bm,X,D,hA,hpm,hF⟩:=hG.ar
 have h1:=hG.cn
 have h2:=hG.n2
 have h3:=hG.ln
 refine(bind8_n hA hG.mb hpm hG.c0 hG.cn hG.n2 hG.e0 hG.e2 hv (by unfold I64;omega) o_m htab).mono ?_
 intro e w' h
 unfold BI at h
 rw[if_neg (fun h=>h hkd),if_neg o_m]at h
 exact md_ao hG hA hpm hF h
theorem new_ag (htab:Tab w):Calls Tryz.prog 6 #[.pointer none] w fun e w'=> ∃pa pm F,e= .returned (.pointer (some ⟨pa,0,none⟩))∧AG w' pa pm 2000 8 st0 F∧(∀b,F b→w.heap.size≤b)∧w.heap.size≤pm∧Below w.heap.size w w':=by
 refine(newN_n htab).mono ?_
 rintro e w' ⟨pm,pa,C,nv,bm,X,D,rfl,hA,hM,hpm,hF,hpw,k⟩
 exact⟨pa,pm,FF pa bm nv C,rfl,⟨⟨C,nv,bm,X,D,hA,hpm,fun _ hb=>hb⟩,hM,by decide,by decide,by decide,by decide,by decide,by decide,fun b hb=>hA.fl hb⟩,hF,hpw,k⟩
end Nt
namespace Nt

structure M9 (w:World) (b o:Nat) (kd xk:Int) (sd:Bool) (ad:Option Addr) (ld cd:Nat) (ap:Option Addr) (np cp:Nat) (sk:Bool) (ak:Option Addr) (lk ck:Nat) (v:Int) (ka:Option Addr) (kn kc:Nat):Prop where
 c0:w.cell? ⟨b,o,none⟩=some (.int .i64 kd)
 c1:w.cell? ⟨b,o+1,none⟩=some (.int .i64 xk)
 c2:w.cell? ⟨b,o+2,none⟩=some (.bool sd)
 c3:w.cell? ⟨b,o+3,none⟩=some (.slice ad ld cd)
 c4:w.cell? ⟨b,o+4,none⟩=some (.slice ap np cp)
 c5:w.cell? ⟨b,o+5,none⟩=some (.bool sk)
 c6:w.cell? ⟨b,o+6,none⟩=some (.slice ak lk ck)
 c7:w.cell? ⟨b,o+7,none⟩=some (.int .i64 v)
 c8:w.cell? ⟨b,o+8,none⟩=some (.slice ka kn kc)
theorem M9.below {w w':World}{b o:Nat}{kd xk:Int}{sd:Bool}{ad:Option Addr}{ld cd:Nat}{ap:Option Addr}{np cp:Nat}{sk:Bool}{ak:Option Addr}{lk ck:Nat}{v:Int}{ka:Option Addr}{kn kc:Nat}(h:M9 w b o kd xk sd ad ld cd ap np cp sk ak lk ck v ka kn kc)(k:Below w.heap.size w w'):M9 w' b o kd xk sd ad ld cd ap np cp sk ak lk ck v ka kn kc:=by
 have hb:b<w.heap.size:=World.block_lt_of_cell? w ⟨b,o,none⟩ h.c0
 have hc: ∀i,w'.cell? ⟨b,i,none⟩=w.cell? ⟨b,i,none⟩:=fun i=>k.cell (p:=⟨b,i,none⟩) hb
 exact⟨(hc _).trans h.c0,(hc _).trans h.c1,(hc _).trans h.c2,(hc _).trans h.c3,(hc _).trans h.c4,(hc _).trans h.c5,(hc _).trans h.c6,(hc _).trans h.c7,(hc _).trans h.c8⟩
def MA (w:World)(b o:Nat)(m:Mk)(B:Nat):Prop:=
 ∃sd ad ld cd ap np cp sk ak lk ck ka kn kc,M9 w b o m.kind m.xk sd ad ld cd ap np cp sk ak lk ck m.v ka kn kc∧
  Zm w sd ad ld cd m.xd∧ld≤B∧Pr w ap np m.xp B∧np≤209716∧Zm w sk ak lk ck m.xt∧lk≤B∧IL w ka kn m.kids∧kn≤B∧I64 m.kind∧I64 m.v
theorem MA.below {w w':World}{b o:Nat}{m:Mk}{B:Nat}(h:MA w b o m B)(k:Below w.heap.size w w'):MA w' b o m B:=by
 obtain⟨sd,ad,ld,cd,ap,np,cp,sk,ak,lk,ck,ka,kn,kc,h0,g1,g2,g3,g4,g5,g6,g7,g8⟩:=h
 exact⟨sd,ad,ld,cd,ap,np,cp,sk,ak,lk,ck,ka,kn,kc,h0.below k,g1.below k,g2,g3.below k,g4,g5.below k,g6,g7.below k,g8⟩
def ML (w:World)(ad:Option Addr)(n:Nat)(R:List Mk)(B:Nat):Prop:=
 R.length=n∧(n=0∨ ∃b off,ad=some ⟨b,off,none⟩∧b<w.heap.size∧∀i (h:i<R.length),MA w b (off+i*9) R[i] B)
theorem ML.below {w w':World}{ad:Option Addr}{n:Nat}{R:List Mk}{B:Nat}(h:ML w ad n R B)(k:Below w.heap.size w w'):ML w' ad n R B:=by
 refine⟨h.1,?_⟩
 rcases h.2 with h2|⟨b,off,h2,h3,h4⟩
 ·exact .inl h2
 exact .inr ⟨b,off,h2,Nat.lt_of_lt_of_le h3 k.size,fun i hi=>(h4 i hi).below k⟩

end Nt
namespace Nt

theorem upto_has {d:Array Int}: ∀m j,j<m→d[j]! ∈Lib.compactUpTo d m
 |0,j,h=>absurd h o_m
 |m+1,j,h=>by
  rw[Lib.compactUpTo_succ]
  by_cases hj:j<m
  ·exact List.mem_append_left _ (upto_has m j hj)
  obtain rfl:j=m:=by omega
  by_cases hk:Lib.keeps d j=true
  ·rw[if_pos hk]
   simp
  have h4: ¬(j=0∨d[j]! ≠d[j-1]!):=fun e=>hk (decide_eq_true e)
  have h5:j≠0:=fun e=>h4 (.inl e)
  have h6:d[j]! =d[j-1]!:=Decidable.byContradiction fun e=>h4 (.inr e)
  rw[h6]
  exact List.mem_append_left _ (upto_has j (j-1) o_m)
theorem mem_ris (l:List Int)(x:Int):x∈ris l↔x∈l:=by
 refine⟨ris_mem,fun h=> ?_⟩
 have h1:x∈l.mergeSort fun x y=>decide (x≤y):=List.mem_mergeSort.2 h
 obtain⟨j,hj,rfl⟩:=List.mem_iff_getElem.1 h1
 have h2:=upto_has (d:=(l.mergeSort fun x y=>decide (x≤y)).toArray) (l.mergeSort fun x y=>decide (x≤y)).length j hj
 rw[getElem!_pos _ _ (by simpa using hj)]at h2
 simpa [ris,Lib.compact] using h2
end Nt
namespace Nt

variable {w w':World}{pa pm:Nat}{nn kk:Int}{F F':Nat→Prop}{vv:Value}
theorem own_move {base:Nat}{ty:TypeId}{st n:Nat}{v:Value}{l:List Value}(h:w.ownsRow base ty st v n l)(hm: ∀g,v.ownBlock=some g→w'.heap[g]? =w.heap[g]?):w'.ownsRow base ty st v n l:=by
 obtain⟨h1,h2⟩:=h
 refine⟨h1,?_⟩
 rcases h2 with h2|⟨g,cap,cur,e1,e2,e3,e4⟩
 ·exact .inl h2
 exact .inr ⟨g,cap,cur,e1,e2,(hm g (by rw[e1];rfl)).trans e3,e4⟩
theorem AG.move {s:St}(h:AG w pa pm nn kk s F)(hs:w.heap.size≤w'.heap.size)(hm: ∀b,F b∨b=pm→w'.heap[b]? =w.heap[b]?):AG w' pa pm nn kk s F:=by
 obtain⟨⟨C,nv,bm,X,D,h1,h2,h3⟩,h4,h5,h6,h7,h8,h9,h10,h11⟩:=h
 exact⟨⟨C,nv,bm,X,D,h1.move hs fun b hb=>hm b (.inl (h3 b hb)),h2,h3⟩,(hm pm (.inr rfl)).trans h4,h5,h6,h7,h8,h9,h10,fun b hb=>Nat.lt_of_lt_of_le (h11 b hb) hs⟩
def BT (w w':World)(e:Ending)(pa pm:Nat)(nn kk:Int)(F:Nat→Prop)(p:St × List Int):Prop:=
 ∃a c F',e= .returned (.slice a p.2.length c)∧IL w' a p.2.length p.2∧InF (fun b=>w.heap.size≤b∧¬F' b) a p.2.length∧AG w' pa pm nn kk p.1 F'∧(∀b,F' b→F b∨w.heap.size≤b)∧ButF (fun b=>b=pm∨F b) w w'
structure LI (w wr:World) (pa pm:Nat) (nn kk:Int) (F:Nat→Prop) (p:St × List Int) (vv:Value) (F':Nat→Prop):Prop where
 row:wr.ownsRow w.heap.size 3 1 vv p.2.length (p.2.map (Value.int .i64))
 apart: ∀g,vv.ownBlock=some g→¬F' g
 ag:AG wr pa pm nn kk p.1 F'
 sub: ∀b,F' b→F b∨w.heap.size≤b
 but:ButF (fun b=>b=pm∨F b) w wr
theorem LI.below {wr w2:World}{p:St × List Int}(h:LI w wr pa pm nn kk F p vv F')(k:Below wr.heap.size wr w2):LI w w2 pa pm nn kk F p vv F':=
 ⟨own_move h.row fun g e=>k.block g (h.row.lt g e).2,h.apart,h.ag.below k,h.sub,ButF.trans h.but (butF_below k) fun _ _ h=>h⟩
theorem LI.asked {w2 w3:World}{F3:Nat→Prop}{p:St × List Int}{s':St}(h:LI w w2 pa pm nn kk F p vv F')(hG3:AG w3 pa pm nn kk s' F3)(hF3: ∀b,F3 b→F' b∨w2.heap.size≤b)(hB3:ButF (fun b=>b=pm∨F' b) w2 w3)(hpm:pm<w.heap.size):LI w w3 pa pm nn kk F (s',p.2) vv F3:=by
 have hs:=h.but.size
 refine⟨own_move h.row fun g e=> ?_,fun g e hf=> ?_,hG3,fun b hb=> ?_,ButF.trans h.but hB3 fun b hb hf=> ?_⟩
 ·have hl:=h.row.lt g e
  refine hB3.block g hl.2 fun hf=> ?_
  rcases hf with rfl|hf
  ·omega
  exact h.apart g e hf
 ·have hl:=h.row.lt g e
  rcases hF3 g hf with h1|h1
  ·exact h.apart g e h1
  omega
 ·rcases hF3 b hb with h1|h1
  ·exact h.sub b h1
  exact .inr o_m
 rcases hf with h1|h1
 ·exact .inl h1
 rcases h.sub b h1 with h2|h2
 ·exact .inr h2
 omega
theorem LI.append {w3 w4:World}{F3:Nat→Prop}{s':St}{ids:List Int}{v':Value}{x:Int}(h:LI w w3 pa pm nn kk F (s',ids) vv F3)(hown:w4.ownsRow w.heap.size 3 1 v' (ids.length+1) (ids.map (Value.int .i64)++ [.int .i64 x]))(hgrow:(w3.alloc (.cells #[.int .i64 x] 3)).grownBy w4 vv.ownBlock)(hat:v'.ownBlock=vv.ownBlock∨v'.ownBlock=some (w3.alloc (.cells #[.int .i64 x] 3)).heap.size)(hpm:pm<w.heap.size):LI w w4 pa pm nn kk F (s',ids++ [x]) v' F3:=by
 have ka:=below_alloc w3 (.cells #[.int .i64 x] 3)
 have hs:=h.but.size
 have hsz:(w3.alloc (.cells #[.int .i64 x] 3)).heap.size=w3.heap.size+1:=by simp
 have hblk: ∀b,b<w3.heap.size→some b≠vv.ownBlock→w4.heap[b]? =w3.heap[b]?:=fun b hb hn=>(hgrow.block b o_m hn).trans (ka.block b hb)
 refine⟨by simpa using hown,fun g e hf=> ?_,h.ag.move (by have:=hgrow.size;omega) fun b hb=> ?_,h.sub,ButF.trans h.but (G:=fun b=>vv.ownBlock=some b) ⟨hgrow.os.trans ka.os,hgrow.tape.trans ka.tape,hgrow.output.trans ka.output,by have:=hgrow.size;omega,fun i hi hn=>hblk i hi fun e=>hn e.symm⟩ fun b hb hf=> ?_⟩
 ·rcases hat with h1|h1
  ·exact h.apart g (h1.symm.trans e) hf
  rw[h1]at e
  injection e with e
  have:=h.ag.fl g hf
  omega
 ·rcases hb with hb|rfl
  ·exact hblk b (h.ag.fl b hb) fun e=>h.apart b e.symm hb
  exact hblk b o_m fun e=>by have:=(h.row.lt b e.symm).1;omega
 have:=(h.row.lt b hf).1
 omega
theorem LI.bt {wr:World}{p:St × List Int}{a:Option Addr}{n c:Nat}(h:LI w wr pa pm nn kk F p (.slice a n c) F')(hx: ∀x∈p.2,I64 x):BT w wr (.returned (.slice a n c)) pa pm nn kk F p:=by
 obtain⟨a1,c1,e1,hI,hn⟩:=row_il h.row hx
 cases e1
 refine⟨a,c,F',rfl,hI,fun b off e h0=>⟨hn b off e h0,?_⟩,h.ag,h.sub,h.but⟩
 subst e
 exact h.apart _ rfl
theorem head_get {l:List Int}(h:0<l.length):l[0]=l.headD 0:=by
 cases l with
 |nil=>simp at h
 |cons a t=>rfl
theorem M9.move {b o:Nat}{kd xk:Int}{sd:Bool}{ad:Option Addr}{ld cd:Nat}{ap:Option Addr}{np cp:Nat}{sk:Bool}{ak:Option Addr}{lk ck:Nat}{v:Int}{ka:Option Addr}{kn kc:Nat}(h:M9 w b o kd xk sd ad ld cd ap np cp sk ak lk ck v ka kn kc)(hb:w'.heap[b]? =w.heap[b]?):M9 w' b o kd xk sd ad ld cd ap np cp sk ak lk ck v ka kn kc:=by
 have hc: ∀i,w'.cell? ⟨b,i,none⟩=w.cell? ⟨b,i,none⟩:=fun i=>World.cell?_of_block (a:=⟨b,i,none⟩) hb
 exact⟨(hc _).trans h.c0,(hc _).trans h.c1,(hc _).trans h.c2,(hc _).trans h.c3,(hc _).trans h.c4,(hc _).trans h.c5,(hc _).trans h.c6,(hc _).trans h.c7,(hc _).trans h.c8⟩
theorem m9_S {b o b2 o2:Nat}{x:Value}{kd xk:Int}{sd:Bool}{ad:Option Addr}{ld cd:Nat}{ap:Option Addr}{np cp:Nat}{sk:Bool}{ak:Option Addr}{lk ck:Nat}{v:Int}{ka:Option Addr}{kn kc:Nat}(h:M9 w b o kd xk sd ad ld cd ap np cp sk ak lk ck v ka kn kc)(h2:w.cell? ⟨b2,o2,none⟩=some x):w.cell? ⟨b,o,none⟩=some (.int .i64 kd)∧w.cell? ⟨b,o+1,none⟩=some (.int .i64 xk)∧w.cell? ⟨b,o+2,none⟩=some (.bool sd)∧w.cell? ⟨b,o+3,none⟩=some (.slice ad ld cd)∧w.cell? ⟨b,o+4,none⟩=some (.slice ap np cp)∧w.cell? ⟨b,o+5,none⟩=some (.bool sk)∧w.cell? ⟨b,o+6,none⟩=some (.slice ak lk ck)∧w.cell? ⟨b,o+7,none⟩=some (.int .i64 v)∧w.cell? ⟨b,o+8,none⟩=some (.slice ka kn kc)∧w.cell? ⟨b2,o2,none⟩=some x:=⟨h.c0,h.c1,h.c2,h.c3,h.c4,h.c5,h.c6,h.c7,h.c8,h2⟩
theorem own_two (w:World)(x y:Int):(w.alloc (.cells #[.int .i64 x,.int .i64 y] 3)).ownsRow w.heap.size 3 1 (.slice (some ⟨w.heap.size,0,none⟩) 2 2) 2 (([x,y]:List Int).map (Value.int .i64)):=
 ⟨rfl,.inr ⟨w.heap.size,2,#[.int .i64 x,.int .i64 y],rfl,Nat.le_refl _,heap_alloc_new w _,Nat.le_refl _,by unfold maxLen;decide,rfl,rfl⟩⟩

end Nt
namespace Nt

end Nt
namespace Nt

theorem lim_0 :lim 0=0:=by
 unfold lim
 rw[show(0:Int).natAbs=0 from rfl]
 rw[limbs_def]
 rfl
theorem lim_1 :lim 1=1:=by
 unfold lim
 rw[show(1:Int).natAbs=1 from rfl]
 rw[limbs_def]
 rw[dif_neg (by decide),show 1 / 4294967296=0 from rfl]
 rw[limbs_def]
 rfl
theorem not_in {L:List Nd}{n:Nd}(h: ∀x∈L,x.kind≠n.kind)(i:Nat):L[i]? ≠some n:=fun hi=>h n (List.mem_of_getElem? hi) rfl
end Nt
namespace Nt

variable {w:World}{pa pm:Nat}{F:Nat→Prop}{L:List Nd}
structure AX (w:World) (pa pm:Nat) (L:List Nd) (F:Nat→Prop):Prop where
 ar: ∃C nv bm X D,AS w pa pm L C 2097152 nv bm X D∧¬FF pa bm nv C pm∧∀b,FF pa bm nv C b→F b
 fl: ∀b,F b→b<w.heap.size
theorem AG.ax {nn kk:Int}{s:St}(h:AG w pa pm nn kk s F):AX w pa pm s.L F:=⟨h.ar,h.fl⟩
theorem AX.move {w':World}(h:AX w pa pm L F)(hs:w.heap.size≤w'.heap.size)(hm: ∀b,F b→w'.heap[b]? =w.heap[b]?):AX w' pa pm L F:=by
 obtain⟨⟨C,nv,bm,X,D,h1,h2,h3⟩,h11⟩:=h
 exact⟨⟨C,nv,bm,X,D,h1.move hs fun b hb=>hm b (h3 b hb),h2,h3⟩,fun b hb=>Nat.lt_of_lt_of_le (h11 b hb) hs⟩
theorem AX.below {w':World}(h:AX w pa pm L F)(k:Below w.heap.size w w'):AX w' pa pm L F:=h.move k.size fun b hb=>k.block b (h.fl b hb)
theorem InF.mono {a:Option Addr}{n:Nat}{G H:Nat→Prop}(h:InF G a n)(hG: ∀b,G b→H b):InF H a n:=fun b off e h0=>hG b (h b off e h0)

theorem meter8_n (h:AX w pa pm L F):Calls Tryz.prog 13 #[.pointer (some ⟨pa,0,none⟩)] w fun e w'=>e= .returned (.pointer (some ⟨pm,0,none⟩))∧w'=w:=by
 obtain⟨C,nv,bm,X,D,hA,-,-⟩:=h.ar
 have u0:w.cell? ⟨pa,0,none⟩=some (.pointer (some ⟨pm,0,none⟩)):=cell_of_row _ pa 0 _ _ (0,0) hA.blk
 clear hA
 go_enter Tryz.func13,Tryz.ntmps13
 go_wp2
 go_ret
 exact⟨rfl,rfl⟩
end Nt
namespace Nt

theorem flat_get : ∀(X:List NR) (i j:Nat) (h:i<X.length),j<8→(X.flatMap NR.enc)[i*8+j]? =(X[i].enc)[j]?
 | [],i,j,h,_=>absurd h (Nat.not_lt_zero _)
 |x::X,0,j,_,hj=>by
  rw[List.flatMap_cons,List.getElem?_append_left (by simp[NR.enc];omega)]
  simp
 |x::X,i+1,j,h,hj=>by
  rw[List.flatMap_cons,List.getElem?_append_right (by simp[NR.enc];omega)]
  have h1:=flat_get X i j (by simpa using h) hj
  rw[show(i+1)*8+j-x.enc.length=i*8+j by simp[NR.enc];omega,h1]
  rfl
theorem AS.cell {w:World}{pa pm:Nat}{L:List Nd}{C:Nat→Prop}{B:Nat}{nv:Value}{bm:Nat}{X:List NR}{D:DataW Value}(h:AS w pa pm L C B nv bm X D){i:Nat}(hi:i<L.length):
  ∃g cap,nv= .slice (some ⟨g,0,none⟩) L.length cap∧∀j,j<8→∀(hX:i<X.length),w.cell? ⟨g,i*8+j,none⟩=(X[i].enc)[j]?:=by
 rcases h.row.2 with⟨_,h0⟩|⟨g,cap,cur,e1,_,e3,h1,h2,h3,h4⟩
 ·omega
 refine⟨g,cap,e1,fun j hj hX=> ?_⟩
 rw[cell_of_row w g (i*8+j) _ _ (0,0) e3,←flat_get X i j hX hj,←h4,List.getElem?_take,if_pos o_m]
 simp
def nE (x:NR):Array Value:=#[.int .i64 x.kd,.bool x.sd,.slice x.ad x.ld x.cd,.slice x.ap x.np x.cp,.bool x.sk,.slice x.ak x.lk x.ck,.int .i64 x.vr,.slice x.ka x.kn x.kc]
def NDF (w w':World)(e:Ending)(n:Nd):Prop:=
 ∃x:NR,e= .returned (.tuple #[.agg (nE x),.bool true])∧x.kd=n.kind∧x.vr=n.var∧Zn w' x.sd x.ad x.ld x.cd n.d∧New w.heap.size x.ad x.ld∧PnF (fun b=>w.heap.size≤b) w' x.ap x.np n.ps 2097152∧Zn w' x.sk x.ak x.lk x.ck n.k∧New w.heap.size x.ak x.lk∧IL w' x.ka x.kn n.kids∧New w.heap.size x.ka x.kn∧Below w.heap.size w w'

theorem node8_f {w:World}{pa pm:Nat}{L:List Nd}{F:Nat→Prop}(h:AX w pa pm L F){i:Nat}(hi:i<L.length):Calls Tryz.prog 39 #[.pointer (some ⟨pa,0,none⟩),.int .i64 (i:Int)] w fun e w'=>NDF w w' e L[i]:=by
 obtain⟨C,nv,bm,X,D,hA,-,-⟩:=h.ar
 have hlk:=hide (lacks_n (hA.below (below_alloc w (.cells #[.int .i64 0,.bool false,.slice none 0 0,.slice none 0 0,.bool false,.slice none 0 0,.int .i64 0,.slice none 0 0] 69))) (i:Int))
 rw[decide_eq_false o_m]at hlk
 have hXi:i<X.length:=by have:=hA.len;omega
 obtain⟨g,cap,rfl,hcell⟩:=hA.cell hi
 have hN:=hA.nodes i hi
 generalize L[i]=n at*
 have hc:=fun j hj=>hcell j hj hXi
 generalize X[i]=x at*
 have e0:=hc 0 (by decide)
 have e1:=hc 1 (by decide)
 have e2:=hc 2 (by decide)
 have e3:=hc 3 (by decide)
 have e4:=hc 4 (by decide)
 have e5:=hc 5 (by decide)
 have e6:=hc 6 (by decide)
 have e7:=hc 7 (by decide)
 clear hc hcell
 simp only[NR.enc,List.getElem?_cons_zero,List.getElem?_cons_succ,Nat.add_zero]at e0 e1 e2 e3 e4 e5 e6 e7
 have u1:w.cell? ⟨pa,1,none⟩=some (.slice (some ⟨g,0,none⟩) L.length cap):=cell_of_row _ pa 1 _ _ (0,0) hA.blk
 have hgl:g<w.heap.size:=World.block_lt_of_cell? w _ e0
 have hpl:=hA.pal
 have b0:=below_alloc w (.cells #[.int .i64 0,.bool false,.slice none 0 0,.slice none 0 0,.bool false,.slice none 0 0,.int .i64 0,.slice none 0 0] 69)
 have y:=NB.new w 0 false none 0 0 none 0 0 false none 0 0 0 none 0 0
 go_enter Tryz.func39,Tryz.ntmps39
 go_wp2_with(go_at_call 69;refine hlk.out.mono ?_;rintro e w1 ⟨rfl,rfl⟩)
 have hsz:(w.alloc (.cells #[.int .i64 0,.bool false,.slice none 0 0,.slice none 0 0,.bool false,.slice none 0 0,.int .i64 0,.slice none 0 0] 69)).heap.size=w.heap.size+1:=by simp
 refine(copied_n (hN.zd.below b0) hN.hld (hN.pn.pn.below b0) (hN.zk.below b0) hN.hlk (hN.kids.below b0) hN.hnp hN.hkn (Nat.le_refl _)).mono ?_
 rintro e w2 ⟨ad,cd,ap,cp,ak,ck,ka,kc,rfl,hz,hn1,hp,hk,hn2,hI,hn3,k2⟩
 have y2:=y.below k2
 replace k2:=hide (grow_step k2 b0)
 rw[hsz]at hn1 hp hn2 hn3
 have hkd:=hN.kd
 have hvr:=hN.vr
 clear hA hN hlk h b0 y hsz e0 e1 e2 e3 e4 e5 e6 e7 u1 hgl hpl
 generalize hpe:w.heap.size=p at*
 replace k2:Hid (Below w.heap.size w w2):=hpe▸k2
 have g0:=y2.c0
 have f0:=y2.f 0
 have g1:=y2.c1
 have f1:=y2.f 1
 have g2:=y2.c2
 have f2:=y2.f 2
 have g3:=y2.c3
 have f3:=y2.f 3
 have g4:=y2.c4
 have f4:=y2.f 4
 have g5:=y2.c5
 have f5:=y2.f 5
 have g6:=y2.c6
 have f6:=y2.f 6
 have g7:=y2.c7
 have f7:=y2.f 7
 iterate 6 (first|go_skip|go_guarded|go_step|go_upon|go_simp)
 clear g0 g1 g2 g3 g4 g5 g6 g7 f0 f1 f2 f3 f4 f5 f6 f7
 have hfin:=hide (nb_fin y2 n.kind x.sd ad x.ld cd ap x.np cp x.sk ak x.lk ck n.var ka x.kn kc)
 have h8:Hid (∀b,b≠p→((((((((w2.setCell ⟨p,0,none⟩ (.int .i64 n.kind)).setCell ⟨p,1,none⟩ (.bool x.sd)).setCell ⟨p,2,none⟩ (.slice ad x.ld cd)).setCell ⟨p,3,none⟩ (.slice ap x.np cp)).setCell ⟨p,4,none⟩ (.bool x.sk)).setCell ⟨p,5,none⟩ (.slice ak x.lk ck)).setCell ⟨p,6,none⟩ (.int .i64 n.var)).setCell ⟨p,7,none⟩ (.slice ka x.kn kc)).heap[b]? =w2.heap[b]?):=hide fun b hb=>heap_eight hb _ _ _ _ _ _ _ _
 have hs8:Hid (w2.heap.size≤((((((((w2.setCell ⟨p,0,none⟩ (.int .i64 n.kind)).setCell ⟨p,1,none⟩ (.bool x.sd)).setCell ⟨p,2,none⟩ (.slice ad x.ld cd)).setCell ⟨p,3,none⟩ (.slice ap x.np cp)).setCell ⟨p,4,none⟩ (.bool x.sk)).setCell ⟨p,5,none⟩ (.slice ak x.lk ck)).setCell ⟨p,6,none⟩ (.int .i64 n.var)).setCell ⟨p,7,none⟩ (.slice ka x.kn kc)).heap.size):=hide (by simp)
 have kz:Hid (Below w.heap.size w ((((((((w2.setCell ⟨p,0,none⟩ (.int .i64 n.kind)).setCell ⟨p,1,none⟩ (.bool x.sd)).setCell ⟨p,2,none⟩ (.slice ad x.ld cd)).setCell ⟨p,3,none⟩ (.slice ap x.np cp)).setCell ⟨p,4,none⟩ (.bool x.sk)).setCell ⟨p,5,none⟩ (.slice ak x.lk ck)).setCell ⟨p,6,none⟩ (.int .i64 n.var)).setCell ⟨p,7,none⟩ (.slice ka x.kn kc))):=hide ((((((((k2.out.setCell (p:=⟨p,0,none⟩) (show w.heap.size≤p by omega) (.int .i64 n.kind)).setCell (p:=⟨p,1,none⟩) (show w.heap.size≤p by omega) (.bool x.sd)).setCell (p:=⟨p,2,none⟩) (show w.heap.size≤p by omega) (.slice ad x.ld cd)).setCell (p:=⟨p,3,none⟩) (show w.heap.size≤p by omega) (.slice ap x.np cp)).setCell (p:=⟨p,4,none⟩) (show w.heap.size≤p by omega) (.bool x.sk)).setCell (p:=⟨p,5,none⟩) (show w.heap.size≤p by omega) (.slice ak x.lk ck)).setCell (p:=⟨p,6,none⟩) (show w.heap.size≤p by omega) (.int .i64 n.var)).setCell (p:=⟨p,7,none⟩) (show w.heap.size≤p by omega) (.slice ka x.kn kc))
 generalize ((((((((w2.setCell ⟨p,0,none⟩ (.int .i64 n.kind)).setCell ⟨p,1,none⟩ (.bool x.sd)).setCell ⟨p,2,none⟩ (.slice ad x.ld cd)).setCell ⟨p,3,none⟩ (.slice ap x.np cp)).setCell ⟨p,4,none⟩ (.bool x.sk)).setCell ⟨p,5,none⟩ (.slice ak x.lk ck)).setCell ⟨p,6,none⟩ (.int .i64 n.var)).setCell ⟨p,7,none⟩ (.slice ka x.kn kc))=w8 at*
 go_wp2
 refine bodyPost_ret (results_ct rfl _ _ p 69 _ (0,0) _ rfl hfin.out Tryz.underlying69 rfl k_f) rfl ?_
 refine⟨⟨n.kind,x.sd,ad,x.ld,cd,ap,x.np,cp,x.sk,ak,x.lk,ck,n.var,ka,x.kn,kc⟩,rfl,rfl,rfl,zn_move hz hs8.out fun b off e1 h0=>h8.out b (by have:=hn1 b off e1 h0;omega),fun b off e1 h0=>by have:=hn1 b off e1 h0;omega,?_,zn_move hk hs8.out fun b off e1 h0=>h8.out b (by have:=hn2 b off e1 h0;omega),fun b off e1 h0=>by have:=hn2 b off e1 h0;omega,il_move hI hs8.out fun b off e1 h0=>h8.out b (by have:=hn3 b off e1 h0;omega),fun b off e1 h0=>by have:=hn3 b off e1 h0;omega,kz.out⟩
 exact((hp.move hs8.out fun b hb _=>h8.out b o_m).pnF).move (Nat.le_refl _) (fun _ _ _=>rfl) fun b hb _=>by omega
end Nt
namespace Nt

theorem zn_limb {w:World}{s:Bool}{a:Option Addr}{l c:Nat}{z:Int}(h:Zn w s a l c z):l=lim z:=by
 obtain⟨n,⟨xs,hr,hc,hv⟩,hz,_⟩:=h
 have e:=canon_limbs hc
 have hl:l=xs.length:=hr.1.symm
 have hn:z.natAbs=(val xs).toNat:=by
  have h0:0≤n:=by rw[←hv];exact val_nonneg hr.2.2.2.1
  cases s <;> simp[sg]at hz <;> omega
 unfold lim
 rw[hn,←e,List.length_map,hl]
theorem pn_limb {w:World}{ad:Option Addr}{n:Nat}{ps:List (Int × Int)}{B B':Nat}(h:Pn w ad n ps B)(hl: ∀p∈ps,lim p.2≤B'):Pn w ad n ps B':=by
 refine⟨h.1,?_⟩
 rcases h.2 with h0|⟨b,off,e,hb,h2⟩
 ·exact .inl h0
 refine .inr ⟨b,off,e,hb,fun i hi=> ?_⟩
 obtain⟨s,a,l,c,c0,c1,c2,hz,_,hi6⟩:=h2 i hi
 exact⟨s,a,l,c,c0,c1,c2,hz,by rw[zn_limb hz];exact hl _ (List.getElem_mem hi),hi6⟩
end Nt
namespace Nt

end Nt
namespace Nt

variable {nn kk:Int}{F:Nat→Prop}{w:World}{pa pm:Nat}{s:St}
open Classical in
def putE (nn kk:Int)(s:St)(n:Nd):St × Int × Int:=
 if spot s.L n<s.L.length then(s,(spot s.L n:Int),0)
 else if(mstep nn kk s.c s.er (nums n)).1=0 then(⟨s.L++ [n],(mstep nn kk s.c s.er (nums n)).2.1,(mstep nn kk s.c s.er (nums n)).2.2⟩,(s.L.length:Int),0)
 else(⟨s.L,(mstep nn kk s.c s.er (nums n)).2.1,(mstep nn kk s.c s.er (nums n)).2.2⟩,0,(mstep nn kk s.c s.er (nums n)).1)
theorem putE_found {F:St}{n:Nd}{i:Nat}(hU:Uq F.L)(h:F.L[i]? =some n):putE nn kk F n=(F,(i:Int),0):=by
 have h9: ∃i:Nat,F.L[i]? =some n:=⟨i,h⟩
 unfold putE
 rw[if_pos (spot_at h9).1,hU _ i n (spot_at h9).2 h]
def actA (nn kk:Int)(s:St)(kd d:Int)(ps:List (Int × Int))(k:Int):St × Int × Int:=match formA kd d (nz (lays [] ps)) k with
 | .inr e=>(s,0,e)
 | .inl f=>putE nn kk s ⟨f.kind,f.d,f.ps,f.k,0,[]⟩
def actJ (nn kk:Int)(s:St)(kd:Int)(l:List Int):St × Int × Int:=
 if ¬(kd=5∨kd=6)then(s,0,1)else if l.any (lck s.L.length)=true then(s,0,80)else match ris l with
  | []=>(s,if kd=5 then 1 else 0,0)
  | [x]=>(s,x,0)
  |x::y::t=>putE nn kk s ⟨kd,0,[],0,0,x::y::t⟩
def actB (nn kk:Int)(s:St)(kd v kid:Int):St × Int × Int:=
 if ¬(kd=7∨kd=8)then(s,0,1)else if kid<0∨(s.L.length:Int)≤kid then(s,0,80)else putE nn kk s ⟨kd,0,[],0,v,[kid]⟩
def AO2 (w w':World)(e:Ending)(pa pm:Nat)(nn kk:Int)(F:Nat→Prop)(r:St × Int × Int):Prop:=
 e= .returned (.tuple #[.int .i64 r.2.1,.int .i64 r.2.2])∧∃F',AG w' pa pm nn kk r.1 F'∧(∀b,F' b→F b∨w.heap.size≤b)∧ButF (fun b=>b=pm∨F b) w w'
theorem ao2_now {w':World}(hG:AG w pa pm nn kk s F)(k:Below w.heap.size w w')(i er:Int):AO2 w w' (.returned (.tuple #[.int .i64 i,.int .i64 er])) pa pm nn kk F (s,i,er):=
 ⟨rfl,F,hG.below k,fun _ h=> .inl h,butF_below k⟩
theorem md_ao2 {w':World}{e:Ending}{C:Nat→Prop}{nv:Value}{bm:Nat}{X:List NR}{D:DataW Value}{n:Nd}(hG:AG w pa pm nn kk s F)(hA:AS w pa pm s.L C 2097152 nv bm X D)(hpm: ¬FF pa bm nv C pm)(hF: ∀b,FF pa bm nv C b→F b)(h:MD w w' e pa pm s.L C 2097152 nv bm nn kk s.c s.er n):AO2 w w' e pa pm nn kk F (putE nn kk s n):=by
 have hn:n∉s.L→¬ ∃i:Nat,s.L[i]? =some n:=fun h ⟨i,hi⟩=>h (List.mem_of_getElem? hi)
 have h0:=hG.c0
 have h1:=hG.cn
 have h2:=hG.n2
 have h3:=hG.e0
 have h4:=hG.e2
 have h5:=hG.ln
 rcases h with⟨i,g1,rfl,k⟩|⟨g1,g2,rfl,g4,k⟩|⟨g1,g2,rfl,g4,C',nv',X',D',g5,g6,g7⟩
 ·rw[putE_found hA.uq g1]
  exact ao2_now hG k _ _
 ·change (mstep nn kk s.c s.er (nums n)).1≠0 at g2
  change MB w' pm nn kk (mstep nn kk s.c s.er (nums n)).2.1 (mstep nn kk s.c s.er (nums n)).2.2 at g4
  have hA':AS w' pa pm s.L C 2097152 nv bm X D:=hA.move k.size fun b hb=>k.block b (hA.fl hb) fun e=>hpm (e▸hb)
  unfold putE
  rw[if_neg (spot_no (hn g1)),if_neg g2]
  refine⟨rfl,F,⟨⟨C,nv,bm,X,D,hA',hpm,hF⟩,g4,?_,?_,h2,?_,?_,?_,fun b hb=>Nat.lt_of_lt_of_le (hG.fl b hb) k.size⟩,fun b hb=> .inl hb,but_butF k⟩
  all_goals
   rcases mstep_cases nn kk s.c s.er (nums n)with⟨a1,a2⟩|⟨a1,r,a2,a3,a4⟩|⟨a1,a2,a3,a4⟩
  all_goals
   first
    |(rw[a2];dsimp only;omega)
    |(rw[a3];dsimp only;omega)
 change (mstep nn kk s.c s.er (nums n)).1=0 at g2
 change MB w' pm nn kk (mstep nn kk s.c s.er (nums n)).2.1 (mstep nn kk s.c s.er (nums n)).2.2 at g4
 unfold putE
 rw[if_neg (spot_no (hn g1)),if_pos g2]
 have hpm': ¬FF pa bm nv' C' pm:=fun hf=>(g6 pm hf).elim hpm fun h=>absurd (hG.mb.lt) o_m
 refine⟨rfl,FF pa bm nv' C',⟨⟨C',nv',bm,X',D',g5,hpm',fun _ hb=>hb⟩,g4,?_,?_,h2,?_,?_,?_,fun b hb=>g5.fl hb⟩,fun b hb=>(g6 b hb).imp (hF b) id,g7.mono fun b hb=>hb.imp id (hF b)⟩
 all_goals
  rcases mstep_cases nn kk s.c s.er (nums n)with⟨a1,a2⟩|⟨a1,r,a2,a3,a4⟩|⟨a1,a2,a3,a4⟩
 all_goals
  first
   |(rw[a2]at g2;exact absurd g2 a1)
   |(rw[a3]at g2;exact absurd g2 a2)
   |(rw[a2];dsimp only;simp only[List.length_append,List.length_cons,List.length_nil];omega)
   |(rw[a2];dsimp only;omega)


theorem atom_ao2 {kd:Int}{sd:Bool}{ad:Option Addr}{ld cd:Nat}{ap:Option Addr}{np cp:Nat}{sk:Bool}{ak:Option Addr}{lk ck:Nat}{d k:Int}{ps:List (Int × Int)}{B:Nat}
  (hG:AG w pa pm nn kk s F)(hd:Zm w sd ad ld cd d)(hld:ld≤B)(hP:Pr w ap np ps B)(hk:Zm w sk ak lk ck k)(hlk:lk≤B)(hn:np≤209716)(hB:B≤1500000)(htab:Tab w):
  Calls Tryz.prog 17 #[.pointer (some ⟨pa,0,none⟩),.agg #[.int .i64 kd,.bool sd,.slice ad ld cd,.slice ap np cp,.bool sk,.slice ak lk ck]] w fun e w'=>AO2 w w' e pa pm nn kk F (actA nn kk s kd d ps k):=by
 obtain⟨C,nv,bm,X,D,hA,hpm,hF⟩:=hG.ar
 have h1:=hG.cn
 have h2:=hG.n2
 have h3:=hG.ln
 refine(atom8_n hA hG.mb hpm hG.c0 hG.cn hG.n2 hG.e0 hG.e2 hd hld hP hk hlk hn hB o_m htab).mono ?_
 intro e w' h
 unfold AM at h
 unfold actA
 cases hf:formA kd d (nz (lays [] ps)) k with
 |inr er=>
  rw[hf]at h
  obtain⟨rfl,kb⟩:=h
  exact ao2_now hG kb _ _
 |inl f=>
  rw[hf]at h
  exact md_ao2 hG hA hpm hF h

theorem join_ao2 {kd:Int}{ka:Option Addr}{kc:Nat}{l:List Int}
  (hG:AG w pa pm nn kk s F)(hI:IL w ka l.length l)(hl:l.length≤1048576)(htab:Tab w):
  Calls Tryz.prog 30 #[.pointer (some ⟨pa,0,none⟩),.int .i64 kd,.slice ka l.length kc] w fun e w'=>AO2 w w' e pa pm nn kk F (actJ nn kk s kd l):=by
 obtain⟨C,nv,bm,X,D,hA,hpm,hF⟩:=hG.ar
 have h1:=hG.cn
 have h2:=hG.n2
 have h3:=hG.ln
 refine(join8_n hA hG.mb hpm hG.c0 hG.cn hG.n2 hG.e0 hG.e2 hI hl o_m htab).mono ?_
 intro e w' h
 unfold JO at h
 unfold actJ
 by_cases hkd:kd=5∨kd=6
 ·rw[if_neg (fun h=>h hkd)]at h ⊢
  by_cases ha:l.any (lck s.L.length)=true
  ·rw[if_pos ha]at h ⊢
   obtain⟨rfl,rfl⟩:=h
   exact ao2_now hG (Below.refl _ _) _ _
  rw[if_neg ha]at h ⊢
  cases hr:ris l with
  |nil=>
   rw[hr]at h
   obtain⟨rfl,kb⟩:=h
   exact ao2_now hG kb _ _
  |cons x t=>
   cases t with
   |nil=>
    rw[hr]at h
    obtain⟨rfl,kb⟩:=h
    exact ao2_now hG kb _ _
   |cons y t=>
    rw[hr]at h
    exact md_ao2 hG hA hpm hF h
 rw[if_pos hkd]at h ⊢
 obtain⟨rfl,rfl⟩:=h
 exact ao2_now hG (Below.refl _ _) _ _

end Nt
end Go.Proofs.YtbgpddlcfiiiaaaGreatDoor

namespace Go.Proofs.YtbgpddlcfiiiaaaGreatDoor
open Tm At
namespace Nt

variable {L:List Nd}{kd x:Int}{ids M Sn Lf:List Int}
def ndI (L:List Nd)(i:Int):Nd:=(L[i.toNat]?).getD (cst 0)
def okI (L:List Nd)(i:Int):Prop:=0≤i∧i<(L.length:Int)
theorem okI_lck {i:Int}:lck L.length i=false↔okI L i:=by
  unfold lck okI
  rw[decide_eq_false_iff_not]
  omega
theorem ndI_at {i:Int}(h:okI L i): ∃h2:i.toNat<L.length,ndI L i=L[i.toNat]:=by
  have h2:i.toNat<L.length:=by unfold okI at h;omega
  exact⟨h2,by unfold ndI;rw[List.getElem?_eq_getElem h2];rfl⟩
def Wk (L:List Nd):Prop:=∀i,okI L i→∀k∈(ndI L i).kids,0≤k∧k<i
theorem Wk.ok (h:Wk L){i k:Int}(hi:okI L i)(hk:k∈(ndI L i).kids):okI L k:=by
  have:=h i hi k hk
  unfold okI at*
  omega
def Rk (L:List Nd)(kd:Int)(ids:List Int)(x:Int):Prop:=∀P:Int→Prop,(∀y∈ids,P y)→(∀y z,P y→okI L y→(ndI L y).kind=kd→z∈(ndI L y).kids→P z)→P x
theorem rk_id (h:x∈ids):Rk L kd ids x:=fun _ h1 _=>h1 x h
theorem rk_kid {z:Int}(h:Rk L kd ids x)(ho:okI L x)(hk:(ndI L x).kind=kd)(hz:z∈(ndI L x).kids):Rk L kd ids z:=fun P h1 h2=>h2 x z (h P h1 h2) ho hk hz
theorem rk_bad (hw:Wk L){kd:Int}{ids:List Int}{x:Int}(h:Rk L kd ids x)(hx: ¬okI L x): ∃y∈ids,¬okI L y:=
  ⟨x,(h (fun y=>y∈ids∨okI L y) (fun _ hy=> .inl hy) (fun _ _ _ ho _ hz=> .inr (hw.ok ho hz))).resolve_right hx,hx⟩
def Mem (L:List Nd)(kd idle:Int)(ids:List Int)(x:Int):Prop:=Rk L kd ids x∧okI L x∧(ndI L x).kind≠kd∧x≠idle

structure Spr (L:List Nd) (kd idle:Int) (ids M Sn Lf:List Int):Prop where
  m: ∀x∈M,x∈Sn∧(ndI L x).kind≠kd∧x≠idle
  nd:M.Nodup
  s: ∀x∈Sn,okI L x∧Rk L kd ids x∧((ndI L x).kind=kd→∀z∈(ndI L x).kids,z∈Sn∨z∈Lf)∧((ndI L x).kind≠kd→x=idle∨x∈M)
  l: ∀x∈Lf,Rk L kd ids x
  i: ∀x∈ids,x∈Sn∨x∈Lf
theorem spr_0 (L:List Nd)(kd idle:Int)(ids:List Int):Spr L kd idle ids [] [] ids:=
  ⟨fun _ h=>(by cases h),List.nodup_nil,fun _ h=>(by cases h),fun _ h=>rk_id h,fun _ h=> .inr h⟩
theorem mem_snoc {l:List Int}{y:Int}:y∈l++ [x]↔y∈l∨y=x:=by simp
theorem Spr.old {idle:Int}(h:Spr L kd idle ids M Sn (Lf++ [x]))(hx:x∈Sn):Spr L kd idle ids M Sn Lf:=by
  have hh: ∀z,z∈Sn∨z∈Lf++ [x]→z∈Sn∨z∈Lf:=fun z hz=>hz.elim .inl fun hz=>(mem_snoc.1 hz).elim .inr fun e=> .inl (e▸hx)
  exact⟨h.m,h.nd,fun y hy=>⟨(h.s y hy).1,(h.s y hy).2.1,fun hk z hz=>hh z ((h.s y hy).2.2.1 hk z hz),(h.s y hy).2.2.2⟩,fun y hy=>h.l y (mem_snoc.2 (.inl hy)),fun y hy=>hh y (h.i y hy)⟩
theorem Spr.kids {idle:Int}(h:Spr L kd idle ids M Sn (Lf++ [x]))(ho:okI L x)(hk:(ndI L x).kind=kd):Spr L kd idle ids M (x::Sn) (Lf++(ndI L x).kids):=by
  have hr:=h.l x (mem_snoc.2 (.inr rfl))
  have hh: ∀z,z∈Sn∨z∈Lf++ [x]→z∈x::Sn∨z∈Lf++(ndI L x).kids:=fun z hz=>hz.elim (fun h=> .inl (List.mem_cons_of_mem _ h)) fun hz=>(mem_snoc.1 hz).elim (fun h=> .inr (List.mem_append_left _ h)) fun e=> .inl (e▸List.mem_cons_self)
  refine⟨fun y hy=>⟨List.mem_cons_of_mem _ (h.m y hy).1,(h.m y hy).2⟩,h.nd,fun y hy=> ?_,fun y hy=> ?_,fun y hy=>hh y (h.i y hy)⟩
  · rcases List.mem_cons.1 hy with rfl|hy
    · exact⟨ho,hr,fun _ z hz=> .inr (List.mem_append_right _ hz),fun hn=>absurd hk hn⟩
    exact⟨(h.s y hy).1,(h.s y hy).2.1,fun hk z hz=>hh z ((h.s y hy).2.2.1 hk z hz),(h.s y hy).2.2.2⟩
  exact(List.mem_append.1 hy).elim (fun hy=>h.l y (mem_snoc.2 (.inl hy))) fun hy=>rk_kid hr ho hk hy
theorem Spr.idle {idle:Int}(h:Spr L kd idle ids M Sn (Lf++ [idle]))(ho:okI L idle)(hk:(ndI L idle).kind≠kd):Spr L kd idle ids M (idle::Sn) Lf:=by
  have hr:=h.l idle (mem_snoc.2 (.inr rfl))
  have hh: ∀z,z∈Sn∨z∈Lf++ [idle]→z∈idle::Sn∨z∈Lf:=fun z hz=>hz.elim (fun h=> .inl (List.mem_cons_of_mem _ h)) fun hz=>(mem_snoc.1 hz).elim .inr fun e=> .inl (e▸List.mem_cons_self)
  refine⟨fun y hy=>⟨List.mem_cons_of_mem _ (h.m y hy).1,(h.m y hy).2⟩,h.nd,fun y hy=> ?_,fun y hy=>h.l y (mem_snoc.2 (.inl hy)),fun y hy=>hh y (h.i y hy)⟩
  rcases List.mem_cons.1 hy with rfl|hy
  · exact⟨ho,hr,fun hn=>absurd hn hk,fun _=> .inl rfl⟩
  exact⟨(h.s y hy).1,(h.s y hy).2.1,fun hk z hz=>hh z ((h.s y hy).2.2.1 hk z hz),(h.s y hy).2.2.2⟩
theorem Spr.mem {idle:Int}(h:Spr L kd idle ids M Sn (Lf++ [x]))(hx:x∉Sn)(ho:okI L x)(hk:(ndI L x).kind≠kd)(hi:x≠idle):Spr L kd idle ids (M++ [x]) (x::Sn) Lf:=by
  have hr:=h.l x (mem_snoc.2 (.inr rfl))
  have hh: ∀z,z∈Sn∨z∈Lf++ [x]→z∈x::Sn∨z∈Lf:=fun z hz=>hz.elim (fun h=> .inl (List.mem_cons_of_mem _ h)) fun hz=>(mem_snoc.1 hz).elim .inr fun e=> .inl (e▸List.mem_cons_self)
  refine⟨fun y hy=> ?_,?_,fun y hy=> ?_,fun y hy=>h.l y (mem_snoc.2 (.inl hy)),fun y hy=>hh y (h.i y hy)⟩
  · rcases mem_snoc.1 hy with hy|rfl
    · exact⟨List.mem_cons_of_mem _ (h.m y hy).1,(h.m y hy).2⟩
    exact⟨List.mem_cons_self,hk,hi⟩
  · rw[List.nodup_append]
    exact⟨h.nd,by simp,fun a ha b hb e=>by rw[List.mem_singleton.1 hb]at e;exact hx (e▸(h.m a ha).1)⟩
  rcases List.mem_cons.1 hy with rfl|hy
  · exact⟨ho,hr,fun hn=>absurd hn hk,fun _=> .inr (mem_snoc.2 (.inr rfl))⟩
  exact⟨(h.s y hy).1,(h.s y hy).2.1,fun hk z hz=>hh z ((h.s y hy).2.2.1 hk z hz),fun hn=>((h.s y hy).2.2.2 hn).imp id fun hm=>mem_snoc.2 (.inl hm)⟩
theorem Spr.done {idle:Int}(h:Spr L kd idle ids M Sn []):(∀x∈ids,okI L x)∧M.Nodup∧∀x,x∈M↔Mem L kd idle ids x:=by
  have hS: ∀x,Rk L kd ids x→x∈Sn:=fun x hx=>hx (fun y=>y∈Sn) (fun y hy=>(h.i y hy).resolve_right (by simp)) (fun y z hy _ hk hz=>((h.s y hy).2.2.1 hk z hz).resolve_right (by simp))
  refine⟨fun x hx=>(h.s x (hS x (rk_id hx))).1,h.nd,fun x=>⟨fun hx=> ?_,fun⟨h1,h2,h3,h4⟩=> ?_⟩⟩
  · have h1:=h.m x hx
    exact⟨(h.s x h1.1).2.1,(h.s x h1.1).1,h1.2⟩
  exact((h.s x (hS x h1)).2.2.2 h3).resolve_left h4
def pot (L:List Nd)(Sn:List Int):Nat→Nat
  |0=>0
  |n+1=>pot L Sn n+if(n:Int)∈Sn then 0 else 1+(ndI L n).kids.length
theorem pot_same (L:List Nd)(Sn:List Int)(x:Int): ∀n:Nat,(n:Int)≤x→pot L (x::Sn) n=pot L Sn n
  |0,_=>rfl
  |n+1,h=>by
    have e:((n:Int)∈x::Sn)↔(n:Int)∈Sn:=by
      rw[List.mem_cons]
      exact⟨fun h1=>h1.elim (fun e=>by omega) id,.inr⟩
    unfold pot
    rw[pot_same L Sn x n o_m]
    simp only[e]
theorem pot_add (L:List Nd)(Sn:List Int)(x:Int)(h0:0≤x)(hx:x∉Sn): ∀n:Nat,x<(n:Int)→pot L Sn n=pot L (x::Sn) n+(1+(ndI L x).kids.length)
  |0,h=>by omega
  |n+1,h=>by
    by_cases e:x=(n:Int)
    · subst e
      unfold pot
      rw[pot_same L Sn (n:Int) n (Int.le_refl _),if_neg hx,if_pos List.mem_cons_self]
      omega
    have h1:=pot_add L Sn x h0 hx n o_m
    have e2:((n:Int)∈x::Sn)↔(n:Int)∈Sn:=by
      rw[List.mem_cons]
      exact⟨fun h1=>h1.elim (fun e3=>absurd e3.symm e) id,.inr⟩
    unfold pot
    simp only[e2]
    omega
def negP (ps:List (Int × Int)):List (Int × Int):=ps.map fun p=>(p.1,-p.2)
def Stay (L:List Nd)(sg:Int)(M:Int→Prop)(x:Int):Prop:=M x∧(ndI L x).kind=2∧∀y,M y→(ndI L y).kind=2→(ndI L y).ps=(ndI L x).ps→¬sg*(ndI L y).k<sg*(ndI L x).k
def Clash (L:List Nd)(sg:Int)(M:Int→Prop):Prop:=∃x y,Stay L sg M x∧Stay L sg M y∧(ndI L y).ps=negP (ndI L x).ps∧sg*((ndI L x).k+(ndI L y).k)≤sg
def Oppos (L:List Nd)(M:Int→Prop):Prop:=∃x y,M x∧M y∧(ndI L x).kind=3∧(ndI L y).kind=4∧(ndI L x).d=(ndI L y).d∧(ndI L x).ps=(ndI L y).ps∧(ndI L x).k=(ndI L y).k
def Keep (L:List Nd)(sg:Int)(M:Int→Prop)(x:Int):Prop:=M x∧((ndI L x).kind=2→Stay L sg M x)
def Need (L:List Nd)(sg dual:Int)(M:Int→Prop)(x:Int):Prop:=Keep L sg M x∧¬((ndI L x).kind=dual∧∃z∈(ndI L x).kids,Keep L sg M z)
def SimpR (nn kk:Int)(s:St)(kd dual idle rul sg:Int)(ids:List Int)(r:St × Int × Int):Prop:=
  ((∃x∈ids,¬okI s.L x)∧r=(s,0,80))∨((∀x∈ids,okI s.L x)∧
    (((Mem s.L kd idle ids rul∨Clash s.L sg (Mem s.L kd idle ids)∨Oppos s.L (Mem s.L kd idle ids))∧r=(s,rul,0))∨
     (¬(Mem s.L kd idle ids rul∨Clash s.L sg (Mem s.L kd idle ids)∨Oppos s.L (Mem s.L kd idle ids))∧∃l,(∀x,x∈l↔Need s.L sg dual (Mem s.L kd idle ids) x)∧r=actJ nn kk s kd l)))
end Nt
namespace Nt

variable {kk i nn:Int}{L t:List Nd}{s:St}
def Wn (i:Nat)(n:Nd):Prop:=
 (∃f:Atm,Fit f∧n=⟨f.kind,f.d,f.ps,f.k,0,[]⟩∧f.ps.length≤209716)∨
 (∃kd kids,(kd=5∨kd=6)∧n=⟨kd,0,[],0,0,kids⟩∧2≤kids.length∧kids.Pairwise (· < ·)∧∀x∈kids,0≤x∧x<(i:Int))∨
 (∃kd v x,(kd=7∨kd=8)∧n=⟨kd,0,[],0,v,[x]⟩∧I64 v∧0≤x∧x<(i:Int))
structure Gv (kk:Int) (L:List Nd):Prop where
 uq:Uq L
 c0:L[0]? =some (cst 0)
 c1:L[1]? =some (cst 1)
 wn: ∀(i:Nat) (n:Nd),2≤i→L[i]? =some n→Wn i n∧∀z∈nums n,(lim z:Int)≤kk
theorem Gv.len (h:Gv kk L):2≤L.length:=by
 have:=(List.getElem?_eq_some_iff.1 h.c1).1
 omega
theorem Gv.ok0 (h:Gv kk L):okI L 0:=by have:=h.len;unfold okI;omega
theorem Gv.ok1 (h:Gv kk L):okI L 1:=by have:=h.len;unfold okI;omega
theorem Gv.n0 (h:Gv kk L):ndI L 0=cst 0:=by
 show(L[0]?).getD (cst 0)=cst 0
 rw[h.c0]
 rfl
theorem Gv.n1 (h:Gv kk L):ndI L 1=cst 1:=by
 show(L[1]?).getD (cst 0)=cst 1
 rw[h.c1]
 rfl
theorem ndI_some (h:okI L i):L[i.toNat]? =some (ndI L i):=by
 obtain⟨h2,e⟩:=ndI_at h
 rw[e,List.getElem?_eq_getElem h2]
theorem Gv.cases (h:Gv kk L){i:Int}(hi:okI L i):
  (i=0∧ndI L i=cst 0)∨(i=1∧ndI L i=cst 1)∨(2≤i∧∃f:Atm,Fit f∧(f.kind=2∨f.kind=3∨f.kind=4)∧f.ps≠ []∧ndI L i=⟨f.kind,f.d,f.ps,f.k,0,[]⟩∧f.ps.length≤209716∧∀z∈nums (ndI L i),(lim z:Int)≤kk)∨
  (2≤i∧∃kd kids,(kd=5∨kd=6)∧ndI L i=⟨kd,0,[],0,0,kids⟩∧2≤kids.length∧kids.Pairwise (· < ·)∧∀x∈kids,0≤x∧x<i)∨
  (2≤i∧∃kd v x,(kd=7∨kd=8)∧ndI L i=⟨kd,0,[],0,v,[x]⟩∧I64 v∧0≤x∧x<i):=by
 have hs:=ndI_some hi
 have h0:=hi.1
 by_cases h2:2≤i
 ·obtain⟨hw,hk⟩:=h.wn i.toNat _ o_m hs
  rcases hw with⟨f,h3,h4,h5⟩|⟨kd,kids,h3,h4,h5,h6,h7⟩|⟨kd,v,x,h3,h4,h5,h6,h7⟩
  ·refine .inr (.inr (.inl ⟨h2,f,h3,?_,?_,h4,h5,hk⟩))
   ·rcases h3 with⟨h8,e1,e2,e3⟩|⟨h8,_⟩|⟨h8,_⟩
    ·exfalso
     have e:ndI L i=cst f.kind:=by rw[h4,e1,e2,e3];rfl
     rcases h8 with h8|h8
     ·rw[e,h8]at hs
      have:=h.uq _ 0 _ hs h.c0
      omega
     rw[e,h8]at hs
     have:=h.uq _ 1 _ hs h.c1
     omega
    ·exact .inl h8
    exact .inr h8
   rcases h3 with⟨h8,e1,e2,e3⟩|⟨_,_,_,h8,_⟩|⟨_,h8,_⟩
   ·exfalso
    have e:ndI L i=cst f.kind:=by rw[h4,e1,e2,e3];rfl
    rcases h8 with h8|h8
    ·rw[e,h8]at hs
     have:=h.uq _ 0 _ hs h.c0
     omega
    rw[e,h8]at hs
    have:=h.uq _ 1 _ hs h.c1
    omega
   ·exact h8
   exact h8.some
  ·exact .inr (.inr (.inr (.inl ⟨h2,kd,kids,h3,h4,h5,h6,fun x hx=>by have:=h7 x hx;omega⟩)))
  exact .inr (.inr (.inr (.inr ⟨h2,kd,v,x,h3,h4,h5,h6,by omega⟩)))
 rcases(show i=0∨i=1 by omega)with rfl|rfl
 ·exact .inl ⟨rfl,h.n0⟩
 exact .inr (.inl ⟨rfl,h.n1⟩)
theorem Gv.wk (h:Gv kk L):Wk L:=fun i hi k hk=>by
 rcases h.cases hi with⟨_,e⟩|⟨_,e⟩|⟨_,f,_,_,_,e,_⟩|⟨_,kd,kids,_,e,_,_,h7⟩|⟨_,kd,v,x,_,e,_,h6,h7⟩
 ·rw[e]at hk;cases hk
 ·rw[e]at hk;cases hk
 ·rw[e]at hk;cases hk
 ·rw[e]at hk;exact h7 k hk
 rw[e]at hk
 have:k=x:=by simpa using hk
 omega
theorem rise_len : ∀(l:List Int) (a b:Int),a≤b→l.Pairwise (· < ·)→(∀x∈l,a≤x∧x<b)→(l.length:Int)≤b-a
 | [],a,b,h,_,_=>by simp;omega
 |x::t,a,b,_,h1,h2=>by
  have hx:=h2 x List.mem_cons_self
  have h3:=List.pairwise_cons.1 h1
  have ih:=rise_len t (x+1) b o_m h3.2 fun y hy=>⟨by have:=h3.1 y hy;omega,(h2 y (List.mem_cons_of_mem _ hy)).2⟩
  rw[List.length_cons]
  omega
theorem Gv.kids (h:Gv kk L){i:Int}(hi:okI L i):((ndI L i).kids.length:Int)≤i∧(ndI L i).kids.Pairwise (· < ·):=by
 have h0:=hi.1
 rcases h.cases hi with⟨_,e⟩|⟨_,e⟩|⟨_,f,_,_,_,e,_⟩|⟨_,kd,kids,_,e,_,h6,h7⟩|⟨_,kd,v,x,_,e,_,h6,h7⟩
 ·rw[e];exact⟨by simp[cst];omega,List.Pairwise.nil⟩
 ·rw[e];exact⟨by simp[cst];omega,List.Pairwise.nil⟩
 ·rw[e];exact⟨by simp;omega,List.Pairwise.nil⟩
 ·rw[e]
  have:=rise_len kids 0 i h0 h6 h7
  exact⟨by dsimp only;omega,h6⟩
 rw[e];exact⟨by simp;omega,List.pairwise_singleton _ _⟩
theorem getE_app {i:Nat}{n:Nd}(h:L[i]? =some n):(L++t)[i]? =some n:=by
 rw[List.getElem?_append_left (List.getElem?_eq_some_iff.1 h).1]
 exact h
theorem putE_cases (nn kk:Int)(s:St)(n:Nd):
  (∃i:Nat,s.L[i]? =some n∧putE nn kk s n=(s,(i:Int),0))∨
  ((∀i:Nat,s.L[i]? ≠some n)∧∃er,er≠0∧(putE nn kk s n)=(⟨s.L,s.c,er⟩,0,er)∧(s.er=0∨s.er=er))∨
  ((∀i:Nat,s.L[i]? ≠some n)∧s.er=0∧((nums n).any fun z=>decide (kk<(lim z:Int)))=false∧putE nn kk s n=(⟨s.L++ [n],s.c+1,0⟩,(s.L.length:Int),0)):=by
 by_cases h: ∃i:Nat,s.L[i]? =some n
 ·have h1:=spot_at h
  exact .inl ⟨_,h1.2,by unfold putE;rw[if_pos h1.1]⟩
 have h1:=spot_no h
 have hno: ∀i:Nat,s.L[i]? ≠some n:=fun i e=>h ⟨i,e⟩
 rcases mstep_cases nn kk s.c s.er (nums n)with⟨he,e⟩|⟨he,r,hr,e,_⟩|⟨he,e,h2,_⟩
 ·refine .inr (.inl ⟨hno,s.er,he,?_,.inr rfl⟩)
  unfold putE
  rw[if_neg h1,e,if_neg he]
 ·refine .inr (.inl ⟨hno,r,hr,?_,.inl he⟩)
  unfold putE
  rw[if_neg h1,e,if_neg hr]
 refine .inr (.inr ⟨hno,he,h2,?_⟩)
 unfold putE
 rw[if_neg h1,e,if_pos rfl]
structure Kp (kk:Int) (s:St) (r:St × Int × Int):Prop where
 le: ∃t,r.1.L=s.L++t
 gv:Gv kk r.1.L
 ok:r.2.2=0→okI r.1.L r.2.1
 er:s.er≠0→r.1.er≠0
theorem kp_now {x e:Int}(h:Gv kk s.L)(hx:e=0→okI s.L x):Kp kk s (s,x,e):=⟨⟨[],by simp⟩,h,hx,fun h=>h⟩
theorem kp_put {n:Nd}(h:Gv kk s.L)(hw:Wn s.L.length n):Kp kk s (putE nn kk s n):=by
 rcases putE_cases nn kk s n with⟨i,h1,e⟩|⟨_,er,h1,e,_⟩|⟨hno,h1,h2,e⟩
 ·rw[e]
  refine kp_now h fun _=> ?_
  have:=(List.getElem?_eq_some_iff.1 h1).1
  unfold okI
  omega
 ·rw[e]
  exact⟨⟨[],by simp⟩,h,fun h2=>absurd h2 h1,fun _=>h1⟩
 rw[e]
 refine⟨⟨[n],rfl⟩,⟨fun i j m hi hj=> ?_,getE_app h.c0,getE_app h.c1,fun i m hi hm=> ?_⟩,fun _=> ?_,fun h3=>absurd h1 h3⟩
 ·have hc: ∀q:Nat,(s.L++ [n])[q]? =some m→(s.L[q]? =some m)∨(q=s.L.length∧m=n):=fun q hq=>by
   rcases Nat.lt_trichotomy q s.L.length with hl|hl|hl
   ·rw[List.getElem?_append_left hl]at hq
    exact .inl hq
   ·subst hl
    simp at hq
    exact .inr ⟨rfl,hq.symm⟩
   rw[List.getElem?_eq_none (by simp;omega)]at hq
   cases hq
  rcases hc i hi with hi|⟨hi,e1⟩
  ·rcases hc j hj with hj|⟨hj,e2⟩
   ·exact h.uq i j m hi hj
   exact absurd (e2▸hi) (hno i)
  rcases hc j hj with hj|⟨hj,e2⟩
  ·exact absurd (e1▸hj) (hno j)
  omega
 ·rcases Nat.lt_trichotomy i s.L.length with hl|hl|hl
  ·rw[List.getElem?_append_left hl]at hm
   exact h.wn i m hi hm
  ·subst hl
   have e:n=m:=by simpa using hm
   subst e
   refine⟨hw,fun z hz=> ?_⟩
   have h6:=List.any_eq_false.1 h2 z hz
   simpa using h6
  rw[List.getElem?_eq_none (by simp;omega)]at hm
  cases hm
 unfold okI
 simp
 omega
theorem kp_join {kd:Int}{l:List Int}(h:Gv kk s.L)(hkd:kd=5∨kd=6)(hl: ∀x∈l,okI s.L x):Kp kk s (actJ nn kk s kd l):=by
 have ha:l.any (lck s.L.length)=false:=by
  rw[List.any_eq_false]
  intro x hx
  rw[okI_lck.2 (hl x hx)]
  simp
 have hm:=mem_ris l
 have hr:=ris_rises l
 unfold actJ
 rw[if_neg o_m,ha,if_neg (by simp)]
 split
 ·refine kp_now h fun _=> ?_
  split
  ·exact h.ok1
  exact h.ok0
 ·rename_i x e
  rw[e]at hm
  exact kp_now h fun _=>hl x ((hm x).1 (by simp))
 rename_i x y t e
 rw[e]at hm hr
 exact kp_put h (.inr (.inl ⟨kd,x::y::t,hkd,rfl,by simp,hr,fun z hz=>hl z ((hm z).1 hz)⟩))
theorem kp_bind {kd v kid:Int}(h:Gv kk s.L)(hkd:kd=7∨kd=8)(hv:I64 v):Kp kk s (actB nn kk s kd v kid):=by
 unfold actB
 rw[if_neg o_m]
 split
 ·exact kp_now h fun e=>by cases e
 exact kp_put h (.inr (.inr ⟨kd,v,kid,hkd,rfl,hv,by omega,by omega⟩))
theorem ndI_app (h:okI L i):ndI (L++t) i=ndI L i:=by
 have h2:i.toNat<L.length:=by unfold okI at h;omega
 unfold ndI
 rw[List.getElem?_append_left h2]
theorem okI_app (h:okI L i):okI (L++t) i:=by
 unfold okI at*
 rw[List.length_append]
 omega
theorem Kp.okI {r:St × Int × Int}(h:Kp kk s r){i:Int}(hi:okI s.L i):okI r.1.L i:=by
 obtain⟨t,e⟩:=h.le
 rw[e]
 exact okI_app hi
theorem gv_of (hu:Uq s.L)(h0:s.L[0]? =some (cst 0))(h1:s.L[1]? =some (cst 1))(hg:Gs kk s)(hk:0≤kk)(hz:lim 0=0):Gv kk s.L:=by
 refine⟨hu,h0,h1,fun i n hi hn=> ?_⟩
 rcases hg i n hi hn with⟨f,h3,h4,h5,h6⟩|⟨kd,kids,h3,h4,h5,_,h6,h7⟩|⟨kd,v,x,h3,h4,h5,h6,h7⟩
 ·exact⟨.inl ⟨f,h3,h4,h5⟩,h6⟩
 ·refine⟨.inr (.inl ⟨kd,kids,h3,h4,h5,h6,h7⟩),fun z hz'=> ?_⟩
  rw[h4]at hz'
  have:z=0:=by simpa [nums] using hz'
  rw[this,hz]
  exact hk
 refine⟨.inr (.inr ⟨kd,v,x,h3,h4,by unfold I64;omega,h7⟩),fun z hz'=> ?_⟩
 rw[h4]at hz'
 have:z=0:=by simpa [nums] using hz'
 rw[this,hz]
 exact hk
theorem gv_st0 (kk:Int):Gv kk st0.L:=by
 refine⟨fun i j n hi hj=> ?_,rfl,rfl,fun i n hi hn=> ?_⟩
 ·have hi':=(List.getElem?_eq_some_iff.1 hi).1
  have hj':=(List.getElem?_eq_some_iff.1 hj).1
  simp[st0]at hi' hj'
  rcases(show i=0∨i=1 by omega)with rfl|rfl <;> rcases(show j=0∨j=1 by omega)with rfl|rfl
  ·rfl
  ·simp[st0]at hi hj
   rw[←hi]at hj
   simp[cst]at hj
  ·simp[st0]at hi hj
   rw[←hi]at hj
   simp[cst]at hj
  rfl
 rw[List.getElem?_eq_none (by simp[st0];omega)]at hn
 cases hn
end Nt
namespace Nt

variable {L:List Nd}{f:Int→Int}{n:Nd}{x kk kd dual idle rul nn:Int}{s:St}{ids:List Int}{r:St × Int × Int}
def atmN (n:Nd):Atm:=⟨n.kind,n.d,n.ps,n.k⟩
def Tv (L:List Nd)(f:Int→Int):Nat→Int→Prop
 |0,_=>False
 |m+1,i=>((ndI L i).kind=5∧∀z∈(ndI L i).kids,Tv L f m z)∨((ndI L i).kind=6∧∃z∈(ndI L i).kids,Tv L f m z)∨((ndI L i).kind≠5∧(ndI L i).kind≠6∧Sat (atmN (ndI L i)) f)
theorem tv_fuel (hw:Wk L)(f:Int→Int): ∀(m:Nat) (i:Int) (q:Nat),okI L i→i<(m:Int)→i<(q:Int)→(Tv L f m i↔Tv L f q i)
 |0,i,q,ho,hm,hq=>by have:=ho.1;omega
 |m+1,i,0,ho,hm,hq=>by have:=ho.1;omega
 |m+1,i,q+1,ho,hm,hq=>by
  have ih: ∀z∈(ndI L i).kids,(Tv L f m z↔Tv L f q z):=fun z hz=>tv_fuel hw f m z q (hw.ok ho hz) (by have:=hw i ho z hz;omega) (by have:=hw i ho z hz;omega)
  simp only[Tv]
  constructor
  ·rintro(⟨h1,h2⟩|⟨h1,z,hz,h2⟩|h)
   ·exact .inl ⟨h1,fun z hz=>(ih z hz).1 (h2 z hz)⟩
   ·exact .inr (.inl ⟨h1,z,hz,(ih z hz).1 h2⟩)
   exact .inr (.inr h)
  rintro(⟨h1,h2⟩|⟨h1,z,hz,h2⟩|h)
  ·exact .inl ⟨h1,fun z hz=>(ih z hz).2 (h2 z hz)⟩
  ·exact .inr (.inl ⟨h1,z,hz,(ih z hz).2 h2⟩)
  exact .inr (.inr h)
def tv (L:List Nd)(f:Int→Int)(i:Int):Prop:=Tv L f (i.toNat+1) i
theorem tv_any (hw:Wk L)(f:Int→Int){i:Int}(ho:okI L i){m:Nat}(hm:i<(m:Int)):Tv L f m i↔tv L f i:=
 tv_fuel hw f m i _ ho hm (by have:=ho.1;omega)
theorem tv_and (hw:Wk L){f:Int→Int}{i:Int}(ho:okI L i)(hk:(ndI L i).kind=5):tv L f i↔ ∀z∈(ndI L i).kids,tv L f z:=by
 have e: ∀z∈(ndI L i).kids,(Tv L f i.toNat z↔tv L f z):=fun z hz=>tv_any hw f (hw.ok ho hz) (by have:=hw i ho z hz;omega)
 unfold tv
 simp only[Tv]
 rw[hk]
 constructor
 ·rintro(⟨_,h2⟩|⟨h1,_⟩|⟨h1,_⟩)
  ·exact fun z hz=>(e z hz).1 (h2 z hz)
  ·omega
  exact absurd rfl h1
 exact fun h=> .inl ⟨rfl,fun z hz=>(e z hz).2 (h z hz)⟩
theorem tv_or (hw:Wk L){f:Int→Int}{i:Int}(ho:okI L i)(hk:(ndI L i).kind=6):tv L f i↔ ∃z∈(ndI L i).kids,tv L f z:=by
 have e: ∀z∈(ndI L i).kids,(Tv L f i.toNat z↔tv L f z):=fun z hz=>tv_any hw f (hw.ok ho hz) (by have:=hw i ho z hz;omega)
 unfold tv
 simp only[Tv]
 rw[hk]
 constructor
 ·rintro(⟨h1,_⟩|⟨_,z,hz,h2⟩|⟨_,h1,_⟩)
  ·omega
  ·exact⟨z,hz,(e z hz).1 h2⟩
  exact absurd rfl h1
 exact fun⟨z,hz,h⟩=> .inr (.inl ⟨rfl,z,hz,(e z hz).2 h⟩)
theorem tv_atm {i:Int}(h5:(ndI L i).kind≠5)(h6:(ndI L i).kind≠6):tv L f i↔Sat (atmN (ndI L i)) f:=by
 unfold tv
 simp only[Tv]
 exact⟨fun h=>h.elim (fun h=>absurd h.1 h5) fun h=>h.elim (fun h=>absurd h.1 h6) fun h=>h.2.2,fun h=> .inr (.inr ⟨h5,h6,h⟩)⟩
theorem tv_app {t:List Nd}(hw:Wk L)(hw2:Wk (L++t)){f:Int→Int}: ∀(m:Nat) {i:Int},i<(m:Int)→okI L i→(tv (L++t) f i↔tv L f i)
 |0,i,hm,ho=>by have:=ho.1;omega
 |m+1,i,hm,ho=>by
  have e:=ndI_app (t:=t) ho
  have ho2:=okI_app (t:=t) ho
  have ih: ∀z∈(ndI L i).kids,(tv (L++t) f z↔tv L f z):=fun z hz=>tv_app hw hw2 m (by have:=hw i ho z hz;omega) (hw.ok ho hz)
  by_cases h5:(ndI L i).kind=5
  ·rw[tv_and hw ho h5,tv_and hw2 ho2 (by rw[e];exact h5),e]
   exact⟨fun h z hz=>(ih z hz).1 (h z hz),fun h z hz=>(ih z hz).2 (h z hz)⟩
  by_cases h6:(ndI L i).kind=6
  ·rw[tv_or hw ho h6,tv_or hw2 ho2 (by rw[e];exact h6),e]
   exact⟨fun⟨z,hz,h⟩=>⟨z,hz,(ih z hz).1 h⟩,fun⟨z,hz,h⟩=>⟨z,hz,(ih z hz).2 h⟩⟩
  rw[tv_atm h5 h6,tv_atm (by rw[e];exact h5) (by rw[e];exact h6),e]
theorem tv_le {L':List Nd}(hw:Wk L)(hw2:Wk L')(hl: ∃t,L'=L++t){f:Int→Int}{i:Int}(ho:okI L i):tv L' f i↔tv L f i:=by
 obtain⟨t,rfl⟩:=hl
 exact tv_app hw hw2 (i.toNat+1) (by have:=ho.1;omega) ho

structure Tl (L:List Nd) (kd dual idle rul sg:Int) (T:Int→Prop):Prop where
 all: ∀i,okI L i→(ndI L i).kind=kd→(T i↔ ∀z∈(ndI L i).kids,T z)
 one: ∀i,okI L i→(ndI L i).kind=dual→(T i↔ ∃z∈(ndI L i).kids,T z)
 idle:T idle
 rul: ¬T rul
 less: ∀x y,okI L x→okI L y→(ndI L x).kind=2→(ndI L y).kind=2→(ndI L y).ps=(ndI L x).ps→sg*(ndI L x).k≤sg*(ndI L y).k→T x→T y
 clash: ∀x y,okI L x→okI L y→(ndI L x).kind=2→(ndI L y).kind=2→(ndI L y).ps=negP (ndI L x).ps→sg*((ndI L x).k+(ndI L y).k)≤sg→T x→T y→False
 opp: ∀x y,okI L x→okI L y→(ndI L x).kind=3→(ndI L y).kind=4→(ndI L x).d=(ndI L y).d→(ndI L x).ps=(ndI L y).ps→(ndI L x).k=(ndI L y).k→T x→T y→False
theorem negP_scl (ps:List (Int × Int)):negP ps=scl (-1) ps:=by
 unfold negP scl
 congr 1
 funext p
 rw[Int.neg_one_mul]
theorem sat2 (h:n.kind=2):Sat (atmN n) f↔0<n.k+ev n.ps f:=by
 unfold Sat atmN
 dsimp only
 rw[h]
 simp
theorem sat3 (h:n.kind=3):Sat (atmN n) f↔n.d∣n.k+ev n.ps f:=by
 unfold Sat atmN
 dsimp only
 rw[h]
 simp
theorem sat4 (h:n.kind=4):Sat (atmN n) f↔ ¬n.d∣n.k+ev n.ps f:=by
 unfold Sat atmN
 dsimp only
 rw[h]
 simp
theorem tv2 (h:(ndI L x).kind=2):tv L f x↔0<(ndI L x).k+ev (ndI L x).ps f:=(tv_atm o_m o_m).trans (sat2 h)
theorem tv3 (h:(ndI L x).kind=3):tv L f x↔(ndI L x).d∣(ndI L x).k+ev (ndI L x).ps f:=(tv_atm o_m o_m).trans (sat3 h)
theorem tv4 (h:(ndI L x).kind=4):tv L f x↔ ¬(ndI L x).d∣(ndI L x).k+ev (ndI L x).ps f:=(tv_atm o_m o_m).trans (sat4 h)
theorem tv_0 (h:Gv kk L)(f:Int→Int): ¬tv L f 0:=by
 rw[tv_atm (by rw[h.n0];simp[cst]) (by rw[h.n0];simp[cst]),h.n0]
 simp[Sat,atmN,cst]
theorem tv_1 (h:Gv kk L)(f:Int→Int):tv L f 1:=by
 rw[tv_atm (by rw[h.n1];simp[cst]) (by rw[h.n1];simp[cst]),h.n1]
 simp[Sat,atmN,cst]
theorem tl_and (h:Gv kk L)(f:Int→Int):Tl L 5 6 1 0 1 (tv L f) where
 all i ho hk:=tv_and h.wk ho hk
 one i ho hk:=tv_or h.wk ho hk
 idle:=tv_1 h f
 rul:=tv_0 h f
 less x y _ _ h1 h2 e h3:=by
  rw[tv2 h1,tv2 h2,e]
  omega
 clash x y _ _ h1 h2 e h3:=by
  rw[tv2 h1,tv2 h2,e,negP_scl,ev_scl]
  omega
 opp x y _ _ h1 h2 e1 e2 e3:=by
  rw[tv3 h1,tv4 h2,e1,e2,e3]
  exact fun a b=>b a
theorem tl_or (h:Gv kk L)(f:Int→Int):Tl L 6 5 0 1 (-1) (fun i=> ¬tv L f i) where
 all i ho hk:=by
  rw[tv_or h.wk ho hk]
  exact⟨fun h z hz k=>h ⟨z,hz,k⟩,fun h ⟨z,hz,k⟩=>h z hz k⟩
 one i ho hk:=by
  rw[tv_and h.wk ho hk]
  exact⟨fun h=>Classical.byContradiction fun k=>h fun z hz=>Classical.byContradiction fun e=>k ⟨z,hz,e⟩,fun⟨z,hz,k⟩ h=>k (h z hz)⟩
 idle:=tv_0 h f
 rul:=fun k=>k (tv_1 h f)
 less x y _ _ h1 h2 e h3:=by
  rw[tv2 h1,tv2 h2,e]
  omega
 clash x y _ _ h1 h2 e h3:=by
  rw[tv2 h1,tv2 h2,e,negP_scl,ev_scl]
  omega
 opp x y _ _ h1 h2 e1 e2 e3:=by
  rw[tv3 h1,tv4 h2,e1,e2,e3]
  exact fun a b=>b a
theorem Tl.reach {sg:Int}{T:Int→Prop}(h:Tl L kd dual idle rul sg T){ids:List Int}(hi: ∀x∈ids,T x){x:Int}(hx:Rk L kd ids x):T x:=
 hx T hi fun y z hy ho hk hz=>(h.all y ho hk).1 hy z hz
theorem Tl.back (hw:Wk L){kd dual idle rul sg:Int}{T:Int→Prop}(h:Tl L kd dual idle rul sg T){ids:List Int}(ho: ∀x∈ids,okI L x)(hm: ∀x,Mem L kd idle ids x→T x): ∀x∈ids,T x:=by
 have key: ∀(m:Nat) (x:Int),x<(m:Int)→okI L x→Rk L kd ids x→T x:=by
  intro m
  induction m with
  |zero=>intro x hx h0;have:=h0.1;omega
  |succ m ih=>
   intro x hx h0 hr
   by_cases hk:(ndI L x).kind=kd
   ·rw[h.all x h0 hk]
    exact fun z hz=>ih z (by have:=hw x h0 z hz;omega) (hw.ok h0 hz) (rk_kid hr h0 hk hz)
   by_cases hi:x=idle
   ·rw[hi];exact h.idle
   exact hm x ⟨hr,h0,hk,hi⟩
 exact fun x hx=>key (x.toNat+1) x (by have:=(ho x hx).1;omega) (ho x hx) (rk_id hx)
theorem stay_some (sg:Int)(M:Int→Prop)(N:Nat)(hM: ∀x,M x→0≤x∧x<(N:Int)): ∀x,M x→(ndI L x).kind=2→∃y,Stay L sg M y∧(ndI L y).ps=(ndI L x).ps∧sg*(ndI L y).k≤sg*(ndI L x).k:=by
 intro x hx hk
 have key: ∀m:Nat,(∃y,M y∧(ndI L y).kind=2∧(ndI L y).ps=(ndI L x).ps∧sg*(ndI L y).k≤sg*(ndI L x).k∧∀z,M z→(ndI L z).kind=2→(ndI L z).ps=(ndI L x).ps→z<(m:Int)→¬sg*(ndI L z).k<sg*(ndI L y).k):=by
  intro m
  induction m with
  |zero=>exact⟨x,hx,hk,rfl,Int.le_refl _,fun z hz _ _ h=>by have:=hM z hz;omega⟩
  |succ m ih=>
   obtain⟨y,h1,h2,h3,h4,h5⟩:=ih
   by_cases hz:M (m:Int)∧(ndI L (m:Int)).kind=2∧(ndI L (m:Int)).ps=(ndI L x).ps∧sg*(ndI L (m:Int)).k<sg*(ndI L y).k
   ·refine⟨m,hz.1,hz.2.1,hz.2.2.1,by omega,fun z k1 k2 k3 k4=> ?_⟩
    by_cases e:z=(m:Int)
    ·rw[e];omega
    have:=h5 z k1 k2 k3 o_m
    omega
   refine⟨y,h1,h2,h3,h4,fun z k1 k2 k3 k4=> ?_⟩
   by_cases e:z=(m:Int)
   ·subst e
    exact fun h=>hz ⟨k1,k2,k3,h⟩
   exact h5 z k1 k2 k3 o_m
 obtain⟨y,h1,h2,h3,h4,h5⟩:=key N
 exact⟨y,⟨h1,h2,fun z k1 k2 k3=>h5 z k1 k2 (k3.trans h3) (hM z k1).2⟩,h3,h4⟩
theorem Tl.need {sg:Int}{T:Int→Prop}(h:Tl L kd dual idle rul sg T){ids:List Int}(hw:Wk L)(hn: ∀x,Need L sg dual (Mem L kd idle ids) x→T x): ∀x,Mem L kd idle ids x→T x:=by
 have hk: ∀(m:Nat) (x:Int),x<(m:Int)→Keep L sg (Mem L kd idle ids) x→T x:=by
  intro m
  induction m with
  |zero=>intro x hx hk;have:=hk.1.2.1.1;omega
  |succ m ih=>
   intro x hx hk
   by_cases e:(ndI L x).kind=dual∧∃z∈(ndI L x).kids,Keep L sg (Mem L kd idle ids) z
   ·obtain⟨e1,z,hz,hkz⟩:=e
    have:=hw x hk.1.2.1 z hz
    exact(h.one x hk.1.2.1 e1).2 ⟨z,hz,ih z o_m hkz⟩
   exact hn x ⟨hk,e⟩
 intro x hx
 by_cases h2:(ndI L x).kind=2
 ·obtain⟨y,h3,h4,h5⟩:=stay_some (L:=L) sg (Mem L kd idle ids) L.length (fun z hz=>hz.2.1) x hx h2
  exact h.less y x h3.1.2.1 hx.2.1 h3.2.1 h2 h4.symm h5 (hk (y.toNat+1) y (by have:=h3.1.2.1.1;omega) ⟨h3.1,fun _=>h3⟩)
 exact hk (x.toNat+1) x (by have:=hx.2.1.1;omega) ⟨hx,fun e=>absurd e h2⟩
theorem actJ_T {l:List Int}{T':Int→Prop}(hkd:(kd=5∧idle=1)∨(kd=6∧idle=0))(hg:Gv kk s.L)(hl: ∀x∈l,okI s.L x)(he:(actJ nn kk s kd l).2.2=0)
  (h1: ∀i,okI (actJ nn kk s kd l).1.L i→(ndI (actJ nn kk s kd l).1.L i).kind=kd→(T' i↔ ∀z∈(ndI (actJ nn kk s kd l).1.L i).kids,T' z))(h2:T' idle):T' (actJ nn kk s kd l).2.1↔ ∀x∈l,T' x:=by
 have ha:l.any (lck s.L.length)=false:=by
  rw[List.any_eq_false]
  intro x hx
  rw[okI_lck.2 (hl x hx)]
  simp
 have hm:=mem_ris l
 have hkp:=kp_join (nn:=nn) (kd:=kd) (l:=l) hg o_m hl
 unfold actJ at he h1 hkp ⊢
 rw[if_neg o_m,ha,if_neg (by simp)]at he h1 hkp ⊢
 split at he
 ·rename_i e
  rw[e]at hm h1 hkp
  simp only
  have hl0: ∀x∈l,T' x:=fun x hx=>absurd ((hm x).2 hx) (by simp)
  rcases hkd with⟨e1,e2⟩|⟨e1,e2⟩
  ·rw[if_pos e1,←e2]
   exact⟨fun _=>hl0,fun _=>h2⟩
  rw[if_neg o_m,←e2]
  exact⟨fun _=>hl0,fun _=>h2⟩
 ·rename_i x e
  rw[e]at hm
  simp only
  exact⟨fun h y hy=>by have:=(hm y).2 hy;rw[List.mem_singleton]at this;rw[this];exact h,fun h=>h x ((hm x).1 (by simp))⟩
 rename_i x y t e
 rw[e]at hm h1 hkp
 simp only at h1 hkp ⊢
 have hok:=hkp.ok he
 have hnd:ndI (putE nn kk s ⟨kd,0,[],0,0,x::y::t⟩).1.L (putE nn kk s ⟨kd,0,[],0,0,x::y::t⟩).2.1=⟨kd,0,[],0,0,x::y::t⟩:=by
  rcases putE_cases nn kk s ⟨kd,0,[],0,0,x::y::t⟩with⟨i,g1,e⟩|⟨_,er,g1,e,_⟩|⟨_,_,_,e⟩
  ·rw[e]
   simp only
   show(s.L[((i:Int)).toNat]?).getD _=_
   rw[Int.toNat_natCast,g1]
   rfl
  ·rw[e]at he
   exact absurd he g1
  rw[e]
  simp only
  show((s.L++ [_])[((s.L.length:Int)).toNat]?).getD _=_
  rw[Int.toNat_natCast]
  simp
 rw[h1 _ hok (by rw[hnd]),hnd]
 exact⟨fun h z hz=>h z ((hm z).2 hz),fun h z hz=>h z ((hm z).1 hz)⟩
theorem SimpR.says {sg:Int}(h:SimpR nn kk s kd dual idle rul sg ids r)(hkd:(kd=5∧dual=6∧idle=1)∨(kd=6∧dual=5∧idle=0))(hg:Gv kk s.L)(he:r.2.2=0)
  {T T':Int→Prop}(hT:Tl s.L kd dual idle rul sg T)(hT':Tl r.1.L kd dual idle rul sg T')(hs: ∀i,okI s.L i→(T' i↔T i)):T' r.2.1↔ ∀x∈ids,T x:=by
 rcases h with⟨_,rfl⟩|⟨ho,⟨h1,rfl⟩|⟨h1,l,hl,rfl⟩⟩
 ·cases he
 ·refine⟨fun h=>absurd h hT'.rul,fun hx=> ?_⟩
  exfalso
  rcases h1 with h1|⟨x,y,h2,h3,h4,h5⟩|⟨x,y,h2,h3,h4,h5,h6,h7,h8⟩
  ·exact hT.rul (hT.reach hx h1.1)
  ·exact hT.clash x y h2.1.2.1 h3.1.2.1 h2.2.1 h3.2.1 h4 h5 (hT.reach hx h2.1.1) (hT.reach hx h3.1.1)
  exact hT.opp x y h2.2.1 h3.2.1 h4 h5 h6 h7 h8 (hT.reach hx h2.1) (hT.reach hx h3.1)
 have hlo: ∀x∈l,okI s.L x:=fun x hx=>((hl x).1 hx).1.1.2.1
 rw[actJ_T (idle:=idle) o_m hg hlo he hT'.all hT'.idle]
 constructor
 ·intro h
  exact hT.back hg.wk ho (hT.need hg.wk fun x hx=>(hs x hx.1.1.2.1).1 (h x ((hl x).2 hx)))
 intro h x hx
 exact(hs x (hlo x hx)).2 (hT.reach h ((hl x).1 hx).1.1.1)
theorem SimpR.kp {sg:Int}(h:SimpR nn kk s kd dual idle rul sg ids r)(hkd:kd=5∨kd=6)(hr:rul=0∨rul=1)(hg:Gv kk s.L):Kp kk s r:=by
 rcases h with⟨_,rfl⟩|⟨ho,⟨h1,rfl⟩|⟨h1,l,hl,rfl⟩⟩
 ·exact kp_now hg fun e=>by cases e
 ·exact kp_now hg fun _=>by rcases hr with rfl|rfl;exact hg.ok0;exact hg.ok1
 exact kp_join hg hkd fun x hx=>((hl x).1 hx).1.1.2.1
theorem and_tv (h:SimpR nn kk s 5 6 1 0 1 ids r)(hg:Gv kk s.L)(he:r.2.2=0)(f:Int→Int):tv r.1.L f r.2.1↔ ∀x∈ids,tv s.L f x:=by
 have hk:=h.kp (.inl rfl) (.inl rfl) hg
 exact h.says (.inl ⟨rfl,rfl,rfl⟩) hg he (tl_and hg f) (tl_and hk.gv f) fun i hi=>tv_le hg.wk hk.gv.wk hk.le hi
theorem or_tv (h:SimpR nn kk s 6 5 0 1 (-1) ids r)(hg:Gv kk s.L)(he:r.2.2=0)(f:Int→Int):tv r.1.L f r.2.1↔ ∃x∈ids,tv s.L f x:=by
 have hk:=h.kp (.inr rfl) (.inr rfl) hg
 have h1:=h.says (.inr ⟨rfl,rfl,rfl⟩) hg he (tl_or hg f) (tl_or hk.gv f) fun i hi=>not_congr (tv_le hg.wk hk.gv.wk hk.le hi)
 constructor
 ·intro h2
  refine Classical.byContradiction fun h3=>h1.2 (fun x hx h4=>h3 ⟨x,hx,h4⟩) h2
 rintro⟨x,hx,h2⟩
 exact Classical.byContradiction fun h3=>h1.1 h3 x hx h2
end Nt
namespace Nt

variable {L:List Nd}{i kd nn kk:Int}{s:St}
def Dn (L:List Nd)(i y:Int):Prop:=∀Q:Int→Prop,Q i→(∀a b,Q a→okI L a→b∈(ndI L a).kids→Q b)→Q y
theorem dn_self (L:List Nd)(i:Int):Dn L i i:=fun _ h _=>h
theorem dn_kid {a b:Int}(h:Dn L i a)(ho:okI L a)(hb:b∈(ndI L a).kids):Dn L i b:=fun Q h1 h2=>h2 a b (h Q h1 h2) ho hb
theorem dn_up {a b:Int}(ho:okI L i)(ha:a∈(ndI L i).kids)(h:Dn L a b):Dn L i b:=fun Q h1 h2=>h Q (h2 i a h1 ho ha) h2
theorem dn_ok (hw:Wk L){i y:Int}(ho:okI L i)(h:Dn L i y):okI L y:=h (okI L) ho fun _ _ h1 _ h2=>hw.ok h1 h2
theorem dn_cases {y:Int}(h:Dn L i y):y=i∨(okI L i∧∃z∈(ndI L i).kids,Dn L z y):=
 h (fun y=>y=i∨(okI L i∧∃z∈(ndI L i).kids,Dn L z y)) (.inl rfl) fun _ b ha ho hb=>ha.elim (fun e=> .inr ⟨e▸ho,b,e▸hb,dn_self L b⟩) fun⟨h1,z,hz,h2⟩=> .inr ⟨h1,z,hz,dn_kid h2 ho hb⟩
def Her (L:List Nd)(P:Int→Prop)(i:Int):Prop:=∀y,Dn L i y→P y
theorem her_iff {P:Int→Prop}(ho:okI L i):Her L P i↔P i∧∀z∈(ndI L i).kids,Her L P z:=
 ⟨fun h=>⟨h i (dn_self L i),fun _ hz y hy=>h y (dn_up ho hz hy)⟩,fun⟨h1,h2⟩ y hy=>(dn_cases hy).elim (fun e=>e▸h1) fun⟨_,_,hz,h⟩=>h2 _ hz y h⟩
theorem dn_app {t:List Nd}(hw:Wk L){i y:Int}(ho:okI L i):Dn (L++t) i y↔Dn L i y:=by
 constructor
 ·intro h
  refine(h (fun y=>okI L y∧Dn L i y) ⟨ho,dn_self L i⟩ fun a b ⟨h1,h2⟩ _ hb=> ?_).2
  rw[ndI_app h1]at hb
  exact⟨hw.ok h1 hb,dn_kid h2 h1 hb⟩
 intro h
 refine(h (fun y=>okI L y∧Dn (L++t) i y) ⟨ho,dn_self _ i⟩ fun a b ⟨h1,h2⟩ _ hb=> ?_).2
 exact⟨hw.ok h1 hb,dn_kid h2 (okI_app h1) (by rw[ndI_app h1];exact hb)⟩
theorem her_le {L':List Nd}(hw:Wk L)(hl: ∃t,L'=L++t){P P':Int→Prop}(hP: ∀y,okI L y→(P' y↔P y)){i:Int}(ho:okI L i):Her L' P' i↔Her L P i:=by
 obtain⟨t,rfl⟩:=hl
 exact⟨fun h y hy=>(hP y (dn_ok hw ho hy)).1 (h y ((dn_app hw ho).2 hy)),fun h y hy=>(hP y (dn_ok hw ho ((dn_app hw ho).1 hy))).2 (h y ((dn_app hw ho).1 hy))⟩
theorem her_rk {P:Int→Prop}{ids:List Int}(hi: ∀x∈ids,Her L P x){x:Int}(hx:Rk L kd ids x):Her L P x:=
 hx (Her L P) hi fun _ z hy ho _ hz=>((her_iff ho).1 hy).2 z hz
theorem putE_node {n:Nd}(he:(putE nn kk s n).2.2=0):ndI (putE nn kk s n).1.L (putE nn kk s n).2.1=n:=by
 rcases putE_cases nn kk s n with⟨i,g1,e⟩|⟨_,er,g1,e,_⟩|⟨_,_,_,e⟩
 ·rw[e]
  show(s.L[((i:Int)).toNat]?).getD _=_
  rw[Int.toNat_natCast,g1]
  rfl
 ·rw[e]at he
  exact absurd he g1
 rw[e]
 show((s.L++ [n])[((s.L.length:Int)).toNat]?).getD _=_
 rw[Int.toNat_natCast]
 simp
theorem actJ_cases {l:List Int}(hkd:kd=5∨kd=6)(hl: ∀x∈l,okI s.L x):
  (l= []∧actJ nn kk s kd l=(s,if kd=5 then 1 else 0,0))∨(∃x,(∀y,y∈l↔y=x)∧actJ nn kk s kd l=(s,x,0))∨(2≤(ris l).length∧actJ nn kk s kd l=putE nn kk s ⟨kd,0,[],0,0,ris l⟩):=by
 have ha:l.any (lck s.L.length)=false:=by
  rw[List.any_eq_false]
  intro x hx
  rw[okI_lck.2 (hl x hx)]
  simp
 have hm:=mem_ris l
 unfold actJ
 rw[if_neg o_m,ha,if_neg (by simp)]
 split
 ·rename_i e
  rw[e]at hm
  exact .inl ⟨List.eq_nil_iff_forall_not_mem.2 fun x hx=>List.not_mem_nil ((hm x).2 hx),rfl⟩
 ·rename_i x e
  rw[e]at hm
  exact .inr (.inl ⟨x,fun y=>by rw[←hm y,List.mem_singleton],rfl⟩)
 rename_i x y t e
 rw[e]
 exact .inr (.inr ⟨by simp,rfl⟩)
theorem SimpR.her {dual idle rul sg:Int}{ids:List Int}{r:St × Int × Int}(h:SimpR nn kk s kd dual idle rul sg ids r)(hkd:kd=5∨kd=6)(hr:rul=0∨rul=1)(hg:Gv kk s.L)(he:r.2.2=0)
  {P P':Int→Prop}(hP: ∀y,okI s.L y→(P' y↔P y))(h0:P 0)(h1:P 1)(hj:okI r.1.L r.2.1→(ndI r.1.L r.2.1).kind=kd→¬okI s.L r.2.1∨(∃l,(∀x,x∈l↔Need s.L sg dual (Mem s.L kd idle ids) x)∧(ndI r.1.L r.2.1).kids=ris l)→P' r.2.1)(hi: ∀x∈ids,Her s.L P x):Her r.1.L P' r.2.1:=by
 have hk:=h.kp hkd hr hg
 have hc: ∀x,(x=0∨x=1)→Her s.L P x:=fun x hx=>by
  rcases hx with rfl|rfl
  ·rw[her_iff hg.ok0,hg.n0];exact⟨h0,fun z hz=>by cases hz⟩
  rw[her_iff hg.ok1,hg.n1];exact⟨h1,fun z hz=>by cases hz⟩
 rcases h with⟨_,rfl⟩|⟨ho,⟨_,rfl⟩|⟨_,l,hl,rfl⟩⟩
 ·cases he
 ·exact(her_le hg.wk hk.le hP (by rcases hr with rfl|rfl;exact hg.ok0;exact hg.ok1)).2 (hc _ hr)
 have hlo: ∀x∈l,okI s.L x:=fun x hx=>((hl x).1 hx).1.1.2.1
 have hlh: ∀x∈l,Her s.L P x:=fun x hx=>her_rk hi ((hl x).1 hx).1.1.1
 rcases actJ_cases (nn:=nn) (kk:=kk) hkd hlo with⟨_,e⟩|⟨x,hx,e⟩|⟨h2,e⟩
 ·rw[e]at hk ⊢
  refine(her_le hg.wk hk.le hP ?_).2 (hc _ ?_)
  ·simp only
   split
   ·exact hg.ok1
   exact hg.ok0
  simp only
  split
  ·exact .inr rfl
  exact .inl rfl
 ·rw[e]at hk ⊢
  exact(her_le hg.wk hk.le hP (hlo x ((hx x).2 rfl))).2 (hlh x ((hx x).2 rfl))
 rw[e]at hk he hj ⊢
 have hn:=putE_node he
 have hok:=hk.ok he
 rw[her_iff hok,hn]
 refine⟨hj hok (by rw[hn]) (.inr ⟨l,hl,by rw[hn]⟩),fun z hz=> ?_⟩
 have hz':=(mem_ris l z).1 hz
 exact(her_le hg.wk hk.le hP (hlo z hz')).2 (hlh z hz')

def Law5 (kd dual idle rul sg:Int):Prop:=(kd=5∧dual=6∧idle=1∧rul=0∧sg=1)∨(kd=6∧dual=5∧idle=0∧rul=1∧sg= -1)
theorem rk_one {x:Int}(ho:okI L x)(hk:(ndI L x).kind=kd){y:Int}:Rk L kd [x] y↔y=x∨Rk L kd (ndI L x).kids y:=by
 constructor
 ·intro h
  refine h (fun y=>y=x∨Rk L kd (ndI L x).kids y) (fun y hy=> .inl (by simpa using hy)) fun a b ha hoa hka hb=> ?_
  rcases ha with rfl|ha
  ·exact .inr (rk_id hb)
  exact .inr (rk_kid ha hoa hka hb)
 rintro(rfl|h)
 ·exact rk_id (by simp)
 exact h (Rk L kd [x]) (fun a ha=>rk_kid (rk_id (by simp)) ho hk ha) fun a b ha hoa hka hb=>rk_kid ha hoa hka hb
end Nt
namespace Nt

variable {kk:Int}{L:List Nd}
def Prs (J:Int→Int→Prop):List Int→List Int→Prop
 | [],[]=>True
 |a::la,b::lb=>J a b∧Prs J la lb
 | [],_::_=>False
 |_::_,[]=>False
theorem prs_snoc {J:Int→Int→Prop}{a b:Int}(h:J a b): ∀{la lb:List Int},Prs J la lb→Prs J (la++ [a]) (lb++ [b])
 | [],[],_=>⟨h,trivial⟩
 |_::_,_::_,k=>⟨k.1,prs_snoc h k.2⟩
 | [],_::_,k=>False.elim k
 |_::_,[],k=>False.elim k
theorem prs_mono {J K:Int→Int→Prop}: ∀{la lb:List Int},(∀a∈la,∀b∈lb,J a b→K a b)→Prs J la lb→Prs K la lb
 | [],[],_,_=>trivial
 |a::_la,b::_lb,h,k=>⟨h a List.mem_cons_self b List.mem_cons_self k.1,prs_mono (fun a ha b hb=>h a (List.mem_cons_of_mem _ ha) b (List.mem_cons_of_mem _ hb)) k.2⟩
 | [],_::_,_,k=>False.elim k
 |_::_,[],_,k=>False.elim k
theorem prs_len {J:Int→Int→Prop}: ∀{la lb:List Int},Prs J la lb→la.length=lb.length
 | [],[],_=>rfl
 |_::_,_::_,k=>congrArg Nat.succ (prs_len k.2)
 | [],_::_,k=>False.elim k
 |_::_,[],k=>False.elim k
theorem prs_left {J:Int→Int→Prop}: ∀{la lb:List Int},Prs J la lb→∀a∈la,∃b∈lb,J a b
 | [],[],_,_a,ha=>absurd ha List.not_mem_nil
 |_x::_la,y::_lb,k,a,ha=>(List.mem_cons.1 ha).elim (fun e=>⟨y,List.mem_cons_self,e▸k.1⟩) fun h=>(prs_left k.2 a h).elim fun b hb=>⟨b,List.mem_cons_of_mem _ hb.1,hb.2⟩
 | [],_::_,k,_,_=>False.elim k
 |_::_,[],k,_,_=>False.elim k
theorem prs_right {J:Int→Int→Prop}: ∀{la lb:List Int},Prs J la lb→∀b∈lb,∃a∈la,J a b
 | [],[],_,_a,ha=>absurd ha List.not_mem_nil
 |x::_la,_y::_lb,k,b,hb=>(List.mem_cons.1 hb).elim (fun e=>⟨x,List.mem_cons_self,e▸k.1⟩) fun h=>(prs_right k.2 b h).elim fun a ha=>⟨a,List.mem_cons_of_mem _ ha.1,ha.2⟩
 | [],_::_,k,_,_=>False.elim k
 |_::_,[],k,_,_=>False.elim k
def ndA (a:Atm):Nd:=⟨a.kind,a.d,a.ps,a.k,0,[]⟩
theorem Gv.atm (h:Gv kk L){i:Int}(hi:okI L i)(hk:(ndI L i).kind<5):Fit (atmN (ndI L i))∧(ndI L i).ps.length≤209716∧(ndI L i).kids= []∧ndI L i=ndA (atmN (ndI L i)):=by
 rcases h.cases hi with⟨_,e⟩|⟨_,e⟩|⟨_,f,h1,_,_,e,h5,_⟩|⟨_,kd,kids,h3,e,_⟩|⟨_,kd,v,x,h3,e,_⟩
 ·rw[e];exact⟨.inl ⟨.inl rfl,rfl,rfl,rfl⟩,by simp[cst],rfl,rfl⟩
 ·rw[e];exact⟨.inl ⟨.inr rfl,rfl,rfl,rfl⟩,by simp[cst],rfl,rfl⟩
 ·rw[e];exact⟨h1,h5,rfl,rfl⟩
 ·rw[e]at hk;dsimp only at hk;omega
 rw[e]at hk;dsimp only at hk;omega
theorem Gv.quant (h:Gv kk L){i:Int}(hi:okI L i)(hk:(ndI L i).kind=7∨(ndI L i).kind=8): ∃x,(ndI L i).kids= [x]∧I64 (ndI L i).var∧ndI L i=⟨(ndI L i).kind,0,[],0,(ndI L i).var,[x]⟩∧okI L x:=by
 have hw:=h.wk
 rcases h.cases hi with⟨_,e⟩|⟨_,e⟩|⟨_,f,_,h2,_,e,_⟩|⟨_,kd,kids,h3,e,_⟩|⟨_,kd,v,x,h3,e,h5,h6⟩
 ·rw[e]at hk;simp[cst]at hk
 ·rw[e]at hk;simp[cst]at hk
 ·rw[e]at hk;dsimp only at hk;omega
 ·rw[e]at hk;dsimp only at hk;omega
 refine⟨x,by rw[e],by rw[e];exact h5,by rw[e],hw.ok hi (by rw[e];simp)⟩
theorem Gv.kinds (h:Gv kk L){i:Int}(hi:okI L i):0≤(ndI L i).kind∧(ndI L i).kind≤8:=by
 rcases h.cases hi with⟨_,e⟩|⟨_,e⟩|⟨_,f,_,h2,_,e,_⟩|⟨_,kd,kids,h3,e,_⟩|⟨_,kd,v,x,h3,e,h5,h6⟩
 ·rw[e];simp[cst]
 ·rw[e];simp[cst]
 ·rw[e];dsimp only;omega
 ·rw[e];dsimp only;omega
 rw[e];dsimp only;omega
def PlnP (L:List Nd)(y:Int):Prop:=(ndI L y).kind≠7∧(ndI L y).kind≠8
def Pln (L:List Nd)(i:Int):Prop:=Her L (PlnP L) i
theorem plnP_app {L':List Nd}(hl: ∃t,L'=L++t)(y:Int)(ho:okI L y):PlnP L' y↔PlnP L y:=by
 obtain⟨t,rfl⟩:=hl
 unfold PlnP
 rw[ndI_app ho]
theorem pln_le {L':List Nd}(hw:Wk L)(hl: ∃t,L'=L++t){i:Int}(ho:okI L i):Pln L' i↔Pln L i:=her_le hw hl (plnP_app hl) ho
end Nt
end Go.Proofs.YtbgpddlcfiiiaaaGreatDoor

namespace Go.Proofs.YtbgpddlcfiiiaaaGreatDoor
open Go.RowKit Go.Sort Go.Shelf
open Tm At
namespace Nt

variable {L:List Nd}{kk:Int}
def zNR :NR:=⟨0,false,none,0,0,none,0,0,false,none,0,0,0,none,0,0⟩
theorem node8_no {w:World}{pa pm:Nat}{F:Nat→Prop}(h:AX w pa pm L F){i:Int}(hi: ¬okI L i):Calls Tryz.prog 39 #[.pointer (some ⟨pa,0,none⟩),.int .i64 i] w fun e w'=>e= .returned (.tuple #[.agg (nE zNR),.bool false])∧Below w.heap.size w w':=by
 obtain⟨C,nv,bm,X,D,hA,-,-⟩:=h.ar
 have hlk:=hide (lacks_n (hA.below (below_alloc w (.cells #[.int .i64 0,.bool false,.slice none 0 0,.slice none 0 0,.bool false,.slice none 0 0,.int .i64 0,.slice none 0 0] 69))) i)
 rw[decide_eq_true (by unfold okI at hi;omega)]at hlk
 have b0:=below_alloc w (.cells #[.int .i64 0,.bool false,.slice none 0 0,.slice none 0 0,.bool false,.slice none 0 0,.int .i64 0,.slice none 0 0] 69)
 have y:=NB.new w 0 false none 0 0 none 0 0 false none 0 0 0 none 0 0
 go_enter Tryz.func39,Tryz.ntmps39
 go_wp2_with(go_at_call 69;refine hlk.out.mono ?_;rintro e w1 ⟨rfl,rfl⟩)
 replace b0:=hide b0
 clear hA hlk h hi
 generalize hpe:w.heap.size=p at*
 generalize w.alloc (.cells #[.int .i64 0,.bool false,.slice none 0 0,.slice none 0 0,.bool false,.slice none 0 0,.int .i64 0,.slice none 0 0] 69)=w2 at*
 refine bodyPost_ret (results_ct rfl _ _ p 69 _ (0,0) _ rfl y Tryz.underlying69 rfl k_f) rfl ?_
 exact⟨rfl,b0.out⟩
theorem Gv.numb (hV:Gv kk L)(h0:0≤kk){i:Int}(hi:okI L i): ∀z∈nums (ndI L i),(lim z:Int)≤kk:=by
 have hc: ∀q:Int,∀z∈nums (cst q),(lim z:Int)≤kk:=fun q z hz=>by
  have:z=0:=by simpa [nums,cst] using hz
  rw[this,lim_0]
  exact h0
 rcases hV.cases hi with⟨_,e⟩|⟨_,e⟩|⟨h2,_⟩|⟨h2,_⟩|⟨h2,_⟩
 ·rw[e];exact hc 0
 ·rw[e];exact hc 1
 all_goals exact(hV.wn i.toNat _ o_m (ndI_some hi)).2
theorem Gv.var (hV:Gv kk L){i:Int}(hi:okI L i):I64 (ndI L i).var:=by
 have h0:I64 0:=by unfold I64;omega
 rcases hV.cases hi with⟨_,e⟩|⟨_,e⟩|⟨_,f,_,_,_,e,_⟩|⟨_,kd,kids,_,e,_⟩|⟨_,kd,v,x,_,e,h5,_⟩
 ·rw[e];exact h0
 ·rw[e];exact h0
 ·rw[e];exact h0
 ·rw[e];exact h0
 rw[e];exact h5
theorem Gv.parts (hV:Gv kk L){i:Int}(hi:okI L i):(ndI L i).ps.length≤209716:=by
 rcases hV.cases hi with⟨_,e⟩|⟨_,e⟩|⟨_,f,_,_,_,e,h5,_⟩|⟨_,kd,kids,_,e,_⟩|⟨_,kd,v,x,_,e,_⟩
 ·rw[e];simp[cst]
 ·rw[e];simp[cst]
 ·rw[e];exact h5
 ·rw[e];simp
 rw[e];simp
theorem nd_nc (hV:Gv kk L)(h0:0≤kk){B:Nat}(hkk:kk≤(B:Int))(hL:L.length≤1048576){i:Int}(hi:okI L i){w w':World}{e:Ending}(h:NDF w w' e (ndI L i)):
  ∃x:NR,e= .returned (.tuple #[.agg (nE x),.bool true])∧NC (fun b=>w.heap.size≤b) w' x (ndI L i) B∧Below w.heap.size w w':=by
 obtain⟨⟨kd,sd,ad,ld,cd,ap,np,cp,sk,ak,lk,ck,vr,ka,kn,kc⟩,rfl,e1,e2,hd,nd,hp,hk,nk,hI,hnew,k⟩:=h
 dsimp only at e1 e2 hd nd hp hk nk hI hnew
 subst e1 e2
 have hkn:=hV.kinds hi
 have hz:=hV.numb h0 hi
 have hkd:=(hV.kids hi).1
 have hl1:=hI.1
 have hl2:=hp.1
 have hi2:=hi.2
 have hps:=hV.parts hi
 have hm: ∀p∈(ndI L i).ps,lim p.2≤B:=fun p hp=>by
  have:=hz p.2 (by unfold Nt.nums;exact List.mem_cons_of_mem _ (List.mem_cons_of_mem _ (List.mem_map_of_mem hp)))
  omega
 refine⟨⟨(ndI L i).kind,sd,ad,ld,cd,ap,np,cp,sk,ak,lk,ck,(ndI L i).var,ka,kn,kc⟩,rfl,⟨rfl,by unfold I64;omega,hd,nd,?_,?_,?_,hk,nk,?_,rfl,hV.var hi,hI,hnew,?_⟩,k⟩
 ·dsimp only
  rw[zn_limb hd]
  have:=hz (ndI L i).d (by unfold Nt.nums;exact List.mem_cons_self)
  omega
 ·refine⟨hp.1,?_⟩
  rcases hp.2 with h1|⟨b,off,e1,e0,e2,e3⟩
  ·exact .inl h1
  refine .inr ⟨b,off,e1,e0,e2,fun j hj=> ?_⟩
  obtain⟨s,a,l,c,g1,g2,g3,g4,g5,g6,g7⟩:=e3 j hj
  exact⟨s,a,l,c,g1,g2,g3,g4,g5,by rw[zn_limb g4];exact hm _ (List.getElem_mem hj),g7⟩
 ·dsimp only
  omega
 ·dsimp only
  rw[zn_limb hk]
  have:=hz (ndI L i).k (by unfold Nt.nums;exact List.mem_cons_of_mem _ List.mem_cons_self)
  omega
 dsimp only
 omega
def NX (w w':World)(e:Ending)(L:List Nd)(i:Int)(B:Nat):Prop:=
 (okI L i∧∃x:NR,e= .returned (.tuple #[.agg (nE x),.bool true])∧NC (fun b=>w.heap.size≤b) w' x (ndI L i) B∧Below w.heap.size w w')∨
 (¬okI L i∧e= .returned (.tuple #[.agg (nE zNR),.bool false])∧Below w.heap.size w w')
theorem node9_n {w:World}{pa pm:Nat}{F:Nat→Prop}(h:AX w pa pm L F)(hV:Gv kk L)(h0:0≤kk){B:Nat}(hkk:kk≤(B:Int))(hL:L.length≤1048576)(i:Int):
  Calls Tryz.prog 39 #[.pointer (some ⟨pa,0,none⟩),.int .i64 i] w fun e w'=>NX w w' e L i B:=by
 by_cases hi:okI L i
 ·obtain⟨h2,e⟩:=ndI_at hi
  have hc:=node8_f h h2
  rw[Int.toNat_of_nonneg hi.1]at hc
  refine hc.mono ?_
  intro e' w' hn
  rw[←e]at hn
  exact .inl ⟨hi,nd_nc hV h0 hkk hL hi hn⟩
 exact(node8_no h hi).mono fun e w' hh=> .inr ⟨hi,hh⟩
end Nt
end Go.Proofs.YtbgpddlcfiiiaaaGreatDoor

namespace Go.Proofs.YtbgpddlcfiiiaaaGreatDoor
open Go.RowKit Go.Sort Go.Shelf
open Tm
namespace Nt
namespace Od

theorem cmpI_anti (x y:Int):cmpI y x= -cmpI x y:=by unfold cmpI;split <;> split <;> (try split) <;> (try split) <;> omega
theorem cmpI_zero {x y:Int}:cmpI x y=0↔x=y:=by unfold cmpI;split <;> (try split) <;> omega
theorem cmpI_trans (x y z:Int)(h1:cmpI x y≤0)(h2:cmpI y z≤0):cmpI x z≤0∧(cmpI x z=0→cmpI x y=0∧cmpI y z=0):=by
 unfold cmpI at*
 omega
theorem ordQ_anti (p q:Int × Int):ordQ q p= -ordQ p q:=by
 unfold ordQ
 rw[cmpI_anti p.1 q.1,cmpI_anti p.2 q.2]
 by_cases h:cmpI p.1 q.1=0
 ·simp[h]
 have h': -cmpI p.1 q.1≠0:=by omega
 simp[h]
theorem ordQ_zero {p q:Int × Int}:ordQ p q=0↔p=q:=by
 unfold ordQ
 constructor
 ·intro h
  by_cases h1:cmpI p.1 q.1=0
  ·simp[h1]at h
   exact Prod.ext (cmpI_zero.1 h1) (cmpI_zero.1 h)
  simp[h1]at h
 rintro rfl
 simp[cmpI_zero.2]
theorem ordQ_trans (p q r:Int × Int)(h1:ordQ p q≤0)(h2:ordQ q r≤0):ordQ p r≤0∧(ordQ p r=0→ordQ p q=0∧ordQ q r=0):=by
 unfold ordQ at*
 have t1:=cmpI_trans p.1 q.1 r.1
 have t2:=cmpI_trans p.2 q.2 r.2
 have z1:=@cmpI_zero p.1 q.1
 have z2:=@cmpI_zero q.1 r.1
 have z3:=@cmpI_zero p.1 r.1
 split at h1 <;> split at h2 <;> split <;> omega
theorem ordL_anti : ∀ps qs:List (Int × Int),ordL qs ps= -ordL ps qs
 | [],[]=>rfl
 | [],_::_=>rfl
 |_::_,[]=>rfl
 |p::ps,q::qs=>by
  unfold ordL
  rw[ordQ_anti p q,ordL_anti ps qs]
  by_cases h:ordQ p q=0
  ·simp[h]
  have h': -ordQ p q≠0:=by omega
  simp[h]
theorem ordL_zero : ∀{ps qs:List (Int × Int)},ordL ps qs=0↔ps=qs
 | [],[]=>by simp[ordL]
 | [],_::_=>by simp[ordL]
 |_::_,[]=>by simp[ordL]
 |p::ps,q::qs=>by
  unfold ordL
  have:=@ordL_zero ps qs
  by_cases h:ordQ p q=0
  ·have e:=ordQ_zero.1 h
   subst e
   simp[h,this]
  have hne:p≠q:=fun e=>h (ordQ_zero.2 e)
  simp[h,hne]
theorem ordL_trans : ∀ps qs rs:List (Int × Int),ordL ps qs≤0→ordL qs rs≤0→ordL ps rs≤0∧(ordL ps rs=0→ordL ps qs=0∧ordL qs rs=0)
 | [],[],[]=>by simp[ordL]
 | [],[],_::_=>by simp[ordL]
 | [],_::_,[]=>by simp[ordL]
 | [],_::_,_::_=>by simp[ordL]
 |_::_,[],_=>by simp[ordL]
 |_::_,_::_,[]=>by simp[ordL]
 |p::ps,q::qs,r::rs=>by
  unfold ordL
  intro h1 h2
  have t1:=ordQ_trans p q r
  have t2:=ordL_trans ps qs rs
  have z1:=@ordQ_zero p q
  have z2:=@ordQ_zero q r
  have z3:=@ordQ_zero p r
  by_cases e1:ordQ p q=0
  ·have:=z1.1 e1
   subst this
   by_cases e2:ordQ p r=0
   ·simp[e1,e2]at h1 h2 ⊢
    exact t2 h1 h2
   simp[e1,e2]at h1 h2 ⊢
   omega
  by_cases e2:ordQ q r=0
  ·have:=z2.1 e2
   subst this
   simp[e1,e2]at h1 h2 ⊢
   omega
  simp only[e1,e2,ne_eq,not_false_eq_true,if_true]at h1 h2
  have:=t1 h1 h2
  have e3:ordQ p r≠0:=fun e=>e1 (this.2 e).1
  simp[e1,e2,e3]
  omega

structure Lin {α:Type}(f:α→α→Int):Prop where
 anti: ∀x y,f y x= -f x y
 trans: ∀x y z,f x y≤0→f y z≤0→f x z≤0∧(f x z=0→f x y=0∧f y z=0)
theorem Lin.swo {α:Type}{f:α→α→Int}(h:Lin f):SWO (ltOf f) where
 irrefl x:=by
  unfold ltOf
  rw[decide_eq_false_iff_not]
  have:=h.anti x x
  omega
 trans x y z h1 h2:=by
  unfold ltOf at*
  rw[decide_eq_true_eq]at*
  have:=h.trans x y z o_m o_m
  omega
 ntrans x y z h1 h2:=by
  unfold ltOf at*
  rw[decide_eq_false_iff_not]at*
  have a1:=h.anti x y
  have a2:=h.anti y z
  have a3:=h.anti x z
  have:=h.trans z y x o_m o_m
  omega
def lex {α:Type}(f g:α→α→Int)(x y:α):Int:=if f x y≠0 then f x y else g x y
theorem lex_pos {α:Type}{f:α→α→Int}(g:α→α→Int){x y:α}(h:f x y≠0):lex f g x y=f x y:=if_pos h
theorem lex_neg {α:Type}{f:α→α→Int}(g:α→α→Int){x y:α}(h:f x y=0):lex f g x y=g x y:=if_neg (fun e=>e h)
theorem Lin.lex {α:Type}{f g:α→α→Int}(hf:Lin f)(hg:Lin g):Lin (lex f g) where
 anti x y:=by
  have a1:=hf.anti x y
  by_cases e:f x y=0
  ·rw[lex_neg g e,lex_neg g (show f y x=0 by omega)]
   exact hg.anti x y
  rw[lex_pos g e,lex_pos g (show f y x≠0 by omega)]
  exact a1
 trans x y z:=by
  have b1:=hf.trans x y z
  have b2:=hg.trans x y z
  have a1:=hf.anti x y
  have a2:=hf.anti y z
  have a3:=hf.anti x z
  have b3:=hf.trans z y x
  intro h1 h2
  by_cases e1:f x y=0
  ·rw[lex_neg g e1]at h1 ⊢
   by_cases e2:f y z=0
   ·have e3:f x z=0:=by
     have c1:=(b1 o_m o_m).1
     have c2:=(b3 o_m o_m).1
     omega
    rw[lex_neg g e2]at h2 ⊢
    rw[lex_neg g e3]
    exact b2 h1 h2
   rw[lex_pos g e2]at h2
   have c1:=b1 o_m h2
   have e3:f x z≠0:=fun e=>e2 (c1.2 e).2
   rw[lex_pos g e3]
   exact⟨c1.1,fun e=>absurd e e3⟩
  rw[lex_pos g e1]at h1
  have h2':f y z≤0:=by
   by_cases e2:f y z=0
   ·omega
   rwa [lex_pos g e2]at h2
  have c1:=b1 h1 h2'
  have e3:f x z≠0:=fun e=>e1 (c1.2 e).1
  rw[lex_pos g e3]
  exact⟨c1.1,fun e=>absurd e e3⟩
theorem tot_cmp {α:Type}(k:α→Int):Lin (fun x y=>cmpI (k x) (k y)):=⟨fun _ _=>cmpI_anti _ _,fun _ _ _=>cmpI_trans _ _ _⟩
theorem tot_ord {α:Type}(k:α→List (Int × Int)):Lin (fun x y=>ordL (k x) (k y)):=⟨fun _ _=>ordL_anti _ _,fun _ _ _=>ordL_trans _ _ _⟩
theorem Lin.on {α β:Type}{f:β→β→Int}(h:Lin f)(k:α→β):Lin (fun x y=>f (k x) (k y)):=⟨fun _ _=>h.anti _ _,fun _ _ _=>h.trans _ _ _⟩
end Od
open Od
def bI (b:Bool):Int:=if b then 0 else 1
theorem neg_cmp {ps qs:List (Int × Int)}(h:neg1 ps≠neg1 qs):cmpI (ps.headD (0,0)).2 (qs.headD (0,0)).2=cmpI (bI (neg1 ps)) (bI (neg1 qs)):=by
 have hh: ∀l:List (Int × Int),neg1 l=decide ((l.headD (0,0)).2<0):=fun l=>by cases l <;> simp[neg1]
 rw[hh ps,hh qs]at h ⊢
 generalize (ps.headD (0,0)).2=a at*
 generalize (qs.headD (0,0)).2=b at*
 by_cases ha:a<0
 ·by_cases hb:b<0
  ·simp[ha,hb]at h
  rw[cmpI_lt o_m,decide_eq_true ha,decide_eq_false hb,cmpI_lt (by decide)]
 by_cases hb:b<0
 ·rw[cmpI_gt o_m,decide_eq_false ha,decide_eq_true hb,cmpI_gt (by decide)]
 simp[ha,hb]at h
theorem ordS_lex (sg:Int)(n m:Nd):ordS sg n.ps n.k m.ps m.k=lex (fun x y:Nd=>ordL (lnP x.ps) (lnP y.ps)) (lex (fun x y:Nd=>cmpI (bI (neg1 x.ps)) (bI (neg1 y.ps))) (fun x y:Nd=>cmpI (sg*x.k) (sg*y.k))) n m:=by
 unfold ordS
 by_cases h1:ordL (lnP n.ps) (lnP m.ps)=0
 ·rw[if_neg (fun e=>e h1),lex_neg (f:=fun x y:Nd=>ordL (lnP x.ps) (lnP y.ps)) _ h1]
  by_cases h:neg1 n.ps=neg1 m.ps
  ·rw[if_neg (fun e=>e h),lex_neg (f:=fun x y:Nd=>cmpI (bI (neg1 x.ps)) (bI (neg1 y.ps))) _ (by rw[h,cmpI_zero])]
  have h2:cmpI (bI (neg1 n.ps)) (bI (neg1 m.ps))≠0:=by
   rw[Ne,cmpI_zero]
   intro e
   apply h
   cases hn:neg1 n.ps <;> cases hm:neg1 m.ps <;> simp[hn,hm,bI]at e ⊢
  rw[if_pos h,lex_pos (f:=fun x y:Nd=>cmpI (bI (neg1 x.ps)) (bI (neg1 y.ps))) _ h2,neg_cmp h]
 rw[if_pos h1,lex_pos (f:=fun x y:Nd=>ordL (lnP x.ps) (lnP y.ps)) _ h1]
theorem totS (sg:Int):Lin (fun n m:Nd=>ordS sg n.ps n.k m.ps m.k):=by
 have e:(fun n m:Nd=>ordS sg n.ps n.k m.ps m.k)=lex (fun x y:Nd=>ordL (lnP x.ps) (lnP y.ps)) (lex (fun x y:Nd=>cmpI (bI (neg1 x.ps)) (bI (neg1 y.ps))) (fun x y:Nd=>cmpI (sg*x.k) (sg*y.k))):=funext fun n=>funext fun m=>ordS_lex sg n m
 rw[e]
 exact(tot_ord fun x:Nd=>lnP x.ps).lex ((tot_cmp fun x:Nd=>bI (neg1 x.ps)).lex (tot_cmp fun x:Nd=>sg*x.k))
theorem totD :Lin ordD:=(tot_cmp fun x:Nd=>x.d).lex ((tot_ord fun x:Nd=>lnP x.ps).lex (tot_cmp fun x:Nd=>x.k))
theorem tz_tz (t:Bool)(z:Int):tz t (tz t z)=z:=by cases t <;> simp[tz]
theorem tP_tP (t:Bool)(ps:List (Int × Int)):tP t (tP t ps)=ps:=by
 induction ps with
 |nil=>rfl
 |cons p ps ih=>
  have e:tP t (tP t (p::ps))=(p.1,tz t (tz t p.2))::tP t (tP t ps):=rfl
  rw[e,ih,tz_tz]
theorem ln_same {ps qs:List (Int × Int)}(h1:lnP ps=lnP qs)(h2:neg1 ps=neg1 qs):ps=qs:=by
 unfold lnP at h1
 rw[h2]at h1
 have:=congrArg (tP (neg1 qs)) h1
 rwa [tP_tP,tP_tP]at this
theorem tP_not (t:Bool)(ps:List (Int × Int)):tP t (tP (!t) ps)=negP ps:=by
 induction ps with
 |nil=>rfl
 |cons p ps ih=>
  have e:tP t (tP (!t) (p::ps))=(p.1,tz t (tz (!t) p.2))::tP t (tP (!t) ps):=rfl
  have e2:negP (p::ps)=(p.1,-p.2)::negP ps:=rfl
  rw[e,e2,ih]
  cases t <;> simp[tz]
theorem ln_neg {ps qs:List (Int × Int)}(h1:lnP ps=lnP qs)(h2:neg1 ps≠neg1 qs):qs=negP ps:=by
 unfold lnP at h1
 have h3:neg1 ps= !neg1 qs:=by cases h:neg1 ps <;> cases h':neg1 qs <;> simp[h,h']at h2 ⊢
 rw[h3]at h1
 have h4:=congrArg (tP (neg1 qs)) h1
 rw[tP_tP,tP_not]at h4
 exact h4.symm
end Nt
end Go.Proofs.YtbgpddlcfiiiaaaGreatDoor

namespace Go.Proofs.YtbgpddlcfiiiaaaGreatDoor
open Go.RowKit Go.Sort Go.Shelf
open Tm At
namespace Nt

theorem clash1 {K:Nat}{sg:Int}(hK:OrdC K sg){F G:Nat→Prop}{w:World}{i j:Int}{x y:NR}{n m:Nd}{B bl bo:Nat}{kd dual idle rul:Int}{so:Bool}{ao:Option Addr}{lo co:Nat}(hL:LwB w bl kd dual idle rul K)(hO:ZB w bo so ao lo co)(ho:Zn w so ao lo co 1)(hlo:lo≤1)(hx:NC F w x n B)(hy:NC G w y m B)(hB:B≤2097152):
  Calls Tryz.prog 216 #[.agg (mE i x),.agg (mE j y),.pointer (some ⟨bl,0,none⟩),.pointer (some ⟨bo,0,none⟩)] w fun e w'=>e= .returned (.bool (decide (cmpI (sg*(n.k+m.k)) (sg*1)≤0)))∧Below w.heap.size w w':=by
 have b0:=(gr_alloc w (.cells (mE i x) 233)).trans (gr_alloc _ (.cells (mE j y) 233))
 have zx:M9B _ w.heap.size i x:=M9B.below (heap_alloc_new w (.cells (mE i x) 233)) (below_alloc _ (.cells (mE j y) 233))
 have zy:M9B ((w.alloc (.cells (mE i x) 233)).alloc (.cells (mE j y) 233)) (w.alloc (.cells (mE i x) 233)).heap.size j y:=heap_alloc_new _ _
 rw[show(w.alloc (.cells (mE i x) 233)).heap.size=w.heap.size+1 from by simp]at zy
 have zl:=hL.below b0.b
 have zo:=hO.below b0.b
 have hA:Hid (∀w',Below ((w.alloc (.cells (mE i x) 233)).alloc (.cells (mE j y) 233)).heap.size ((w.alloc (.cells (mE i x) 233)).alloc (.cells (mE j y) 233)) w'→Calls Tryz.prog 37 #[.agg #[.bool x.sk,.slice x.ak x.lk x.ck],.agg #[.bool y.sk,.slice y.ak y.lk y.ck]] w' fun e w''=> ∃s' ad len cap,e= .returned (.agg #[.bool s',.slice ad len cap])∧Zn w'' s' ad len cap (n.k+m.k)∧Below w'.heap.size w' w''∧len≤2097153):=hide fun w' k=>(zadd_n (hx.zk.below (grow_step k b0.b)).zm (hy.zk.below (grow_step k b0.b)).zm (by have:=hx.hlk;omega) (by have:=hy.hlk;omega)).mono fun e w'' ⟨s',ad,len,cap,h1,h2,h3,h4⟩=>⟨s',ad,len,cap,h1,h2,h3,by have:=hx.hlk;have:=hy.hlk;omega⟩
 have hC:Hid (∀w' w'' s' ad len cap,Below ((w.alloc (.cells (mE i x) 233)).alloc (.cells (mE j y) 233)).heap.size ((w.alloc (.cells (mE i x) 233)).alloc (.cells (mE j y) 233)) w'→Zn w'' s' ad len cap (n.k+m.k)→len≤2097153→Below ((w.alloc (.cells (mE i x) 233)).alloc (.cells (mE j y) 233)).heap.size ((w.alloc (.cells (mE i x) 233)).alloc (.cells (mE j y) 233)) w''→Calls Tryz.prog K #[.agg #[.bool s',.slice ad len cap],.agg #[.bool so,.slice ao lo co]] w'' fun e w3=>e= .returned (.int .i64 (cmpI (sg*(n.k+m.k)) (sg*1)))∧Gr w'' w3):=hide fun w' w'' s' ad len cap _ hz hl k=>hK.2 hz.zm (ho.below (grow_step k b0.b)).zm o_m o_m
 replace b0:=hide b0
 generalize cmpI (sg*(n.k+m.k)) (sg*1)=oc at*
 clear hL hO ho
 have eg:=hK.1
 clear hK
 clear hx hy
 obtain⟨kd1,sd1,ad1,ld1,cd1,ap1,np1,cp1,sk1,ak1,lk1,ck1,vr1,ka1,kn1,kc1⟩:=x
 obtain⟨kd2,sd2,ad2,ld2,cd2,ap2,np2,cp2,sk2,ak2,lk2,ck2,vr2,ka2,kn2,kc2⟩:=y
 simp only[mE]at*
 go_enter Tryz.func216,Tryz.ntmps216
 go_wp2_with fail
 generalize (w.alloc (.cells #[.int .i64 i,.int .i64 kd1,.bool sd1,.slice ad1 ld1 cd1,.slice ap1 np1 cp1,.bool sk1,.slice ak1 lk1 ck1,.int .i64 vr1,.slice ka1 kn1 kc1] 233)).alloc (.cells #[.int .i64 j,.int .i64 kd2,.bool sd2,.slice ad2 ld2 cd2,.slice ap2 np2 cp2,.bool sk2,.slice ak2 lk2 ck2,.int .i64 vr2,.slice ka2 kn2 kc2] 233)=wB0 at*
 generalize w.heap.size=p at*
 generalize p+1=q at*
 have hS:Hid (∀w',Below wB0.heap.size wB0 w'→w'.cell? ⟨p,5,none⟩=some (.bool sk1)∧w'.cell? ⟨p,6,none⟩=some (.slice ak1 lk1 ck1)∧w'.cell? ⟨q,5,none⟩=some (.bool sk2)∧w'.cell? ⟨q,6,none⟩=some (.slice ak2 lk2 ck2)∧w'.cell? ⟨bl,4,none⟩=some (.func (.func K) #[] #[])∧w'.cell? ⟨bo,0,none⟩=some (.bool so)∧w'.cell? ⟨bo,1,none⟩=some (.slice ao lo co)∧Below wB0.heap.size wB0 w'):=hide fun w' k=>⟨(k.cell (p:=⟨p,5,none⟩) zx.lt).trans (zx.c 5),(k.cell (p:=⟨p,6,none⟩) zx.lt).trans (zx.c 6),(k.cell (p:=⟨q,5,none⟩) zy.lt).trans (zy.c 5),(k.cell (p:=⟨q,6,none⟩) zy.lt).trans (zy.c 6),(k.cell (p:=⟨bl,4,none⟩) zl.lt).trans zl.c4,(k.cell (p:=⟨bo,0,none⟩) zo.lt).trans zo.c0,(k.cell (p:=⟨bo,1,none⟩) zo.lt).trans zo.c1,k⟩
 clear zx zy zl zo
 go_region_held3 (fun w'=>w'.cell? ⟨p,5,none⟩=some (.bool sk1)∧w'.cell? ⟨p,6,none⟩=some (.slice ak1 lk1 ck1)∧w'.cell? ⟨q,5,none⟩=some (.bool sk2)∧w'.cell? ⟨q,6,none⟩=some (.slice ak2 lk2 ck2)∧w'.cell? ⟨bl,4,none⟩=some (.func (.func K) #[] #[])∧w'.cell? ⟨bo,0,none⟩=some (.bool so)∧w'.cell? ⟨bo,1,none⟩=some (.slice ao lo co)∧Below wB0.heap.size wB0 w') ((refine hS.out _ ?_;(with_reducible repeat' first|exact Below.refl _ _|assumption|refine grow_step (by assumption) ?_|refine grow_drew ?_|refine grow_alloc ?_ _|refine grow_drewN ?_ _)))
  (first|(go_at_call 37;refine Calls.mono (hA.out _ gw) ?_;rintro e w3 ⟨s',ad',len',cap',rfl,hz3,hg3,hl3⟩)|(refine Calls.mono (hC.out w3 _ s' ad' len' cap' gw (hz3.below gw) hl3 gw) ?_;rintro e w4 ⟨rfl,hg4'⟩;have hg4:=hg4'.b))
 rename_i hH
 have kf:=hide (grow_step hH.2.2.2.2.2.2.2 b0.out.b)
 clear hH hS hA hC eg
 go_wp2
 go_ret
 exact⟨rfl,kf.out⟩

end Nt
namespace Nt

variable {w:World}{b:Nat}{v:Value}{l:List Int}
def SlB (w:World)(b:Nat)(v:Value):Prop:=w.heap[b]? =some (.cells #[v] 33 (0,0))
theorem SlB.lt (h:SlB w b v):b<w.heap.size:=lt_of_block h
theorem SlB.c0 (h:SlB w b v):w.cell? ⟨b,0,none⟩=some v:=cell_of_row w b 0 _ _ (0,0) h
theorem SlB.below {w':World}(h:SlB w b v)(k:Below w.heap.size w w'):SlB w' b v:=(k.block b h.lt).trans h

theorem isThere_n {ba:Nat}{a:Option Addr}{c:Nat}{id:Int}(hb:SlB w ba (.slice a l.length c))(hI:IL w a l.length l)(hs:l.Pairwise (·≤·))(hm:l.length≤4194304):
  Calls Tryz.prog 219 #[.int .i64 id,.pointer (some ⟨ba,0,none⟩)] w fun e w'=>e= .returned (.bool (decide (id∈l)))∧Below w.heap.size w w':=by
 have u0:=hb.c0
 have hbs:Hid (∃ix:Int,Calls Tryz.prog 48 #[.slice a l.length c,.int .i64 id] w fun e w'=>e= .returned (.tuple #[.int .i64 ix,.bool (decide (id∈l))])∧Below w.heap.size w w'):=hide (by
  rcases hI.2 with h0|⟨b,off,rfl,hbl,hc⟩
  ·have hl:l= []:=List.eq_nil_of_length_eq_zero h0
   subst hl
   refine⟨0,(Tryz.slices_BinarySearch_int_empty a c id w).mono ?_⟩
   rintro e w' ⟨rfl,rfl⟩
   exact⟨rfl,Below.refl _ _⟩
  refine⟨((l.countP (· <id):Nat):Int),(Tryz.slices_BinarySearch_int b off l.length c l id w (Nat.le_refl _) o_m (fun j hj=> ?_) (by rw[List.take_length];exact hs)).mono ?_⟩
  ·rw[(hc j hj).1,List.getD_eq_getElem?_getD,List.getElem?_eq_getElem hj]
   rfl
  rintro e w' ⟨rfl,q,rfl⟩
  rw[List.take_length,show l.contains id=decide (id∈l)by simp]
  exact⟨rfl,below_drewN _ _ _⟩)
 obtain⟨ix,hcl⟩:=hbs.out
 replace hcl:=hide hcl
 clear hbs hI hb hs
 go_enter Tryz.func219,Tryz.ntmps219
 go_wp2_with fail
 refine hcl.out.mono ?_
 rintro e w1 ⟨rfl,k1⟩
 replace k1:=hide k1
 clear hcl u0
 go_wp2
 go_ret
 exact⟨rfl,k1.out⟩

theorem indexF_n {ka:Option Addr}{kc K:Nat}{cb:Array Value}{q:Int→Bool}(hI:IL w ka l.length l)(hm:l.length≤4194304)(eg: ∀args w,(callFunc K args).run Tryz.prog w= .ok (.enter K args) w)
  (hq: ∀w' z,z∈l→Below w.heap.size w w'→Calls Tryz.prog K (#[.int .i64 z]++cb) w' fun e w''=>e= .returned (.bool (q z))∧Below w'.heap.size w' w''):
  Calls Tryz.prog 111 #[.slice ka l.length kc,.func (.func K) #[] cb] w fun x w'=> ∃i:Int,x= .returned (.int .i64 i)∧(decide (0≤i)=l.any q)∧-1≤i∧i<l.length∧Below w.heap.size w w':=by
 go_enter Tryz.func111,Tryz.ntmps111
 go_wp2_with fail
 go_loopw [8] (fun i wr=> ∃t:Nat,t≤l.length∧i= .int .i64 t∧Hid ((l.take t).any q=false)∧Hid (Below w.heap.size w wr)) (fun i _=>l.length-(intOf i).toNat)
 case atStart=>exact⟨0,Nat.zero_le _,rfl,(show _=_ by simp),hide (Below.refl _ _)⟩
 case round=>
  obtain⟨t,ht,rfl,hno,kr⟩:=hrel
  by_cases htm:t<l.length
  ·rcases(hI.below kr.out).2 with h0|⟨bp,op,rfl,hbp,hLL⟩
   ·omega
   obtain⟨e0,hx⟩:=hLL t htm
   have hstep:Hid ((l.take (t+1)).any q=q l[t]):=(show _=_ by rw[List.take_succ_eq_append_getElem (l:=l) (i:=t) o_m,List.any_append,hno.out];simp)
   have hex:Hid (q l[t]=true→l.any q=true):=(fun hh=>List.any_eq_true.2 ⟨l[t],List.getElem_mem _,hh⟩)
   have hcl:=hide (hq wr l[t] (List.getElem_mem _) kr.out)
   generalize l[t]=lt at*
   clear hI hLL hq
   go_wp2_with fail
   refine hcl.out.mono ?_
   rintro x w2 ⟨rfl,k2⟩
   replace k2:=hide (grow_step k2 kr.out)
   clear hcl
   cases hil:q lt with
   |true=>
    have hany:=hide (hex.out hil)
    clear hil
    go_wp2
    go_ret
    exact⟨t,rfl,by rw[hany.out];simp,by omega,by omega,k2.out⟩
   |false=>
    have hst:=hide (hstep.out.trans hil)
    clear hil
    go_wp2
    go_round
    case rel=>exact⟨t+1,by omega,by go_num,hst,k2⟩
    case measure=>simp[intOf];omega
  obtain rfl:t=l.length:=by omega
  have hall:Hid (l.any q=false):=by
   have h1:=hno.out
   rw[List.take_of_length_le (Nat.le_refl _)]at h1
   exact h1
  clear hno
  go_wp2
  go_ret
  exact⟨-1,rfl,by rw[hall.out];rfl,by omega,by omega,kr.out⟩
theorem containsF_n {ka:Option Addr}{kc K:Nat}{cb:Array Value}{q:Int→Bool}(hI:IL w ka l.length l)(hm:l.length≤4194304)(eg: ∀args w,(callFunc K args).run Tryz.prog w= .ok (.enter K args) w)
  (hq: ∀w' z,z∈l→Below w.heap.size w w'→Calls Tryz.prog K (#[.int .i64 z]++cb) w' fun e w''=>e= .returned (.bool (q z))∧Below w'.heap.size w' w''):
  Calls Tryz.prog 68 #[.slice ka l.length kc,.func (.func K) #[] cb] w fun x w'=>x= .returned (.bool (l.any q))∧Below w.heap.size w w':=by
 have hix:=hide (indexF_n (kc:=kc) hI hm eg hq)
 clear hI hq
 go_enter Tryz.func68,Tryz.ntmps68
 go_wp2_with fail
 refine hix.out.mono ?_
 rintro x w1 ⟨i,rfl,h1,h2,h3,k1⟩
 replace k1:=hide k1
 replace h1:=hide h1
 clear hix
 go_wp2
 go_ret
 exact⟨by rw[←h1.out];rfl,k1.out⟩
end Nt
end Go.Proofs.YtbgpddlcfiiiaaaGreatDoor

namespace Go.Proofs.YtbgpddlcfiiiaaaGreatDoor
open Tm At
namespace Nt

theorem dn_le {L:List Nd}(hw:Wk L){id x:Int}(hi:okI L id)(h:Dn L id x):okI L x∧x≤id:=
 h (fun y=>okI L y∧y≤id) ⟨hi,Int.le_refl _⟩ fun y z hy ho hz=>⟨hw.ok ho hz,by have:=hw y ho z hz;omega⟩
def DnL (L:List Nd)(id:Int)(l:List Int):Prop:=l.Pairwise (· < ·)∧∀m,m∈l↔Dn L id m
structure Rch (L:List Nd) (id n:Int) (r:Int→Bool) (acc:List Int):Prop where
 top:r id=true
 snd: ∀m,r m=true→Dn L id m
 cls: ∀y,n<y→r y=true→∀z∈(ndI L y).kids,r z=true
 mem: ∀m,m∈acc↔n<m∧r m=true
 dec:acc.Pairwise (· > ·)
 len:(acc.length:Int)≤id-n
theorem rch_0 (L:List Nd)(id:Int):Rch L id id (fun m=>decide (m=id)) []:=
 ⟨by simp,fun m h=>by rw[of_decide_eq_true h];exact(dn_self L id),fun y hy h=>by have:=of_decide_eq_true h;omega,fun m=>⟨fun h=>(by cases h),fun⟨h1,h2⟩=>by have:=of_decide_eq_true h2;omega⟩,List.Pairwise.nil,by simp⟩
theorem Rch.skip {L:List Nd}{id n:Int}{r:Int→Bool}{acc:List Int}(h:Rch L id n r acc)(hn:r n=false):Rch L id (n-1) r acc:=by
 refine⟨h.top,h.snd,fun y hy hr=> ?_,fun m=> ?_,h.dec,by have:=h.len;omega⟩
 ·refine h.cls y ?_ hr
  rcases Int.lt_or_eq_of_le (show n≤y by omega)with h1|rfl
  ·exact h1
  rw[hn]at hr
  cases hr
 rw[h.mem m]
 refine and_congr_left fun hr=>⟨fun h1=>by omega,fun h1=> ?_⟩
 rcases Int.lt_or_eq_of_le (show n≤m by omega)with h2|rfl
 ·exact h2
 rw[hn]at hr
 cases hr
theorem Rch.take {L:List Nd}(hw:Wk L){id n:Int}{r:Int→Bool}{acc:List Int}(h:Rch L id n r acc)(hn:r n=true)(ho:okI L n):Rch L id (n-1) (fun m=>r m||decide (m∈(ndI L n).kids)) (acc++ [n]):=by
 have hk: ∀y,n≤y→decide (y∈(ndI L n).kids)=false:=fun y hy=>decide_eq_false fun hm=>by have:=hw n ho y hm;omega
 refine⟨by rw[h.top];rfl,fun m hm=> ?_,fun y hy hr z hz=> ?_,fun m=> ?_,?_,?_⟩
 ·rcases Bool.or_eq_true_iff.1 hm with h1|h1
  ·exact h.snd m h1
  exact dn_kid (h.snd n hn) ho (of_decide_eq_true h1)
 ·have hr2:r y=true:=by simpa [hk y o_m] using hr
  rcases Int.lt_or_eq_of_le (show n≤y by omega)with h1|rfl
  ·exact Bool.or_eq_true_iff.2 (.inl (h.cls y h1 hr2 z hz))
  exact Bool.or_eq_true_iff.2 (.inr (decide_eq_true hz))
 ·rw[mem_snoc,h.mem m]
  constructor
  ·rintro(⟨h1,h2⟩|rfl)
   ·exact⟨by omega,by rw[h2];rfl⟩
   exact⟨by omega,by rw[hn];rfl⟩
  rintro⟨h1,h2⟩
  rcases Int.lt_or_eq_of_le (show n≤m by omega)with h3|rfl
  ·exact .inl ⟨h3,by simpa [hk m o_m] using h2⟩
  exact .inr rfl
 ·rw[List.pairwise_append]
  refine⟨h.dec,List.pairwise_singleton _ _,fun x hx y hy=> ?_⟩
  rw[List.mem_singleton.1 hy]
  exact((h.mem x).1 hx).1
 have:=h.len
 rw[List.length_append,List.length_singleton]
 omega
theorem Rch.done {L:List Nd}(hw:Wk L){id:Int}(hi:okI L id){r:Int→Bool}{acc:List Int}(h:Rch L id (-1) r acc):DnL L id acc.reverse:=by
 refine⟨List.pairwise_reverse.2 h.dec,fun m=> ?_⟩
 rw[List.mem_reverse,h.mem m]
 refine⟨fun h1=>h.snd m h1.2,fun h1=>⟨by have:=(dn_le hw hi h1).1.1;omega,?_⟩⟩
 exact h1 (fun y=>r y=true) h.top fun y z hy ho hz=>h.cls y (by have:=ho.1;omega) hy z hz
end Nt
end Go.Proofs.YtbgpddlcfiiiaaaGreatDoor
