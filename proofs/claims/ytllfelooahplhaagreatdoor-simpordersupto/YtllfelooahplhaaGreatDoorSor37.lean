/-
 Several texts in one: ED,EE,EF,EG,EP,EQ,ER,H8,ES,EH,EI,ET,EV,EW,EX,EZ,J1,JK,JL,JB.
-/
import Derived.Test.YtllfelooahplhaaGreatDoorSorT
import Derived.Test.YtllfelooahplhaaGreatDoorSor36
import Derived.Lib.OwnBridge
import Derived.Test.YtllfelooahplhaaGreatDoorSor06
import Derived.Test.YtllfelooahplhaaGreatDoorSor34
import Derived.Test.YtllfelooahplhaaGreatDoorSor22
import Derived.Test.YtllfelooahplhaaGreatDoorSor09
set_option maxRecDepth 100000
set_option maxHeartbeats 6400000
namespace Go.Proofs.YtllfelooahplhaaGreatDoor
open Go.RowKit Go.Sort Go.Shelf
open Tm At
namespace Nt

def ris (l:List Int):List Int:=Lib.compact (l.mergeSort fun x y=>decide (x≤y))
theorem compact_len (l:List Int):(Lib.compact l).length≤l.length:=by
 unfold Lib.compact Lib.compactUpTo
 rw[List.length_map]
 exact Nat.le_trans (List.length_filter_le _ _) (by simp)
theorem compact_mem {l:List Int}{x:Int}(h:x∈Lib.compact l):x∈l:=by
 unfold Lib.compact Lib.compactUpTo at h
 obtain⟨j,hj,rfl⟩:=List.mem_map.1 h
 have hj:=List.mem_range.1 (List.mem_filter.1 hj).1
 rw[getElem!_pos _ _ (by simpa using hj)]
 simp
theorem ris_mem {l:List Int}{x:Int}(h:x∈ris l):x∈l:=(List.mem_mergeSort).1 (compact_mem h)
theorem ris_nil :ris []= []:=by simp[ris,Lib.compact,Lib.compactUpTo]
def RI (w w':World)(e:Ending)(l:List Int):Prop:=CI w w' e (ris l).length (ris l)

theorem rising_n {w:World}{ka:Option Addr}{kc:Nat}{l:List Int}(hI:IL w ka l.length l)(hkn:l.length≤4194304):
  Calls Tryz.prog 79 #[.slice ka l.length kc] w fun e w'=>RI w w' e l:=by
 go_enter Tryz.func79,Tryz.ntmps79
 go_wp2_with fail
 by_cases h0:l= []
 ·subst h0
  refine(cloneI_n (kn:=0) hI (by simp)).mono ?_
  rintro e w1 ⟨a,c,rfl,h1,h2,k1⟩
  go_wp2_with(first|(go_at_call 131;refine(Tryz.slices_Sort_int_none a c w1).mono ?_;rintro e w2 ⟨rfl,rfl⟩)|(go_at_call 132;refine(Tryz.slices_Compact_int_empty a c _).mono ?_;rintro e w3 ⟨rfl,rfl⟩))
  go_ret
  unfold RI
  rw[ris_nil]
  exact⟨a,c,rfl,h1,h2,k1⟩
 have hl0:0<l.length:=List.length_pos_iff.2 h0
 rcases hI.2 with h2|⟨b,off,rfl,hb,h2⟩
 ·omega
 have hx: ∀x∈l,I64 x:=fun x hx=>by
  obtain⟨i,hi,rfl⟩:=List.getElem_of_mem hx
  exact(h2 i hi).2
 refine(Tryz.slices_Clone_int b off l.length kc l w (Nat.le_refl _) o_m (fun j hj=> ?_)).mono ?_
 ·rw[(h2 j hj).1,List.getD_eq_getElem?_getD,List.getElem?_eq_getElem hj]
  rfl
 rintro e w1 ⟨v,rfl,hown,hv0,k1⟩
 rw[List.take_of_length_le (Nat.le_refl _)]at hown
 obtain⟨g,cap,rfl,hg1,hg2,hcap,hmax,-,hH⟩:=Lib.holds_of_ownsRow hown hv0
 go_wp2_with fail
 refine(Tryz.slices_Sort_int g 0 cap l w1 hH hg2 o_m).mono ?_
 rintro e w2 ⟨rfl,q,os,rfl⟩
 have hsl:(l.mergeSort fun x y=>decide (x≤y)).length=l.length:=List.length_mergeSort _
 have hrl:(ris l).length≤l.length:=hsl▸compact_len _
 have r2:=Lib.ownsRow_putRow (q:=q) hown hsl (Nat.le_refl _)
 rw[List.take_of_length_le (Nat.le_of_eq hsl)]at r2
 have r3:=Lib.ownsRow_grow r2 0 os
 have kb:=Lib.below_putRow (enc:=Value.int .i64) (q:=q) (d:=(l.mergeSort fun x y=>decide (x≤y)).toArray) k1 hg1
 have kb3:=kb.trans (Lib.below_grow w.heap.size _ kb.size 0 os)
 have e0:(putRow (Value.int .i64) (Sort.ahead w1 q) g 0 (l.mergeSort fun x y=>decide (x≤y)).toArray).drewN 0=putRow (Value.int .i64) (Sort.ahead w1 q) g 0 (l.mergeSort fun x y=>decide (x≤y)).toArray:=rfl
 rw[e0]at r3 kb3
 generalize grow (putRow (Value.int .i64) (Sort.ahead w1 q) g 0 (l.mergeSort fun x y=>decide (x≤y)).toArray) os=w3 at*
 obtain⟨g',cap',e9,-,-,-,-,-,hH3⟩:=Lib.holds_of_ownsRow r3 (by simp)
 cases e9
 replace r3:=hide r3
 replace kb3:=hide kb3
 clear kb r2 hown hH e0
 have hcomp:=Tryz.slices_Compact_int g 0 cap (l.mergeSort fun x y=>decide (x≤y)) w3 hH3 o_m o_m
 rw[hsl]at hcomp
 replace hcomp:=hide hcomp
 clear hH3
 go_wp2_with fail
 refine hcomp.out.mono ?_
 rintro e w4 ⟨rfl,q4,rfl⟩
 have r4:=Lib.ownsRow_putRow (q:=q4) (ys:=ris l++List.replicate (l.length-(ris l).length) 0) r3.out (by simp;omega) (k:=(ris l).length) hrl
 rw[List.take_left' rfl]at r4
 have k4:=Lib.below_putRow (enc:=Value.int .i64) (q:=q4) (d:=(ris l++List.replicate (l.length-(ris l).length) 0).toArray) kb3.out hg1
 obtain⟨a5,c5,e5,hI5,hn5⟩:=row_il r4 (fun x hx'=>hx x (ris_mem hx'))
 cases e5
 have hfin:Hid (CI w _ (.returned (.slice (some ⟨g,0,none⟩) (ris l).length cap)) (ris l).length (ris l)):=hide ⟨_,_,rfl,hI5,hn5,k4⟩
 clear r4 k4 hI5 hn5
 go_wp2
 go_ret
 exact hfin.out
end Nt
namespace Nt

def cst (k:Int):Nd:=⟨k,0,[],0,0,[]⟩
def NW (w w':World)(e:Ending)(pm:Nat):Prop:=
 ∃pa C nv bm X D,e= .returned (.pointer (some ⟨pa,0,none⟩))∧AS w' pa pm [cst 0,cst 1] C 2097152 nv bm X D∧(∀b,FF pa bm nv C b→w.heap.size≤b)∧Below w.heap.size w w'
theorem as_new {w:World}{pa pm bm:Nat}(h:w.heap[pa]? =some (.cells #[.pointer (some ⟨pm,0,none⟩),.slice none 0 0,.map (some bm)] 75 (0,0)))(hm:w.ownsMap Tryz.prog 9 (plainElem Tryz.prog 3) bm 0 (.map []:DataW Value)):AS w pa pm [] (fun _=>False) 2097152 (.slice none 0 0) bm [] (.map []):=
 ⟨h,rfl,⟨rfl,.inl ⟨rfl,rfl⟩⟩,fun i hi=>absurd hi (Nat.not_lt_zero _),hm,⟨fun i hi=>absurd hi (Nat.not_lt_zero _),fun t _ z=>by simp[DataW.atKey]⟩,fun _ h=>h.elim,id,id,fun _ _ h=>h⟩
theorem cst_take (t:Nat)(h:t<2): [cst 0,cst 1].take (t+1)= [cst 0,cst 1].take t++ [cst t]∧cst t∉ [cst 0,cst 1].take t:=by
 obtain rfl|rfl:t=0∨t=1:=by omega
 ·exact⟨rfl,by simp⟩
 refine⟨rfl,fun h=> ?_⟩
 have h1:cst ((1:Nat):Int)=cst 0:=by simpa using h
 have:=congrArg Nd.kind h1
 exact absurd this (by decide)

def NN (w w':World)(e:Ending):Prop:=
 ∃pm pa C nv bm X D,e= .returned (.pointer (some ⟨pa,0,none⟩))∧AS w' pa pm [cst 0,cst 1] C 2097152 nv bm X D∧MB w' pm 2000 8 0 0∧¬FF pa bm nv C pm∧(∀b,FF pa bm nv C b→w.heap.size≤b)∧w.heap.size≤pm∧Below w.heap.size w w'
theorem nw_nn {w w1 w':World}{e:Ending}{pm:Nat}(h:NW w1 w' e pm)(hM:MB w1 pm 2000 8 0 0)(k:Below w.heap.size w w1∧w.heap.size≤pm):NN w w' e:=by
 obtain⟨pa,C,nv,bm,X,D,h1,h2,h3,h4⟩:=h
 have hl:=hM.lt
 exact⟨pm,pa,C,nv,bm,X,D,h1,h2,hM.below h4,fun hf=>by have:=h3 pm hf;omega,fun b hb=>Nat.le_trans k.1.size (h3 b hb),k.2,grow_step h4 k.1⟩
theorem newN_n {w:World}(htab:Tab w):Calls Tryz.prog 10 #[.pointer none] w fun e w'=>NN w w' e:=by
 go_enter Tryz.func10,Tryz.ntmps10
 go_wp2_with fail
 refine(new_n (by decide) (by decide) (by decide) (by decide)).mono ?_
 rintro e w1 ⟨rfl,hM1,k1⟩
 have htab1:=htab.below k1
 have k0:Below w.heap.size w w1∧w.heap.size≤w.heap.size:=⟨k1,Nat.le_refl _⟩
 generalize hpm:w.heap.size=pm at hM1 ⊢
 replace k0:Below w.heap.size w w1∧w.heap.size≤pm:=⟨k0.1,Nat.le_of_eq hpm⟩
 clear hpm k1
 have hmk:=run_makeMap (P:=Tryz.prog) 72 w1
 go_wp2_with fail
 clear hmk
 have b0:Below w1.heap.size w1 (((w1.alloc (.map #[] 0)).alloc (.cells #[.pointer (some ⟨pm,0,none⟩),.slice none 0 0,.map (some w1.heap.size)] 75)).alloc (.cells #[.int .i64 0,.int .i64 1] 3)):=below_alloc' (below_alloc' (below_alloc _ _) _) _
 have hlb:(((w1.alloc (.map #[] 0)).alloc (.cells #[.pointer (some ⟨pm,0,none⟩),.slice none 0 0,.map (some w1.heap.size)] 75)).alloc (.cells #[.int .i64 0,.int .i64 1] 3)).heap[w1.heap.size+1+1]? =some (.cells #[.int .i64 0,.int .i64 1] 3 (0,0)):=by
  have:=heap_alloc_new ((w1.alloc (.map #[] 0)).alloc (.cells #[.pointer (some ⟨pm,0,none⟩),.slice none 0 0,.map (some w1.heap.size)] 75)) (.cells #[.int .i64 0,.int .i64 1] 3)
  simpa using this
 have hab:(((w1.alloc (.map #[] 0)).alloc (.cells #[.pointer (some ⟨pm,0,none⟩),.slice none 0 0,.map (some w1.heap.size)] 75)).alloc (.cells #[.int .i64 0,.int .i64 1] 3)).heap[w1.heap.size+1]? =some (.cells #[.pointer (some ⟨pm,0,none⟩),.slice none 0 0,.map (some w1.heap.size)] 75 (0,0)):=by
  have h1:=heap_alloc_new (w1.alloc (.map #[] 0)) (.cells #[.pointer (some ⟨pm,0,none⟩),.slice none 0 0,.map (some w1.heap.size)] 75)
  have h2:=(below_alloc ((w1.alloc (.map #[] 0)).alloc (.cells #[.pointer (some ⟨pm,0,none⟩),.slice none 0 0,.map (some w1.heap.size)] 75)) (.cells #[.int .i64 0,.int .i64 1] 3)).block (w1.heap.size+1) (by simp)
  rw[h2]
  simpa using h1
 have hmp:(((w1.alloc (.map #[] 0)).alloc (.cells #[.pointer (some ⟨pm,0,none⟩),.slice none 0 0,.map (some w1.heap.size)] 75)).alloc (.cells #[.int .i64 0,.int .i64 1] 3)).ownsMap Tryz.prog 9 (plainElem Tryz.prog 3) w1.heap.size 0 (.map []:DataW Value):=((World.ownsMap_made w1 Tryz.prog 9 (plainElem (H:=Value) Tryz.prog 3)).alloc _).alloc _
 have hA0:=as_new hab hmp
 clear hab hmp
 generalize ((w1.alloc (.map #[] 0)).alloc (.cells #[.pointer (some ⟨pm,0,none⟩),.slice none 0 0,.map (some w1.heap.size)] 75)).alloc (.cells #[.int .i64 0,.int .i64 1] 3)=wb at*
 generalize hs:w1.heap.size=s at*
 replace b0:Hid (Below w1.heap.size w1 wb):=hs▸b0
 go_loopw [19] (fun i wr=> ∃(t:Nat) (C:Nat→Prop) (nv:Value) (X:List NR) (D:DataW Value),t≤2∧i= .int .i64 t∧Hid (AS wr (s+1) pm ([cst 0,cst 1].take t) C 2097152 nv s X D)∧Hid (∀b,FF (s+1) s nv C b→s≤b∧b≠s+1+1)∧Hid (wr.heap[s+1+1]? =some (.cells #[.int .i64 0,.int .i64 1] 3 (0,0)))∧Hid (Below w1.heap.size w1 wr)) (fun i _=>2-(intOf i).toNat)
 case atStart=>exact⟨0,_,_,_,_,by omega,rfl,hA0,(fun b hb=>by rcases hb with rfl|rfl|hb|hb <;> first|omega|(cases hb)),hlb,b0⟩
 case round=>
  obtain⟨t,C,nv,X,D,ht,rfl,hA,hF,hl,kr⟩:=hrel
  by_cases htn:t<2
  ·have hc0:wr.cell? ⟨s+1+1,t,none⟩=some (.int .i64 (t:Int)):=by
    rw[cell_of_row _ (s+1+1) t _ _ (0,0) hl.out]
    obtain rfl|rfl:t=0∨t=1:=by omega
    ·rfl
    rfl
   obtain⟨htk,hnew⟩:=cst_take t htn
   have y:=NB.new wr (t:Int) false none 0 0 none 0 0 false none 0 0 0 none 0 0
   have ka:=below_alloc wr (.cells #[.int .i64 (t:Int),.bool false,.slice none 0 0,.slice none 0 0,.bool false,.slice none 0 0,.int .i64 0,.slice none 0 0] 77)
   have hA1:=hA.out.below ka
   have hT1:=htab1.below (grow_step ka kr.out)
   have hl1:=(ka.block (s+1+1) (Array.getElem?_eq_some_iff.1 hl.out).1).trans hl.out
   have kr1:=grow_step ka kr.out
   replace y:=hide y
   replace hA1:=hide hA1
   go_wp2_with fail
   clear hc0
   replace y:=y.out
   replace hA1:=hA1.out
   have hq:s+1+1<wr.heap.size:=(Array.getElem?_eq_some_iff.1 hl.out).1
   generalize wr.alloc (.cells #[.int .i64 (t:Int),.bool false,.slice none 0 0,.slice none 0 0,.bool false,.slice none 0 0,.int .i64 0,.slice none 0 0] 77)=wq at*
   generalize hqe:wr.heap.size=q at*
   refine wp_region_held_drew (S:=(fun w'=>w'.cell? ⟨q,0,none⟩=some (.int .i64 (t:Int))∧w'.cell? ⟨q,1,none⟩=some (.bool false)∧w'.cell? ⟨q,2,none⟩=some (.slice none 0 0)∧w'.cell? ⟨q,3,none⟩=some (.slice none 0 0)∧w'.cell? ⟨q,4,none⟩=some (.bool false)∧w'.cell? ⟨q,5,none⟩=some (.slice none 0 0)∧w'.cell? ⟨q,6,none⟩=some (.int .i64 0)∧w'.cell? ⟨q,7,none⟩=some (.slice none 0 0))) k_f (lay_S y) (fun hHeld=> ?_)
   show wpAnyH _ _ _ _ _ 5 _ _ _
   refine tkz 0 25 ?_
   (try simp only[pz])
   refine tkz 1 26 ?_
   (try simp only[pz])
   refine tkz 2 27 ?_
   (try simp only[pz])
   refine ryz 3 (some 28) (fun K hK=> ?_) AllReadyH.nil
   go_simp
   refine Calls.mono (text_n (w:=wq.drew) (kids:=[]) (ps:=[]) (d:=0) (k:=0) (B:=0) (zn_zero _) o_m (pn_nil _ _ _) (zn_zero _) o_m ⟨rfl,.inl rfl⟩ (by unfold I64;omega) (by unfold I64;decide) o_m o_m o_m hT1) ?_
   rintro e w2 ⟨rfl,k2⟩
   replace k2:=grow_step k2 (grow_drew (Below.refl _ _))
   have y:=y.below k2
   have hA1:=hA1.below k2
   (try go_wp2_with fail)
   refine hK.out _ _ ?_ ?_
   ·(try dsimp only);exact lay_S y
   clear hK K hHeld;intro hHeld
   (try simp only[pz])
   refine ryz 4 (some 29) (fun K hK=> ?_) AllReadyH.nil
   go_simp
   refine Calls.mono (lay_n (w:=w2) (kids:=[]) (ps:=[]) (d:=0) (k:=0) hA1 (zn_zero _) o_m (pn_nil _ _ _) (zn_zero _) o_m ⟨rfl,.inl rfl⟩ (by unfold I64;omega) (by unfold I64;decide) o_m o_m o_m (by simp;omega) hnew (txt_length (w:=w2) (ap:=none) (np:=0) (ka:=none) (kn:=0) (B:=0) (zn_zero _) o_m (pn_nil _ _ _) (zn_zero _) o_m ⟨rfl,.inl rfl⟩ (by unfold I64;omega) (by unfold I64;decide) o_m o_m o_m)) ?_
   rintro e w3 ⟨rfl,C',nv',X',D',hA3,hF3,hB3⟩
   have y3:NB w3 q (t:Int) false none 0 0 none 0 0 false none 0 0 0 none 0 0:=(hB3.block q y.lt (fun hf=>by have h1:=hA.out.fl hf;omega)).trans y
   (try go_wp2_with fail)
   refine hK.out _ _ ?_ ?_
   ·(try dsimp only);exact lay_S y3
   clear hK K hHeld;intro hHeld
   (try simp only[pz])
   refine wpAnyH_done k_f ?_ _
   have hA4:Hid (AS w3 (s+1) pm ([cst 0,cst 1].take (t+1)) C' 2097152 nv' s X' D'):=hide (by rw[htk];exact hA3)
   have h2q:q<w2.heap.size:=y.lt
   have hF4:Hid (∀b,FF (s+1) s nv' C' b→s≤b∧b≠s+1+1):=hide fun b hb=>(hF3 b hb).elim (hF.out b) fun h=>⟨by omega,by omega⟩
   have hl2:=(k2.block (s+1+1) (Array.getElem?_eq_some_iff.1 hl1).1).trans hl1
   have hl4:Hid (w3.heap[s+1+1]? =some (.cells #[.int .i64 0,.int .i64 1] 3 (0,0))):=hide ((hB3.block (s+1+1) o_m (fun hf=>(hF.out _ hf).2 rfl)).trans hl2)
   have k4:Hid (Below w1.heap.size w1 w3):=hide ((grow_step k2 kr1).trans (hB3.below (fun b hb=>by have:=(hF.out b hb).1;omega) o_m))
   clear hHeld hA3 hF3 hB3 y y3 hA1 k2 hl1 hl2 kr1 hA hF hl kr ka hT1 hA0 hlb
   go_wp2
   exact⟨⟨t+1,C',nv',X',D',by omega,by go_num,hA4,hF4,hl4,k4⟩,by simp[intOf];omega⟩
  obtain rfl:t=2:=by omega
  have hfin:Hid (NW w1 wr (.returned (.pointer (some ⟨s+1,0,none⟩))) pm):=hide ⟨s+1,C,nv,s,X,D,rfl,hA.out,fun b hb=>by have:=(hF.out b hb).1;omega,kr.out⟩
  clear hA hF hl kr hA0 hlb
  go_wp2
  go_ret
  exact nw_nn hfin.out hM1 k0
end Nt
namespace Nt

def lck (n:Nat)(id:Int):Bool:=decide (id<0∨(n:Int)≤id)

theorem index8_n {w:World}{pa pm:Nat}{L:List Nd}{C:Nat→Prop}{B:Nat}{nv:Value}{bm:Nat}{X:List NR}{D:DataW Value}{ka:Option Addr}{kc:Nat}{l:List Int}(hA:AS w pa pm L C B nv bm X D)(hI:IL w ka l.length l)(hm:l.length≤4194304):
  Calls Tryz.prog 103 #[.slice ka l.length kc,.func (.func 52) #[.pointer (some ⟨pa,0,none⟩)] #[]] w fun x w'=> ∃i:Int,x= .returned (.int .i64 i)∧(decide (0≤i)=l.any (lck L.length))∧-1≤i∧i<l.length∧w'=w:=by
 go_enter Tryz.func103,Tryz.ntmps103
 go_wp2_with fail
 go_loopw [8] (fun i wr=> ∃t:Nat,t≤l.length∧i= .int .i64 t∧Hid ((l.take t).any (lck L.length)=false)∧wr=w) (fun i _=>l.length-(intOf i).toNat)
 case atStart=>exact⟨0,Nat.zero_le _,rfl,(show _=_ by simp),rfl⟩
 case round=>
  obtain⟨t,ht,rfl,hno,rfl⟩:=hrel
  by_cases htm:t<l.length
  ·rcases hI.2 with h0|⟨bp,op,rfl,hbp,hLL⟩
   ·omega
   obtain⟨e0,hx⟩:=hLL t htm
   have hstep:Hid ((l.take (t+1)).any (lck L.length)=lck L.length l[t]):=(show _=_ by rw[List.take_succ_eq_append_getElem (l:=l) (i:=t) o_m,List.any_append,hno.out];simp)
   have hex:Hid (lck L.length l[t]=true→l.any (lck L.length)=true):=(fun hh=>List.any_eq_true.2 ⟨l[t],List.getElem_mem _,hh⟩)
   generalize l[t]=lt at*
   clear hI hLL
   go_wp2_with fail
   refine(lacks_n hA lt).mono ?_
   rintro x w2 ⟨rfl,rfl⟩
   cases hil:lck L.length lt with
   |true=>
    have hany:=hide (hex.out hil)
    unfold lck at hil
    rw[hil]
    clear hil
    go_wp2
    go_ret
    exact⟨t,rfl,by rw[hany.out];simp,by omega,by omega,rfl⟩
   |false=>
    have hst:=hide (hstep.out.trans hil)
    unfold lck at hil
    rw[hil]
    clear hil
    go_wp2
    go_round
    case rel=>exact⟨t+1,by omega,by go_num,hst,by trivial⟩
    case measure=>simp[intOf];omega
  obtain rfl:t=l.length:=by omega
  have hall:Hid (l.any (lck L.length)=false):=by
   have h1:=hno.out
   rw[List.take_of_length_le (Nat.le_refl _)]at h1
   exact h1
  clear hno
  go_wp2
  go_ret
  exact⟨-1,rfl,by rw[hall.out];rfl,by omega,by omega,rfl⟩

theorem contains8_n {w:World}{pa pm:Nat}{L:List Nd}{C:Nat→Prop}{B:Nat}{nv:Value}{bm:Nat}{X:List NR}{D:DataW Value}{ka:Option Addr}{kc:Nat}{l:List Int}(hA:AS w pa pm L C B nv bm X D)(hI:IL w ka l.length l)(hm:l.length≤4194304):
  Calls Tryz.prog 53 #[.slice ka l.length kc,.func (.func 52) #[.pointer (some ⟨pa,0,none⟩)] #[]] w fun x w'=>x= .returned (.bool (l.any (lck L.length)))∧w'=w:=by
 go_enter Tryz.func53,Tryz.ntmps53
 go_wp2_with fail
 refine(index8_n hA hI hm).mono ?_
 rintro x w2 ⟨i,rfl,hi,hi1,hi2,rfl⟩
 replace hi:=hide hi
 go_wp2
 go_ret
 exact⟨by rw[←hi.out];rfl,rfl⟩
end Nt
namespace Nt

def JO (w w':World)(e:Ending)(pa pm:Nat)(L:List Nd)(C:Nat→Prop)(B:Nat)(nv:Value)(bm:Nat)(nn kk c er kd:Int)(l:List Int):Prop:=
 if ¬(kd=5∨kd=6)then e= .returned (.tuple #[.int .i64 0,.int .i64 1])∧w'=w
 else if l.any (lck L.length)=true then e= .returned (.tuple #[.int .i64 0,.int .i64 80])∧w'=w
 else match ris l with
  | []=>e= .returned (.tuple #[.int .i64 (if kd=5 then 1 else 0),.int .i64 0])∧Below w.heap.size w w'
  | [x]=>e= .returned (.tuple #[.int .i64 x,.int .i64 0])∧Below w.heap.size w w'
  |x::y::t=>MD w w' e pa pm L C B nv bm nn kk c er ⟨kd,0,[],0,0,x::y::t⟩
theorem ris_len (l:List Int):(ris l).length≤l.length:=by
 have h:=compact_len (l.mergeSort fun x y=>decide (x≤y))
 rwa [List.length_mergeSort]at h

theorem join8_n {w:World}{pa pm:Nat}{L:List Nd}{C:Nat→Prop}{nv:Value}{bm:Nat}{X:List NR}{D:DataW Value}{nn kk c er:Int}{kd:Int}{ka:Option Addr}{kc:Nat}{l:List Int}
  (hA:AS w pa pm L C 2097152 nv bm X D)(hM:MB w pm nn kk c er)(hpm: ¬FF pa bm nv C pm)(hc:0≤c)(hcn:c≤nn)(hnn:nn≤2000)(he:0≤er)(he2:er<256)(hI:IL w ka l.length l)(hl:l.length≤1048576)(hL:L.length≤1048576)(htab:Tab w):
  Calls Tryz.prog 40 #[.pointer (some ⟨pa,0,none⟩),.int .i64 kd,.slice ka l.length kc] w fun e w'=>JO w w' e pa pm L C 2097152 nv bm nn kk c er kd l:=by
 by_cases hb:kd=5∨kd=6
 ·cases ha:l.any (lck L.length)with
  |true=>
   rcases hb with rfl|rfl
   all_goals
    go_enter Tryz.func40,Tryz.ntmps40
    go_wp2_with(go_at_call 53;refine(contains8_n hA hI o_m).mono ?_;rintro e w1 ⟨rfl,rfl⟩;rw[ha])
    refine bodyPost_ret (results_tmp2 rfl _ _ _) rfl ?_
    unfold JO
    rw[if_neg (by decide),if_pos ha]
    exact⟨rfl,rfl⟩
  |false=>
   have hrl:=ris_len l
   rcases hb with rfl|rfl
   ·go_enter Tryz.func40,Tryz.ntmps40
    go_wp2_with(go_at_call 53;refine(contains8_n hA hI o_m).mono ?_;rintro e w1 ⟨rfl,rfl⟩;rw[ha])
    refine(rising_n hI o_m).mono ?_
    rintro e w2 ⟨a2,c2,rfl,hI2,hn2,k2⟩
    cases hr:ris l with
    |nil=>
     simp only[List.length_nil]
     clear hI2 hn2 hA hM hI htab
     go_wp2
     refine bodyPost_ret (results_tmp2 rfl _ _ _) rfl ?_
     unfold JO
     rw[if_neg (by decide),if_neg (by rw[ha];decide),hr]
     exact⟨rfl,k2⟩
    |cons x t=>
     cases t with
     |nil=>
      rw[hr]at hI2
      rcases hI2.2 with h0|⟨b,off,rfl,hb,hI3⟩
      ·exact absurd h0 (by simp)
      obtain⟨e0,-⟩:=hI3 0 (by simp)
      simp only[Nat.add_zero,List.getElem_cons_zero]at e0
      simp only[List.length_cons,List.length_nil,Nat.zero_add]
      clear hI2 hI3 hn2 hA hM hI htab
      go_wp2
      refine bodyPost_ret (results_tmp2 rfl _ _ _) rfl ?_
      unfold JO
      rw[if_neg (by decide),if_neg (by rw[ha];decide),hr]
      exact⟨rfl,k2⟩
     |cons y t=>
      rw[hr]at hI2 hn2 hrl
      have hml:=hM.lt
      have hkp:InF (fun b=>b≠pm) a2 (x::y::t).length:=fun b off e h0=>by have:=hn2 b off e h0;omega
      have hl2:1<(x::y::t).length:=by simp
      generalize hgt:x::y::t=m at*
      generalize hgl:m.length=ml at*
      have hmade:=made_n (kc:=c2) (sd:=false) (ad:=none) (ld:=0) (cd:=0) (ap:=none) (np:=0) (cp:=0) (sk:=false) (ak:=none) (lk:=0) (ck:=0) (d:=0) (k:=0) (ps:=[]) (vr:=0) (hA.below k2) (hM.below k2) hpm hc hcn hnn he he2 (zn_zero _) o_m (pn_nil _ _ _) (zn_zero _) o_m hI2 hkp (show I64 (5:Int)by unfold I64;decide) (by unfold I64;decide) o_m o_m o_m hL (htab.below k2)
      replace hmade:=hide hmade
      clear hI2 hA hM hI htab hkp hn2
      go_wp2_with fail
      refine hmade.out.mono ?_
      rintro e w3 hMD
      have hMD2:=hide (md_back hMD k2)
      obtain⟨ra,rb,rfl⟩: ∃ra rb:Int,e= .returned (.tuple #[.int .i64 ra,.int .i64 rb]):=by
       rcases hMD with⟨i,_,h2,_⟩|⟨_,_,h3,_⟩|⟨_,_,h3,_⟩
       ·exact⟨_,_,h2⟩
       ·exact⟨_,_,h3⟩
       exact⟨_,_,h3⟩
      clear hMD hmade
      go_wp2
      refine bodyPost_ret (results_tmp2 rfl _ _ _) rfl ?_
      unfold JO
      rw[if_neg (by decide),if_neg (by rw[ha];decide),hr,←hgt]
      rw[←hgt]at hMD2
      exact hMD2.out
   go_enter Tryz.func40,Tryz.ntmps40
   go_wp2_with(go_at_call 53;refine(contains8_n hA hI o_m).mono ?_;rintro e w1 ⟨rfl,rfl⟩;rw[ha])
   refine(rising_n hI o_m).mono ?_
   rintro e w2 ⟨a2,c2,rfl,hI2,hn2,k2⟩
   cases hr:ris l with
   |nil=>
    simp only[List.length_nil]
    clear hI2 hn2 hA hM hI htab
    go_wp2
    refine bodyPost_ret (results_tmp2 rfl _ _ _) rfl ?_
    unfold JO
    rw[if_neg (by decide),if_neg (by rw[ha];decide),hr]
    exact⟨rfl,k2⟩
   |cons x t=>
    cases t with
    |nil=>
     rw[hr]at hI2
     rcases hI2.2 with h0|⟨b,off,rfl,hb,hI3⟩
     ·exact absurd h0 (by simp)
     obtain⟨e0,-⟩:=hI3 0 (by simp)
     simp only[Nat.add_zero,List.getElem_cons_zero]at e0
     simp only[List.length_cons,List.length_nil,Nat.zero_add]
     clear hI2 hI3 hn2 hA hM hI htab
     go_wp2
     refine bodyPost_ret (results_tmp2 rfl _ _ _) rfl ?_
     unfold JO
     rw[if_neg (by decide),if_neg (by rw[ha];decide),hr]
     exact⟨rfl,k2⟩
    |cons y t=>
     rw[hr]at hI2 hn2 hrl
     have hml:=hM.lt
     have hkp:InF (fun b=>b≠pm) a2 (x::y::t).length:=fun b off e h0=>by have:=hn2 b off e h0;omega
     have hl2:1<(x::y::t).length:=by simp
     generalize hgt:x::y::t=m at*
     generalize hgl:m.length=ml at*
     have hmade:=made_n (kc:=c2) (sd:=false) (ad:=none) (ld:=0) (cd:=0) (ap:=none) (np:=0) (cp:=0) (sk:=false) (ak:=none) (lk:=0) (ck:=0) (d:=0) (k:=0) (ps:=[]) (vr:=0) (hA.below k2) (hM.below k2) hpm hc hcn hnn he he2 (zn_zero _) o_m (pn_nil _ _ _) (zn_zero _) o_m hI2 hkp (show I64 (6:Int)by unfold I64;decide) (by unfold I64;decide) o_m o_m o_m hL (htab.below k2)
     replace hmade:=hide hmade
     clear hI2 hA hM hI htab hkp hn2
     go_wp2_with fail
     refine hmade.out.mono ?_
     rintro e w3 hMD
     have hMD2:=hide (md_back hMD k2)
     obtain⟨ra,rb,rfl⟩: ∃ra rb:Int,e= .returned (.tuple #[.int .i64 ra,.int .i64 rb]):=by
      rcases hMD with⟨i,_,h2,_⟩|⟨_,_,h3,_⟩|⟨_,_,h3,_⟩
      ·exact⟨_,_,h2⟩
      ·exact⟨_,_,h3⟩
      exact⟨_,_,h3⟩
     clear hMD hmade
     go_wp2
     refine bodyPost_ret (results_tmp2 rfl _ _ _) rfl ?_
     unfold JO
     rw[if_neg (by decide),if_neg (by rw[ha];decide),hr,←hgt]
     rw[←hgt]at hMD2
     exact hMD2.out
 go_enter Tryz.func40,Tryz.ntmps40
 have h5:(kd !=5)=true:=by simp;omega
 have h6:(kd !=6)=true:=by simp;omega
 go_wp2
 refine bodyPost_ret (results_tmp2 rfl _ _ _) rfl ?_
 unfold JO
 rw[if_pos hb]
 exact⟨rfl,rfl⟩
end Nt
namespace Nt
theorem upto_rises {d:Array Int}(hs: ∀i j,i≤j→j<d.size→d[i]!≤d[j]!): ∀m,m≤d.size→(Lib.compactUpTo d m).Pairwise (· < ·)∧∀x∈Lib.compactUpTo d m,∃j,j<m∧x=d[j]!
  |0,_=>⟨by simp[Lib.compactUpTo],by simp[Lib.compactUpTo]⟩
  |m+1,hm=>by
    obtain⟨h1,h2⟩:=upto_rises hs m o_m
    rw[Lib.compactUpTo_succ]
    by_cases hk:Lib.keeps d m=true
    · rw[if_pos hk]
      refine⟨List.pairwise_append.2 ⟨h1,by simp,fun x hx y hy=> ?_⟩,fun x hx=> ?_⟩
      · obtain⟨j,hj,rfl⟩:=h2 x hx
        obtain rfl:=List.mem_singleton.1 hy
        have h3:d[m]! ≠d[m-1]!:=by
          have h4:=of_decide_eq_true hk
          rcases h4 with h4|h4
          · omega
          exact h4
        have h5:=hs j (m-1) o_m o_m
        have h6:=hs (m-1) m o_m o_m
        omega
      rcases List.mem_append.1 hx with h|h
      · obtain⟨j,hj,e⟩:=h2 x h
        exact⟨j,by omega,e⟩
      exact⟨m,by omega,List.mem_singleton.1 h⟩
    rw[if_neg hk,List.append_nil]
    exact⟨h1,fun x hx=>by obtain⟨j,hj,e⟩:=h2 x hx;exact⟨j,by omega,e⟩⟩
theorem sort_le (l:List Int):(l.mergeSort fun x y=>decide (x≤y)).Pairwise (·≤·):=by
  have h:=List.pairwise_mergeSort (le:=fun x y:Int=>decide (x≤y)) (fun a b c h1 h2=>by simp at*;omega) (fun a b=>by simp;omega) l
  exact h.imp (fun h=>by simpa using h)
theorem ris_rises (l:List Int):(ris l).Pairwise (· < ·):=by
  have h:=sort_le l
  refine(upto_rises (d:=(l.mergeSort fun x y=>decide (x≤y)).toArray) (fun i j hij hj=> ?_) _ (by simp)).1
  have hj2:j<(l.mergeSort fun x y=>decide (x≤y)).length:=by simpa using hj
  rw[getElem!_pos (l.mergeSort fun x y=>decide (x≤y)).toArray i (by simpa using Nat.lt_of_le_of_lt hij hj2),getElem!_pos (l.mergeSort fun x y=>decide (x≤y)).toArray j hj]
  by_cases he:i=j
  · subst he;exact Int.le_refl _
  exact List.pairwise_iff_getElem.1 h i j _ _ o_m
theorem ris_id {l:List Int}(h:l.Pairwise (· < ·)):ris l=l:=by
  unfold ris
  rw[List.mergeSort_of_pairwise (h.imp fun h=>by simp;omega)]
  refine Lib.compact_all l fun j hj=> ?_
  by_cases h0:j=0
  · subst h0;simp[Lib.keeps]
  refine Lib.keeps_pos ?_
  rw[getElem!_pos _ _ (by simpa using hj),getElem!_pos _ _ (by simp;omega)]
  have h2:=List.pairwise_iff_getElem.1 h (j-1) j o_m hj o_m
  simp only[List.getElem_toArray]
  omega
theorem ris_ne {l:List Int}(h:l≠ []):ris l≠ []:=by
  unfold ris
  have h2:(l.mergeSort fun x y=>decide (x≤y))≠ []:=fun h3=>h (by have:=List.length_mergeSort (le:=fun x y:Int=>decide (x≤y)) l;rw[h3]at this;exact List.eq_nil_of_length_eq_zero this.symm)
  generalize (l.mergeSort fun x y=>decide (x≤y))=m at h2
  cases m with
  |nil=>exact absurd rfl h2
  |cons a t=>
    unfold Lib.compact Lib.compactUpTo
    rw[List.length_cons,List.range_succ_eq_map]
    simp[Lib.keeps]

structure Mk where
  kind:Int
  xk:Int
  xd:Int
  xp:List (Int × Int)
  xt:Int
  v:Int
  kids:List Int
structure St where
  L:List Nd
  c:Int
  er:Int
def nums (n:Nd):List Int:=n.d::n.k::n.ps.map Prod.snd
def Uq (L:List Nd):Prop:=∀(i j:Nat) (n:Nd),L[i]? =some n→L[j]? =some n→i=j
open Classical in
def eqn (a b:Nd):Bool:=decide (a.kind=b.kind∧a.d=b.d∧a.ps=b.ps∧a.k=b.k∧a.var=b.var∧a.kids=b.kids)
theorem eqn_iff (a b:Nd):eqn a b=true↔a=b:=by
  cases a
  cases b
  simp[eqn]
def spot (L:List Nd)(n:Nd):Nat:=L.findIdx (eqn n)
theorem spot_at {L:List Nd}{n:Nd}(h: ∃i:Nat,L[i]? =some n):spot L n<L.length∧L[spot L n]? =some n:=by
  obtain⟨i,hi⟩:=h
  have h1:spot L n<L.length:=List.findIdx_lt_length_of_exists ⟨n,List.mem_of_getElem? hi,(eqn_iff n n).2 rfl⟩
  refine⟨h1,?_⟩
  have h2:eqn n (L[spot L n]'h1)=true:=List.findIdx_getElem (w:=h1)
  rw[List.getElem?_eq_getElem h1,←(eqn_iff _ _).1 h2]
theorem spot_no {L:List Nd}{n:Nd}(h: ¬ ∃i:Nat,L[i]? =some n): ¬spot L n<L.length:=fun h1=>h ⟨spot L n,by
  have h2:eqn n (L[spot L n]'h1)=true:=List.findIdx_getElem (w:=h1)
  rw[List.getElem?_eq_getElem h1,←(eqn_iff _ _).1 h2]⟩
def put (nn kk:Int)(s:St)(n:Nd):St × Option Int:=
  if spot s.L n<s.L.length then(s,some (spot s.L n:Int))
  else if(mstep nn kk s.c s.er (nums n)).1=0 then(⟨s.L++ [n],(mstep nn kk s.c s.er (nums n)).2.1,(mstep nn kk s.c s.er (nums n)).2.2⟩,some (s.L.length:Int))
  else(⟨s.L,(mstep nn kk s.c s.er (nums n)).2.1,(mstep nn kk s.c s.er (nums n)).2.2⟩,none)
def joinA (kd:Int)(l:List Int):Option Int ⊕ Nd:=match ris l with
  | []=> .inl (some (if kd=5 then 1 else 0))
  | [x]=> .inl (some x)
  |x::y::t=> .inr ⟨kd,0,[],0,0,x::y::t⟩
def atomA (kd d:Int)(ps:List (Int × Int))(k:Int):Option Int ⊕ Nd:=match formA kd d (nz (lays [] ps)) k with
  | .inr _=> .inl none
  | .inl f=> .inr ⟨f.kind,f.d,f.ps,f.k,0,[]⟩
def ask (ids:List Int)(m:Mk):Option Int ⊕ Nd:=
  if whatI m.kind=0 then atomA m.xk m.xd m.xp m.xt
  else if whatI m.kind=1 then joinA 5 (ofI m.kids ids)
  else if whatI m.kind=2 then joinA 6 (ofI m.kids ids)
  else if whatI m.kind=3 then .inr ⟨7,0,[],0,pick m.v 4,[(ofI m.kids ids).headD 0]⟩
  else .inr ⟨8,0,[],0,pick m.v 4,[(ofI m.kids ids).headD 0]⟩
def asked (nn kk:Int)(s:St)(q:Option Int ⊕ Nd):St × Option Int:=match q with
  | .inl o=>(s,o)
  | .inr n=>put nn kk s n
def wants (nn kk:Int)(s:St)(ids:List Int)(m:Mk):St × Option Int:=asked nn kk s (ask ids m)
def stepW (nn kk:Int)(p:St × List Int)(m:Mk):St × List Int:=((wants nn kk p.1 p.2 m).1,p.2++(wants nn kk p.1 p.2 m).2.toList)
def runW (nn kk:Int)(p:St × List Int)(R:List Mk):St × List Int:=R.foldl (stepW nn kk) p

theorem mstep_cases (nn kk c e:Int)(zs:List Int):(e≠0∧mstep nn kk c e zs=(e,c,e))∨(e=0∧∃r,r≠0∧mstep nn kk c e zs=(r,c,r)∧(r=70∨r=71))∨(e=0∧mstep nn kk c e zs=(0,c+1,0)∧(zs.any fun z=>decide (kk<(lim z:Int)))=false∧1≤nn-c):=by
  unfold mstep
  by_cases h:e≠0
  · rw[if_pos h];exact .inl ⟨h,rfl⟩
  rw[if_neg h]
  have h0:e=0:=Decidable.not_not.1 h
  by_cases h1:(zs.any fun z=>decide (kk<(lim z:Int)))=true
  · rw[if_pos h1];exact .inr (.inl ⟨h0,71,by decide,rfl,.inr rfl⟩)
  rw[if_neg h1]
  by_cases h2:nn-c<1
  · rw[if_pos h2];exact .inr (.inl ⟨h0,70,by decide,rfl,.inl rfl⟩)
  rw[if_neg h2];exact .inr (.inr ⟨h0,rfl,by simpa using h1,by omega⟩)
theorem put_cases (nn kk:Int)(s:St)(n:Nd):
    (∃i:Nat,s.L[i]? =some n∧put nn kk s n=(s,some (i:Int)))∨
    ((∀i:Nat,s.L[i]? ≠some n)∧s.er≠0∧put nn kk s n=(s,none))∨
    ((∀i:Nat,s.L[i]? ≠some n)∧s.er=0∧∃r,(r=70∨r=71)∧put nn kk s n=(⟨s.L,s.c,r⟩,none))∨
    ((∀i:Nat,s.L[i]? ≠some n)∧s.er=0∧((nums n).any fun z=>decide (kk<(lim z:Int)))=false∧1≤nn-s.c∧put nn kk s n=(⟨s.L++ [n],s.c+1,0⟩,some (s.L.length:Int))):=by
  unfold put
  by_cases h: ∃i:Nat,s.L[i]? =some n
  · rw[if_pos (spot_at h).1];exact .inl ⟨spot s.L n,(spot_at h).2,rfl⟩
  rw[if_neg (spot_no h)]
  have hn: ∀i:Nat,s.L[i]? ≠some n:=fun i hi=>h ⟨i,hi⟩
  rcases mstep_cases nn kk s.c s.er (nums n)with⟨h1,h2⟩|⟨h1,r,h2,h3,h4⟩|⟨h1,h2,h3,h4⟩
  · rw[h2,if_neg h1];exact .inr (.inl ⟨hn,h1,rfl⟩)
  · rw[h3,if_neg h2];exact .inr (.inr (.inl ⟨hn,h1,r,h4,rfl⟩))
  rw[h2,if_pos rfl];exact .inr (.inr (.inr ⟨hn,h1,h3,h4,rfl⟩))
def Le (s F:St):Prop:=(∃t,F.L=s.L++t)∧(s.er≠0→F=s)
theorem Le.refl (s:St):Le s s:=⟨⟨[],by simp⟩,fun _=>rfl⟩
theorem Le.trans {s t u:St}(h:Le s t)(k:Le t u):Le s u:=by
  obtain⟨⟨a,ha⟩,h2⟩:=h
  obtain⟨⟨b,hb⟩,k2⟩:=k
  refine⟨⟨a++b,by rw[hb,ha,List.append_assoc]⟩,fun h=> ?_⟩
  obtain rfl:=h2 h
  exact k2 h
theorem put_le (nn kk:Int)(s:St)(n:Nd):Le s (put nn kk s n).1:=by
  rcases put_cases nn kk s n with⟨i,_,e⟩|⟨_,_,e⟩|⟨_,h,r,_,e⟩|⟨_,h,_,_,e⟩ <;> rw[e]
  · exact Le.refl s
  · exact Le.refl s
  · exact⟨⟨[],by simp⟩,fun h1=>absurd h h1⟩
  exact⟨⟨[n],rfl⟩,fun h1=>absurd h h1⟩
theorem wants_le (nn kk:Int)(s:St)(ids:List Int)(m:Mk):Le s (wants nn kk s ids m).1:=by
  unfold wants
  cases ask ids m with
  |inl o=>exact Le.refl s
  |inr n=>exact put_le nn kk s n
theorem run_le (nn kk:Int): ∀(R:List Mk) (s:St) (ids:List Int),Le s (runW nn kk (s,ids) R).1
  | [],s,_=>Le.refl s
  |m::R,s,ids=>(wants_le nn kk s ids m).trans (run_le nn kk R _ _)
theorem put_found {nn kk:Int}{F:St}{n:Nd}{i:Nat}(hU:Uq F.L)(h:F.L[i]? =some n):put nn kk F n=(F,some (i:Int)):=by
  rcases put_cases nn kk F n with⟨j,hj,e⟩|⟨h2,_⟩|⟨h2,_⟩|⟨h2,_⟩
  · rw[e,hU i j n h hj]
  · exact absurd h (h2 i)
  · exact absurd h (h2 i)
  exact absurd h (h2 i)
theorem put_uq {nn kk:Int}{s:St}{n:Nd}(h:Uq s.L):Uq (put nn kk s n).1.L:=by
  rcases put_cases nn kk s n with⟨i,hi,e⟩|⟨h1,h2,e⟩|⟨h1,h2,r,h3,e⟩|⟨h1,h2,h3,h4,e⟩ <;> rw[e]
  · exact h
  · exact h
  · exact h
  intro i j x hi hj
  have key: ∀i:Nat,(s.L++ [n])[i]? =some x→(i<s.L.length∧s.L[i]? =some x)∨(i=s.L.length∧x=n):=fun i hi=>by
    by_cases hl:i<s.L.length
    · rw[List.getElem?_append_left hl]at hi;exact .inl ⟨hl,hi⟩
    have h9:=(List.getElem?_eq_some_iff.1 hi).1
    simp at h9
    obtain rfl:i=s.L.length:=by omega
    simp at hi
    exact .inr ⟨rfl,hi.symm⟩
  rcases key i hi with⟨a1,a2⟩|⟨a1,a2⟩ <;> rcases key j hj with⟨b1,b2⟩|⟨b1,b2⟩
  · exact h i j x a2 b2
  · subst b2;exact absurd a2 (h1 i)
  · subst a2;exact absurd b2 (h1 j)
  omega
theorem wants_uq {nn kk:Int}{s:St}{ids:List Int}{m:Mk}(h:Uq s.L):Uq (wants nn kk s ids m).1.L:=by
  unfold wants
  cases ask ids m with
  |inl o=>exact h
  |inr n=>exact put_uq h
theorem run_uq {nn kk:Int}: ∀(R:List Mk) {s:St}{ids:List Int},Uq s.L→Uq (runW nn kk (s,ids) R).1.L
  | [],_,_,h=>h
  |m::R,s,ids,h=>run_uq R (s:=(stepW nn kk (s,ids) m).1) (ids:=(stepW nn kk (s,ids) m).2) (wants_uq h)
theorem form_fit {kind d:Int}{ps:List (Int × Int)}{k:Int}{f:Atm}(h:formA kind d (nz (lays [] ps)) k= .inl f):Fit f:=formA_fit (std_lays ps) h
theorem form_len {kind d:Int}{ps:List (Int × Int)}{k:Int}{f:Atm}(h:formA kind d (nz (lays [] ps)) k= .inl f):f.ps.length≤(nz (lays [] ps)).length:=(formA_prt (std_lays ps) h).1
def Gd (kk:Int)(i:Nat)(n:Nd):Prop:=
  (∃f:Atm,Fit f∧n=⟨f.kind,f.d,f.ps,f.k,0,[]⟩∧f.ps.length≤209716∧∀z∈nums n,(lim z:Int)≤kk)∨
  (∃kd kids,(kd=5∨kd=6)∧n=⟨kd,0,[],0,0,kids⟩∧2≤kids.length∧kids.length≤5∧kids.Pairwise (· < ·)∧∀x∈kids,0≤x∧x<(i:Int))∨
  (∃kd v x,(kd=7∨kd=8)∧n=⟨kd,0,[],0,v,[x]⟩∧0≤v∧v<4∧0≤x∧x<(i:Int))
def Gs (kk:Int)(s:St):Prop:=∀(i:Nat) (n:Nd),2≤i→s.L[i]? =some n→Gd kk i n
def In (s:St)(ids:List Int):Prop:=ids≠ []∧∀x∈ids,0≤x∧x<(s.L.length:Int)
theorem In.le {s F:St}{ids:List Int}(h:In s ids)(k:Le s F):In F ids:=by
  obtain⟨⟨t,ht⟩,_⟩:=k
  refine⟨h.1,fun x hx=> ?_⟩
  have:=h.2 x hx
  rw[ht,List.length_append]
  omega
def Wd (i:Nat)(n:Nd):Prop:=
  (∃f:Atm,Fit f∧n=⟨f.kind,f.d,f.ps,f.k,0,[]⟩∧f.ps.length≤209716)∨
  (∃kd kids,(kd=5∨kd=6)∧n=⟨kd,0,[],0,0,kids⟩∧2≤kids.length∧kids.length≤5∧kids.Pairwise (· < ·)∧∀x∈kids,0≤x∧x<(i:Int))∨
  (∃kd v x,(kd=7∨kd=8)∧n=⟨kd,0,[],0,v,[x]⟩∧0≤v∧v<4∧0≤x∧x<(i:Int))
theorem Wd.gd {kk:Int}{i:Nat}{n:Nd}(h:Wd i n)(h2:((nums n).any fun z=>decide (kk<(lim z:Int)))=false):Gd kk i n:=by
  rcases h with⟨f,h3,h4,h5⟩|h|h
  · refine .inl ⟨f,h3,h4,h5,fun z hz=> ?_⟩
    have h6:=List.any_eq_false.1 h2 z hz
    simpa using h6
  · exact .inr (.inl h)
  exact .inr (.inr h)
theorem joinA_wd {s:St}{kd:Int}{l:List Int}{n:Nd}(hk:kd=5∨kd=6)(h:joinA kd l= .inr n)(hl:l.length≤5)(hi: ∀x∈l,0≤x∧x<(s.L.length:Int)):Wd s.L.length n:=by
  unfold joinA at h
  have h1:=ris_len l
  have h2:=ris_rises l
  have h3: ∀x∈ris l,0≤x∧x<(s.L.length:Int):=fun x hx=>hi x (ris_mem hx)
  split at h
  · cases h
  · cases h
  rename_i x y t e
  rw[e]at h1 h2 h3
  cases h
  exact .inr (.inl ⟨kd,_,hk,rfl,by simp,by omega,h2,h3⟩)
theorem joinA_in {s:St}{kd:Int}{l:List Int}{o:Option Int}(h:joinA kd l= .inl o)(h0:l≠ [])(hi: ∀x∈l,0≤x∧x<(s.L.length:Int)): ∀x∈o.toList,0≤x∧x<(s.L.length:Int):=by
  unfold joinA at h
  split at h
  · rename_i e
    exact absurd e (ris_ne h0)
  · rename_i x e
    cases h
    intro y hy
    obtain rfl:y=x:=by simpa using hy
    exact hi y (ris_mem (by rw[e];simp))
  cases h
def Sm (m:Mk):Prop:=(nz (lays [] m.xp)).length≤209716
theorem ask_wd {s:St}{ids:List Int}{m:Mk}{n:Nd}(hI:In s ids)(hm:Sm m)(h:ask ids m= .inr n):Wd s.L.length n:=by
  have hof: ∀x∈ofI m.kids ids,0≤x∧x<(s.L.length:Int):=fun x hx=>hI.2 x (ofI_mem hI.1 hx)
  have hv:=pick_lt m.v (n:=4) (by decide)
  have hh:0≤(ofI m.kids ids).headD 0∧(ofI m.kids ids).headD 0<(s.L.length:Int):=by
    have h1:=ofI_ne (ks:=m.kids) (ids:=ids)
    cases ho:ofI m.kids ids with
    |nil=>exact absurd ho h1
    |cons a t=>exact hof a (by rw[ho];simp)
  unfold ask at h
  by_cases h0:whatI m.kind=0
  · rw[if_pos h0]at h
    unfold atomA at h
    cases hf:formA m.xk m.xd (nz (lays [] m.xp)) m.xt with
    |inr e=>rw[hf]at h;cases h
    |inl f=>
      rw[hf]at h
      cases h
      exact .inl ⟨f,form_fit hf,rfl,Nat.le_trans (form_len hf) hm⟩
  rw[if_neg h0]at h
  by_cases h1:whatI m.kind=1
  · rw[if_pos h1]at h
    exact joinA_wd (.inl rfl) h ofI_len hof
  rw[if_neg h1]at h
  by_cases h2:whatI m.kind=2
  · rw[if_pos h2]at h
    exact joinA_wd (.inr rfl) h ofI_len hof
  rw[if_neg h2]at h
  by_cases h3:whatI m.kind=3
  · rw[if_pos h3]at h
    cases h
    exact .inr (.inr ⟨7,_,_,.inl rfl,rfl,hv.1,hv.2,hh.1,hh.2⟩)
  rw[if_neg h3]at h
  cases h
  exact .inr (.inr ⟨8,_,_,.inr rfl,rfl,hv.1,hv.2,hh.1,hh.2⟩)
theorem ask_in {s:St}{ids:List Int}{m:Mk}{o:Option Int}(hI:In s ids)(h:ask ids m= .inl o): ∀x∈o.toList,0≤x∧x<(s.L.length:Int):=by
  have hof: ∀x∈ofI m.kids ids,0≤x∧x<(s.L.length:Int):=fun x hx=>hI.2 x (ofI_mem hI.1 hx)
  unfold ask at h
  by_cases h0:whatI m.kind=0
  · rw[if_pos h0]at h
    unfold atomA at h
    cases hf:formA m.xk m.xd (nz (lays [] m.xp)) m.xt with
    |inr e=>rw[hf]at h;cases h;simp
    |inl f=>rw[hf]at h;cases h
  rw[if_neg h0]at h
  by_cases h1:whatI m.kind=1
  · rw[if_pos h1]at h
    exact joinA_in h ofI_ne hof
  rw[if_neg h1]at h
  by_cases h2:whatI m.kind=2
  · rw[if_pos h2]at h
    exact joinA_in h ofI_ne hof
  rw[if_neg h2]at h
  by_cases h3:whatI m.kind=3
  · rw[if_pos h3]at h
    cases h
  rw[if_neg h3]at h
  cases h
theorem put_gs {nn kk:Int}{s:St}{n:Nd}(h:Gs kk s)(hw:Wd s.L.length n):Gs kk (put nn kk s n).1∧∀x∈(put nn kk s n).2.toList,0≤x∧x<((put nn kk s n).1.L.length:Int):=by
  rcases put_cases nn kk s n with⟨i,hi,e⟩|⟨h1,h2,e⟩|⟨h1,h2,r,h3,e⟩|⟨h1,h2,h3,h4,e⟩ <;> rw[e]
  · have hl:=(List.getElem?_eq_some_iff.1 hi).1
    refine⟨h,fun x hx=> ?_⟩
    obtain rfl:x=(i:Int):=by simpa using hx
    exact⟨by omega,show(i:Int)<(s.L.length:Int)by omega⟩
  · exact⟨h,by simp⟩
  · exact⟨h,by simp⟩
  refine⟨fun i x h2i hi=> ?_,fun x hx=> ?_⟩
  · by_cases hl:i<s.L.length
    · dsimp only at hi
      rw[List.getElem?_append_left hl]at hi
      exact h i x h2i hi
    have h9:=(List.getElem?_eq_some_iff.1 hi).1
    simp at h9
    obtain rfl:i=s.L.length:=by omega
    simp at hi
    subst hi
    exact hw.gd h3
  obtain rfl:x=(s.L.length:Int):=by simpa using hx
  simp;omega
theorem wants_gs {nn kk:Int}{s:St}{ids:List Int}{m:Mk}(h:Gs kk s)(hI:In s ids)(hm:Sm m):Gs kk (wants nn kk s ids m).1∧In (wants nn kk s ids m).1 (ids++(wants nn kk s ids m).2.toList):=by
  have hle:=wants_le nn kk s ids m
  have hI2:=hI.le hle
  have key:Gs kk (wants nn kk s ids m).1∧∀x∈(wants nn kk s ids m).2.toList,0≤x∧x<((wants nn kk s ids m).1.L.length:Int):=by
    unfold wants
    cases ha:ask ids m with
    |inl o=>exact⟨h,ask_in hI ha⟩
    |inr n=>exact put_gs h (ask_wd hI hm ha)
  refine⟨key.1,by simp[hI.1],fun x hx=> ?_⟩
  rcases List.mem_append.1 hx with h1|h1
  · exact hI2.2 x h1
  exact key.2 x h1
theorem run_gs {nn kk:Int}: ∀(R:List Mk) {s:St}{ids:List Int},Gs kk s→In s ids→(∀m∈R,Sm m)→Gs kk (runW nn kk (s,ids) R).1∧In (runW nn kk (s,ids) R).1 (runW nn kk (s,ids) R).2
  | [],_,_,h,hI,_=>⟨h,hI⟩
  |m::R,s,ids,h,hI,hm=>by
    have h1:=wants_gs (nn:=nn) h hI (hm m (by simp))
    exact run_gs R (s:=(stepW nn kk (s,ids) m).1) (ids:=(stepW nn kk (s,ids) m).2) h1.1 h1.2 fun x hx=>hm x (by simp[hx])
theorem put_in (nn kk:Int)(s:St)(n:Nd): ∀x∈(put nn kk s n).2.toList,0≤x∧x<((put nn kk s n).1.L.length:Int):=by
  rcases put_cases nn kk s n with⟨i,hi,e⟩|⟨h1,h2,e⟩|⟨h1,h2,r,h3,e⟩|⟨h1,h2,h3,h4,e⟩ <;> rw[e]
  · have hl:=(List.getElem?_eq_some_iff.1 hi).1
    exact fun x hx => by obtain rfl : x = (i : Int):=by simpa using hx
                         exact ⟨by omega,show (i : Int) < (s.L.length : Int) by omega⟩
  · simp
  · simp
  intro x hx
  obtain rfl:x=(s.L.length:Int):=by simpa using hx
  simp;omega
theorem wants_in {nn kk:Int}{s:St}{ids:List Int}{m:Mk}(hI:In s ids):In (wants nn kk s ids m).1 (ids++(wants nn kk s ids m).2.toList):=by
  have hI2:=hI.le (wants_le nn kk s ids m)
  have key: ∀x∈(wants nn kk s ids m).2.toList,0≤x∧x<((wants nn kk s ids m).1.L.length:Int):=by
    unfold wants
    cases ha:ask ids m with
    |inl o=>exact ask_in hI ha
    |inr n=>exact put_in nn kk s n
  refine⟨by simp[hI.1],fun x hx=> ?_⟩
  rcases List.mem_append.1 hx with h1|h1
  · exact hI2.2 x h1
  exact key x h1
theorem run_in {nn kk:Int}: ∀(R:List Mk) {s:St}{ids:List Int},In s ids→In (runW nn kk (s,ids) R).1 (runW nn kk (s,ids) R).2
  | [],_,_,hI=>hI
  |m::R,s,ids,hI=>run_in R (s:=(stepW nn kk (s,ids) m).1) (ids:=(stepW nn kk (s,ids) m).2) (wants_in hI)
theorem run_len (nn kk:Int): ∀(R:List Mk) (p:St × List Int),(runW nn kk p R).2.length≤p.2.length+R.length
  | [],p=>Nat.le_refl _
  |m::R,p=>by
    have h1:=run_len nn kk R (stepW nn kk p m)
    have h2:(stepW nn kk p m).2.length≤p.2.length+1:=by
      unfold stepW
      rw[List.length_append]
      cases (wants nn kk p.1 p.2 m).2 <;> simp
    have h3:runW nn kk p (m::R)=runW nn kk (stepW nn kk p m) R:=rfl
    rw[h3,List.length_cons]
    omega
theorem run_snoc (nn kk:Int)(p:St × List Int)(R:List Mk)(m:Mk):runW nn kk p (R++ [m])=stepW nn kk (runW nn kk p R) m:=by simp[runW]
def st0 :St:=⟨[cst 0,cst 1],0,0⟩
theorem st0_uq :Uq st0.L:=by
  intro i j n hi hj
  have hi1:=(List.getElem?_eq_some_iff.1 hi).1
  have hj1:=(List.getElem?_eq_some_iff.1 hj).1
  simp[st0]at hi1 hj1
  obtain rfl|rfl:i=0∨i=1:=by omega
  · obtain rfl|rfl:j=0∨j=1:=by omega
    · rfl
    exact absurd (congrArg (Option.map Nd.kind) (hi.trans hj.symm)) (by simp[st0,cst])
  obtain rfl|rfl:j=0∨j=1:=by omega
  · exact absurd (congrArg (Option.map Nd.kind) (hi.trans hj.symm)) (by simp[st0,cst])
  rfl
theorem st0_gs (kk:Int):Gs kk st0:=fun i n h hi=>by
  have hi1:=(List.getElem?_eq_some_iff.1 hi).1
  simp[st0]at hi1
  omega
theorem st0_in (c er:Int):In ⟨st0.L,c,er⟩ [0,1]:=⟨by simp,fun x hx=>by simp[st0]at*;omega⟩
end Nt
namespace Nt

structure AG (w:World) (pa pm:Nat) (nn kk:Int) (s:St) (F:Nat→Prop):Prop where
 ar: ∃C nv bm X D,AS w pa pm s.L C 2097152 nv bm X D∧¬FF pa bm nv C pm∧∀b,FF pa bm nv C b→F b
 mb:MB w pm nn kk s.c s.er
 c0:0≤s.c
 cn:s.c≤nn
 n2:nn≤2000
 e0:0≤s.er
 e2:s.er<256
 ln:(s.L.length:Int)≤s.c+2
 fl: ∀b,F b→b<w.heap.size
theorem AS.uq {w:World}{pa pm:Nat}{L:List Nd}{C:Nat→Prop}{B:Nat}{nv:Value}{bm:Nat}{X:List NR}{D:DataW Value}(h:AS w pa pm L C B nv bm X D):Uq L:=by
 intro i j n hi hj
 obtain⟨hi1,hi2⟩:=List.getElem?_eq_some_iff.1 hi
 obtain⟨hj1,hj2⟩:=List.getElem?_eq_some_iff.1 hj
 have e1:=h.is.1 i hi1 .nil
 have e2:=h.is.1 j hj1 .nil
 rw[hi2]at e1
 rw[hj2,e1]at e2
 injection e2 with e2
 injection e2 with _ e2
 omega
theorem AG.below {w w':World}{pa pm:Nat}{nn kk:Int}{s:St}{F:Nat→Prop}(h:AG w pa pm nn kk s F)(k:Below w.heap.size w w'):AG w' pa pm nn kk s F:=by
 obtain⟨⟨C,nv,bm,X,D,h1,h2,h3⟩,h4,h5,h6,h7,h8,h9,h10,h11⟩:=h
 exact⟨⟨C,nv,bm,X,D,h1.below k,h2,h3⟩,h4.below k,h5,h6,h7,h8,h9,h10,fun b hb=>Nat.lt_of_lt_of_le (h11 b hb) k.size⟩
def AO (w w':World)(e:Ending)(pa pm:Nat)(nn kk:Int)(F:Nat→Prop)(r:St × Option Int):Prop:=
 ∃x er:Int,e= .returned (.tuple #[.int .i64 x,.int .i64 er])∧(r.2=none→er≠0)∧(∀i,r.2=some i→x=i∧er=0)∧∃F',AG w' pa pm nn kk r.1 F'∧(∀b,F' b→F b∨w.heap.size≤b)∧ButF (fun b=>b=pm∨F b) w w'
theorem but_butF {w w':World}{p:Nat}{F:Nat→Prop}(h:But p w w'):ButF (fun b=>b=p∨F b) w w':=⟨h.os,h.tape,h.output,h.size,fun i hi hn=>h.block i hi fun e=>hn (.inl e)⟩
theorem ao_now {w w':World}{pa pm:Nat}{nn kk:Int}{s:St}{F:Nat→Prop}(hG:AG w pa pm nn kk s F)(k:Below w.heap.size w w')(i:Int):AO w w' (.returned (.tuple #[.int .i64 i,.int .i64 0])) pa pm nn kk F (s,some i):=
 ⟨i,0,rfl,fun h=>(by cases h),fun j h=>(by cases h;exact⟨rfl,rfl⟩),F,hG.below k,fun _ h=> .inl h,butF_below k⟩
theorem ao_not {w w':World}{pa pm:Nat}{nn kk:Int}{s:St}{F:Nat→Prop}(hG:AG w pa pm nn kk s F)(k:Below w.heap.size w w'){x er:Int}(he:er≠0):AO w w' (.returned (.tuple #[.int .i64 x,.int .i64 er])) pa pm nn kk F (s,none):=
 ⟨x,er,rfl,fun _=>he,fun j h=>(by cases h),F,hG.below k,fun _ h=> .inl h,butF_below k⟩
theorem md_ao {w w':World}{e:Ending}{pa pm:Nat}{nn kk:Int}{s:St}{F C:Nat→Prop}{nv:Value}{bm:Nat}{X:List NR}{D:DataW Value}{n:Nd}(hG:AG w pa pm nn kk s F)(hA:AS w pa pm s.L C 2097152 nv bm X D)(hpm: ¬FF pa bm nv C pm)(hF: ∀b,FF pa bm nv C b→F b)(h:MD w w' e pa pm s.L C 2097152 nv bm nn kk s.c s.er n):AO w w' e pa pm nn kk F (put nn kk s n):=by
 have hn:n∉s.L→¬ ∃i:Nat,s.L[i]? =some n:=fun h ⟨i,hi⟩=>h (List.mem_of_getElem? hi)
 have h0:=hG.c0
 have h1:=hG.cn
 have h2:=hG.n2
 have h3:=hG.e0
 have h4:=hG.e2
 have h5:=hG.ln
 rcases h with⟨i,g1,rfl,k⟩|⟨g1,g2,rfl,g4,k⟩|⟨g1,g2,rfl,g4,C',nv',X',D',g5,g6,g7⟩
 ·rw[put_found hA.uq g1]
  exact ao_now hG k i
 ·change (mstep nn kk s.c s.er (nums n)).1≠0 at g2
  change MB w' pm nn kk (mstep nn kk s.c s.er (nums n)).2.1 (mstep nn kk s.c s.er (nums n)).2.2 at g4
  have hA':AS w' pa pm s.L C 2097152 nv bm X D:=hA.move k.size fun b hb=>k.block b (hA.fl hb) fun e=>hpm (e▸hb)
  unfold put
  rw[if_neg (spot_no (hn g1)),if_neg g2]
  refine⟨_,_,rfl,fun _=>g2,fun i h=>(by cases h),F,⟨⟨C,nv,bm,X,D,hA',hpm,hF⟩,g4,?_,?_,h2,?_,?_,?_,fun b hb=>Nat.lt_of_lt_of_le (hG.fl b hb) k.size⟩,fun b hb=> .inl hb,but_butF k⟩
  all_goals
   rcases mstep_cases nn kk s.c s.er (nums n)with⟨a1,a2⟩|⟨a1,r,a2,a3,a4⟩|⟨a1,a2,a3,a4⟩
  all_goals
   first
    |(rw[a2];dsimp only;omega)
    |(rw[a3];dsimp only;omega)
 change (mstep nn kk s.c s.er (nums n)).1=0 at g2
 change MB w' pm nn kk (mstep nn kk s.c s.er (nums n)).2.1 (mstep nn kk s.c s.er (nums n)).2.2 at g4
 unfold put
 rw[if_neg (spot_no (hn g1)),if_pos g2]
 have hpm': ¬FF pa bm nv' C' pm:=fun hf=>(g6 pm hf).elim hpm fun h=>absurd (hG.mb.lt) o_m
 refine⟨_,_,rfl,fun h=>(by cases h),fun i h=>(by cases h;exact⟨rfl,rfl⟩),FF pa bm nv' C',⟨⟨C',nv',bm,X',D',g5,hpm',fun _ hb=>hb⟩,g4,?_,?_,h2,?_,?_,?_,fun b hb=>g5.fl hb⟩,fun b hb=>(g6 b hb).imp (hF b) id,g7.mono fun b hb=>hb.imp id (hF b)⟩
 all_goals
  rcases mstep_cases nn kk s.c s.er (nums n)with⟨a1,a2⟩|⟨a1,r,a2,a3,a4⟩|⟨a1,a2,a3,a4⟩
 all_goals
  first
   |(rw[a2]at g2;exact absurd g2 a1)
   |(rw[a3]at g2;exact absurd g2 a2)
   |(rw[a2];dsimp only;simp only[List.length_append,List.length_cons,List.length_nil];omega)
   |(rw[a2];dsimp only;omega)

theorem atom_ao {w:World}{pa pm:Nat}{nn kk:Int}{s:St}{F:Nat→Prop}{kd:Int}{sd:Bool}{ad:Option Addr}{ld cd:Nat}{ap:Option Addr}{np cp:Nat}{sk:Bool}{ak:Option Addr}{lk ck:Nat}{d k:Int}{ps:List (Int × Int)}{B:Nat}
  (hG:AG w pa pm nn kk s F)(hd:Zm w sd ad ld cd d)(hld:ld≤B)(hP:Pr w ap np ps B)(hk:Zm w sk ak lk ck k)(hlk:lk≤B)(hn:np≤209716)(hB:B≤1048576)(htab:Tab w):
  Calls Tryz.prog 33 #[.pointer (some ⟨pa,0,none⟩),.agg #[.int .i64 kd,.bool sd,.slice ad ld cd,.slice ap np cp,.bool sk,.slice ak lk ck]] w fun e w'=>AO w w' e pa pm nn kk F (asked nn kk s (atomA kd d ps k)):=by
 obtain⟨C,nv,bm,X,D,hA,hpm,hF⟩:=hG.ar
 have h1:=hG.cn
 have h2:=hG.n2
 have h3:=hG.ln
 refine(atom8_n hA hG.mb hpm hG.c0 hG.cn hG.n2 hG.e0 hG.e2 hd hld hP hk hlk hn hB o_m htab).mono ?_
 intro e w' h
 unfold AM at h
 unfold atomA
 cases hf:formA kd d (nz (lays [] ps)) k with
 |inr er=>
  rw[hf]at h
  obtain⟨rfl,kb⟩:=h
  exact ao_not hG kb (by rcases formA_er hf with rfl|rfl <;> decide)
 |inl f=>
  rw[hf]at h
  exact md_ao hG hA hpm hF h

theorem join_ao {w:World}{pa pm:Nat}{nn kk:Int}{s:St}{F:Nat→Prop}{kd:Int}{ka:Option Addr}{kc:Nat}{l:List Int}(hkd:kd=5∨kd=6)
  (hG:AG w pa pm nn kk s F)(hI:IL w ka l.length l)(hl:l.length≤1048576)(hi: ∀x∈l,0≤x∧x<(s.L.length:Int))(htab:Tab w):
  Calls Tryz.prog 40 #[.pointer (some ⟨pa,0,none⟩),.int .i64 kd,.slice ka l.length kc] w fun e w'=>AO w w' e pa pm nn kk F (asked nn kk s (joinA kd l)):=by
 obtain⟨C,nv,bm,X,D,hA,hpm,hF⟩:=hG.ar
 have h1:=hG.cn
 have h2:=hG.n2
 have h3:=hG.ln
 refine(join8_n hA hG.mb hpm hG.c0 hG.cn hG.n2 hG.e0 hG.e2 hI hl o_m htab).mono ?_
 intro e w' h
 unfold JO at h
 rw[if_neg (fun h=>h hkd),if_neg (by
  intro ha
  obtain⟨x,hx,hx2⟩:=List.any_eq_true.1 ha
  have:=hi x hx
  unfold lck at hx2
  simp at hx2
  omega)]at h
 unfold joinA
 cases hr:ris l with
 |nil=>
  rw[hr]at h
  obtain⟨rfl,kb⟩:=h
  exact ao_now hG kb _
 |cons x t=>
  cases t with
  |nil=>
   rw[hr]at h
   obtain⟨rfl,kb⟩:=h
   exact ao_now hG kb _
  |cons y t=>
   rw[hr]at h
   exact md_ao hG hA hpm hF h

theorem bind_ao {w:World}{pa pm:Nat}{nn kk:Int}{s:St}{F:Nat→Prop}{kd v kid:Int}(hkd:kd=7∨kd=8)
  (hG:AG w pa pm nn kk s F)(hv:I64 v)(hi:0≤kid∧kid<(s.L.length:Int))(htab:Tab w):
  Calls Tryz.prog 41 #[.pointer (some ⟨pa,0,none⟩),.int .i64 kd,.int .i64 v,.int .i64 kid] w fun e w'=>AO w w' e pa pm nn kk F (asked nn kk s (.inr ⟨kd,0,[],0,v,[kid]⟩)):=by
 obtain⟨C,nv,bm,X,D,hA,hpm,hF⟩:=hG.ar
 have h1:=hG.cn
 have h2:=hG.n2
 have h3:=hG.ln
 refine(bind8_n hA hG.mb hpm hG.c0 hG.cn hG.n2 hG.e0 hG.e2 hv (by unfold I64;omega) o_m htab).mono ?_
 intro e w' h
 unfold BI at h
 rw[if_neg (fun h=>h hkd),if_neg o_m]at h
 exact md_ao hG hA hpm hF h
theorem new_ag {w:World}(htab:Tab w):Calls Tryz.prog 10 #[.pointer none] w fun e w'=> ∃pa pm F,e= .returned (.pointer (some ⟨pa,0,none⟩))∧AG w' pa pm 2000 8 st0 F∧(∀b,F b→w.heap.size≤b)∧w.heap.size≤pm∧Below w.heap.size w w':=by
 refine(newN_n htab).mono ?_
 rintro e w' ⟨pm,pa,C,nv,bm,X,D,rfl,hA,hM,hpm,hF,hpw,k⟩
 exact⟨pa,pm,FF pa bm nv C,rfl,⟨⟨C,nv,bm,X,D,hA,hpm,fun _ hb=>hb⟩,hM,by decide,by decide,by decide,by decide,by decide,by decide,fun b hb=>hA.fl hb⟩,hF,hpw,k⟩
end Nt
namespace Nt

structure M9 (w:World) (b o:Nat) (kd xk:Int) (sd:Bool) (ad:Option Addr) (ld cd:Nat) (ap:Option Addr) (np cp:Nat) (sk:Bool) (ak:Option Addr) (lk ck:Nat) (v:Int) (ka:Option Addr) (kn kc:Nat):Prop where
 c0:w.cell? ⟨b,o,none⟩=some (.int .i64 kd)
 c1:w.cell? ⟨b,o+1,none⟩=some (.int .i64 xk)
 c2:w.cell? ⟨b,o+2,none⟩=some (.bool sd)
 c3:w.cell? ⟨b,o+3,none⟩=some (.slice ad ld cd)
 c4:w.cell? ⟨b,o+4,none⟩=some (.slice ap np cp)
 c5:w.cell? ⟨b,o+5,none⟩=some (.bool sk)
 c6:w.cell? ⟨b,o+6,none⟩=some (.slice ak lk ck)
 c7:w.cell? ⟨b,o+7,none⟩=some (.int .i64 v)
 c8:w.cell? ⟨b,o+8,none⟩=some (.slice ka kn kc)
theorem M9.below {w w':World}{b o:Nat}{kd xk:Int}{sd:Bool}{ad:Option Addr}{ld cd:Nat}{ap:Option Addr}{np cp:Nat}{sk:Bool}{ak:Option Addr}{lk ck:Nat}{v:Int}{ka:Option Addr}{kn kc:Nat}(h:M9 w b o kd xk sd ad ld cd ap np cp sk ak lk ck v ka kn kc)(k:Below w.heap.size w w'):M9 w' b o kd xk sd ad ld cd ap np cp sk ak lk ck v ka kn kc:=by
 have hb:b<w.heap.size:=World.block_lt_of_cell? w ⟨b,o,none⟩ h.c0
 have hc: ∀i,w'.cell? ⟨b,i,none⟩=w.cell? ⟨b,i,none⟩:=fun i=>k.cell (p:=⟨b,i,none⟩) hb
 exact⟨(hc _).trans h.c0,(hc _).trans h.c1,(hc _).trans h.c2,(hc _).trans h.c3,(hc _).trans h.c4,(hc _).trans h.c5,(hc _).trans h.c6,(hc _).trans h.c7,(hc _).trans h.c8⟩
def MA (w:World)(b o:Nat)(m:Mk)(B:Nat):Prop:=
 ∃sd ad ld cd ap np cp sk ak lk ck ka kn kc,M9 w b o m.kind m.xk sd ad ld cd ap np cp sk ak lk ck m.v ka kn kc∧
  Zm w sd ad ld cd m.xd∧ld≤B∧Pr w ap np m.xp B∧np≤209716∧Zm w sk ak lk ck m.xt∧lk≤B∧IL w ka kn m.kids∧kn≤B∧I64 m.kind∧I64 m.v
theorem MA.below {w w':World}{b o:Nat}{m:Mk}{B:Nat}(h:MA w b o m B)(k:Below w.heap.size w w'):MA w' b o m B:=by
 obtain⟨sd,ad,ld,cd,ap,np,cp,sk,ak,lk,ck,ka,kn,kc,h0,g1,g2,g3,g4,g5,g6,g7,g8⟩:=h
 exact⟨sd,ad,ld,cd,ap,np,cp,sk,ak,lk,ck,ka,kn,kc,h0.below k,g1.below k,g2,g3.below k,g4,g5.below k,g6,g7.below k,g8⟩
theorem MA.mono {w:World}{b o:Nat}{m:Mk}{B B':Nat}(h:MA w b o m B)(hB:B≤B'):MA w b o m B':=by
 obtain⟨sd,ad,ld,cd,ap,np,cp,sk,ak,lk,ck,ka,kn,kc,h0,g1,g2,g3,g4,g5,g6,g7,g8,g9⟩:=h
 exact⟨sd,ad,ld,cd,ap,np,cp,sk,ak,lk,ck,ka,kn,kc,h0,g1,by omega,g3.mono hB,g4,g5,by omega,g7,by omega,g9⟩
def ML (w:World)(ad:Option Addr)(n:Nat)(R:List Mk)(B:Nat):Prop:=
 R.length=n∧(n=0∨ ∃b off,ad=some ⟨b,off,none⟩∧b<w.heap.size∧∀i (h:i<R.length),MA w b (off+i*9) R[i] B)
theorem ML.mono {w:World}{ad:Option Addr}{n:Nat}{R:List Mk}{B B':Nat}(h:ML w ad n R B)(hB:B≤B'):ML w ad n R B':=by
 refine⟨h.1,?_⟩
 rcases h.2 with h2|⟨b,off,h2,h3,h4⟩
 ·exact .inl h2
 exact .inr ⟨b,off,h2,h3,fun i hi=>(h4 i hi).mono hB⟩
theorem ML.below {w w':World}{ad:Option Addr}{n:Nat}{R:List Mk}{B:Nat}(h:ML w ad n R B)(k:Below w.heap.size w w'):ML w' ad n R B:=by
 refine⟨h.1,?_⟩
 rcases h.2 with h2|⟨b,off,h2,h3,h4⟩
 ·exact .inl h2
 exact .inr ⟨b,off,h2,Nat.lt_of_lt_of_le h3 k.size,fun i hi=>(h4 i hi).below k⟩

end Nt
namespace Nt

theorem rise_ext : ∀(l k:List Int),l.Pairwise (· < ·)→k.Pairwise (· < ·)→(∀x,x∈l↔x∈k)→l=k
 | [],[],_,_,_=>rfl
 | [],y::k,_,_,h=>absurd ((h y).2 (by simp)) (by simp)
 |x::l,[],_,_,h=>absurd ((h x).1 (by simp)) (by simp)
 |x::l,y::k,hl,hk,h=>by
  obtain⟨h1,h2⟩:=List.pairwise_cons.1 hl
  obtain⟨h3,h4⟩:=List.pairwise_cons.1 hk
  have hxy:x=y:=by
   rcases List.mem_cons.1 ((h x).1 (by simp))with e|e
   ·exact e
   rcases List.mem_cons.1 ((h y).2 (by simp))with e2|e2
   ·exact e2.symm
   have a1:=h3 x e
   have a2:=h1 y e2
   omega
  subst hxy
  rw[rise_ext l k h2 h4 fun z=> ?_]
  constructor
  ·intro hz
   rcases List.mem_cons.1 ((h z).1 (by simp[hz]))with e|e
   ·have:=h1 z hz
    omega
   exact e
  intro hz
  rcases List.mem_cons.1 ((h z).2 (by simp[hz]))with e|e
  ·have:=h3 z hz
   omega
  exact e
theorem upto_has {d:Array Int}: ∀m j,j<m→d[j]! ∈Lib.compactUpTo d m
 |0,j,h=>absurd h o_m
 |m+1,j,h=>by
  rw[Lib.compactUpTo_succ]
  by_cases hj:j<m
  ·exact List.mem_append_left _ (upto_has m j hj)
  obtain rfl:j=m:=by omega
  by_cases hk:Lib.keeps d j=true
  ·rw[if_pos hk]
   simp
  have h4: ¬(j=0∨d[j]! ≠d[j-1]!):=fun e=>hk (decide_eq_true e)
  have h5:j≠0:=fun e=>h4 (.inl e)
  have h6:d[j]! =d[j-1]!:=Decidable.byContradiction fun e=>h4 (.inr e)
  rw[h6]
  exact List.mem_append_left _ (upto_has j (j-1) o_m)
theorem mem_ris (l:List Int)(x:Int):x∈ris l↔x∈l:=by
 refine⟨ris_mem,fun h=> ?_⟩
 have h1:x∈l.mergeSort fun x y=>decide (x≤y):=List.mem_mergeSort.2 h
 obtain⟨j,hj,rfl⟩:=List.mem_iff_getElem.1 h1
 have h2:=upto_has (d:=(l.mergeSort fun x y=>decide (x≤y)).toArray) (l.mergeSort fun x y=>decide (x≤y)).length j hj
 rw[getElem!_pos _ _ (by simpa using hj)]at h2
 simpa [ris,Lib.compact] using h2
end Nt
namespace Nt

theorem own_move {w w':World}{base:Nat}{ty:TypeId}{st n:Nat}{v:Value}{l:List Value}(h:w.ownsRow base ty st v n l)(hm: ∀g,v.ownBlock=some g→w'.heap[g]? =w.heap[g]?):w'.ownsRow base ty st v n l:=by
 obtain⟨h1,h2⟩:=h
 refine⟨h1,?_⟩
 rcases h2 with h2|⟨g,cap,cur,e1,e2,e3,e4⟩
 ·exact .inl h2
 exact .inr ⟨g,cap,cur,e1,e2,(hm g (by rw[e1];rfl)).trans e3,e4⟩
theorem AG.move {w w':World}{pa pm:Nat}{nn kk:Int}{s:St}{F:Nat→Prop}(h:AG w pa pm nn kk s F)(hs:w.heap.size≤w'.heap.size)(hm: ∀b,F b∨b=pm→w'.heap[b]? =w.heap[b]?):AG w' pa pm nn kk s F:=by
 obtain⟨⟨C,nv,bm,X,D,h1,h2,h3⟩,h4,h5,h6,h7,h8,h9,h10,h11⟩:=h
 exact⟨⟨C,nv,bm,X,D,h1.move hs fun b hb=>hm b (.inl (h3 b hb)),h2,h3⟩,(hm pm (.inr rfl)).trans h4,h5,h6,h7,h8,h9,h10,fun b hb=>Nat.lt_of_lt_of_le (h11 b hb) hs⟩
def BT (w w':World)(e:Ending)(pa pm:Nat)(nn kk:Int)(F:Nat→Prop)(p:St × List Int):Prop:=
 ∃a c F',e= .returned (.slice a p.2.length c)∧IL w' a p.2.length p.2∧InF (fun b=>w.heap.size≤b∧¬F' b) a p.2.length∧AG w' pa pm nn kk p.1 F'∧(∀b,F' b→F b∨w.heap.size≤b)∧ButF (fun b=>b=pm∨F b) w w'
structure LI (w wr:World) (pa pm:Nat) (nn kk:Int) (F:Nat→Prop) (p:St × List Int) (vv:Value) (F':Nat→Prop):Prop where
 row:wr.ownsRow w.heap.size 3 1 vv p.2.length (p.2.map (Value.int .i64))
 apart: ∀g,vv.ownBlock=some g→¬F' g
 ag:AG wr pa pm nn kk p.1 F'
 sub: ∀b,F' b→F b∨w.heap.size≤b
 but:ButF (fun b=>b=pm∨F b) w wr
theorem LI.below {w wr w2:World}{pa pm:Nat}{nn kk:Int}{F F':Nat→Prop}{p:St × List Int}{vv:Value}(h:LI w wr pa pm nn kk F p vv F')(k:Below wr.heap.size wr w2):LI w w2 pa pm nn kk F p vv F':=
 ⟨own_move h.row fun g e=>k.block g (h.row.lt g e).2,h.apart,h.ag.below k,h.sub,ButF.trans h.but (butF_below k) fun _ _ h=>h⟩
theorem LI.asked {w w2 w3:World}{pa pm:Nat}{nn kk:Int}{F F' F3:Nat→Prop}{p:St × List Int}{vv:Value}{s':St}(h:LI w w2 pa pm nn kk F p vv F')(hG3:AG w3 pa pm nn kk s' F3)(hF3: ∀b,F3 b→F' b∨w2.heap.size≤b)(hB3:ButF (fun b=>b=pm∨F' b) w2 w3)(hpm:pm<w.heap.size):LI w w3 pa pm nn kk F (s',p.2) vv F3:=by
 have hs:=h.but.size
 refine⟨own_move h.row fun g e=> ?_,fun g e hf=> ?_,hG3,fun b hb=> ?_,ButF.trans h.but hB3 fun b hb hf=> ?_⟩
 ·have hl:=h.row.lt g e
  refine hB3.block g hl.2 fun hf=> ?_
  rcases hf with rfl|hf
  ·omega
  exact h.apart g e hf
 ·have hl:=h.row.lt g e
  rcases hF3 g hf with h1|h1
  ·exact h.apart g e h1
  omega
 ·rcases hF3 b hb with h1|h1
  ·exact h.sub b h1
  exact .inr o_m
 rcases hf with h1|h1
 ·exact .inl h1
 rcases h.sub b h1 with h2|h2
 ·exact .inr h2
 omega
theorem LI.append {w w3 w4:World}{pa pm:Nat}{nn kk:Int}{F F3:Nat→Prop}{s':St}{ids:List Int}{vv v':Value}{x:Int}(h:LI w w3 pa pm nn kk F (s',ids) vv F3)(hown:w4.ownsRow w.heap.size 3 1 v' (ids.length+1) (ids.map (Value.int .i64)++ [.int .i64 x]))(hgrow:(w3.alloc (.cells #[.int .i64 x] 3)).grownBy w4 vv.ownBlock)(hat:v'.ownBlock=vv.ownBlock∨v'.ownBlock=some (w3.alloc (.cells #[.int .i64 x] 3)).heap.size)(hpm:pm<w.heap.size):LI w w4 pa pm nn kk F (s',ids++ [x]) v' F3:=by
 have ka:=below_alloc w3 (.cells #[.int .i64 x] 3)
 have hs:=h.but.size
 have hsz:(w3.alloc (.cells #[.int .i64 x] 3)).heap.size=w3.heap.size+1:=by simp
 have hblk: ∀b,b<w3.heap.size→some b≠vv.ownBlock→w4.heap[b]? =w3.heap[b]?:=fun b hb hn=>(hgrow.block b o_m hn).trans (ka.block b hb)
 refine⟨by simpa using hown,fun g e hf=> ?_,h.ag.move (by have:=hgrow.size;omega) fun b hb=> ?_,h.sub,ButF.trans h.but (G:=fun b=>vv.ownBlock=some b) ⟨hgrow.os.trans ka.os,hgrow.tape.trans ka.tape,hgrow.output.trans ka.output,by have:=hgrow.size;omega,fun i hi hn=>hblk i hi fun e=>hn e.symm⟩ fun b hb hf=> ?_⟩
 ·rcases hat with h1|h1
  ·exact h.apart g (h1.symm.trans e) hf
  rw[h1]at e
  injection e with e
  have:=h.ag.fl g hf
  omega
 ·rcases hb with hb|rfl
  ·exact hblk b (h.ag.fl b hb) fun e=>h.apart b e.symm hb
  exact hblk b o_m fun e=>by have:=(h.row.lt b e.symm).1;omega
 have:=(h.row.lt b hf).1
 omega
theorem LI.bt {w wr:World}{pa pm:Nat}{nn kk:Int}{F F':Nat→Prop}{p:St × List Int}{a:Option Addr}{n c:Nat}(h:LI w wr pa pm nn kk F p (.slice a n c) F')(hx: ∀x∈p.2,I64 x):BT w wr (.returned (.slice a n c)) pa pm nn kk F p:=by
 obtain⟨a1,c1,e1,hI,hn⟩:=row_il h.row hx
 cases e1
 refine⟨a,c,F',rfl,hI,fun b off e h0=>⟨hn b off e h0,?_⟩,h.ag,h.sub,h.but⟩
 subst e
 exact h.apart _ rfl
theorem head_get {l:List Int}(h:0<l.length):l[0]=l.headD 0:=by
 cases l with
 |nil=>simp at h
 |cons a t=>rfl
theorem M9.move {w w':World}{b o:Nat}{kd xk:Int}{sd:Bool}{ad:Option Addr}{ld cd:Nat}{ap:Option Addr}{np cp:Nat}{sk:Bool}{ak:Option Addr}{lk ck:Nat}{v:Int}{ka:Option Addr}{kn kc:Nat}(h:M9 w b o kd xk sd ad ld cd ap np cp sk ak lk ck v ka kn kc)(hb:w'.heap[b]? =w.heap[b]?):M9 w' b o kd xk sd ad ld cd ap np cp sk ak lk ck v ka kn kc:=by
 have hc: ∀i,w'.cell? ⟨b,i,none⟩=w.cell? ⟨b,i,none⟩:=fun i=>World.cell?_of_block (a:=⟨b,i,none⟩) hb
 exact⟨(hc _).trans h.c0,(hc _).trans h.c1,(hc _).trans h.c2,(hc _).trans h.c3,(hc _).trans h.c4,(hc _).trans h.c5,(hc _).trans h.c6,(hc _).trans h.c7,(hc _).trans h.c8⟩
theorem m9_S {w:World}{b o b2 o2:Nat}{x:Value}{kd xk:Int}{sd:Bool}{ad:Option Addr}{ld cd:Nat}{ap:Option Addr}{np cp:Nat}{sk:Bool}{ak:Option Addr}{lk ck:Nat}{v:Int}{ka:Option Addr}{kn kc:Nat}(h:M9 w b o kd xk sd ad ld cd ap np cp sk ak lk ck v ka kn kc)(h2:w.cell? ⟨b2,o2,none⟩=some x):w.cell? ⟨b,o,none⟩=some (.int .i64 kd)∧w.cell? ⟨b,o+1,none⟩=some (.int .i64 xk)∧w.cell? ⟨b,o+2,none⟩=some (.bool sd)∧w.cell? ⟨b,o+3,none⟩=some (.slice ad ld cd)∧w.cell? ⟨b,o+4,none⟩=some (.slice ap np cp)∧w.cell? ⟨b,o+5,none⟩=some (.bool sk)∧w.cell? ⟨b,o+6,none⟩=some (.slice ak lk ck)∧w.cell? ⟨b,o+7,none⟩=some (.int .i64 v)∧w.cell? ⟨b,o+8,none⟩=some (.slice ka kn kc)∧w.cell? ⟨b2,o2,none⟩=some x:=⟨h.c0,h.c1,h.c2,h.c3,h.c4,h.c5,h.c6,h.c7,h.c8,h2⟩
theorem own_two (w:World)(x y:Int):(w.alloc (.cells #[.int .i64 x,.int .i64 y] 3)).ownsRow w.heap.size 3 1 (.slice (some ⟨w.heap.size,0,none⟩) 2 2) 2 (([x,y]:List Int).map (Value.int .i64)):=
 ⟨rfl,.inr ⟨w.heap.size,2,#[.int .i64 x,.int .i64 y],rfl,Nat.le_refl _,heap_alloc_new w _,Nat.le_refl _,by unfold maxLen;decide,rfl,rfl⟩⟩

theorem built_g {w:World}{pa pm:Nat}{nn kk:Int}{s:St}{F:Nat→Prop}{ad:Option Addr}{n c:Nat}{R:List Mk}{B:Nat}
  (hG:AG w pa pm nn kk s F)(h2:2≤s.L.length)(hR: ∀w',ButF (fun b=>b=pm∨F b) w w'→ML w' ad n R B)(hnR:InF (fun b=> ¬F b∧b≠pm∧b<w.heap.size) ad n)(hrl:R.length=n)(hn:n≤1048576)(hB:B≤1048576)(htab: ∀w',ButF (fun b=>b=pm∨F b) w w'→Tab w'):
  Calls Tryz.prog 11 #[.pointer (some ⟨pa,0,none⟩),.slice ad n c] w fun e w'=>BT w w' e pa pm nn kk F (runW nn kk (s,[0,1]) (R.take 40)):=by
 have hms:=hG.mb.lt
 have hin:In s [0,1]:=⟨by simp,fun x hx=>by simp at hx;omega⟩
 go_enter Tryz.func11,Tryz.ntmps11
 go_wp2_with fail
 obtain⟨i0,hi,hz0,hz1,hz2⟩:=info_parts infoI
 have b0:=below_alloc w (.cells #[.int .i64 0,.int .i64 1] 3)
 have hst:Hid (LI w (w.alloc (.cells #[.int .i64 0,.int .i64 1] 3)) pa pm nn kk F (s,[0,1]) (.slice (some ⟨w.heap.size,0,none⟩) 2 2) F):=hide ⟨own_two w 0 1,fun g e hg=>by cases e;exact absurd (hG.fl _ hg) (Nat.lt_irrefl _),hG.below b0,fun b hb=> .inl hb,butF_below b0⟩
 clear hG
 generalize w.alloc (.cells #[.int .i64 0,.int .i64 1] 3)=wb at*
 clear b0
 go_loopw [5,6] (fun vv i wr=> ∃(t:Nat) (F':Nat→Prop),t≤n∧t≤40∧i= .int .i64 t∧Hid (LI w wr pa pm nn kk F (runW nn kk (s,[0,1]) (R.take t)) vv F')) (fun _ i _=>40-(intOf i).toNat)
 case atStart=>exact⟨0,F,Nat.zero_le _,Nat.zero_le _,rfl,hst⟩
 case round=>
  obtain⟨t,F',ht,ht4,rfl,hli⟩:=hrel
  have hinp:=run_in (nn:=nn) (kk:=kk) (R.take t) hin
  have hlen:=run_len nn kk (R.take t) (s,[0,1])
  rw[List.length_take]at hlen
  have hlen2:(runW nn kk (s,[0,1]) (R.take t)).2.length≤42:=by simp at hlen;omega
  clear hlen
  have hLl:((runW nn kk (s,[0,1]) (R.take t)).1.L.length:Int)≤2002:=by have h1:=hli.out.ag.ln;have h3:=hli.out.ag.cn;have h4:=hli.out.ag.n2;omega
  have hx64: ∀x∈(runW nn kk (s,[0,1]) (R.take t)).2,I64 x:=fun x hx=>by have:=hinp.2 x hx;unfold I64;omega
  obtain⟨a5,c5,rfl⟩:=own_slice hli.out.row
  by_cases htn:t<n∧t<40
  ·have htw:=hide (htab wr hli.out.but)
   rcases(hR wr hli.out.but).2 with h|⟨bR,oR,rfl,hbR,hMA⟩
   ·omega
   have hbRw:=hnR bR oR rfl o_m
   obtain⟨sd,ad1,ld,cd,ap,np,cp,sk,ak,lk,ck,ka,kn,kc,hm9,hzd,hld,hPr,hnp,hzk,hlk,hks,hkn,hik,hiv⟩:=hMA t o_m
   clear hMA
   have hsn:Hid (runW nn kk (s,[0,1]) (R.take (t+1))=stepW nn kk (runW nn kk (s,[0,1]) (R.take t)) R[t]):=hide (by rw[List.take_succ_eq_append_getElem o_m,run_snoc])
   generalize R[t]=m at*
   generalize runW nn kk (s,[0,1]) (R.take t)=p at*
   obtain⟨st,ids⟩:=p
   dsimp only at hinp hlen2 hLl hx64
   have hflr:=hli.out.ag.fl
   have hsubr: ¬(bR=pm∨F' bR):=fun hf=>by
    rcases hf with hf|hf
    ·exact hbRw.2.1 hf
    rcases hli.out.sub bR hf with h9|h9
    ·exact hbRw.1 h9
    have:=hbRw.2.2
    omega
   have hpr:pm<wr.heap.size:=hli.out.ag.mb.lt
   obtain⟨a9,c9,e9,hIL,hNew⟩:=row_il (l:=ids) hli.out.row hx64
   cases e9
   have hof:=hide (of_n (ad:=ad1) (kd:=m.kind) (xk:=m.xk) (sd:=sd) (ld:=ld) (cd:=cd) (ap:=ap) (np:=np) (cp:=cp) (sk:=sk) (ak:=ak) (lk:=lk) (ck:=ck) (v:=m.v) (kc:=kc) (ic:=c5) hks o_m hIL hinp.1 (show ids.length≤1000 by omega))
   unfold mkv at hof
   have v0:=hm9.c0
   have v1:=hm9.c1
   have v2:=hm9.c2
   have v3:=hm9.c3
   have v4:=hm9.c4
   have v5:=hm9.c5
   have v6:=hm9.c6
   have v7:=hm9.c7
   have v8:=hm9.c8
   clear hIL hNew
   replace hli:=hide hli.out
   dsimp only
   go_wp2_with fail
   refine hof.out.mono ?_
   clear v0 v1 v2 v3 v4 v5 v6 v7 v8 hof
   rintro e w1 ⟨aO,cO,rfl,hIO,hnO,k1⟩
   have hm91:=hm9.below k1
   replace hzd:=hzd.below k1
   replace hPr:=hPr.below k1
   replace hzk:=hzk.below k1
   have hli1:=hide (hli.out.below k1)
   have htw1:=hide (htw.out.below k1)
   clear hli htw hm9 k1 hks
   have hwh:=hide (what_n (w:=w1) (ad:=ad1) (xk:=m.xk) (sd:=sd) (ld:=ld) (cd:=cd) (ap:=ap) (np:=np) (cp:=cp) (sk:=sk) (ak:=ak) (lk:=lk) (ck:=ck) (v:=m.v) (ka:=ka) (kn:=kn) (kc:=kc) hik)
   unfold mkv at hwh
   have v0:=hm91.c0
   have v1:=hm91.c1
   have v2:=hm91.c2
   have v3:=hm91.c3
   have v4:=hm91.c4
   have v5:=hm91.c5
   have v6:=hm91.c6
   have v7:=hm91.c7
   have v8:=hm91.c8
   go_wp2_with fail
   refine hwh.out.mono ?_
   clear v0 v1 v2 v3 v4 v5 v6 v7 v8 hwh
   rintro e w2 ⟨rfl,k2⟩
   have hm92:=hm91.below k2
   replace hzd:=hzd.below k2
   replace hPr:=hPr.below k2
   replace hzk:=hzk.below k2
   replace hIO:=hIO.below k2
   have hli2:=hide (hli1.out.below k2)
   have htw2:=hide (htw1.out.below k2)
   clear hli1 htw1 hm91 k2
   have hofi: ∀x∈ofI m.kids ids,0≤x∧x<(st.L.length:Int):=fun x hx=>hinp.2 x (ofI_mem hinp.1 hx)
   have hofl:=ofI_len (ks:=m.kids) (ids:=ids)
   have v0:=hm92.c0
   have v1:=hm92.c1
   have v2:=hm92.c2
   have v3:=hm92.c3
   have v4:=hm92.c4
   have v5:=hm92.c5
   have v6:=hm92.c6
   have v7:=hm92.c7
   have v8:=hm92.c8
   rcases whatI_cases m.kind with hw|hw|hw|hw|hw
   ·rw[hw]
    have hask:Hid (wants nn kk st ids m=asked nn kk st (atomA m.xk m.xd m.xp m.xt)):=hide (by unfold wants ask;rw[if_pos hw])
    go_wp2_with fail
    refine(atom_ao hli2.out.ag hzd hld hPr hzk hlk hnp hB htw2.out).mono ?_
    clear v0 v1 v2 v3 v4 v5 v6 v7 v8
    rintro e w3 ⟨x3,e3,rfl,hno,hyes,F3,hG3,hF3,hB3⟩
    rw[←hask.out]at hno hyes hG3
    have hli3:=hide (hli2.out.asked hG3 hF3 hB3 hms)
    clear hG3 hF3 hB3 hli2 hask hzd hPr hzk hIO htw2 hm92
    cases ho:(wants nn kk st ids m).2 with
    |none=>
     have he3:(e3==0)=false:=by simpa using hno ho
     have hst3:Hid (LI w w3 pa pm nn kk F (runW nn kk (s,[0,1]) (R.take (t+1))) (.slice a5 ids.length c5) F3):=hide (by rw[hsn.out];unfold stepW;rw[ho];simpa using hli3.out)
     clear hli3 hno hyes ho
     go_wp2
     exact⟨⟨t+1,F3,by omega,by omega,by go_num,hst3⟩,by simp[intOf];omega⟩
    |some i=>
     obtain⟨rfl,rfl⟩:=hyes i ho
     have hbase:=hide (show w.heap.size≤w3.heap.size from hli3.out.but.size)
     clear hno hyes
     go_wp2_with(at_builtin;refine wpList_append_own_at _ rfl _ _ 23 rfl w.heap.size 3 i0 _ 1 8 Tryz.underlying23 hi hz0 hz1 hz2 rfl (by decide) _ _ _ rfl (hli3.out.row.alloc _) ⟨w3.heap.size,0,none⟩ 1 1 [.int .i64 x3] rfl rfl (by simpa using cell_one_new w3 (.int .i64 x3) 3) (by simp[Value.oneCell']) (by unfold maxLen;dsimp only;omega) (by dsimp only;omega) (by have:=hbase.out;simp;omega) ?_;intro v' w4 hown' hgrow hnil hat')
     have hst3:Hid (LI w w4 pa pm nn kk F (runW nn kk (s,[0,1]) (R.take (t+1))) v' F3):=hide (by rw[hsn.out];unfold stepW;rw[ho];exact hli3.out.append hown' hgrow hat' hms)
     exact⟨⟨t+1,F3,by omega,by omega,by go_num,hst3⟩,by simp[intOf];omega⟩
   ·rw[hw]
    have hask:Hid (wants nn kk st ids m=asked nn kk st (joinA 5 (ofI m.kids ids))):=hide (by unfold wants ask;rw[if_neg o_m,if_pos hw])
    go_wp2_with fail
    refine(join_ao (.inl rfl) hli2.out.ag hIO o_m hofi htw2.out).mono ?_
    clear v0 v1 v2 v3 v4 v5 v6 v7 v8
    rintro e w3 ⟨x3,e3,rfl,hno,hyes,F3,hG3,hF3,hB3⟩
    rw[←hask.out]at hno hyes hG3
    have hli3:=hide (hli2.out.asked hG3 hF3 hB3 hms)
    clear hG3 hF3 hB3 hli2 hask hzd hPr hzk hIO htw2 hm92
    cases ho:(wants nn kk st ids m).2 with
    |none=>
     have he3:(e3==0)=false:=by simpa using hno ho
     have hst3:Hid (LI w w3 pa pm nn kk F (runW nn kk (s,[0,1]) (R.take (t+1))) (.slice a5 ids.length c5) F3):=hide (by rw[hsn.out];unfold stepW;rw[ho];simpa using hli3.out)
     clear hli3 hno hyes ho
     go_wp2
     exact⟨⟨t+1,F3,by omega,by omega,by go_num,hst3⟩,by simp[intOf];omega⟩
    |some i=>
     obtain⟨rfl,rfl⟩:=hyes i ho
     have hbase:=hide (show w.heap.size≤w3.heap.size from hli3.out.but.size)
     clear hno hyes
     go_wp2_with(at_builtin;refine wpList_append_own_at _ rfl _ _ 23 rfl w.heap.size 3 i0 _ 1 8 Tryz.underlying23 hi hz0 hz1 hz2 rfl (by decide) _ _ _ rfl (hli3.out.row.alloc _) ⟨w3.heap.size,0,none⟩ 1 1 [.int .i64 x3] rfl rfl (by simpa using cell_one_new w3 (.int .i64 x3) 3) (by simp[Value.oneCell']) (by unfold maxLen;dsimp only;omega) (by dsimp only;omega) (by have:=hbase.out;simp;omega) ?_;intro v' w4 hown' hgrow hnil hat')
     have hst3:Hid (LI w w4 pa pm nn kk F (runW nn kk (s,[0,1]) (R.take (t+1))) v' F3):=hide (by rw[hsn.out];unfold stepW;rw[ho];exact hli3.out.append hown' hgrow hat' hms)
     exact⟨⟨t+1,F3,by omega,by omega,by go_num,hst3⟩,by simp[intOf];omega⟩
   ·rw[hw]
    have hask:Hid (wants nn kk st ids m=asked nn kk st (joinA 6 (ofI m.kids ids))):=hide (by unfold wants ask;rw[if_neg o_m,if_neg o_m,if_pos hw])
    go_wp2_with fail
    refine(join_ao (.inr rfl) hli2.out.ag hIO o_m hofi htw2.out).mono ?_
    clear v0 v1 v2 v3 v4 v5 v6 v7 v8
    rintro e w3 ⟨x3,e3,rfl,hno,hyes,F3,hG3,hF3,hB3⟩
    rw[←hask.out]at hno hyes hG3
    have hli3:=hide (hli2.out.asked hG3 hF3 hB3 hms)
    clear hG3 hF3 hB3 hli2 hask hzd hPr hzk hIO htw2 hm92
    cases ho:(wants nn kk st ids m).2 with
    |none=>
     have he3:(e3==0)=false:=by simpa using hno ho
     have hst3:Hid (LI w w3 pa pm nn kk F (runW nn kk (s,[0,1]) (R.take (t+1))) (.slice a5 ids.length c5) F3):=hide (by rw[hsn.out];unfold stepW;rw[ho];simpa using hli3.out)
     clear hli3 hno hyes ho
     go_wp2
     exact⟨⟨t+1,F3,by omega,by omega,by go_num,hst3⟩,by simp[intOf];omega⟩
    |some i=>
     obtain⟨rfl,rfl⟩:=hyes i ho
     have hbase:=hide (show w.heap.size≤w3.heap.size from hli3.out.but.size)
     clear hno hyes
     go_wp2_with(at_builtin;refine wpList_append_own_at _ rfl _ _ 23 rfl w.heap.size 3 i0 _ 1 8 Tryz.underlying23 hi hz0 hz1 hz2 rfl (by decide) _ _ _ rfl (hli3.out.row.alloc _) ⟨w3.heap.size,0,none⟩ 1 1 [.int .i64 x3] rfl rfl (by simpa using cell_one_new w3 (.int .i64 x3) 3) (by simp[Value.oneCell']) (by unfold maxLen;dsimp only;omega) (by dsimp only;omega) (by have:=hbase.out;simp;omega) ?_;intro v' w4 hown' hgrow hnil hat')
     have hst3:Hid (LI w w4 pa pm nn kk F (runW nn kk (s,[0,1]) (R.take (t+1))) v' F3):=hide (by rw[hsn.out];unfold stepW;rw[ho];exact hli3.out.append hown' hgrow hat' hms)
     exact⟨⟨t+1,F3,by omega,by omega,by go_num,hst3⟩,by simp[intOf];omega⟩
   ·rw[hw]
    have hask:Hid (wants nn kk st ids m=asked nn kk st (.inr ⟨7,0,[],0,pick m.v 4,[(ofI m.kids ids).headD 0]⟩)):=hide (by unfold wants ask;rw[if_neg o_m,if_neg o_m,if_neg o_m,if_pos hw])
    have hone:=ofI_ne (ks:=m.kids) (ids:=ids)
    have hpos:0<(ofI m.kids ids).length:=List.length_pos_iff.2 hone
    rcases hIO.2 with h|⟨bO,oO,rfl,hbO,hcO⟩
    ·omega
    have hx0:(ofI m.kids ids)[0]=(ofI m.kids ids).headD 0:=head_get hpos
    have cO:=(hcO 0 hpos).1
    rw[hx0,Nat.add_zero]at cO
    have hx0i:=hofi _ (List.getElem_mem hpos)
    rw[hx0]at hx0i
    have hbOn:wr.heap.size≤bO:=hnO bO oO rfl hpos
    clear hcO hx0 hone
    generalize (ofI m.kids ids).headD 0=x0 at*
    clear v0 v1 v2 v3 v4 v5 v6 v7 v8 hIO hofi
    generalize (ofI m.kids ids).length=lO at*
    have kD:=grow_drew (Below.refl w2.heap.size w2)
    go_wp2_with fail
    refine wp_region_held_drew (S:=(fun w'=>w'.cell? ⟨bR,oR+t*9,none⟩=some (.int .i64 m.kind)∧w'.cell? ⟨bR,oR+t*9+1,none⟩=some (.int .i64 m.xk)∧w'.cell? ⟨bR,oR+t*9+2,none⟩=some (.bool sd)∧w'.cell? ⟨bR,oR+t*9+3,none⟩=some (.slice ad1 ld cd)∧w'.cell? ⟨bR,oR+t*9+4,none⟩=some (.slice ap np cp)∧w'.cell? ⟨bR,oR+t*9+5,none⟩=some (.bool sk)∧w'.cell? ⟨bR,oR+t*9+6,none⟩=some (.slice ak lk ck)∧w'.cell? ⟨bR,oR+t*9+7,none⟩=some (.int .i64 m.v)∧w'.cell? ⟨bR,oR+t*9+8,none⟩=some (.slice ka kn kc)∧w'.cell? ⟨bO,oO,none⟩=some (.int .i64 x0))) k_f (m9_S (hm92.below kD) ((kD.cell (p:=⟨bO,oO,none⟩) hbO).trans cO)) (fun hHeld=> ?_)
    show wpAnyH _ _ _ _ _ 15 _ _ _
    refine tkz 0 63 ?_
    (try simp only[pz])
    refine tkz 1 64 ?_
    (try simp only[pz])
    refine tkz 2 65 ?_
    (try simp only[pz])
    refine tkz 3 66 ?_
    (try simp only[pz])
    refine tkz 4 67 ?_
    (try simp only[pz])
    refine tkz 6 69 ?_
    (try simp only[pz])
    refine tkz 7 70 ?_
    (try simp only[pz])
    refine tkz 8 71 ?_
    (try simp only[pz])
    refine ryz 5 (some 68) (fun K hK=> ?_) AllReadyH.nil
    go_simp
    have hvar:=var_n (w:=w2.drew) (ad:=ad1) (kd:=m.kind) (xk:=m.xk) (sd:=sd) (ld:=ld) (cd:=cd) (ap:=ap) (np:=np) (cp:=cp) (sk:=sk) (ak:=ak) (lk:=lk) (ck:=ck) (ka:=ka) (kn:=kn) (kc:=kc) hiv
    unfold mkv at hvar
    refine Calls.mono hvar ?_
    clear hvar
    rintro e w2b ⟨rfl,k2b⟩
    replace k2b:=grow_step k2b (grow_drew (Below.refl _ _))
    have hm92:=hm92.below k2b
    have cO:=(k2b.cell (p:=⟨bO,oO,none⟩) hbO).trans cO
    have hli2:=hide (hli2.out.below k2b)
    have htw2:=hide (htw2.out.below k2b)
    have hbR2:bR<w2b.heap.size:=World.block_lt_of_cell? w2b _ hm92.c0
    have hbO2:bO<w2b.heap.size:=World.block_lt_of_cell? w2b _ cO
    (try go_wp2_with fail)
    refine hK.out _ _ ?_ ?_
    ·(try dsimp only);exact m9_S hm92 cO
    clear hK K hHeld;intro hHeld
    (try simp only[pz])
    refine ryz 9 (some 72) (fun K hK=> ?_) AllReadyH.nil
    go_simp
    refine Calls.mono (bind_ao (kd:=7) (.inl rfl) hli2.out.ag (by have:=pick_lt m.v (n:=4) (by decide);unfold I64;omega) hx0i htw2.out) ?_
    rintro e w3 ⟨x3,e3,rfl,hno,hyes,F3,hG3,hF3,hB3⟩
    have hm93:=hm92.move (w':=w3) (hB3.block bR hbR2 hsubr)
    have cO3:=(World.cell?_of_block (a:=⟨bO,oO,none⟩) (hB3.block bO hbO2 fun hf=>by rcases hf with rfl|hf;omega;have:=hflr _ hf;omega)).trans cO
    (try go_wp2_with fail)
    refine hK.out _ _ ?_ ?_
    ·(try dsimp only);exact m9_S hm93 cO3
    clear hK K hHeld;intro hHeld
    (try simp only[pz])
    refine ryz 10 (some 62) (fun K hK=> ?_) AllReadyH.nil
    go_simp
    refine hK.out _ _ ?_ ?_
    ·(try dsimp only);exact m9_S hm93 cO3
    clear hK K hHeld;intro hHeld
    (try simp only[pz])
    refine tkz 11 73 ?_
    (try simp only[pz])
    refine tkz 12 74 ?_
    (try simp only[pz])
    refine ryz 13 (some 8) (fun K hK=> ?_) AllReadyH.nil
    go_simp
    refine hK.out _ _ ?_ ?_
    ·(try dsimp only);exact m9_S hm93 cO3
    clear hK K hHeld;intro hHeld
    (try simp only[pz])
    refine ryz 14 (some 9) (fun K hK=> ?_) AllReadyH.nil
    go_simp
    refine hK.out _ _ ?_ ?_
    ·(try dsimp only);exact m9_S hm93 cO3
    clear hK K hHeld;intro hHeld
    (try simp only[pz])
    refine wpAnyH_done k_f ?_ _
    rw[←hask.out]at hno hyes hG3
    have hli3:=hide (hli2.out.asked hG3 hF3 hB3 hms)
    clear hG3 hF3 hB3 hli2 hask hzd hPr hzk htw2 hm92 hm93 cO cO3 hHeld
    cases ho:(wants nn kk st ids m).2 with
    |none=>
     have he3:(e3==0)=false:=by simpa using hno ho
     have hst3:Hid (LI w w3 pa pm nn kk F (runW nn kk (s,[0,1]) (R.take (t+1))) (.slice a5 ids.length c5) F3):=hide (by rw[hsn.out];unfold stepW;rw[ho];simpa using hli3.out)
     clear hli3 hno hyes ho
     go_wp2
     exact⟨⟨t+1,F3,by omega,by omega,by go_num,hst3⟩,by simp[intOf];omega⟩
    |some i=>
     obtain⟨rfl,rfl⟩:=hyes i ho
     have hbase:=hide (show w.heap.size≤w3.heap.size from hli3.out.but.size)
     clear hno hyes
     go_wp2_with(at_builtin;refine wpList_append_own_at _ rfl _ _ 23 rfl w.heap.size 3 i0 _ 1 8 Tryz.underlying23 hi hz0 hz1 hz2 rfl (by decide) _ _ _ rfl (hli3.out.row.alloc _) ⟨w3.heap.size,0,none⟩ 1 1 [.int .i64 x3] rfl rfl (by simpa using cell_one_new w3 (.int .i64 x3) 3) (by simp[Value.oneCell']) (by unfold maxLen;dsimp only;omega) (by dsimp only;omega) (by have:=hbase.out;simp;omega) ?_;intro v' w4 hown' hgrow hnil hat')
     have hst3:Hid (LI w w4 pa pm nn kk F (runW nn kk (s,[0,1]) (R.take (t+1))) v' F3):=hide (by rw[hsn.out];unfold stepW;rw[ho];exact hli3.out.append hown' hgrow hat' hms)
     exact⟨⟨t+1,F3,by omega,by omega,by go_num,hst3⟩,by simp[intOf];omega⟩
   rw[hw]
   have hask:Hid (wants nn kk st ids m=asked nn kk st (.inr ⟨8,0,[],0,pick m.v 4,[(ofI m.kids ids).headD 0]⟩)):=hide (by unfold wants ask;rw[if_neg o_m,if_neg o_m,if_neg o_m,if_neg o_m])
   have hone:=ofI_ne (ks:=m.kids) (ids:=ids)
   have hpos:0<(ofI m.kids ids).length:=List.length_pos_iff.2 hone
   rcases hIO.2 with h|⟨bO,oO,rfl,hbO,hcO⟩
   ·omega
   have hx0:(ofI m.kids ids)[0]=(ofI m.kids ids).headD 0:=head_get hpos
   have cO:=(hcO 0 hpos).1
   rw[hx0,Nat.add_zero]at cO
   have hx0i:=hofi _ (List.getElem_mem hpos)
   rw[hx0]at hx0i
   have hbOn:wr.heap.size≤bO:=hnO bO oO rfl hpos
   clear hcO hx0 hone
   generalize (ofI m.kids ids).headD 0=x0 at*
   clear v0 v1 v2 v3 v4 v5 v6 v7 v8 hIO hofi
   generalize (ofI m.kids ids).length=lO at*
   have kD:=grow_drew (Below.refl w2.heap.size w2)
   go_wp2_with fail
   refine wp_region_held_drew (S:=(fun w'=>w'.cell? ⟨bR,oR+t*9,none⟩=some (.int .i64 m.kind)∧w'.cell? ⟨bR,oR+t*9+1,none⟩=some (.int .i64 m.xk)∧w'.cell? ⟨bR,oR+t*9+2,none⟩=some (.bool sd)∧w'.cell? ⟨bR,oR+t*9+3,none⟩=some (.slice ad1 ld cd)∧w'.cell? ⟨bR,oR+t*9+4,none⟩=some (.slice ap np cp)∧w'.cell? ⟨bR,oR+t*9+5,none⟩=some (.bool sk)∧w'.cell? ⟨bR,oR+t*9+6,none⟩=some (.slice ak lk ck)∧w'.cell? ⟨bR,oR+t*9+7,none⟩=some (.int .i64 m.v)∧w'.cell? ⟨bR,oR+t*9+8,none⟩=some (.slice ka kn kc)∧w'.cell? ⟨bO,oO,none⟩=some (.int .i64 x0))) k_f (m9_S (hm92.below kD) ((kD.cell (p:=⟨bO,oO,none⟩) hbO).trans cO)) (fun hHeld=> ?_)
   show wpAnyH _ _ _ _ _ 15 _ _ _
   refine tkz 0 78 ?_
   (try simp only[pz])
   refine tkz 1 79 ?_
   (try simp only[pz])
   refine tkz 2 80 ?_
   (try simp only[pz])
   refine tkz 3 81 ?_
   (try simp only[pz])
   refine tkz 4 82 ?_
   (try simp only[pz])
   refine tkz 6 84 ?_
   (try simp only[pz])
   refine tkz 7 85 ?_
   (try simp only[pz])
   refine tkz 8 86 ?_
   (try simp only[pz])
   refine ryz 5 (some 83) (fun K hK=> ?_) AllReadyH.nil
   go_simp
   have hvar:=var_n (w:=w2.drew) (ad:=ad1) (kd:=m.kind) (xk:=m.xk) (sd:=sd) (ld:=ld) (cd:=cd) (ap:=ap) (np:=np) (cp:=cp) (sk:=sk) (ak:=ak) (lk:=lk) (ck:=ck) (ka:=ka) (kn:=kn) (kc:=kc) hiv
   unfold mkv at hvar
   refine Calls.mono hvar ?_
   clear hvar
   rintro e w2b ⟨rfl,k2b⟩
   replace k2b:=grow_step k2b (grow_drew (Below.refl _ _))
   have hm92:=hm92.below k2b
   have cO:=(k2b.cell (p:=⟨bO,oO,none⟩) hbO).trans cO
   have hli2:=hide (hli2.out.below k2b)
   have htw2:=hide (htw2.out.below k2b)
   have hbR2:bR<w2b.heap.size:=World.block_lt_of_cell? w2b _ hm92.c0
   have hbO2:bO<w2b.heap.size:=World.block_lt_of_cell? w2b _ cO
   (try go_wp2_with fail)
   refine hK.out _ _ ?_ ?_
   ·(try dsimp only);exact m9_S hm92 cO
   clear hK K hHeld;intro hHeld
   (try simp only[pz])
   refine ryz 9 (some 87) (fun K hK=> ?_) AllReadyH.nil
   go_simp
   refine Calls.mono (bind_ao (kd:=8) (.inr rfl) hli2.out.ag (by have:=pick_lt m.v (n:=4) (by decide);unfold I64;omega) hx0i htw2.out) ?_
   rintro e w3 ⟨x3,e3,rfl,hno,hyes,F3,hG3,hF3,hB3⟩
   have hm93:=hm92.move (w':=w3) (hB3.block bR hbR2 hsubr)
   have cO3:=(World.cell?_of_block (a:=⟨bO,oO,none⟩) (hB3.block bO hbO2 fun hf=>by rcases hf with rfl|hf;omega;have:=hflr _ hf;omega)).trans cO
   (try go_wp2_with fail)
   refine hK.out _ _ ?_ ?_
   ·(try dsimp only);exact m9_S hm93 cO3
   clear hK K hHeld;intro hHeld
   (try simp only[pz])
   refine ryz 10 (some 77) (fun K hK=> ?_) AllReadyH.nil
   go_simp
   refine hK.out _ _ ?_ ?_
   ·(try dsimp only);exact m9_S hm93 cO3
   clear hK K hHeld;intro hHeld
   (try simp only[pz])
   refine tkz 11 88 ?_
   (try simp only[pz])
   refine tkz 12 89 ?_
   (try simp only[pz])
   refine ryz 13 (some 8) (fun K hK=> ?_) AllReadyH.nil
   go_simp
   refine hK.out _ _ ?_ ?_
   ·(try dsimp only);exact m9_S hm93 cO3
   clear hK K hHeld;intro hHeld
   (try simp only[pz])
   refine ryz 14 (some 9) (fun K hK=> ?_) AllReadyH.nil
   go_simp
   refine hK.out _ _ ?_ ?_
   ·(try dsimp only);exact m9_S hm93 cO3
   clear hK K hHeld;intro hHeld
   (try simp only[pz])
   refine wpAnyH_done k_f ?_ _
   rw[←hask.out]at hno hyes hG3
   have hli3:=hide (hli2.out.asked hG3 hF3 hB3 hms)
   clear hG3 hF3 hB3 hli2 hask hzd hPr hzk htw2 hm92 hm93 cO cO3 hHeld
   cases ho:(wants nn kk st ids m).2 with
   |none=>
    have he3:(e3==0)=false:=by simpa using hno ho
    have hst3:Hid (LI w w3 pa pm nn kk F (runW nn kk (s,[0,1]) (R.take (t+1))) (.slice a5 ids.length c5) F3):=hide (by rw[hsn.out];unfold stepW;rw[ho];simpa using hli3.out)
    clear hli3 hno hyes ho
    go_wp2
    exact⟨⟨t+1,F3,by omega,by omega,by go_num,hst3⟩,by simp[intOf];omega⟩
   |some i=>
    obtain⟨rfl,rfl⟩:=hyes i ho
    have hbase:=hide (show w.heap.size≤w3.heap.size from hli3.out.but.size)
    clear hno hyes
    go_wp2_with(at_builtin;refine wpList_append_own_at _ rfl _ _ 23 rfl w.heap.size 3 i0 _ 1 8 Tryz.underlying23 hi hz0 hz1 hz2 rfl (by decide) _ _ _ rfl (hli3.out.row.alloc _) ⟨w3.heap.size,0,none⟩ 1 1 [.int .i64 x3] rfl rfl (by simpa using cell_one_new w3 (.int .i64 x3) 3) (by simp[Value.oneCell']) (by unfold maxLen;dsimp only;omega) (by dsimp only;omega) (by have:=hbase.out;simp;omega) ?_;intro v' w4 hown' hgrow hnil hat')
    have hst3:Hid (LI w w4 pa pm nn kk F (runW nn kk (s,[0,1]) (R.take (t+1))) v' F3):=hide (by rw[hsn.out];unfold stepW;rw[ho];exact hli3.out.append hown' hgrow hat' hms)
    exact⟨⟨t+1,F3,by omega,by omega,by go_num,hst3⟩,by simp[intOf];omega⟩
  have htk:R.take t=R.take 40:=by
   by_cases h5:t=40
   ·rw[h5]
   rw[List.take_of_length_le o_m,List.take_of_length_le o_m]
  rw[htk]at hli hx64
  have hfin:=hide (hli.out.bt hx64)
  clear hli hx64
  go_wp2
  all_goals
   go_ret
   exact hfin.out

theorem built_n {w0 w:World}{pa pm:Nat}{nn kk:Int}{s:St}{F:Nat→Prop}{ad:Option Addr}{n c:Nat}{R:List Mk}{B:Nat}
  (hG:AG w pa pm nn kk s F)(hF: ∀b,F b→w0.heap.size≤b)(hpm:w0.heap.size≤pm)(h2:2≤s.L.length)(hR:ML w0 ad n R B)(hn:n≤1048576)(hB:B≤1048576)(k0:Below w0.heap.size w0 w)(htab:Tab w0):
  Calls Tryz.prog 11 #[.pointer (some ⟨pa,0,none⟩),.slice ad n c] w fun e w'=>BT w w' e pa pm nn kk F (runW nn kk (s,[0,1]) (R.take 40)):=by
 have key: ∀w',ButF (fun b=>b=pm∨F b) w w'→Below w0.heap.size w0 w':=fun w' h=>k0.trans (h.below (fun b hb=>hb.elim (fun e=>by omega) (hF b)) k0.size)
 refine built_g hG h2 (fun w' h=>hR.below (key w' h)) (fun b off e h0=> ?_) hR.1 hn hB fun w' h=>htab.below (key w' h)
 rcases hR.2 with h9|⟨b1,o1,e1,h1,_⟩
 ·omega
 rw[e1]at e
 cases e
 have:=k0.size
 exact⟨fun hf=>by have:=hF _ hf;omega,by omega,by omega⟩
end Nt
namespace Nt

end Nt
namespace Nt

theorem lim_0 :lim 0=0:=by
 unfold lim
 rw[show(0:Int).natAbs=0 from rfl]
 rw[limbs_def]
 rfl
theorem lim_1 :lim 1=1:=by
 unfold lim
 rw[show(1:Int).natAbs=1 from rfl]
 rw[limbs_def]
 rw[dif_neg (by decide),show 1 / 4294967296=0 from rfl]
 rw[limbs_def]
 rfl
theorem not_in {L:List Nd}{n:Nd}(h: ∀x∈L,x.kind≠n.kind)(i:Nat):L[i]? ≠some n:=fun hi=>h n (List.mem_of_getElem? hi) rfl
end Nt
namespace Nt

structure AX (w:World) (pa pm:Nat) (L:List Nd) (F:Nat→Prop):Prop where
 ar: ∃C nv bm X D,AS w pa pm L C 2097152 nv bm X D∧¬FF pa bm nv C pm∧∀b,FF pa bm nv C b→F b
 fl: ∀b,F b→b<w.heap.size
theorem AG.ax {w:World}{pa pm:Nat}{nn kk:Int}{s:St}{F:Nat→Prop}(h:AG w pa pm nn kk s F):AX w pa pm s.L F:=⟨h.ar,h.fl⟩
theorem AX.move {w w':World}{pa pm:Nat}{L:List Nd}{F:Nat→Prop}(h:AX w pa pm L F)(hs:w.heap.size≤w'.heap.size)(hm: ∀b,F b→w'.heap[b]? =w.heap[b]?):AX w' pa pm L F:=by
 obtain⟨⟨C,nv,bm,X,D,h1,h2,h3⟩,h11⟩:=h
 exact⟨⟨C,nv,bm,X,D,h1.move hs fun b hb=>hm b (h3 b hb),h2,h3⟩,fun b hb=>Nat.lt_of_lt_of_le (h11 b hb) hs⟩
theorem AX.below {w w':World}{pa pm:Nat}{L:List Nd}{F:Nat→Prop}(h:AX w pa pm L F)(k:Below w.heap.size w w'):AX w' pa pm L F:=h.move k.size fun b hb=>k.block b (h.fl b hb)
theorem IL.but {w w':World}{a:Option Addr}{n:Nat}{l:List Int}{G H:Nat→Prop}(h:IL w a n l)(hF:InF H a n)(k:ButF G w w')(hG: ∀b,H b→b<w.heap.size→¬G b):IL w' a n l:=
 il_move h k.size fun b off e h0=>k.block b (il_lt h e h0) (hG b (hF b off e h0) (il_lt h e h0))
theorem InF.mono {a:Option Addr}{n:Nat}{G H:Nat→Prop}(h:InF G a n)(hG: ∀b,G b→H b):InF H a n:=fun b off e h0=>hG b (h b off e h0)

end Nt
namespace Nt

theorem flat_get : ∀(X:List NR) (i j:Nat) (h:i<X.length),j<8→(X.flatMap NR.enc)[i*8+j]? =(X[i].enc)[j]?
 | [],i,j,h,_=>absurd h (Nat.not_lt_zero _)
 |x::X,0,j,_,hj=>by
  rw[List.flatMap_cons,List.getElem?_append_left (by simp[NR.enc];omega)]
  simp
 |x::X,i+1,j,h,hj=>by
  rw[List.flatMap_cons,List.getElem?_append_right (by simp[NR.enc];omega)]
  have h1:=flat_get X i j (by simpa using h) hj
  rw[show(i+1)*8+j-x.enc.length=i*8+j by simp[NR.enc];omega,h1]
  rfl
theorem AS.cell {w:World}{pa pm:Nat}{L:List Nd}{C:Nat→Prop}{B:Nat}{nv:Value}{bm:Nat}{X:List NR}{D:DataW Value}(h:AS w pa pm L C B nv bm X D){i:Nat}(hi:i<L.length):
  ∃g cap,nv= .slice (some ⟨g,0,none⟩) L.length cap∧∀j,j<8→∀(hX:i<X.length),w.cell? ⟨g,i*8+j,none⟩=(X[i].enc)[j]?:=by
 rcases h.row.2 with⟨_,h0⟩|⟨g,cap,cur,e1,_,e3,h1,h2,h3,h4⟩
 ·omega
 refine⟨g,cap,e1,fun j hj hX=> ?_⟩
 rw[cell_of_row w g (i*8+j) _ _ (0,0) e3,←flat_get X i j hX hj,←h4,List.getElem?_take,if_pos o_m]
 simp
def nE (x:NR):Array Value:=#[.int .i64 x.kd,.bool x.sd,.slice x.ad x.ld x.cd,.slice x.ap x.np x.cp,.bool x.sk,.slice x.ak x.lk x.ck,.int .i64 x.vr,.slice x.ka x.kn x.kc]
def NDF (w w':World)(e:Ending)(n:Nd):Prop:=
 ∃x:NR,e= .returned (.tuple #[.agg (nE x),.bool true])∧x.kd=n.kind∧x.vr=n.var∧Zn w' x.sd x.ad x.ld x.cd n.d∧New w.heap.size x.ad x.ld∧PnF (fun b=>w.heap.size≤b) w' x.ap x.np n.ps 2097152∧Zn w' x.sk x.ak x.lk x.ck n.k∧New w.heap.size x.ak x.lk∧IL w' x.ka x.kn n.kids∧New w.heap.size x.ka x.kn∧Below w.heap.size w w'

theorem node8_f {w:World}{pa pm:Nat}{L:List Nd}{F:Nat→Prop}(h:AX w pa pm L F){i:Nat}(hi:i<L.length):Calls Tryz.prog 43 #[.pointer (some ⟨pa,0,none⟩),.int .i64 (i:Int)] w fun e w'=>NDF w w' e L[i]:=by
 obtain⟨C,nv,bm,X,D,hA,-,-⟩:=h.ar
 have hlk:=hide (lacks_n (hA.below (below_alloc w (.cells #[.int .i64 0,.bool false,.slice none 0 0,.slice none 0 0,.bool false,.slice none 0 0,.int .i64 0,.slice none 0 0] 77))) (i:Int))
 rw[decide_eq_false o_m]at hlk
 have hXi:i<X.length:=by have:=hA.len;omega
 obtain⟨g,cap,rfl,hcell⟩:=hA.cell hi
 have hN:=hA.nodes i hi
 generalize L[i]=n at*
 have hc:=fun j hj=>hcell j hj hXi
 generalize X[i]=x at*
 have e0:=hc 0 (by decide)
 have e1:=hc 1 (by decide)
 have e2:=hc 2 (by decide)
 have e3:=hc 3 (by decide)
 have e4:=hc 4 (by decide)
 have e5:=hc 5 (by decide)
 have e6:=hc 6 (by decide)
 have e7:=hc 7 (by decide)
 clear hc hcell
 simp only[NR.enc,List.getElem?_cons_zero,List.getElem?_cons_succ,Nat.add_zero]at e0 e1 e2 e3 e4 e5 e6 e7
 have u1:w.cell? ⟨pa,1,none⟩=some (.slice (some ⟨g,0,none⟩) L.length cap):=cell_of_row _ pa 1 _ _ (0,0) hA.blk
 have hgl:g<w.heap.size:=World.block_lt_of_cell? w _ e0
 have hpl:=hA.pal
 have b0:=below_alloc w (.cells #[.int .i64 0,.bool false,.slice none 0 0,.slice none 0 0,.bool false,.slice none 0 0,.int .i64 0,.slice none 0 0] 77)
 have y:=NB.new w 0 false none 0 0 none 0 0 false none 0 0 0 none 0 0
 go_enter Tryz.func43,Tryz.ntmps43
 go_wp2_with(go_at_call 52;refine hlk.out.mono ?_;rintro e w1 ⟨rfl,rfl⟩)
 have hsz:(w.alloc (.cells #[.int .i64 0,.bool false,.slice none 0 0,.slice none 0 0,.bool false,.slice none 0 0,.int .i64 0,.slice none 0 0] 77)).heap.size=w.heap.size+1:=by simp
 refine(copied_n (hN.zd.below b0) hN.hld (hN.pn.pn.below b0) (hN.zk.below b0) hN.hlk (hN.kids.below b0) hN.hnp hN.hkn (Nat.le_refl _)).mono ?_
 rintro e w2 ⟨ad,cd,ap,cp,ak,ck,ka,kc,rfl,hz,hn1,hp,hk,hn2,hI,hn3,k2⟩
 have y2:=y.below k2
 replace k2:=hide (grow_step k2 b0)
 rw[hsz]at hn1 hp hn2 hn3
 have hkd:=hN.kd
 have hvr:=hN.vr
 clear hA hN hlk h b0 y hsz e0 e1 e2 e3 e4 e5 e6 e7 u1 hgl hpl
 generalize hpe:w.heap.size=p at*
 replace k2:Hid (Below w.heap.size w w2):=hpe▸k2
 have g0:=y2.c0
 have f0:=y2.f 0
 have g1:=y2.c1
 have f1:=y2.f 1
 have g2:=y2.c2
 have f2:=y2.f 2
 have g3:=y2.c3
 have f3:=y2.f 3
 have g4:=y2.c4
 have f4:=y2.f 4
 have g5:=y2.c5
 have f5:=y2.f 5
 have g6:=y2.c6
 have f6:=y2.f 6
 have g7:=y2.c7
 have f7:=y2.f 7
 iterate 6 (first|go_skip|go_guarded|go_step|go_upon|go_simp)
 clear g0 g1 g2 g3 g4 g5 g6 g7 f0 f1 f2 f3 f4 f5 f6 f7
 have hfin:=hide (nb_fin y2 n.kind x.sd ad x.ld cd ap x.np cp x.sk ak x.lk ck n.var ka x.kn kc)
 have h8:Hid (∀b,b≠p→((((((((w2.setCell ⟨p,0,none⟩ (.int .i64 n.kind)).setCell ⟨p,1,none⟩ (.bool x.sd)).setCell ⟨p,2,none⟩ (.slice ad x.ld cd)).setCell ⟨p,3,none⟩ (.slice ap x.np cp)).setCell ⟨p,4,none⟩ (.bool x.sk)).setCell ⟨p,5,none⟩ (.slice ak x.lk ck)).setCell ⟨p,6,none⟩ (.int .i64 n.var)).setCell ⟨p,7,none⟩ (.slice ka x.kn kc)).heap[b]? =w2.heap[b]?):=hide fun b hb=>heap_eight hb _ _ _ _ _ _ _ _
 have hs8:Hid (w2.heap.size≤((((((((w2.setCell ⟨p,0,none⟩ (.int .i64 n.kind)).setCell ⟨p,1,none⟩ (.bool x.sd)).setCell ⟨p,2,none⟩ (.slice ad x.ld cd)).setCell ⟨p,3,none⟩ (.slice ap x.np cp)).setCell ⟨p,4,none⟩ (.bool x.sk)).setCell ⟨p,5,none⟩ (.slice ak x.lk ck)).setCell ⟨p,6,none⟩ (.int .i64 n.var)).setCell ⟨p,7,none⟩ (.slice ka x.kn kc)).heap.size):=hide (by simp)
 have kz:Hid (Below w.heap.size w ((((((((w2.setCell ⟨p,0,none⟩ (.int .i64 n.kind)).setCell ⟨p,1,none⟩ (.bool x.sd)).setCell ⟨p,2,none⟩ (.slice ad x.ld cd)).setCell ⟨p,3,none⟩ (.slice ap x.np cp)).setCell ⟨p,4,none⟩ (.bool x.sk)).setCell ⟨p,5,none⟩ (.slice ak x.lk ck)).setCell ⟨p,6,none⟩ (.int .i64 n.var)).setCell ⟨p,7,none⟩ (.slice ka x.kn kc))):=hide ((((((((k2.out.setCell (p:=⟨p,0,none⟩) (show w.heap.size≤p by omega) (.int .i64 n.kind)).setCell (p:=⟨p,1,none⟩) (show w.heap.size≤p by omega) (.bool x.sd)).setCell (p:=⟨p,2,none⟩) (show w.heap.size≤p by omega) (.slice ad x.ld cd)).setCell (p:=⟨p,3,none⟩) (show w.heap.size≤p by omega) (.slice ap x.np cp)).setCell (p:=⟨p,4,none⟩) (show w.heap.size≤p by omega) (.bool x.sk)).setCell (p:=⟨p,5,none⟩) (show w.heap.size≤p by omega) (.slice ak x.lk ck)).setCell (p:=⟨p,6,none⟩) (show w.heap.size≤p by omega) (.int .i64 n.var)).setCell (p:=⟨p,7,none⟩) (show w.heap.size≤p by omega) (.slice ka x.kn kc))
 generalize ((((((((w2.setCell ⟨p,0,none⟩ (.int .i64 n.kind)).setCell ⟨p,1,none⟩ (.bool x.sd)).setCell ⟨p,2,none⟩ (.slice ad x.ld cd)).setCell ⟨p,3,none⟩ (.slice ap x.np cp)).setCell ⟨p,4,none⟩ (.bool x.sk)).setCell ⟨p,5,none⟩ (.slice ak x.lk ck)).setCell ⟨p,6,none⟩ (.int .i64 n.var)).setCell ⟨p,7,none⟩ (.slice ka x.kn kc))=w8 at*
 go_wp2
 refine bodyPost_ret (results_ct rfl _ _ p 77 _ (0,0) _ rfl hfin.out Tryz.underlying77 rfl k_f) rfl ?_
 refine⟨⟨n.kind,x.sd,ad,x.ld,cd,ap,x.np,cp,x.sk,ak,x.lk,ck,n.var,ka,x.kn,kc⟩,rfl,rfl,rfl,zn_move hz hs8.out fun b off e1 h0=>h8.out b (by have:=hn1 b off e1 h0;omega),fun b off e1 h0=>by have:=hn1 b off e1 h0;omega,?_,zn_move hk hs8.out fun b off e1 h0=>h8.out b (by have:=hn2 b off e1 h0;omega),fun b off e1 h0=>by have:=hn2 b off e1 h0;omega,il_move hI hs8.out fun b off e1 h0=>h8.out b (by have:=hn3 b off e1 h0;omega),fun b off e1 h0=>by have:=hn3 b off e1 h0;omega,kz.out⟩
 exact((hp.move hs8.out fun b hb _=>h8.out b o_m).pnF).move (Nat.le_refl _) (fun _ _ _=>rfl) fun b hb _=>by omega
end Nt
namespace Nt

theorem zn_limb {w:World}{s:Bool}{a:Option Addr}{l c:Nat}{z:Int}(h:Zn w s a l c z):l=lim z:=by
 obtain⟨n,⟨xs,hr,hc,hv⟩,hz,_⟩:=h
 have e:=canon_limbs hc
 have hl:l=xs.length:=hr.1.symm
 have hn:z.natAbs=(val xs).toNat:=by
  have h0:0≤n:=by rw[←hv];exact val_nonneg hr.2.2.2.1
  cases s <;> simp[sg]at hz <;> omega
 unfold lim
 rw[hn,←e,List.length_map,hl]
theorem pn_limb {w:World}{ad:Option Addr}{n:Nat}{ps:List (Int × Int)}{B B':Nat}(h:Pn w ad n ps B)(hl: ∀p∈ps,lim p.2≤B'):Pn w ad n ps B':=by
 refine⟨h.1,?_⟩
 rcases h.2 with h0|⟨b,off,e,hb,h2⟩
 ·exact .inl h0
 refine .inr ⟨b,off,e,hb,fun i hi=> ?_⟩
 obtain⟨s,a,l,c,c0,c1,c2,hz,_,hi6⟩:=h2 i hi
 exact⟨s,a,l,c,c0,c1,c2,hz,by rw[zn_limb hz];exact hl _ (List.getElem_mem hi),hi6⟩
end Nt
namespace Nt

end Nt
namespace Nt

open Classical in
def putE (nn kk:Int)(s:St)(n:Nd):St × Int × Int:=
 if spot s.L n<s.L.length then(s,(spot s.L n:Int),0)
 else if(mstep nn kk s.c s.er (nums n)).1=0 then(⟨s.L++ [n],(mstep nn kk s.c s.er (nums n)).2.1,(mstep nn kk s.c s.er (nums n)).2.2⟩,(s.L.length:Int),0)
 else(⟨s.L,(mstep nn kk s.c s.er (nums n)).2.1,(mstep nn kk s.c s.er (nums n)).2.2⟩,0,(mstep nn kk s.c s.er (nums n)).1)
theorem putE_found {nn kk:Int}{F:St}{n:Nd}{i:Nat}(hU:Uq F.L)(h:F.L[i]? =some n):putE nn kk F n=(F,(i:Int),0):=by
 have h9: ∃i:Nat,F.L[i]? =some n:=⟨i,h⟩
 unfold putE
 rw[if_pos (spot_at h9).1,hU _ i n (spot_at h9).2 h]
def actA (nn kk:Int)(s:St)(kd d:Int)(ps:List (Int × Int))(k:Int):St × Int × Int:=match formA kd d (nz (lays [] ps)) k with
 | .inr e=>(s,0,e)
 | .inl f=>putE nn kk s ⟨f.kind,f.d,f.ps,f.k,0,[]⟩
def actJ (nn kk:Int)(s:St)(kd:Int)(l:List Int):St × Int × Int:=
 if ¬(kd=5∨kd=6)then(s,0,1)else if l.any (lck s.L.length)=true then(s,0,80)else match ris l with
  | []=>(s,if kd=5 then 1 else 0,0)
  | [x]=>(s,x,0)
  |x::y::t=>putE nn kk s ⟨kd,0,[],0,0,x::y::t⟩
def actB (nn kk:Int)(s:St)(kd v kid:Int):St × Int × Int:=
 if ¬(kd=7∨kd=8)then(s,0,1)else if kid<0∨(s.L.length:Int)≤kid then(s,0,80)else putE nn kk s ⟨kd,0,[],0,v,[kid]⟩
def AO2 (w w':World)(e:Ending)(pa pm:Nat)(nn kk:Int)(F:Nat→Prop)(r:St × Int × Int):Prop:=
 e= .returned (.tuple #[.int .i64 r.2.1,.int .i64 r.2.2])∧∃F',AG w' pa pm nn kk r.1 F'∧(∀b,F' b→F b∨w.heap.size≤b)∧ButF (fun b=>b=pm∨F b) w w'
theorem ao2_now {w w':World}{pa pm:Nat}{nn kk:Int}{s:St}{F:Nat→Prop}(hG:AG w pa pm nn kk s F)(k:Below w.heap.size w w')(i er:Int):AO2 w w' (.returned (.tuple #[.int .i64 i,.int .i64 er])) pa pm nn kk F (s,i,er):=
 ⟨rfl,F,hG.below k,fun _ h=> .inl h,butF_below k⟩
theorem md_ao2 {w w':World}{e:Ending}{pa pm:Nat}{nn kk:Int}{s:St}{F C:Nat→Prop}{nv:Value}{bm:Nat}{X:List NR}{D:DataW Value}{n:Nd}(hG:AG w pa pm nn kk s F)(hA:AS w pa pm s.L C 2097152 nv bm X D)(hpm: ¬FF pa bm nv C pm)(hF: ∀b,FF pa bm nv C b→F b)(h:MD w w' e pa pm s.L C 2097152 nv bm nn kk s.c s.er n):AO2 w w' e pa pm nn kk F (putE nn kk s n):=by
 have hn:n∉s.L→¬ ∃i:Nat,s.L[i]? =some n:=fun h ⟨i,hi⟩=>h (List.mem_of_getElem? hi)
 have h0:=hG.c0
 have h1:=hG.cn
 have h2:=hG.n2
 have h3:=hG.e0
 have h4:=hG.e2
 have h5:=hG.ln
 rcases h with⟨i,g1,rfl,k⟩|⟨g1,g2,rfl,g4,k⟩|⟨g1,g2,rfl,g4,C',nv',X',D',g5,g6,g7⟩
 ·rw[putE_found hA.uq g1]
  exact ao2_now hG k _ _
 ·change (mstep nn kk s.c s.er (nums n)).1≠0 at g2
  change MB w' pm nn kk (mstep nn kk s.c s.er (nums n)).2.1 (mstep nn kk s.c s.er (nums n)).2.2 at g4
  have hA':AS w' pa pm s.L C 2097152 nv bm X D:=hA.move k.size fun b hb=>k.block b (hA.fl hb) fun e=>hpm (e▸hb)
  unfold putE
  rw[if_neg (spot_no (hn g1)),if_neg g2]
  refine⟨rfl,F,⟨⟨C,nv,bm,X,D,hA',hpm,hF⟩,g4,?_,?_,h2,?_,?_,?_,fun b hb=>Nat.lt_of_lt_of_le (hG.fl b hb) k.size⟩,fun b hb=> .inl hb,but_butF k⟩
  all_goals
   rcases mstep_cases nn kk s.c s.er (nums n)with⟨a1,a2⟩|⟨a1,r,a2,a3,a4⟩|⟨a1,a2,a3,a4⟩
  all_goals
   first
    |(rw[a2];dsimp only;omega)
    |(rw[a3];dsimp only;omega)
 change (mstep nn kk s.c s.er (nums n)).1=0 at g2
 change MB w' pm nn kk (mstep nn kk s.c s.er (nums n)).2.1 (mstep nn kk s.c s.er (nums n)).2.2 at g4
 unfold putE
 rw[if_neg (spot_no (hn g1)),if_pos g2]
 have hpm': ¬FF pa bm nv' C' pm:=fun hf=>(g6 pm hf).elim hpm fun h=>absurd (hG.mb.lt) o_m
 refine⟨rfl,FF pa bm nv' C',⟨⟨C',nv',bm,X',D',g5,hpm',fun _ hb=>hb⟩,g4,?_,?_,h2,?_,?_,?_,fun b hb=>g5.fl hb⟩,fun b hb=>(g6 b hb).imp (hF b) id,g7.mono fun b hb=>hb.imp id (hF b)⟩
 all_goals
  rcases mstep_cases nn kk s.c s.er (nums n)with⟨a1,a2⟩|⟨a1,r,a2,a3,a4⟩|⟨a1,a2,a3,a4⟩
 all_goals
  first
   |(rw[a2]at g2;exact absurd g2 a1)
   |(rw[a3]at g2;exact absurd g2 a2)
   |(rw[a2];dsimp only;simp only[List.length_append,List.length_cons,List.length_nil];omega)
   |(rw[a2];dsimp only;omega)


theorem atom_ao2 {w:World}{pa pm:Nat}{nn kk:Int}{s:St}{F:Nat→Prop}{kd:Int}{sd:Bool}{ad:Option Addr}{ld cd:Nat}{ap:Option Addr}{np cp:Nat}{sk:Bool}{ak:Option Addr}{lk ck:Nat}{d k:Int}{ps:List (Int × Int)}{B:Nat}
  (hG:AG w pa pm nn kk s F)(hd:Zm w sd ad ld cd d)(hld:ld≤B)(hP:Pr w ap np ps B)(hk:Zm w sk ak lk ck k)(hlk:lk≤B)(hn:np≤209716)(hB:B≤1048576)(htab:Tab w):
  Calls Tryz.prog 33 #[.pointer (some ⟨pa,0,none⟩),.agg #[.int .i64 kd,.bool sd,.slice ad ld cd,.slice ap np cp,.bool sk,.slice ak lk ck]] w fun e w'=>AO2 w w' e pa pm nn kk F (actA nn kk s kd d ps k):=by
 obtain⟨C,nv,bm,X,D,hA,hpm,hF⟩:=hG.ar
 have h1:=hG.cn
 have h2:=hG.n2
 have h3:=hG.ln
 refine(atom8_n hA hG.mb hpm hG.c0 hG.cn hG.n2 hG.e0 hG.e2 hd hld hP hk hlk hn hB o_m htab).mono ?_
 intro e w' h
 unfold AM at h
 unfold actA
 cases hf:formA kd d (nz (lays [] ps)) k with
 |inr er=>
  rw[hf]at h
  obtain⟨rfl,kb⟩:=h
  exact ao2_now hG kb _ _
 |inl f=>
  rw[hf]at h
  exact md_ao2 hG hA hpm hF h

theorem join_ao2 {w:World}{pa pm:Nat}{nn kk:Int}{s:St}{F:Nat→Prop}{kd:Int}{ka:Option Addr}{kc:Nat}{l:List Int}
  (hG:AG w pa pm nn kk s F)(hI:IL w ka l.length l)(hl:l.length≤1048576)(htab:Tab w):
  Calls Tryz.prog 40 #[.pointer (some ⟨pa,0,none⟩),.int .i64 kd,.slice ka l.length kc] w fun e w'=>AO2 w w' e pa pm nn kk F (actJ nn kk s kd l):=by
 obtain⟨C,nv,bm,X,D,hA,hpm,hF⟩:=hG.ar
 have h1:=hG.cn
 have h2:=hG.n2
 have h3:=hG.ln
 refine(join8_n hA hG.mb hpm hG.c0 hG.cn hG.n2 hG.e0 hG.e2 hI hl o_m htab).mono ?_
 intro e w' h
 unfold JO at h
 unfold actJ
 by_cases hkd:kd=5∨kd=6
 ·rw[if_neg (fun h=>h hkd)]at h ⊢
  by_cases ha:l.any (lck s.L.length)=true
  ·rw[if_pos ha]at h ⊢
   obtain⟨rfl,rfl⟩:=h
   exact ao2_now hG (Below.refl _ _) _ _
  rw[if_neg ha]at h ⊢
  cases hr:ris l with
  |nil=>
   rw[hr]at h
   obtain⟨rfl,kb⟩:=h
   exact ao2_now hG kb _ _
  |cons x t=>
   cases t with
   |nil=>
    rw[hr]at h
    obtain⟨rfl,kb⟩:=h
    exact ao2_now hG kb _ _
   |cons y t=>
    rw[hr]at h
    exact md_ao2 hG hA hpm hF h
 rw[if_pos hkd]at h ⊢
 obtain⟨rfl,rfl⟩:=h
 exact ao2_now hG (Below.refl _ _) _ _

theorem bind_ao2 {w:World}{pa pm:Nat}{nn kk:Int}{s:St}{F:Nat→Prop}{kd v kid:Int}
  (hG:AG w pa pm nn kk s F)(hv:I64 v)(hkid:I64 kid)(htab:Tab w):
  Calls Tryz.prog 41 #[.pointer (some ⟨pa,0,none⟩),.int .i64 kd,.int .i64 v,.int .i64 kid] w fun e w'=>AO2 w w' e pa pm nn kk F (actB nn kk s kd v kid):=by
 obtain⟨C,nv,bm,X,D,hA,hpm,hF⟩:=hG.ar
 have h1:=hG.cn
 have h2:=hG.n2
 have h3:=hG.ln
 refine(bind8_n hA hG.mb hpm hG.c0 hG.cn hG.n2 hG.e0 hG.e2 hv hkid o_m htab).mono ?_
 intro e w' h
 unfold BI at h
 unfold actB
 by_cases hkd:kd=7∨kd=8
 ·rw[if_neg (fun h=>h hkd)]at h ⊢
  by_cases ha:kid<0∨(s.L.length:Int)≤kid
  ·rw[if_pos ha]at h ⊢
   obtain⟨rfl,rfl⟩:=h
   exact ao2_now hG (Below.refl _ _) _ _
  rw[if_neg ha]at h ⊢
  exact md_ao2 hG hA hpm hF h
 rw[if_pos hkd]at h ⊢
 obtain⟨rfl,rfl⟩:=h
 exact ao2_now hG (Below.refl _ _) _ _

end Nt
end Go.Proofs.YtllfelooahplhaaGreatDoor

namespace Go.Proofs.YtllfelooahplhaaGreatDoor
open Tm At
namespace Nt

def ndI (L:List Nd)(i:Int):Nd:=(L[i.toNat]?).getD (cst 0)
def okI (L:List Nd)(i:Int):Prop:=0≤i∧i<(L.length:Int)
theorem okI_lck {L:List Nd}{i:Int}:lck L.length i=false↔okI L i:=by
  unfold lck okI
  rw[decide_eq_false_iff_not]
  omega
theorem ndI_at {L:List Nd}{i:Int}(h:okI L i): ∃h2:i.toNat<L.length,ndI L i=L[i.toNat]:=by
  have h2:i.toNat<L.length:=by unfold okI at h;omega
  exact⟨h2,by unfold ndI;rw[List.getElem?_eq_getElem h2];rfl⟩
def Wk (L:List Nd):Prop:=∀i,okI L i→∀k∈(ndI L i).kids,0≤k∧k<i
theorem Wk.ok {L:List Nd}(h:Wk L){i k:Int}(hi:okI L i)(hk:k∈(ndI L i).kids):okI L k:=by
  have:=h i hi k hk
  unfold okI at*
  omega
def Rk (L:List Nd)(kd:Int)(ids:List Int)(x:Int):Prop:=∀P:Int→Prop,(∀y∈ids,P y)→(∀y z,P y→okI L y→(ndI L y).kind=kd→z∈(ndI L y).kids→P z)→P x
theorem rk_id {L:List Nd}{kd:Int}{ids:List Int}{x:Int}(h:x∈ids):Rk L kd ids x:=fun _ h1 _=>h1 x h
theorem rk_kid {L:List Nd}{kd:Int}{ids:List Int}{x z:Int}(h:Rk L kd ids x)(ho:okI L x)(hk:(ndI L x).kind=kd)(hz:z∈(ndI L x).kids):Rk L kd ids z:=fun P h1 h2=>h2 x z (h P h1 h2) ho hk hz
theorem rk_bad {L:List Nd}(hw:Wk L){kd:Int}{ids:List Int}{x:Int}(h:Rk L kd ids x)(hx: ¬okI L x): ∃y∈ids,¬okI L y:=
  ⟨x,(h (fun y=>y∈ids∨okI L y) (fun _ hy=> .inl hy) (fun _ _ _ ho _ hz=> .inr (hw.ok ho hz))).resolve_right hx,hx⟩
def Mem (L:List Nd)(kd idle:Int)(ids:List Int)(x:Int):Prop:=Rk L kd ids x∧okI L x∧(ndI L x).kind≠kd∧x≠idle

structure Spr (L:List Nd) (kd idle:Int) (ids M Sn Lf:List Int):Prop where
  m: ∀x∈M,x∈Sn∧(ndI L x).kind≠kd∧x≠idle
  nd:M.Nodup
  s: ∀x∈Sn,okI L x∧Rk L kd ids x∧((ndI L x).kind=kd→∀z∈(ndI L x).kids,z∈Sn∨z∈Lf)∧((ndI L x).kind≠kd→x=idle∨x∈M)
  l: ∀x∈Lf,Rk L kd ids x
  i: ∀x∈ids,x∈Sn∨x∈Lf
theorem spr_0 (L:List Nd)(kd idle:Int)(ids:List Int):Spr L kd idle ids [] [] ids:=
  ⟨fun _ h=>(by cases h),List.nodup_nil,fun _ h=>(by cases h),fun _ h=>rk_id h,fun _ h=> .inr h⟩
theorem mem_snoc {l:List Int}{x y:Int}:y∈l++ [x]↔y∈l∨y=x:=by simp
theorem Spr.old {L:List Nd}{kd idle:Int}{ids M Sn Lf:List Int}{x:Int}(h:Spr L kd idle ids M Sn (Lf++ [x]))(hx:x∈Sn):Spr L kd idle ids M Sn Lf:=by
  have hh: ∀z,z∈Sn∨z∈Lf++ [x]→z∈Sn∨z∈Lf:=fun z hz=>hz.elim .inl fun hz=>(mem_snoc.1 hz).elim .inr fun e=> .inl (e▸hx)
  exact⟨h.m,h.nd,fun y hy=>⟨(h.s y hy).1,(h.s y hy).2.1,fun hk z hz=>hh z ((h.s y hy).2.2.1 hk z hz),(h.s y hy).2.2.2⟩,fun y hy=>h.l y (mem_snoc.2 (.inl hy)),fun y hy=>hh y (h.i y hy)⟩
theorem Spr.kids {L:List Nd}{kd idle:Int}{ids M Sn Lf:List Int}{x:Int}(h:Spr L kd idle ids M Sn (Lf++ [x]))(ho:okI L x)(hk:(ndI L x).kind=kd):Spr L kd idle ids M (x::Sn) (Lf++(ndI L x).kids):=by
  have hr:=h.l x (mem_snoc.2 (.inr rfl))
  have hh: ∀z,z∈Sn∨z∈Lf++ [x]→z∈x::Sn∨z∈Lf++(ndI L x).kids:=fun z hz=>hz.elim (fun h=> .inl (List.mem_cons_of_mem _ h)) fun hz=>(mem_snoc.1 hz).elim (fun h=> .inr (List.mem_append_left _ h)) fun e=> .inl (e▸List.mem_cons_self)
  refine⟨fun y hy=>⟨List.mem_cons_of_mem _ (h.m y hy).1,(h.m y hy).2⟩,h.nd,fun y hy=> ?_,fun y hy=> ?_,fun y hy=>hh y (h.i y hy)⟩
  · rcases List.mem_cons.1 hy with rfl|hy
    · exact⟨ho,hr,fun _ z hz=> .inr (List.mem_append_right _ hz),fun hn=>absurd hk hn⟩
    exact⟨(h.s y hy).1,(h.s y hy).2.1,fun hk z hz=>hh z ((h.s y hy).2.2.1 hk z hz),(h.s y hy).2.2.2⟩
  exact(List.mem_append.1 hy).elim (fun hy=>h.l y (mem_snoc.2 (.inl hy))) fun hy=>rk_kid hr ho hk hy
theorem Spr.idle {L:List Nd}{kd idle:Int}{ids M Sn Lf:List Int}(h:Spr L kd idle ids M Sn (Lf++ [idle]))(ho:okI L idle)(hk:(ndI L idle).kind≠kd):Spr L kd idle ids M (idle::Sn) Lf:=by
  have hr:=h.l idle (mem_snoc.2 (.inr rfl))
  have hh: ∀z,z∈Sn∨z∈Lf++ [idle]→z∈idle::Sn∨z∈Lf:=fun z hz=>hz.elim (fun h=> .inl (List.mem_cons_of_mem _ h)) fun hz=>(mem_snoc.1 hz).elim .inr fun e=> .inl (e▸List.mem_cons_self)
  refine⟨fun y hy=>⟨List.mem_cons_of_mem _ (h.m y hy).1,(h.m y hy).2⟩,h.nd,fun y hy=> ?_,fun y hy=>h.l y (mem_snoc.2 (.inl hy)),fun y hy=>hh y (h.i y hy)⟩
  rcases List.mem_cons.1 hy with rfl|hy
  · exact⟨ho,hr,fun hn=>absurd hn hk,fun _=> .inl rfl⟩
  exact⟨(h.s y hy).1,(h.s y hy).2.1,fun hk z hz=>hh z ((h.s y hy).2.2.1 hk z hz),(h.s y hy).2.2.2⟩
theorem Spr.mem {L:List Nd}{kd idle:Int}{ids M Sn Lf:List Int}{x:Int}(h:Spr L kd idle ids M Sn (Lf++ [x]))(hx:x∉Sn)(ho:okI L x)(hk:(ndI L x).kind≠kd)(hi:x≠idle):Spr L kd idle ids (M++ [x]) (x::Sn) Lf:=by
  have hr:=h.l x (mem_snoc.2 (.inr rfl))
  have hh: ∀z,z∈Sn∨z∈Lf++ [x]→z∈x::Sn∨z∈Lf:=fun z hz=>hz.elim (fun h=> .inl (List.mem_cons_of_mem _ h)) fun hz=>(mem_snoc.1 hz).elim .inr fun e=> .inl (e▸List.mem_cons_self)
  refine⟨fun y hy=> ?_,?_,fun y hy=> ?_,fun y hy=>h.l y (mem_snoc.2 (.inl hy)),fun y hy=>hh y (h.i y hy)⟩
  · rcases mem_snoc.1 hy with hy|rfl
    · exact⟨List.mem_cons_of_mem _ (h.m y hy).1,(h.m y hy).2⟩
    exact⟨List.mem_cons_self,hk,hi⟩
  · rw[List.nodup_append]
    exact⟨h.nd,by simp,fun a ha b hb e=>by rw[List.mem_singleton.1 hb]at e;exact hx (e▸(h.m a ha).1)⟩
  rcases List.mem_cons.1 hy with rfl|hy
  · exact⟨ho,hr,fun hn=>absurd hn hk,fun _=> .inr (mem_snoc.2 (.inr rfl))⟩
  exact⟨(h.s y hy).1,(h.s y hy).2.1,fun hk z hz=>hh z ((h.s y hy).2.2.1 hk z hz),fun hn=>((h.s y hy).2.2.2 hn).imp id fun hm=>mem_snoc.2 (.inl hm)⟩
theorem Spr.done {L:List Nd}{kd idle:Int}{ids M Sn:List Int}(h:Spr L kd idle ids M Sn []):(∀x∈ids,okI L x)∧M.Nodup∧∀x,x∈M↔Mem L kd idle ids x:=by
  have hS: ∀x,Rk L kd ids x→x∈Sn:=fun x hx=>hx (fun y=>y∈Sn) (fun y hy=>(h.i y hy).resolve_right (by simp)) (fun y z hy _ hk hz=>((h.s y hy).2.2.1 hk z hz).resolve_right (by simp))
  refine⟨fun x hx=>(h.s x (hS x (rk_id hx))).1,h.nd,fun x=>⟨fun hx=> ?_,fun⟨h1,h2,h3,h4⟩=> ?_⟩⟩
  · have h1:=h.m x hx
    exact⟨(h.s x h1.1).2.1,(h.s x h1.1).1,h1.2⟩
  exact((h.s x (hS x h1)).2.2.2 h3).resolve_left h4
def pot (L:List Nd)(Sn:List Int):Nat→Nat
  |0=>0
  |n+1=>pot L Sn n+if(n:Int)∈Sn then 0 else 1+(ndI L n).kids.length
theorem pot_same (L:List Nd)(Sn:List Int)(x:Int): ∀n:Nat,(n:Int)≤x→pot L (x::Sn) n=pot L Sn n
  |0,_=>rfl
  |n+1,h=>by
    have e:((n:Int)∈x::Sn)↔(n:Int)∈Sn:=by
      rw[List.mem_cons]
      exact⟨fun h1=>h1.elim (fun e=>by omega) id,.inr⟩
    unfold pot
    rw[pot_same L Sn x n o_m]
    simp only[e]
theorem pot_add (L:List Nd)(Sn:List Int)(x:Int)(h0:0≤x)(hx:x∉Sn): ∀n:Nat,x<(n:Int)→pot L Sn n=pot L (x::Sn) n+(1+(ndI L x).kids.length)
  |0,h=>by omega
  |n+1,h=>by
    by_cases e:x=(n:Int)
    · subst e
      unfold pot
      rw[pot_same L Sn (n:Int) n (Int.le_refl _),if_neg hx,if_pos List.mem_cons_self]
      omega
    have h1:=pot_add L Sn x h0 hx n o_m
    have e2:((n:Int)∈x::Sn)↔(n:Int)∈Sn:=by
      rw[List.mem_cons]
      exact⟨fun h1=>h1.elim (fun e3=>absurd e3.symm e) id,.inr⟩
    unfold pot
    simp only[e2]
    omega
def negP (ps:List (Int × Int)):List (Int × Int):=ps.map fun p=>(p.1,-p.2)
def Stay (L:List Nd)(sg:Int)(M:Int→Prop)(x:Int):Prop:=M x∧(ndI L x).kind=2∧∀y,M y→(ndI L y).kind=2→(ndI L y).ps=(ndI L x).ps→¬sg*(ndI L y).k<sg*(ndI L x).k
def Clash (L:List Nd)(sg:Int)(M:Int→Prop):Prop:=∃x y,Stay L sg M x∧Stay L sg M y∧(ndI L y).ps=negP (ndI L x).ps∧sg*((ndI L x).k+(ndI L y).k)≤sg
def Oppos (L:List Nd)(M:Int→Prop):Prop:=∃x y,M x∧M y∧(ndI L x).kind=3∧(ndI L y).kind=4∧(ndI L x).d=(ndI L y).d∧(ndI L x).ps=(ndI L y).ps∧(ndI L x).k=(ndI L y).k
def Keep (L:List Nd)(sg:Int)(M:Int→Prop)(x:Int):Prop:=M x∧((ndI L x).kind=2→Stay L sg M x)
def Need (L:List Nd)(sg dual:Int)(M:Int→Prop)(x:Int):Prop:=Keep L sg M x∧¬((ndI L x).kind=dual∧∃z∈(ndI L x).kids,Keep L sg M z)
theorem ris_set {l k:List Int}(h: ∀x,x∈l↔x∈k):ris l=ris k:=
  rise_ext _ _ (ris_rises l) (ris_rises k) fun x=>by rw[mem_ris,mem_ris];exact h x
theorem actJ_set {nn kk:Int}{s:St}{kd:Int}{l k:List Int}(h: ∀x,x∈l↔x∈k):actJ nn kk s kd l=actJ nn kk s kd k:=by
  have ha:l.any (lck s.L.length)=k.any (lck s.L.length):=by
    rw[Bool.eq_iff_iff,List.any_eq_true,List.any_eq_true]
    exact⟨fun⟨x,hx,h2⟩=>⟨x,(h x).1 hx,h2⟩,fun⟨x,hx,h2⟩=>⟨x,(h x).2 hx,h2⟩⟩
  unfold actJ
  rw[ha,ris_set h]
def SimpR (nn kk:Int)(s:St)(kd dual idle rul sg:Int)(ids:List Int)(r:St × Int × Int):Prop:=
  ((∃x∈ids,¬okI s.L x)∧r=(s,0,80))∨((∀x∈ids,okI s.L x)∧
    (((Mem s.L kd idle ids rul∨Clash s.L sg (Mem s.L kd idle ids)∨Oppos s.L (Mem s.L kd idle ids))∧r=(s,rul,0))∨
     (¬(Mem s.L kd idle ids rul∨Clash s.L sg (Mem s.L kd idle ids)∨Oppos s.L (Mem s.L kd idle ids))∧∃l,(∀x,x∈l↔Need s.L sg dual (Mem s.L kd idle ids) x)∧r=actJ nn kk s kd l)))
theorem SimpR.uniq {nn kk:Int}{s:St}{kd dual idle rul sg:Int}{ids:List Int}{r q:St × Int × Int}(h:SimpR nn kk s kd dual idle rul sg ids r)(k:SimpR nn kk s kd dual idle rul sg ids q):r=q:=by
  rcases h with⟨⟨x,hx,hn⟩,rfl⟩|⟨ho,h⟩
  · rcases k with⟨_,rfl⟩|⟨ho,_⟩
    · rfl
    exact absurd (ho x hx) hn
  rcases k with⟨⟨x,hx,hn⟩,_⟩|⟨_,k⟩
  · exact absurd (ho x hx) hn
  rcases h with⟨h1,rfl⟩|⟨h1,l,hl,rfl⟩
  · rcases k with⟨_,rfl⟩|⟨k1,_⟩
    · rfl
    exact absurd h1 k1
  rcases k with⟨k1,_⟩|⟨_,l',hl',rfl⟩
  · exact absurd k1 h1
  exact actJ_set fun x=>(hl x).trans (hl' x).symm
theorem rk_set {L:List Nd}{kd:Int}{ids jds:List Int}(h: ∀x,x∈ids→x∈jds){x:Int}(hx:Rk L kd ids x):Rk L kd jds x:=fun P h1 h2=>hx P (fun y hy=>h1 y (h y hy)) h2
theorem mem_set {L:List Nd}{kd idle:Int}{ids jds:List Int}(h: ∀x,x∈ids↔x∈jds):Mem L kd idle ids=Mem L kd idle jds:=
  funext fun _=>propext ⟨fun⟨h1,h2⟩=>⟨rk_set (fun y=>(h y).1) h1,h2⟩,fun⟨h1,h2⟩=>⟨rk_set (fun y=>(h y).2) h1,h2⟩⟩
theorem SimpR.set {nn kk:Int}{s:St}{kd dual idle rul sg:Int}{ids jds:List Int}{r:St × Int × Int}(hs: ∀x,x∈ids↔x∈jds)(h:SimpR nn kk s kd dual idle rul sg ids r):SimpR nn kk s kd dual idle rul sg jds r:=by
  unfold SimpR at h ⊢
  rw[mem_set hs]at h
  exact h.imp (fun⟨⟨x,hx,hn⟩,e⟩=>⟨⟨x,(hs x).1 hx,hn⟩,e⟩) fun⟨ho,h⟩=>⟨fun x hx=>ho x ((hs x).2 hx),h⟩
end Nt
namespace Nt

def Wn (i:Nat)(n:Nd):Prop:=
 (∃f:Atm,Fit f∧n=⟨f.kind,f.d,f.ps,f.k,0,[]⟩∧f.ps.length≤209716)∨
 (∃kd kids,(kd=5∨kd=6)∧n=⟨kd,0,[],0,0,kids⟩∧2≤kids.length∧kids.Pairwise (· < ·)∧∀x∈kids,0≤x∧x<(i:Int))∨
 (∃kd v x,(kd=7∨kd=8)∧n=⟨kd,0,[],0,v,[x]⟩∧I64 v∧0≤x∧x<(i:Int))
structure Gv (kk:Int) (L:List Nd):Prop where
 uq:Uq L
 c0:L[0]? =some (cst 0)
 c1:L[1]? =some (cst 1)
 wn: ∀(i:Nat) (n:Nd),2≤i→L[i]? =some n→Wn i n∧∀z∈nums n,(lim z:Int)≤kk
theorem Gv.len {kk:Int}{L:List Nd}(h:Gv kk L):2≤L.length:=by
 have:=(List.getElem?_eq_some_iff.1 h.c1).1
 omega
theorem Gv.ok0 {kk:Int}{L:List Nd}(h:Gv kk L):okI L 0:=by have:=h.len;unfold okI;omega
theorem Gv.ok1 {kk:Int}{L:List Nd}(h:Gv kk L):okI L 1:=by have:=h.len;unfold okI;omega
theorem Gv.n0 {kk:Int}{L:List Nd}(h:Gv kk L):ndI L 0=cst 0:=by
 show(L[0]?).getD (cst 0)=cst 0
 rw[h.c0]
 rfl
theorem Gv.n1 {kk:Int}{L:List Nd}(h:Gv kk L):ndI L 1=cst 1:=by
 show(L[1]?).getD (cst 0)=cst 1
 rw[h.c1]
 rfl
theorem ndI_some {L:List Nd}{i:Int}(h:okI L i):L[i.toNat]? =some (ndI L i):=by
 obtain⟨h2,e⟩:=ndI_at h
 rw[e,List.getElem?_eq_getElem h2]
theorem Gv.cases {kk:Int}{L:List Nd}(h:Gv kk L){i:Int}(hi:okI L i):
  (i=0∧ndI L i=cst 0)∨(i=1∧ndI L i=cst 1)∨(2≤i∧∃f:Atm,Fit f∧(f.kind=2∨f.kind=3∨f.kind=4)∧f.ps≠ []∧ndI L i=⟨f.kind,f.d,f.ps,f.k,0,[]⟩∧f.ps.length≤209716∧∀z∈nums (ndI L i),(lim z:Int)≤kk)∨
  (2≤i∧∃kd kids,(kd=5∨kd=6)∧ndI L i=⟨kd,0,[],0,0,kids⟩∧2≤kids.length∧kids.Pairwise (· < ·)∧∀x∈kids,0≤x∧x<i)∨
  (2≤i∧∃kd v x,(kd=7∨kd=8)∧ndI L i=⟨kd,0,[],0,v,[x]⟩∧I64 v∧0≤x∧x<i):=by
 have hs:=ndI_some hi
 have h0:=hi.1
 by_cases h2:2≤i
 ·obtain⟨hw,hk⟩:=h.wn i.toNat _ o_m hs
  rcases hw with⟨f,h3,h4,h5⟩|⟨kd,kids,h3,h4,h5,h6,h7⟩|⟨kd,v,x,h3,h4,h5,h6,h7⟩
  ·refine .inr (.inr (.inl ⟨h2,f,h3,?_,?_,h4,h5,hk⟩))
   ·rcases h3 with⟨h8,e1,e2,e3⟩|⟨h8,_⟩|⟨h8,_⟩
    ·exfalso
     have e:ndI L i=cst f.kind:=by rw[h4,e1,e2,e3];rfl
     rcases h8 with h8|h8
     ·rw[e,h8]at hs
      have:=h.uq _ 0 _ hs h.c0
      omega
     rw[e,h8]at hs
     have:=h.uq _ 1 _ hs h.c1
     omega
    ·exact .inl h8
    exact .inr h8
   rcases h3 with⟨h8,e1,e2,e3⟩|⟨_,_,_,h8,_⟩|⟨_,h8,_⟩
   ·exfalso
    have e:ndI L i=cst f.kind:=by rw[h4,e1,e2,e3];rfl
    rcases h8 with h8|h8
    ·rw[e,h8]at hs
     have:=h.uq _ 0 _ hs h.c0
     omega
    rw[e,h8]at hs
    have:=h.uq _ 1 _ hs h.c1
    omega
   ·exact h8
   exact h8.some
  ·exact .inr (.inr (.inr (.inl ⟨h2,kd,kids,h3,h4,h5,h6,fun x hx=>by have:=h7 x hx;omega⟩)))
  exact .inr (.inr (.inr (.inr ⟨h2,kd,v,x,h3,h4,h5,h6,by omega⟩)))
 rcases(show i=0∨i=1 by omega)with rfl|rfl
 ·exact .inl ⟨rfl,h.n0⟩
 exact .inr (.inl ⟨rfl,h.n1⟩)
theorem Gv.wk {kk:Int}{L:List Nd}(h:Gv kk L):Wk L:=fun i hi k hk=>by
 rcases h.cases hi with⟨_,e⟩|⟨_,e⟩|⟨_,f,_,_,_,e,_⟩|⟨_,kd,kids,_,e,_,_,h7⟩|⟨_,kd,v,x,_,e,_,h6,h7⟩
 ·rw[e]at hk;cases hk
 ·rw[e]at hk;cases hk
 ·rw[e]at hk;cases hk
 ·rw[e]at hk;exact h7 k hk
 rw[e]at hk
 have:k=x:=by simpa using hk
 omega
theorem rise_len : ∀(l:List Int) (a b:Int),a≤b→l.Pairwise (· < ·)→(∀x∈l,a≤x∧x<b)→(l.length:Int)≤b-a
 | [],a,b,h,_,_=>by simp;omega
 |x::t,a,b,_,h1,h2=>by
  have hx:=h2 x List.mem_cons_self
  have h3:=List.pairwise_cons.1 h1
  have ih:=rise_len t (x+1) b o_m h3.2 fun y hy=>⟨by have:=h3.1 y hy;omega,(h2 y (List.mem_cons_of_mem _ hy)).2⟩
  rw[List.length_cons]
  omega
theorem Gv.kids {kk:Int}{L:List Nd}(h:Gv kk L){i:Int}(hi:okI L i):((ndI L i).kids.length:Int)≤i∧(ndI L i).kids.Pairwise (· < ·):=by
 have h0:=hi.1
 rcases h.cases hi with⟨_,e⟩|⟨_,e⟩|⟨_,f,_,_,_,e,_⟩|⟨_,kd,kids,_,e,_,h6,h7⟩|⟨_,kd,v,x,_,e,_,h6,h7⟩
 ·rw[e];exact⟨by simp[cst];omega,List.Pairwise.nil⟩
 ·rw[e];exact⟨by simp[cst];omega,List.Pairwise.nil⟩
 ·rw[e];exact⟨by simp;omega,List.Pairwise.nil⟩
 ·rw[e]
  have:=rise_len kids 0 i h0 h6 h7
  exact⟨by dsimp only;omega,h6⟩
 rw[e];exact⟨by simp;omega,List.pairwise_singleton _ _⟩
theorem getE_app {L t:List Nd}{i:Nat}{n:Nd}(h:L[i]? =some n):(L++t)[i]? =some n:=by
 rw[List.getElem?_append_left (List.getElem?_eq_some_iff.1 h).1]
 exact h
theorem putE_cases (nn kk:Int)(s:St)(n:Nd):
  (∃i:Nat,s.L[i]? =some n∧putE nn kk s n=(s,(i:Int),0))∨
  ((∀i:Nat,s.L[i]? ≠some n)∧∃er,er≠0∧(putE nn kk s n)=(⟨s.L,s.c,er⟩,0,er)∧(s.er=0∨s.er=er))∨
  ((∀i:Nat,s.L[i]? ≠some n)∧s.er=0∧((nums n).any fun z=>decide (kk<(lim z:Int)))=false∧putE nn kk s n=(⟨s.L++ [n],s.c+1,0⟩,(s.L.length:Int),0)):=by
 by_cases h: ∃i:Nat,s.L[i]? =some n
 ·have h1:=spot_at h
  exact .inl ⟨_,h1.2,by unfold putE;rw[if_pos h1.1]⟩
 have h1:=spot_no h
 have hno: ∀i:Nat,s.L[i]? ≠some n:=fun i e=>h ⟨i,e⟩
 rcases mstep_cases nn kk s.c s.er (nums n)with⟨he,e⟩|⟨he,r,hr,e,_⟩|⟨he,e,h2,_⟩
 ·refine .inr (.inl ⟨hno,s.er,he,?_,.inr rfl⟩)
  unfold putE
  rw[if_neg h1,e,if_neg he]
 ·refine .inr (.inl ⟨hno,r,hr,?_,.inl he⟩)
  unfold putE
  rw[if_neg h1,e,if_neg hr]
 refine .inr (.inr ⟨hno,he,h2,?_⟩)
 unfold putE
 rw[if_neg h1,e,if_pos rfl]
structure Kp (kk:Int) (s:St) (r:St × Int × Int):Prop where
 le: ∃t,r.1.L=s.L++t
 gv:Gv kk r.1.L
 ok:r.2.2=0→okI r.1.L r.2.1
theorem kp_now {kk:Int}{s:St}{x e:Int}(h:Gv kk s.L)(hx:e=0→okI s.L x):Kp kk s (s,x,e):=⟨⟨[],by simp⟩,h,hx⟩
theorem kp_put {nn kk:Int}{s:St}{n:Nd}(h:Gv kk s.L)(hw:Wn s.L.length n):Kp kk s (putE nn kk s n):=by
 rcases putE_cases nn kk s n with⟨i,h1,e⟩|⟨_,er,h1,e,_⟩|⟨hno,h1,h2,e⟩
 ·rw[e]
  refine kp_now h fun _=> ?_
  have:=(List.getElem?_eq_some_iff.1 h1).1
  unfold okI
  omega
 ·rw[e]
  exact⟨⟨[],by simp⟩,h,fun h2=>absurd h2 h1⟩
 rw[e]
 refine⟨⟨[n],rfl⟩,⟨fun i j m hi hj=> ?_,getE_app h.c0,getE_app h.c1,fun i m hi hm=> ?_⟩,fun _=> ?_⟩
 ·have hc: ∀q:Nat,(s.L++ [n])[q]? =some m→(s.L[q]? =some m)∨(q=s.L.length∧m=n):=fun q hq=>by
   rcases Nat.lt_trichotomy q s.L.length with hl|hl|hl
   ·rw[List.getElem?_append_left hl]at hq
    exact .inl hq
   ·subst hl
    simp at hq
    exact .inr ⟨rfl,hq.symm⟩
   rw[List.getElem?_eq_none (by simp;omega)]at hq
   cases hq
  rcases hc i hi with hi|⟨hi,e1⟩
  ·rcases hc j hj with hj|⟨hj,e2⟩
   ·exact h.uq i j m hi hj
   exact absurd (e2▸hi) (hno i)
  rcases hc j hj with hj|⟨hj,e2⟩
  ·exact absurd (e1▸hj) (hno j)
  omega
 ·rcases Nat.lt_trichotomy i s.L.length with hl|hl|hl
  ·rw[List.getElem?_append_left hl]at hm
   exact h.wn i m hi hm
  ·subst hl
   have e:n=m:=by simpa using hm
   subst e
   refine⟨hw,fun z hz=> ?_⟩
   have h6:=List.any_eq_false.1 h2 z hz
   simpa using h6
  rw[List.getElem?_eq_none (by simp;omega)]at hm
  cases hm
 unfold okI
 simp
 omega
theorem kp_join {nn kk:Int}{s:St}{kd:Int}{l:List Int}(h:Gv kk s.L)(hkd:kd=5∨kd=6)(hl: ∀x∈l,okI s.L x):Kp kk s (actJ nn kk s kd l):=by
 have ha:l.any (lck s.L.length)=false:=by
  rw[List.any_eq_false]
  intro x hx
  rw[okI_lck.2 (hl x hx)]
  simp
 have hm:=mem_ris l
 have hr:=ris_rises l
 unfold actJ
 rw[if_neg o_m,ha,if_neg (by simp)]
 split
 ·refine kp_now h fun _=> ?_
  split
  ·exact h.ok1
  exact h.ok0
 ·rename_i x e
  rw[e]at hm
  exact kp_now h fun _=>hl x ((hm x).1 (by simp))
 rename_i x y t e
 rw[e]at hm hr
 exact kp_put h (.inr (.inl ⟨kd,x::y::t,hkd,rfl,by simp,hr,fun z hz=>hl z ((hm z).1 hz)⟩))
theorem kp_bind {nn kk:Int}{s:St}{kd v kid:Int}(h:Gv kk s.L)(hkd:kd=7∨kd=8)(hv:I64 v):Kp kk s (actB nn kk s kd v kid):=by
 unfold actB
 rw[if_neg o_m]
 split
 ·exact kp_now h fun e=>by cases e
 exact kp_put h (.inr (.inr ⟨kd,v,kid,hkd,rfl,hv,by omega,by omega⟩))
theorem ndI_app {L t:List Nd}{i:Int}(h:okI L i):ndI (L++t) i=ndI L i:=by
 have h2:i.toNat<L.length:=by unfold okI at h;omega
 unfold ndI
 rw[List.getElem?_append_left h2]
theorem okI_app {L t:List Nd}{i:Int}(h:okI L i):okI (L++t) i:=by
 unfold okI at*
 rw[List.length_append]
 omega
theorem Kp.okI {kk:Int}{s:St}{r:St × Int × Int}(h:Kp kk s r){i:Int}(hi:okI s.L i):okI r.1.L i:=by
 obtain⟨t,e⟩:=h.le
 rw[e]
 exact okI_app hi
theorem gv_of {kk:Int}{s:St}(hu:Uq s.L)(h0:s.L[0]? =some (cst 0))(h1:s.L[1]? =some (cst 1))(hg:Gs kk s)(hk:0≤kk)(hz:lim 0=0):Gv kk s.L:=by
 refine⟨hu,h0,h1,fun i n hi hn=> ?_⟩
 rcases hg i n hi hn with⟨f,h3,h4,h5,h6⟩|⟨kd,kids,h3,h4,h5,_,h6,h7⟩|⟨kd,v,x,h3,h4,h5,h6,h7⟩
 ·exact⟨.inl ⟨f,h3,h4,h5⟩,h6⟩
 ·refine⟨.inr (.inl ⟨kd,kids,h3,h4,h5,h6,h7⟩),fun z hz'=> ?_⟩
  rw[h4]at hz'
  have:z=0:=by simpa [nums] using hz'
  rw[this,hz]
  exact hk
 refine⟨.inr (.inr ⟨kd,v,x,h3,h4,by unfold I64;omega,h7⟩),fun z hz'=> ?_⟩
 rw[h4]at hz'
 have:z=0:=by simpa [nums] using hz'
 rw[this,hz]
 exact hk
theorem gv_st0 (kk:Int):Gv kk st0.L:=by
 refine⟨fun i j n hi hj=> ?_,rfl,rfl,fun i n hi hn=> ?_⟩
 ·have hi':=(List.getElem?_eq_some_iff.1 hi).1
  have hj':=(List.getElem?_eq_some_iff.1 hj).1
  simp[st0]at hi' hj'
  rcases(show i=0∨i=1 by omega)with rfl|rfl <;> rcases(show j=0∨j=1 by omega)with rfl|rfl
  ·rfl
  ·simp[st0]at hi hj
   rw[←hi]at hj
   simp[cst]at hj
  ·simp[st0]at hi hj
   rw[←hi]at hj
   simp[cst]at hj
  rfl
 rw[List.getElem?_eq_none (by simp[st0];omega)]at hn
 cases hn
end Nt
namespace Nt

def atmN (n:Nd):Atm:=⟨n.kind,n.d,n.ps,n.k⟩
def Tv (L:List Nd)(f:Int→Int):Nat→Int→Prop
 |0,_=>False
 |m+1,i=>((ndI L i).kind=5∧∀z∈(ndI L i).kids,Tv L f m z)∨((ndI L i).kind=6∧∃z∈(ndI L i).kids,Tv L f m z)∨((ndI L i).kind≠5∧(ndI L i).kind≠6∧Sat (atmN (ndI L i)) f)
theorem tv_fuel {L:List Nd}(hw:Wk L)(f:Int→Int): ∀(m:Nat) (i:Int) (q:Nat),okI L i→i<(m:Int)→i<(q:Int)→(Tv L f m i↔Tv L f q i)
 |0,i,q,ho,hm,hq=>by have:=ho.1;omega
 |m+1,i,0,ho,hm,hq=>by have:=ho.1;omega
 |m+1,i,q+1,ho,hm,hq=>by
  have ih: ∀z∈(ndI L i).kids,(Tv L f m z↔Tv L f q z):=fun z hz=>tv_fuel hw f m z q (hw.ok ho hz) (by have:=hw i ho z hz;omega) (by have:=hw i ho z hz;omega)
  simp only[Tv]
  constructor
  ·rintro(⟨h1,h2⟩|⟨h1,z,hz,h2⟩|h)
   ·exact .inl ⟨h1,fun z hz=>(ih z hz).1 (h2 z hz)⟩
   ·exact .inr (.inl ⟨h1,z,hz,(ih z hz).1 h2⟩)
   exact .inr (.inr h)
  rintro(⟨h1,h2⟩|⟨h1,z,hz,h2⟩|h)
  ·exact .inl ⟨h1,fun z hz=>(ih z hz).2 (h2 z hz)⟩
  ·exact .inr (.inl ⟨h1,z,hz,(ih z hz).2 h2⟩)
  exact .inr (.inr h)
def tv (L:List Nd)(f:Int→Int)(i:Int):Prop:=Tv L f (i.toNat+1) i
theorem tv_any {L:List Nd}(hw:Wk L)(f:Int→Int){i:Int}(ho:okI L i){m:Nat}(hm:i<(m:Int)):Tv L f m i↔tv L f i:=
 tv_fuel hw f m i _ ho hm (by have:=ho.1;omega)
theorem tv_and {L:List Nd}(hw:Wk L){f:Int→Int}{i:Int}(ho:okI L i)(hk:(ndI L i).kind=5):tv L f i↔ ∀z∈(ndI L i).kids,tv L f z:=by
 have e: ∀z∈(ndI L i).kids,(Tv L f i.toNat z↔tv L f z):=fun z hz=>tv_any hw f (hw.ok ho hz) (by have:=hw i ho z hz;omega)
 unfold tv
 simp only[Tv]
 rw[hk]
 constructor
 ·rintro(⟨_,h2⟩|⟨h1,_⟩|⟨h1,_⟩)
  ·exact fun z hz=>(e z hz).1 (h2 z hz)
  ·omega
  exact absurd rfl h1
 exact fun h=> .inl ⟨rfl,fun z hz=>(e z hz).2 (h z hz)⟩
theorem tv_or {L:List Nd}(hw:Wk L){f:Int→Int}{i:Int}(ho:okI L i)(hk:(ndI L i).kind=6):tv L f i↔ ∃z∈(ndI L i).kids,tv L f z:=by
 have e: ∀z∈(ndI L i).kids,(Tv L f i.toNat z↔tv L f z):=fun z hz=>tv_any hw f (hw.ok ho hz) (by have:=hw i ho z hz;omega)
 unfold tv
 simp only[Tv]
 rw[hk]
 constructor
 ·rintro(⟨h1,_⟩|⟨_,z,hz,h2⟩|⟨_,h1,_⟩)
  ·omega
  ·exact⟨z,hz,(e z hz).1 h2⟩
  exact absurd rfl h1
 exact fun⟨z,hz,h⟩=> .inr (.inl ⟨rfl,z,hz,(e z hz).2 h⟩)
theorem tv_atm {L:List Nd}{f:Int→Int}{i:Int}(h5:(ndI L i).kind≠5)(h6:(ndI L i).kind≠6):tv L f i↔Sat (atmN (ndI L i)) f:=by
 unfold tv
 simp only[Tv]
 exact⟨fun h=>h.elim (fun h=>absurd h.1 h5) fun h=>h.elim (fun h=>absurd h.1 h6) fun h=>h.2.2,fun h=> .inr (.inr ⟨h5,h6,h⟩)⟩
theorem tv_app {L t:List Nd}(hw:Wk L)(hw2:Wk (L++t)){f:Int→Int}: ∀(m:Nat) {i:Int},i<(m:Int)→okI L i→(tv (L++t) f i↔tv L f i)
 |0,i,hm,ho=>by have:=ho.1;omega
 |m+1,i,hm,ho=>by
  have e:=ndI_app (t:=t) ho
  have ho2:=okI_app (t:=t) ho
  have ih: ∀z∈(ndI L i).kids,(tv (L++t) f z↔tv L f z):=fun z hz=>tv_app hw hw2 m (by have:=hw i ho z hz;omega) (hw.ok ho hz)
  by_cases h5:(ndI L i).kind=5
  ·rw[tv_and hw ho h5,tv_and hw2 ho2 (by rw[e];exact h5),e]
   exact⟨fun h z hz=>(ih z hz).1 (h z hz),fun h z hz=>(ih z hz).2 (h z hz)⟩
  by_cases h6:(ndI L i).kind=6
  ·rw[tv_or hw ho h6,tv_or hw2 ho2 (by rw[e];exact h6),e]
   exact⟨fun⟨z,hz,h⟩=>⟨z,hz,(ih z hz).1 h⟩,fun⟨z,hz,h⟩=>⟨z,hz,(ih z hz).2 h⟩⟩
  rw[tv_atm h5 h6,tv_atm (by rw[e];exact h5) (by rw[e];exact h6),e]
theorem tv_le {L L':List Nd}(hw:Wk L)(hw2:Wk L')(hl: ∃t,L'=L++t){f:Int→Int}{i:Int}(ho:okI L i):tv L' f i↔tv L f i:=by
 obtain⟨t,rfl⟩:=hl
 exact tv_app hw hw2 (i.toNat+1) (by have:=ho.1;omega) ho

structure Tl (L:List Nd) (kd dual idle rul sg:Int) (T:Int→Prop):Prop where
 all: ∀i,okI L i→(ndI L i).kind=kd→(T i↔ ∀z∈(ndI L i).kids,T z)
 one: ∀i,okI L i→(ndI L i).kind=dual→(T i↔ ∃z∈(ndI L i).kids,T z)
 idle:T idle
 rul: ¬T rul
 less: ∀x y,okI L x→okI L y→(ndI L x).kind=2→(ndI L y).kind=2→(ndI L y).ps=(ndI L x).ps→sg*(ndI L x).k≤sg*(ndI L y).k→T x→T y
 clash: ∀x y,okI L x→okI L y→(ndI L x).kind=2→(ndI L y).kind=2→(ndI L y).ps=negP (ndI L x).ps→sg*((ndI L x).k+(ndI L y).k)≤sg→T x→T y→False
 opp: ∀x y,okI L x→okI L y→(ndI L x).kind=3→(ndI L y).kind=4→(ndI L x).d=(ndI L y).d→(ndI L x).ps=(ndI L y).ps→(ndI L x).k=(ndI L y).k→T x→T y→False
theorem negP_scl (ps:List (Int × Int)):negP ps=scl (-1) ps:=by
 unfold negP scl
 congr 1
 funext p
 rw[Int.neg_one_mul]
theorem sat2 {n:Nd}{f:Int→Int}(h:n.kind=2):Sat (atmN n) f↔0<n.k+ev n.ps f:=by
 unfold Sat atmN
 dsimp only
 rw[h]
 simp
theorem sat3 {n:Nd}{f:Int→Int}(h:n.kind=3):Sat (atmN n) f↔n.d∣n.k+ev n.ps f:=by
 unfold Sat atmN
 dsimp only
 rw[h]
 simp
theorem sat4 {n:Nd}{f:Int→Int}(h:n.kind=4):Sat (atmN n) f↔ ¬n.d∣n.k+ev n.ps f:=by
 unfold Sat atmN
 dsimp only
 rw[h]
 simp
theorem tv2 {L:List Nd}{f:Int→Int}{x:Int}(h:(ndI L x).kind=2):tv L f x↔0<(ndI L x).k+ev (ndI L x).ps f:=(tv_atm o_m o_m).trans (sat2 h)
theorem tv3 {L:List Nd}{f:Int→Int}{x:Int}(h:(ndI L x).kind=3):tv L f x↔(ndI L x).d∣(ndI L x).k+ev (ndI L x).ps f:=(tv_atm o_m o_m).trans (sat3 h)
theorem tv4 {L:List Nd}{f:Int→Int}{x:Int}(h:(ndI L x).kind=4):tv L f x↔ ¬(ndI L x).d∣(ndI L x).k+ev (ndI L x).ps f:=(tv_atm o_m o_m).trans (sat4 h)
theorem tv_0 {kk:Int}{L:List Nd}(h:Gv kk L)(f:Int→Int): ¬tv L f 0:=by
 rw[tv_atm (by rw[h.n0];simp[cst]) (by rw[h.n0];simp[cst]),h.n0]
 simp[Sat,atmN,cst]
theorem tv_1 {kk:Int}{L:List Nd}(h:Gv kk L)(f:Int→Int):tv L f 1:=by
 rw[tv_atm (by rw[h.n1];simp[cst]) (by rw[h.n1];simp[cst]),h.n1]
 simp[Sat,atmN,cst]
theorem tl_and {kk:Int}{L:List Nd}(h:Gv kk L)(f:Int→Int):Tl L 5 6 1 0 1 (tv L f) where
 all i ho hk:=tv_and h.wk ho hk
 one i ho hk:=tv_or h.wk ho hk
 idle:=tv_1 h f
 rul:=tv_0 h f
 less x y _ _ h1 h2 e h3:=by
  rw[tv2 h1,tv2 h2,e]
  omega
 clash x y _ _ h1 h2 e h3:=by
  rw[tv2 h1,tv2 h2,e,negP_scl,ev_scl]
  omega
 opp x y _ _ h1 h2 e1 e2 e3:=by
  rw[tv3 h1,tv4 h2,e1,e2,e3]
  exact fun a b=>b a
theorem tl_or {kk:Int}{L:List Nd}(h:Gv kk L)(f:Int→Int):Tl L 6 5 0 1 (-1) (fun i=> ¬tv L f i) where
 all i ho hk:=by
  rw[tv_or h.wk ho hk]
  exact⟨fun h z hz k=>h ⟨z,hz,k⟩,fun h ⟨z,hz,k⟩=>h z hz k⟩
 one i ho hk:=by
  rw[tv_and h.wk ho hk]
  exact⟨fun h=>Classical.byContradiction fun k=>h fun z hz=>Classical.byContradiction fun e=>k ⟨z,hz,e⟩,fun⟨z,hz,k⟩ h=>k (h z hz)⟩
 idle:=tv_0 h f
 rul:=fun k=>k (tv_1 h f)
 less x y _ _ h1 h2 e h3:=by
  rw[tv2 h1,tv2 h2,e]
  omega
 clash x y _ _ h1 h2 e h3:=by
  rw[tv2 h1,tv2 h2,e,negP_scl,ev_scl]
  omega
 opp x y _ _ h1 h2 e1 e2 e3:=by
  rw[tv3 h1,tv4 h2,e1,e2,e3]
  exact fun a b=>b a
theorem Tl.reach {L:List Nd}{kd dual idle rul sg:Int}{T:Int→Prop}(h:Tl L kd dual idle rul sg T){ids:List Int}(hi: ∀x∈ids,T x){x:Int}(hx:Rk L kd ids x):T x:=
 hx T hi fun y z hy ho hk hz=>(h.all y ho hk).1 hy z hz
theorem Tl.back {L:List Nd}(hw:Wk L){kd dual idle rul sg:Int}{T:Int→Prop}(h:Tl L kd dual idle rul sg T){ids:List Int}(ho: ∀x∈ids,okI L x)(hm: ∀x,Mem L kd idle ids x→T x): ∀x∈ids,T x:=by
 have key: ∀(m:Nat) (x:Int),x<(m:Int)→okI L x→Rk L kd ids x→T x:=by
  intro m
  induction m with
  |zero=>intro x hx h0;have:=h0.1;omega
  |succ m ih=>
   intro x hx h0 hr
   by_cases hk:(ndI L x).kind=kd
   ·rw[h.all x h0 hk]
    exact fun z hz=>ih z (by have:=hw x h0 z hz;omega) (hw.ok h0 hz) (rk_kid hr h0 hk hz)
   by_cases hi:x=idle
   ·rw[hi];exact h.idle
   exact hm x ⟨hr,h0,hk,hi⟩
 exact fun x hx=>key (x.toNat+1) x (by have:=(ho x hx).1;omega) (ho x hx) (rk_id hx)
theorem stay_some {L:List Nd}(sg:Int)(M:Int→Prop)(N:Nat)(hM: ∀x,M x→0≤x∧x<(N:Int)): ∀x,M x→(ndI L x).kind=2→∃y,Stay L sg M y∧(ndI L y).ps=(ndI L x).ps∧sg*(ndI L y).k≤sg*(ndI L x).k:=by
 intro x hx hk
 have key: ∀m:Nat,(∃y,M y∧(ndI L y).kind=2∧(ndI L y).ps=(ndI L x).ps∧sg*(ndI L y).k≤sg*(ndI L x).k∧∀z,M z→(ndI L z).kind=2→(ndI L z).ps=(ndI L x).ps→z<(m:Int)→¬sg*(ndI L z).k<sg*(ndI L y).k):=by
  intro m
  induction m with
  |zero=>exact⟨x,hx,hk,rfl,Int.le_refl _,fun z hz _ _ h=>by have:=hM z hz;omega⟩
  |succ m ih=>
   obtain⟨y,h1,h2,h3,h4,h5⟩:=ih
   by_cases hz:M (m:Int)∧(ndI L (m:Int)).kind=2∧(ndI L (m:Int)).ps=(ndI L x).ps∧sg*(ndI L (m:Int)).k<sg*(ndI L y).k
   ·refine⟨m,hz.1,hz.2.1,hz.2.2.1,by omega,fun z k1 k2 k3 k4=> ?_⟩
    by_cases e:z=(m:Int)
    ·rw[e];omega
    have:=h5 z k1 k2 k3 o_m
    omega
   refine⟨y,h1,h2,h3,h4,fun z k1 k2 k3 k4=> ?_⟩
   by_cases e:z=(m:Int)
   ·subst e
    exact fun h=>hz ⟨k1,k2,k3,h⟩
   exact h5 z k1 k2 k3 o_m
 obtain⟨y,h1,h2,h3,h4,h5⟩:=key N
 exact⟨y,⟨h1,h2,fun z k1 k2 k3=>h5 z k1 k2 (k3.trans h3) (hM z k1).2⟩,h3,h4⟩
theorem Tl.need {L:List Nd}{kd dual idle rul sg:Int}{T:Int→Prop}(h:Tl L kd dual idle rul sg T){ids:List Int}(hw:Wk L)(hn: ∀x,Need L sg dual (Mem L kd idle ids) x→T x): ∀x,Mem L kd idle ids x→T x:=by
 have hk: ∀(m:Nat) (x:Int),x<(m:Int)→Keep L sg (Mem L kd idle ids) x→T x:=by
  intro m
  induction m with
  |zero=>intro x hx hk;have:=hk.1.2.1.1;omega
  |succ m ih=>
   intro x hx hk
   by_cases e:(ndI L x).kind=dual∧∃z∈(ndI L x).kids,Keep L sg (Mem L kd idle ids) z
   ·obtain⟨e1,z,hz,hkz⟩:=e
    have:=hw x hk.1.2.1 z hz
    exact(h.one x hk.1.2.1 e1).2 ⟨z,hz,ih z o_m hkz⟩
   exact hn x ⟨hk,e⟩
 intro x hx
 by_cases h2:(ndI L x).kind=2
 ·obtain⟨y,h3,h4,h5⟩:=stay_some (L:=L) sg (Mem L kd idle ids) L.length (fun z hz=>hz.2.1) x hx h2
  exact h.less y x h3.1.2.1 hx.2.1 h3.2.1 h2 h4.symm h5 (hk (y.toNat+1) y (by have:=h3.1.2.1.1;omega) ⟨h3.1,fun _=>h3⟩)
 exact hk (x.toNat+1) x (by have:=hx.2.1.1;omega) ⟨hx,fun e=>absurd e h2⟩
theorem actJ_T {nn kk:Int}{s:St}{kd idle:Int}{l:List Int}{T':Int→Prop}(hkd:(kd=5∧idle=1)∨(kd=6∧idle=0))(hg:Gv kk s.L)(hl: ∀x∈l,okI s.L x)(he:(actJ nn kk s kd l).2.2=0)
  (h1: ∀i,okI (actJ nn kk s kd l).1.L i→(ndI (actJ nn kk s kd l).1.L i).kind=kd→(T' i↔ ∀z∈(ndI (actJ nn kk s kd l).1.L i).kids,T' z))(h2:T' idle):T' (actJ nn kk s kd l).2.1↔ ∀x∈l,T' x:=by
 have ha:l.any (lck s.L.length)=false:=by
  rw[List.any_eq_false]
  intro x hx
  rw[okI_lck.2 (hl x hx)]
  simp
 have hm:=mem_ris l
 have hkp:=kp_join (nn:=nn) (kd:=kd) (l:=l) hg o_m hl
 unfold actJ at he h1 hkp ⊢
 rw[if_neg o_m,ha,if_neg (by simp)]at he h1 hkp ⊢
 split at he
 ·rename_i e
  rw[e]at hm h1 hkp
  simp only
  have hl0: ∀x∈l,T' x:=fun x hx=>absurd ((hm x).2 hx) (by simp)
  rcases hkd with⟨e1,e2⟩|⟨e1,e2⟩
  ·rw[if_pos e1,←e2]
   exact⟨fun _=>hl0,fun _=>h2⟩
  rw[if_neg o_m,←e2]
  exact⟨fun _=>hl0,fun _=>h2⟩
 ·rename_i x e
  rw[e]at hm
  simp only
  exact⟨fun h y hy=>by have:=(hm y).2 hy;rw[List.mem_singleton]at this;rw[this];exact h,fun h=>h x ((hm x).1 (by simp))⟩
 rename_i x y t e
 rw[e]at hm h1 hkp
 simp only at h1 hkp ⊢
 have hok:=hkp.ok he
 have hnd:ndI (putE nn kk s ⟨kd,0,[],0,0,x::y::t⟩).1.L (putE nn kk s ⟨kd,0,[],0,0,x::y::t⟩).2.1=⟨kd,0,[],0,0,x::y::t⟩:=by
  rcases putE_cases nn kk s ⟨kd,0,[],0,0,x::y::t⟩with⟨i,g1,e⟩|⟨_,er,g1,e,_⟩|⟨_,_,_,e⟩
  ·rw[e]
   simp only
   show(s.L[((i:Int)).toNat]?).getD _=_
   rw[Int.toNat_natCast,g1]
   rfl
  ·rw[e]at he
   exact absurd he g1
  rw[e]
  simp only
  show((s.L++ [_])[((s.L.length:Int)).toNat]?).getD _=_
  rw[Int.toNat_natCast]
  simp
 rw[h1 _ hok (by rw[hnd]),hnd]
 exact⟨fun h z hz=>h z ((hm z).2 hz),fun h z hz=>h z ((hm z).1 hz)⟩
theorem SimpR.says {nn kk:Int}{s:St}{kd dual idle rul sg:Int}{ids:List Int}{r:St × Int × Int}(h:SimpR nn kk s kd dual idle rul sg ids r)(hkd:(kd=5∧dual=6∧idle=1)∨(kd=6∧dual=5∧idle=0))(hg:Gv kk s.L)(he:r.2.2=0)
  {T T':Int→Prop}(hT:Tl s.L kd dual idle rul sg T)(hT':Tl r.1.L kd dual idle rul sg T')(hs: ∀i,okI s.L i→(T' i↔T i)):T' r.2.1↔ ∀x∈ids,T x:=by
 rcases h with⟨_,rfl⟩|⟨ho,⟨h1,rfl⟩|⟨h1,l,hl,rfl⟩⟩
 ·cases he
 ·refine⟨fun h=>absurd h hT'.rul,fun hx=> ?_⟩
  exfalso
  rcases h1 with h1|⟨x,y,h2,h3,h4,h5⟩|⟨x,y,h2,h3,h4,h5,h6,h7,h8⟩
  ·exact hT.rul (hT.reach hx h1.1)
  ·exact hT.clash x y h2.1.2.1 h3.1.2.1 h2.2.1 h3.2.1 h4 h5 (hT.reach hx h2.1.1) (hT.reach hx h3.1.1)
  exact hT.opp x y h2.2.1 h3.2.1 h4 h5 h6 h7 h8 (hT.reach hx h2.1) (hT.reach hx h3.1)
 have hlo: ∀x∈l,okI s.L x:=fun x hx=>((hl x).1 hx).1.1.2.1
 rw[actJ_T (idle:=idle) o_m hg hlo he hT'.all hT'.idle]
 constructor
 ·intro h
  exact hT.back hg.wk ho (hT.need hg.wk fun x hx=>(hs x hx.1.1.2.1).1 (h x ((hl x).2 hx)))
 intro h x hx
 exact(hs x (hlo x hx)).2 (hT.reach h ((hl x).1 hx).1.1.1)
theorem SimpR.kp {nn kk:Int}{s:St}{kd dual idle rul sg:Int}{ids:List Int}{r:St × Int × Int}(h:SimpR nn kk s kd dual idle rul sg ids r)(hkd:kd=5∨kd=6)(hr:rul=0∨rul=1)(hg:Gv kk s.L):Kp kk s r:=by
 rcases h with⟨_,rfl⟩|⟨ho,⟨h1,rfl⟩|⟨h1,l,hl,rfl⟩⟩
 ·exact kp_now hg fun e=>by cases e
 ·exact kp_now hg fun _=>by rcases hr with rfl|rfl;exact hg.ok0;exact hg.ok1
 exact kp_join hg hkd fun x hx=>((hl x).1 hx).1.1.2.1
theorem and_tv {nn kk:Int}{s:St}{ids:List Int}{r:St × Int × Int}(h:SimpR nn kk s 5 6 1 0 1 ids r)(hg:Gv kk s.L)(he:r.2.2=0)(f:Int→Int):tv r.1.L f r.2.1↔ ∀x∈ids,tv s.L f x:=by
 have hk:=h.kp (.inl rfl) (.inl rfl) hg
 exact h.says (.inl ⟨rfl,rfl,rfl⟩) hg he (tl_and hg f) (tl_and hk.gv f) fun i hi=>tv_le hg.wk hk.gv.wk hk.le hi
theorem or_tv {nn kk:Int}{s:St}{ids:List Int}{r:St × Int × Int}(h:SimpR nn kk s 6 5 0 1 (-1) ids r)(hg:Gv kk s.L)(he:r.2.2=0)(f:Int→Int):tv r.1.L f r.2.1↔ ∃x∈ids,tv s.L f x:=by
 have hk:=h.kp (.inr rfl) (.inr rfl) hg
 have h1:=h.says (.inr ⟨rfl,rfl,rfl⟩) hg he (tl_or hg f) (tl_or hk.gv f) fun i hi=>not_congr (tv_le hg.wk hk.gv.wk hk.le hi)
 constructor
 ·intro h2
  refine Classical.byContradiction fun h3=>h1.2 (fun x hx h4=>h3 ⟨x,hx,h4⟩) h2
 rintro⟨x,hx,h2⟩
 exact Classical.byContradiction fun h3=>h1.1 h3 x hx h2
end Nt
end Go.Proofs.YtllfelooahplhaaGreatDoor

namespace Go.Proofs.YtllfelooahplhaaGreatDoor
open Go.RowKit Go.Sort Go.Shelf
open Tm At
namespace Nt

def SlB (w:World)(b:Nat)(v:Value):Prop:=w.heap[b]? =some (.cells #[v] 23 (0,0))
theorem SlB.lt {w:World}{b:Nat}{v:Value}(h:SlB w b v):b<w.heap.size:=lt_of_block h
theorem SlB.c0 {w:World}{b:Nat}{v:Value}(h:SlB w b v):w.cell? ⟨b,0,none⟩=some v:=cell_of_row w b 0 _ _ (0,0) h
theorem SlB.below {w w':World}{b:Nat}{v:Value}(h:SlB w b v)(k:Below w.heap.size w w'):SlB w' b v:=(k.block b h.lt).trans h

theorem isThere_n {w:World}{ba:Nat}{a:Option Addr}{c:Nat}{l:List Int}{id:Int}(hb:SlB w ba (.slice a l.length c))(hI:IL w a l.length l)(hs:l.Pairwise (·≤·))(hm:l.length≤4194304):
  Calls Tryz.prog 161 #[.int .i64 id,.pointer (some ⟨ba,0,none⟩)] w fun e w'=>e= .returned (.bool (decide (id∈l)))∧Below w.heap.size w w':=by
 have u0:=hb.c0
 have hbs:Hid (∃ix:Int,Calls Tryz.prog 73 #[.slice a l.length c,.int .i64 id] w fun e w'=>e= .returned (.tuple #[.int .i64 ix,.bool (decide (id∈l))])∧Below w.heap.size w w'):=hide (by
  rcases hI.2 with h0|⟨b,off,rfl,hbl,hc⟩
  ·have hl:l= []:=List.eq_nil_of_length_eq_zero h0
   subst hl
   refine⟨0,(Tryz.slices_BinarySearch_int_empty a c id w).mono ?_⟩
   rintro e w' ⟨rfl,rfl⟩
   exact⟨rfl,Below.refl _ _⟩
  refine⟨((l.countP (· <id):Nat):Int),(Tryz.slices_BinarySearch_int b off l.length c l id w (Nat.le_refl _) o_m (fun j hj=> ?_) (by rw[List.take_length];exact hs)).mono ?_⟩
  ·rw[(hc j hj).1,List.getD_eq_getElem?_getD,List.getElem?_eq_getElem hj]
   rfl
  rintro e w' ⟨rfl,q,rfl⟩
  rw[List.take_length,show l.contains id=decide (id∈l)by simp]
  exact⟨rfl,below_drewN _ _ _⟩)
 obtain⟨ix,hcl⟩:=hbs.out
 replace hcl:=hide hcl
 clear hbs hI hb hs
 go_enter Tryz.func161,Tryz.ntmps161
 go_wp2_with fail
 refine hcl.out.mono ?_
 rintro e w1 ⟨rfl,k1⟩
 replace k1:=hide k1
 clear hcl u0
 go_wp2
 go_ret
 exact⟨rfl,k1.out⟩

theorem indexF_n {w:World}{ka:Option Addr}{kc K:Nat}{cb:Array Value}{l:List Int}{q:Int→Bool}(hI:IL w ka l.length l)(hm:l.length≤4194304)(eg: ∀args w,(callFunc K args).run Tryz.prog w= .ok (.enter K args) w)
  (hq: ∀w' z,z∈l→Below w.heap.size w w'→Calls Tryz.prog K (#[.int .i64 z]++cb) w' fun e w''=>e= .returned (.bool (q z))∧Below w'.heap.size w' w''):
  Calls Tryz.prog 103 #[.slice ka l.length kc,.func (.func K) #[] cb] w fun x w'=> ∃i:Int,x= .returned (.int .i64 i)∧(decide (0≤i)=l.any q)∧-1≤i∧i<l.length∧Below w.heap.size w w':=by
 go_enter Tryz.func103,Tryz.ntmps103
 go_wp2_with fail
 go_loopw [8] (fun i wr=> ∃t:Nat,t≤l.length∧i= .int .i64 t∧Hid ((l.take t).any q=false)∧Hid (Below w.heap.size w wr)) (fun i _=>l.length-(intOf i).toNat)
 case atStart=>exact⟨0,Nat.zero_le _,rfl,(show _=_ by simp),hide (Below.refl _ _)⟩
 case round=>
  obtain⟨t,ht,rfl,hno,kr⟩:=hrel
  by_cases htm:t<l.length
  ·rcases(hI.below kr.out).2 with h0|⟨bp,op,rfl,hbp,hLL⟩
   ·omega
   obtain⟨e0,hx⟩:=hLL t htm
   have hstep:Hid ((l.take (t+1)).any q=q l[t]):=(show _=_ by rw[List.take_succ_eq_append_getElem (l:=l) (i:=t) o_m,List.any_append,hno.out];simp)
   have hex:Hid (q l[t]=true→l.any q=true):=(fun hh=>List.any_eq_true.2 ⟨l[t],List.getElem_mem _,hh⟩)
   have hcl:=hide (hq wr l[t] (List.getElem_mem _) kr.out)
   generalize l[t]=lt at*
   clear hI hLL hq
   go_wp2_with fail
   refine hcl.out.mono ?_
   rintro x w2 ⟨rfl,k2⟩
   replace k2:=hide (grow_step k2 kr.out)
   clear hcl
   cases hil:q lt with
   |true=>
    have hany:=hide (hex.out hil)
    clear hil
    go_wp2
    go_ret
    exact⟨t,rfl,by rw[hany.out];simp,by omega,by omega,k2.out⟩
   |false=>
    have hst:=hide (hstep.out.trans hil)
    clear hil
    go_wp2
    go_round
    case rel=>exact⟨t+1,by omega,by go_num,hst,k2⟩
    case measure=>simp[intOf];omega
  obtain rfl:t=l.length:=by omega
  have hall:Hid (l.any q=false):=by
   have h1:=hno.out
   rw[List.take_of_length_le (Nat.le_refl _)]at h1
   exact h1
  clear hno
  go_wp2
  go_ret
  exact⟨-1,rfl,by rw[hall.out];rfl,by omega,by omega,kr.out⟩
theorem containsF_n {w:World}{ka:Option Addr}{kc K:Nat}{cb:Array Value}{l:List Int}{q:Int→Bool}(hI:IL w ka l.length l)(hm:l.length≤4194304)(eg: ∀args w,(callFunc K args).run Tryz.prog w= .ok (.enter K args) w)
  (hq: ∀w' z,z∈l→Below w.heap.size w w'→Calls Tryz.prog K (#[.int .i64 z]++cb) w' fun e w''=>e= .returned (.bool (q z))∧Below w'.heap.size w' w''):
  Calls Tryz.prog 53 #[.slice ka l.length kc,.func (.func K) #[] cb] w fun x w'=>x= .returned (.bool (l.any q))∧Below w.heap.size w w':=by
 have hix:=hide (indexF_n (kc:=kc) hI hm eg hq)
 clear hI hq
 go_enter Tryz.func53,Tryz.ntmps53
 go_wp2_with fail
 refine hix.out.mono ?_
 rintro x w1 ⟨i,rfl,h1,h2,h3,k1⟩
 replace k1:=hide k1
 replace h1:=hide h1
 clear hix
 go_wp2
 go_ret
 exact⟨by rw[←h1.out];rfl,k1.out⟩
end Nt
end Go.Proofs.YtllfelooahplhaaGreatDoor
