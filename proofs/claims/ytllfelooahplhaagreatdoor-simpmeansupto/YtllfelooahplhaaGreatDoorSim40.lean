/-
 Several texts in one: ED,EE,EF,EG,EP,EQ,ER,H8,EH,EI.
-/
import Derived.Test.YtllfelooahplhaaGreatDoorSimT
import Derived.Test.YtllfelooahplhaaGreatDoorSim39
import Derived.Lib.OwnBridge
import Derived.Test.YtllfelooahplhaaGreatDoorSim06
import Derived.Test.YtllfelooahplhaaGreatDoorSim37
import Derived.Test.YtllfelooahplhaaGreatDoorSim22
set_option maxRecDepth 100000
set_option maxHeartbeats 3200000
namespace Go.Proofs.YtllfelooahplhaaGreatDoor
open Go.RowKit Go.Sort Go.Shelf
open Tm At
namespace Nt

def ris (l:List Int):List Int:=Lib.compact (l.mergeSort fun x y=>decide (x≤y))
theorem compact_len (l:List Int):(Lib.compact l).length≤l.length:=by
 unfold Lib.compact Lib.compactUpTo
 rw[List.length_map]
 exact Nat.le_trans (List.length_filter_le _ _) (by simp)
theorem compact_mem {l:List Int}{x:Int}(h:x∈Lib.compact l):x∈l:=by
 unfold Lib.compact Lib.compactUpTo at h
 obtain⟨j,hj,rfl⟩:=List.mem_map.1 h
 have hj:=List.mem_range.1 (List.mem_filter.1 hj).1
 rw[getElem!_pos _ _ (by simpa using hj)]
 simp
theorem ris_mem {l:List Int}{x:Int}(h:x∈ris l):x∈l:=(List.mem_mergeSort).1 (compact_mem h)
theorem ris_nil :ris []= []:=by simp[ris,Lib.compact,Lib.compactUpTo]
def RI (w w':World)(e:Ending)(l:List Int):Prop:=CI w w' e (ris l).length (ris l)

theorem rising_n {w:World}{ka:Option Addr}{kc:Nat}{l:List Int}(hI:IL w ka l.length l)(hkn:l.length≤4194304):
  Calls Tryz.prog 79 #[.slice ka l.length kc] w fun e w'=>RI w w' e l:=by
 go_enter Tryz.func79,Tryz.ntmps79
 go_wp2_with fail
 by_cases h0:l= []
 ·subst h0
  refine(cloneI_n (kn:=0) hI (by simp)).mono ?_
  rintro e w1 ⟨a,c,rfl,h1,h2,k1⟩
  go_wp2_with(first|(go_at_call 131;refine(Tryz.slices_Sort_int_none a c w1).mono ?_;rintro e w2 ⟨rfl,rfl⟩)|(go_at_call 132;refine(Tryz.slices_Compact_int_empty a c _).mono ?_;rintro e w3 ⟨rfl,rfl⟩))
  go_ret
  unfold RI
  rw[ris_nil]
  exact⟨a,c,rfl,h1,h2,k1⟩
 have hl0:0<l.length:=List.length_pos_iff.2 h0
 rcases hI.2 with h2|⟨b,off,rfl,hb,h2⟩
 ·omega
 have hx: ∀x∈l,I64 x:=fun x hx=>by
  obtain⟨i,hi,rfl⟩:=List.getElem_of_mem hx
  exact(h2 i hi).2
 refine(Tryz.slices_Clone_int b off l.length kc l w (Nat.le_refl _) o_m (fun j hj=> ?_)).mono ?_
 ·rw[(h2 j hj).1,List.getD_eq_getElem?_getD,List.getElem?_eq_getElem hj]
  rfl
 rintro e w1 ⟨v,rfl,hown,hv0,k1⟩
 rw[List.take_of_length_le (Nat.le_refl _)]at hown
 obtain⟨g,cap,rfl,hg1,hg2,hcap,hmax,-,hH⟩:=Lib.holds_of_ownsRow hown hv0
 go_wp2_with fail
 refine(Tryz.slices_Sort_int g 0 cap l w1 hH hg2 o_m).mono ?_
 rintro e w2 ⟨rfl,q,os,rfl⟩
 have hsl:(l.mergeSort fun x y=>decide (x≤y)).length=l.length:=List.length_mergeSort _
 have hrl:(ris l).length≤l.length:=hsl▸compact_len _
 have r2:=Lib.ownsRow_putRow (q:=q) hown hsl (Nat.le_refl _)
 rw[List.take_of_length_le (Nat.le_of_eq hsl)]at r2
 have r3:=Lib.ownsRow_grow r2 0 os
 have kb:=Lib.below_putRow (enc:=Value.int .i64) (q:=q) (d:=(l.mergeSort fun x y=>decide (x≤y)).toArray) k1 hg1
 have kb3:=kb.trans (Lib.below_grow w.heap.size _ kb.size 0 os)
 have e0:(putRow (Value.int .i64) (Sort.ahead w1 q) g 0 (l.mergeSort fun x y=>decide (x≤y)).toArray).drewN 0=putRow (Value.int .i64) (Sort.ahead w1 q) g 0 (l.mergeSort fun x y=>decide (x≤y)).toArray:=rfl
 rw[e0]at r3 kb3
 generalize grow (putRow (Value.int .i64) (Sort.ahead w1 q) g 0 (l.mergeSort fun x y=>decide (x≤y)).toArray) os=w3 at*
 obtain⟨g',cap',e9,-,-,-,-,-,hH3⟩:=Lib.holds_of_ownsRow r3 (by simp)
 cases e9
 replace r3:=hide r3
 replace kb3:=hide kb3
 clear kb r2 hown hH e0
 have hcomp:=Tryz.slices_Compact_int g 0 cap (l.mergeSort fun x y=>decide (x≤y)) w3 hH3 o_m o_m
 rw[hsl]at hcomp
 replace hcomp:=hide hcomp
 clear hH3
 go_wp2_with fail
 refine hcomp.out.mono ?_
 rintro e w4 ⟨rfl,q4,rfl⟩
 have r4:=Lib.ownsRow_putRow (q:=q4) (ys:=ris l++List.replicate (l.length-(ris l).length) 0) r3.out (by simp;omega) (k:=(ris l).length) hrl
 rw[List.take_left' rfl]at r4
 have k4:=Lib.below_putRow (enc:=Value.int .i64) (q:=q4) (d:=(ris l++List.replicate (l.length-(ris l).length) 0).toArray) kb3.out hg1
 obtain⟨a5,c5,e5,hI5,hn5⟩:=row_il r4 (fun x hx'=>hx x (ris_mem hx'))
 cases e5
 have hfin:Hid (CI w _ (.returned (.slice (some ⟨g,0,none⟩) (ris l).length cap)) (ris l).length (ris l)):=hide ⟨_,_,rfl,hI5,hn5,k4⟩
 clear r4 k4 hI5 hn5
 go_wp2
 go_ret
 exact hfin.out
end Nt
namespace Nt

def cst (k:Int):Nd:=⟨k,0,[],0,0,[]⟩
def NW (w w':World)(e:Ending)(pm:Nat):Prop:=
 ∃pa C nv bm X D,e= .returned (.pointer (some ⟨pa,0,none⟩))∧AS w' pa pm [cst 0,cst 1] C 2097152 nv bm X D∧(∀b,FF pa bm nv C b→w.heap.size≤b)∧Below w.heap.size w w'
theorem as_new {w:World}{pa pm bm:Nat}(h:w.heap[pa]? =some (.cells #[.pointer (some ⟨pm,0,none⟩),.slice none 0 0,.map (some bm)] 75 (0,0)))(hm:w.ownsMap Tryz.prog 9 (plainElem Tryz.prog 3) bm 0 (.map []:DataW Value)):AS w pa pm [] (fun _=>False) 2097152 (.slice none 0 0) bm [] (.map []):=
 ⟨h,rfl,⟨rfl,.inl ⟨rfl,rfl⟩⟩,fun i hi=>absurd hi (Nat.not_lt_zero _),hm,⟨fun i hi=>absurd hi (Nat.not_lt_zero _),fun t _ z=>by simp[DataW.atKey]⟩,fun _ h=>h.elim,id,id,fun _ _ h=>h⟩
theorem cst_take (t:Nat)(h:t<2): [cst 0,cst 1].take (t+1)= [cst 0,cst 1].take t++ [cst t]∧cst t∉ [cst 0,cst 1].take t:=by
 obtain rfl|rfl:t=0∨t=1:=by omega
 ·exact⟨rfl,by simp⟩
 refine⟨rfl,fun h=> ?_⟩
 have h1:cst ((1:Nat):Int)=cst 0:=by simpa using h
 have:=congrArg Nd.kind h1
 exact absurd this (by decide)

def NN (w w':World)(e:Ending):Prop:=
 ∃pm pa C nv bm X D,e= .returned (.pointer (some ⟨pa,0,none⟩))∧AS w' pa pm [cst 0,cst 1] C 2097152 nv bm X D∧MB w' pm 2000 8 0 0∧¬FF pa bm nv C pm∧(∀b,FF pa bm nv C b→w.heap.size≤b)∧w.heap.size≤pm∧Below w.heap.size w w'
theorem nw_nn {w w1 w':World}{e:Ending}{pm:Nat}(h:NW w1 w' e pm)(hM:MB w1 pm 2000 8 0 0)(k:Below w.heap.size w w1∧w.heap.size≤pm):NN w w' e:=by
 obtain⟨pa,C,nv,bm,X,D,h1,h2,h3,h4⟩:=h
 have hl:=hM.lt
 exact⟨pm,pa,C,nv,bm,X,D,h1,h2,hM.below h4,fun hf=>by have:=h3 pm hf;omega,fun b hb=>Nat.le_trans k.1.size (h3 b hb),k.2,grow_step h4 k.1⟩
theorem newN_n {w:World}(htab:Tab w):Calls Tryz.prog 10 #[.pointer none] w fun e w'=>NN w w' e:=by
 go_enter Tryz.func10,Tryz.ntmps10
 go_wp2_with fail
 refine(new_n (by decide) (by decide) (by decide) (by decide)).mono ?_
 rintro e w1 ⟨rfl,hM1,k1⟩
 have htab1:=htab.below k1
 have k0:Below w.heap.size w w1∧w.heap.size≤w.heap.size:=⟨k1,Nat.le_refl _⟩
 generalize hpm:w.heap.size=pm at hM1 ⊢
 replace k0:Below w.heap.size w w1∧w.heap.size≤pm:=⟨k0.1,Nat.le_of_eq hpm⟩
 clear hpm k1
 have hmk:=run_makeMap (P:=Tryz.prog) 72 w1
 go_wp2_with fail
 clear hmk
 have b0:Below w1.heap.size w1 (((w1.alloc (.map #[] 0)).alloc (.cells #[.pointer (some ⟨pm,0,none⟩),.slice none 0 0,.map (some w1.heap.size)] 75)).alloc (.cells #[.int .i64 0,.int .i64 1] 3)):=below_alloc' (below_alloc' (below_alloc _ _) _) _
 have hlb:(((w1.alloc (.map #[] 0)).alloc (.cells #[.pointer (some ⟨pm,0,none⟩),.slice none 0 0,.map (some w1.heap.size)] 75)).alloc (.cells #[.int .i64 0,.int .i64 1] 3)).heap[w1.heap.size+1+1]? =some (.cells #[.int .i64 0,.int .i64 1] 3 (0,0)):=by
  have:=heap_alloc_new ((w1.alloc (.map #[] 0)).alloc (.cells #[.pointer (some ⟨pm,0,none⟩),.slice none 0 0,.map (some w1.heap.size)] 75)) (.cells #[.int .i64 0,.int .i64 1] 3)
  simpa using this
 have hab:(((w1.alloc (.map #[] 0)).alloc (.cells #[.pointer (some ⟨pm,0,none⟩),.slice none 0 0,.map (some w1.heap.size)] 75)).alloc (.cells #[.int .i64 0,.int .i64 1] 3)).heap[w1.heap.size+1]? =some (.cells #[.pointer (some ⟨pm,0,none⟩),.slice none 0 0,.map (some w1.heap.size)] 75 (0,0)):=by
  have h1:=heap_alloc_new (w1.alloc (.map #[] 0)) (.cells #[.pointer (some ⟨pm,0,none⟩),.slice none 0 0,.map (some w1.heap.size)] 75)
  have h2:=(below_alloc ((w1.alloc (.map #[] 0)).alloc (.cells #[.pointer (some ⟨pm,0,none⟩),.slice none 0 0,.map (some w1.heap.size)] 75)) (.cells #[.int .i64 0,.int .i64 1] 3)).block (w1.heap.size+1) (by simp)
  rw[h2]
  simpa using h1
 have hmp:(((w1.alloc (.map #[] 0)).alloc (.cells #[.pointer (some ⟨pm,0,none⟩),.slice none 0 0,.map (some w1.heap.size)] 75)).alloc (.cells #[.int .i64 0,.int .i64 1] 3)).ownsMap Tryz.prog 9 (plainElem Tryz.prog 3) w1.heap.size 0 (.map []:DataW Value):=((World.ownsMap_made w1 Tryz.prog 9 (plainElem (H:=Value) Tryz.prog 3)).alloc _).alloc _
 have hA0:=as_new hab hmp
 clear hab hmp
 generalize ((w1.alloc (.map #[] 0)).alloc (.cells #[.pointer (some ⟨pm,0,none⟩),.slice none 0 0,.map (some w1.heap.size)] 75)).alloc (.cells #[.int .i64 0,.int .i64 1] 3)=wb at*
 generalize hs:w1.heap.size=s at*
 replace b0:Hid (Below w1.heap.size w1 wb):=hs▸b0
 go_loopw [19] (fun i wr=> ∃(t:Nat) (C:Nat→Prop) (nv:Value) (X:List NR) (D:DataW Value),t≤2∧i= .int .i64 t∧Hid (AS wr (s+1) pm ([cst 0,cst 1].take t) C 2097152 nv s X D)∧Hid (∀b,FF (s+1) s nv C b→s≤b∧b≠s+1+1)∧Hid (wr.heap[s+1+1]? =some (.cells #[.int .i64 0,.int .i64 1] 3 (0,0)))∧Hid (Below w1.heap.size w1 wr)) (fun i _=>2-(intOf i).toNat)
 case atStart=>exact⟨0,_,_,_,_,by omega,rfl,hA0,(fun b hb=>by rcases hb with rfl|rfl|hb|hb <;> first|omega|(cases hb)),hlb,b0⟩
 case round=>
  obtain⟨t,C,nv,X,D,ht,rfl,hA,hF,hl,kr⟩:=hrel
  by_cases htn:t<2
  ·have hc0:wr.cell? ⟨s+1+1,t,none⟩=some (.int .i64 (t:Int)):=by
    rw[cell_of_row _ (s+1+1) t _ _ (0,0) hl.out]
    obtain rfl|rfl:t=0∨t=1:=by omega
    ·rfl
    rfl
   obtain⟨htk,hnew⟩:=cst_take t htn
   have y:=NB.new wr (t:Int) false none 0 0 none 0 0 false none 0 0 0 none 0 0
   have ka:=below_alloc wr (.cells #[.int .i64 (t:Int),.bool false,.slice none 0 0,.slice none 0 0,.bool false,.slice none 0 0,.int .i64 0,.slice none 0 0] 77)
   have hA1:=hA.out.below ka
   have hT1:=htab1.below (grow_step ka kr.out)
   have hl1:=(ka.block (s+1+1) (Array.getElem?_eq_some_iff.1 hl.out).1).trans hl.out
   have kr1:=grow_step ka kr.out
   replace y:=hide y
   replace hA1:=hide hA1
   go_wp2_with fail
   clear hc0
   replace y:=y.out
   replace hA1:=hA1.out
   have hq:s+1+1<wr.heap.size:=(Array.getElem?_eq_some_iff.1 hl.out).1
   generalize wr.alloc (.cells #[.int .i64 (t:Int),.bool false,.slice none 0 0,.slice none 0 0,.bool false,.slice none 0 0,.int .i64 0,.slice none 0 0] 77)=wq at*
   generalize hqe:wr.heap.size=q at*
   refine wp_region_held_drew (S:=(fun w'=>w'.cell? ⟨q,0,none⟩=some (.int .i64 (t:Int))∧w'.cell? ⟨q,1,none⟩=some (.bool false)∧w'.cell? ⟨q,2,none⟩=some (.slice none 0 0)∧w'.cell? ⟨q,3,none⟩=some (.slice none 0 0)∧w'.cell? ⟨q,4,none⟩=some (.bool false)∧w'.cell? ⟨q,5,none⟩=some (.slice none 0 0)∧w'.cell? ⟨q,6,none⟩=some (.int .i64 0)∧w'.cell? ⟨q,7,none⟩=some (.slice none 0 0))) k_f (lay_S y) (fun hHeld=> ?_)
   show wpAnyH _ _ _ _ _ 5 _ _ _
   refine tkz 0 25 ?_
   (try simp only[pz])
   refine tkz 1 26 ?_
   (try simp only[pz])
   refine tkz 2 27 ?_
   (try simp only[pz])
   refine ryz 3 (some 28) (fun K hK=> ?_) AllReadyH.nil
   go_simp
   refine Calls.mono (text_n (w:=wq.drew) (kids:=[]) (ps:=[]) (d:=0) (k:=0) (B:=0) (zn_zero _) o_m (pn_nil _ _ _) (zn_zero _) o_m ⟨rfl,.inl rfl⟩ (by unfold I64;omega) (by unfold I64;decide) o_m o_m o_m hT1) ?_
   rintro e w2 ⟨rfl,k2⟩
   replace k2:=grow_step k2 (grow_drew (Below.refl _ _))
   have y:=y.below k2
   have hA1:=hA1.below k2
   (try go_wp2_with fail)
   refine hK.out _ _ ?_ ?_
   ·(try dsimp only);exact lay_S y
   clear hK K hHeld;intro hHeld
   (try simp only[pz])
   refine ryz 4 (some 29) (fun K hK=> ?_) AllReadyH.nil
   go_simp
   refine Calls.mono (lay_n (w:=w2) (kids:=[]) (ps:=[]) (d:=0) (k:=0) hA1 (zn_zero _) o_m (pn_nil _ _ _) (zn_zero _) o_m ⟨rfl,.inl rfl⟩ (by unfold I64;omega) (by unfold I64;decide) o_m o_m o_m (by simp;omega) hnew (txt_length (w:=w2) (ap:=none) (np:=0) (ka:=none) (kn:=0) (B:=0) (zn_zero _) o_m (pn_nil _ _ _) (zn_zero _) o_m ⟨rfl,.inl rfl⟩ (by unfold I64;omega) (by unfold I64;decide) o_m o_m o_m)) ?_
   rintro e w3 ⟨rfl,C',nv',X',D',hA3,hF3,hB3⟩
   have y3:NB w3 q (t:Int) false none 0 0 none 0 0 false none 0 0 0 none 0 0:=(hB3.block q y.lt (fun hf=>by have h1:=hA.out.fl hf;omega)).trans y
   (try go_wp2_with fail)
   refine hK.out _ _ ?_ ?_
   ·(try dsimp only);exact lay_S y3
   clear hK K hHeld;intro hHeld
   (try simp only[pz])
   refine wpAnyH_done k_f ?_ _
   have hA4:Hid (AS w3 (s+1) pm ([cst 0,cst 1].take (t+1)) C' 2097152 nv' s X' D'):=hide (by rw[htk];exact hA3)
   have h2q:q<w2.heap.size:=y.lt
   have hF4:Hid (∀b,FF (s+1) s nv' C' b→s≤b∧b≠s+1+1):=hide fun b hb=>(hF3 b hb).elim (hF.out b) fun h=>⟨by omega,by omega⟩
   have hl2:=(k2.block (s+1+1) (Array.getElem?_eq_some_iff.1 hl1).1).trans hl1
   have hl4:Hid (w3.heap[s+1+1]? =some (.cells #[.int .i64 0,.int .i64 1] 3 (0,0))):=hide ((hB3.block (s+1+1) o_m (fun hf=>(hF.out _ hf).2 rfl)).trans hl2)
   have k4:Hid (Below w1.heap.size w1 w3):=hide ((grow_step k2 kr1).trans (hB3.below (fun b hb=>by have:=(hF.out b hb).1;omega) o_m))
   clear hHeld hA3 hF3 hB3 y y3 hA1 k2 hl1 hl2 kr1 hA hF hl kr ka hT1 hA0 hlb
   go_wp2
   exact⟨⟨t+1,C',nv',X',D',by omega,by go_num,hA4,hF4,hl4,k4⟩,by simp[intOf];omega⟩
  obtain rfl:t=2:=by omega
  have hfin:Hid (NW w1 wr (.returned (.pointer (some ⟨s+1,0,none⟩))) pm):=hide ⟨s+1,C,nv,s,X,D,rfl,hA.out,fun b hb=>by have:=(hF.out b hb).1;omega,kr.out⟩
  clear hA hF hl kr hA0 hlb
  go_wp2
  go_ret
  exact nw_nn hfin.out hM1 k0
end Nt
namespace Nt

def lck (n:Nat)(id:Int):Bool:=decide (id<0∨(n:Int)≤id)

theorem index8_n {w:World}{pa pm:Nat}{L:List Nd}{C:Nat→Prop}{B:Nat}{nv:Value}{bm:Nat}{X:List NR}{D:DataW Value}{ka:Option Addr}{kc:Nat}{l:List Int}(hA:AS w pa pm L C B nv bm X D)(hI:IL w ka l.length l)(hm:l.length≤4194304):
  Calls Tryz.prog 103 #[.slice ka l.length kc,.func (.func 52) #[.pointer (some ⟨pa,0,none⟩)] #[]] w fun x w'=> ∃i:Int,x= .returned (.int .i64 i)∧(decide (0≤i)=l.any (lck L.length))∧-1≤i∧i<l.length∧w'=w:=by
 go_enter Tryz.func103,Tryz.ntmps103
 go_wp2_with fail
 go_loopw [8] (fun i wr=> ∃t:Nat,t≤l.length∧i= .int .i64 t∧Hid ((l.take t).any (lck L.length)=false)∧wr=w) (fun i _=>l.length-(intOf i).toNat)
 case atStart=>exact⟨0,Nat.zero_le _,rfl,(show _=_ by simp),rfl⟩
 case round=>
  obtain⟨t,ht,rfl,hno,rfl⟩:=hrel
  by_cases htm:t<l.length
  ·rcases hI.2 with h0|⟨bp,op,rfl,hbp,hLL⟩
   ·omega
   obtain⟨e0,hx⟩:=hLL t htm
   have hstep:Hid ((l.take (t+1)).any (lck L.length)=lck L.length l[t]):=(show _=_ by rw[List.take_succ_eq_append_getElem (l:=l) (i:=t) o_m,List.any_append,hno.out];simp)
   have hex:Hid (lck L.length l[t]=true→l.any (lck L.length)=true):=(fun hh=>List.any_eq_true.2 ⟨l[t],List.getElem_mem _,hh⟩)
   generalize l[t]=lt at*
   clear hI hLL
   go_wp2_with fail
   refine(lacks_n hA lt).mono ?_
   rintro x w2 ⟨rfl,rfl⟩
   cases hil:lck L.length lt with
   |true=>
    have hany:=hide (hex.out hil)
    unfold lck at hil
    rw[hil]
    clear hil
    go_wp2
    go_ret
    exact⟨t,rfl,by rw[hany.out];simp,by omega,by omega,rfl⟩
   |false=>
    have hst:=hide (hstep.out.trans hil)
    unfold lck at hil
    rw[hil]
    clear hil
    go_wp2
    go_round
    case rel=>exact⟨t+1,by omega,by go_num,hst,by trivial⟩
    case measure=>simp[intOf];omega
  obtain rfl:t=l.length:=by omega
  have hall:Hid (l.any (lck L.length)=false):=by
   have h1:=hno.out
   rw[List.take_of_length_le (Nat.le_refl _)]at h1
   exact h1
  clear hno
  go_wp2
  go_ret
  exact⟨-1,rfl,by rw[hall.out];rfl,by omega,by omega,rfl⟩

theorem contains8_n {w:World}{pa pm:Nat}{L:List Nd}{C:Nat→Prop}{B:Nat}{nv:Value}{bm:Nat}{X:List NR}{D:DataW Value}{ka:Option Addr}{kc:Nat}{l:List Int}(hA:AS w pa pm L C B nv bm X D)(hI:IL w ka l.length l)(hm:l.length≤4194304):
  Calls Tryz.prog 53 #[.slice ka l.length kc,.func (.func 52) #[.pointer (some ⟨pa,0,none⟩)] #[]] w fun x w'=>x= .returned (.bool (l.any (lck L.length)))∧w'=w:=by
 go_enter Tryz.func53,Tryz.ntmps53
 go_wp2_with fail
 refine(index8_n hA hI hm).mono ?_
 rintro x w2 ⟨i,rfl,hi,hi1,hi2,rfl⟩
 replace hi:=hide hi
 go_wp2
 go_ret
 exact⟨by rw[←hi.out];rfl,rfl⟩
end Nt
namespace Nt

def JO (w w':World)(e:Ending)(pa pm:Nat)(L:List Nd)(C:Nat→Prop)(B:Nat)(nv:Value)(bm:Nat)(nn kk c er kd:Int)(l:List Int):Prop:=
 if ¬(kd=5∨kd=6)then e= .returned (.tuple #[.int .i64 0,.int .i64 1])∧w'=w
 else if l.any (lck L.length)=true then e= .returned (.tuple #[.int .i64 0,.int .i64 80])∧w'=w
 else match ris l with
  | []=>e= .returned (.tuple #[.int .i64 (if kd=5 then 1 else 0),.int .i64 0])∧Below w.heap.size w w'
  | [x]=>e= .returned (.tuple #[.int .i64 x,.int .i64 0])∧Below w.heap.size w w'
  |x::y::t=>MD w w' e pa pm L C B nv bm nn kk c er ⟨kd,0,[],0,0,x::y::t⟩
theorem ris_len (l:List Int):(ris l).length≤l.length:=by
 have h:=compact_len (l.mergeSort fun x y=>decide (x≤y))
 rwa [List.length_mergeSort]at h

theorem join8_n {w:World}{pa pm:Nat}{L:List Nd}{C:Nat→Prop}{nv:Value}{bm:Nat}{X:List NR}{D:DataW Value}{nn kk c er:Int}{kd:Int}{ka:Option Addr}{kc:Nat}{l:List Int}
  (hA:AS w pa pm L C 2097152 nv bm X D)(hM:MB w pm nn kk c er)(hpm: ¬FF pa bm nv C pm)(hc:0≤c)(hcn:c≤nn)(hnn:nn≤2000)(he:0≤er)(he2:er<256)(hI:IL w ka l.length l)(hl:l.length≤1048576)(hL:L.length≤1048576)(htab:Tab w):
  Calls Tryz.prog 40 #[.pointer (some ⟨pa,0,none⟩),.int .i64 kd,.slice ka l.length kc] w fun e w'=>JO w w' e pa pm L C 2097152 nv bm nn kk c er kd l:=by
 by_cases hb:kd=5∨kd=6
 ·cases ha:l.any (lck L.length)with
  |true=>
   rcases hb with rfl|rfl
   all_goals
    go_enter Tryz.func40,Tryz.ntmps40
    go_wp2_with(go_at_call 53;refine(contains8_n hA hI o_m).mono ?_;rintro e w1 ⟨rfl,rfl⟩;rw[ha])
    refine bodyPost_ret (results_tmp2 rfl _ _ _) rfl ?_
    unfold JO
    rw[if_neg (by decide),if_pos ha]
    exact⟨rfl,rfl⟩
  |false=>
   have hrl:=ris_len l
   rcases hb with rfl|rfl
   ·go_enter Tryz.func40,Tryz.ntmps40
    go_wp2_with(go_at_call 53;refine(contains8_n hA hI o_m).mono ?_;rintro e w1 ⟨rfl,rfl⟩;rw[ha])
    refine(rising_n hI o_m).mono ?_
    rintro e w2 ⟨a2,c2,rfl,hI2,hn2,k2⟩
    cases hr:ris l with
    |nil=>
     simp only[List.length_nil]
     clear hI2 hn2 hA hM hI htab
     go_wp2
     refine bodyPost_ret (results_tmp2 rfl _ _ _) rfl ?_
     unfold JO
     rw[if_neg (by decide),if_neg (by rw[ha];decide),hr]
     exact⟨rfl,k2⟩
    |cons x t=>
     cases t with
     |nil=>
      rw[hr]at hI2
      rcases hI2.2 with h0|⟨b,off,rfl,hb,hI3⟩
      ·exact absurd h0 (by simp)
      obtain⟨e0,-⟩:=hI3 0 (by simp)
      simp only[Nat.add_zero,List.getElem_cons_zero]at e0
      simp only[List.length_cons,List.length_nil,Nat.zero_add]
      clear hI2 hI3 hn2 hA hM hI htab
      go_wp2
      refine bodyPost_ret (results_tmp2 rfl _ _ _) rfl ?_
      unfold JO
      rw[if_neg (by decide),if_neg (by rw[ha];decide),hr]
      exact⟨rfl,k2⟩
     |cons y t=>
      rw[hr]at hI2 hn2 hrl
      have hml:=hM.lt
      have hkp:InF (fun b=>b≠pm) a2 (x::y::t).length:=fun b off e h0=>by have:=hn2 b off e h0;omega
      have hl2:1<(x::y::t).length:=by simp
      generalize hgt:x::y::t=m at*
      generalize hgl:m.length=ml at*
      have hmade:=made_n (kc:=c2) (sd:=false) (ad:=none) (ld:=0) (cd:=0) (ap:=none) (np:=0) (cp:=0) (sk:=false) (ak:=none) (lk:=0) (ck:=0) (d:=0) (k:=0) (ps:=[]) (vr:=0) (hA.below k2) (hM.below k2) hpm hc hcn hnn he he2 (zn_zero _) o_m (pn_nil _ _ _) (zn_zero _) o_m hI2 hkp (show I64 (5:Int)by unfold I64;decide) (by unfold I64;decide) o_m o_m o_m hL (htab.below k2)
      replace hmade:=hide hmade
      clear hI2 hA hM hI htab hkp hn2
      go_wp2_with fail
      refine hmade.out.mono ?_
      rintro e w3 hMD
      have hMD2:=hide (md_back hMD k2)
      obtain⟨ra,rb,rfl⟩: ∃ra rb:Int,e= .returned (.tuple #[.int .i64 ra,.int .i64 rb]):=by
       rcases hMD with⟨i,_,h2,_⟩|⟨_,_,h3,_⟩|⟨_,_,h3,_⟩
       ·exact⟨_,_,h2⟩
       ·exact⟨_,_,h3⟩
       exact⟨_,_,h3⟩
      clear hMD hmade
      go_wp2
      refine bodyPost_ret (results_tmp2 rfl _ _ _) rfl ?_
      unfold JO
      rw[if_neg (by decide),if_neg (by rw[ha];decide),hr,←hgt]
      rw[←hgt]at hMD2
      exact hMD2.out
   go_enter Tryz.func40,Tryz.ntmps40
   go_wp2_with(go_at_call 53;refine(contains8_n hA hI o_m).mono ?_;rintro e w1 ⟨rfl,rfl⟩;rw[ha])
   refine(rising_n hI o_m).mono ?_
   rintro e w2 ⟨a2,c2,rfl,hI2,hn2,k2⟩
   cases hr:ris l with
   |nil=>
    simp only[List.length_nil]
    clear hI2 hn2 hA hM hI htab
    go_wp2
    refine bodyPost_ret (results_tmp2 rfl _ _ _) rfl ?_
    unfold JO
    rw[if_neg (by decide),if_neg (by rw[ha];decide),hr]
    exact⟨rfl,k2⟩
   |cons x t=>
    cases t with
    |nil=>
     rw[hr]at hI2
     rcases hI2.2 with h0|⟨b,off,rfl,hb,hI3⟩
     ·exact absurd h0 (by simp)
     obtain⟨e0,-⟩:=hI3 0 (by simp)
     simp only[Nat.add_zero,List.getElem_cons_zero]at e0
     simp only[List.length_cons,List.length_nil,Nat.zero_add]
     clear hI2 hI3 hn2 hA hM hI htab
     go_wp2
     refine bodyPost_ret (results_tmp2 rfl _ _ _) rfl ?_
     unfold JO
     rw[if_neg (by decide),if_neg (by rw[ha];decide),hr]
     exact⟨rfl,k2⟩
    |cons y t=>
     rw[hr]at hI2 hn2 hrl
     have hml:=hM.lt
     have hkp:InF (fun b=>b≠pm) a2 (x::y::t).length:=fun b off e h0=>by have:=hn2 b off e h0;omega
     have hl2:1<(x::y::t).length:=by simp
     generalize hgt:x::y::t=m at*
     generalize hgl:m.length=ml at*
     have hmade:=made_n (kc:=c2) (sd:=false) (ad:=none) (ld:=0) (cd:=0) (ap:=none) (np:=0) (cp:=0) (sk:=false) (ak:=none) (lk:=0) (ck:=0) (d:=0) (k:=0) (ps:=[]) (vr:=0) (hA.below k2) (hM.below k2) hpm hc hcn hnn he he2 (zn_zero _) o_m (pn_nil _ _ _) (zn_zero _) o_m hI2 hkp (show I64 (6:Int)by unfold I64;decide) (by unfold I64;decide) o_m o_m o_m hL (htab.below k2)
     replace hmade:=hide hmade
     clear hI2 hA hM hI htab hkp hn2
     go_wp2_with fail
     refine hmade.out.mono ?_
     rintro e w3 hMD
     have hMD2:=hide (md_back hMD k2)
     obtain⟨ra,rb,rfl⟩: ∃ra rb:Int,e= .returned (.tuple #[.int .i64 ra,.int .i64 rb]):=by
      rcases hMD with⟨i,_,h2,_⟩|⟨_,_,h3,_⟩|⟨_,_,h3,_⟩
      ·exact⟨_,_,h2⟩
      ·exact⟨_,_,h3⟩
      exact⟨_,_,h3⟩
     clear hMD hmade
     go_wp2
     refine bodyPost_ret (results_tmp2 rfl _ _ _) rfl ?_
     unfold JO
     rw[if_neg (by decide),if_neg (by rw[ha];decide),hr,←hgt]
     rw[←hgt]at hMD2
     exact hMD2.out
 go_enter Tryz.func40,Tryz.ntmps40
 have h5:(kd !=5)=true:=by simp;omega
 have h6:(kd !=6)=true:=by simp;omega
 go_wp2
 refine bodyPost_ret (results_tmp2 rfl _ _ _) rfl ?_
 unfold JO
 rw[if_pos hb]
 exact⟨rfl,rfl⟩
end Nt
namespace Nt
theorem upto_rises {d:Array Int}(hs: ∀i j,i≤j→j<d.size→d[i]!≤d[j]!): ∀m,m≤d.size→(Lib.compactUpTo d m).Pairwise (· < ·)∧∀x∈Lib.compactUpTo d m,∃j,j<m∧x=d[j]!
  |0,_=>⟨by simp[Lib.compactUpTo],by simp[Lib.compactUpTo]⟩
  |m+1,hm=>by
    obtain⟨h1,h2⟩:=upto_rises hs m o_m
    rw[Lib.compactUpTo_succ]
    by_cases hk:Lib.keeps d m=true
    · rw[if_pos hk]
      refine⟨List.pairwise_append.2 ⟨h1,by simp,fun x hx y hy=> ?_⟩,fun x hx=> ?_⟩
      · obtain⟨j,hj,rfl⟩:=h2 x hx
        obtain rfl:=List.mem_singleton.1 hy
        have h3:d[m]! ≠d[m-1]!:=by
          have h4:=of_decide_eq_true hk
          rcases h4 with h4|h4
          · omega
          exact h4
        have h5:=hs j (m-1) o_m o_m
        have h6:=hs (m-1) m o_m o_m
        omega
      rcases List.mem_append.1 hx with h|h
      · obtain⟨j,hj,e⟩:=h2 x h
        exact⟨j,by omega,e⟩
      exact⟨m,by omega,List.mem_singleton.1 h⟩
    rw[if_neg hk,List.append_nil]
    exact⟨h1,fun x hx=>by obtain⟨j,hj,e⟩:=h2 x hx;exact⟨j,by omega,e⟩⟩
theorem sort_le (l:List Int):(l.mergeSort fun x y=>decide (x≤y)).Pairwise (·≤·):=by
  have h:=List.pairwise_mergeSort (le:=fun x y:Int=>decide (x≤y)) (fun a b c h1 h2=>by simp at*;omega) (fun a b=>by simp;omega) l
  exact h.imp (fun h=>by simpa using h)
theorem ris_rises (l:List Int):(ris l).Pairwise (· < ·):=by
  have h:=sort_le l
  refine(upto_rises (d:=(l.mergeSort fun x y=>decide (x≤y)).toArray) (fun i j hij hj=> ?_) _ (by simp)).1
  have hj2:j<(l.mergeSort fun x y=>decide (x≤y)).length:=by simpa using hj
  rw[getElem!_pos (l.mergeSort fun x y=>decide (x≤y)).toArray i (by simpa using Nat.lt_of_le_of_lt hij hj2),getElem!_pos (l.mergeSort fun x y=>decide (x≤y)).toArray j hj]
  by_cases he:i=j
  · subst he;exact Int.le_refl _
  exact List.pairwise_iff_getElem.1 h i j _ _ o_m
theorem ris_id {l:List Int}(h:l.Pairwise (· < ·)):ris l=l:=by
  unfold ris
  rw[List.mergeSort_of_pairwise (h.imp fun h=>by simp;omega)]
  refine Lib.compact_all l fun j hj=> ?_
  by_cases h0:j=0
  · subst h0;simp[Lib.keeps]
  refine Lib.keeps_pos ?_
  rw[getElem!_pos _ _ (by simpa using hj),getElem!_pos _ _ (by simp;omega)]
  have h2:=List.pairwise_iff_getElem.1 h (j-1) j o_m hj o_m
  simp only[List.getElem_toArray]
  omega
theorem ris_ne {l:List Int}(h:l≠ []):ris l≠ []:=by
  unfold ris
  have h2:(l.mergeSort fun x y=>decide (x≤y))≠ []:=fun h3=>h (by have:=List.length_mergeSort (le:=fun x y:Int=>decide (x≤y)) l;rw[h3]at this;exact List.eq_nil_of_length_eq_zero this.symm)
  generalize (l.mergeSort fun x y=>decide (x≤y))=m at h2
  cases m with
  |nil=>exact absurd rfl h2
  |cons a t=>
    unfold Lib.compact Lib.compactUpTo
    rw[List.length_cons,List.range_succ_eq_map]
    simp[Lib.keeps]

structure Mk where
  kind:Int
  xk:Int
  xd:Int
  xp:List (Int × Int)
  xt:Int
  v:Int
  kids:List Int
structure St where
  L:List Nd
  c:Int
  er:Int
def nums (n:Nd):List Int:=n.d::n.k::n.ps.map Prod.snd
def Uq (L:List Nd):Prop:=∀(i j:Nat) (n:Nd),L[i]? =some n→L[j]? =some n→i=j
open Classical in
def eqn (a b:Nd):Bool:=decide (a.kind=b.kind∧a.d=b.d∧a.ps=b.ps∧a.k=b.k∧a.var=b.var∧a.kids=b.kids)
theorem eqn_iff (a b:Nd):eqn a b=true↔a=b:=by
  cases a
  cases b
  simp[eqn]
def spot (L:List Nd)(n:Nd):Nat:=L.findIdx (eqn n)
theorem spot_at {L:List Nd}{n:Nd}(h: ∃i:Nat,L[i]? =some n):spot L n<L.length∧L[spot L n]? =some n:=by
  obtain⟨i,hi⟩:=h
  have h1:spot L n<L.length:=List.findIdx_lt_length_of_exists ⟨n,List.mem_of_getElem? hi,(eqn_iff n n).2 rfl⟩
  refine⟨h1,?_⟩
  have h2:eqn n (L[spot L n]'h1)=true:=List.findIdx_getElem (w:=h1)
  rw[List.getElem?_eq_getElem h1,←(eqn_iff _ _).1 h2]
theorem spot_no {L:List Nd}{n:Nd}(h: ¬ ∃i:Nat,L[i]? =some n): ¬spot L n<L.length:=fun h1=>h ⟨spot L n,by
  have h2:eqn n (L[spot L n]'h1)=true:=List.findIdx_getElem (w:=h1)
  rw[List.getElem?_eq_getElem h1,←(eqn_iff _ _).1 h2]⟩
def put (nn kk:Int)(s:St)(n:Nd):St × Option Int:=
  if spot s.L n<s.L.length then(s,some (spot s.L n:Int))
  else if(mstep nn kk s.c s.er (nums n)).1=0 then(⟨s.L++ [n],(mstep nn kk s.c s.er (nums n)).2.1,(mstep nn kk s.c s.er (nums n)).2.2⟩,some (s.L.length:Int))
  else(⟨s.L,(mstep nn kk s.c s.er (nums n)).2.1,(mstep nn kk s.c s.er (nums n)).2.2⟩,none)
def joinA (kd:Int)(l:List Int):Option Int ⊕ Nd:=match ris l with
  | []=> .inl (some (if kd=5 then 1 else 0))
  | [x]=> .inl (some x)
  |x::y::t=> .inr ⟨kd,0,[],0,0,x::y::t⟩
def atomA (kd d:Int)(ps:List (Int × Int))(k:Int):Option Int ⊕ Nd:=match formA kd d (nz (lays [] ps)) k with
  | .inr _=> .inl none
  | .inl f=> .inr ⟨f.kind,f.d,f.ps,f.k,0,[]⟩
def ask (ids:List Int)(m:Mk):Option Int ⊕ Nd:=
  if whatI m.kind=0 then atomA m.xk m.xd m.xp m.xt
  else if whatI m.kind=1 then joinA 5 (ofI m.kids ids)
  else if whatI m.kind=2 then joinA 6 (ofI m.kids ids)
  else if whatI m.kind=3 then .inr ⟨7,0,[],0,pick m.v 4,[(ofI m.kids ids).headD 0]⟩
  else .inr ⟨8,0,[],0,pick m.v 4,[(ofI m.kids ids).headD 0]⟩
def asked (nn kk:Int)(s:St)(q:Option Int ⊕ Nd):St × Option Int:=match q with
  | .inl o=>(s,o)
  | .inr n=>put nn kk s n
def wants (nn kk:Int)(s:St)(ids:List Int)(m:Mk):St × Option Int:=asked nn kk s (ask ids m)
def stepW (nn kk:Int)(p:St × List Int)(m:Mk):St × List Int:=((wants nn kk p.1 p.2 m).1,p.2++(wants nn kk p.1 p.2 m).2.toList)
def runW (nn kk:Int)(p:St × List Int)(R:List Mk):St × List Int:=R.foldl (stepW nn kk) p

theorem mstep_cases (nn kk c e:Int)(zs:List Int):(e≠0∧mstep nn kk c e zs=(e,c,e))∨(e=0∧∃r,r≠0∧mstep nn kk c e zs=(r,c,r)∧(r=70∨r=71))∨(e=0∧mstep nn kk c e zs=(0,c+1,0)∧(zs.any fun z=>decide (kk<(lim z:Int)))=false∧1≤nn-c):=by
  unfold mstep
  by_cases h:e≠0
  · rw[if_pos h];exact .inl ⟨h,rfl⟩
  rw[if_neg h]
  have h0:e=0:=Decidable.not_not.1 h
  by_cases h1:(zs.any fun z=>decide (kk<(lim z:Int)))=true
  · rw[if_pos h1];exact .inr (.inl ⟨h0,71,by decide,rfl,.inr rfl⟩)
  rw[if_neg h1]
  by_cases h2:nn-c<1
  · rw[if_pos h2];exact .inr (.inl ⟨h0,70,by decide,rfl,.inl rfl⟩)
  rw[if_neg h2];exact .inr (.inr ⟨h0,rfl,by simpa using h1,by omega⟩)
theorem put_cases (nn kk:Int)(s:St)(n:Nd):
    (∃i:Nat,s.L[i]? =some n∧put nn kk s n=(s,some (i:Int)))∨
    ((∀i:Nat,s.L[i]? ≠some n)∧s.er≠0∧put nn kk s n=(s,none))∨
    ((∀i:Nat,s.L[i]? ≠some n)∧s.er=0∧∃r,(r=70∨r=71)∧put nn kk s n=(⟨s.L,s.c,r⟩,none))∨
    ((∀i:Nat,s.L[i]? ≠some n)∧s.er=0∧((nums n).any fun z=>decide (kk<(lim z:Int)))=false∧1≤nn-s.c∧put nn kk s n=(⟨s.L++ [n],s.c+1,0⟩,some (s.L.length:Int))):=by
  unfold put
  by_cases h: ∃i:Nat,s.L[i]? =some n
  · rw[if_pos (spot_at h).1];exact .inl ⟨spot s.L n,(spot_at h).2,rfl⟩
  rw[if_neg (spot_no h)]
  have hn: ∀i:Nat,s.L[i]? ≠some n:=fun i hi=>h ⟨i,hi⟩
  rcases mstep_cases nn kk s.c s.er (nums n)with⟨h1,h2⟩|⟨h1,r,h2,h3,h4⟩|⟨h1,h2,h3,h4⟩
  · rw[h2,if_neg h1];exact .inr (.inl ⟨hn,h1,rfl⟩)
  · rw[h3,if_neg h2];exact .inr (.inr (.inl ⟨hn,h1,r,h4,rfl⟩))
  rw[h2,if_pos rfl];exact .inr (.inr (.inr ⟨hn,h1,h3,h4,rfl⟩))
def Le (s F:St):Prop:=(∃t,F.L=s.L++t)∧(s.er≠0→F=s)
theorem Le.refl (s:St):Le s s:=⟨⟨[],by simp⟩,fun _=>rfl⟩
theorem Le.trans {s t u:St}(h:Le s t)(k:Le t u):Le s u:=by
  obtain⟨⟨a,ha⟩,h2⟩:=h
  obtain⟨⟨b,hb⟩,k2⟩:=k
  refine⟨⟨a++b,by rw[hb,ha,List.append_assoc]⟩,fun h=> ?_⟩
  obtain rfl:=h2 h
  exact k2 h
theorem put_le (nn kk:Int)(s:St)(n:Nd):Le s (put nn kk s n).1:=by
  rcases put_cases nn kk s n with⟨i,_,e⟩|⟨_,_,e⟩|⟨_,h,r,_,e⟩|⟨_,h,_,_,e⟩ <;> rw[e]
  · exact Le.refl s
  · exact Le.refl s
  · exact⟨⟨[],by simp⟩,fun h1=>absurd h h1⟩
  exact⟨⟨[n],rfl⟩,fun h1=>absurd h h1⟩
theorem wants_le (nn kk:Int)(s:St)(ids:List Int)(m:Mk):Le s (wants nn kk s ids m).1:=by
  unfold wants
  cases ask ids m with
  |inl o=>exact Le.refl s
  |inr n=>exact put_le nn kk s n
theorem run_le (nn kk:Int): ∀(R:List Mk) (s:St) (ids:List Int),Le s (runW nn kk (s,ids) R).1
  | [],s,_=>Le.refl s
  |m::R,s,ids=>(wants_le nn kk s ids m).trans (run_le nn kk R _ _)
theorem put_found {nn kk:Int}{F:St}{n:Nd}{i:Nat}(hU:Uq F.L)(h:F.L[i]? =some n):put nn kk F n=(F,some (i:Int)):=by
  rcases put_cases nn kk F n with⟨j,hj,e⟩|⟨h2,_⟩|⟨h2,_⟩|⟨h2,_⟩
  · rw[e,hU i j n h hj]
  · exact absurd h (h2 i)
  · exact absurd h (h2 i)
  exact absurd h (h2 i)
theorem put_uq {nn kk:Int}{s:St}{n:Nd}(h:Uq s.L):Uq (put nn kk s n).1.L:=by
  rcases put_cases nn kk s n with⟨i,hi,e⟩|⟨h1,h2,e⟩|⟨h1,h2,r,h3,e⟩|⟨h1,h2,h3,h4,e⟩ <;> rw[e]
  · exact h
  · exact h
  · exact h
  intro i j x hi hj
  have key: ∀i:Nat,(s.L++ [n])[i]? =some x→(i<s.L.length∧s.L[i]? =some x)∨(i=s.L.length∧x=n):=fun i hi=>by
    by_cases hl:i<s.L.length
    · rw[List.getElem?_append_left hl]at hi;exact .inl ⟨hl,hi⟩
    have h9:=(List.getElem?_eq_some_iff.1 hi).1
    simp at h9
    obtain rfl:i=s.L.length:=by omega
    simp at hi
    exact .inr ⟨rfl,hi.symm⟩
  rcases key i hi with⟨a1,a2⟩|⟨a1,a2⟩ <;> rcases key j hj with⟨b1,b2⟩|⟨b1,b2⟩
  · exact h i j x a2 b2
  · subst b2;exact absurd a2 (h1 i)
  · subst a2;exact absurd b2 (h1 j)
  omega
theorem wants_uq {nn kk:Int}{s:St}{ids:List Int}{m:Mk}(h:Uq s.L):Uq (wants nn kk s ids m).1.L:=by
  unfold wants
  cases ask ids m with
  |inl o=>exact h
  |inr n=>exact put_uq h
theorem run_uq {nn kk:Int}: ∀(R:List Mk) {s:St}{ids:List Int},Uq s.L→Uq (runW nn kk (s,ids) R).1.L
  | [],_,_,h=>h
  |m::R,s,ids,h=>run_uq R (s:=(stepW nn kk (s,ids) m).1) (ids:=(stepW nn kk (s,ids) m).2) (wants_uq h)
theorem form_fit {kind d:Int}{ps:List (Int × Int)}{k:Int}{f:Atm}(h:formA kind d (nz (lays [] ps)) k= .inl f):Fit f:=formA_fit (std_lays ps) h
theorem form_len {kind d:Int}{ps:List (Int × Int)}{k:Int}{f:Atm}(h:formA kind d (nz (lays [] ps)) k= .inl f):f.ps.length≤(nz (lays [] ps)).length:=(formA_prt (std_lays ps) h).1
def Gd (kk:Int)(i:Nat)(n:Nd):Prop:=
  (∃f:Atm,Fit f∧n=⟨f.kind,f.d,f.ps,f.k,0,[]⟩∧f.ps.length≤209716∧∀z∈nums n,(lim z:Int)≤kk)∨
  (∃kd kids,(kd=5∨kd=6)∧n=⟨kd,0,[],0,0,kids⟩∧2≤kids.length∧kids.length≤5∧kids.Pairwise (· < ·)∧∀x∈kids,0≤x∧x<(i:Int))∨
  (∃kd v x,(kd=7∨kd=8)∧n=⟨kd,0,[],0,v,[x]⟩∧0≤v∧v<4∧0≤x∧x<(i:Int))
def Gs (kk:Int)(s:St):Prop:=∀(i:Nat) (n:Nd),2≤i→s.L[i]? =some n→Gd kk i n
def In (s:St)(ids:List Int):Prop:=ids≠ []∧∀x∈ids,0≤x∧x<(s.L.length:Int)
theorem In.le {s F:St}{ids:List Int}(h:In s ids)(k:Le s F):In F ids:=by
  obtain⟨⟨t,ht⟩,_⟩:=k
  refine⟨h.1,fun x hx=> ?_⟩
  have:=h.2 x hx
  rw[ht,List.length_append]
  omega
def Wd (i:Nat)(n:Nd):Prop:=
  (∃f:Atm,Fit f∧n=⟨f.kind,f.d,f.ps,f.k,0,[]⟩∧f.ps.length≤209716)∨
  (∃kd kids,(kd=5∨kd=6)∧n=⟨kd,0,[],0,0,kids⟩∧2≤kids.length∧kids.length≤5∧kids.Pairwise (· < ·)∧∀x∈kids,0≤x∧x<(i:Int))∨
  (∃kd v x,(kd=7∨kd=8)∧n=⟨kd,0,[],0,v,[x]⟩∧0≤v∧v<4∧0≤x∧x<(i:Int))
theorem Wd.gd {kk:Int}{i:Nat}{n:Nd}(h:Wd i n)(h2:((nums n).any fun z=>decide (kk<(lim z:Int)))=false):Gd kk i n:=by
  rcases h with⟨f,h3,h4,h5⟩|h|h
  · refine .inl ⟨f,h3,h4,h5,fun z hz=> ?_⟩
    have h6:=List.any_eq_false.1 h2 z hz
    simpa using h6
  · exact .inr (.inl h)
  exact .inr (.inr h)
theorem joinA_wd {s:St}{kd:Int}{l:List Int}{n:Nd}(hk:kd=5∨kd=6)(h:joinA kd l= .inr n)(hl:l.length≤5)(hi: ∀x∈l,0≤x∧x<(s.L.length:Int)):Wd s.L.length n:=by
  unfold joinA at h
  have h1:=ris_len l
  have h2:=ris_rises l
  have h3: ∀x∈ris l,0≤x∧x<(s.L.length:Int):=fun x hx=>hi x (ris_mem hx)
  split at h
  · cases h
  · cases h
  rename_i x y t e
  rw[e]at h1 h2 h3
  cases h
  exact .inr (.inl ⟨kd,_,hk,rfl,by simp,by omega,h2,h3⟩)
theorem joinA_in {s:St}{kd:Int}{l:List Int}{o:Option Int}(h:joinA kd l= .inl o)(h0:l≠ [])(hi: ∀x∈l,0≤x∧x<(s.L.length:Int)): ∀x∈o.toList,0≤x∧x<(s.L.length:Int):=by
  unfold joinA at h
  split at h
  · rename_i e
    exact absurd e (ris_ne h0)
  · rename_i x e
    cases h
    intro y hy
    obtain rfl:y=x:=by simpa using hy
    exact hi y (ris_mem (by rw[e];simp))
  cases h
def Sm (m:Mk):Prop:=(nz (lays [] m.xp)).length≤209716
theorem ask_wd {s:St}{ids:List Int}{m:Mk}{n:Nd}(hI:In s ids)(hm:Sm m)(h:ask ids m= .inr n):Wd s.L.length n:=by
  have hof: ∀x∈ofI m.kids ids,0≤x∧x<(s.L.length:Int):=fun x hx=>hI.2 x (ofI_mem hI.1 hx)
  have hv:=pick_lt m.v (n:=4) (by decide)
  have hh:0≤(ofI m.kids ids).headD 0∧(ofI m.kids ids).headD 0<(s.L.length:Int):=by
    have h1:=ofI_ne (ks:=m.kids) (ids:=ids)
    cases ho:ofI m.kids ids with
    |nil=>exact absurd ho h1
    |cons a t=>exact hof a (by rw[ho];simp)
  unfold ask at h
  by_cases h0:whatI m.kind=0
  · rw[if_pos h0]at h
    unfold atomA at h
    cases hf:formA m.xk m.xd (nz (lays [] m.xp)) m.xt with
    |inr e=>rw[hf]at h;cases h
    |inl f=>
      rw[hf]at h
      cases h
      exact .inl ⟨f,form_fit hf,rfl,Nat.le_trans (form_len hf) hm⟩
  rw[if_neg h0]at h
  by_cases h1:whatI m.kind=1
  · rw[if_pos h1]at h
    exact joinA_wd (.inl rfl) h ofI_len hof
  rw[if_neg h1]at h
  by_cases h2:whatI m.kind=2
  · rw[if_pos h2]at h
    exact joinA_wd (.inr rfl) h ofI_len hof
  rw[if_neg h2]at h
  by_cases h3:whatI m.kind=3
  · rw[if_pos h3]at h
    cases h
    exact .inr (.inr ⟨7,_,_,.inl rfl,rfl,hv.1,hv.2,hh.1,hh.2⟩)
  rw[if_neg h3]at h
  cases h
  exact .inr (.inr ⟨8,_,_,.inr rfl,rfl,hv.1,hv.2,hh.1,hh.2⟩)
theorem ask_in {s:St}{ids:List Int}{m:Mk}{o:Option Int}(hI:In s ids)(h:ask ids m= .inl o): ∀x∈o.toList,0≤x∧x<(s.L.length:Int):=by
  have hof: ∀x∈ofI m.kids ids,0≤x∧x<(s.L.length:Int):=fun x hx=>hI.2 x (ofI_mem hI.1 hx)
  unfold ask at h
  by_cases h0:whatI m.kind=0
  · rw[if_pos h0]at h
    unfold atomA at h
    cases hf:formA m.xk m.xd (nz (lays [] m.xp)) m.xt with
    |inr e=>rw[hf]at h;cases h;simp
    |inl f=>rw[hf]at h;cases h
  rw[if_neg h0]at h
  by_cases h1:whatI m.kind=1
  · rw[if_pos h1]at h
    exact joinA_in h ofI_ne hof
  rw[if_neg h1]at h
  by_cases h2:whatI m.kind=2
  · rw[if_pos h2]at h
    exact joinA_in h ofI_ne hof
  rw[if_neg h2]at h
  by_cases h3:whatI m.kind=3
  · rw[if_pos h3]at h
    cases h
  rw[if_neg h3]at h
  cases h
theorem put_gs {nn kk:Int}{s:St}{n:Nd}(h:Gs kk s)(hw:Wd s.L.length n):Gs kk (put nn kk s n).1∧∀x∈(put nn kk s n).2.toList,0≤x∧x<((put nn kk s n).1.L.length:Int):=by
  rcases put_cases nn kk s n with⟨i,hi,e⟩|⟨h1,h2,e⟩|⟨h1,h2,r,h3,e⟩|⟨h1,h2,h3,h4,e⟩ <;> rw[e]
  · have hl:=(List.getElem?_eq_some_iff.1 hi).1
    refine⟨h,fun x hx=> ?_⟩
    obtain rfl:x=(i:Int):=by simpa using hx
    exact⟨by omega,show(i:Int)<(s.L.length:Int)by omega⟩
  · exact⟨h,by simp⟩
  · exact⟨h,by simp⟩
  refine⟨fun i x h2i hi=> ?_,fun x hx=> ?_⟩
  · by_cases hl:i<s.L.length
    · dsimp only at hi
      rw[List.getElem?_append_left hl]at hi
      exact h i x h2i hi
    have h9:=(List.getElem?_eq_some_iff.1 hi).1
    simp at h9
    obtain rfl:i=s.L.length:=by omega
    simp at hi
    subst hi
    exact hw.gd h3
  obtain rfl:x=(s.L.length:Int):=by simpa using hx
  simp;omega
theorem wants_gs {nn kk:Int}{s:St}{ids:List Int}{m:Mk}(h:Gs kk s)(hI:In s ids)(hm:Sm m):Gs kk (wants nn kk s ids m).1∧In (wants nn kk s ids m).1 (ids++(wants nn kk s ids m).2.toList):=by
  have hle:=wants_le nn kk s ids m
  have hI2:=hI.le hle
  have key:Gs kk (wants nn kk s ids m).1∧∀x∈(wants nn kk s ids m).2.toList,0≤x∧x<((wants nn kk s ids m).1.L.length:Int):=by
    unfold wants
    cases ha:ask ids m with
    |inl o=>exact⟨h,ask_in hI ha⟩
    |inr n=>exact put_gs h (ask_wd hI hm ha)
  refine⟨key.1,by simp[hI.1],fun x hx=> ?_⟩
  rcases List.mem_append.1 hx with h1|h1
  · exact hI2.2 x h1
  exact key.2 x h1
theorem run_gs {nn kk:Int}: ∀(R:List Mk) {s:St}{ids:List Int},Gs kk s→In s ids→(∀m∈R,Sm m)→Gs kk (runW nn kk (s,ids) R).1∧In (runW nn kk (s,ids) R).1 (runW nn kk (s,ids) R).2
  | [],_,_,h,hI,_=>⟨h,hI⟩
  |m::R,s,ids,h,hI,hm=>by
    have h1:=wants_gs (nn:=nn) h hI (hm m (by simp))
    exact run_gs R (s:=(stepW nn kk (s,ids) m).1) (ids:=(stepW nn kk (s,ids) m).2) h1.1 h1.2 fun x hx=>hm x (by simp[hx])
theorem put_in (nn kk:Int)(s:St)(n:Nd): ∀x∈(put nn kk s n).2.toList,0≤x∧x<((put nn kk s n).1.L.length:Int):=by
  rcases put_cases nn kk s n with⟨i,hi,e⟩|⟨h1,h2,e⟩|⟨h1,h2,r,h3,e⟩|⟨h1,h2,h3,h4,e⟩ <;> rw[e]
  · have hl:=(List.getElem?_eq_some_iff.1 hi).1
    exact fun x hx => by obtain rfl : x = (i : Int):=by simpa using hx
                         exact ⟨by omega,show (i : Int) < (s.L.length : Int) by omega⟩
  · simp
  · simp
  intro x hx
  obtain rfl:x=(s.L.length:Int):=by simpa using hx
  simp;omega
theorem wants_in {nn kk:Int}{s:St}{ids:List Int}{m:Mk}(hI:In s ids):In (wants nn kk s ids m).1 (ids++(wants nn kk s ids m).2.toList):=by
  have hI2:=hI.le (wants_le nn kk s ids m)
  have key: ∀x∈(wants nn kk s ids m).2.toList,0≤x∧x<((wants nn kk s ids m).1.L.length:Int):=by
    unfold wants
    cases ha:ask ids m with
    |inl o=>exact ask_in hI ha
    |inr n=>exact put_in nn kk s n
  refine⟨by simp[hI.1],fun x hx=> ?_⟩
  rcases List.mem_append.1 hx with h1|h1
  · exact hI2.2 x h1
  exact key x h1
theorem run_in {nn kk:Int}: ∀(R:List Mk) {s:St}{ids:List Int},In s ids→In (runW nn kk (s,ids) R).1 (runW nn kk (s,ids) R).2
  | [],_,_,hI=>hI
  |m::R,s,ids,hI=>run_in R (s:=(stepW nn kk (s,ids) m).1) (ids:=(stepW nn kk (s,ids) m).2) (wants_in hI)
theorem run_len (nn kk:Int): ∀(R:List Mk) (p:St × List Int),(runW nn kk p R).2.length≤p.2.length+R.length
  | [],p=>Nat.le_refl _
  |m::R,p=>by
    have h1:=run_len nn kk R (stepW nn kk p m)
    have h2:(stepW nn kk p m).2.length≤p.2.length+1:=by
      unfold stepW
      rw[List.length_append]
      cases (wants nn kk p.1 p.2 m).2 <;> simp
    have h3:runW nn kk p (m::R)=runW nn kk (stepW nn kk p m) R:=rfl
    rw[h3,List.length_cons]
    omega
theorem run_snoc (nn kk:Int)(p:St × List Int)(R:List Mk)(m:Mk):runW nn kk p (R++ [m])=stepW nn kk (runW nn kk p R) m:=by simp[runW]
def st0 :St:=⟨[cst 0,cst 1],0,0⟩
theorem st0_uq :Uq st0.L:=by
  intro i j n hi hj
  have hi1:=(List.getElem?_eq_some_iff.1 hi).1
  have hj1:=(List.getElem?_eq_some_iff.1 hj).1
  simp[st0]at hi1 hj1
  obtain rfl|rfl:i=0∨i=1:=by omega
  · obtain rfl|rfl:j=0∨j=1:=by omega
    · rfl
    exact absurd (congrArg (Option.map Nd.kind) (hi.trans hj.symm)) (by simp[st0,cst])
  obtain rfl|rfl:j=0∨j=1:=by omega
  · exact absurd (congrArg (Option.map Nd.kind) (hi.trans hj.symm)) (by simp[st0,cst])
  rfl
theorem st0_gs (kk:Int):Gs kk st0:=fun i n h hi=>by
  have hi1:=(List.getElem?_eq_some_iff.1 hi).1
  simp[st0]at hi1
  omega
theorem st0_in (c er:Int):In ⟨st0.L,c,er⟩ [0,1]:=⟨by simp,fun x hx=>by simp[st0]at*;omega⟩
end Nt
namespace Nt

structure AG (w:World) (pa pm:Nat) (nn kk:Int) (s:St) (F:Nat→Prop):Prop where
 ar: ∃C nv bm X D,AS w pa pm s.L C 2097152 nv bm X D∧¬FF pa bm nv C pm∧∀b,FF pa bm nv C b→F b
 mb:MB w pm nn kk s.c s.er
 c0:0≤s.c
 cn:s.c≤nn
 n2:nn≤2000
 e0:0≤s.er
 e2:s.er<256
 ln:(s.L.length:Int)≤s.c+2
 fl: ∀b,F b→b<w.heap.size
theorem AS.uq {w:World}{pa pm:Nat}{L:List Nd}{C:Nat→Prop}{B:Nat}{nv:Value}{bm:Nat}{X:List NR}{D:DataW Value}(h:AS w pa pm L C B nv bm X D):Uq L:=by
 intro i j n hi hj
 obtain⟨hi1,hi2⟩:=List.getElem?_eq_some_iff.1 hi
 obtain⟨hj1,hj2⟩:=List.getElem?_eq_some_iff.1 hj
 have e1:=h.is.1 i hi1 .nil
 have e2:=h.is.1 j hj1 .nil
 rw[hi2]at e1
 rw[hj2,e1]at e2
 injection e2 with e2
 injection e2 with _ e2
 omega
theorem AG.below {w w':World}{pa pm:Nat}{nn kk:Int}{s:St}{F:Nat→Prop}(h:AG w pa pm nn kk s F)(k:Below w.heap.size w w'):AG w' pa pm nn kk s F:=by
 obtain⟨⟨C,nv,bm,X,D,h1,h2,h3⟩,h4,h5,h6,h7,h8,h9,h10,h11⟩:=h
 exact⟨⟨C,nv,bm,X,D,h1.below k,h2,h3⟩,h4.below k,h5,h6,h7,h8,h9,h10,fun b hb=>Nat.lt_of_lt_of_le (h11 b hb) k.size⟩
def AO (w w':World)(e:Ending)(pa pm:Nat)(nn kk:Int)(F:Nat→Prop)(r:St × Option Int):Prop:=
 ∃x er:Int,e= .returned (.tuple #[.int .i64 x,.int .i64 er])∧(r.2=none→er≠0)∧(∀i,r.2=some i→x=i∧er=0)∧∃F',AG w' pa pm nn kk r.1 F'∧(∀b,F' b→F b∨w.heap.size≤b)∧ButF (fun b=>b=pm∨F b) w w'
theorem but_butF {w w':World}{p:Nat}{F:Nat→Prop}(h:But p w w'):ButF (fun b=>b=p∨F b) w w':=⟨h.os,h.tape,h.output,h.size,fun i hi hn=>h.block i hi fun e=>hn (.inl e)⟩
theorem ao_now {w w':World}{pa pm:Nat}{nn kk:Int}{s:St}{F:Nat→Prop}(hG:AG w pa pm nn kk s F)(k:Below w.heap.size w w')(i:Int):AO w w' (.returned (.tuple #[.int .i64 i,.int .i64 0])) pa pm nn kk F (s,some i):=
 ⟨i,0,rfl,fun h=>(by cases h),fun j h=>(by cases h;exact⟨rfl,rfl⟩),F,hG.below k,fun _ h=> .inl h,butF_below k⟩
theorem ao_not {w w':World}{pa pm:Nat}{nn kk:Int}{s:St}{F:Nat→Prop}(hG:AG w pa pm nn kk s F)(k:Below w.heap.size w w'){x er:Int}(he:er≠0):AO w w' (.returned (.tuple #[.int .i64 x,.int .i64 er])) pa pm nn kk F (s,none):=
 ⟨x,er,rfl,fun _=>he,fun j h=>(by cases h),F,hG.below k,fun _ h=> .inl h,butF_below k⟩
theorem md_ao {w w':World}{e:Ending}{pa pm:Nat}{nn kk:Int}{s:St}{F C:Nat→Prop}{nv:Value}{bm:Nat}{X:List NR}{D:DataW Value}{n:Nd}(hG:AG w pa pm nn kk s F)(hA:AS w pa pm s.L C 2097152 nv bm X D)(hpm: ¬FF pa bm nv C pm)(hF: ∀b,FF pa bm nv C b→F b)(h:MD w w' e pa pm s.L C 2097152 nv bm nn kk s.c s.er n):AO w w' e pa pm nn kk F (put nn kk s n):=by
 have hn:n∉s.L→¬ ∃i:Nat,s.L[i]? =some n:=fun h ⟨i,hi⟩=>h (List.mem_of_getElem? hi)
 have h0:=hG.c0
 have h1:=hG.cn
 have h2:=hG.n2
 have h3:=hG.e0
 have h4:=hG.e2
 have h5:=hG.ln
 rcases h with⟨i,g1,rfl,k⟩|⟨g1,g2,rfl,g4,k⟩|⟨g1,g2,rfl,g4,C',nv',X',D',g5,g6,g7⟩
 ·rw[put_found hA.uq g1]
  exact ao_now hG k i
 ·change (mstep nn kk s.c s.er (nums n)).1≠0 at g2
  change MB w' pm nn kk (mstep nn kk s.c s.er (nums n)).2.1 (mstep nn kk s.c s.er (nums n)).2.2 at g4
  have hA':AS w' pa pm s.L C 2097152 nv bm X D:=hA.move k.size fun b hb=>k.block b (hA.fl hb) fun e=>hpm (e▸hb)
  unfold put
  rw[if_neg (spot_no (hn g1)),if_neg g2]
  refine⟨_,_,rfl,fun _=>g2,fun i h=>(by cases h),F,⟨⟨C,nv,bm,X,D,hA',hpm,hF⟩,g4,?_,?_,h2,?_,?_,?_,fun b hb=>Nat.lt_of_lt_of_le (hG.fl b hb) k.size⟩,fun b hb=> .inl hb,but_butF k⟩
  all_goals
   rcases mstep_cases nn kk s.c s.er (nums n)with⟨a1,a2⟩|⟨a1,r,a2,a3,a4⟩|⟨a1,a2,a3,a4⟩
  all_goals
   first
    |(rw[a2];dsimp only;omega)
    |(rw[a3];dsimp only;omega)
 change (mstep nn kk s.c s.er (nums n)).1=0 at g2
 change MB w' pm nn kk (mstep nn kk s.c s.er (nums n)).2.1 (mstep nn kk s.c s.er (nums n)).2.2 at g4
 unfold put
 rw[if_neg (spot_no (hn g1)),if_pos g2]
 have hpm': ¬FF pa bm nv' C' pm:=fun hf=>(g6 pm hf).elim hpm fun h=>absurd (hG.mb.lt) o_m
 refine⟨_,_,rfl,fun h=>(by cases h),fun i h=>(by cases h;exact⟨rfl,rfl⟩),FF pa bm nv' C',⟨⟨C',nv',bm,X',D',g5,hpm',fun _ hb=>hb⟩,g4,?_,?_,h2,?_,?_,?_,fun b hb=>g5.fl hb⟩,fun b hb=>(g6 b hb).imp (hF b) id,g7.mono fun b hb=>hb.imp id (hF b)⟩
 all_goals
  rcases mstep_cases nn kk s.c s.er (nums n)with⟨a1,a2⟩|⟨a1,r,a2,a3,a4⟩|⟨a1,a2,a3,a4⟩
 all_goals
  first
   |(rw[a2]at g2;exact absurd g2 a1)
   |(rw[a3]at g2;exact absurd g2 a2)
   |(rw[a2];dsimp only;simp only[List.length_append,List.length_cons,List.length_nil];omega)
   |(rw[a2];dsimp only;omega)

theorem atom_ao {w:World}{pa pm:Nat}{nn kk:Int}{s:St}{F:Nat→Prop}{kd:Int}{sd:Bool}{ad:Option Addr}{ld cd:Nat}{ap:Option Addr}{np cp:Nat}{sk:Bool}{ak:Option Addr}{lk ck:Nat}{d k:Int}{ps:List (Int × Int)}{B:Nat}
  (hG:AG w pa pm nn kk s F)(hd:Zm w sd ad ld cd d)(hld:ld≤B)(hP:Pr w ap np ps B)(hk:Zm w sk ak lk ck k)(hlk:lk≤B)(hn:np≤209716)(hB:B≤1048576)(htab:Tab w):
  Calls Tryz.prog 33 #[.pointer (some ⟨pa,0,none⟩),.agg #[.int .i64 kd,.bool sd,.slice ad ld cd,.slice ap np cp,.bool sk,.slice ak lk ck]] w fun e w'=>AO w w' e pa pm nn kk F (asked nn kk s (atomA kd d ps k)):=by
 obtain⟨C,nv,bm,X,D,hA,hpm,hF⟩:=hG.ar
 have h1:=hG.cn
 have h2:=hG.n2
 have h3:=hG.ln
 refine(atom8_n hA hG.mb hpm hG.c0 hG.cn hG.n2 hG.e0 hG.e2 hd hld hP hk hlk hn hB o_m htab).mono ?_
 intro e w' h
 unfold AM at h
 unfold atomA
 cases hf:formA kd d (nz (lays [] ps)) k with
 |inr er=>
  rw[hf]at h
  obtain⟨rfl,kb⟩:=h
  exact ao_not hG kb (by rcases formA_er hf with rfl|rfl <;> decide)
 |inl f=>
  rw[hf]at h
  exact md_ao hG hA hpm hF h

theorem join_ao {w:World}{pa pm:Nat}{nn kk:Int}{s:St}{F:Nat→Prop}{kd:Int}{ka:Option Addr}{kc:Nat}{l:List Int}(hkd:kd=5∨kd=6)
  (hG:AG w pa pm nn kk s F)(hI:IL w ka l.length l)(hl:l.length≤1048576)(hi: ∀x∈l,0≤x∧x<(s.L.length:Int))(htab:Tab w):
  Calls Tryz.prog 40 #[.pointer (some ⟨pa,0,none⟩),.int .i64 kd,.slice ka l.length kc] w fun e w'=>AO w w' e pa pm nn kk F (asked nn kk s (joinA kd l)):=by
 obtain⟨C,nv,bm,X,D,hA,hpm,hF⟩:=hG.ar
 have h1:=hG.cn
 have h2:=hG.n2
 have h3:=hG.ln
 refine(join8_n hA hG.mb hpm hG.c0 hG.cn hG.n2 hG.e0 hG.e2 hI hl o_m htab).mono ?_
 intro e w' h
 unfold JO at h
 rw[if_neg (fun h=>h hkd),if_neg (by
  intro ha
  obtain⟨x,hx,hx2⟩:=List.any_eq_true.1 ha
  have:=hi x hx
  unfold lck at hx2
  simp at hx2
  omega)]at h
 unfold joinA
 cases hr:ris l with
 |nil=>
  rw[hr]at h
  obtain⟨rfl,kb⟩:=h
  exact ao_now hG kb _
 |cons x t=>
  cases t with
  |nil=>
   rw[hr]at h
   obtain⟨rfl,kb⟩:=h
   exact ao_now hG kb _
  |cons y t=>
   rw[hr]at h
   exact md_ao hG hA hpm hF h

theorem bind_ao {w:World}{pa pm:Nat}{nn kk:Int}{s:St}{F:Nat→Prop}{kd v kid:Int}(hkd:kd=7∨kd=8)
  (hG:AG w pa pm nn kk s F)(hv:I64 v)(hi:0≤kid∧kid<(s.L.length:Int))(htab:Tab w):
  Calls Tryz.prog 41 #[.pointer (some ⟨pa,0,none⟩),.int .i64 kd,.int .i64 v,.int .i64 kid] w fun e w'=>AO w w' e pa pm nn kk F (asked nn kk s (.inr ⟨kd,0,[],0,v,[kid]⟩)):=by
 obtain⟨C,nv,bm,X,D,hA,hpm,hF⟩:=hG.ar
 have h1:=hG.cn
 have h2:=hG.n2
 have h3:=hG.ln
 refine(bind8_n hA hG.mb hpm hG.c0 hG.cn hG.n2 hG.e0 hG.e2 hv (by unfold I64;omega) o_m htab).mono ?_
 intro e w' h
 unfold BI at h
 rw[if_neg (fun h=>h hkd),if_neg o_m]at h
 exact md_ao hG hA hpm hF h
theorem new_ag {w:World}(htab:Tab w):Calls Tryz.prog 10 #[.pointer none] w fun e w'=> ∃pa pm F,e= .returned (.pointer (some ⟨pa,0,none⟩))∧AG w' pa pm 2000 8 st0 F∧(∀b,F b→w.heap.size≤b)∧w.heap.size≤pm∧Below w.heap.size w w':=by
 refine(newN_n htab).mono ?_
 rintro e w' ⟨pm,pa,C,nv,bm,X,D,rfl,hA,hM,hpm,hF,hpw,k⟩
 exact⟨pa,pm,FF pa bm nv C,rfl,⟨⟨C,nv,bm,X,D,hA,hpm,fun _ hb=>hb⟩,hM,by decide,by decide,by decide,by decide,by decide,by decide,fun b hb=>hA.fl hb⟩,hF,hpw,k⟩
end Nt
namespace Nt

structure M9 (w:World) (b o:Nat) (kd xk:Int) (sd:Bool) (ad:Option Addr) (ld cd:Nat) (ap:Option Addr) (np cp:Nat) (sk:Bool) (ak:Option Addr) (lk ck:Nat) (v:Int) (ka:Option Addr) (kn kc:Nat):Prop where
 c0:w.cell? ⟨b,o,none⟩=some (.int .i64 kd)
 c1:w.cell? ⟨b,o+1,none⟩=some (.int .i64 xk)
 c2:w.cell? ⟨b,o+2,none⟩=some (.bool sd)
 c3:w.cell? ⟨b,o+3,none⟩=some (.slice ad ld cd)
 c4:w.cell? ⟨b,o+4,none⟩=some (.slice ap np cp)
 c5:w.cell? ⟨b,o+5,none⟩=some (.bool sk)
 c6:w.cell? ⟨b,o+6,none⟩=some (.slice ak lk ck)
 c7:w.cell? ⟨b,o+7,none⟩=some (.int .i64 v)
 c8:w.cell? ⟨b,o+8,none⟩=some (.slice ka kn kc)
theorem M9.below {w w':World}{b o:Nat}{kd xk:Int}{sd:Bool}{ad:Option Addr}{ld cd:Nat}{ap:Option Addr}{np cp:Nat}{sk:Bool}{ak:Option Addr}{lk ck:Nat}{v:Int}{ka:Option Addr}{kn kc:Nat}(h:M9 w b o kd xk sd ad ld cd ap np cp sk ak lk ck v ka kn kc)(k:Below w.heap.size w w'):M9 w' b o kd xk sd ad ld cd ap np cp sk ak lk ck v ka kn kc:=by
 have hb:b<w.heap.size:=World.block_lt_of_cell? w ⟨b,o,none⟩ h.c0
 have hc: ∀i,w'.cell? ⟨b,i,none⟩=w.cell? ⟨b,i,none⟩:=fun i=>k.cell (p:=⟨b,i,none⟩) hb
 exact⟨(hc _).trans h.c0,(hc _).trans h.c1,(hc _).trans h.c2,(hc _).trans h.c3,(hc _).trans h.c4,(hc _).trans h.c5,(hc _).trans h.c6,(hc _).trans h.c7,(hc _).trans h.c8⟩
def MA (w:World)(b o:Nat)(m:Mk)(B:Nat):Prop:=
 ∃sd ad ld cd ap np cp sk ak lk ck ka kn kc,M9 w b o m.kind m.xk sd ad ld cd ap np cp sk ak lk ck m.v ka kn kc∧
  Zm w sd ad ld cd m.xd∧ld≤B∧Pr w ap np m.xp B∧np≤209716∧Zm w sk ak lk ck m.xt∧lk≤B∧IL w ka kn m.kids∧kn≤B∧I64 m.kind∧I64 m.v
theorem MA.below {w w':World}{b o:Nat}{m:Mk}{B:Nat}(h:MA w b o m B)(k:Below w.heap.size w w'):MA w' b o m B:=by
 obtain⟨sd,ad,ld,cd,ap,np,cp,sk,ak,lk,ck,ka,kn,kc,h0,g1,g2,g3,g4,g5,g6,g7,g8⟩:=h
 exact⟨sd,ad,ld,cd,ap,np,cp,sk,ak,lk,ck,ka,kn,kc,h0.below k,g1.below k,g2,g3.below k,g4,g5.below k,g6,g7.below k,g8⟩
theorem MA.mono {w:World}{b o:Nat}{m:Mk}{B B':Nat}(h:MA w b o m B)(hB:B≤B'):MA w b o m B':=by
 obtain⟨sd,ad,ld,cd,ap,np,cp,sk,ak,lk,ck,ka,kn,kc,h0,g1,g2,g3,g4,g5,g6,g7,g8,g9⟩:=h
 exact⟨sd,ad,ld,cd,ap,np,cp,sk,ak,lk,ck,ka,kn,kc,h0,g1,by omega,g3.mono hB,g4,g5,by omega,g7,by omega,g9⟩
def ML (w:World)(ad:Option Addr)(n:Nat)(R:List Mk)(B:Nat):Prop:=
 R.length=n∧(n=0∨ ∃b off,ad=some ⟨b,off,none⟩∧b<w.heap.size∧∀i (h:i<R.length),MA w b (off+i*9) R[i] B)
theorem ML.mono {w:World}{ad:Option Addr}{n:Nat}{R:List Mk}{B B':Nat}(h:ML w ad n R B)(hB:B≤B'):ML w ad n R B':=by
 refine⟨h.1,?_⟩
 rcases h.2 with h2|⟨b,off,h2,h3,h4⟩
 ·exact .inl h2
 exact .inr ⟨b,off,h2,h3,fun i hi=>(h4 i hi).mono hB⟩
theorem ML.below {w w':World}{ad:Option Addr}{n:Nat}{R:List Mk}{B:Nat}(h:ML w ad n R B)(k:Below w.heap.size w w'):ML w' ad n R B:=by
 refine⟨h.1,?_⟩
 rcases h.2 with h2|⟨b,off,h2,h3,h4⟩
 ·exact .inl h2
 exact .inr ⟨b,off,h2,Nat.lt_of_lt_of_le h3 k.size,fun i hi=>(h4 i hi).below k⟩

end Nt
namespace Nt

theorem rise_ext : ∀(l k:List Int),l.Pairwise (· < ·)→k.Pairwise (· < ·)→(∀x,x∈l↔x∈k)→l=k
 | [],[],_,_,_=>rfl
 | [],y::k,_,_,h=>absurd ((h y).2 (by simp)) (by simp)
 |x::l,[],_,_,h=>absurd ((h x).1 (by simp)) (by simp)
 |x::l,y::k,hl,hk,h=>by
  obtain⟨h1,h2⟩:=List.pairwise_cons.1 hl
  obtain⟨h3,h4⟩:=List.pairwise_cons.1 hk
  have hxy:x=y:=by
   rcases List.mem_cons.1 ((h x).1 (by simp))with e|e
   ·exact e
   rcases List.mem_cons.1 ((h y).2 (by simp))with e2|e2
   ·exact e2.symm
   have a1:=h3 x e
   have a2:=h1 y e2
   omega
  subst hxy
  rw[rise_ext l k h2 h4 fun z=> ?_]
  constructor
  ·intro hz
   rcases List.mem_cons.1 ((h z).1 (by simp[hz]))with e|e
   ·have:=h1 z hz
    omega
   exact e
  intro hz
  rcases List.mem_cons.1 ((h z).2 (by simp[hz]))with e|e
  ·have:=h3 z hz
   omega
  exact e
theorem upto_has {d:Array Int}: ∀m j,j<m→d[j]! ∈Lib.compactUpTo d m
 |0,j,h=>absurd h o_m
 |m+1,j,h=>by
  rw[Lib.compactUpTo_succ]
  by_cases hj:j<m
  ·exact List.mem_append_left _ (upto_has m j hj)
  obtain rfl:j=m:=by omega
  by_cases hk:Lib.keeps d j=true
  ·rw[if_pos hk]
   simp
  have h4: ¬(j=0∨d[j]! ≠d[j-1]!):=fun e=>hk (decide_eq_true e)
  have h5:j≠0:=fun e=>h4 (.inl e)
  have h6:d[j]! =d[j-1]!:=Decidable.byContradiction fun e=>h4 (.inr e)
  rw[h6]
  exact List.mem_append_left _ (upto_has j (j-1) o_m)
theorem mem_ris (l:List Int)(x:Int):x∈ris l↔x∈l:=by
 refine⟨ris_mem,fun h=> ?_⟩
 have h1:x∈l.mergeSort fun x y=>decide (x≤y):=List.mem_mergeSort.2 h
 obtain⟨j,hj,rfl⟩:=List.mem_iff_getElem.1 h1
 have h2:=upto_has (d:=(l.mergeSort fun x y=>decide (x≤y)).toArray) (l.mergeSort fun x y=>decide (x≤y)).length j hj
 rw[getElem!_pos _ _ (by simpa using hj)]at h2
 simpa [ris,Lib.compact] using h2
end Nt
namespace Nt

end Nt
namespace Nt

theorem lim_0 :lim 0=0:=by
 unfold lim
 rw[show(0:Int).natAbs=0 from rfl]
 rw[limbs_def]
 rfl
theorem lim_1 :lim 1=1:=by
 unfold lim
 rw[show(1:Int).natAbs=1 from rfl]
 rw[limbs_def]
 rw[dif_neg (by decide),show 1 / 4294967296=0 from rfl]
 rw[limbs_def]
 rfl
theorem not_in {L:List Nd}{n:Nd}(h: ∀x∈L,x.kind≠n.kind)(i:Nat):L[i]? ≠some n:=fun hi=>h n (List.mem_of_getElem? hi) rfl
end Nt
end Go.Proofs.YtllfelooahplhaaGreatDoor
