/-
 Several texts in one: ED,EE,EF,EG,EP,H8,EQ,ER,ES,EH,EI,ET,EV,EW,EX,EZ,J1,JK,JL,JM,JN,VT,U1,U2,JB.
-/
import Derived.Test.YtllfelooahplhaaGreatDoorSbnT
import Derived.Test.YtllfelooahplhaaGreatDoorSbn35
import Derived.Lib.OwnBridge
import Derived.Test.YtllfelooahplhaaGreatDoorSbn06
import Derived.Test.YtllfelooahplhaaGreatDoorSbn33
import Derived.Test.YtllfelooahplhaaGreatDoorSbn22
import Derived.Test.YtllfelooahplhaaGreatDoorSbn09
set_option maxRecDepth 100000
set_option maxHeartbeats 3200000
namespace Go.Proofs.YtllfelooahplhaaGreatDoor
open Go.RowKit Go.Sort Go.Shelf
open Tm At
namespace Nt

def ris (l:List Int):List Int:=Lib.compact (l.mergeSort fun x y=>decide (x≤y))
theorem compact_len (l:List Int):(Lib.compact l).length≤l.length:=by
 unfold Lib.compact Lib.compactUpTo
 rw[List.length_map]
 exact Nat.le_trans (List.length_filter_le _ _) (by simp)
theorem compact_mem {l:List Int}{x:Int}(h:x∈Lib.compact l):x∈l:=by
 unfold Lib.compact Lib.compactUpTo at h
 obtain⟨j,hj,rfl⟩:=List.mem_map.1 h
 have hj:=List.mem_range.1 (List.mem_filter.1 hj).1
 rw[getElem!_pos _ _ (by simpa using hj)]
 simp
theorem ris_mem {l:List Int}{x:Int}(h:x∈ris l):x∈l:=(List.mem_mergeSort).1 (compact_mem h)
theorem ris_nil :ris []= []:=by simp[ris,Lib.compact,Lib.compactUpTo]
def RI (w w':World)(e:Ending)(l:List Int):Prop:=CI w w' e (ris l).length (ris l)

theorem rising_n {w:World}{ka:Option Addr}{kc:Nat}{l:List Int}(hI:IL w ka l.length l)(hkn:l.length≤4294967296):
  Calls Tryz.prog 79 #[.slice ka l.length kc] w fun e w'=>RI w w' e l:=by
 go_enter Tryz.func79,Tryz.ntmps79
 go_wp2_with fail
 by_cases h0:l= []
 ·subst h0
  refine(cloneI_n (kn:=0) hI (by simp)).mono ?_
  rintro e w1 ⟨a,c,rfl,h1,h2,k1⟩
  go_wp2_with(first|(go_at_call 131;refine(Tryz.slices_Sort_int_none a c w1).mono ?_;rintro e w2 ⟨rfl,rfl⟩)|(go_at_call 132;refine(Tryz.slices_Compact_int_empty a c _).mono ?_;rintro e w3 ⟨rfl,rfl⟩))
  go_ret
  unfold RI
  rw[ris_nil]
  exact⟨a,c,rfl,h1,h2,k1⟩
 have hl0:0<l.length:=List.length_pos_iff.2 h0
 rcases hI.2 with h2|⟨b,off,rfl,hb,h2⟩
 ·omega
 have hx: ∀x∈l,I64 x:=fun x hx=>by
  obtain⟨i,hi,rfl⟩:=List.getElem_of_mem hx
  exact(h2 i hi).2
 refine(Tryz.slices_Clone_int b off l.length kc l w (Nat.le_refl _) o_m (fun j hj=> ?_)).mono ?_
 ·rw[(h2 j hj).1,List.getD_eq_getElem?_getD,List.getElem?_eq_getElem hj]
  rfl
 rintro e w1 ⟨v,rfl,hown,hv0,k1⟩
 rw[List.take_of_length_le (Nat.le_refl _)]at hown
 obtain⟨g,cap,rfl,hg1,hg2,hcap,hmax,-,hH⟩:=Lib.holds_of_ownsRow hown hv0
 go_wp2_with fail
 refine(Tryz.slices_Sort_int g 0 cap l w1 hH hg2 o_m).mono ?_
 rintro e w2 ⟨rfl,q,os,rfl⟩
 have hsl:(l.mergeSort fun x y=>decide (x≤y)).length=l.length:=List.length_mergeSort _
 have hrl:(ris l).length≤l.length:=hsl▸compact_len _
 have r2:=Lib.ownsRow_putRow (q:=q) hown hsl (Nat.le_refl _)
 rw[List.take_of_length_le (Nat.le_of_eq hsl)]at r2
 have r3:=Lib.ownsRow_grow r2 0 os
 have kb:=Lib.below_putRow (enc:=Value.int .i64) (q:=q) (d:=(l.mergeSort fun x y=>decide (x≤y)).toArray) k1 hg1
 have kb3:=kb.trans (Lib.below_grow w.heap.size _ kb.size 0 os)
 have e0:(putRow (Value.int .i64) (Sort.ahead w1 q) g 0 (l.mergeSort fun x y=>decide (x≤y)).toArray).drewN 0=putRow (Value.int .i64) (Sort.ahead w1 q) g 0 (l.mergeSort fun x y=>decide (x≤y)).toArray:=rfl
 rw[e0]at r3 kb3
 generalize grow (putRow (Value.int .i64) (Sort.ahead w1 q) g 0 (l.mergeSort fun x y=>decide (x≤y)).toArray) os=w3 at*
 obtain⟨g',cap',e9,-,-,-,-,-,hH3⟩:=Lib.holds_of_ownsRow r3 (by simp)
 cases e9
 replace r3:=hide r3
 replace kb3:=hide kb3
 clear kb r2 hown hH e0
 have hcomp:=Tryz.slices_Compact_int g 0 cap (l.mergeSort fun x y=>decide (x≤y)) w3 hH3 o_m o_m
 rw[hsl]at hcomp
 replace hcomp:=hide hcomp
 clear hH3
 go_wp2_with fail
 refine hcomp.out.mono ?_
 rintro e w4 ⟨rfl,q4,rfl⟩
 have r4:=Lib.ownsRow_putRow (q:=q4) (ys:=ris l++List.replicate (l.length-(ris l).length) 0) r3.out (by simp;omega) (k:=(ris l).length) hrl
 rw[List.take_left' rfl]at r4
 have k4:=Lib.below_putRow (enc:=Value.int .i64) (q:=q4) (d:=(ris l++List.replicate (l.length-(ris l).length) 0).toArray) kb3.out hg1
 obtain⟨a5,c5,e5,hI5,hn5⟩:=row_il r4 (fun x hx'=>hx x (ris_mem hx'))
 cases e5
 have hfin:Hid (CI w _ (.returned (.slice (some ⟨g,0,none⟩) (ris l).length cap)) (ris l).length (ris l)):=hide ⟨_,_,rfl,hI5,hn5,k4⟩
 clear r4 k4 hI5 hn5
 go_wp2
 go_ret
 exact hfin.out
end Nt
namespace Nt

def cst (k:Int):Nd:=⟨k,0,[],0,0,[]⟩
def NW (w w':World)(e:Ending)(pm:Nat):Prop:=
 ∃pa C nv bm X D,e= .returned (.pointer (some ⟨pa,0,none⟩))∧AS w' pa pm [cst 0,cst 1] C 2097152 nv bm X D∧(∀b,FF pa bm nv C b→w.heap.size≤b)∧Below w.heap.size w w'
theorem as_new {w:World}{pa pm bm:Nat}(h:w.heap[pa]? =some (.cells #[.pointer (some ⟨pm,0,none⟩),.slice none 0 0,.map (some bm)] 75 (0,0)))(hm:w.ownsMap Tryz.prog 9 (plainElem Tryz.prog 3) bm 0 (.map []:DataW Value)):AS w pa pm [] (fun _=>False) 2097152 (.slice none 0 0) bm [] (.map []):=
 ⟨h,rfl,⟨rfl,.inl ⟨rfl,rfl⟩⟩,fun i hi=>absurd hi (Nat.not_lt_zero _),hm,⟨fun i hi=>absurd hi (Nat.not_lt_zero _),fun t _ z=>by simp[DataW.atKey]⟩,fun _ h=>h.elim,id,id,fun _ _ h=>h⟩
theorem cst_take (t:Nat)(h:t<2): [cst 0,cst 1].take (t+1)= [cst 0,cst 1].take t++ [cst t]∧cst t∉ [cst 0,cst 1].take t:=by
 obtain rfl|rfl:t=0∨t=1:=by omega
 ·exact⟨rfl,by simp⟩
 refine⟨rfl,fun h=> ?_⟩
 have h1:cst ((1:Nat):Int)=cst 0:=by simpa using h
 have:=congrArg Nd.kind h1
 exact absurd this (by decide)

def NN (w w':World)(e:Ending):Prop:=
 ∃pm pa C nv bm X D,e= .returned (.pointer (some ⟨pa,0,none⟩))∧AS w' pa pm [cst 0,cst 1] C 2097152 nv bm X D∧MB w' pm 2000 8 0 0∧¬FF pa bm nv C pm∧(∀b,FF pa bm nv C b→w.heap.size≤b)∧w.heap.size≤pm∧Below w.heap.size w w'
theorem nw_nn {w w1 w':World}{e:Ending}{pm:Nat}(h:NW w1 w' e pm)(hM:MB w1 pm 2000 8 0 0)(k:Below w.heap.size w w1∧w.heap.size≤pm):NN w w' e:=by
 obtain⟨pa,C,nv,bm,X,D,h1,h2,h3,h4⟩:=h
 have hl:=hM.lt
 exact⟨pm,pa,C,nv,bm,X,D,h1,h2,hM.below h4,fun hf=>by have:=h3 pm hf;omega,fun b hb=>Nat.le_trans k.1.size (h3 b hb),k.2,grow_step h4 k.1⟩
theorem newN_n {w:World}(htab:Tab w):Calls Tryz.prog 10 #[.pointer none] w fun e w'=>NN w w' e:=by
 go_enter Tryz.func10,Tryz.ntmps10
 go_wp2_with fail
 refine(new_n (by decide) (by decide) (by decide) (by decide)).mono ?_
 rintro e w1 ⟨rfl,hM1,k1⟩
 have htab1:=htab.below k1
 have k0:Below w.heap.size w w1∧w.heap.size≤w.heap.size:=⟨k1,Nat.le_refl _⟩
 generalize hpm:w.heap.size=pm at hM1 ⊢
 replace k0:Below w.heap.size w w1∧w.heap.size≤pm:=⟨k0.1,Nat.le_of_eq hpm⟩
 clear hpm k1
 have hmk:=run_makeMap (P:=Tryz.prog) 72 w1
 go_wp2_with fail
 clear hmk
 have b0:Below w1.heap.size w1 (((w1.alloc (.map #[] 0)).alloc (.cells #[.pointer (some ⟨pm,0,none⟩),.slice none 0 0,.map (some w1.heap.size)] 75)).alloc (.cells #[.int .i64 0,.int .i64 1] 3)):=below_alloc' (below_alloc' (below_alloc _ _) _) _
 have hlb:(((w1.alloc (.map #[] 0)).alloc (.cells #[.pointer (some ⟨pm,0,none⟩),.slice none 0 0,.map (some w1.heap.size)] 75)).alloc (.cells #[.int .i64 0,.int .i64 1] 3)).heap[w1.heap.size+1+1]? =some (.cells #[.int .i64 0,.int .i64 1] 3 (0,0)):=by
  have:=heap_alloc_new ((w1.alloc (.map #[] 0)).alloc (.cells #[.pointer (some ⟨pm,0,none⟩),.slice none 0 0,.map (some w1.heap.size)] 75)) (.cells #[.int .i64 0,.int .i64 1] 3)
  simpa using this
 have hab:(((w1.alloc (.map #[] 0)).alloc (.cells #[.pointer (some ⟨pm,0,none⟩),.slice none 0 0,.map (some w1.heap.size)] 75)).alloc (.cells #[.int .i64 0,.int .i64 1] 3)).heap[w1.heap.size+1]? =some (.cells #[.pointer (some ⟨pm,0,none⟩),.slice none 0 0,.map (some w1.heap.size)] 75 (0,0)):=by
  have h1:=heap_alloc_new (w1.alloc (.map #[] 0)) (.cells #[.pointer (some ⟨pm,0,none⟩),.slice none 0 0,.map (some w1.heap.size)] 75)
  have h2:=(below_alloc ((w1.alloc (.map #[] 0)).alloc (.cells #[.pointer (some ⟨pm,0,none⟩),.slice none 0 0,.map (some w1.heap.size)] 75)) (.cells #[.int .i64 0,.int .i64 1] 3)).block (w1.heap.size+1) (by simp)
  rw[h2]
  simpa using h1
 have hmp:(((w1.alloc (.map #[] 0)).alloc (.cells #[.pointer (some ⟨pm,0,none⟩),.slice none 0 0,.map (some w1.heap.size)] 75)).alloc (.cells #[.int .i64 0,.int .i64 1] 3)).ownsMap Tryz.prog 9 (plainElem Tryz.prog 3) w1.heap.size 0 (.map []:DataW Value):=((World.ownsMap_made w1 Tryz.prog 9 (plainElem (H:=Value) Tryz.prog 3)).alloc _).alloc _
 have hA0:=as_new hab hmp
 clear hab hmp
 generalize ((w1.alloc (.map #[] 0)).alloc (.cells #[.pointer (some ⟨pm,0,none⟩),.slice none 0 0,.map (some w1.heap.size)] 75)).alloc (.cells #[.int .i64 0,.int .i64 1] 3)=wb at*
 generalize hs:w1.heap.size=s at*
 replace b0:Hid (Below w1.heap.size w1 wb):=hs▸b0
 go_loopw [19] (fun i wr=> ∃(t:Nat) (C:Nat→Prop) (nv:Value) (X:List NR) (D:DataW Value),t≤2∧i= .int .i64 t∧Hid (AS wr (s+1) pm ([cst 0,cst 1].take t) C 2097152 nv s X D)∧Hid (∀b,FF (s+1) s nv C b→s≤b∧b≠s+1+1)∧Hid (wr.heap[s+1+1]? =some (.cells #[.int .i64 0,.int .i64 1] 3 (0,0)))∧Hid (Below w1.heap.size w1 wr)) (fun i _=>2-(intOf i).toNat)
 case atStart=>exact⟨0,_,_,_,_,by omega,rfl,hA0,(fun b hb=>by rcases hb with rfl|rfl|hb|hb <;> first|omega|(cases hb)),hlb,b0⟩
 case round=>
  obtain⟨t,C,nv,X,D,ht,rfl,hA,hF,hl,kr⟩:=hrel
  by_cases htn:t<2
  ·have hc0:wr.cell? ⟨s+1+1,t,none⟩=some (.int .i64 (t:Int)):=by
    rw[cell_of_row _ (s+1+1) t _ _ (0,0) hl.out]
    obtain rfl|rfl:t=0∨t=1:=by omega
    ·rfl
    rfl
   obtain⟨htk,hnew⟩:=cst_take t htn
   have y:=NB.new wr (t:Int) false none 0 0 none 0 0 false none 0 0 0 none 0 0
   have ka:=below_alloc wr (.cells #[.int .i64 (t:Int),.bool false,.slice none 0 0,.slice none 0 0,.bool false,.slice none 0 0,.int .i64 0,.slice none 0 0] 77)
   have hA1:=hA.out.below ka
   have hT1:=htab1.below (grow_step ka kr.out)
   have hl1:=(ka.block (s+1+1) (Array.getElem?_eq_some_iff.1 hl.out).1).trans hl.out
   have kr1:=grow_step ka kr.out
   replace y:=hide y
   replace hA1:=hide hA1
   go_wp2_with fail
   clear hc0
   replace y:=y.out
   replace hA1:=hA1.out
   have hq:s+1+1<wr.heap.size:=(Array.getElem?_eq_some_iff.1 hl.out).1
   generalize wr.alloc (.cells #[.int .i64 (t:Int),.bool false,.slice none 0 0,.slice none 0 0,.bool false,.slice none 0 0,.int .i64 0,.slice none 0 0] 77)=wq at*
   generalize hqe:wr.heap.size=q at*
   refine wp_region_held_drew (S:=(fun w'=>w'.cell? ⟨q,0,none⟩=some (.int .i64 (t:Int))∧w'.cell? ⟨q,1,none⟩=some (.bool false)∧w'.cell? ⟨q,2,none⟩=some (.slice none 0 0)∧w'.cell? ⟨q,3,none⟩=some (.slice none 0 0)∧w'.cell? ⟨q,4,none⟩=some (.bool false)∧w'.cell? ⟨q,5,none⟩=some (.slice none 0 0)∧w'.cell? ⟨q,6,none⟩=some (.int .i64 0)∧w'.cell? ⟨q,7,none⟩=some (.slice none 0 0))) k_f (lay_S y) (fun hHeld=> ?_)
   show wpAnyH _ _ _ _ _ 5 _ _ _
   refine tkz 0 25 ?_
   (try simp only[pz])
   refine tkz 1 26 ?_
   (try simp only[pz])
   refine tkz 2 27 ?_
   (try simp only[pz])
   refine ryz 3 (some 28) (fun K hK=> ?_) AllReadyH.nil
   go_simp
   refine Calls.mono (text_n (w:=wq.drew) (kids:=[]) (ps:=[]) (d:=0) (k:=0) (B:=0) (zn_zero _) o_m (pn_nil _ _ _) (zn_zero _) o_m ⟨rfl,.inl rfl⟩ (by unfold I64;omega) (by unfold I64;decide) o_m o_m o_m hT1) ?_
   rintro e w2 ⟨rfl,k2⟩
   replace k2:=grow_step k2 (grow_drew (Below.refl _ _))
   have y:=y.below k2
   have hA1:=hA1.below k2
   (try go_wp2_with fail)
   refine hK.out _ _ ?_ ?_
   ·(try dsimp only);exact lay_S y
   clear hK K hHeld;intro hHeld
   (try simp only[pz])
   refine ryz 4 (some 29) (fun K hK=> ?_) AllReadyH.nil
   go_simp
   refine Calls.mono (lay_n (w:=w2) (kids:=[]) (ps:=[]) (d:=0) (k:=0) hA1 (zn_zero _) o_m (pn_nil _ _ _) (zn_zero _) o_m ⟨rfl,.inl rfl⟩ (by unfold I64;omega) (by unfold I64;decide) o_m o_m o_m (by simp;omega) hnew (txt_length (w:=w2) (ap:=none) (np:=0) (ka:=none) (kn:=0) (B:=0) (zn_zero _) o_m (pn_nil _ _ _) (zn_zero _) o_m ⟨rfl,.inl rfl⟩ (by unfold I64;omega) (by unfold I64;decide) o_m o_m o_m)) ?_
   rintro e w3 ⟨rfl,C',nv',X',D',hA3,hF3,hB3⟩
   have y3:NB w3 q (t:Int) false none 0 0 none 0 0 false none 0 0 0 none 0 0:=(hB3.block q y.lt (fun hf=>by have h1:=hA.out.fl hf;omega)).trans y
   (try go_wp2_with fail)
   refine hK.out _ _ ?_ ?_
   ·(try dsimp only);exact lay_S y3
   clear hK K hHeld;intro hHeld
   (try simp only[pz])
   refine wpAnyH_done k_f ?_ _
   have hA4:Hid (AS w3 (s+1) pm ([cst 0,cst 1].take (t+1)) C' 2097152 nv' s X' D'):=hide (by rw[htk];exact hA3)
   have h2q:q<w2.heap.size:=y.lt
   have hF4:Hid (∀b,FF (s+1) s nv' C' b→s≤b∧b≠s+1+1):=hide fun b hb=>(hF3 b hb).elim (hF.out b) fun h=>⟨by omega,by omega⟩
   have hl2:=(k2.block (s+1+1) (Array.getElem?_eq_some_iff.1 hl1).1).trans hl1
   have hl4:Hid (w3.heap[s+1+1]? =some (.cells #[.int .i64 0,.int .i64 1] 3 (0,0))):=hide ((hB3.block (s+1+1) o_m (fun hf=>(hF.out _ hf).2 rfl)).trans hl2)
   have k4:Hid (Below w1.heap.size w1 w3):=hide ((grow_step k2 kr1).trans (hB3.below (fun b hb=>by have:=(hF.out b hb).1;omega) o_m))
   clear hHeld hA3 hF3 hB3 y y3 hA1 k2 hl1 hl2 kr1 hA hF hl kr ka hT1 hA0 hlb
   go_wp2
   exact⟨⟨t+1,C',nv',X',D',by omega,by go_num,hA4,hF4,hl4,k4⟩,by simp[intOf];omega⟩
  obtain rfl:t=2:=by omega
  have hfin:Hid (NW w1 wr (.returned (.pointer (some ⟨s+1,0,none⟩))) pm):=hide ⟨s+1,C,nv,s,X,D,rfl,hA.out,fun b hb=>by have:=(hF.out b hb).1;omega,kr.out⟩
  clear hA hF hl kr hA0 hlb
  go_wp2
  go_ret
  exact nw_nn hfin.out hM1 k0
end Nt
namespace Nt

def lck (n:Nat)(id:Int):Bool:=decide (id<0∨(n:Int)≤id)

theorem index8_n {w:World}{pa pm:Nat}{L:List Nd}{C:Nat→Prop}{B:Nat}{nv:Value}{bm:Nat}{X:List NR}{D:DataW Value}{ka:Option Addr}{kc:Nat}{l:List Int}(hA:AS w pa pm L C B nv bm X D)(hI:IL w ka l.length l)(hm:l.length≤4194304):
  Calls Tryz.prog 103 #[.slice ka l.length kc,.func (.func 52) #[.pointer (some ⟨pa,0,none⟩)] #[]] w fun x w'=> ∃i:Int,x= .returned (.int .i64 i)∧(decide (0≤i)=l.any (lck L.length))∧-1≤i∧i<l.length∧w'=w:=by
 go_enter Tryz.func103,Tryz.ntmps103
 go_wp2_with fail
 go_loopw [8] (fun i wr=> ∃t:Nat,t≤l.length∧i= .int .i64 t∧Hid ((l.take t).any (lck L.length)=false)∧wr=w) (fun i _=>l.length-(intOf i).toNat)
 case atStart=>exact⟨0,Nat.zero_le _,rfl,(show _=_ by simp),rfl⟩
 case round=>
  obtain⟨t,ht,rfl,hno,rfl⟩:=hrel
  by_cases htm:t<l.length
  ·rcases hI.2 with h0|⟨bp,op,rfl,hbp,hLL⟩
   ·omega
   obtain⟨e0,hx⟩:=hLL t htm
   have hstep:Hid ((l.take (t+1)).any (lck L.length)=lck L.length l[t]):=(show _=_ by rw[List.take_succ_eq_append_getElem (l:=l) (i:=t) o_m,List.any_append,hno.out];simp)
   have hex:Hid (lck L.length l[t]=true→l.any (lck L.length)=true):=(fun hh=>List.any_eq_true.2 ⟨l[t],List.getElem_mem _,hh⟩)
   generalize l[t]=lt at*
   clear hI hLL
   go_wp2_with fail
   refine(lacks_n hA lt).mono ?_
   rintro x w2 ⟨rfl,rfl⟩
   cases hil:lck L.length lt with
   |true=>
    have hany:=hide (hex.out hil)
    unfold lck at hil
    rw[hil]
    clear hil
    go_wp2
    go_ret
    exact⟨t,rfl,by rw[hany.out];simp,by omega,by omega,rfl⟩
   |false=>
    have hst:=hide (hstep.out.trans hil)
    unfold lck at hil
    rw[hil]
    clear hil
    go_wp2
    go_round
    case rel=>exact⟨t+1,by omega,by go_num,hst,by trivial⟩
    case measure=>simp[intOf];omega
  obtain rfl:t=l.length:=by omega
  have hall:Hid (l.any (lck L.length)=false):=by
   have h1:=hno.out
   rw[List.take_of_length_le (Nat.le_refl _)]at h1
   exact h1
  clear hno
  go_wp2
  go_ret
  exact⟨-1,rfl,by rw[hall.out];rfl,by omega,by omega,rfl⟩

theorem contains8_n {w:World}{pa pm:Nat}{L:List Nd}{C:Nat→Prop}{B:Nat}{nv:Value}{bm:Nat}{X:List NR}{D:DataW Value}{ka:Option Addr}{kc:Nat}{l:List Int}(hA:AS w pa pm L C B nv bm X D)(hI:IL w ka l.length l)(hm:l.length≤4194304):
  Calls Tryz.prog 53 #[.slice ka l.length kc,.func (.func 52) #[.pointer (some ⟨pa,0,none⟩)] #[]] w fun x w'=>x= .returned (.bool (l.any (lck L.length)))∧w'=w:=by
 go_enter Tryz.func53,Tryz.ntmps53
 go_wp2_with fail
 refine(index8_n hA hI hm).mono ?_
 rintro x w2 ⟨i,rfl,hi,hi1,hi2,rfl⟩
 replace hi:=hide hi
 go_wp2
 go_ret
 exact⟨by rw[←hi.out];rfl,rfl⟩
end Nt
namespace Nt

def JO (w w':World)(e:Ending)(pa pm:Nat)(L:List Nd)(C:Nat→Prop)(B:Nat)(nv:Value)(bm:Nat)(nn kk c er kd:Int)(l:List Int):Prop:=
 if ¬(kd=5∨kd=6)then e= .returned (.tuple #[.int .i64 0,.int .i64 1])∧w'=w
 else if l.any (lck L.length)=true then e= .returned (.tuple #[.int .i64 0,.int .i64 80])∧w'=w
 else match ris l with
  | []=>e= .returned (.tuple #[.int .i64 (if kd=5 then 1 else 0),.int .i64 0])∧Below w.heap.size w w'
  | [x]=>e= .returned (.tuple #[.int .i64 x,.int .i64 0])∧Below w.heap.size w w'
  |x::y::t=>MD w w' e pa pm L C B nv bm nn kk c er ⟨kd,0,[],0,0,x::y::t⟩
theorem ris_len (l:List Int):(ris l).length≤l.length:=by
 have h:=compact_len (l.mergeSort fun x y=>decide (x≤y))
 rwa [List.length_mergeSort]at h

theorem join8_n {w:World}{pa pm:Nat}{L:List Nd}{C:Nat→Prop}{nv:Value}{bm:Nat}{X:List NR}{D:DataW Value}{nn kk c er:Int}{kd:Int}{ka:Option Addr}{kc:Nat}{l:List Int}
  (hA:AS w pa pm L C 2097152 nv bm X D)(hM:MB w pm nn kk c er)(hpm: ¬FF pa bm nv C pm)(hc:0≤c)(hcn:c≤nn)(hnn:nn≤2000)(he:0≤er)(he2:er<256)(hI:IL w ka l.length l)(hl:l.length≤1048576)(hL:L.length≤1048576)(htab:Tab w):
  Calls Tryz.prog 40 #[.pointer (some ⟨pa,0,none⟩),.int .i64 kd,.slice ka l.length kc] w fun e w'=>JO w w' e pa pm L C 2097152 nv bm nn kk c er kd l:=by
 by_cases hb:kd=5∨kd=6
 ·cases ha:l.any (lck L.length)with
  |true=>
   rcases hb with rfl|rfl
   all_goals
    go_enter Tryz.func40,Tryz.ntmps40
    go_wp2_with(go_at_call 53;refine(contains8_n hA hI o_m).mono ?_;rintro e w1 ⟨rfl,rfl⟩;rw[ha])
    refine bodyPost_ret (results_tmp2 rfl _ _ _) rfl ?_
    unfold JO
    rw[if_neg (by decide),if_pos ha]
    exact⟨rfl,rfl⟩
  |false=>
   have hrl:=ris_len l
   rcases hb with rfl|rfl
   ·go_enter Tryz.func40,Tryz.ntmps40
    go_wp2_with(go_at_call 53;refine(contains8_n hA hI o_m).mono ?_;rintro e w1 ⟨rfl,rfl⟩;rw[ha])
    refine(rising_n hI o_m).mono ?_
    rintro e w2 ⟨a2,c2,rfl,hI2,hn2,k2⟩
    cases hr:ris l with
    |nil=>
     simp only[List.length_nil]
     clear hI2 hn2 hA hM hI htab
     go_wp2
     refine bodyPost_ret (results_tmp2 rfl _ _ _) rfl ?_
     unfold JO
     rw[if_neg (by decide),if_neg (by rw[ha];decide),hr]
     exact⟨rfl,k2⟩
    |cons x t=>
     cases t with
     |nil=>
      rw[hr]at hI2
      rcases hI2.2 with h0|⟨b,off,rfl,hb,hI3⟩
      ·exact absurd h0 (by simp)
      obtain⟨e0,-⟩:=hI3 0 (by simp)
      simp only[Nat.add_zero,List.getElem_cons_zero]at e0
      simp only[List.length_cons,List.length_nil,Nat.zero_add]
      clear hI2 hI3 hn2 hA hM hI htab
      go_wp2
      refine bodyPost_ret (results_tmp2 rfl _ _ _) rfl ?_
      unfold JO
      rw[if_neg (by decide),if_neg (by rw[ha];decide),hr]
      exact⟨rfl,k2⟩
     |cons y t=>
      rw[hr]at hI2 hn2 hrl
      have hml:=hM.lt
      have hkp:InF (fun b=>b≠pm) a2 (x::y::t).length:=fun b off e h0=>by have:=hn2 b off e h0;omega
      have hl2:1<(x::y::t).length:=by simp
      generalize hgt:x::y::t=m at*
      generalize hgl:m.length=ml at*
      have hmade:=made_n (kc:=c2) (sd:=false) (ad:=none) (ld:=0) (cd:=0) (ap:=none) (np:=0) (cp:=0) (sk:=false) (ak:=none) (lk:=0) (ck:=0) (d:=0) (k:=0) (ps:=[]) (vr:=0) (hA.below k2) (hM.below k2) hpm hc hcn hnn he he2 (zn_zero _) o_m (pn_nil _ _ _) (zn_zero _) o_m hI2 hkp (show I64 (5:Int)by unfold I64;decide) (by unfold I64;decide) o_m o_m o_m hL (htab.below k2)
      replace hmade:=hide hmade
      clear hI2 hA hM hI htab hkp hn2
      go_wp2_with fail
      refine hmade.out.mono ?_
      rintro e w3 hMD
      have hMD2:=hide (md_back hMD k2)
      obtain⟨ra,rb,rfl⟩: ∃ra rb:Int,e= .returned (.tuple #[.int .i64 ra,.int .i64 rb]):=by
       rcases hMD with⟨i,_,h2,_⟩|⟨_,_,h3,_⟩|⟨_,_,h3,_⟩
       ·exact⟨_,_,h2⟩
       ·exact⟨_,_,h3⟩
       exact⟨_,_,h3⟩
      clear hMD hmade
      go_wp2
      refine bodyPost_ret (results_tmp2 rfl _ _ _) rfl ?_
      unfold JO
      rw[if_neg (by decide),if_neg (by rw[ha];decide),hr,←hgt]
      rw[←hgt]at hMD2
      exact hMD2.out
   go_enter Tryz.func40,Tryz.ntmps40
   go_wp2_with(go_at_call 53;refine(contains8_n hA hI o_m).mono ?_;rintro e w1 ⟨rfl,rfl⟩;rw[ha])
   refine(rising_n hI o_m).mono ?_
   rintro e w2 ⟨a2,c2,rfl,hI2,hn2,k2⟩
   cases hr:ris l with
   |nil=>
    simp only[List.length_nil]
    clear hI2 hn2 hA hM hI htab
    go_wp2
    refine bodyPost_ret (results_tmp2 rfl _ _ _) rfl ?_
    unfold JO
    rw[if_neg (by decide),if_neg (by rw[ha];decide),hr]
    exact⟨rfl,k2⟩
   |cons x t=>
    cases t with
    |nil=>
     rw[hr]at hI2
     rcases hI2.2 with h0|⟨b,off,rfl,hb,hI3⟩
     ·exact absurd h0 (by simp)
     obtain⟨e0,-⟩:=hI3 0 (by simp)
     simp only[Nat.add_zero,List.getElem_cons_zero]at e0
     simp only[List.length_cons,List.length_nil,Nat.zero_add]
     clear hI2 hI3 hn2 hA hM hI htab
     go_wp2
     refine bodyPost_ret (results_tmp2 rfl _ _ _) rfl ?_
     unfold JO
     rw[if_neg (by decide),if_neg (by rw[ha];decide),hr]
     exact⟨rfl,k2⟩
    |cons y t=>
     rw[hr]at hI2 hn2 hrl
     have hml:=hM.lt
     have hkp:InF (fun b=>b≠pm) a2 (x::y::t).length:=fun b off e h0=>by have:=hn2 b off e h0;omega
     have hl2:1<(x::y::t).length:=by simp
     generalize hgt:x::y::t=m at*
     generalize hgl:m.length=ml at*
     have hmade:=made_n (kc:=c2) (sd:=false) (ad:=none) (ld:=0) (cd:=0) (ap:=none) (np:=0) (cp:=0) (sk:=false) (ak:=none) (lk:=0) (ck:=0) (d:=0) (k:=0) (ps:=[]) (vr:=0) (hA.below k2) (hM.below k2) hpm hc hcn hnn he he2 (zn_zero _) o_m (pn_nil _ _ _) (zn_zero _) o_m hI2 hkp (show I64 (6:Int)by unfold I64;decide) (by unfold I64;decide) o_m o_m o_m hL (htab.below k2)
     replace hmade:=hide hmade
     clear hI2 hA hM hI htab hkp hn2
     go_wp2_with fail
     refine hmade.out.mono ?_
     rintro e w3 hMD
     have hMD2:=hide (md_back hMD k2)
     obtain⟨ra,rb,rfl⟩: ∃ra rb:Int,e= .returned (.tuple #[.int .i64 ra,.int .i64 rb]):=by
      rcases hMD with⟨i,_,h2,_⟩|⟨_,_,h3,_⟩|⟨_,_,h3,_⟩
      ·exact⟨_,_,h2⟩
      ·exact⟨_,_,h3⟩
      exact⟨_,_,h3⟩
     clear hMD hmade
     go_wp2
     refine bodyPost_ret (results_tmp2 rfl _ _ _) rfl ?_
     unfold JO
     rw[if_neg (by decide),if_neg (by rw[ha];decide),hr,←hgt]
     rw[←hgt]at hMD2
     exact hMD2.out
 go_enter Tryz.func40,Tryz.ntmps40
 have h5:(kd !=5)=true:=by simp;omega
 have h6:(kd !=6)=true:=by simp;omega
 go_wp2
 refine bodyPost_ret (results_tmp2 rfl _ _ _) rfl ?_
 unfold JO
 rw[if_pos hb]
 exact⟨rfl,rfl⟩
end Nt
namespace Nt
theorem upto_rises {d:Array Int}(hs: ∀i j,i≤j→j<d.size→d[i]!≤d[j]!): ∀m,m≤d.size→(Lib.compactUpTo d m).Pairwise (· < ·)∧∀x∈Lib.compactUpTo d m,∃j,j<m∧x=d[j]!
 |0,_=>⟨by simp[Lib.compactUpTo],by simp[Lib.compactUpTo]⟩
 |m+1,hm=>by
  obtain⟨h1,h2⟩:=upto_rises hs m o_m
  rw[Lib.compactUpTo_succ]
  by_cases hk:Lib.keeps d m=true
  ·rw[if_pos hk]
   refine⟨List.pairwise_append.2 ⟨h1,by simp,fun x hx y hy=> ?_⟩,fun x hx=> ?_⟩
   ·obtain⟨j,hj,rfl⟩:=h2 x hx
    obtain rfl:=List.mem_singleton.1 hy
    have h3:d[m]! ≠d[m-1]!:=by
     have h4:=of_decide_eq_true hk
     rcases h4 with h4|h4
     ·omega
     exact h4
    have h5:=hs j (m-1) o_m o_m
    have h6:=hs (m-1) m o_m o_m
    omega
   rcases List.mem_append.1 hx with h|h
   ·obtain⟨j,hj,e⟩:=h2 x h
    exact⟨j,by omega,e⟩
   exact⟨m,by omega,List.mem_singleton.1 h⟩
  rw[if_neg hk,List.append_nil]
  exact⟨h1,fun x hx=>by obtain⟨j,hj,e⟩:=h2 x hx;exact⟨j,by omega,e⟩⟩
theorem sort_le (l:List Int):(l.mergeSort fun x y=>decide (x≤y)).Pairwise (·≤·):=by
 have h:=List.pairwise_mergeSort (le:=fun x y:Int=>decide (x≤y)) (fun a b c h1 h2=>by simp at*;omega) (fun a b=>by simp;omega) l
 exact h.imp (fun h=>by simpa using h)
theorem ris_rises (l:List Int):(ris l).Pairwise (· < ·):=by
 have h:=sort_le l
 refine(upto_rises (d:=(l.mergeSort fun x y=>decide (x≤y)).toArray) (fun i j hij hj=> ?_) _ (by simp)).1
 have hj2:j<(l.mergeSort fun x y=>decide (x≤y)).length:=by simpa using hj
 rw[getElem!_pos (l.mergeSort fun x y=>decide (x≤y)).toArray i (by simpa using Nat.lt_of_le_of_lt hij hj2),getElem!_pos (l.mergeSort fun x y=>decide (x≤y)).toArray j hj]
 by_cases he:i=j
 ·subst he;exact Int.le_refl _
 exact List.pairwise_iff_getElem.1 h i j _ _ o_m
structure St where
 L:List Nd
 c:Int
 er:Int
def nums (n:Nd):List Int:=n.d::n.k::n.ps.map Prod.snd
def Uq (L:List Nd):Prop:=∀(i j:Nat) (n:Nd),L[i]? =some n→L[j]? =some n→i=j
open Classical in
def eqn (a b:Nd):Bool:=decide (a.kind=b.kind∧a.d=b.d∧a.ps=b.ps∧a.k=b.k∧a.var=b.var∧a.kids=b.kids)
theorem eqn_iff (a b:Nd):eqn a b=true↔a=b:=by
 cases a
 cases b
 simp[eqn]
def spot (L:List Nd)(n:Nd):Nat:=L.findIdx (eqn n)
theorem spot_at {L:List Nd}{n:Nd}(h: ∃i:Nat,L[i]? =some n):spot L n<L.length∧L[spot L n]? =some n:=by
 obtain⟨i,hi⟩:=h
 have h1:spot L n<L.length:=List.findIdx_lt_length_of_exists ⟨n,List.mem_of_getElem? hi,(eqn_iff n n).2 rfl⟩
 refine⟨h1,?_⟩
 have h2:eqn n (L[spot L n]'h1)=true:=List.findIdx_getElem (w:=h1)
 rw[List.getElem?_eq_getElem h1,←(eqn_iff _ _).1 h2]
theorem spot_no {L:List Nd}{n:Nd}(h: ¬ ∃i:Nat,L[i]? =some n): ¬spot L n<L.length:=fun h1=>h ⟨spot L n,by
 have h2:eqn n (L[spot L n]'h1)=true:=List.findIdx_getElem (w:=h1)
 rw[List.getElem?_eq_getElem h1,←(eqn_iff _ _).1 h2]⟩
theorem mstep_cases (nn kk c e:Int)(zs:List Int):(e≠0∧mstep nn kk c e zs=(e,c,e))∨(e=0∧∃r,r≠0∧mstep nn kk c e zs=(r,c,r)∧(r=70∨r=71))∨(e=0∧mstep nn kk c e zs=(0,c+1,0)∧(zs.any fun z=>decide (kk<(lim z:Int)))=false∧1≤nn-c):=by
 unfold mstep
 by_cases h:e≠0
 ·rw[if_pos h];exact .inl ⟨h,rfl⟩
 rw[if_neg h]
 have h0:e=0:=Decidable.not_not.1 h
 by_cases h1:(zs.any fun z=>decide (kk<(lim z:Int)))=true
 ·rw[if_pos h1];exact .inr (.inl ⟨h0,71,by decide,rfl,.inr rfl⟩)
 rw[if_neg h1]
 by_cases h2:nn-c<1
 ·rw[if_pos h2];exact .inr (.inl ⟨h0,70,by decide,rfl,.inl rfl⟩)
 rw[if_neg h2];exact .inr (.inr ⟨h0,rfl,by simpa using h1,by omega⟩)
theorem form_fit {kind d:Int}{ps:List (Int × Int)}{k:Int}{f:Atm}(h:formA kind d (nz (lays [] ps)) k= .inl f):Fit f:=formA_fit (std_lays ps) h
def st0 :St:=⟨[cst 0,cst 1],0,0⟩
end Nt
namespace Nt

theorem upto_has {d:Array Int}: ∀m j,j<m→d[j]! ∈Lib.compactUpTo d m
 |0,j,h=>absurd h o_m
 |m+1,j,h=>by
  rw[Lib.compactUpTo_succ]
  by_cases hj:j<m
  ·exact List.mem_append_left _ (upto_has m j hj)
  obtain rfl:j=m:=by omega
  by_cases hk:Lib.keeps d j=true
  ·rw[if_pos hk]
   simp
  have h4: ¬(j=0∨d[j]! ≠d[j-1]!):=fun e=>hk (decide_eq_true e)
  have h5:j≠0:=fun e=>h4 (.inl e)
  have h6:d[j]! =d[j-1]!:=Decidable.byContradiction fun e=>h4 (.inr e)
  rw[h6]
  exact List.mem_append_left _ (upto_has j (j-1) o_m)
theorem mem_ris (l:List Int)(x:Int):x∈ris l↔x∈l:=by
 refine⟨ris_mem,fun h=> ?_⟩
 have h1:x∈l.mergeSort fun x y=>decide (x≤y):=List.mem_mergeSort.2 h
 obtain⟨j,hj,rfl⟩:=List.mem_iff_getElem.1 h1
 have h2:=upto_has (d:=(l.mergeSort fun x y=>decide (x≤y)).toArray) (l.mergeSort fun x y=>decide (x≤y)).length j hj
 rw[getElem!_pos _ _ (by simpa using hj)]at h2
 simpa [ris,Lib.compact] using h2
end Nt
namespace Nt

structure AG (w:World) (pa pm:Nat) (nn kk:Int) (s:St) (F:Nat→Prop):Prop where
 ar: ∃C nv bm X D,AS w pa pm s.L C 2097152 nv bm X D∧¬FF pa bm nv C pm∧∀b,FF pa bm nv C b→F b
 mb:MB w pm nn kk s.c s.er
 c0:0≤s.c
 cn:s.c≤nn
 n2:nn≤2000
 e0:0≤s.er
 e2:s.er<256
 ln:(s.L.length:Int)≤s.c+2
 fl: ∀b,F b→b<w.heap.size
theorem AS.uq {w:World}{pa pm:Nat}{L:List Nd}{C:Nat→Prop}{B:Nat}{nv:Value}{bm:Nat}{X:List NR}{D:DataW Value}(h:AS w pa pm L C B nv bm X D):Uq L:=by
 intro i j n hi hj
 obtain⟨hi1,hi2⟩:=List.getElem?_eq_some_iff.1 hi
 obtain⟨hj1,hj2⟩:=List.getElem?_eq_some_iff.1 hj
 have e1:=h.is.1 i hi1 .nil
 have e2:=h.is.1 j hj1 .nil
 rw[hi2]at e1
 rw[hj2,e1]at e2
 injection e2 with e2
 injection e2 with _ e2
 omega
theorem AG.below {w w':World}{pa pm:Nat}{nn kk:Int}{s:St}{F:Nat→Prop}(h:AG w pa pm nn kk s F)(k:Below w.heap.size w w'):AG w' pa pm nn kk s F:=by
 obtain⟨⟨C,nv,bm,X,D,h1,h2,h3⟩,h4,h5,h6,h7,h8,h9,h10,h11⟩:=h
 exact⟨⟨C,nv,bm,X,D,h1.below k,h2,h3⟩,h4.below k,h5,h6,h7,h8,h9,h10,fun b hb=>Nat.lt_of_lt_of_le (h11 b hb) k.size⟩
theorem but_butF {w w':World}{p:Nat}{F:Nat→Prop}(h:But p w w'):ButF (fun b=>b=p∨F b) w w':=⟨h.os,h.tape,h.output,h.size,fun i hi hn=>h.block i hi fun e=>hn (.inl e)⟩
theorem new_ag {w:World}(htab:Tab w):Calls Tryz.prog 10 #[.pointer none] w fun e w'=> ∃pa pm F,e= .returned (.pointer (some ⟨pa,0,none⟩))∧AG w' pa pm 2000 8 st0 F∧(∀b,F b→w.heap.size≤b)∧w.heap.size≤pm∧Below w.heap.size w w':=by
 refine(newN_n htab).mono ?_
 rintro e w' ⟨pm,pa,C,nv,bm,X,D,rfl,hA,hM,hpm,hF,hpw,k⟩
 exact⟨pa,pm,FF pa bm nv C,rfl,⟨⟨C,nv,bm,X,D,hA,hpm,fun _ hb=>hb⟩,hM,by decide,by decide,by decide,by decide,by decide,by decide,fun b hb=>hA.fl hb⟩,hF,hpw,k⟩
end Nt
namespace Nt

end Nt
namespace Nt

theorem own_move {w w':World}{base:Nat}{ty:TypeId}{st n:Nat}{v:Value}{l:List Value}(h:w.ownsRow base ty st v n l)(hm: ∀g,v.ownBlock=some g→w'.heap[g]? =w.heap[g]?):w'.ownsRow base ty st v n l:=by
 obtain⟨h1,h2⟩:=h
 refine⟨h1,?_⟩
 rcases h2 with h2|⟨g,cap,cur,e1,e2,e3,e4⟩
 ·exact .inl h2
 exact .inr ⟨g,cap,cur,e1,e2,(hm g (by rw[e1];rfl)).trans e3,e4⟩
end Nt
namespace Nt

end Nt
namespace Nt

theorem lim_0 :lim 0=0:=by
 unfold lim
 rw[show(0:Int).natAbs=0 from rfl]
 rw[limbs_def]
 rfl
theorem lim_1 :lim 1=1:=by
 unfold lim
 rw[show(1:Int).natAbs=1 from rfl]
 rw[limbs_def]
 rw[dif_neg (by decide),show 1 / 4294967296=0 from rfl]
 rw[limbs_def]
 rfl
theorem not_in {L:List Nd}{n:Nd}(h: ∀x∈L,x.kind≠n.kind)(i:Nat):L[i]? ≠some n:=fun hi=>h n (List.mem_of_getElem? hi) rfl
end Nt
namespace Nt

structure AX (w:World) (pa pm:Nat) (L:List Nd) (F:Nat→Prop):Prop where
 ar: ∃C nv bm X D,AS w pa pm L C 2097152 nv bm X D∧¬FF pa bm nv C pm∧∀b,FF pa bm nv C b→F b
 fl: ∀b,F b→b<w.heap.size
theorem AG.ax {w:World}{pa pm:Nat}{nn kk:Int}{s:St}{F:Nat→Prop}(h:AG w pa pm nn kk s F):AX w pa pm s.L F:=⟨h.ar,h.fl⟩
theorem AX.move {w w':World}{pa pm:Nat}{L:List Nd}{F:Nat→Prop}(h:AX w pa pm L F)(hs:w.heap.size≤w'.heap.size)(hm: ∀b,F b→w'.heap[b]? =w.heap[b]?):AX w' pa pm L F:=by
 obtain⟨⟨C,nv,bm,X,D,h1,h2,h3⟩,h11⟩:=h
 exact⟨⟨C,nv,bm,X,D,h1.move hs fun b hb=>hm b (h3 b hb),h2,h3⟩,fun b hb=>Nat.lt_of_lt_of_le (h11 b hb) hs⟩
theorem AX.below {w w':World}{pa pm:Nat}{L:List Nd}{F:Nat→Prop}(h:AX w pa pm L F)(k:Below w.heap.size w w'):AX w' pa pm L F:=h.move k.size fun b hb=>k.block b (h.fl b hb)
theorem InF.mono {a:Option Addr}{n:Nat}{G H:Nat→Prop}(h:InF G a n)(hG: ∀b,G b→H b):InF H a n:=fun b off e h0=>hG b (h b off e h0)

end Nt
namespace Nt

theorem flat_get : ∀(X:List NR) (i j:Nat) (h:i<X.length),j<8→(X.flatMap NR.enc)[i*8+j]? =(X[i].enc)[j]?
 | [],i,j,h,_=>absurd h (Nat.not_lt_zero _)
 |x::X,0,j,_,hj=>by
  rw[List.flatMap_cons,List.getElem?_append_left (by simp[NR.enc];omega)]
  simp
 |x::X,i+1,j,h,hj=>by
  rw[List.flatMap_cons,List.getElem?_append_right (by simp[NR.enc];omega)]
  have h1:=flat_get X i j (by simpa using h) hj
  rw[show(i+1)*8+j-x.enc.length=i*8+j by simp[NR.enc];omega,h1]
  rfl
theorem AS.cell {w:World}{pa pm:Nat}{L:List Nd}{C:Nat→Prop}{B:Nat}{nv:Value}{bm:Nat}{X:List NR}{D:DataW Value}(h:AS w pa pm L C B nv bm X D){i:Nat}(hi:i<L.length):
  ∃g cap,nv= .slice (some ⟨g,0,none⟩) L.length cap∧∀j,j<8→∀(hX:i<X.length),w.cell? ⟨g,i*8+j,none⟩=(X[i].enc)[j]?:=by
 rcases h.row.2 with⟨_,h0⟩|⟨g,cap,cur,e1,_,e3,h1,h2,h3,h4⟩
 ·omega
 refine⟨g,cap,e1,fun j hj hX=> ?_⟩
 rw[cell_of_row w g (i*8+j) _ _ (0,0) e3,←flat_get X i j hX hj,←h4,List.getElem?_take,if_pos o_m]
 simp
def nE (x:NR):Array Value:=#[.int .i64 x.kd,.bool x.sd,.slice x.ad x.ld x.cd,.slice x.ap x.np x.cp,.bool x.sk,.slice x.ak x.lk x.ck,.int .i64 x.vr,.slice x.ka x.kn x.kc]
def NDF (w w':World)(e:Ending)(n:Nd):Prop:=
 ∃x:NR,e= .returned (.tuple #[.agg (nE x),.bool true])∧x.kd=n.kind∧x.vr=n.var∧Zn w' x.sd x.ad x.ld x.cd n.d∧New w.heap.size x.ad x.ld∧PnF (fun b=>w.heap.size≤b) w' x.ap x.np n.ps 2097152∧Zn w' x.sk x.ak x.lk x.ck n.k∧New w.heap.size x.ak x.lk∧IL w' x.ka x.kn n.kids∧New w.heap.size x.ka x.kn∧Below w.heap.size w w'

theorem node8_f {w:World}{pa pm:Nat}{L:List Nd}{F:Nat→Prop}(h:AX w pa pm L F){i:Nat}(hi:i<L.length):Calls Tryz.prog 43 #[.pointer (some ⟨pa,0,none⟩),.int .i64 (i:Int)] w fun e w'=>NDF w w' e L[i]:=by
 obtain⟨C,nv,bm,X,D,hA,-,-⟩:=h.ar
 have hlk:=hide (lacks_n (hA.below (below_alloc w (.cells #[.int .i64 0,.bool false,.slice none 0 0,.slice none 0 0,.bool false,.slice none 0 0,.int .i64 0,.slice none 0 0] 77))) (i:Int))
 rw[decide_eq_false o_m]at hlk
 have hXi:i<X.length:=by have:=hA.len;omega
 obtain⟨g,cap,rfl,hcell⟩:=hA.cell hi
 have hN:=hA.nodes i hi
 generalize L[i]=n at*
 have hc:=fun j hj=>hcell j hj hXi
 generalize X[i]=x at*
 have e0:=hc 0 (by decide)
 have e1:=hc 1 (by decide)
 have e2:=hc 2 (by decide)
 have e3:=hc 3 (by decide)
 have e4:=hc 4 (by decide)
 have e5:=hc 5 (by decide)
 have e6:=hc 6 (by decide)
 have e7:=hc 7 (by decide)
 clear hc hcell
 simp only[NR.enc,List.getElem?_cons_zero,List.getElem?_cons_succ,Nat.add_zero]at e0 e1 e2 e3 e4 e5 e6 e7
 have u1:w.cell? ⟨pa,1,none⟩=some (.slice (some ⟨g,0,none⟩) L.length cap):=cell_of_row _ pa 1 _ _ (0,0) hA.blk
 have hgl:g<w.heap.size:=World.block_lt_of_cell? w _ e0
 have hpl:=hA.pal
 have b0:=below_alloc w (.cells #[.int .i64 0,.bool false,.slice none 0 0,.slice none 0 0,.bool false,.slice none 0 0,.int .i64 0,.slice none 0 0] 77)
 have y:=NB.new w 0 false none 0 0 none 0 0 false none 0 0 0 none 0 0
 go_enter Tryz.func43,Tryz.ntmps43
 go_wp2_with(go_at_call 52;refine hlk.out.mono ?_;rintro e w1 ⟨rfl,rfl⟩)
 have hsz:(w.alloc (.cells #[.int .i64 0,.bool false,.slice none 0 0,.slice none 0 0,.bool false,.slice none 0 0,.int .i64 0,.slice none 0 0] 77)).heap.size=w.heap.size+1:=by simp
 refine(copied_n (hN.zd.below b0) hN.hld (hN.pn.pn.below b0) (hN.zk.below b0) hN.hlk (hN.kids.below b0) hN.hnp hN.hkn (Nat.le_refl _)).mono ?_
 rintro e w2 ⟨ad,cd,ap,cp,ak,ck,ka,kc,rfl,hz,hn1,hp,hk,hn2,hI,hn3,k2⟩
 have y2:=y.below k2
 replace k2:=hide (grow_step k2 b0)
 rw[hsz]at hn1 hp hn2 hn3
 have hkd:=hN.kd
 have hvr:=hN.vr
 clear hA hN hlk h b0 y hsz e0 e1 e2 e3 e4 e5 e6 e7 u1 hgl hpl
 generalize hpe:w.heap.size=p at*
 replace k2:Hid (Below w.heap.size w w2):=hpe▸k2
 have g0:=y2.c0
 have f0:=y2.f 0
 have g1:=y2.c1
 have f1:=y2.f 1
 have g2:=y2.c2
 have f2:=y2.f 2
 have g3:=y2.c3
 have f3:=y2.f 3
 have g4:=y2.c4
 have f4:=y2.f 4
 have g5:=y2.c5
 have f5:=y2.f 5
 have g6:=y2.c6
 have f6:=y2.f 6
 have g7:=y2.c7
 have f7:=y2.f 7
 iterate 6 (first|go_skip|go_guarded|go_step|go_upon|go_simp)
 clear g0 g1 g2 g3 g4 g5 g6 g7 f0 f1 f2 f3 f4 f5 f6 f7
 have hfin:=hide (nb_fin y2 n.kind x.sd ad x.ld cd ap x.np cp x.sk ak x.lk ck n.var ka x.kn kc)
 have h8:Hid (∀b,b≠p→((((((((w2.setCell ⟨p,0,none⟩ (.int .i64 n.kind)).setCell ⟨p,1,none⟩ (.bool x.sd)).setCell ⟨p,2,none⟩ (.slice ad x.ld cd)).setCell ⟨p,3,none⟩ (.slice ap x.np cp)).setCell ⟨p,4,none⟩ (.bool x.sk)).setCell ⟨p,5,none⟩ (.slice ak x.lk ck)).setCell ⟨p,6,none⟩ (.int .i64 n.var)).setCell ⟨p,7,none⟩ (.slice ka x.kn kc)).heap[b]? =w2.heap[b]?):=hide fun b hb=>heap_eight hb _ _ _ _ _ _ _ _
 have hs8:Hid (w2.heap.size≤((((((((w2.setCell ⟨p,0,none⟩ (.int .i64 n.kind)).setCell ⟨p,1,none⟩ (.bool x.sd)).setCell ⟨p,2,none⟩ (.slice ad x.ld cd)).setCell ⟨p,3,none⟩ (.slice ap x.np cp)).setCell ⟨p,4,none⟩ (.bool x.sk)).setCell ⟨p,5,none⟩ (.slice ak x.lk ck)).setCell ⟨p,6,none⟩ (.int .i64 n.var)).setCell ⟨p,7,none⟩ (.slice ka x.kn kc)).heap.size):=hide (by simp)
 have kz:Hid (Below w.heap.size w ((((((((w2.setCell ⟨p,0,none⟩ (.int .i64 n.kind)).setCell ⟨p,1,none⟩ (.bool x.sd)).setCell ⟨p,2,none⟩ (.slice ad x.ld cd)).setCell ⟨p,3,none⟩ (.slice ap x.np cp)).setCell ⟨p,4,none⟩ (.bool x.sk)).setCell ⟨p,5,none⟩ (.slice ak x.lk ck)).setCell ⟨p,6,none⟩ (.int .i64 n.var)).setCell ⟨p,7,none⟩ (.slice ka x.kn kc))):=hide ((((((((k2.out.setCell (p:=⟨p,0,none⟩) (show w.heap.size≤p by omega) (.int .i64 n.kind)).setCell (p:=⟨p,1,none⟩) (show w.heap.size≤p by omega) (.bool x.sd)).setCell (p:=⟨p,2,none⟩) (show w.heap.size≤p by omega) (.slice ad x.ld cd)).setCell (p:=⟨p,3,none⟩) (show w.heap.size≤p by omega) (.slice ap x.np cp)).setCell (p:=⟨p,4,none⟩) (show w.heap.size≤p by omega) (.bool x.sk)).setCell (p:=⟨p,5,none⟩) (show w.heap.size≤p by omega) (.slice ak x.lk ck)).setCell (p:=⟨p,6,none⟩) (show w.heap.size≤p by omega) (.int .i64 n.var)).setCell (p:=⟨p,7,none⟩) (show w.heap.size≤p by omega) (.slice ka x.kn kc))
 generalize ((((((((w2.setCell ⟨p,0,none⟩ (.int .i64 n.kind)).setCell ⟨p,1,none⟩ (.bool x.sd)).setCell ⟨p,2,none⟩ (.slice ad x.ld cd)).setCell ⟨p,3,none⟩ (.slice ap x.np cp)).setCell ⟨p,4,none⟩ (.bool x.sk)).setCell ⟨p,5,none⟩ (.slice ak x.lk ck)).setCell ⟨p,6,none⟩ (.int .i64 n.var)).setCell ⟨p,7,none⟩ (.slice ka x.kn kc))=w8 at*
 go_wp2
 refine bodyPost_ret (results_ct rfl _ _ p 77 _ (0,0) _ rfl hfin.out Tryz.underlying77 rfl k_f) rfl ?_
 refine⟨⟨n.kind,x.sd,ad,x.ld,cd,ap,x.np,cp,x.sk,ak,x.lk,ck,n.var,ka,x.kn,kc⟩,rfl,rfl,rfl,zn_move hz hs8.out fun b off e1 h0=>h8.out b (by have:=hn1 b off e1 h0;omega),fun b off e1 h0=>by have:=hn1 b off e1 h0;omega,?_,zn_move hk hs8.out fun b off e1 h0=>h8.out b (by have:=hn2 b off e1 h0;omega),fun b off e1 h0=>by have:=hn2 b off e1 h0;omega,il_move hI hs8.out fun b off e1 h0=>h8.out b (by have:=hn3 b off e1 h0;omega),fun b off e1 h0=>by have:=hn3 b off e1 h0;omega,kz.out⟩
 exact((hp.move hs8.out fun b hb _=>h8.out b o_m).pnF).move (Nat.le_refl _) (fun _ _ _=>rfl) fun b hb _=>by omega
end Nt
namespace Nt

theorem zn_limb {w:World}{s:Bool}{a:Option Addr}{l c:Nat}{z:Int}(h:Zn w s a l c z):l=lim z:=by
 obtain⟨n,⟨xs,hr,hc,hv⟩,hz,_⟩:=h
 have e:=canon_limbs hc
 have hl:l=xs.length:=hr.1.symm
 have hn:z.natAbs=(val xs).toNat:=by
  have h0:0≤n:=by rw[←hv];exact val_nonneg hr.2.2.2.1
  cases s <;> simp[sg]at hz <;> omega
 unfold lim
 rw[hn,←e,List.length_map,hl]
theorem pn_limb {w:World}{ad:Option Addr}{n:Nat}{ps:List (Int × Int)}{B B':Nat}(h:Pn w ad n ps B)(hl: ∀p∈ps,lim p.2≤B'):Pn w ad n ps B':=by
 refine⟨h.1,?_⟩
 rcases h.2 with h0|⟨b,off,e,hb,h2⟩
 ·exact .inl h0
 refine .inr ⟨b,off,e,hb,fun i hi=> ?_⟩
 obtain⟨s,a,l,c,c0,c1,c2,hz,_,hi6⟩:=h2 i hi
 exact⟨s,a,l,c,c0,c1,c2,hz,by rw[zn_limb hz];exact hl _ (List.getElem_mem hi),hi6⟩
end Nt
namespace Nt

end Nt
namespace Nt

open Classical in
def putE (nn kk:Int)(s:St)(n:Nd):St × Int × Int:=
 if spot s.L n<s.L.length then(s,(spot s.L n:Int),0)
 else if(mstep nn kk s.c s.er (nums n)).1=0 then(⟨s.L++ [n],(mstep nn kk s.c s.er (nums n)).2.1,(mstep nn kk s.c s.er (nums n)).2.2⟩,(s.L.length:Int),0)
 else(⟨s.L,(mstep nn kk s.c s.er (nums n)).2.1,(mstep nn kk s.c s.er (nums n)).2.2⟩,0,(mstep nn kk s.c s.er (nums n)).1)
theorem putE_found {nn kk:Int}{F:St}{n:Nd}{i:Nat}(hU:Uq F.L)(h:F.L[i]? =some n):putE nn kk F n=(F,(i:Int),0):=by
 have h9: ∃i:Nat,F.L[i]? =some n:=⟨i,h⟩
 unfold putE
 rw[if_pos (spot_at h9).1,hU _ i n (spot_at h9).2 h]
def actA (nn kk:Int)(s:St)(kd d:Int)(ps:List (Int × Int))(k:Int):St × Int × Int:=match formA kd d (nz (lays [] ps)) k with
 | .inr e=>(s,0,e)
 | .inl f=>putE nn kk s ⟨f.kind,f.d,f.ps,f.k,0,[]⟩
def actJ (nn kk:Int)(s:St)(kd:Int)(l:List Int):St × Int × Int:=
 if ¬(kd=5∨kd=6)then(s,0,1)else if l.any (lck s.L.length)=true then(s,0,80)else match ris l with
  | []=>(s,if kd=5 then 1 else 0,0)
  | [x]=>(s,x,0)
  |x::y::t=>putE nn kk s ⟨kd,0,[],0,0,x::y::t⟩
def actB (nn kk:Int)(s:St)(kd v kid:Int):St × Int × Int:=
 if ¬(kd=7∨kd=8)then(s,0,1)else if kid<0∨(s.L.length:Int)≤kid then(s,0,80)else putE nn kk s ⟨kd,0,[],0,v,[kid]⟩
def AO2 (w w':World)(e:Ending)(pa pm:Nat)(nn kk:Int)(F:Nat→Prop)(r:St × Int × Int):Prop:=
 e= .returned (.tuple #[.int .i64 r.2.1,.int .i64 r.2.2])∧∃F',AG w' pa pm nn kk r.1 F'∧(∀b,F' b→F b∨w.heap.size≤b)∧ButF (fun b=>b=pm∨F b) w w'
theorem ao2_now {w w':World}{pa pm:Nat}{nn kk:Int}{s:St}{F:Nat→Prop}(hG:AG w pa pm nn kk s F)(k:Below w.heap.size w w')(i er:Int):AO2 w w' (.returned (.tuple #[.int .i64 i,.int .i64 er])) pa pm nn kk F (s,i,er):=
 ⟨rfl,F,hG.below k,fun _ h=> .inl h,butF_below k⟩
theorem md_ao2 {w w':World}{e:Ending}{pa pm:Nat}{nn kk:Int}{s:St}{F C:Nat→Prop}{nv:Value}{bm:Nat}{X:List NR}{D:DataW Value}{n:Nd}(hG:AG w pa pm nn kk s F)(hA:AS w pa pm s.L C 2097152 nv bm X D)(hpm: ¬FF pa bm nv C pm)(hF: ∀b,FF pa bm nv C b→F b)(h:MD w w' e pa pm s.L C 2097152 nv bm nn kk s.c s.er n):AO2 w w' e pa pm nn kk F (putE nn kk s n):=by
 have hn:n∉s.L→¬ ∃i:Nat,s.L[i]? =some n:=fun h ⟨i,hi⟩=>h (List.mem_of_getElem? hi)
 have h0:=hG.c0
 have h1:=hG.cn
 have h2:=hG.n2
 have h3:=hG.e0
 have h4:=hG.e2
 have h5:=hG.ln
 rcases h with⟨i,g1,rfl,k⟩|⟨g1,g2,rfl,g4,k⟩|⟨g1,g2,rfl,g4,C',nv',X',D',g5,g6,g7⟩
 ·rw[putE_found hA.uq g1]
  exact ao2_now hG k _ _
 ·change (mstep nn kk s.c s.er (nums n)).1≠0 at g2
  change MB w' pm nn kk (mstep nn kk s.c s.er (nums n)).2.1 (mstep nn kk s.c s.er (nums n)).2.2 at g4
  have hA':AS w' pa pm s.L C 2097152 nv bm X D:=hA.move k.size fun b hb=>k.block b (hA.fl hb) fun e=>hpm (e▸hb)
  unfold putE
  rw[if_neg (spot_no (hn g1)),if_neg g2]
  refine⟨rfl,F,⟨⟨C,nv,bm,X,D,hA',hpm,hF⟩,g4,?_,?_,h2,?_,?_,?_,fun b hb=>Nat.lt_of_lt_of_le (hG.fl b hb) k.size⟩,fun b hb=> .inl hb,but_butF k⟩
  all_goals
   rcases mstep_cases nn kk s.c s.er (nums n)with⟨a1,a2⟩|⟨a1,r,a2,a3,a4⟩|⟨a1,a2,a3,a4⟩
  all_goals
   first
    |(rw[a2];dsimp only;omega)
    |(rw[a3];dsimp only;omega)
 change (mstep nn kk s.c s.er (nums n)).1=0 at g2
 change MB w' pm nn kk (mstep nn kk s.c s.er (nums n)).2.1 (mstep nn kk s.c s.er (nums n)).2.2 at g4
 unfold putE
 rw[if_neg (spot_no (hn g1)),if_pos g2]
 have hpm': ¬FF pa bm nv' C' pm:=fun hf=>(g6 pm hf).elim hpm fun h=>absurd (hG.mb.lt) o_m
 refine⟨rfl,FF pa bm nv' C',⟨⟨C',nv',bm,X',D',g5,hpm',fun _ hb=>hb⟩,g4,?_,?_,h2,?_,?_,?_,fun b hb=>g5.fl hb⟩,fun b hb=>(g6 b hb).imp (hF b) id,g7.mono fun b hb=>hb.imp id (hF b)⟩
 all_goals
  rcases mstep_cases nn kk s.c s.er (nums n)with⟨a1,a2⟩|⟨a1,r,a2,a3,a4⟩|⟨a1,a2,a3,a4⟩
 all_goals
  first
   |(rw[a2]at g2;exact absurd g2 a1)
   |(rw[a3]at g2;exact absurd g2 a2)
   |(rw[a2];dsimp only;simp only[List.length_append,List.length_cons,List.length_nil];omega)
   |(rw[a2];dsimp only;omega)


theorem atom_ao2 {w:World}{pa pm:Nat}{nn kk:Int}{s:St}{F:Nat→Prop}{kd:Int}{sd:Bool}{ad:Option Addr}{ld cd:Nat}{ap:Option Addr}{np cp:Nat}{sk:Bool}{ak:Option Addr}{lk ck:Nat}{d k:Int}{ps:List (Int × Int)}{B:Nat}
  (hG:AG w pa pm nn kk s F)(hd:Zm w sd ad ld cd d)(hld:ld≤B)(hP:Pr w ap np ps B)(hk:Zm w sk ak lk ck k)(hlk:lk≤B)(hn:np≤209716)(hB:B≤1500000)(htab:Tab w):
  Calls Tryz.prog 33 #[.pointer (some ⟨pa,0,none⟩),.agg #[.int .i64 kd,.bool sd,.slice ad ld cd,.slice ap np cp,.bool sk,.slice ak lk ck]] w fun e w'=>AO2 w w' e pa pm nn kk F (actA nn kk s kd d ps k):=by
 obtain⟨C,nv,bm,X,D,hA,hpm,hF⟩:=hG.ar
 have h1:=hG.cn
 have h2:=hG.n2
 have h3:=hG.ln
 refine(atom8_n hA hG.mb hpm hG.c0 hG.cn hG.n2 hG.e0 hG.e2 hd hld hP hk hlk hn hB o_m htab).mono ?_
 intro e w' h
 unfold AM at h
 unfold actA
 cases hf:formA kd d (nz (lays [] ps)) k with
 |inr er=>
  rw[hf]at h
  obtain⟨rfl,kb⟩:=h
  exact ao2_now hG kb _ _
 |inl f=>
  rw[hf]at h
  exact md_ao2 hG hA hpm hF h

theorem join_ao2 {w:World}{pa pm:Nat}{nn kk:Int}{s:St}{F:Nat→Prop}{kd:Int}{ka:Option Addr}{kc:Nat}{l:List Int}
  (hG:AG w pa pm nn kk s F)(hI:IL w ka l.length l)(hl:l.length≤1048576)(htab:Tab w):
  Calls Tryz.prog 40 #[.pointer (some ⟨pa,0,none⟩),.int .i64 kd,.slice ka l.length kc] w fun e w'=>AO2 w w' e pa pm nn kk F (actJ nn kk s kd l):=by
 obtain⟨C,nv,bm,X,D,hA,hpm,hF⟩:=hG.ar
 have h1:=hG.cn
 have h2:=hG.n2
 have h3:=hG.ln
 refine(join8_n hA hG.mb hpm hG.c0 hG.cn hG.n2 hG.e0 hG.e2 hI hl o_m htab).mono ?_
 intro e w' h
 unfold JO at h
 unfold actJ
 by_cases hkd:kd=5∨kd=6
 ·rw[if_neg (fun h=>h hkd)]at h ⊢
  by_cases ha:l.any (lck s.L.length)=true
  ·rw[if_pos ha]at h ⊢
   obtain⟨rfl,rfl⟩:=h
   exact ao2_now hG (Below.refl _ _) _ _
  rw[if_neg ha]at h ⊢
  cases hr:ris l with
  |nil=>
   rw[hr]at h
   obtain⟨rfl,kb⟩:=h
   exact ao2_now hG kb _ _
  |cons x t=>
   cases t with
   |nil=>
    rw[hr]at h
    obtain⟨rfl,kb⟩:=h
    exact ao2_now hG kb _ _
   |cons y t=>
    rw[hr]at h
    exact md_ao2 hG hA hpm hF h
 rw[if_pos hkd]at h ⊢
 obtain⟨rfl,rfl⟩:=h
 exact ao2_now hG (Below.refl _ _) _ _

end Nt
end Go.Proofs.YtllfelooahplhaaGreatDoor

namespace Go.Proofs.YtllfelooahplhaaGreatDoor
open Tm At
namespace Nt

def ndI (L:List Nd)(i:Int):Nd:=(L[i.toNat]?).getD (cst 0)
def okI (L:List Nd)(i:Int):Prop:=0≤i∧i<(L.length:Int)
theorem okI_lck {L:List Nd}{i:Int}:lck L.length i=false↔okI L i:=by
  unfold lck okI
  rw[decide_eq_false_iff_not]
  omega
theorem ndI_at {L:List Nd}{i:Int}(h:okI L i): ∃h2:i.toNat<L.length,ndI L i=L[i.toNat]:=by
  have h2:i.toNat<L.length:=by unfold okI at h;omega
  exact⟨h2,by unfold ndI;rw[List.getElem?_eq_getElem h2];rfl⟩
def Wk (L:List Nd):Prop:=∀i,okI L i→∀k∈(ndI L i).kids,0≤k∧k<i
theorem Wk.ok {L:List Nd}(h:Wk L){i k:Int}(hi:okI L i)(hk:k∈(ndI L i).kids):okI L k:=by
  have:=h i hi k hk
  unfold okI at*
  omega
def Rk (L:List Nd)(kd:Int)(ids:List Int)(x:Int):Prop:=∀P:Int→Prop,(∀y∈ids,P y)→(∀y z,P y→okI L y→(ndI L y).kind=kd→z∈(ndI L y).kids→P z)→P x
theorem rk_id {L:List Nd}{kd:Int}{ids:List Int}{x:Int}(h:x∈ids):Rk L kd ids x:=fun _ h1 _=>h1 x h
theorem rk_kid {L:List Nd}{kd:Int}{ids:List Int}{x z:Int}(h:Rk L kd ids x)(ho:okI L x)(hk:(ndI L x).kind=kd)(hz:z∈(ndI L x).kids):Rk L kd ids z:=fun P h1 h2=>h2 x z (h P h1 h2) ho hk hz
theorem rk_bad {L:List Nd}(hw:Wk L){kd:Int}{ids:List Int}{x:Int}(h:Rk L kd ids x)(hx: ¬okI L x): ∃y∈ids,¬okI L y:=
  ⟨x,(h (fun y=>y∈ids∨okI L y) (fun _ hy=> .inl hy) (fun _ _ _ ho _ hz=> .inr (hw.ok ho hz))).resolve_right hx,hx⟩
def Mem (L:List Nd)(kd idle:Int)(ids:List Int)(x:Int):Prop:=Rk L kd ids x∧okI L x∧(ndI L x).kind≠kd∧x≠idle

structure Spr (L:List Nd) (kd idle:Int) (ids M Sn Lf:List Int):Prop where
  m: ∀x∈M,x∈Sn∧(ndI L x).kind≠kd∧x≠idle
  nd:M.Nodup
  s: ∀x∈Sn,okI L x∧Rk L kd ids x∧((ndI L x).kind=kd→∀z∈(ndI L x).kids,z∈Sn∨z∈Lf)∧((ndI L x).kind≠kd→x=idle∨x∈M)
  l: ∀x∈Lf,Rk L kd ids x
  i: ∀x∈ids,x∈Sn∨x∈Lf
theorem spr_0 (L:List Nd)(kd idle:Int)(ids:List Int):Spr L kd idle ids [] [] ids:=
  ⟨fun _ h=>(by cases h),List.nodup_nil,fun _ h=>(by cases h),fun _ h=>rk_id h,fun _ h=> .inr h⟩
theorem mem_snoc {l:List Int}{x y:Int}:y∈l++ [x]↔y∈l∨y=x:=by simp
theorem Spr.old {L:List Nd}{kd idle:Int}{ids M Sn Lf:List Int}{x:Int}(h:Spr L kd idle ids M Sn (Lf++ [x]))(hx:x∈Sn):Spr L kd idle ids M Sn Lf:=by
  have hh: ∀z,z∈Sn∨z∈Lf++ [x]→z∈Sn∨z∈Lf:=fun z hz=>hz.elim .inl fun hz=>(mem_snoc.1 hz).elim .inr fun e=> .inl (e▸hx)
  exact⟨h.m,h.nd,fun y hy=>⟨(h.s y hy).1,(h.s y hy).2.1,fun hk z hz=>hh z ((h.s y hy).2.2.1 hk z hz),(h.s y hy).2.2.2⟩,fun y hy=>h.l y (mem_snoc.2 (.inl hy)),fun y hy=>hh y (h.i y hy)⟩
theorem Spr.kids {L:List Nd}{kd idle:Int}{ids M Sn Lf:List Int}{x:Int}(h:Spr L kd idle ids M Sn (Lf++ [x]))(ho:okI L x)(hk:(ndI L x).kind=kd):Spr L kd idle ids M (x::Sn) (Lf++(ndI L x).kids):=by
  have hr:=h.l x (mem_snoc.2 (.inr rfl))
  have hh: ∀z,z∈Sn∨z∈Lf++ [x]→z∈x::Sn∨z∈Lf++(ndI L x).kids:=fun z hz=>hz.elim (fun h=> .inl (List.mem_cons_of_mem _ h)) fun hz=>(mem_snoc.1 hz).elim (fun h=> .inr (List.mem_append_left _ h)) fun e=> .inl (e▸List.mem_cons_self)
  refine⟨fun y hy=>⟨List.mem_cons_of_mem _ (h.m y hy).1,(h.m y hy).2⟩,h.nd,fun y hy=> ?_,fun y hy=> ?_,fun y hy=>hh y (h.i y hy)⟩
  · rcases List.mem_cons.1 hy with rfl|hy
    · exact⟨ho,hr,fun _ z hz=> .inr (List.mem_append_right _ hz),fun hn=>absurd hk hn⟩
    exact⟨(h.s y hy).1,(h.s y hy).2.1,fun hk z hz=>hh z ((h.s y hy).2.2.1 hk z hz),(h.s y hy).2.2.2⟩
  exact(List.mem_append.1 hy).elim (fun hy=>h.l y (mem_snoc.2 (.inl hy))) fun hy=>rk_kid hr ho hk hy
theorem Spr.idle {L:List Nd}{kd idle:Int}{ids M Sn Lf:List Int}(h:Spr L kd idle ids M Sn (Lf++ [idle]))(ho:okI L idle)(hk:(ndI L idle).kind≠kd):Spr L kd idle ids M (idle::Sn) Lf:=by
  have hr:=h.l idle (mem_snoc.2 (.inr rfl))
  have hh: ∀z,z∈Sn∨z∈Lf++ [idle]→z∈idle::Sn∨z∈Lf:=fun z hz=>hz.elim (fun h=> .inl (List.mem_cons_of_mem _ h)) fun hz=>(mem_snoc.1 hz).elim .inr fun e=> .inl (e▸List.mem_cons_self)
  refine⟨fun y hy=>⟨List.mem_cons_of_mem _ (h.m y hy).1,(h.m y hy).2⟩,h.nd,fun y hy=> ?_,fun y hy=>h.l y (mem_snoc.2 (.inl hy)),fun y hy=>hh y (h.i y hy)⟩
  rcases List.mem_cons.1 hy with rfl|hy
  · exact⟨ho,hr,fun hn=>absurd hn hk,fun _=> .inl rfl⟩
  exact⟨(h.s y hy).1,(h.s y hy).2.1,fun hk z hz=>hh z ((h.s y hy).2.2.1 hk z hz),(h.s y hy).2.2.2⟩
theorem Spr.mem {L:List Nd}{kd idle:Int}{ids M Sn Lf:List Int}{x:Int}(h:Spr L kd idle ids M Sn (Lf++ [x]))(hx:x∉Sn)(ho:okI L x)(hk:(ndI L x).kind≠kd)(hi:x≠idle):Spr L kd idle ids (M++ [x]) (x::Sn) Lf:=by
  have hr:=h.l x (mem_snoc.2 (.inr rfl))
  have hh: ∀z,z∈Sn∨z∈Lf++ [x]→z∈x::Sn∨z∈Lf:=fun z hz=>hz.elim (fun h=> .inl (List.mem_cons_of_mem _ h)) fun hz=>(mem_snoc.1 hz).elim .inr fun e=> .inl (e▸List.mem_cons_self)
  refine⟨fun y hy=> ?_,?_,fun y hy=> ?_,fun y hy=>h.l y (mem_snoc.2 (.inl hy)),fun y hy=>hh y (h.i y hy)⟩
  · rcases mem_snoc.1 hy with hy|rfl
    · exact⟨List.mem_cons_of_mem _ (h.m y hy).1,(h.m y hy).2⟩
    exact⟨List.mem_cons_self,hk,hi⟩
  · rw[List.nodup_append]
    exact⟨h.nd,by simp,fun a ha b hb e=>by rw[List.mem_singleton.1 hb]at e;exact hx (e▸(h.m a ha).1)⟩
  rcases List.mem_cons.1 hy with rfl|hy
  · exact⟨ho,hr,fun hn=>absurd hn hk,fun _=> .inr (mem_snoc.2 (.inr rfl))⟩
  exact⟨(h.s y hy).1,(h.s y hy).2.1,fun hk z hz=>hh z ((h.s y hy).2.2.1 hk z hz),fun hn=>((h.s y hy).2.2.2 hn).imp id fun hm=>mem_snoc.2 (.inl hm)⟩
theorem Spr.done {L:List Nd}{kd idle:Int}{ids M Sn:List Int}(h:Spr L kd idle ids M Sn []):(∀x∈ids,okI L x)∧M.Nodup∧∀x,x∈M↔Mem L kd idle ids x:=by
  have hS: ∀x,Rk L kd ids x→x∈Sn:=fun x hx=>hx (fun y=>y∈Sn) (fun y hy=>(h.i y hy).resolve_right (by simp)) (fun y z hy _ hk hz=>((h.s y hy).2.2.1 hk z hz).resolve_right (by simp))
  refine⟨fun x hx=>(h.s x (hS x (rk_id hx))).1,h.nd,fun x=>⟨fun hx=> ?_,fun⟨h1,h2,h3,h4⟩=> ?_⟩⟩
  · have h1:=h.m x hx
    exact⟨(h.s x h1.1).2.1,(h.s x h1.1).1,h1.2⟩
  exact((h.s x (hS x h1)).2.2.2 h3).resolve_left h4
def pot (L:List Nd)(Sn:List Int):Nat→Nat
  |0=>0
  |n+1=>pot L Sn n+if(n:Int)∈Sn then 0 else 1+(ndI L n).kids.length
theorem pot_same (L:List Nd)(Sn:List Int)(x:Int): ∀n:Nat,(n:Int)≤x→pot L (x::Sn) n=pot L Sn n
  |0,_=>rfl
  |n+1,h=>by
    have e:((n:Int)∈x::Sn)↔(n:Int)∈Sn:=by
      rw[List.mem_cons]
      exact⟨fun h1=>h1.elim (fun e=>by omega) id,.inr⟩
    unfold pot
    rw[pot_same L Sn x n o_m]
    simp only[e]
theorem pot_add (L:List Nd)(Sn:List Int)(x:Int)(h0:0≤x)(hx:x∉Sn): ∀n:Nat,x<(n:Int)→pot L Sn n=pot L (x::Sn) n+(1+(ndI L x).kids.length)
  |0,h=>by omega
  |n+1,h=>by
    by_cases e:x=(n:Int)
    · subst e
      unfold pot
      rw[pot_same L Sn (n:Int) n (Int.le_refl _),if_neg hx,if_pos List.mem_cons_self]
      omega
    have h1:=pot_add L Sn x h0 hx n o_m
    have e2:((n:Int)∈x::Sn)↔(n:Int)∈Sn:=by
      rw[List.mem_cons]
      exact⟨fun h1=>h1.elim (fun e3=>absurd e3.symm e) id,.inr⟩
    unfold pot
    simp only[e2]
    omega
def negP (ps:List (Int × Int)):List (Int × Int):=ps.map fun p=>(p.1,-p.2)
def Stay (L:List Nd)(sg:Int)(M:Int→Prop)(x:Int):Prop:=M x∧(ndI L x).kind=2∧∀y,M y→(ndI L y).kind=2→(ndI L y).ps=(ndI L x).ps→¬sg*(ndI L y).k<sg*(ndI L x).k
def Clash (L:List Nd)(sg:Int)(M:Int→Prop):Prop:=∃x y,Stay L sg M x∧Stay L sg M y∧(ndI L y).ps=negP (ndI L x).ps∧sg*((ndI L x).k+(ndI L y).k)≤sg
def Oppos (L:List Nd)(M:Int→Prop):Prop:=∃x y,M x∧M y∧(ndI L x).kind=3∧(ndI L y).kind=4∧(ndI L x).d=(ndI L y).d∧(ndI L x).ps=(ndI L y).ps∧(ndI L x).k=(ndI L y).k
def Keep (L:List Nd)(sg:Int)(M:Int→Prop)(x:Int):Prop:=M x∧((ndI L x).kind=2→Stay L sg M x)
def Need (L:List Nd)(sg dual:Int)(M:Int→Prop)(x:Int):Prop:=Keep L sg M x∧¬((ndI L x).kind=dual∧∃z∈(ndI L x).kids,Keep L sg M z)
def SimpR (nn kk:Int)(s:St)(kd dual idle rul sg:Int)(ids:List Int)(r:St × Int × Int):Prop:=
  ((∃x∈ids,¬okI s.L x)∧r=(s,0,80))∨((∀x∈ids,okI s.L x)∧
    (((Mem s.L kd idle ids rul∨Clash s.L sg (Mem s.L kd idle ids)∨Oppos s.L (Mem s.L kd idle ids))∧r=(s,rul,0))∨
     (¬(Mem s.L kd idle ids rul∨Clash s.L sg (Mem s.L kd idle ids)∨Oppos s.L (Mem s.L kd idle ids))∧∃l,(∀x,x∈l↔Need s.L sg dual (Mem s.L kd idle ids) x)∧r=actJ nn kk s kd l)))
end Nt
namespace Nt

def Wn (i:Nat)(n:Nd):Prop:=
 (∃f:Atm,Fit f∧n=⟨f.kind,f.d,f.ps,f.k,0,[]⟩∧f.ps.length≤209716)∨
 (∃kd kids,(kd=5∨kd=6)∧n=⟨kd,0,[],0,0,kids⟩∧2≤kids.length∧kids.Pairwise (· < ·)∧∀x∈kids,0≤x∧x<(i:Int))∨
 (∃kd v x,(kd=7∨kd=8)∧n=⟨kd,0,[],0,v,[x]⟩∧I64 v∧0≤x∧x<(i:Int))
structure Gv (kk:Int) (L:List Nd):Prop where
 uq:Uq L
 c0:L[0]? =some (cst 0)
 c1:L[1]? =some (cst 1)
 wn: ∀(i:Nat) (n:Nd),2≤i→L[i]? =some n→Wn i n∧∀z∈nums n,(lim z:Int)≤kk
theorem Gv.len {kk:Int}{L:List Nd}(h:Gv kk L):2≤L.length:=by
 have:=(List.getElem?_eq_some_iff.1 h.c1).1
 omega
theorem Gv.ok0 {kk:Int}{L:List Nd}(h:Gv kk L):okI L 0:=by have:=h.len;unfold okI;omega
theorem Gv.ok1 {kk:Int}{L:List Nd}(h:Gv kk L):okI L 1:=by have:=h.len;unfold okI;omega
theorem Gv.n0 {kk:Int}{L:List Nd}(h:Gv kk L):ndI L 0=cst 0:=by
 show(L[0]?).getD (cst 0)=cst 0
 rw[h.c0]
 rfl
theorem Gv.n1 {kk:Int}{L:List Nd}(h:Gv kk L):ndI L 1=cst 1:=by
 show(L[1]?).getD (cst 0)=cst 1
 rw[h.c1]
 rfl
theorem ndI_some {L:List Nd}{i:Int}(h:okI L i):L[i.toNat]? =some (ndI L i):=by
 obtain⟨h2,e⟩:=ndI_at h
 rw[e,List.getElem?_eq_getElem h2]
theorem Gv.cases {kk:Int}{L:List Nd}(h:Gv kk L){i:Int}(hi:okI L i):
  (i=0∧ndI L i=cst 0)∨(i=1∧ndI L i=cst 1)∨(2≤i∧∃f:Atm,Fit f∧(f.kind=2∨f.kind=3∨f.kind=4)∧f.ps≠ []∧ndI L i=⟨f.kind,f.d,f.ps,f.k,0,[]⟩∧f.ps.length≤209716∧∀z∈nums (ndI L i),(lim z:Int)≤kk)∨
  (2≤i∧∃kd kids,(kd=5∨kd=6)∧ndI L i=⟨kd,0,[],0,0,kids⟩∧2≤kids.length∧kids.Pairwise (· < ·)∧∀x∈kids,0≤x∧x<i)∨
  (2≤i∧∃kd v x,(kd=7∨kd=8)∧ndI L i=⟨kd,0,[],0,v,[x]⟩∧I64 v∧0≤x∧x<i):=by
 have hs:=ndI_some hi
 have h0:=hi.1
 by_cases h2:2≤i
 ·obtain⟨hw,hk⟩:=h.wn i.toNat _ o_m hs
  rcases hw with⟨f,h3,h4,h5⟩|⟨kd,kids,h3,h4,h5,h6,h7⟩|⟨kd,v,x,h3,h4,h5,h6,h7⟩
  ·refine .inr (.inr (.inl ⟨h2,f,h3,?_,?_,h4,h5,hk⟩))
   ·rcases h3 with⟨h8,e1,e2,e3⟩|⟨h8,_⟩|⟨h8,_⟩
    ·exfalso
     have e:ndI L i=cst f.kind:=by rw[h4,e1,e2,e3];rfl
     rcases h8 with h8|h8
     ·rw[e,h8]at hs
      have:=h.uq _ 0 _ hs h.c0
      omega
     rw[e,h8]at hs
     have:=h.uq _ 1 _ hs h.c1
     omega
    ·exact .inl h8
    exact .inr h8
   rcases h3 with⟨h8,e1,e2,e3⟩|⟨_,_,_,h8,_⟩|⟨_,h8,_⟩
   ·exfalso
    have e:ndI L i=cst f.kind:=by rw[h4,e1,e2,e3];rfl
    rcases h8 with h8|h8
    ·rw[e,h8]at hs
     have:=h.uq _ 0 _ hs h.c0
     omega
    rw[e,h8]at hs
    have:=h.uq _ 1 _ hs h.c1
    omega
   ·exact h8
   exact h8.some
  ·exact .inr (.inr (.inr (.inl ⟨h2,kd,kids,h3,h4,h5,h6,fun x hx=>by have:=h7 x hx;omega⟩)))
  exact .inr (.inr (.inr (.inr ⟨h2,kd,v,x,h3,h4,h5,h6,by omega⟩)))
 rcases(show i=0∨i=1 by omega)with rfl|rfl
 ·exact .inl ⟨rfl,h.n0⟩
 exact .inr (.inl ⟨rfl,h.n1⟩)
theorem Gv.wk {kk:Int}{L:List Nd}(h:Gv kk L):Wk L:=fun i hi k hk=>by
 rcases h.cases hi with⟨_,e⟩|⟨_,e⟩|⟨_,f,_,_,_,e,_⟩|⟨_,kd,kids,_,e,_,_,h7⟩|⟨_,kd,v,x,_,e,_,h6,h7⟩
 ·rw[e]at hk;cases hk
 ·rw[e]at hk;cases hk
 ·rw[e]at hk;cases hk
 ·rw[e]at hk;exact h7 k hk
 rw[e]at hk
 have:k=x:=by simpa using hk
 omega
theorem rise_len : ∀(l:List Int) (a b:Int),a≤b→l.Pairwise (· < ·)→(∀x∈l,a≤x∧x<b)→(l.length:Int)≤b-a
 | [],a,b,h,_,_=>by simp;omega
 |x::t,a,b,_,h1,h2=>by
  have hx:=h2 x List.mem_cons_self
  have h3:=List.pairwise_cons.1 h1
  have ih:=rise_len t (x+1) b o_m h3.2 fun y hy=>⟨by have:=h3.1 y hy;omega,(h2 y (List.mem_cons_of_mem _ hy)).2⟩
  rw[List.length_cons]
  omega
theorem Gv.kids {kk:Int}{L:List Nd}(h:Gv kk L){i:Int}(hi:okI L i):((ndI L i).kids.length:Int)≤i∧(ndI L i).kids.Pairwise (· < ·):=by
 have h0:=hi.1
 rcases h.cases hi with⟨_,e⟩|⟨_,e⟩|⟨_,f,_,_,_,e,_⟩|⟨_,kd,kids,_,e,_,h6,h7⟩|⟨_,kd,v,x,_,e,_,h6,h7⟩
 ·rw[e];exact⟨by simp[cst];omega,List.Pairwise.nil⟩
 ·rw[e];exact⟨by simp[cst];omega,List.Pairwise.nil⟩
 ·rw[e];exact⟨by simp;omega,List.Pairwise.nil⟩
 ·rw[e]
  have:=rise_len kids 0 i h0 h6 h7
  exact⟨by dsimp only;omega,h6⟩
 rw[e];exact⟨by simp;omega,List.pairwise_singleton _ _⟩
theorem getE_app {L t:List Nd}{i:Nat}{n:Nd}(h:L[i]? =some n):(L++t)[i]? =some n:=by
 rw[List.getElem?_append_left (List.getElem?_eq_some_iff.1 h).1]
 exact h
theorem putE_cases (nn kk:Int)(s:St)(n:Nd):
  (∃i:Nat,s.L[i]? =some n∧putE nn kk s n=(s,(i:Int),0))∨
  ((∀i:Nat,s.L[i]? ≠some n)∧∃er,er≠0∧(putE nn kk s n)=(⟨s.L,s.c,er⟩,0,er)∧(s.er=0∨s.er=er))∨
  ((∀i:Nat,s.L[i]? ≠some n)∧s.er=0∧((nums n).any fun z=>decide (kk<(lim z:Int)))=false∧putE nn kk s n=(⟨s.L++ [n],s.c+1,0⟩,(s.L.length:Int),0)):=by
 by_cases h: ∃i:Nat,s.L[i]? =some n
 ·have h1:=spot_at h
  exact .inl ⟨_,h1.2,by unfold putE;rw[if_pos h1.1]⟩
 have h1:=spot_no h
 have hno: ∀i:Nat,s.L[i]? ≠some n:=fun i e=>h ⟨i,e⟩
 rcases mstep_cases nn kk s.c s.er (nums n)with⟨he,e⟩|⟨he,r,hr,e,_⟩|⟨he,e,h2,_⟩
 ·refine .inr (.inl ⟨hno,s.er,he,?_,.inr rfl⟩)
  unfold putE
  rw[if_neg h1,e,if_neg he]
 ·refine .inr (.inl ⟨hno,r,hr,?_,.inl he⟩)
  unfold putE
  rw[if_neg h1,e,if_neg hr]
 refine .inr (.inr ⟨hno,he,h2,?_⟩)
 unfold putE
 rw[if_neg h1,e,if_pos rfl]
structure Kp (kk:Int) (s:St) (r:St × Int × Int):Prop where
 le: ∃t,r.1.L=s.L++t
 gv:Gv kk r.1.L
 ok:r.2.2=0→okI r.1.L r.2.1
theorem kp_now {kk:Int}{s:St}{x e:Int}(h:Gv kk s.L)(hx:e=0→okI s.L x):Kp kk s (s,x,e):=⟨⟨[],by simp⟩,h,hx⟩
theorem kp_put {nn kk:Int}{s:St}{n:Nd}(h:Gv kk s.L)(hw:Wn s.L.length n):Kp kk s (putE nn kk s n):=by
 rcases putE_cases nn kk s n with⟨i,h1,e⟩|⟨_,er,h1,e,_⟩|⟨hno,h1,h2,e⟩
 ·rw[e]
  refine kp_now h fun _=> ?_
  have:=(List.getElem?_eq_some_iff.1 h1).1
  unfold okI
  omega
 ·rw[e]
  exact⟨⟨[],by simp⟩,h,fun h2=>absurd h2 h1⟩
 rw[e]
 refine⟨⟨[n],rfl⟩,⟨fun i j m hi hj=> ?_,getE_app h.c0,getE_app h.c1,fun i m hi hm=> ?_⟩,fun _=> ?_⟩
 ·have hc: ∀q:Nat,(s.L++ [n])[q]? =some m→(s.L[q]? =some m)∨(q=s.L.length∧m=n):=fun q hq=>by
   rcases Nat.lt_trichotomy q s.L.length with hl|hl|hl
   ·rw[List.getElem?_append_left hl]at hq
    exact .inl hq
   ·subst hl
    simp at hq
    exact .inr ⟨rfl,hq.symm⟩
   rw[List.getElem?_eq_none (by simp;omega)]at hq
   cases hq
  rcases hc i hi with hi|⟨hi,e1⟩
  ·rcases hc j hj with hj|⟨hj,e2⟩
   ·exact h.uq i j m hi hj
   exact absurd (e2▸hi) (hno i)
  rcases hc j hj with hj|⟨hj,e2⟩
  ·exact absurd (e1▸hj) (hno j)
  omega
 ·rcases Nat.lt_trichotomy i s.L.length with hl|hl|hl
  ·rw[List.getElem?_append_left hl]at hm
   exact h.wn i m hi hm
  ·subst hl
   have e:n=m:=by simpa using hm
   subst e
   refine⟨hw,fun z hz=> ?_⟩
   have h6:=List.any_eq_false.1 h2 z hz
   simpa using h6
  rw[List.getElem?_eq_none (by simp;omega)]at hm
  cases hm
 unfold okI
 simp
 omega
theorem kp_join {nn kk:Int}{s:St}{kd:Int}{l:List Int}(h:Gv kk s.L)(hkd:kd=5∨kd=6)(hl: ∀x∈l,okI s.L x):Kp kk s (actJ nn kk s kd l):=by
 have ha:l.any (lck s.L.length)=false:=by
  rw[List.any_eq_false]
  intro x hx
  rw[okI_lck.2 (hl x hx)]
  simp
 have hm:=mem_ris l
 have hr:=ris_rises l
 unfold actJ
 rw[if_neg o_m,ha,if_neg (by simp)]
 split
 ·refine kp_now h fun _=> ?_
  split
  ·exact h.ok1
  exact h.ok0
 ·rename_i x e
  rw[e]at hm
  exact kp_now h fun _=>hl x ((hm x).1 (by simp))
 rename_i x y t e
 rw[e]at hm hr
 exact kp_put h (.inr (.inl ⟨kd,x::y::t,hkd,rfl,by simp,hr,fun z hz=>hl z ((hm z).1 hz)⟩))
theorem kp_bind {nn kk:Int}{s:St}{kd v kid:Int}(h:Gv kk s.L)(hkd:kd=7∨kd=8)(hv:I64 v):Kp kk s (actB nn kk s kd v kid):=by
 unfold actB
 rw[if_neg o_m]
 split
 ·exact kp_now h fun e=>by cases e
 exact kp_put h (.inr (.inr ⟨kd,v,kid,hkd,rfl,hv,by omega,by omega⟩))
theorem ndI_app {L t:List Nd}{i:Int}(h:okI L i):ndI (L++t) i=ndI L i:=by
 have h2:i.toNat<L.length:=by unfold okI at h;omega
 unfold ndI
 rw[List.getElem?_append_left h2]
theorem okI_app {L t:List Nd}{i:Int}(h:okI L i):okI (L++t) i:=by
 unfold okI at*
 rw[List.length_append]
 omega
theorem Kp.okI {kk:Int}{s:St}{r:St × Int × Int}(h:Kp kk s r){i:Int}(hi:okI s.L i):okI r.1.L i:=by
 obtain⟨t,e⟩:=h.le
 rw[e]
 exact okI_app hi
theorem gv_st0 (kk:Int):Gv kk st0.L:=by
 refine⟨fun i j n hi hj=> ?_,rfl,rfl,fun i n hi hn=> ?_⟩
 ·have hi':=(List.getElem?_eq_some_iff.1 hi).1
  have hj':=(List.getElem?_eq_some_iff.1 hj).1
  simp[st0]at hi' hj'
  rcases(show i=0∨i=1 by omega)with rfl|rfl <;> rcases(show j=0∨j=1 by omega)with rfl|rfl
  ·rfl
  ·simp[st0]at hi hj
   rw[←hi]at hj
   simp[cst]at hj
  ·simp[st0]at hi hj
   rw[←hi]at hj
   simp[cst]at hj
  rfl
 rw[List.getElem?_eq_none (by simp[st0];omega)]at hn
 cases hn
end Nt
namespace Nt

def atmN (n:Nd):Atm:=⟨n.kind,n.d,n.ps,n.k⟩
def Tv (L:List Nd)(f:Int→Int):Nat→Int→Prop
 |0,_=>False
 |m+1,i=>((ndI L i).kind=5∧∀z∈(ndI L i).kids,Tv L f m z)∨((ndI L i).kind=6∧∃z∈(ndI L i).kids,Tv L f m z)∨((ndI L i).kind≠5∧(ndI L i).kind≠6∧Sat (atmN (ndI L i)) f)
theorem tv_fuel {L:List Nd}(hw:Wk L)(f:Int→Int): ∀(m:Nat) (i:Int) (q:Nat),okI L i→i<(m:Int)→i<(q:Int)→(Tv L f m i↔Tv L f q i)
 |0,i,q,ho,hm,hq=>by have:=ho.1;omega
 |m+1,i,0,ho,hm,hq=>by have:=ho.1;omega
 |m+1,i,q+1,ho,hm,hq=>by
  have ih: ∀z∈(ndI L i).kids,(Tv L f m z↔Tv L f q z):=fun z hz=>tv_fuel hw f m z q (hw.ok ho hz) (by have:=hw i ho z hz;omega) (by have:=hw i ho z hz;omega)
  simp only[Tv]
  constructor
  ·rintro(⟨h1,h2⟩|⟨h1,z,hz,h2⟩|h)
   ·exact .inl ⟨h1,fun z hz=>(ih z hz).1 (h2 z hz)⟩
   ·exact .inr (.inl ⟨h1,z,hz,(ih z hz).1 h2⟩)
   exact .inr (.inr h)
  rintro(⟨h1,h2⟩|⟨h1,z,hz,h2⟩|h)
  ·exact .inl ⟨h1,fun z hz=>(ih z hz).2 (h2 z hz)⟩
  ·exact .inr (.inl ⟨h1,z,hz,(ih z hz).2 h2⟩)
  exact .inr (.inr h)
def tv (L:List Nd)(f:Int→Int)(i:Int):Prop:=Tv L f (i.toNat+1) i
theorem tv_any {L:List Nd}(hw:Wk L)(f:Int→Int){i:Int}(ho:okI L i){m:Nat}(hm:i<(m:Int)):Tv L f m i↔tv L f i:=
 tv_fuel hw f m i _ ho hm (by have:=ho.1;omega)
theorem tv_and {L:List Nd}(hw:Wk L){f:Int→Int}{i:Int}(ho:okI L i)(hk:(ndI L i).kind=5):tv L f i↔ ∀z∈(ndI L i).kids,tv L f z:=by
 have e: ∀z∈(ndI L i).kids,(Tv L f i.toNat z↔tv L f z):=fun z hz=>tv_any hw f (hw.ok ho hz) (by have:=hw i ho z hz;omega)
 unfold tv
 simp only[Tv]
 rw[hk]
 constructor
 ·rintro(⟨_,h2⟩|⟨h1,_⟩|⟨h1,_⟩)
  ·exact fun z hz=>(e z hz).1 (h2 z hz)
  ·omega
  exact absurd rfl h1
 exact fun h=> .inl ⟨rfl,fun z hz=>(e z hz).2 (h z hz)⟩
theorem tv_or {L:List Nd}(hw:Wk L){f:Int→Int}{i:Int}(ho:okI L i)(hk:(ndI L i).kind=6):tv L f i↔ ∃z∈(ndI L i).kids,tv L f z:=by
 have e: ∀z∈(ndI L i).kids,(Tv L f i.toNat z↔tv L f z):=fun z hz=>tv_any hw f (hw.ok ho hz) (by have:=hw i ho z hz;omega)
 unfold tv
 simp only[Tv]
 rw[hk]
 constructor
 ·rintro(⟨h1,_⟩|⟨_,z,hz,h2⟩|⟨_,h1,_⟩)
  ·omega
  ·exact⟨z,hz,(e z hz).1 h2⟩
  exact absurd rfl h1
 exact fun⟨z,hz,h⟩=> .inr (.inl ⟨rfl,z,hz,(e z hz).2 h⟩)
theorem tv_atm {L:List Nd}{f:Int→Int}{i:Int}(h5:(ndI L i).kind≠5)(h6:(ndI L i).kind≠6):tv L f i↔Sat (atmN (ndI L i)) f:=by
 unfold tv
 simp only[Tv]
 exact⟨fun h=>h.elim (fun h=>absurd h.1 h5) fun h=>h.elim (fun h=>absurd h.1 h6) fun h=>h.2.2,fun h=> .inr (.inr ⟨h5,h6,h⟩)⟩
theorem tv_app {L t:List Nd}(hw:Wk L)(hw2:Wk (L++t)){f:Int→Int}: ∀(m:Nat) {i:Int},i<(m:Int)→okI L i→(tv (L++t) f i↔tv L f i)
 |0,i,hm,ho=>by have:=ho.1;omega
 |m+1,i,hm,ho=>by
  have e:=ndI_app (t:=t) ho
  have ho2:=okI_app (t:=t) ho
  have ih: ∀z∈(ndI L i).kids,(tv (L++t) f z↔tv L f z):=fun z hz=>tv_app hw hw2 m (by have:=hw i ho z hz;omega) (hw.ok ho hz)
  by_cases h5:(ndI L i).kind=5
  ·rw[tv_and hw ho h5,tv_and hw2 ho2 (by rw[e];exact h5),e]
   exact⟨fun h z hz=>(ih z hz).1 (h z hz),fun h z hz=>(ih z hz).2 (h z hz)⟩
  by_cases h6:(ndI L i).kind=6
  ·rw[tv_or hw ho h6,tv_or hw2 ho2 (by rw[e];exact h6),e]
   exact⟨fun⟨z,hz,h⟩=>⟨z,hz,(ih z hz).1 h⟩,fun⟨z,hz,h⟩=>⟨z,hz,(ih z hz).2 h⟩⟩
  rw[tv_atm h5 h6,tv_atm (by rw[e];exact h5) (by rw[e];exact h6),e]
theorem tv_le {L L':List Nd}(hw:Wk L)(hw2:Wk L')(hl: ∃t,L'=L++t){f:Int→Int}{i:Int}(ho:okI L i):tv L' f i↔tv L f i:=by
 obtain⟨t,rfl⟩:=hl
 exact tv_app hw hw2 (i.toNat+1) (by have:=ho.1;omega) ho

structure Tl (L:List Nd) (kd dual idle rul sg:Int) (T:Int→Prop):Prop where
 all: ∀i,okI L i→(ndI L i).kind=kd→(T i↔ ∀z∈(ndI L i).kids,T z)
 one: ∀i,okI L i→(ndI L i).kind=dual→(T i↔ ∃z∈(ndI L i).kids,T z)
 idle:T idle
 rul: ¬T rul
 less: ∀x y,okI L x→okI L y→(ndI L x).kind=2→(ndI L y).kind=2→(ndI L y).ps=(ndI L x).ps→sg*(ndI L x).k≤sg*(ndI L y).k→T x→T y
 clash: ∀x y,okI L x→okI L y→(ndI L x).kind=2→(ndI L y).kind=2→(ndI L y).ps=negP (ndI L x).ps→sg*((ndI L x).k+(ndI L y).k)≤sg→T x→T y→False
 opp: ∀x y,okI L x→okI L y→(ndI L x).kind=3→(ndI L y).kind=4→(ndI L x).d=(ndI L y).d→(ndI L x).ps=(ndI L y).ps→(ndI L x).k=(ndI L y).k→T x→T y→False
theorem negP_scl (ps:List (Int × Int)):negP ps=scl (-1) ps:=by
 unfold negP scl
 congr 1
 funext p
 rw[Int.neg_one_mul]
theorem sat2 {n:Nd}{f:Int→Int}(h:n.kind=2):Sat (atmN n) f↔0<n.k+ev n.ps f:=by
 unfold Sat atmN
 dsimp only
 rw[h]
 simp
theorem sat3 {n:Nd}{f:Int→Int}(h:n.kind=3):Sat (atmN n) f↔n.d∣n.k+ev n.ps f:=by
 unfold Sat atmN
 dsimp only
 rw[h]
 simp
theorem sat4 {n:Nd}{f:Int→Int}(h:n.kind=4):Sat (atmN n) f↔ ¬n.d∣n.k+ev n.ps f:=by
 unfold Sat atmN
 dsimp only
 rw[h]
 simp
theorem tv2 {L:List Nd}{f:Int→Int}{x:Int}(h:(ndI L x).kind=2):tv L f x↔0<(ndI L x).k+ev (ndI L x).ps f:=(tv_atm o_m o_m).trans (sat2 h)
theorem tv3 {L:List Nd}{f:Int→Int}{x:Int}(h:(ndI L x).kind=3):tv L f x↔(ndI L x).d∣(ndI L x).k+ev (ndI L x).ps f:=(tv_atm o_m o_m).trans (sat3 h)
theorem tv4 {L:List Nd}{f:Int→Int}{x:Int}(h:(ndI L x).kind=4):tv L f x↔ ¬(ndI L x).d∣(ndI L x).k+ev (ndI L x).ps f:=(tv_atm o_m o_m).trans (sat4 h)
theorem tv_0 {kk:Int}{L:List Nd}(h:Gv kk L)(f:Int→Int): ¬tv L f 0:=by
 rw[tv_atm (by rw[h.n0];simp[cst]) (by rw[h.n0];simp[cst]),h.n0]
 simp[Sat,atmN,cst]
theorem tv_1 {kk:Int}{L:List Nd}(h:Gv kk L)(f:Int→Int):tv L f 1:=by
 rw[tv_atm (by rw[h.n1];simp[cst]) (by rw[h.n1];simp[cst]),h.n1]
 simp[Sat,atmN,cst]
theorem tl_and {kk:Int}{L:List Nd}(h:Gv kk L)(f:Int→Int):Tl L 5 6 1 0 1 (tv L f) where
 all i ho hk:=tv_and h.wk ho hk
 one i ho hk:=tv_or h.wk ho hk
 idle:=tv_1 h f
 rul:=tv_0 h f
 less x y _ _ h1 h2 e h3:=by
  rw[tv2 h1,tv2 h2,e]
  omega
 clash x y _ _ h1 h2 e h3:=by
  rw[tv2 h1,tv2 h2,e,negP_scl,ev_scl]
  omega
 opp x y _ _ h1 h2 e1 e2 e3:=by
  rw[tv3 h1,tv4 h2,e1,e2,e3]
  exact fun a b=>b a
theorem tl_or {kk:Int}{L:List Nd}(h:Gv kk L)(f:Int→Int):Tl L 6 5 0 1 (-1) (fun i=> ¬tv L f i) where
 all i ho hk:=by
  rw[tv_or h.wk ho hk]
  exact⟨fun h z hz k=>h ⟨z,hz,k⟩,fun h ⟨z,hz,k⟩=>h z hz k⟩
 one i ho hk:=by
  rw[tv_and h.wk ho hk]
  exact⟨fun h=>Classical.byContradiction fun k=>h fun z hz=>Classical.byContradiction fun e=>k ⟨z,hz,e⟩,fun⟨z,hz,k⟩ h=>k (h z hz)⟩
 idle:=tv_0 h f
 rul:=fun k=>k (tv_1 h f)
 less x y _ _ h1 h2 e h3:=by
  rw[tv2 h1,tv2 h2,e]
  omega
 clash x y _ _ h1 h2 e h3:=by
  rw[tv2 h1,tv2 h2,e,negP_scl,ev_scl]
  omega
 opp x y _ _ h1 h2 e1 e2 e3:=by
  rw[tv3 h1,tv4 h2,e1,e2,e3]
  exact fun a b=>b a
theorem Tl.reach {L:List Nd}{kd dual idle rul sg:Int}{T:Int→Prop}(h:Tl L kd dual idle rul sg T){ids:List Int}(hi: ∀x∈ids,T x){x:Int}(hx:Rk L kd ids x):T x:=
 hx T hi fun y z hy ho hk hz=>(h.all y ho hk).1 hy z hz
theorem Tl.back {L:List Nd}(hw:Wk L){kd dual idle rul sg:Int}{T:Int→Prop}(h:Tl L kd dual idle rul sg T){ids:List Int}(ho: ∀x∈ids,okI L x)(hm: ∀x,Mem L kd idle ids x→T x): ∀x∈ids,T x:=by
 have key: ∀(m:Nat) (x:Int),x<(m:Int)→okI L x→Rk L kd ids x→T x:=by
  intro m
  induction m with
  |zero=>intro x hx h0;have:=h0.1;omega
  |succ m ih=>
   intro x hx h0 hr
   by_cases hk:(ndI L x).kind=kd
   ·rw[h.all x h0 hk]
    exact fun z hz=>ih z (by have:=hw x h0 z hz;omega) (hw.ok h0 hz) (rk_kid hr h0 hk hz)
   by_cases hi:x=idle
   ·rw[hi];exact h.idle
   exact hm x ⟨hr,h0,hk,hi⟩
 exact fun x hx=>key (x.toNat+1) x (by have:=(ho x hx).1;omega) (ho x hx) (rk_id hx)
theorem stay_some {L:List Nd}(sg:Int)(M:Int→Prop)(N:Nat)(hM: ∀x,M x→0≤x∧x<(N:Int)): ∀x,M x→(ndI L x).kind=2→∃y,Stay L sg M y∧(ndI L y).ps=(ndI L x).ps∧sg*(ndI L y).k≤sg*(ndI L x).k:=by
 intro x hx hk
 have key: ∀m:Nat,(∃y,M y∧(ndI L y).kind=2∧(ndI L y).ps=(ndI L x).ps∧sg*(ndI L y).k≤sg*(ndI L x).k∧∀z,M z→(ndI L z).kind=2→(ndI L z).ps=(ndI L x).ps→z<(m:Int)→¬sg*(ndI L z).k<sg*(ndI L y).k):=by
  intro m
  induction m with
  |zero=>exact⟨x,hx,hk,rfl,Int.le_refl _,fun z hz _ _ h=>by have:=hM z hz;omega⟩
  |succ m ih=>
   obtain⟨y,h1,h2,h3,h4,h5⟩:=ih
   by_cases hz:M (m:Int)∧(ndI L (m:Int)).kind=2∧(ndI L (m:Int)).ps=(ndI L x).ps∧sg*(ndI L (m:Int)).k<sg*(ndI L y).k
   ·refine⟨m,hz.1,hz.2.1,hz.2.2.1,by omega,fun z k1 k2 k3 k4=> ?_⟩
    by_cases e:z=(m:Int)
    ·rw[e];omega
    have:=h5 z k1 k2 k3 o_m
    omega
   refine⟨y,h1,h2,h3,h4,fun z k1 k2 k3 k4=> ?_⟩
   by_cases e:z=(m:Int)
   ·subst e
    exact fun h=>hz ⟨k1,k2,k3,h⟩
   exact h5 z k1 k2 k3 o_m
 obtain⟨y,h1,h2,h3,h4,h5⟩:=key N
 exact⟨y,⟨h1,h2,fun z k1 k2 k3=>h5 z k1 k2 (k3.trans h3) (hM z k1).2⟩,h3,h4⟩
theorem Tl.need {L:List Nd}{kd dual idle rul sg:Int}{T:Int→Prop}(h:Tl L kd dual idle rul sg T){ids:List Int}(hw:Wk L)(hn: ∀x,Need L sg dual (Mem L kd idle ids) x→T x): ∀x,Mem L kd idle ids x→T x:=by
 have hk: ∀(m:Nat) (x:Int),x<(m:Int)→Keep L sg (Mem L kd idle ids) x→T x:=by
  intro m
  induction m with
  |zero=>intro x hx hk;have:=hk.1.2.1.1;omega
  |succ m ih=>
   intro x hx hk
   by_cases e:(ndI L x).kind=dual∧∃z∈(ndI L x).kids,Keep L sg (Mem L kd idle ids) z
   ·obtain⟨e1,z,hz,hkz⟩:=e
    have:=hw x hk.1.2.1 z hz
    exact(h.one x hk.1.2.1 e1).2 ⟨z,hz,ih z o_m hkz⟩
   exact hn x ⟨hk,e⟩
 intro x hx
 by_cases h2:(ndI L x).kind=2
 ·obtain⟨y,h3,h4,h5⟩:=stay_some (L:=L) sg (Mem L kd idle ids) L.length (fun z hz=>hz.2.1) x hx h2
  exact h.less y x h3.1.2.1 hx.2.1 h3.2.1 h2 h4.symm h5 (hk (y.toNat+1) y (by have:=h3.1.2.1.1;omega) ⟨h3.1,fun _=>h3⟩)
 exact hk (x.toNat+1) x (by have:=hx.2.1.1;omega) ⟨hx,fun e=>absurd e h2⟩
theorem actJ_T {nn kk:Int}{s:St}{kd idle:Int}{l:List Int}{T':Int→Prop}(hkd:(kd=5∧idle=1)∨(kd=6∧idle=0))(hg:Gv kk s.L)(hl: ∀x∈l,okI s.L x)(he:(actJ nn kk s kd l).2.2=0)
  (h1: ∀i,okI (actJ nn kk s kd l).1.L i→(ndI (actJ nn kk s kd l).1.L i).kind=kd→(T' i↔ ∀z∈(ndI (actJ nn kk s kd l).1.L i).kids,T' z))(h2:T' idle):T' (actJ nn kk s kd l).2.1↔ ∀x∈l,T' x:=by
 have ha:l.any (lck s.L.length)=false:=by
  rw[List.any_eq_false]
  intro x hx
  rw[okI_lck.2 (hl x hx)]
  simp
 have hm:=mem_ris l
 have hkp:=kp_join (nn:=nn) (kd:=kd) (l:=l) hg o_m hl
 unfold actJ at he h1 hkp ⊢
 rw[if_neg o_m,ha,if_neg (by simp)]at he h1 hkp ⊢
 split at he
 ·rename_i e
  rw[e]at hm h1 hkp
  simp only
  have hl0: ∀x∈l,T' x:=fun x hx=>absurd ((hm x).2 hx) (by simp)
  rcases hkd with⟨e1,e2⟩|⟨e1,e2⟩
  ·rw[if_pos e1,←e2]
   exact⟨fun _=>hl0,fun _=>h2⟩
  rw[if_neg o_m,←e2]
  exact⟨fun _=>hl0,fun _=>h2⟩
 ·rename_i x e
  rw[e]at hm
  simp only
  exact⟨fun h y hy=>by have:=(hm y).2 hy;rw[List.mem_singleton]at this;rw[this];exact h,fun h=>h x ((hm x).1 (by simp))⟩
 rename_i x y t e
 rw[e]at hm h1 hkp
 simp only at h1 hkp ⊢
 have hok:=hkp.ok he
 have hnd:ndI (putE nn kk s ⟨kd,0,[],0,0,x::y::t⟩).1.L (putE nn kk s ⟨kd,0,[],0,0,x::y::t⟩).2.1=⟨kd,0,[],0,0,x::y::t⟩:=by
  rcases putE_cases nn kk s ⟨kd,0,[],0,0,x::y::t⟩with⟨i,g1,e⟩|⟨_,er,g1,e,_⟩|⟨_,_,_,e⟩
  ·rw[e]
   simp only
   show(s.L[((i:Int)).toNat]?).getD _=_
   rw[Int.toNat_natCast,g1]
   rfl
  ·rw[e]at he
   exact absurd he g1
  rw[e]
  simp only
  show((s.L++ [_])[((s.L.length:Int)).toNat]?).getD _=_
  rw[Int.toNat_natCast]
  simp
 rw[h1 _ hok (by rw[hnd]),hnd]
 exact⟨fun h z hz=>h z ((hm z).2 hz),fun h z hz=>h z ((hm z).1 hz)⟩
theorem SimpR.says {nn kk:Int}{s:St}{kd dual idle rul sg:Int}{ids:List Int}{r:St × Int × Int}(h:SimpR nn kk s kd dual idle rul sg ids r)(hkd:(kd=5∧dual=6∧idle=1)∨(kd=6∧dual=5∧idle=0))(hg:Gv kk s.L)(he:r.2.2=0)
  {T T':Int→Prop}(hT:Tl s.L kd dual idle rul sg T)(hT':Tl r.1.L kd dual idle rul sg T')(hs: ∀i,okI s.L i→(T' i↔T i)):T' r.2.1↔ ∀x∈ids,T x:=by
 rcases h with⟨_,rfl⟩|⟨ho,⟨h1,rfl⟩|⟨h1,l,hl,rfl⟩⟩
 ·cases he
 ·refine⟨fun h=>absurd h hT'.rul,fun hx=> ?_⟩
  exfalso
  rcases h1 with h1|⟨x,y,h2,h3,h4,h5⟩|⟨x,y,h2,h3,h4,h5,h6,h7,h8⟩
  ·exact hT.rul (hT.reach hx h1.1)
  ·exact hT.clash x y h2.1.2.1 h3.1.2.1 h2.2.1 h3.2.1 h4 h5 (hT.reach hx h2.1.1) (hT.reach hx h3.1.1)
  exact hT.opp x y h2.2.1 h3.2.1 h4 h5 h6 h7 h8 (hT.reach hx h2.1) (hT.reach hx h3.1)
 have hlo: ∀x∈l,okI s.L x:=fun x hx=>((hl x).1 hx).1.1.2.1
 rw[actJ_T (idle:=idle) o_m hg hlo he hT'.all hT'.idle]
 constructor
 ·intro h
  exact hT.back hg.wk ho (hT.need hg.wk fun x hx=>(hs x hx.1.1.2.1).1 (h x ((hl x).2 hx)))
 intro h x hx
 exact(hs x (hlo x hx)).2 (hT.reach h ((hl x).1 hx).1.1.1)
theorem SimpR.kp {nn kk:Int}{s:St}{kd dual idle rul sg:Int}{ids:List Int}{r:St × Int × Int}(h:SimpR nn kk s kd dual idle rul sg ids r)(hkd:kd=5∨kd=6)(hr:rul=0∨rul=1)(hg:Gv kk s.L):Kp kk s r:=by
 rcases h with⟨_,rfl⟩|⟨ho,⟨h1,rfl⟩|⟨h1,l,hl,rfl⟩⟩
 ·exact kp_now hg fun e=>by cases e
 ·exact kp_now hg fun _=>by rcases hr with rfl|rfl;exact hg.ok0;exact hg.ok1
 exact kp_join hg hkd fun x hx=>((hl x).1 hx).1.1.2.1
theorem and_tv {nn kk:Int}{s:St}{ids:List Int}{r:St × Int × Int}(h:SimpR nn kk s 5 6 1 0 1 ids r)(hg:Gv kk s.L)(he:r.2.2=0)(f:Int→Int):tv r.1.L f r.2.1↔ ∀x∈ids,tv s.L f x:=by
 have hk:=h.kp (.inl rfl) (.inl rfl) hg
 exact h.says (.inl ⟨rfl,rfl,rfl⟩) hg he (tl_and hg f) (tl_and hk.gv f) fun i hi=>tv_le hg.wk hk.gv.wk hk.le hi
theorem or_tv {nn kk:Int}{s:St}{ids:List Int}{r:St × Int × Int}(h:SimpR nn kk s 6 5 0 1 (-1) ids r)(hg:Gv kk s.L)(he:r.2.2=0)(f:Int→Int):tv r.1.L f r.2.1↔ ∃x∈ids,tv s.L f x:=by
 have hk:=h.kp (.inr rfl) (.inr rfl) hg
 have h1:=h.says (.inr ⟨rfl,rfl,rfl⟩) hg he (tl_or hg f) (tl_or hk.gv f) fun i hi=>not_congr (tv_le hg.wk hk.gv.wk hk.le hi)
 constructor
 ·intro h2
  refine Classical.byContradiction fun h3=>h1.2 (fun x hx h4=>h3 ⟨x,hx,h4⟩) h2
 rintro⟨x,hx,h2⟩
 exact Classical.byContradiction fun h3=>h1.1 h3 x hx h2
end Nt
namespace Nt

def Dn (L:List Nd)(i y:Int):Prop:=∀Q:Int→Prop,Q i→(∀a b,Q a→okI L a→b∈(ndI L a).kids→Q b)→Q y
theorem dn_self (L:List Nd)(i:Int):Dn L i i:=fun _ h _=>h
theorem dn_kid {L:List Nd}{i a b:Int}(h:Dn L i a)(ho:okI L a)(hb:b∈(ndI L a).kids):Dn L i b:=fun Q h1 h2=>h2 a b (h Q h1 h2) ho hb
theorem dn_up {L:List Nd}{i a b:Int}(ho:okI L i)(ha:a∈(ndI L i).kids)(h:Dn L a b):Dn L i b:=fun Q h1 h2=>h Q (h2 i a h1 ho ha) h2
theorem dn_ok {L:List Nd}(hw:Wk L){i y:Int}(ho:okI L i)(h:Dn L i y):okI L y:=h (okI L) ho fun _ _ h1 _ h2=>hw.ok h1 h2
theorem dn_cases {L:List Nd}{i y:Int}(h:Dn L i y):y=i∨(okI L i∧∃z∈(ndI L i).kids,Dn L z y):=
 h (fun y=>y=i∨(okI L i∧∃z∈(ndI L i).kids,Dn L z y)) (.inl rfl) fun _ b ha ho hb=>ha.elim (fun e=> .inr ⟨e▸ho,b,e▸hb,dn_self L b⟩) fun⟨h1,z,hz,h2⟩=> .inr ⟨h1,z,hz,dn_kid h2 ho hb⟩
def Her (L:List Nd)(P:Int→Prop)(i:Int):Prop:=∀y,Dn L i y→P y
theorem her_iff {L:List Nd}{P:Int→Prop}{i:Int}(ho:okI L i):Her L P i↔P i∧∀z∈(ndI L i).kids,Her L P z:=
 ⟨fun h=>⟨h i (dn_self L i),fun _ hz y hy=>h y (dn_up ho hz hy)⟩,fun⟨h1,h2⟩ y hy=>(dn_cases hy).elim (fun e=>e▸h1) fun⟨_,_,hz,h⟩=>h2 _ hz y h⟩
theorem dn_app {L t:List Nd}(hw:Wk L){i y:Int}(ho:okI L i):Dn (L++t) i y↔Dn L i y:=by
 constructor
 ·intro h
  refine(h (fun y=>okI L y∧Dn L i y) ⟨ho,dn_self L i⟩ fun a b ⟨h1,h2⟩ _ hb=> ?_).2
  rw[ndI_app h1]at hb
  exact⟨hw.ok h1 hb,dn_kid h2 h1 hb⟩
 intro h
 refine(h (fun y=>okI L y∧Dn (L++t) i y) ⟨ho,dn_self _ i⟩ fun a b ⟨h1,h2⟩ _ hb=> ?_).2
 exact⟨hw.ok h1 hb,dn_kid h2 (okI_app h1) (by rw[ndI_app h1];exact hb)⟩
theorem her_le {L L':List Nd}(hw:Wk L)(hl: ∃t,L'=L++t){P P':Int→Prop}(hP: ∀y,okI L y→(P' y↔P y)){i:Int}(ho:okI L i):Her L' P' i↔Her L P i:=by
 obtain⟨t,rfl⟩:=hl
 exact⟨fun h y hy=>(hP y (dn_ok hw ho hy)).1 (h y ((dn_app hw ho).2 hy)),fun h y hy=>(hP y (dn_ok hw ho ((dn_app hw ho).1 hy))).2 (h y ((dn_app hw ho).1 hy))⟩
theorem her_rk {L:List Nd}{P:Int→Prop}{kd:Int}{ids:List Int}(hi: ∀x∈ids,Her L P x){x:Int}(hx:Rk L kd ids x):Her L P x:=
 hx (Her L P) hi fun _ z hy ho _ hz=>((her_iff ho).1 hy).2 z hz
theorem putE_node {nn kk:Int}{s:St}{n:Nd}(he:(putE nn kk s n).2.2=0):ndI (putE nn kk s n).1.L (putE nn kk s n).2.1=n:=by
 rcases putE_cases nn kk s n with⟨i,g1,e⟩|⟨_,er,g1,e,_⟩|⟨_,_,_,e⟩
 ·rw[e]
  show(s.L[((i:Int)).toNat]?).getD _=_
  rw[Int.toNat_natCast,g1]
  rfl
 ·rw[e]at he
  exact absurd he g1
 rw[e]
 show((s.L++ [n])[((s.L.length:Int)).toNat]?).getD _=_
 rw[Int.toNat_natCast]
 simp
theorem actJ_cases {nn kk:Int}{s:St}{kd:Int}{l:List Int}(hkd:kd=5∨kd=6)(hl: ∀x∈l,okI s.L x):
  (l= []∧actJ nn kk s kd l=(s,if kd=5 then 1 else 0,0))∨(∃x,(∀y,y∈l↔y=x)∧actJ nn kk s kd l=(s,x,0))∨(2≤(ris l).length∧actJ nn kk s kd l=putE nn kk s ⟨kd,0,[],0,0,ris l⟩):=by
 have ha:l.any (lck s.L.length)=false:=by
  rw[List.any_eq_false]
  intro x hx
  rw[okI_lck.2 (hl x hx)]
  simp
 have hm:=mem_ris l
 unfold actJ
 rw[if_neg o_m,ha,if_neg (by simp)]
 split
 ·rename_i e
  rw[e]at hm
  exact .inl ⟨List.eq_nil_iff_forall_not_mem.2 fun x hx=>List.not_mem_nil ((hm x).2 hx),rfl⟩
 ·rename_i x e
  rw[e]at hm
  exact .inr (.inl ⟨x,fun y=>by rw[←hm y,List.mem_singleton],rfl⟩)
 rename_i x y t e
 rw[e]
 exact .inr (.inr ⟨by simp,rfl⟩)
theorem SimpR.her {nn kk:Int}{s:St}{kd dual idle rul sg:Int}{ids:List Int}{r:St × Int × Int}(h:SimpR nn kk s kd dual idle rul sg ids r)(hkd:kd=5∨kd=6)(hr:rul=0∨rul=1)(hg:Gv kk s.L)(he:r.2.2=0)
  {P P':Int→Prop}(hP: ∀y,okI s.L y→(P' y↔P y))(h0:P 0)(h1:P 1)(hj:okI r.1.L r.2.1→(ndI r.1.L r.2.1).kind=kd→¬okI s.L r.2.1∨(∃l,(∀x,x∈l↔Need s.L sg dual (Mem s.L kd idle ids) x)∧(ndI r.1.L r.2.1).kids=ris l)→P' r.2.1)(hi: ∀x∈ids,Her s.L P x):Her r.1.L P' r.2.1:=by
 have hk:=h.kp hkd hr hg
 have hc: ∀x,(x=0∨x=1)→Her s.L P x:=fun x hx=>by
  rcases hx with rfl|rfl
  ·rw[her_iff hg.ok0,hg.n0];exact⟨h0,fun z hz=>by cases hz⟩
  rw[her_iff hg.ok1,hg.n1];exact⟨h1,fun z hz=>by cases hz⟩
 rcases h with⟨_,rfl⟩|⟨ho,⟨_,rfl⟩|⟨_,l,hl,rfl⟩⟩
 ·cases he
 ·exact(her_le hg.wk hk.le hP (by rcases hr with rfl|rfl;exact hg.ok0;exact hg.ok1)).2 (hc _ hr)
 have hlo: ∀x∈l,okI s.L x:=fun x hx=>((hl x).1 hx).1.1.2.1
 have hlh: ∀x∈l,Her s.L P x:=fun x hx=>her_rk hi ((hl x).1 hx).1.1.1
 rcases actJ_cases (nn:=nn) (kk:=kk) hkd hlo with⟨_,e⟩|⟨x,hx,e⟩|⟨h2,e⟩
 ·rw[e]at hk ⊢
  refine(her_le hg.wk hk.le hP ?_).2 (hc _ ?_)
  ·simp only
   split
   ·exact hg.ok1
   exact hg.ok0
  simp only
  split
  ·exact .inr rfl
  exact .inl rfl
 ·rw[e]at hk ⊢
  exact(her_le hg.wk hk.le hP (hlo x ((hx x).2 rfl))).2 (hlh x ((hx x).2 rfl))
 rw[e]at hk he hj ⊢
 have hn:=putE_node he
 have hok:=hk.ok he
 rw[her_iff hok,hn]
 refine⟨hj hok (by rw[hn]) (.inr ⟨l,hl,by rw[hn]⟩),fun z hz=> ?_⟩
 have hz':=(mem_ris l z).1 hz
 exact(her_le hg.wk hk.le hP (hlo z hz')).2 (hlh z hz')

def Law5 (kd dual idle rul sg:Int):Prop:=(kd=5∧dual=6∧idle=1∧rul=0∧sg=1)∨(kd=6∧dual=5∧idle=0∧rul=1∧sg= -1)
theorem rk_one {L:List Nd}{kd x:Int}(ho:okI L x)(hk:(ndI L x).kind=kd){y:Int}:Rk L kd [x] y↔y=x∨Rk L kd (ndI L x).kids y:=by
 constructor
 ·intro h
  refine h (fun y=>y=x∨Rk L kd (ndI L x).kids y) (fun y hy=> .inl (by simpa using hy)) fun a b ha hoa hka hb=> ?_
  rcases ha with rfl|ha
  ·exact .inr (rk_id hb)
  exact .inr (rk_kid ha hoa hka hb)
 rintro(rfl|h)
 ·exact rk_id (by simp)
 exact h (Rk L kd [x]) (fun a ha=>rk_kid (rk_id (by simp)) ho hk ha) fun a b ha hoa hka hb=>rk_kid ha hoa hka hb
end Nt
namespace Nt

def Prs (J:Int→Int→Prop):List Int→List Int→Prop
 | [],[]=>True
 |a::la,b::lb=>J a b∧Prs J la lb
 | [],_::_=>False
 |_::_,[]=>False
theorem prs_snoc {J:Int→Int→Prop}{a b:Int}(h:J a b): ∀{la lb:List Int},Prs J la lb→Prs J (la++ [a]) (lb++ [b])
 | [],[],_=>⟨h,trivial⟩
 |_::_,_::_,k=>⟨k.1,prs_snoc h k.2⟩
 | [],_::_,k=>False.elim k
 |_::_,[],k=>False.elim k
theorem prs_mono {J K:Int→Int→Prop}: ∀{la lb:List Int},(∀a∈la,∀b∈lb,J a b→K a b)→Prs J la lb→Prs K la lb
 | [],[],_,_=>trivial
 |a::_la,b::_lb,h,k=>⟨h a List.mem_cons_self b List.mem_cons_self k.1,prs_mono (fun a ha b hb=>h a (List.mem_cons_of_mem _ ha) b (List.mem_cons_of_mem _ hb)) k.2⟩
 | [],_::_,_,k=>False.elim k
 |_::_,[],_,k=>False.elim k
theorem prs_len {J:Int→Int→Prop}: ∀{la lb:List Int},Prs J la lb→la.length=lb.length
 | [],[],_=>rfl
 |_::_,_::_,k=>congrArg Nat.succ (prs_len k.2)
 | [],_::_,k=>False.elim k
 |_::_,[],k=>False.elim k
theorem prs_left {J:Int→Int→Prop}: ∀{la lb:List Int},Prs J la lb→∀a∈la,∃b∈lb,J a b
 | [],[],_,_a,ha=>absurd ha List.not_mem_nil
 |_x::_la,y::_lb,k,a,ha=>(List.mem_cons.1 ha).elim (fun e=>⟨y,List.mem_cons_self,e▸k.1⟩) fun h=>(prs_left k.2 a h).elim fun b hb=>⟨b,List.mem_cons_of_mem _ hb.1,hb.2⟩
 | [],_::_,k,_,_=>False.elim k
 |_::_,[],k,_,_=>False.elim k
theorem prs_right {J:Int→Int→Prop}: ∀{la lb:List Int},Prs J la lb→∀b∈lb,∃a∈la,J a b
 | [],[],_,_a,ha=>absurd ha List.not_mem_nil
 |x::_la,_y::_lb,k,b,hb=>(List.mem_cons.1 hb).elim (fun e=>⟨x,List.mem_cons_self,e▸k.1⟩) fun h=>(prs_right k.2 b h).elim fun a ha=>⟨a,List.mem_cons_of_mem _ ha.1,ha.2⟩
 | [],_::_,k,_,_=>False.elim k
 |_::_,[],k,_,_=>False.elim k
def ndA (a:Atm):Nd:=⟨a.kind,a.d,a.ps,a.k,0,[]⟩
theorem Gv.atm {kk:Int}{L:List Nd}(h:Gv kk L){i:Int}(hi:okI L i)(hk:(ndI L i).kind<5):Fit (atmN (ndI L i))∧(ndI L i).ps.length≤209716∧(ndI L i).kids= []∧ndI L i=ndA (atmN (ndI L i)):=by
 rcases h.cases hi with⟨_,e⟩|⟨_,e⟩|⟨_,f,h1,_,_,e,h5,_⟩|⟨_,kd,kids,h3,e,_⟩|⟨_,kd,v,x,h3,e,_⟩
 ·rw[e];exact⟨.inl ⟨.inl rfl,rfl,rfl,rfl⟩,by simp[cst],rfl,rfl⟩
 ·rw[e];exact⟨.inl ⟨.inr rfl,rfl,rfl,rfl⟩,by simp[cst],rfl,rfl⟩
 ·rw[e];exact⟨h1,h5,rfl,rfl⟩
 ·rw[e]at hk;dsimp only at hk;omega
 rw[e]at hk;dsimp only at hk;omega
theorem Gv.quant {kk:Int}{L:List Nd}(h:Gv kk L){i:Int}(hi:okI L i)(hk:(ndI L i).kind=7∨(ndI L i).kind=8): ∃x,(ndI L i).kids= [x]∧I64 (ndI L i).var∧ndI L i=⟨(ndI L i).kind,0,[],0,(ndI L i).var,[x]⟩∧okI L x:=by
 have hw:=h.wk
 rcases h.cases hi with⟨_,e⟩|⟨_,e⟩|⟨_,f,_,h2,_,e,_⟩|⟨_,kd,kids,h3,e,_⟩|⟨_,kd,v,x,h3,e,h5,h6⟩
 ·rw[e]at hk;simp[cst]at hk
 ·rw[e]at hk;simp[cst]at hk
 ·rw[e]at hk;dsimp only at hk;omega
 ·rw[e]at hk;dsimp only at hk;omega
 refine⟨x,by rw[e],by rw[e];exact h5,by rw[e],hw.ok hi (by rw[e];simp)⟩
theorem Gv.kinds {kk:Int}{L:List Nd}(h:Gv kk L){i:Int}(hi:okI L i):0≤(ndI L i).kind∧(ndI L i).kind≤8:=by
 rcases h.cases hi with⟨_,e⟩|⟨_,e⟩|⟨_,f,_,h2,_,e,_⟩|⟨_,kd,kids,h3,e,_⟩|⟨_,kd,v,x,h3,e,h5,h6⟩
 ·rw[e];simp[cst]
 ·rw[e];simp[cst]
 ·rw[e];dsimp only;omega
 ·rw[e];dsimp only;omega
 rw[e];dsimp only;omega
def PlnP (L:List Nd)(y:Int):Prop:=(ndI L y).kind≠7∧(ndI L y).kind≠8
def Pln (L:List Nd)(i:Int):Prop:=Her L (PlnP L) i
theorem plnP_app {L L':List Nd}(hl: ∃t,L'=L++t)(y:Int)(ho:okI L y):PlnP L' y↔PlnP L y:=by
 obtain⟨t,rfl⟩:=hl
 unfold PlnP
 rw[ndI_app ho]
theorem pln_le {L L':List Nd}(hw:Wk L)(hl: ∃t,L'=L++t){i:Int}(ho:okI L i):Pln L' i↔Pln L i:=her_le hw hl (plnP_app hl) ho
end Nt
namespace Nt

theorem dn_le {L:List Nd}(hw:Wk L){id x:Int}(hi:okI L id)(h:Dn L id x):okI L x∧x≤id:=
 h (fun y=>okI L y∧y≤id) ⟨hi,Int.le_refl _⟩ fun y z hy ho hz=>⟨hw.ok ho hz,by have:=hw y ho z hz;omega⟩
def DnL (L:List Nd)(id:Int)(l:List Int):Prop:=l.Pairwise (· < ·)∧∀m,m∈l↔Dn L id m
structure Rch (L:List Nd) (id n:Int) (r:Int→Bool) (acc:List Int):Prop where
 top:r id=true
 snd: ∀m,r m=true→Dn L id m
 cls: ∀y,n<y→r y=true→∀z∈(ndI L y).kids,r z=true
 mem: ∀m,m∈acc↔n<m∧r m=true
 dec:acc.Pairwise (· > ·)
 len:(acc.length:Int)≤id-n
theorem rch_0 (L:List Nd)(id:Int):Rch L id id (fun m=>decide (m=id)) []:=
 ⟨by simp,fun m h=>by rw[of_decide_eq_true h];exact(dn_self L id),fun y hy h=>by have:=of_decide_eq_true h;omega,fun m=>⟨fun h=>(by cases h),fun⟨h1,h2⟩=>by have:=of_decide_eq_true h2;omega⟩,List.Pairwise.nil,by simp⟩
theorem Rch.skip {L:List Nd}{id n:Int}{r:Int→Bool}{acc:List Int}(h:Rch L id n r acc)(hn:r n=false):Rch L id (n-1) r acc:=by
 refine⟨h.top,h.snd,fun y hy hr=> ?_,fun m=> ?_,h.dec,by have:=h.len;omega⟩
 ·refine h.cls y ?_ hr
  rcases Int.lt_or_eq_of_le (show n≤y by omega)with h1|rfl
  ·exact h1
  rw[hn]at hr
  cases hr
 rw[h.mem m]
 refine and_congr_left fun hr=>⟨fun h1=>by omega,fun h1=> ?_⟩
 rcases Int.lt_or_eq_of_le (show n≤m by omega)with h2|rfl
 ·exact h2
 rw[hn]at hr
 cases hr
theorem Rch.take {L:List Nd}(hw:Wk L){id n:Int}{r:Int→Bool}{acc:List Int}(h:Rch L id n r acc)(hn:r n=true)(ho:okI L n):Rch L id (n-1) (fun m=>r m||decide (m∈(ndI L n).kids)) (acc++ [n]):=by
 have hk: ∀y,n≤y→decide (y∈(ndI L n).kids)=false:=fun y hy=>decide_eq_false fun hm=>by have:=hw n ho y hm;omega
 refine⟨by rw[h.top];rfl,fun m hm=> ?_,fun y hy hr z hz=> ?_,fun m=> ?_,?_,?_⟩
 ·rcases Bool.or_eq_true_iff.1 hm with h1|h1
  ·exact h.snd m h1
  exact dn_kid (h.snd n hn) ho (of_decide_eq_true h1)
 ·have hr2:r y=true:=by simpa [hk y o_m] using hr
  rcases Int.lt_or_eq_of_le (show n≤y by omega)with h1|rfl
  ·exact Bool.or_eq_true_iff.2 (.inl (h.cls y h1 hr2 z hz))
  exact Bool.or_eq_true_iff.2 (.inr (decide_eq_true hz))
 ·rw[mem_snoc,h.mem m]
  constructor
  ·rintro(⟨h1,h2⟩|rfl)
   ·exact⟨by omega,by rw[h2];rfl⟩
   exact⟨by omega,by rw[hn];rfl⟩
  rintro⟨h1,h2⟩
  rcases Int.lt_or_eq_of_le (show n≤m by omega)with h3|rfl
  ·exact .inl ⟨h3,by simpa [hk m o_m] using h2⟩
  exact .inr rfl
 ·rw[List.pairwise_append]
  refine⟨h.dec,List.pairwise_singleton _ _,fun x hx y hy=> ?_⟩
  rw[List.mem_singleton.1 hy]
  exact((h.mem x).1 hx).1
 have:=h.len
 rw[List.length_append,List.length_singleton]
 omega
theorem Rch.done {L:List Nd}(hw:Wk L){id:Int}(hi:okI L id){r:Int→Bool}{acc:List Int}(h:Rch L id (-1) r acc):DnL L id acc.reverse:=by
 refine⟨List.pairwise_reverse.2 h.dec,fun m=> ?_⟩
 rw[List.mem_reverse,h.mem m]
 refine⟨fun h1=>h.snd m h1.2,fun h1=>⟨by have:=(dn_le hw hi h1).1.1;omega,?_⟩⟩
 exact h1 (fun y=>r y=true) h.top fun y z hy ho hz=>h.cls y (by have:=ho.1;omega) hy z hz
end Nt
namespace Nt

def Bds (n:Nd)(v:Int):Prop:=(n.kind=7∨n.kind=8)∧n.var=v
def Dv (L:List Nd)(v x y:Int):Prop:=∀Q:Int→Prop,Q x→(∀a b,Q a→okI L a→¬Bds (ndI L a) v→b∈(ndI L a).kids→Q b)→Q y
def Fv (L:List Nd)(v x:Int):Prop:=∃y,Dv L v x y∧∃c,(v,c)∈(ndI L y).ps
theorem dv_self (L:List Nd)(v x:Int):Dv L v x x:=fun _ h _=>h
theorem dv_kid {L:List Nd}{v x a b:Int}(h:Dv L v x a)(ho:okI L a)(hn: ¬Bds (ndI L a) v)(hb:b∈(ndI L a).kids):Dv L v x b:=fun Q h1 h2=>h2 a b (h Q h1 h2) ho hn hb
theorem dv_up {L:List Nd}{v x k y:Int}(ho:okI L x)(hn: ¬Bds (ndI L x) v)(hk:k∈(ndI L x).kids)(h:Dv L v k y):Dv L v x y:=fun Q h1 h2=>h Q (h2 x k h1 ho hn hk) h2
theorem dv_dn {L:List Nd}{v x y:Int}(h:Dv L v x y):Dn L x y:=fun Q h1 h2=>h Q h1 fun a b ha ho _ hb=>h2 a b ha ho hb
theorem dv_cases {L:List Nd}{v x y:Int}(h:Dv L v x y):y=x∨(okI L x∧¬Bds (ndI L x) v∧∃k∈(ndI L x).kids,Dv L v k y):=
 h (fun y=>y=x∨(okI L x∧¬Bds (ndI L x) v∧∃k∈(ndI L x).kids,Dv L v k y)) (.inl rfl) fun a b ha ho hn hb=>by
  rcases ha with rfl|⟨h1,h2,k,hk,hr⟩
  ·exact .inr ⟨ho,hn,b,hb,dv_self L v b⟩
  exact .inr ⟨h1,h2,k,hk,dv_kid hr ho hn hb⟩
theorem fv_iff {L:List Nd}{v x:Int}(ho:okI L x):Fv L v x↔(∃c,(v,c)∈(ndI L x).ps)∨(¬Bds (ndI L x) v∧∃k∈(ndI L x).kids,Fv L v k):=by
 constructor
 ·rintro⟨y,hy,hc⟩
  rcases dv_cases hy with rfl|⟨_,hn,k,hk,hr⟩
  ·exact .inl hc
  exact .inr ⟨hn,k,hk,y,hr,hc⟩
 rintro(hc|⟨hn,k,hk,y,hr,hc⟩)
 ·exact⟨x,dv_self L v x,hc⟩
 exact⟨y,dv_up ho hn hk hr,hc⟩
theorem dv_app {L t:List Nd}(hw:Wk L){v x y:Int}(ho:okI L x):Dv (L++t) v x y↔Dv L v x y:=by
 constructor
 ·intro h
  exact(h (fun y=>okI L y∧Dv L v x y) ⟨ho,dv_self L v x⟩ fun a b ha _ hn hb=>by
   rw[ndI_app ha.1]at hn hb
   exact⟨hw.ok ha.1 hb,dv_kid ha.2 ha.1 hn hb⟩).2
 intro h
 exact h (fun y=>Dv (L++t) v x y) (dv_self _ v x) fun a b ha hao hn hb=>dv_kid ha (okI_app hao) (by rw[ndI_app hao];exact hn) (by rw[ndI_app hao];exact hb)
theorem fv_le {L L':List Nd}(hw:Wk L)(hl: ∃t,L'=L++t){v x:Int}(ho:okI L x):Fv L' v x↔Fv L v x:=by
 obtain⟨t,rfl⟩:=hl
 refine exists_congr fun y=> ?_
 rw[dv_app hw ho]
 refine and_congr_right fun h=> ?_
 rw[ndI_app (dn_ok hw ho (dv_dn h))]
theorem fv_pln {L:List Nd}{v x:Int}(hp:Pln L x):Fv L v x↔ ∃y,Dn L x y∧∃c,(v,c)∈(ndI L y).ps:=by
 refine⟨fun⟨y,hy,hc⟩=>⟨y,dv_dn hy,hc⟩,fun⟨y,hy,hc⟩=>⟨y,?_,hc⟩⟩
 exact(hy (fun y=>Dn L x y∧Dv L v x y) ⟨dn_self L x,dv_self L v x⟩ fun a b ha ho hb=>⟨dn_kid ha.1 ho hb,dv_kid ha.2 ho (fun hn=>hn.1.elim (hp a ha.1).1 (hp a ha.1).2) hb⟩).2

def Co (L:List Nd):Nat→Int→Nat
 |0,_=>0
 |m+1,i=>if(ndI L i).kind=5∨(ndI L i).kind=6 then((ndI L i).kids.map fun k=>1+Co L m k).sum else 1
def co (L:List Nd)(i:Int):Nat:=Co L (i.toNat+1) i
theorem co_fuel {L:List Nd}(hw:Wk L): ∀(m:Nat) (i:Int) (q:Nat),okI L i→i<(m:Int)→i<(q:Int)→Co L m i=Co L q i
 |0,i,q,ho,hm,hq=>by have:=ho.1;omega
 |m+1,i,0,ho,hm,hq=>by have:=ho.1;omega
 |m+1,i,q+1,ho,hm,hq=>by
  have ih: ∀z∈(ndI L i).kids,Co L m z=Co L q z:=fun z hz=>co_fuel hw m z q (hw.ok ho hz) (by have:=hw i ho z hz;omega) (by have:=hw i ho z hz;omega)
  have e:(ndI L i).kids.map (fun k=>1+Co L m k)=(ndI L i).kids.map (fun k=>1+Co L q k):=List.map_congr_left fun z hz=>by rw[ih z hz]
  simp only[Co]
  rw[e]
theorem co_join {L:List Nd}(hw:Wk L){i:Int}(ho:okI L i)(hk:(ndI L i).kind=5∨(ndI L i).kind=6):co L i=((ndI L i).kids.map fun k=>1+co L k).sum:=by
 unfold co
 simp only[Co]
 rw[if_pos hk]
 congr 1
 exact List.map_congr_left fun z hz=>by rw[co_fuel hw _ z (z.toNat+1) (hw.ok ho hz) (by have:=hw i ho z hz;omega) (by have:=hw i ho z hz;omega)];rfl
theorem co_atm {L:List Nd}{i:Int}(hk: ¬((ndI L i).kind=5∨(ndI L i).kind=6)):co L i=1:=by
 unfold co
 simp only[Co]
 rw[if_neg hk]
theorem co_app {L t:List Nd}(hw:Wk L)(hw2:Wk (L++t)): ∀(m:Nat) {i:Int},i<(m:Int)→okI L i→co (L++t) i=co L i
 |0,i,hm,ho=>by have:=ho.1;omega
 |m+1,i,hm,ho=>by
  have e:=ndI_app (t:=t) ho
  by_cases hk:(ndI L i).kind=5∨(ndI L i).kind=6
  ·rw[co_join hw ho hk,co_join hw2 (okI_app ho) (by rw[e];exact hk),e]
   congr 1
   exact List.map_congr_left fun z hz=>by rw[co_app hw hw2 m (by have:=hw i ho z hz;omega) (hw.ok ho hz)]
  rw[co_atm hk,co_atm (by rw[e];exact hk)]
theorem co_le {L L':List Nd}(hw:Wk L)(hw2:Wk L')(hl: ∃t,L'=L++t){i:Int}(ho:okI L i):co L' i=co L i:=by
 obtain⟨t,rfl⟩:=hl
 exact co_app hw hw2 (i.toNat+1) (by have:=ho.1;omega) ho
theorem sum_split (f:Int→Nat)(p:Int→Bool): ∀l:List Int,(l.map f).sum=((l.filter p).map f).sum+((l.filter fun x=> !p x).map f).sum
 | []=>rfl
 |x::l=>by
  have ih:=sum_split f p l
  by_cases h:p x=true
  ·simp[h,ih]
   omega
  simp[h,ih]
  omega
theorem sum_cover {A:Int→Int→Prop}(f g:Int→Nat): ∀(ks l:List Int),l.Nodup→(∀m∈l,∃k∈ks,A k m)→(∀k∈ks,∀l':List Int,l'.Nodup→(∀m∈l',A k m)→(l'.map f).sum≤g k)→(l.map f).sum≤(ks.map g).sum
 | [],l,_,h,_=>by
  have:l= []:=List.eq_nil_iff_forall_not_mem.2 fun m hm=>by obtain⟨k,hk,_⟩:=h m hm;cases hk
  subst this
  simp
 |k::ks,l,hn,h,hk=>by
  classical
  rw[sum_split f (fun m=>decide (A k m)) l,List.map_cons,List.sum_cons]
  refine Nat.add_le_add (hk k List.mem_cons_self _ (hn.filter _) fun m hm=>of_decide_eq_true (List.mem_filter.1 hm).2) (sum_cover f g ks _ (hn.filter _) (fun m hm=> ?_) fun k' hk'=>hk k' (List.mem_cons_of_mem _ hk'))
  obtain⟨h1,h2⟩:=List.mem_filter.1 hm
  obtain⟨k',hk',hA⟩:=h m h1
  rcases List.mem_cons.1 hk' with rfl|hk'
  ·simp[hA]at h2
  exact⟨k',hk',hA⟩
theorem rk_self {L:List Nd}{kd x y:Int}(hk:(ndI L x).kind≠kd)(h:Rk L kd [x] y):y=x:=
 h (fun y=>y=x) (fun _ hy=>List.mem_singleton.1 hy) fun _ _ ha _ hb _=>absurd (ha▸hb) hk
theorem rk_mem {L:List Nd}{kd:Int}{ids:List Int}{y:Int}(h:Rk L kd ids y): ∃x∈ids,Rk L kd [x] y:=
 h (fun y=> ∃x∈ids,Rk L kd [x] y) (fun y hy=>⟨y,hy,rk_id (List.mem_singleton.2 rfl)⟩) fun _ _ ⟨x,hx,hr⟩ ho hk hb=>⟨x,hx,rk_kid hr ho hk hb⟩
theorem mem_cost {L:List Nd}(hw:Wk L){kd:Int}(hkd:kd=5∨kd=6): ∀(n:Nat) (x:Int),x<(n:Int)→okI L x→∀l:List Int,l.Nodup→(∀m∈l,Rk L kd [x] m∧(ndI L m).kind≠kd)→(l.map fun m=>1+co L m).sum≤1+co L x
 |0,x,hx,ho,_,_,_=>by have:=ho.1;omega
 |n+1,x,hx,ho,l,hn,hl=>by
  by_cases hk:(ndI L x).kind=kd
  ·have h1:(l.map fun m=>1+co L m).sum≤((ndI L x).kids.map fun m=>1+co L m).sum:=by
    refine sum_cover (A:=fun k m=>Rk L kd [k] m∧(ndI L m).kind≠kd) _ _ _ l hn (fun m hm=> ?_) fun k hk' l' hn' hl'=>mem_cost hw hkd n k (by have:=hw x ho k hk';omega) (hw.ok ho hk') l' hn' hl'
    obtain⟨h2,h3⟩:=hl m hm
    rcases(rk_one ho hk).1 h2 with rfl|h4
    ·exact absurd hk h3
    obtain⟨k,hk',h5⟩:=rk_mem h4
    exact⟨k,hk',h5,h3⟩
   rw[co_join hw ho (by rw[hk];exact hkd)]
   omega
  have h1: ∀m∈l,m=x:=fun m hm=>rk_self hk (hl m hm).1
  match l,hn with
  | [],_=>simp
  | [m],_=>rw[h1 m List.mem_cons_self];simp
  |m::m2::l2,hn=>
   have e1:=h1 m List.mem_cons_self
   have e2:=h1 m2 (List.mem_cons_of_mem _ List.mem_cons_self)
   exact absurd (show m∈m2::l2 by rw[e1,e2];exact List.mem_cons_self) (List.nodup_cons.1 hn).1
theorem SimpR.co {nn kk:Int}{s:St}{kd dual idle rul sg:Int}{ids:List Int}{r:St × Int × Int}(h:SimpR nn kk s kd dual idle rul sg ids r)(hlw:Law5 kd dual idle rul sg)(hg:Gv kk s.L)(he:r.2.2=0)(hne:ids≠ []):co r.1.L r.2.1≤(ids.map fun x=>1+co s.L x).sum:=by
 have hkd:kd=5∨kd=6:=hlw.imp (fun h=>h.1) fun h=>h.1
 have hr:rul=0∨rul=1:=hlw.elim (fun h=> .inl h.2.2.2.1) fun h=> .inr h.2.2.2.1
 have hk:=h.kp hkd hr hg
 have h1:1≤(ids.map fun x=>1+Nt.co s.L x).sum:=by
  cases ids with
  |nil=>exact absurd rfl hne
  |cons a l=>rw[List.map_cons,List.sum_cons];omega
 have hc: ∀x,x=0∨x=1→Nt.co s.L x=1:=fun x hx=>co_atm (by rcases hx with rfl|rfl;rw[hg.n0];simp[cst];rw[hg.n1];simp[cst])
 rcases h with⟨_,rfl⟩|⟨ho,⟨_,rfl⟩|⟨_,l,hl,rfl⟩⟩
 ·cases he
 ·rw[hc _ hr]
  exact h1
 have hlo: ∀x∈l,okI s.L x:=fun x hx=>((hl x).1 hx).1.1.2.1
 have hcov: ∀q:List Int,q.Nodup→(∀x∈q,x∈l)→(q.map fun x=>1+Nt.co s.L x).sum≤(ids.map fun x=>1+Nt.co s.L x).sum:=fun q hn hq=>by
  refine sum_cover (A:=fun k m=>Rk s.L kd [k] m∧(ndI s.L m).kind≠kd) _ _ ids q hn (fun m hm=> ?_) fun k hk' l' hn' hl'=>mem_cost hg.wk hkd (k.toNat+1) k (by have:=(ho k hk').1;omega) (ho k hk') l' hn' hl'
  have h2:=((hl m).1 (hq m hm)).1.1
  obtain⟨k,hk',h5⟩:=rk_mem h2.1
  exact⟨k,hk',h5,h2.2.2.1⟩
 rcases actJ_cases (nn:=nn) (kk:=kk) hkd hlo with⟨_,e⟩|⟨x,hx,e⟩|⟨h2,e⟩
 ·rw[e]
  simp only
  rw[hc _ (by split;exact .inr rfl;exact .inl rfl)]
  exact h1
 ·rw[e]
  have:=hcov [x] (by simp) (fun y hy=>(hx y).2 (List.mem_singleton.1 hy))
  simp at this ⊢
  omega
 rw[e]at hk he ⊢
 have hn:=putE_node he
 have hok:=hk.ok he
 rw[co_join hk.gv.wk hok (by rw[hn];exact hkd),hn]
 have hrl: ∀x∈ris l,x∈l:=fun x hx=>(mem_ris l x).1 hx
 have e2:(ris l).map (fun k=>1+Nt.co (putE nn kk s ⟨kd,0,[],0,0,ris l⟩).1.L k)=(ris l).map (fun k=>1+Nt.co s.L k):=List.map_congr_left fun z hz=>by rw[co_le hg.wk hk.gv.wk hk.le (hlo z (hrl z hz))]
 dsimp only
 rw[e2]
 exact hcov _ ((ris_rises l).imp fun h=>Int.ne_of_lt h) hrl
theorem SimpR.fv {nn kk:Int}{s:St}{kd dual idle rul sg:Int}{ids:List Int}{r:St × Int × Int}(h:SimpR nn kk s kd dual idle rul sg ids r)(hlw:Law5 kd dual idle rul sg)(hg:Gv kk s.L)(he:r.2.2=0){v:Int}(hf:Fv r.1.L v r.2.1): ∃x∈ids,Fv s.L v x:=by
 have hkd:kd=5∨kd=6:=hlw.imp (fun h=>h.1) fun h=>h.1
 have hr:rul=0∨rul=1:=hlw.elim (fun h=> .inl h.2.2.2.1) fun h=> .inr h.2.2.2.1
 have hk:=h.kp hkd hr hg
 have hc: ∀x,x=0∨x=1→¬Fv s.L v x:=fun x hx hf=>by
  rcases hx with rfl|rfl
  ·rw[fv_iff hg.ok0,hg.n0]at hf
   simp[cst]at hf
  rw[fv_iff hg.ok1,hg.n1]at hf
  simp[cst]at hf
 have hup: ∀x∈ids,∀m,Rk s.L kd [x] m→okI s.L x→okI s.L m∧(Fv s.L v m→Fv s.L v x):=fun x _ m hm hox=>
  hm (fun m=>okI s.L m∧(Fv s.L v m→Fv s.L v x)) (fun y hy=>by rw[List.mem_singleton.1 hy];exact⟨hox,fun h=>h⟩) fun a b ha hao hka hb=>⟨hg.wk.ok hao hb,fun hf=>ha.2 ((fv_iff hao).2 (.inr ⟨fun hn=>by have:=hn.1;omega,b,hb,hf⟩))⟩
 rcases h with⟨_,rfl⟩|⟨ho,⟨_,rfl⟩|⟨_,l,hl,rfl⟩⟩
 ·cases he
 ·exact absurd hf (hc _ hr)
 have hlo: ∀x∈l,okI s.L x:=fun x hx=>((hl x).1 hx).1.1.2.1
 have hlf: ∀m∈l,Fv s.L v m→∃x∈ids,Fv s.L v x:=fun m hm hf=>by
  obtain⟨x,hx,hr'⟩:=rk_mem ((hl m).1 hm).1.1.1
  exact⟨x,hx,(hup x hx m hr' (ho x hx)).2 hf⟩
 rcases actJ_cases (nn:=nn) (kk:=kk) hkd hlo with⟨_,e⟩|⟨x,hx,e⟩|⟨h2,e⟩
 ·rw[e]at hf
  exact absurd hf (hc _ (by simp only;split;exact .inr rfl;exact .inl rfl))
 ·rw[e]at hf
  exact hlf x ((hx x).2 rfl) hf
 rw[e]at hk he hf
 have hn:=putE_node he
 have hok:=hk.ok he
 rw[fv_iff hok,hn]at hf
 rcases hf with⟨c,hc'⟩|⟨_,k,hk',hf⟩
 ·cases hc'
 have hkl:=(mem_ris l k).1 hk'
 exact hlf k hkl ((fv_le hg.wk hk.le (hlo k hkl)).1 hf)
end Nt
namespace Nt

def TuR (T:Atm→Atm→Prop)(nn kk:Int)(s:St)(i:Int)(ks:List Int)(r:St × Int × Int):Prop:=
 ((ndI s.L i).kind=5∧SimpR nn kk s 5 6 1 0 1 ks r)∨((ndI s.L i).kind=6∧SimpR nn kk s 6 5 0 1 (-1) ks r)∨
 (((ndI s.L i).kind=7∨(ndI s.L i).kind=8)∧r=actB nn kk s (ndI s.L i).kind (ndI s.L i).var (ks.headD 0))∨
 ((ndI s.L i).kind<5∧∃a',T (atmN (ndI s.L i)) a'∧a'.ps.length≤209716∧r=putE nn kk s (ndA a'))
def TFit (T:Atm→Atm→Prop):Prop:=∀a a',T a a'→Fit a'
theorem TuR.kp {T:Atm→Atm→Prop}(hT:TFit T){nn kk:Int}{s:St}{i:Int}{ks:List Int}{r:St × Int × Int}(h:TuR T nn kk s i ks r)(hg:Gv kk s.L)(hi:okI s.L i):Kp kk s r:=by
 rcases h with⟨_,h⟩|⟨_,h⟩|⟨hk,rfl⟩|⟨hk,a',ha,hl,rfl⟩
 ·exact h.kp (.inl rfl) (.inl rfl) hg
 ·exact h.kp (.inr rfl) (.inr rfl) hg
 ·obtain⟨x,_,h1,_⟩:=hg.quant hi hk
  exact kp_bind hg hk h1
 exact kp_put hg (.inl ⟨_,hT _ _ ha,rfl,hl⟩)
theorem putE_er {nn kk:Int}{s:St}{n:Nd}(he:(putE nn kk s n).2.2≠0):(putE nn kk s n).1.er≠0:=by
 rcases putE_cases nn kk s n with⟨i,g1,e⟩|⟨_,er,g1,e,_⟩|⟨_,_,_,e⟩
 ·rw[e]at he
  exact absurd rfl he
 ·rw[e]
  exact g1
 rw[e]at he
 exact absurd rfl he
theorem SimpR.er {nn kk:Int}{s:St}{kd dual idle rul sg:Int}{ids:List Int}{r:St × Int × Int}(h:SimpR nn kk s kd dual idle rul sg ids r)(hkd:kd=5∨kd=6)(ho: ∀x∈ids,okI s.L x)(he:r.2.2≠0):r.1.er≠0:=by
 rcases h with⟨⟨x,hx,hn⟩,_⟩|⟨_,⟨_,rfl⟩|⟨_,l,hl,rfl⟩⟩
 ·exact absurd (ho x hx) hn
 ·exact absurd rfl he
 rcases actJ_cases (nn:=nn) (kk:=kk) hkd (fun x hx=>((hl x).1 hx).1.1.2.1)with⟨_,e⟩|⟨x,_,e⟩|⟨_,e⟩
 ·rw[e]at he
  exact absurd rfl he
 ·rw[e]at he
  exact absurd rfl he
 rw[e]at he ⊢
 exact putE_er he
theorem TuR.er {T:Atm→Atm→Prop}{nn kk:Int}{s:St}{i:Int}{ks:List Int}{r:St × Int × Int}(h:TuR T nn kk s i ks r)(hg:Gv kk s.L)(hi:okI s.L i)(ho: ∀x∈ks,okI s.L x)(hl:ks.length=(ndI s.L i).kids.length)(he:r.2.2≠0):r.1.er≠0:=by
 rcases h with⟨_,h⟩|⟨_,h⟩|⟨hk,rfl⟩|⟨hk,a',ha,_,rfl⟩
 ·exact h.er (.inl rfl) ho he
 ·exact h.er (.inr rfl) ho he
 ·obtain⟨x,hx,h1,_⟩:=hg.quant hi hk
  rw[hx]at hl
  obtain⟨y,rfl⟩:=List.length_eq_one_iff.1 hl
  have hy:=ho y (by simp)
  unfold actB at he ⊢
  rw[if_neg (fun h=>h hk),if_neg (by unfold okI at hy;simp;omega)]at he ⊢
  exact putE_er he
 exact putE_er he
structure TuJ (T:Atm→Atm→Prop) (L:List Nd) (i j:Int):Prop where
 pl:Pln L i→Pln L j
 tv:Pln L i→∀f g,(∀y,Dn L i y→(ndI L y).kind<5→∀a',T (atmN (ndI L y)) a'→(Sat a' f↔Sat (atmN (ndI L y)) g))→(tv L f j↔tv L g i)
 fv: ∀u,Fv L u j→∃y,Dv L u i y∧(ndI L y).kind<5∧∃a',T (atmN (ndI L y)) a'∧∃c,(u,c)∈a'.ps
 co:co L j≤co L i
theorem tuj_le {T:Atm→Atm→Prop}{L L':List Nd}(hw:Wk L)(hw2:Wk L')(hl: ∃t,L'=L++t){i j:Int}(hi:okI L i)(hj:okI L j)(h:TuJ T L i j):TuJ T L' i j:=by
 have hn: ∀y,Dn L' i y→Dn L i y∧ndI L' y=ndI L y:=fun y hy=>by
  obtain⟨t,rfl⟩:=hl
  have h1:=(dn_app hw hi).1 hy
  exact⟨h1,ndI_app (dn_ok hw hi h1)⟩
 have hn2: ∀y,Dn L i y→Dn L' i y∧ndI L' y=ndI L y:=fun y hy=>by
  obtain⟨t,rfl⟩:=hl
  exact⟨(dn_app hw hi).2 hy,ndI_app (dn_ok hw hi hy)⟩
 refine⟨fun hp=>(pln_le hw hl hj).2 (h.pl ((pln_le hw hl hi).1 hp)),fun hp f g hf=> ?_,fun u hu=> ?_,?_⟩
 ·rw[tv_le hw hw2 hl hi,tv_le hw hw2 hl hj]
  refine h.tv ((pln_le hw hl hi).1 hp) f g fun y hy hk a' ha=> ?_
  have h1:=hn2 y hy
  rw[←h1.2]at ha hk ⊢
  exact hf y h1.1 hk a' ha
 ·obtain⟨y,hy,hk,a',ha,hc⟩:=h.fv u ((fv_le hw hl hj).1 hu)
  have h1:=hn2 y (dv_dn hy)
  rw[←h1.2]at ha hk
  refine⟨y,?_,hk,a',ha,hc⟩
  obtain⟨t,rfl⟩:=hl
  exact(dv_app hw hi).2 hy
 rw[co_le hw hw2 hl hi,co_le hw hw2 hl hj]
 exact h.co
theorem Gv.ps_atm {kk:Int}{L:List Nd}(h:Gv kk L){i:Int}(hi:okI L i){p:Int × Int}(hp:p∈(ndI L i).ps):(ndI L i).kind<5:=by
 rcases h.cases hi with⟨_,e⟩|⟨_,e⟩|⟨_,f,hf,_,_,e,_⟩|⟨_,kd,kids,_,e,_⟩|⟨_,kd,v,x,_,e,_⟩
 ·rw[e]at hp;simp[cst]at hp
 ·rw[e]at hp;simp[cst]at hp
 ·rw[e]
  have:=(fit_kind hf).2
  dsimp only
  omega
 ·rw[e]at hp;simp at hp
 rw[e]at hp;simp at hp
theorem tv_same {L:List Nd}(hw:Wk L)(f g:Int→Int): ∀(n:Nat) (i:Int),i<(n:Int)→okI L i→Pln L i→(∀y,Dn L i y→(ndI L y).kind≠5→(ndI L y).kind≠6→(Sat (atmN (ndI L y)) f↔Sat (atmN (ndI L y)) g))→(tv L f i↔tv L g i)
 |0,i,hn,ho,_,_=>by have:=ho.1;omega
 |n+1,i,hn,ho,hp,h=>by
  have ih: ∀z∈(ndI L i).kids,(tv L f z↔tv L g z):=fun z hz=>tv_same hw f g n z (by have:=hw i ho z hz;omega) (hw.ok ho hz) (((her_iff ho).1 hp).2 z hz) fun y hy=>h y (dn_up ho hz hy)
  by_cases h5:(ndI L i).kind=5
  ·rw[tv_and hw ho h5,tv_and hw ho h5]
   exact⟨fun h z hz=>(ih z hz).1 (h z hz),fun h z hz=>(ih z hz).2 (h z hz)⟩
  by_cases h6:(ndI L i).kind=6
  ·rw[tv_or hw ho h6,tv_or hw ho h6]
   exact⟨fun⟨z,hz,h⟩=>⟨z,hz,(ih z hz).1 h⟩,fun⟨z,hz,h⟩=>⟨z,hz,(ih z hz).2 h⟩⟩
  rw[tv_atm h5 h6,tv_atm h5 h6]
  exact h i (dn_self L i) h5 h6
theorem tuj_stay {T:Atm→Atm→Prop}{kk:Int}{L:List Nd}(hg:Gv kk L){i:Int}(hi:okI L i)(h: ∀y,Dn L i y→(ndI L y).kind<5→T (atmN (ndI L y)) (atmN (ndI L y))):TuJ T L i i:=by
 refine⟨fun hp=>hp,fun hp f g hf=> ?_,fun u hu=> ?_,Nat.le_refl _⟩
 ·refine tv_same hg.wk f g (i.toNat+1) i (by have:=hi.1;omega) hi hp fun y hy h5 h6=> ?_
  have hp1:=hp y hy
  have hk:=hg.kinds (dn_ok hg.wk hi hy)
  have hlt:(ndI L y).kind<5:=by unfold PlnP at hp1;omega
  exact hf y hy hlt _ (h y hy hlt)
 obtain⟨y,hy,c,hc⟩:=hu
 have hlt:=hg.ps_atm (dn_ok hg.wk hi (dv_dn hy)) hc
 exact⟨y,hy,hlt,_,h y (dv_dn hy) hlt,c,hc⟩
theorem prs_sum {J:Int→Int→Prop}{f g:Int→Nat}: ∀{la lb:List Int},(∀a b,J a b→g b≤f a)→Prs J la lb→(lb.map g).sum≤(la.map f).sum
 | [],[],_,_=>Nat.le_refl _
 |a::la,b::lb,hj,h=>by
  rw[List.map_cons,List.map_cons,List.sum_cons,List.sum_cons]
  exact Nat.add_le_add (hj a b h.1) (prs_sum hj h.2)
 | [],_::_,_,h=>False.elim h
 |_::_,[],_,h=>False.elim h
theorem simp_tuj {T:Atm→Atm→Prop}{nn kk:Int}{s:St}{i:Int}{ks:List Int}{r:St × Int × Int}{kd dual idle rul sg:Int}(h:SimpR nn kk s kd dual idle rul sg ks r)(hlw:Law5 kd dual idle rul sg)(hkd:(ndI s.L i).kind=kd)(hg:Gv kk s.L)(hi:okI s.L i)(hks:Prs (TuJ T s.L) (ndI s.L i).kids ks)(he:r.2.2=0)
  (hs: ∀f,tv r.1.L f r.2.1↔if kd=5 then ∀x∈ks,tv s.L f x else ∃x∈ks,tv s.L f x):TuJ T r.1.L i r.2.1:=by
 have hk5:kd=5∨kd=6:=hlw.imp (fun h=>h.1) fun h=>h.1
 have hr:rul=0∨rul=1:=hlw.elim (fun h=> .inl h.2.2.2.1) fun h=> .inr h.2.2.2.1
 have hk:=h.kp hk5 hr hg
 have hne:ks≠ []:=fun e=>by
  subst e
  have h1:=prs_len hks
  rcases hg.cases hi with⟨_,e⟩|⟨_,e⟩|⟨_,f,hf,_,_,e,_⟩|⟨_,kd',kids,_,e,h9,_⟩|⟨_,kd',v,x,_,e,_⟩
  ·rw[e]at hkd;simp[cst]at hkd;omega
  ·rw[e]at hkd;simp[cst]at hkd;omega
  ·rw[e]at hkd
   have:=(fit_kind hf).2
   dsimp only at hkd
   omega
  ·rw[e]at h1
   simp at h1
   subst h1
   simp at h9
  rw[e]at h1;simp at h1
 have hup: ∀k∈(ndI s.L i).kids,∀y,Dn s.L k y→Dn s.L i y:=fun k hk' y hy=>dn_up hi hk' hy
 have hnb: ∀u,¬Bds (ndI s.L i) u:=fun u hb=>by have:=hb.1;omega
 have hdn: ∀y,Dn s.L i y→Dn r.1.L i y∧ndI r.1.L y=ndI s.L y:=fun y hy=>by
  obtain⟨t,e⟩:=hk.le
  rw[e]
  exact⟨(dn_app hg.wk hi).2 hy,ndI_app (dn_ok hg.wk hi hy)⟩
 refine⟨fun hp=> ?_,fun hp f g hf=> ?_,fun u hu=> ?_,?_⟩
 ·have hp:=(pln_le hg.wk hk.le hi).1 hp
  have hpi:=(her_iff hi).1 hp
  refine h.her hk5 hr hg he (P:=PlnP s.L) (plnP_app hk.le) (by unfold PlnP;rw[hg.n0];simp[cst]) (by unfold PlnP;rw[hg.n1];simp[cst]) (fun _ h1 _=>by unfold PlnP;rw[h1];omega) fun x hx=> ?_
  obtain⟨a,ha,h3⟩:=prs_right hks x hx
  exact h3.pl (hpi.2 a ha)
 ·have hp:=(pln_le hg.wk hk.le hi).1 hp
  have hpi:=(her_iff hi).1 hp
  have hkid: ∀a∈(ndI s.L i).kids,∀b,TuJ T s.L a b→(tv s.L f b↔tv s.L g a):=fun a ha b hab=>hab.tv (hpi.2 a ha) f g fun y hy hlt a' hT=>by
   have h1:=hdn y (hup a ha y hy)
   rw[←h1.2]at hT hlt ⊢
   exact hf y h1.1 hlt a' hT
  rw[hs f,tv_le hg.wk hk.gv.wk hk.le hi]
  rcases hk5 with rfl|rfl
  ·rw[if_pos rfl,tv_and hg.wk hi hkd]
   constructor
   ·intro h1 a ha
    obtain⟨b,hb,h3⟩:=prs_left hks a ha
    exact(hkid a ha b h3).1 (h1 b hb)
   intro h1 x hx
   obtain⟨a,ha,h3⟩:=prs_right hks x hx
   exact(hkid a ha x h3).2 (h1 a ha)
  rw[if_neg (by decide),tv_or hg.wk hi hkd]
  constructor
  ·rintro⟨x,hx,h1⟩
   obtain⟨a,ha,h3⟩:=prs_right hks x hx
   exact⟨a,ha,(hkid a ha x h3).1 h1⟩
  rintro⟨a,ha,h1⟩
  obtain⟨b,hb,h3⟩:=prs_left hks a ha
  exact⟨b,hb,(hkid a ha b h3).2 h1⟩
 ·obtain⟨x,hx,hf⟩:=h.fv hlw hg he hu
  obtain⟨a,ha,h3⟩:=prs_right hks x hx
  obtain⟨y,hy,hlt,a',hT,hc⟩:=h3.fv u hf
  have hy2:=dv_up hi (hnb u) ha hy
  have h1:=hdn y (dv_dn hy2)
  rw[←h1.2]at hlt hT
  refine⟨y,?_,hlt,a',hT,hc⟩
  obtain⟨t,e⟩:=hk.le
  rw[e]
  exact(dv_app hg.wk hi).2 hy2
 refine Nat.le_trans (h.co hlw hg he hne) ?_
 rw[co_le hg.wk hk.gv.wk hk.le hi,co_join hg.wk hi (by rw[hkd];exact hk5)]
 exact prs_sum (fun a b hab=>Nat.add_le_add_left hab.co 1) hks
theorem TuR.tuj {T:Atm→Atm→Prop}(hT:TFit T){nn kk:Int}{s:St}{i:Int}{ks:List Int}{r:St × Int × Int}(h:TuR T nn kk s i ks r)(hg:Gv kk s.L)(hi:okI s.L i)(hks:Prs (TuJ T s.L) (ndI s.L i).kids ks)(hyk: ∀k∈ks,okI s.L k)(he:r.2.2=0):TuJ T r.1.L i r.2.1:=by
 have hk:=h.kp hT hg hi
 have hdn: ∀y,Dn s.L i y→Dn r.1.L i y∧ndI r.1.L y=ndI s.L y:=fun y hy=>by
  obtain⟨t,e⟩:=hk.le
  rw[e]
  exact⟨(dn_app hg.wk hi).2 hy,ndI_app (dn_ok hg.wk hi hy)⟩
 rcases h with⟨hkd,h⟩|⟨hkd,h⟩|⟨hkd,rfl⟩|⟨hkd,a',ha,_,rfl⟩
 ·exact simp_tuj h (.inl ⟨rfl,rfl,rfl,rfl,rfl⟩) hkd hg hi hks he fun f=>by rw[if_pos rfl];exact and_tv h hg he f
 ·exact simp_tuj h (.inr ⟨rfl,rfl,rfl,rfl,rfl⟩) hkd hg hi hks he fun f=>by rw[if_neg (by decide)];exact or_tv h hg he f
 ·obtain⟨x,hx,_,hx3,hx4⟩:=hg.quant hi hkd
  rw[hx]at hks
  match ks,hks with
  | [y],⟨hxy,_⟩=>
   have hpe:actB nn kk s (ndI s.L i).kind (ndI s.L i).var ([y].headD 0)=putE nn kk s ⟨(ndI s.L i).kind,0,[],0,(ndI s.L i).var,[y]⟩:=by
    have hy:okI s.L y:=hyk y (by simp)
    unfold actB
    rw[if_neg (fun h=>h hkd),List.headD_cons,if_neg (by unfold okI at hy;omega)]
   rw[hpe]at he hk hdn ⊢
   have hn:=putE_node he
   have hok:=hk.ok he
   have h1:=hdn i (dn_self s.L i)
   have hy:okI s.L y:=hyk y (by simp)
   have hxm:x∈(ndI s.L i).kids:=by rw[hx];simp
   refine⟨fun hp=> ?_,fun hp=> ?_,fun u hu=> ?_,?_⟩
   ·exact absurd hkd fun h=>by
     have:=(hp i (dn_self _ i))
     unfold PlnP at this
     rw[h1.2]at this
     omega
   ·exact absurd hkd fun h=>by
     have:=(hp i (dn_self _ i))
     unfold PlnP at this
     rw[h1.2]at this
     omega
   ·rw[fv_iff hok,hn]at hu
    rcases hu with⟨c,hc⟩|⟨hnb,k,hk',hf⟩
    ·cases hc
    obtain rfl:k=y:=by simpa using hk'
    have hf2:=(fv_le hg.wk hk.le hy).1 hf
    obtain⟨z,hz,hlt,a',hT',hc⟩:=hxy.fv u hf2
    have hz2:=dv_up hi (fun hb=>hnb hb) hxm hz
    have h2:=hdn z (dv_dn hz2)
    rw[←h2.2]at hlt hT'
    refine⟨z,?_,hlt,a',hT',hc⟩
    obtain⟨t,e⟩:=hk.le
    rw[e]
    exact(dv_app hg.wk hi).2 hz2
   rw[co_atm (by rw[hn];dsimp only;omega),co_atm (by rw[h1.2];omega)]
   exact Nat.le_refl _
 have hn:=putE_node he
 have hok:=hk.ok he
 have hfit:=hT _ _ ha
 have hk4:=fit_kind hfit
 have hkr:(ndI (putE nn kk s (ndA a')).1.L (putE nn kk s (ndA a')).2.1).kind<5:=by rw[hn];unfold ndA;dsimp only;omega
 have hatm:atmN (ndI (putE nn kk s (ndA a')).1.L (putE nn kk s (ndA a')).2.1)=a':=by rw[hn];rfl
 have h1:=hdn i (dn_self s.L i)
 refine⟨fun _=> ?_,fun hp f g hf=> ?_,fun u hu=> ?_,?_⟩
 ·unfold Pln
  rw[her_iff hok]
  refine⟨by unfold PlnP;omega,fun z hz=> ?_⟩
  rw[hn]at hz
  cases hz
 ·rw[tv_atm o_m o_m,hatm,tv_atm (by rw[h1.2];omega) (by rw[h1.2];omega)]
  exact hf i (dn_self _ i) (by rw[h1.2];exact hkd) a' (by rw[h1.2];exact ha)
 ·rw[fv_iff hok]at hu
  rcases hu with⟨c,hc⟩|⟨_,k,hk',_⟩
  ·rw[hn]at hc
   exact⟨i,dv_self _ u i,by rw[h1.2];exact hkd,a',by rw[h1.2];exact ha,c,hc⟩
  rw[hn]at hk'
  cases hk'
 rw[co_atm o_m,co_atm (by rw[h1.2];omega)]
 exact Nat.le_refl _
end Nt
end Go.Proofs.YtllfelooahplhaaGreatDoor

namespace Go.Proofs.YtllfelooahplhaaGreatDoor
open Go.RowKit Go.Sort Go.Shelf
open Tm At
namespace Nt

def SlB (w:World)(b:Nat)(v:Value):Prop:=w.heap[b]? =some (.cells #[v] 23 (0,0))
theorem SlB.lt {w:World}{b:Nat}{v:Value}(h:SlB w b v):b<w.heap.size:=lt_of_block h
theorem SlB.c0 {w:World}{b:Nat}{v:Value}(h:SlB w b v):w.cell? ⟨b,0,none⟩=some v:=cell_of_row w b 0 _ _ (0,0) h
theorem SlB.below {w w':World}{b:Nat}{v:Value}(h:SlB w b v)(k:Below w.heap.size w w'):SlB w' b v:=(k.block b h.lt).trans h

theorem isThere_n {w:World}{ba:Nat}{a:Option Addr}{c:Nat}{l:List Int}{id:Int}(hb:SlB w ba (.slice a l.length c))(hI:IL w a l.length l)(hs:l.Pairwise (·≤·))(hm:l.length≤4194304):
  Calls Tryz.prog 161 #[.int .i64 id,.pointer (some ⟨ba,0,none⟩)] w fun e w'=>e= .returned (.bool (decide (id∈l)))∧Below w.heap.size w w':=by
 have u0:=hb.c0
 have hbs:Hid (∃ix:Int,Calls Tryz.prog 73 #[.slice a l.length c,.int .i64 id] w fun e w'=>e= .returned (.tuple #[.int .i64 ix,.bool (decide (id∈l))])∧Below w.heap.size w w'):=hide (by
  rcases hI.2 with h0|⟨b,off,rfl,hbl,hc⟩
  ·have hl:l= []:=List.eq_nil_of_length_eq_zero h0
   subst hl
   refine⟨0,(Tryz.slices_BinarySearch_int_empty a c id w).mono ?_⟩
   rintro e w' ⟨rfl,rfl⟩
   exact⟨rfl,Below.refl _ _⟩
  refine⟨((l.countP (· <id):Nat):Int),(Tryz.slices_BinarySearch_int b off l.length c l id w (Nat.le_refl _) o_m (fun j hj=> ?_) (by rw[List.take_length];exact hs)).mono ?_⟩
  ·rw[(hc j hj).1,List.getD_eq_getElem?_getD,List.getElem?_eq_getElem hj]
   rfl
  rintro e w' ⟨rfl,q,rfl⟩
  rw[List.take_length,show l.contains id=decide (id∈l)by simp]
  exact⟨rfl,below_drewN _ _ _⟩)
 obtain⟨ix,hcl⟩:=hbs.out
 replace hcl:=hide hcl
 clear hbs hI hb hs
 go_enter Tryz.func161,Tryz.ntmps161
 go_wp2_with fail
 refine hcl.out.mono ?_
 rintro e w1 ⟨rfl,k1⟩
 replace k1:=hide k1
 clear hcl u0
 go_wp2
 go_ret
 exact⟨rfl,k1.out⟩

theorem indexF_n {w:World}{ka:Option Addr}{kc K:Nat}{cb:Array Value}{l:List Int}{q:Int→Bool}(hI:IL w ka l.length l)(hm:l.length≤4194304)(eg: ∀args w,(callFunc K args).run Tryz.prog w= .ok (.enter K args) w)
  (hq: ∀w' z,z∈l→Below w.heap.size w w'→Calls Tryz.prog K (#[.int .i64 z]++cb) w' fun e w''=>e= .returned (.bool (q z))∧Below w'.heap.size w' w''):
  Calls Tryz.prog 103 #[.slice ka l.length kc,.func (.func K) #[] cb] w fun x w'=> ∃i:Int,x= .returned (.int .i64 i)∧(decide (0≤i)=l.any q)∧-1≤i∧i<l.length∧Below w.heap.size w w':=by
 go_enter Tryz.func103,Tryz.ntmps103
 go_wp2_with fail
 go_loopw [8] (fun i wr=> ∃t:Nat,t≤l.length∧i= .int .i64 t∧Hid ((l.take t).any q=false)∧Hid (Below w.heap.size w wr)) (fun i _=>l.length-(intOf i).toNat)
 case atStart=>exact⟨0,Nat.zero_le _,rfl,(show _=_ by simp),hide (Below.refl _ _)⟩
 case round=>
  obtain⟨t,ht,rfl,hno,kr⟩:=hrel
  by_cases htm:t<l.length
  ·rcases(hI.below kr.out).2 with h0|⟨bp,op,rfl,hbp,hLL⟩
   ·omega
   obtain⟨e0,hx⟩:=hLL t htm
   have hstep:Hid ((l.take (t+1)).any q=q l[t]):=(show _=_ by rw[List.take_succ_eq_append_getElem (l:=l) (i:=t) o_m,List.any_append,hno.out];simp)
   have hex:Hid (q l[t]=true→l.any q=true):=(fun hh=>List.any_eq_true.2 ⟨l[t],List.getElem_mem _,hh⟩)
   have hcl:=hide (hq wr l[t] (List.getElem_mem _) kr.out)
   generalize l[t]=lt at*
   clear hI hLL hq
   go_wp2_with fail
   refine hcl.out.mono ?_
   rintro x w2 ⟨rfl,k2⟩
   replace k2:=hide (grow_step k2 kr.out)
   clear hcl
   cases hil:q lt with
   |true=>
    have hany:=hide (hex.out hil)
    clear hil
    go_wp2
    go_ret
    exact⟨t,rfl,by rw[hany.out];simp,by omega,by omega,k2.out⟩
   |false=>
    have hst:=hide (hstep.out.trans hil)
    clear hil
    go_wp2
    go_round
    case rel=>exact⟨t+1,by omega,by go_num,hst,k2⟩
    case measure=>simp[intOf];omega
  obtain rfl:t=l.length:=by omega
  have hall:Hid (l.any q=false):=by
   have h1:=hno.out
   rw[List.take_of_length_le (Nat.le_refl _)]at h1
   exact h1
  clear hno
  go_wp2
  go_ret
  exact⟨-1,rfl,by rw[hall.out];rfl,by omega,by omega,kr.out⟩
theorem containsF_n {w:World}{ka:Option Addr}{kc K:Nat}{cb:Array Value}{l:List Int}{q:Int→Bool}(hI:IL w ka l.length l)(hm:l.length≤4194304)(eg: ∀args w,(callFunc K args).run Tryz.prog w= .ok (.enter K args) w)
  (hq: ∀w' z,z∈l→Below w.heap.size w w'→Calls Tryz.prog K (#[.int .i64 z]++cb) w' fun e w''=>e= .returned (.bool (q z))∧Below w'.heap.size w' w''):
  Calls Tryz.prog 53 #[.slice ka l.length kc,.func (.func K) #[] cb] w fun x w'=>x= .returned (.bool (l.any q))∧Below w.heap.size w w':=by
 have hix:=hide (indexF_n (kc:=kc) hI hm eg hq)
 clear hI hq
 go_enter Tryz.func53,Tryz.ntmps53
 go_wp2_with fail
 refine hix.out.mono ?_
 rintro x w1 ⟨i,rfl,h1,h2,h3,k1⟩
 replace k1:=hide k1
 replace h1:=hide h1
 clear hix
 go_wp2
 go_ret
 exact⟨by rw[←h1.out];rfl,k1.out⟩
end Nt
end Go.Proofs.YtllfelooahplhaaGreatDoor
