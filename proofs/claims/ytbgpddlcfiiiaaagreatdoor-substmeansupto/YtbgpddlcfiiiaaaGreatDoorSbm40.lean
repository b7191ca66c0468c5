/-
 Several texts in one: VU,VW,UF.
-/
import Derived.Test.YtbgpddlcfiiiaaaGreatDoorSbm35
import Derived.Test.YtbgpddlcfiiiaaaGreatDoorSbm36
import Derived.Test.YtbgpddlcfiiiaaaGreatDoorSbm39
set_option maxRecDepth 100000
set_option maxHeartbeats 3200000
namespace Go.Proofs.YtbgpddlcfiiiaaaGreatDoor
open Go.RowKit Go.Sort Go.Shelf
open Tm At
namespace Nt

variable {w:World}{g n:Nat}{r:Int→Bool}
def rowB (n:Nat)(r:Int→Bool):Array Value:=((List.range n).map fun i:Nat=>Value.bool (r (i:Int))).toArray
def BoB (w:World)(g n:Nat)(r:Int→Bool):Prop:=w.heap[g]? =some (.cells (rowB n r) 4 (0,0))
theorem BoB.lt (h:BoB w g n r):g<w.heap.size:=lt_of_block h
theorem BoB.cell (h:BoB w g n r){i:Nat}(hi:i<n):w.cell? ⟨g,i,none⟩=some (.bool (r (i:Int))):=by
  rw[cell_of_row w g i _ _ (0,0) h]
  simp[rowB,hi]
theorem BoB.f (h:BoB w g n r)(i:Nat):w.frozen? ⟨g,i,none⟩=false:=frozen_of_row w g i _ _ h
theorem BoB.below {w':World}(h:BoB w g n r)(k:Below w.heap.size w w'):BoB w' g n r:=(k.block g h.lt).trans h
theorem rowB_set (n:Nat)(r:Int→Bool)(i:Nat):(rowB n r).setIfInBounds i (.bool true)=rowB n fun m=>r m||decide (m=(i:Int)):=by
  unfold rowB
  apply Array.ext_getElem?
  intro j
  rw[Array.getElem?_setIfInBounds]
  by_cases hj:j<n
  · by_cases e:i=j
    · subst e
      simp[hj]
    rw[if_neg e]
    have e2: ¬(j:Int)=(i:Int):=by omega
    simp[hj,e2]
  have e3: ¬j<n:=hj
  simp[e3]
  omega
theorem BoB.set (h:BoB w g n r)(i:Nat):BoB (w.setCell ⟨g,i,none⟩ (.bool true)) g n fun m=>r m||decide (m=(i:Int)):=by
  have h1:=heap_setCell_same w g i _ _ (.bool true) h
  rw[rowB_set]at h1
  exact h1
theorem BoB.congr {q:Int→Bool}(h:BoB w g n r)(e: ∀i:Nat,i<n→r (i:Int)=q (i:Int)):BoB w g n q:=by
  unfold BoB at h ⊢
  rw[h]
  congr 2
  unfold rowB
  congr 1
  apply List.map_congr_left
  intro i hi
  rw[e i (List.mem_range.1 hi)]
theorem infoBo :(Tryz.prog.info? 4).map (fun i=>(i.zero,i.size,i.bytes))=some (some (.bool false),1,1):=by kernel_rfl
theorem made_b (n:Nat):madeCells #[.bool false] n=rowB n fun _=>false:=by
  apply Array.ext'
  rw[toList_madeCells_one]
  simp only[rowB,List.toList_toArray]
  rw[List.map_const',List.length_range]
theorem run_mkB (n:Nat)(hn:n+1≤70368744177664)(u:World):(Instr.makeSlice 156 (.int .i64 ((n:Int)+1)) (.int .i64 ((n:Int)+1))).run Tryz.prog u=
      .ok (.slice (some ⟨u.heap.size,0,none⟩) (n+1) (n+1)) (u.alloc (.cells (rowB (n+1) fun _=>false) 4)):=by
  obtain⟨i0,hi,hz0,hz1,hz2⟩:=info_parts infoBo
  have h:=run_make (P:=Tryz.prog) u 156 4 i0 (.bool false) Tryz.underlying156 hi hz0 .i64 .i64 ((n:Int)+1) ((n:Int)+1) o_m (Int.le_refl _) (by rw[hz2];omega) o_m
  rw[show((n:Int)+1).toNat=n+1 by omega]at h
  rw[←made_b]
  simpa [hz1,Value.cells] using h
def ReP (w w':World)(e:Ending)(L:List Nd)(id:Int):Prop:=
  ∃a c l,e= .returned (.slice a l.length c)∧IL w' a l.length l∧New w.heap.size a l.length∧DnL L id l∧Below w.heap.size w w'
theorem reach_n {pa pm:Nat}{L:List Nd}{F:Nat→Prop}(h:AX w pa pm L F)(hw:Wk L)(hL:L.length≤1048576){i:Nat}(hi:i<L.length):
    Calls Tryz.prog 51 #[.pointer (some ⟨pa,0,none⟩),.int .i64 (i:Int)] w fun e w'=>ReP w w' e L (i:Int):=by
  obtain⟨C,nv,bm,X,D,hA,-,-⟩:=h.ar
  have hlk:=hide (lacks_n hA (i:Int))
  rw[decide_eq_false o_m]at hlk
  have hok:okI L (i:Int):=⟨by omega,by omega⟩
  have hmk:=run_mkB i o_m
  have hB0:BoB (w.alloc (.cells (rowB (i+1) fun _=>false) 4)) w.heap.size (i+1) fun _=>false:=heap_alloc_new w _
  have u0:=hB0.cell (Nat.lt_succ_self i)
  have f0:=hB0.f i
  have hB1:Hid (BoB (w.alloc (.cells ((rowB (i+1) fun _=>false).setIfInBounds i (.bool true)) 4)) w.heap.size (i+1) fun m=>decide (m=(i:Int))):=hide (by
    have h1:BoB (w.alloc (.cells ((rowB (i+1) fun _=>false).setIfInBounds i (.bool true)) 4)) w.heap.size (i+1) fun m=>false||decide (m=(i:Int)):=by
      have h2:=heap_alloc_new w (.cells ((rowB (i+1) fun _=>false).setIfInBounds i (.bool true)) 4)
      rw[rowB_set]at h2 ⊢
      exact h2
    exact h1.congr fun j _=>by simp)
  have k1:Hid (Below w.heap.size w (w.alloc (.cells ((rowB (i+1) fun _=>false).setIfInBounds i (.bool true)) 4))):=hide (below_alloc w _)
  have z1:Hid ((w.alloc (.cells ((rowB (i+1) fun _=>false).setIfInBounds i (.bool true)) 4)).heap.size=w.heap.size+1):=hide (by simp)
  clear hB0 hA
  go_enter Tryz.func51,Tryz.ntmps51
  go_wp2_with(go_at_call 69;refine hlk.out.mono ?_;rintro e w1 ⟨rfl,rfl⟩)
  clear u0 f0 hmk hlk
  generalize w1.alloc (.cells ((rowB (i+1) fun _=>false).setIfInBounds i (.bool true)) 4)=wB at*
  go_loopw [6,7] (fun rv q wr=> ∃(m:Nat) (r:Int→Bool) (acc:List Int),m≤i+1∧q= .int .i64 ((m:Int)-1)∧Hid (Rch L i ((m:Int)-1) r acc)∧Hid (BoB wr w1.heap.size (i+1) r)∧Hid (wr.ownsRow (w1.heap.size+1) 3 1 rv acc.length (acc.map (Value.int .i64)))∧Hid (Below w1.heap.size w1 wr)∧w1.heap.size+1≤wr.heap.size) (fun _ q _=>(intOf q+1).toNat)
  case atStart=>exact⟨i+1,_,[],Nat.le_refl _,by go_num,hide (by have:=rch_0 L i;rwa [show((i+1:Nat):Int)-1=(i:Int)by omega]),hB1,hide (World.ownsRow_nil _ _ _ _),k1,by have:=z1.out;omega⟩
  case round=>
    obtain⟨m,r,acc,hm,rfl,hR,hB,hO,kr,hsz⟩:=hrel
    rcases m with _|k
    · have hD:=hide (Rch.done hw hok hR.out)
      have hac: ∀x∈acc,I64 x:=fun x hx=>by
        have h1:=(dn_le hw hok ((hD.out.2 x).1 (List.mem_reverse.2 hx))).1
        unfold okI at h1
        unfold I64
        omega
      have hlen:=hR.out.len
      obtain⟨a6,c6,rfl⟩:=own_form hO.out
      by_cases h0:acc= []
      · subst h0
        have hcall:=hide (Tryz.slices_Reverse_int_empty a6 c6 wr)
        clear hR hB hO
        go_wp2_with fail
        refine hcall.out.mono ?_
        rintro e w7 ⟨rfl,rfl⟩
        clear hcall
        go_wp2_with fail
        go_ret
        exact⟨a6,c6,[],rfl,⟨rfl,.inl rfl⟩,(fun _ _ _ h=>absurd h (by decide)),hD.out,kr.out⟩
      have hl0:=List.length_pos_iff.2 h0
      obtain⟨g,cap,e6,hg1,hg2,hcap,hmax,-,hH⟩:=Lib.holds_of_ownsRow hO.out (by intro e;injection e;omega)
      cases e6
      have hcall:=hide (Tryz.slices_Reverse_int g 0 c6 acc wr hH o_m)
      have hfin:Hid (∀q,ReP w1 (putRow (Value.int .i64) (Sort.ahead wr q) g 0 acc.reverse.toArray) (.returned (.slice (some ⟨g,0,none⟩) acc.length c6)) L i):=hide fun q=>by
        have r2:=Lib.ownsRow_putRow (q:=q) (ys:=acc.reverse) hO.out (by simp) (Nat.le_refl _)
        rw[List.take_of_length_le (by simp)]at r2
        obtain⟨a5,c5,e5,hI5,hn5⟩:=row_il r2 (fun x hx=>hac x (List.mem_reverse.1 hx))
        cases e5
        exact⟨some ⟨g,0,none⟩,c6,acc.reverse,by rw[List.length_reverse],by rw[List.length_reverse];exact hI5,(fun b off e h=>by have:=hn5 b off e (by simpa using h);omega),hD.out,Lib.below_putRow kr.out o_m⟩
      clear hR hB hO hH hD hac
      go_wp2_with fail
      refine hcall.out.mono ?_
      rintro e w7 ⟨rfl,q,rfl⟩
      have hfin2:=hide (hfin.out q)
      clear hcall hfin
      go_wp2_with fail
      go_ret
      exact hfin2.out
    rw[show((k+1:Nat):Int)-1=(k:Int)by omega]at*
    have u0:=hB.out.cell (show k<i+1 by omega)
    cases hrk:r (k:Int)with
    |false=>
      rw[hrk]at u0
      have hR2:=hide (hR.out.skip hrk)
      clear hR
      go_wp2_with fail
      exact⟨⟨k,r,acc,by omega,rfl,hR2,hB,hO,kr,hsz⟩,by simp[intOf]⟩
    |true=>
      rw[hrk]at u0
      have hki:okI L (k:Int):=⟨by omega,by omega⟩
      have hR2:=hide (hR.out.take hw hrk hki)
      have hlen:=hR.out.len
      have b8:=below_alloc wr (.cells #[.int .i64 (k:Int)] 3)
      have hI8:Hid (IL (wr.alloc (.cells #[.int .i64 (k:Int)] 3)) (some ⟨wr.heap.size,0,none⟩) 1 [(k:Int)]):=hide (il_one (heap_alloc_new wr _) (by unfold I64;omega))
      have hr8:=hide (own_below hO.out b8)
      have hz8:w1.heap.size+1≤(wr.alloc (.cells #[.int .i64 (k:Int)] 3)).heap.size:=Nat.le_trans hsz b8.size
      have hmore:Hid (∀v' w9,World.ownsRow w9 (w1.heap.size+1) 3 1 v' (acc.length+1) ((acc++ [(k:Int)]).map (Value.int .i64))→World.grownBy (wr.alloc (.cells #[.int .i64 (k:Int)] 3)) w9 u6.ownBlock→∃(g cap:Nat) (kka:Option Addr) (kkc:Nat),w9.cell? ⟨pa,1,none⟩=some (.slice (some ⟨g,0,none⟩) L.length cap)∧w9.cell? ⟨g,k*8+7,none⟩=some (.slice kka (ndI L k).kids.length kkc)∧Hid (IL w9 kka (ndI L k).kids.length (ndI L k).kids)∧Hid (InF (fun b=>b<w1.heap.size) kka (ndI L k).kids.length)∧Hid (BoB w9 w1.heap.size (i+1) r)∧Hid (w9.ownsRow (w1.heap.size+1) 3 1 v' (acc++ [(k:Int)]).length ((acc++ [(k:Int)]).map (Value.int .i64)))∧Hid (Below w1.heap.size w1 w9)∧w1.heap.size+1≤w9.heap.size∧(ndI L k).kids.length≤1048576):=hide fun v' w9 ho hg=>by
        have hob: ∀b,u6.ownBlock=some b→w1.heap.size+1≤b:=fun b hb=>(hO.out.lt b hb).1
        have hkb:Below w1.heap.size w1 w9:=(grow_step b8 kr.out).grown hg (grow_step b8 kr.out).size fun b hb=>by have:=hob b hb;omega
        obtain⟨C,nv,bm,X,D,hA,-,hF9⟩:=(h.below hkb).ar
        have hXk:k<X.length:=by have:=hA.len;omega
        obtain⟨g,cap,rfl,hcell⟩:=hA.cell (show k<L.length by omega)
        have hN:=hA.nodes k o_m
        obtain⟨hk2,hnd⟩:=ndI_at hki
        simp only[Int.toNat_natCast]at hnd
        rw[←hnd]at hN
        have e7:=hcell 7 (by decide) hXk
        simp only[NR.enc,List.getElem?_cons_zero,List.getElem?_cons_succ]at e7
        rw[←hN.kids.1]at e7
        have hfc:=hN.fc
        rw[←hN.kids.1]at hfc
        have hIk:=hN.kids
        rw[←hN.kids.1]at hIk
        refine⟨g,cap,_,_,cell_of_row _ pa 1 _ _ (0,0) hA.blk,e7,hide hIk,hide fun b off e h0=>h.fl b (hF9 b (.inr (.inr (.inr (hfc b off e h0))))),hide ?_,hide (by rw[List.length_append];exact ho),hide hkb,Nat.le_trans hz8 hg.size,by have:=hN.kids.1;have:=hN.hkn;omega⟩
        refine(hg.block _ (Nat.lt_of_lt_of_le hB.out.lt b8.size) fun e=> ?_).trans (hB.out.below b8)
        have:=hob _ e.symm
        omega
      clear hR hO b8 kr
      go_wp2_with(at_builtin;refine app_ii rfl _ _ rfl (w1.heap.size+1) _ _ _ rfl hr8.out (some ⟨wr.heap.size,0,none⟩) 1 1 [(k:Int)] rfl (by decide) hI8.out o_m hz8 ?_;intro v' w9 ho hg ha;obtain⟨g9,cap9,kka,kkc,u1,e7,hIk,hfk,hB9,hO9,k9,hz9,hk20⟩:=hmore.out v' w9 ho hg;clear ho hg ha hmore hr8 hI8)
      clear u1 e7 u0
      have hmv: ∀wr2,ButF (fun b=>b=w1.heap.size) w9 wr2→Below w1.heap.size w1 wr2∧wr2.ownsRow (w1.heap.size+1) 3 1 v' (acc++ [(k:Int)]).length ((acc++ [(k:Int)]).map (Value.int .i64))∧IL wr2 kka (ndI L k).kids.length (ndI L k).kids∧w1.heap.size+1≤wr2.heap.size:=fun wr2 hb=>
        ⟨k9.out.trans (hb.below (fun b e=>Nat.le_of_eq e.symm) o_m),own_move hO9.out fun b hb'=>hb.block b (hO9.out.lt b hb').2 fun e=>by have:=(hO9.out.lt b hb').1;omega,il_move hIk.out hb.size fun b off e h0=>hb.block b (il_lt hIk.out e h0) fun e2=>by have:=hfk.out b off e h0;omega,Nat.le_trans hz9 hb.size⟩
      replace hmv:=hide hmv
      clear hIk hfk hO9 k9
      go_loopw [42] (fun q wr2=> ∃(t:Nat),t≤(ndI L k).kids.length∧q= .int .i64 t∧Hid (BoB wr2 w1.heap.size (i+1) fun m=>r m||decide (m∈(ndI L k).kids.take t))∧Hid (ButF (fun b=>b=w1.heap.size) w9 wr2)) (fun q _=>(ndI L k).kids.length-(intOf q).toNat)
      case atStart=>exact⟨0,Nat.zero_le _,rfl,hide (hB9.out.congr fun j _=>by simp),hide ⟨rfl,rfl,rfl,Nat.le_refl _,fun _ _ _=>rfl⟩⟩
      case round=>
        obtain⟨t,ht,rfl,hBt,hbt⟩:=hrel
        obtain⟨h1,h2,h3,h4⟩:=hmv.out _ hbt.out
        by_cases htn:t<(ndI L k).kids.length
        · rcases h3.2 with h0|⟨kb,ko,rfl,hkb,hkc⟩
          · omega
          obtain⟨hcz,hIz⟩:=hkc t htn
          have hzk:(ndI L k).kids[t]∈(ndI L k).kids:=List.getElem_mem _
          have hzw:=hw k hki _ hzk
          have htk:Hid ((ndI L k).kids.take (t+1)=(ndI L k).kids.take t++ [(ndI L k).kids[t]]):=hide (List.take_succ_eq_append_getElem htn)
          generalize (ndI L k).kids[t]=z at*
          obtain⟨q,rfl⟩: ∃q:Nat,z=(q:Int):=⟨z.toNat,by omega⟩
          have u0:=hBt.out.cell (show q<i+1 by omega)
          have f0:=hBt.out.f q
          have hB2:Hid (BoB (wr.setCell ⟨w1.heap.size,q,none⟩ (.bool true)) w1.heap.size (i+1) fun m=>r m||decide (m∈(ndI L k).kids.take (t+1))):=hide ((hBt.out.set q).congr fun j _=>by
            rw[htk.out]
            simp[List.mem_append,Bool.or_assoc])
          have hb2:Hid (ButF (fun b=>b=w1.heap.size) w9 (wr.setCell ⟨w1.heap.size,q,none⟩ (.bool true))):=hide (ButF.trans hbt.out (⟨rfl,rfl,rfl,by simp,fun b _ hn=>heap_setCell_other _ _ _ _ (fun e=>hn e)⟩:ButF (fun b=>b=w1.heap.size) wr (wr.setCell ⟨w1.heap.size,q,none⟩ (.bool true))) fun _ _ h=>h)
          clear h1 h2 h3 h4 hkc hBt hbt hmv htk
          go_wp2_with fail
          exact⟨⟨t+1,by omega,by go_num,hB2,hb2⟩,by simp[intOf];omega⟩
        obtain rfl:t=(ndI L k).kids.length:=by omega
        have hBf:=hBt.out
        rw[List.take_length]at hBf
        replace hBf:=hide hBf
        replace h1:=hide h1
        replace h2:=hide h2
        clear hBt h3 hmv hbt
        go_wp2_with fail
        exact⟨⟨k,_,acc++ [(k:Int)],by omega,rfl,hR2,hBf,h2,h1,h4⟩,by simp[intOf]⟩
end Nt
namespace Nt

variable {w:World}{l:List Int}{L:List Nd}
theorem indexR_n {ka:Option Addr}{kc K:Nat}{rv:Value}{q:Int→Bool}(hI:IL w ka l.length l)(hm:l.length≤4194304)(eg: ∀args w,(callFunc K args).run Tryz.prog w= .ok (.enter K args) w)
  (hq: ∀w' z,z∈l→Below w.heap.size w w'→Calls Tryz.prog K #[rv,.int .i64 z] w' fun e w''=>e= .returned (.bool (q z))∧Below w'.heap.size w' w''):
  Calls Tryz.prog 111 #[.slice ka l.length kc,.func (.func K) #[rv] #[]] w fun x w'=> ∃i:Int,x= .returned (.int .i64 i)∧(decide (0≤i)=l.any q)∧-1≤i∧i<l.length∧Below w.heap.size w w':=by
 go_enter Tryz.func111,Tryz.ntmps111
 go_wp2_with fail
 go_loopw [8] (fun i wr=> ∃t:Nat,t≤l.length∧i= .int .i64 t∧Hid ((l.take t).any q=false)∧Hid (Below w.heap.size w wr)) (fun i _=>l.length-(intOf i).toNat)
 case atStart=>exact⟨0,Nat.zero_le _,rfl,(show _=_ by simp),hide (Below.refl _ _)⟩
 case round=>
  obtain⟨t,ht,rfl,hno,kr⟩:=hrel
  by_cases htm:t<l.length
  ·rcases(hI.below kr.out).2 with h0|⟨bp,op,rfl,hbp,hLL⟩
   ·omega
   obtain⟨e0,hx⟩:=hLL t htm
   have hstep:Hid ((l.take (t+1)).any q=q l[t]):=(show _=_ by rw[List.take_succ_eq_append_getElem (l:=l) (i:=t) o_m,List.any_append,hno.out];simp)
   have hex:Hid (q l[t]=true→l.any q=true):=(fun hh=>List.any_eq_true.2 ⟨l[t],List.getElem_mem _,hh⟩)
   have hcl:=hide (hq wr l[t] (List.getElem_mem _) kr.out)
   generalize l[t]=lt at*
   clear hI hLL hq
   go_wp2_with fail
   refine hcl.out.mono ?_
   rintro x w2 ⟨rfl,k2⟩
   replace k2:=hide (grow_step k2 kr.out)
   clear hcl
   cases hil:q lt with
   |true=>
    have hany:=hide (hex.out hil)
    clear hil
    go_wp2
    go_ret
    exact⟨t,rfl,by rw[hany.out];simp,by omega,by omega,k2.out⟩
   |false=>
    have hst:=hide (hstep.out.trans hil)
    clear hil
    go_wp2
    go_round
    case rel=>exact⟨t+1,by omega,by go_num,hst,k2⟩
    case measure=>simp[intOf];omega
  obtain rfl:t=l.length:=by omega
  have hall:Hid (l.any q=false):=by
   have h1:=hno.out
   rw[List.take_of_length_le (Nat.le_refl _)]at h1
   exact h1
  clear hno
  go_wp2
  go_ret
  exact⟨-1,rfl,by rw[hall.out];rfl,by omega,by omega,kr.out⟩
theorem containsR_n {ka:Option Addr}{kc K:Nat}{rv:Value}{q:Int→Bool}(hI:IL w ka l.length l)(hm:l.length≤4194304)(eg: ∀args w,(callFunc K args).run Tryz.prog w= .ok (.enter K args) w)
  (hq: ∀w' z,z∈l→Below w.heap.size w w'→Calls Tryz.prog K #[rv,.int .i64 z] w' fun e w''=>e= .returned (.bool (q z))∧Below w'.heap.size w' w''):
  Calls Tryz.prog 68 #[.slice ka l.length kc,.func (.func K) #[rv] #[]] w fun x w'=>x= .returned (.bool (l.any q))∧Below w.heap.size w w':=by
 have hix:=hide (indexR_n (kc:=kc) hI hm eg hq)
 clear hI hq
 go_enter Tryz.func68,Tryz.ntmps68
 go_wp2_with fail
 refine hix.out.mono ?_
 rintro x w1 ⟨i,rfl,h1,h2,h3,k1⟩
 replace k1:=hide k1
 replace h1:=hide h1
 clear hix
 go_wp2
 go_ret
 exact⟨by rw[←h1.out];rfl,k1.out⟩
def isQ (L:List Nd)(i:Int):Bool:=decide ((ndI L i).kind=7∨(ndI L i).kind=8)
theorem isQuant_n {pa pm:Nat}{F:Nat→Prop}(h:AX w pa pm L F){i:Nat}(hi:i<L.length):
  Calls Tryz.prog 90 #[.pointer (some ⟨pa,0,none⟩),.int .i64 (i:Int)] w fun e w'=>e= .returned (.bool (isQ L i))∧w'=w:=by
 obtain⟨C,nv,bm,X,D,hA,-,-⟩:=h.ar
 have hXi:i<X.length:=by have:=hA.len;omega
 obtain⟨g,cap,rfl,hcell⟩:=hA.cell hi
 have hN:=hA.nodes i hi
 obtain⟨hk2,hnd⟩:=ndI_at (L:=L) (i:=(i:Int)) ⟨by omega,by omega⟩
 simp only[Int.toNat_natCast]at hnd
 rw[←hnd]at hN
 have e0:=hcell 0 (by decide) hXi
 simp only[NR.enc,List.getElem?_cons_zero,Nat.add_zero]at e0
 rw[hN.kd]at e0
 have u1:w.cell? ⟨pa,1,none⟩=some (.slice (some ⟨g,0,none⟩) L.length cap):=cell_of_row _ pa 1 _ _ (0,0) hA.blk
 unfold isQ
 generalize (ndI L i).kind=kd at*
 clear hA hN hcell
 go_enter Tryz.func90,Tryz.ntmps90
 go_wp2_with fail
 refine(binds_n kd).mono ?_
 rintro e w1 ⟨rfl,rfl⟩
 clear e0 u1
 generalize hb:decide (kd=7∨kd=8)=b
 replace hb:=hide hb
 go_wp2
 go_ret
 exact⟨by rw[hb.out];rfl,rfl⟩
theorem pln_any {id:Int}(h:DnL L id l):(l.any (isQ L))=false↔Pln L id:=by
 rw[List.any_eq_false]
 constructor
 ·intro h1 y hy
  have h2:=h1 y ((h.2 y).2 hy)
  unfold PlnP
  unfold isQ at h2
  simp at h2
  omega
 intro h1 y hy
 have h2:=h1 y ((h.2 y).1 hy)
 unfold PlnP at h2
 unfold isQ
 simp
 omega
theorem plain_n {pa pm:Nat}{F:Nat→Prop}(h:AX w pa pm L F)(hw:Wk L)(hL:L.length≤1048576){id:Int}(hi:okI L id):
  Calls Tryz.prog 62 #[.pointer (some ⟨pa,0,none⟩),.int .i64 id] w fun e w'=> ∃b:Bool,e= .returned (.bool b)∧(b=true↔Pln L id)∧Below w.heap.size w w':=by
 obtain⟨i,rfl⟩: ∃i:Nat,id=(i:Int):=⟨id.toNat,by have:=hi.1;omega⟩
 have hil:i<L.length:=by have:=hi.2;omega
 have hlk:Hid (Calls Tryz.prog 69 #[.pointer (some ⟨pa,0,none⟩),.int .i64 (i:Int)] w fun e w'=>e= .returned (.bool false)∧w'=w):=hide (by
  obtain⟨C,nv,bm,X,D,hA,-,-⟩:=h.ar
  have h1:=lacks_n hA (i:Int)
  rw[decide_eq_false o_m]at h1
  exact h1)
 have hre:=hide (reach_n h hw hL hil)
 have eg: ∀args w,(callFunc 90 args).run Tryz.prog w= .ok (.enter 90 args) w:=fun _ _=>by kernel_rfl
 go_enter Tryz.func62,Tryz.ntmps62
 go_wp2_with(go_at_call 69;refine hlk.out.mono ?_;rintro e w1 ⟨rfl,rfl⟩)
 refine hre.out.mono ?_
 rintro e w2 ⟨a,c,l,rfl,hI,-,hD,k2⟩
 have hll:l.length≤4194304:=by
  have h1:=rise_len l 0 (L.length:Int) o_m hD.1 fun x hx=>by
   have:=(dn_le hw hi ((hD.2 x).1 hx)).1
   unfold okI at this
   exact this
  omega
 have hcall:=hide (containsR_n (kc:=c) (rv:=.pointer (some ⟨pa,0,none⟩)) (q:=isQ L) hI hll eg fun w' z hz k'=>by
  have h1:=(dn_le hw hi ((hD.2 z).1 hz)).1
  obtain⟨q,rfl⟩: ∃q:Nat,z=(q:Int):=⟨z.toNat,by have:=h1.1;omega⟩
  exact(isQuant_n (h.below (grow_step k' k2)) (by have:=h1.2;omega)).mono fun e w'' ⟨h2,h3⟩=>⟨h2,h3▸Below.refl _ _⟩)
 have hpl:=hide (pln_any hD)
 replace k2:=hide k2
 clear hre hlk hI hD eg
 go_wp2_with fail
 refine hcall.out.mono ?_
 rintro e w3 ⟨rfl,k3⟩
 have k4:=hide (grow_step k3 k2.out)
 clear hcall k3 k2
 generalize l.any (isQ L)=b at*
 cases b
 ·have hP:=hide (hpl.out.1 rfl)
  clear hpl
  go_wp2
  go_ret
  exact⟨true,rfl,⟨fun _=>hP.out,fun _=>rfl⟩,k4.out⟩
 have hP:Hid (¬Pln L i):=hide fun h=>by cases hpl.out.2 h
 clear hpl
 go_wp2
 go_ret
 exact⟨false,rfl,⟨fun h=>(by cases h),fun h=>absurd h hP.out⟩,k4.out⟩
end Nt
namespace Nt

variable {w:World}{pa:Nat}{L:List Nd}
theorem bound_n {pm:Nat}{F:Nat→Prop}{ra:Option Addr}{rc:Nat}{l:List Int}(h:AX w pa pm L F)(hI:IL w ra l.length l)(hl:l.length≤2002)(hok: ∀x∈l,okI L x∧isQ L x=false):
  Calls Tryz.prog 52 #[.pointer (some ⟨pa,0,none⟩),.slice ra l.length rc] w fun e w'=> ∃a c,e= .returned (.slice a 0 c)∧Below w.heap.size w w':=by
 go_enter Tryz.func52,Tryz.ntmps52
 go_wp2_with fail
 go_loopw [5,10] (fun vv q wr=> ∃t:Nat,t≤l.length∧vv= .slice none 0 0∧q= .int .i64 t∧wr=w) (fun _ q _=>l.length-(intOf q).toNat)
 case atStart=>exact⟨0,Nat.zero_le _,rfl,rfl,rfl⟩
 case round=>
  obtain⟨t,ht,rfl,rfl,rfl⟩:=hrel
  by_cases htn:t<l.length
  ·rcases hI.2 with h0|⟨b,off,rfl,hb,hc⟩
   ·omega
   obtain⟨e0,hz⟩:=hc t htn
   have ho:=hok l[t] (List.getElem_mem _)
   generalize l[t]=z at*
   obtain⟨q,rfl⟩: ∃q:Nat,z=(q:Int):=⟨z.toNat,by have:=ho.1.1;omega⟩
   have hcall:=isQuant_n h (i:=q) (by have:=ho.1.2;omega)
   rw[ho.2]at hcall
   replace hcall:=hide hcall
   clear hc
   go_wp2_with fail
   refine hcall.out.mono ?_
   rintro e w2 ⟨rfl,rfl⟩
   clear hcall
   go_wp2_with fail
   exact⟨⟨t+1,by omega,rfl,by go_num,by trivial⟩,by simp[intOf];omega⟩
  have hri:=rising_n (w:=wr) (ka:=none) (kc:=0) (l:=[]) ⟨rfl,.inl rfl⟩ (by simp)
  simp only[List.length_nil]at hri
  replace hri:=hide hri
  clear h hI hok
  go_wp2_with fail
  refine hri.out.mono ?_
  rintro e w2 ⟨a,c,rfl,-,-,k2⟩
  replace k2:=hide k2
  rw[ris_nil]
  clear hri
  go_wp2_with fail
  go_ret
  exact⟨a,c,rfl,k2.out⟩
theorem open_none {ra:Option Addr}{rn rc:Nat}(a:Option Addr)(c:Nat):
  Calls Tryz.prog 53 #[.pointer (some ⟨pa,0,none⟩),.slice ra rn rc,.slice a 0 c] w fun e w'=>e= .returned (.slice none 0 0)∧w'=w:=by
 go_enter Tryz.func53,Tryz.ntmps53
 go_wp2_with fail
 go_ret
 exact⟨rfl,rfl⟩
def vsL (L:List Nd)(l:List Int):List Int:=l.flatMap fun n=>(ndI L n).ps.map Prod.fst
theorem vsL_len {kk:Int}(hg:Gv kk L): ∀l:List Int,(∀x∈l,okI L x)→(vsL L l).length≤l.length*209716
 | [],_=>by simp[vsL]
 |x::l,h=>by
  have h1:=vsL_len hg l fun y hy=>h y (List.mem_cons_of_mem _ hy)
  have h2:=hg.parts (h x List.mem_cons_self)
  unfold vsL at h1 ⊢
  rw[List.flatMap_cons,List.length_append,List.length_map,List.length_cons]
  omega
def FrP (w w':World)(e:Ending)(L:List Nd)(id:Int):Prop:=
 ∃fl,(∀u,u∈fl↔Fv L u id)∧fl.Pairwise (· < ·)∧fl.length≤4294967296∧CI w w' e fl.length fl
theorem free_n {pm:Nat}{kk:Int}{F:Nat→Prop}(h:AX w pa pm L F)(hg:Gv kk L)(hL:L.length≤2002){id:Int}(ho:okI L id)(hp:Pln L id):
  Calls Tryz.prog 15 #[.pointer (some ⟨pa,0,none⟩),.int .i64 id] w fun e w'=>FrP w w' e L id:=by
 obtain⟨i,rfl⟩: ∃i:Nat,id=(i:Int):=⟨id.toNat,by have:=ho.1;omega⟩
 have hre:=hide (reach_n h hg.wk o_m (i:=i) (by have:=ho.2;omega))
 go_enter Tryz.func15,Tryz.ntmps15
 go_wp2_with fail
 refine hre.out.mono ?_
 rintro e w2 ⟨ra,rc,l,rfl,hI,hnew,hD,k2⟩
 clear hre
 have hlo: ∀x∈l,okI L x:=fun x hx=>(dn_le hg.wk ho ((hD.2 x).1 hx)).1
 have hll:l.length≤2002:=by
  have h1:=rise_len l 0 (L.length:Int) o_m hD.1 fun x hx=>by
   have:=hlo x hx
   unfold okI at this
   exact this
  omega
 have hbo:=hide (bound_n (rc:=rc) (h.below k2) hI hll fun x hx=>⟨hlo x hx,by
  have:=hp x ((hD.2 x).1 hx)
  unfold PlnP at this
  unfold isQ
  simp
  omega⟩)
 go_wp2_with fail
 refine hbo.out.mono ?_
 rintro e w3 ⟨ba,bc,rfl,k3⟩
 clear hbo
 have hop:=hide (open_none (w:=w3) (pa:=pa) (ra:=ra) (rn:=l.length) (rc:=rc) ba bc)
 go_wp2_with fail
 refine hop.out.mono ?_
 rintro e w4 ⟨rfl,rfl⟩
 clear hop
 have k03:=grow_step k3 k2
 have hI3:=hI.below k3
 obtain⟨C,nv,bm,X,D,hA4,-,-⟩:=(h.below k03).ar
 replace hA4:=hide hA4
 go_wp2_with fail
 go_loopw [8,27] (fun fv q wr=> ∃t:Nat,t≤l.length∧q= .int .i64 t∧Hid (wr.ownsRow w4.heap.size 3 1 fv (vsL L (l.take t)).length ((vsL L (l.take t)).map (Value.int .i64)))∧Hid (Below w4.heap.size w4 wr)) (fun _ q _=>l.length-(intOf q).toNat)
 case atStart=>exact⟨0,Nat.zero_le _,rfl,hide (World.ownsRow_nil _ _ _ _),hide (Below.refl _ _)⟩
 case round=>
  obtain⟨t,ht,rfl,hO,kr⟩:=hrel
  by_cases htn:t<l.length
  ·rcases(hI3.below kr.out).2 with h0|⟨b,off,rfl,hb,hc⟩
   ·omega
   obtain⟨e0,hz⟩:=hc t htn
   have hoz:=hlo l[t] (List.getElem_mem _)
   have hlt:(vsL L (l.take t)).length≤2002*209716:=by
    have h1:=vsL_len hg (l.take t) fun x hx=>hlo x (List.mem_of_mem_take hx)
    have h2:(l.take t).length≤2002:=by rw[List.length_take];omega
    exact Nat.le_trans h1 (Nat.mul_le_mul_right _ h2)
   have htk:Hid (vsL L (l.take (t+1))=vsL L (l.take t)++(ndI L l[t]).ps.map Prod.fst):=hide (by rw[List.take_succ_eq_append_getElem htn];unfold vsL;rw[List.flatMap_append];simp)
   generalize l[t]=z at*
   obtain⟨q,rfl⟩: ∃q:Nat,z=(q:Int):=⟨z.toNat,by have:=hoz.1;omega⟩
   have hql:q<L.length:=by have:=hoz.2;omega
   have hA:=hA4.out.below kr.out
   have hXq:q<X.length:=by have:=hA.len;omega
   obtain⟨g,cap,hnv,hcell⟩:=hA.cell hql
   have hN:=hA4.out.nodes q hql
   obtain⟨hk2,hnd⟩:=ndI_at hoz
   simp only[Int.toNat_natCast]at hnd
   rw[←hnd]at hN
   have u1:wr.cell? ⟨pa,1,none⟩=some (.slice (some ⟨g,0,none⟩) L.length cap):=(cell_of_row _ pa 1 _ _ (0,0) hA.blk).trans (by rw[←hnv];rfl)
   have e3:=hcell 3 (by decide) hXq
   simp only[NR.enc,List.getElem?_cons_zero,List.getElem?_cons_succ]at e3
   have hpl:=hN.pn.1
   have hpn:Hid (∀wi,Below w4.heap.size w4 wi→Pn wi X[q].ap X[q].np (ndI L q).ps 2097152):=hide fun wi ki=>(hN.pn.move (G:=fun _=>True) ki.size (fun b _ hl=>ki.block b hl) fun _ _ _=>trivial).pn
   have hps:=hg.parts hoz
   generalize hap:X[q].ap=ap at*
   generalize hnp:X[q].np=np at*
   generalize hcp:X[q].cp=cp at*
   clear hc hcell hA hN hap hnp hcp
   go_wp2_with fail
   clear u1 e3 e0
   go_loopw [8,41] (fun fv q2 wi=> ∃j:Nat,j≤np∧q2= .int .i64 j∧Hid (wi.ownsRow w4.heap.size 3 1 fv (vsL L (l.take t)++((ndI L q).ps.take j).map Prod.fst).length ((vsL L (l.take t)++((ndI L q).ps.take j).map Prod.fst).map (Value.int .i64)))∧Hid (Below w4.heap.size w4 wi)) (fun _ q2 _=>np-(intOf q2).toNat)
   case atStart=>exact⟨0,Nat.zero_le _,rfl,by simpa using hO,kr⟩
   case round=>
    obtain⟨j,hj,rfl,hOi,ki⟩:=hrel
    have hPi:=hide (hpn.out _ ki.out)
    by_cases hjn:j<np
    ·rcases hPi.out.2 with h0|⟨pb,po,rfl,hpb,hpc⟩
     ·omega
     obtain⟨sx,ax,lx,cx,p0,p1,p2,-,-,hIu⟩:=hpc j o_m
     have hjk:Hid ((ndI L q).ps.take (j+1)=(ndI L q).ps.take j++ [(ndI L q).ps[j]'o_m]):=hide (List.take_succ_eq_append_getElem o_m)
     generalize (ndI L q).ps[j]'o_m=pr at*
     obtain⟨u,cu⟩:=pr
     dsimp only at p0 hIu
     have b5:=below_alloc wr (.cells #[.int .i64 u,.bool sx,.slice ax lx cx] 117)
     have hbs:=hide (Tryz.slices_BinarySearch_int_empty ba bc u (wr.alloc (.cells #[.int .i64 u,.bool sx,.slice ax lx cx] 117)))
     have b6:=below_alloc (wr.alloc (.cells #[.int .i64 u,.bool sx,.slice ax lx cx] 117)) (.cells #[.int .i64 u] 3)
     have hI8:Hid (IL ((wr.alloc (.cells #[.int .i64 u,.bool sx,.slice ax lx cx] 117)).alloc (.cells #[.int .i64 u] 3)) (some ⟨wr.heap.size+1,0,none⟩) 1 [u]):=hide (by have h5:=il_one (heap_alloc_new (wr.alloc (.cells #[.int .i64 u,.bool sx,.slice ax lx cx] 117)) (.cells #[.int .i64 u] 3)) hIu;rwa [show(wr.alloc (.cells #[.int .i64 u,.bool sx,.slice ax lx cx] 117)).heap.size=wr.heap.size+1 by simp]at h5)
     have k56:=grow_step b6 b5
     have hr8:=hide (own_below hOi.out k56)
     have hz8:w4.heap.size≤((wr.alloc (.cells #[.int .i64 u,.bool sx,.slice ax lx cx] 117)).alloc (.cells #[.int .i64 u] 3)).heap.size:=Nat.le_trans ki.out.size k56.size
     have hbnd:(vsL L (l.take t)++((ndI L q).ps.take j).map Prod.fst).length+1≤8589934592:=by
      rw[List.length_append,List.length_map,List.length_take]
      omega
     have hnext:Hid (∀v' w9,World.ownsRow w9 w4.heap.size 3 1 v' ((vsL L (l.take t)++((ndI L q).ps.take j).map Prod.fst).length+1) ((vsL L (l.take t)++((ndI L q).ps.take j).map Prod.fst++ [u]).map (Value.int .i64))→World.grownBy ((wr.alloc (.cells #[.int .i64 u,.bool sx,.slice ax lx cx] 117)).alloc (.cells #[.int .i64 u] 3)) w9 u8.ownBlock→Hid (w9.ownsRow w4.heap.size 3 1 v' (vsL L (l.take t)++((ndI L q).ps.take (j+1)).map Prod.fst).length ((vsL L (l.take t)++((ndI L q).ps.take (j+1)).map Prod.fst).map (Value.int .i64)))∧Hid (Below w4.heap.size w4 w9)):=hide fun v' w9 hr hgw=>by
      have k9:Below w4.heap.size w4 w9:=(grow_step k56 ki.out).grown hgw (grow_step k56 ki.out).size fun k e=>(hOi.out.lt k e).1
      refine⟨hide ?_,hide k9⟩
      rw[hjk.out,List.map_append,←List.append_assoc,List.length_append]
      exact hr
     clear hOi hPi ki b5 b6 k56 hpc hjk hO kr
     go_wp2_with fail
     refine hbs.out.mono ?_
     rintro e w7 ⟨rfl,rfl⟩
     clear hbs
     go_wp2_with(at_builtin;go_loud(refine app_ii rfl _ _ rfl w4.heap.size _ _ _ rfl hr8.out (some ⟨wr.heap.size+1,0,none⟩) 1 1 [u] rfl (by decide) hI8.out hbnd hz8 ?_);intro v' w9 ho' hg' ha';have h9:=hide (hnext.out v' w9 ho' hg');clear ho' hg' ha' hnext hr8 hI8)
     exact⟨⟨j+1,by omega,by go_num,h9.out.1,h9.out.2⟩,by simp[intOf];omega⟩
    obtain rfl:j=np:=by omega
    have hOe:=hOi.out
    rw[List.take_of_length_le (l:=(ndI L q).ps) (i:=j) o_m,←htk.out]at hOe
    replace hOe:=hide hOe
    clear hOi hPi hO kr htk
    go_wp2_with fail
    exact⟨⟨t+1,by omega,by go_num,hOe,ki⟩,by simp[intOf];omega⟩
  obtain rfl:t=l.length:=by omega
  have hOe:=hO.out
  rw[List.take_length]at hOe
  have hlt:(vsL L l).length≤2002*209716:=Nat.le_trans (vsL_len hg l hlo) (Nat.mul_le_mul_right _ hll)
  have hmem: ∀u,u∈vsL L l↔Fv L u (i:Int):=fun u=>by
   rw[fv_pln hp]
   unfold vsL
   rw[List.mem_flatMap]
   constructor
   ·rintro⟨x,hx,hu⟩
    obtain⟨⟨u',c⟩,hc,rfl⟩:=List.mem_map.1 hu
    exact⟨x,(hD.2 x).1 hx,c,hc⟩
   rintro⟨x,hx,c,hc⟩
   exact⟨x,(hD.2 x).2 hx,List.mem_map.2 ⟨_,hc,rfl⟩⟩
  have h64: ∀u∈vsL L l,I64 u:=fun u hu=>by
   unfold vsL at hu
   obtain⟨x,hx,hu⟩:=List.mem_flatMap.1 hu
   obtain⟨p,hp',rfl⟩:=List.mem_map.1 hu
   have hox:=hlo x hx
   obtain⟨hx2,hxe⟩:=ndI_at hox
   have hN:=hA4.out.nodes x.toNat hx2
   rw[←hxe]at hN
   obtain⟨k,hk,rfl⟩:=List.getElem_of_mem hp'
   rcases hN.pn.2 with h0|⟨b,off,_,_,_,hc⟩
   ·have:=hN.pn.1
    omega
   obtain⟨_,_,_,_,_,_,_,_,_,_,h6⟩:=hc k hk
   exact h6
  obtain⟨a9,c9,rfl,hI9,-⟩:=row_il hOe h64
  have hri:=hide (rising_n (kc:=c9) hI9 o_m)
  have hfin:Hid (∀e w',RI wr w' e (vsL L l)→FrP w w' e L (i:Int)):=hide fun e w' ⟨a,c,he,h1,h2,h3⟩=>by
   have kk':=grow_step h3 (grow_step kr.out k03)
   exact⟨ris (vsL L l),fun u=>(mem_ris _ u).trans (hmem u),ris_rises _,by
    have h5:(ris (vsL L l)).length≤(vsL L l).length:=Nat.le_trans (compact_len _) (Nat.le_of_eq (List.length_mergeSort _))
    omega,a,c,he,h1,fun b off e h0=>Nat.le_trans (grow_step kr.out k03).size (h2 b off e h0),kk'⟩
  clear hO hOe kr h64 hmem hI9 hI3 h hA4
  go_wp2_with fail
  refine hri.out.mono ?_
  rintro e w8 h8
  have h9:=hide (hfin.out e w8 h8)
  obtain⟨a,c,rfl,-⟩:=h8
  clear hri hfin
  go_wp2_with fail
  go_ret
  exact h9.out
end Nt
end Go.Proofs.YtbgpddlcfiiiaaaGreatDoor
