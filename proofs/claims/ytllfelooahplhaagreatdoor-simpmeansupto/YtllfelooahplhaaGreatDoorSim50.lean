/-
 Several texts in one: VI,VJ,VK,VL,VM,VN,VO,VP,VQ,VR,LSimpMeans.
-/
import Derived.Test.YtllfelooahplhaaGreatDoorSim49
import Derived.Test.YtllfelooahplhaaGreatDoorSim40
import Derived.Test.YtllfelooahplhaaGreatDoorSim22
import Derived.Test.YtllfelooahplhaaGreatDoorSim37
import Derived.Test.YtllfelooahplhaaGreatDoorSim31
import Derived.Test.YtllfelooahplhaaGreatDoorSim41
set_option maxRecDepth 100000
set_option maxHeartbeats 6400000
namespace Go.Proofs.YtllfelooahplhaaGreatDoor
open Go.RowKit Go.Sort Go.Shelf
open Tm At
namespace Nt

def nx1 :Nd:=⟨2,0,[(0,1)],0,0,[]⟩
def nx2 :Nd:=⟨2,0,[(0,-1)],1,0,[]⟩
def sx1 :St:=⟨[cst 0,cst 1,nx1],1,0⟩
def sx2 :St:=⟨[cst 0,cst 1,nx1,nx2],2,0⟩
theorem form_v0 :formA 2 0 (nz (lays [] [(0,1)])) 0= .inl ⟨2,0,[(0,1)],0⟩:=by rfl
theorem putE_made {nn kk:Int}{s:St}{n:Nd}(h: ∀i:Nat,s.L[i]? ≠some n)(he:s.er=0)(hl:((nums n).any fun z=>decide (kk<(lim z:Int)))=false)(hc:1≤nn-s.c):putE nn kk s n=(⟨s.L++ [n],s.c+1,0⟩,(s.L.length:Int),0):=by
 have h7:mstep nn kk s.c s.er (nums n)=(0,s.c+1,0):=by
  unfold mstep
  rw[if_neg (by simp[he]),if_neg (by rw[hl];simp),if_neg o_m]
 unfold putE
 rw[if_neg (spot_no (fun⟨i,hi⟩=>h i hi)),h7,if_pos rfl]
theorem not_in2 {L:List Nd}{n:Nd}(h: ∀x∈L,x≠n)(i:Nat):L[i]? ≠some n:=fun hi=>h n (List.mem_of_getElem? hi) rfl
theorem lim_m1 :lim (-1)=1:=by
 have:=lim_neg 1
 rw[lim_1]at this
 exact this
theorem act_v0 :actA 2000 8 st0 2 0 [(0,1)] 0=(sx1,2,0):=by
 unfold actA
 rw[form_v0]
 show putE 2000 8 st0 nx1=_
 rw[putE_made (not_in (by simp[st0,cst,nx1])) rfl (by simp[nums,nx1,lim_0,lim_1]) (by decide)]
 rfl
theorem put_v0 :putE 2000 8 sx1 nx2=(sx2,3,0):=by
 rw[putE_made (not_in2 (by simp[sx1,cst,nx1,nx2])) rfl (by simp[nums,nx2,lim_0,lim_1,lim_m1]) (by decide)]
 rfl
theorem fit_v0 :Fit ⟨2,0,[(0,1)],0⟩:=form_fit (ps:=[(0,1)]) form_v0
theorem gv_sx1 :Gv 8 sx1.L:=by
 have h:=(kp_put (nn:=2000) (kk:=8) (s:=st0) (n:=nx1) (gv_st0 8) (.inl ⟨_,fit_v0,rfl,by simp⟩)).gv
 rw[putE_made (not_in (by simp[st0,cst,nx1])) rfl (by simp[nums,nx1,lim_0,lim_1]) (by decide)]at h
 exact h
theorem neg_sx1 {r:St × Int × Int}(h:NegR 2000 8 sx1 2 [] r):r=(sx2,3,0):=by
 have e:(ndI sx1.L 2).kind=2:=rfl
 rcases h with⟨h,_⟩|⟨h,_⟩|⟨h,_⟩|⟨h,_⟩|⟨_,h⟩
 ·rw[e]at h;cases h
 ·rw[e]at h;cases h
 ·rw[e]at h;cases h
 ·rw[e]at h;cases h
 rw[h]
 exact put_v0
theorem ok_sx1 :okI sx1.L 2:=⟨by decide,by decide⟩
theorem ok_sx2 :okI sx2.L 2:=⟨by decide,by decide⟩
theorem ok_sx3 :okI sx2.L 3:=⟨by decide,by decide⟩
theorem gv_sx2 :Gv 8 sx2.L:=by
 have h:=(kp_put (nn:=2000) (kk:=8) (s:=sx1) (n:=nx2) gv_sx1 (.inl ⟨_,fit_v0.neg,rfl,by simp[negA,scl]⟩)).gv
 rw[put_v0]at h
 exact h
theorem ag_sx2 {r:St × Int × Int}(h:AgR 2000 8 sx2 2 [] r):r=(sx2,2,0):=by
 have e:(ndI sx2.L 2).kind=2:=rfl
 rcases h with⟨h,_⟩|⟨h,_⟩|⟨h|h,_⟩|⟨_,h⟩
 ·rw[e]at h;cases h
 ·rw[e]at h;cases h
 ·rw[e]at h;cases h
 ·rw[e]at h;cases h
 exact h
theorem k2_sx2 :(ndI sx2.L 2).kind=2:=rfl
theorem k3_sx2 :(ndI sx2.L 3).kind=2:=rfl
theorem mem_sx2 {kd idle:Int}(hk:kd=5∨kd=6)(hi:idle=0∨idle=1)(x:Int):Mem sx2.L kd idle [2,3] x↔x=2∨x=3:=by
 constructor
 ·rintro⟨h,_⟩
  refine h (fun x=>x=2∨x=3) (by simp) fun y z hy _ hkd _=> ?_
  rcases hy with rfl|rfl
  ·rw[k2_sx2]at hkd;omega
  rw[k3_sx2]at hkd;omega
 rintro(rfl|rfl)
 ·exact⟨rk_id (by simp),ok_sx2,by rw[k2_sx2];omega,by omega⟩
 exact⟨rk_id (by simp),ok_sx3,by rw[k3_sx2];omega,by omega⟩
theorem stay_sx2 {kd idle:Int}(sg:Int)(hk:kd=5∨kd=6)(hi:idle=0∨idle=1)(x:Int)(hx:x=2∨x=3):Stay sx2.L sg (Mem sx2.L kd idle [2,3]) x:=by
 refine⟨(mem_sx2 hk hi x).2 hx,?_,fun y hy _ hp=> ?_⟩
 ·rcases hx with rfl|rfl
  ·exact k2_sx2
  exact k3_sx2
 rcases(mem_sx2 hk hi y).1 hy with rfl|rfl <;> rcases hx with rfl|rfl
 ·exact Int.lt_irrefl _
 ·exact absurd hp (by simp[ndI,sx2,nx1,nx2])
 ·exact absurd hp (by simp[ndI,sx2,nx1,nx2])
 exact Int.lt_irrefl _
theorem join_sx2 {kd dual idle rul sg:Int}(hk:kd=5∨kd=6)(hi:idle=0∨idle=1){r:St × Int × Int}(h:SimpR 2000 8 sx2 kd dual idle rul sg [2,3] r):r=(sx2,rul,0):=by
 have hc:Clash sx2.L sg (Mem sx2.L kd idle [2,3]):=⟨2,3,stay_sx2 sg hk hi 2 (.inl rfl),stay_sx2 sg hk hi 3 (.inr rfl),rfl,by
  rw[show(ndI sx2.L 2).k=0 from rfl,show(ndI sx2.L 3).k=1 from rfl];omega⟩
 rcases h with⟨⟨x,hx,hn⟩,_⟩|⟨_,⟨_,h⟩|⟨h,_⟩⟩
 ·rcases(show x=2∨x=3 by simpa using hx)with rfl|rfl
  ·exact absurd ok_sx2 hn
  exact absurd ok_sx3 hn
 ·exact h
 exact absurd (.inr (.inl hc)) h
theorem EA.step {w0 w w':World}{e:Ending}{pa pm:Nat}{nn kk:Int}{s s':St}{F:Nat→Prop}{r:St × Int × Int}{x er:Int}(h:EA w0 w pa pm nn kk s F)(ha:AO2 w w' e pa pm nn kk F r)(hr:r=(s',x,er))(hv:Gv kk s'.L):e= .returned (.tuple #[.int .i64 x,.int .i64 er])∧∃F',EA w0 w' pa pm nn kk s' F':=by
 subst hr
 obtain⟨F',h1,_⟩:=h.next ha hv
 exact⟨ha.1,F',h1⟩
end Nt
namespace Nt

theorem il_23 (w:World):IL (w.alloc (.cells #[.int .i64 2,.int .i64 3] 3)) (some ⟨w.heap.size,0,none⟩) ([2,3]:List Int).length [2,3]:=by
 have hc0:(w.alloc (.cells #[.int .i64 2,.int .i64 3] 3)).heap[w.heap.size]? =some (.cells #[.int .i64 2,.int .i64 3] 3 (0,0)):=heap_alloc_new w _
 exact⟨rfl,.inr ⟨w.heap.size,0,rfl,by simp,fun i hi=>by
  obtain rfl|rfl:i=0∨i=1:=by simp at hi;omega
  ·exact⟨cell_of_row _ w.heap.size 0 _ _ (0,0) hc0,show I64 2 by unfold I64;decide⟩
  exact⟨cell_of_row _ w.heap.size 1 _ _ (0,0) hc0,show I64 3 by unfold I64;decide⟩⟩⟩
def StP (w0:World)(pa pm:Nat)(s:St)(x:Int)(e:Ending)(w':World):Prop:=e= .returned (.tuple #[.int .i64 x,.int .i64 0])∧∃F,EA w0 w' pa pm 2000 8 s F
theorem and_23 {w0 w:World}{pa pm:Nat}{F:Nat→Prop}(h:EA w0 w pa pm 2000 8 sx2 F):Calls Tryz.prog 17 #[.pointer (some ⟨pa,0,none⟩),.slice (some ⟨w.heap.size,0,none⟩) 2 2] (w.alloc (.cells #[.int .i64 2,.int .i64 3] 3)) (StP w0 pa pm sx2 0):=by
 have hE:=h.below (below_alloc w (.cells #[.int .i64 2,.int .i64 3] 3))
 refine Calls.mono (and9_n (kc:=2) (ids:=[2,3]) hE.g hE.v hE.k0 (by decide) (il_23 w) (by simp) hE.tab) ?_
 rintro e w' ⟨r,hs,ha⟩
 exact hE.step ha (join_sx2 (.inl rfl) (.inr rfl) hs) gv_sx2
theorem or_23 {w0 w:World}{pa pm:Nat}{F:Nat→Prop}(h:EA w0 w pa pm 2000 8 sx2 F):Calls Tryz.prog 18 #[.pointer (some ⟨pa,0,none⟩),.slice (some ⟨w.heap.size,0,none⟩) 2 2] (w.alloc (.cells #[.int .i64 2,.int .i64 3] 3)) (StP w0 pa pm sx2 1):=by
 have hE:=h.below (below_alloc w (.cells #[.int .i64 2,.int .i64 3] 3))
 refine Calls.mono (or9_n (kc:=2) (ids:=[2,3]) hE.g hE.v hE.k0 (by decide) (il_23 w) (by simp) hE.tab) ?_
 rintro e w' ⟨r,hs,ha⟩
 exact hE.step ha (join_sx2 (.inr rfl) (.inl rfl) hs) gv_sx2
theorem neg_2 {w0 w:World}{pa pm:Nat}{F:Nat→Prop}(hE:EA w0 w pa pm 2000 8 sx1 F):Calls Tryz.prog 15 #[.pointer (some ⟨pa,0,none⟩),.int .i64 2] w (StP w0 pa pm sx2 3):=by
 refine Calls.mono (negate_n hE (by unfold I64;decide)) ?_
 rintro e w' ⟨r,ha,-,-,hf,-⟩
 exact hE.step ha (neg_sx1 (hf rfl ok_sx1)) gv_sx2
theorem ag_2 {w0 w:World}{pa pm:Nat}{F:Nat→Prop}(hE:EA w0 w pa pm 2000 8 sx2 F):Calls Tryz.prog 16 #[.pointer (some ⟨pa,0,none⟩),.int .i64 2] w (StP w0 pa pm sx2 2):=by
 refine Calls.mono (again_n hE (by unfold I64;decide)) ?_
 rintro e w' ⟨r,ha,-,-,hf,-⟩
 exact hE.step ha (ag_sx2 (hf rfl ok_sx2)) gv_sx2
theorem awake9_n {w:World}(htab:Tab w):Calls Tryz.prog 9 #[] w fun e w'=>e= .returned (.bool true)∧Below w.heap.size w w':=by
 replace htab:=hide htab
 go_enter Tryz.func9,Tryz.ntmps9
 go_wp2_with fail
 refine(new_ag htab.out).mono ?_
 rintro e w1 ⟨pa,pm,F,rfl,hG,hF,hpw,k1⟩
 have hE:Hid (EA w w1 pa pm 2000 8 st0 F):=hide ⟨hG,gv_st0 8,hF,hpw,k1,htab.out,by decide,by decide⟩
 clear hG hF hpw k1 htab
 go_wp2_with fail
 refine(tvar_n (v:=0) (B:=2) (by unfold I64;decide) o_m).mono ?_
 rintro e w2 ⟨ad2,cp2,rs2,rfl,hT2,hr2⟩
 obtain⟨hP2,hZ2,hl2⟩:=hT2.tw
 rw[hr2]at hP2
 replace hE:=hide (hE.out.below hT2.below)
 have hcall:=hide (atom_ao2 (B:=2) (kd:=2) (cp:=cp2) hE.out.g (zn_zero _).zm o_m hP2 hZ2 hl2 o_m o_m hE.out.tab)
 clear hT2 hP2 hZ2 hl2 hr2
 go_wp2_with fail
 refine hcall.out.mono ?_
 rintro e w3 ha
 obtain⟨rfl,F3,hE3⟩:=hE.out.step ha act_v0 gv_sx1
 clear ha hcall hE
 replace hE3:=hide hE3
 go_wp2_with fail
 refine(neg_2 hE3.out).mono ?_
 rintro e w4 ⟨rfl,F4,hE4⟩
 clear hE3
 replace hE4:=hide hE4
 go_wp2_with fail
 refine(and_23 hE4.out).mono ?_
 rintro e w5 ⟨rfl,F5,hE5⟩
 clear hE4
 replace hE5:=hide hE5
 go_wp2_with fail
 refine(or_23 hE5.out).mono ?_
 rintro e w6 ⟨rfl,F6,hE6⟩
 clear hE5
 replace hE6:=hide hE6
 go_wp2_with fail
 refine(ag_2 hE6.out).mono ?_
 rintro e w7 ⟨rfl,F7,hE7⟩
 clear hE6
 replace hE7:=hide hE7.k
 go_wp2_with fail
 go_ret
 exact⟨rfl,hE7.out⟩
end Nt
namespace Nt

def pickL (ks ids:List Int):List Int:=(ks.take 12).map (ofK ids)
theorem picked_n {w:World}{ka:Option Addr}{kn kc:Nat}{ks ids:List Int}{ia:Option Addr}{ic:Nat}(hI:IL w ka kn ks)(hkn:kn≤1048576)(hN:IL w ia ids.length ids)(h0:ids≠ [])(hl:ids.length≤1000):
  Calls Tryz.prog 12 #[.slice ia ids.length ic,.slice ka kn kc,.bool false] w fun e w'=> ∃v,e= .returned v∧w'.ownsRow w.heap.size 3 1 v (pickL ks ids).length ((pickL ks ids).map (Value.int .i64))∧Below w.heap.size w w':=by
 go_enter Tryz.func12,Tryz.ntmps12
 go_wp2_with fail
 obtain⟨i0,hi,hz0,hz1,hz2⟩:=info_parts infoI
 have hk:=hI.1
 have hn0:=List.length_pos_iff.2 h0
 go_loopw [7,8] (fun vv i wr=> ∃t:Nat,t≤kn∧t≤12∧i= .int .i64 t∧Hid (wr.ownsRow w.heap.size 3 1 vv t (((ks.take t).map (ofK ids)).map (Value.int .i64)))∧Hid (Below w.heap.size w wr)) (fun _ i _=>12-(intOf i).toNat)
 case atStart=>exact⟨0,Nat.zero_le _,Nat.zero_le _,rfl,World.ownsRow_nil _ _ _ _,Below.refl _ _⟩
 case round=>
  obtain⟨t,ht,ht5,rfl,hrow,kr⟩:=hrel
  by_cases htn:t<kn∧t<12
  ·rcases(hI.below kr.out).2 with h|⟨b1,o1,rfl,hb1,h1⟩
   ·omega
   rcases(hN.below kr.out).2 with h|⟨b2,o2,rfl,hb2,h2⟩
   ·omega
   obtain⟨e1,i1⟩:=h1 t o_m
   have hpk:=pick_lt ks[t] (n:=(ids.length:Int)) o_m
   obtain⟨e2,i2⟩:=h2 (pick ks[t] ids.length).toNat o_m
   have hof:Hid (ids[(pick ks[t] ids.length).toNat]=ofK ids ks[t]):=hide (by unfold ofK;rw[List.getD_eq_getElem?_getD,List.getElem?_eq_getElem o_m];rfl)
   rw[hof.out]at e2
   have hps:Hid (ks.take (t+1)=ks.take t++ [ks[t]]):=hide (List.take_succ_eq_append_getElem o_m)
   obtain⟨q,hq⟩: ∃q:Nat,pick ks[t] ids.length=(q:Int):=⟨(pick ks[t] ids.length).toNat,by omega⟩
   have hpick:=hide (pick_n (w:=wr) i1 (n:=(ids.length:Int)) o_m)
   rw[hq]at hpick e2 hpk
   simp only[Int.toNat_natCast]at e2
   clear hof i2 i1
   generalize ks[t]=kt at*
   clear h1 h2
   have hbase:=hide kr.out.size
   go_wp2_with fail
   refine hpick.out.mono ?_
   rintro e w1 ⟨rfl,rfl⟩
   go_wp2_with(at_builtin;refine wpList_append_own_at _ rfl _ _ 23 rfl w.heap.size 3 i0 _ 1 8 Tryz.underlying23 hi hz0 hz1 hz2 rfl (by decide) _ _ _ rfl (hrow.out.alloc _) ⟨w1.heap.size,0,none⟩ 1 1 [.int .i64 (ofK ids kt)] rfl rfl (by simpa using cell_one_new w1 (.int .i64 (ofK ids kt)) 3) (by simp[Value.oneCell']) (by unfold maxLen;omega) o_m (by have:=hbase.out;simp;omega) ?_;intro v' w4 hown' hgrow hnil hat')
   have ka4:=below_alloc w1 (.cells #[.int .i64 (ofK ids kt)] 3)
   have k4:Below w.heap.size w w4:=(grow_step ka4 kr.out).grown hgrow (grow_step ka4 kr.out).size (fun k e=>(hrow.out.lt k e).1)
   refine⟨⟨t+1,by omega,by omega,by go_num,hide ?_,hide k4⟩,by simp[intOf];omega⟩
   rw[hps.out,List.map_append,List.map_append]
   exact hown'
  have htk:ks.take t=ks.take 12:=by
   by_cases h5:t=12
   ·rw[h5]
   rw[List.take_of_length_le o_m,List.take_of_length_le o_m]
  have hlen:(pickL ks ids).length=t:=by unfold pickL;rw[←htk,List.length_map,List.length_take];omega
  have hfin:Hid (wr.ownsRow w.heap.size 3 1 u7 (pickL ks ids).length ((pickL ks ids).map (Value.int .i64))):=hide (by rw[hlen];unfold pickL;rw[←htk];exact hrow.out)
  clear hlen htk hrow
  by_cases hq:t<kn
  ·go_wp2_with fail
   go_ret
   exact⟨_,rfl,hfin.out,kr.out⟩
  go_wp2_with fail
  go_ret
  exact⟨_,rfl,hfin.out,kr.out⟩
end Nt
namespace Nt

def LiP (w:World)(left:Int)(e:Ending)(w':World):Prop:=∃r:Int,e= .returned (.int .i64 r)∧0≤r∧r<left∧Below w.heap.size w w'
theorem light_step {w0:World}{pa pm:Nat}{nn kk:Int}{s:St}{F:Nat→Prop}(id:Int)
  (ih: ∀id':Int,0≤id'→id'<id→∀(left:Int) (w:World),0<left→left≤3000→EA w0 w pa pm nn kk s F→Calls Tryz.prog 13 #[.pointer (some ⟨pa,0,none⟩),.int .i64 id',.int .i64 left] w (LiP w left))
  (hok:okI s.L id)(left:Int)(w:World)(hl0:0<left)(hl:left≤3000)(hE:EA w0 w pa pm nn kk s F):
  Calls Tryz.prog 13 #[.pointer (some ⟨pa,0,none⟩),.int .i64 id,.int .i64 left] w (LiP w left):=by
 have hln:s.L.length≤2002:=by
  have h3:=hE.g.ln
  have h4:=hE.g.cn
  have h5:=hE.g.n2
  omega
 have hnode:=hide (node9_n (B:=1048576) hE.g.ax hE.v hE.k0 (Int.le_trans hE.k8 (by decide)) o_m id)
 have hkl:(ndI s.L id).kids.length≤2002:=by
  have h1:=(hE.v.kids hok).1
  have h2:=hok.2
  omega
 have hkk:Hid (∀k∈(ndI s.L id).kids,0≤k∧k<id):=hide (hE.v.wk id hok)
 replace ih:=hide ih
 replace hE:=hide hE
 replace hok:=hide hok
 go_enter Tryz.func13,Tryz.ntmps13
 go_wp2_with fail
 refine hnode.out.mono ?_
 clear hnode
 rintro e w5 (⟨_,xr,rfl,hN,k5⟩|⟨hno,_⟩)
 rotate_left
 ·exact absurd hok.out hno
 obtain⟨kdn,sd,ad,ld,cd,ap,np,cp,sk,ak,lk,ck,vr,kka,kkn,kkc⟩:=xr
 obtain rfl:kkn=(ndI s.L id).kids.length:=hN.kids.1.symm
 have hI:IL w5 kka (ndI s.L id).kids.length (ndI s.L id).kids:=hN.kids
 simp only[nE]
 have b6:=below_alloc w5 (.cells #[.int .i64 kdn,.bool sd,.slice ad ld cd,.slice ap np cp,.bool sk,.slice ak lk ck,.int .i64 vr,.slice kka (ndI s.L id).kids.length kkc] 77)
 have y6:NB (w5.alloc (.cells #[.int .i64 kdn,.bool sd,.slice ad ld cd,.slice ap np cp,.bool sk,.slice ak lk ck,.int .i64 vr,.slice kka (ndI s.L id).kids.length kkc] 77)) w5.heap.size kdn sd ad ld cd ap np cp sk ak lk ck vr kka (ndI s.L id).kids.length kkc:=NB.new w5 _ _ _ _ _ _ _ _ _ _ _ _ _ _ _ _
 have k6:=grow_step b6 k5
 have hI6:=hI.below b6
 clear hN hI
 replace y6:=hide y6
 replace k6:=hide k6
 replace hI6:=hide hI6
 go_wp2_with fail
 clear b6 k5
 generalize w5.alloc (.cells #[.int .i64 kdn,.bool sd,.slice ad ld cd,.slice ap np cp,.bool sk,.slice ak lk ck,.int .i64 vr,.slice kka (ndI s.L id).kids.length kkc] 77)=w6 at*
 generalize w5.heap.size=p at*
 generalize hks:(ndI s.L id).kids=ks at*
 clear hks
 go_loopw [2,9] (fun l i wr=> ∃(t:Nat) (r:Int),t≤ks.length∧0≤r∧r<left∧l= .int .i64 r∧i= .int .i64 t∧Hid (Below w6.heap.size w6 wr)) (fun _ i _=>ks.length-(intOf i).toNat)
 case atStart=>exact⟨0,left-1,Nat.zero_le _,by omega,by omega,by go_num,rfl,hide (Below.refl _ _)⟩
 case round=>
  obtain⟨t,r,ht,hr0,hr1,rfl,rfl,kr⟩:=hrel
  have u7:=(y6.out.below kr.out).c7
  by_cases htn:t<ks.length
  ·by_cases hrp:0<r
   ·rcases(hI6.out.below kr.out).2 with h|⟨b1,o1,rfl,hb1,h1⟩
    ·omega
    obtain⟨e1,i1⟩:=h1 t htn
    have hk2:=hkk.out ks[t] (List.getElem_mem htn)
    have hcall:=hide (ih.out ks[t] hk2.1 hk2.2 r wr hrp o_m (hE.out.below (grow_step kr.out k6.out)))
    generalize ks[t]=kt at*
    clear h1 hk2 i1 hb1
    go_wp2_with fail
    refine hcall.out.mono ?_
    rintro e w7 ⟨q,rfl,hq0,hq1,k7⟩
    replace k7:=hide (grow_step k7 kr.out)
    clear hcall e1 u7 kr
    go_wp2_with fail
    exact⟨⟨t+1,q,by omega,hq0,by omega,rfl,by go_num,k7⟩,by simp[intOf];omega⟩
   have kf:=hide (grow_step kr.out k6.out)
   clear hI6 y6 k6 kr
   go_wp2_with fail
   go_ret
   exact⟨r,rfl,hr0,hr1,kf.out⟩
  have kf:=hide (grow_step kr.out k6.out)
  clear hI6 y6 k6 kr
  go_wp2_with fail
  go_ret
  exact⟨r,rfl,hr0,hr1,kf.out⟩
theorem light_n {w0:World}{pa pm:Nat}{nn kk:Int}{s:St}{F:Nat→Prop}: ∀(N:Nat) (id:Int),id<(N:Int)→okI s.L id→∀(left:Int) (w:World),0<left→left≤3000→EA w0 w pa pm nn kk s F→Calls Tryz.prog 13 #[.pointer (some ⟨pa,0,none⟩),.int .i64 id,.int .i64 left] w (LiP w left)
 |0,id,h,ho,_,_,_,_,_=>absurd ho.1 o_m
 |N+1,id,h,ho,left,w,h0,h1,hE=>light_step id (fun id' h2 h3 left' w' h4 h5 hE'=>light_n N id' o_m ⟨h2,by have:=ho.2;omega⟩ left' w' h4 h5 hE') ho left w h0 h1 hE
end Nt
namespace Nt

def FinP (L:List Nd)(vs:List (Int × Int))(y:Int):Prop:=(ndI L y).kind≠7∧(ndI L y).kind≠8∧((ndI L y).kind<5→Tot (ndI L y).ps vs)
def Fin9 (L:List Nd)(vs:List (Int × Int))(i:Int):Prop:=Her L (FinP L vs) i
def TrP (w:World)(L:List Nd)(vs:List (Int × Int))(id:Int)(e:Ending)(w':World):Prop:=
 ∃b fine:Bool,e= .returned (.tuple #[.bool b,.bool fine])∧Below w.heap.size w w'∧(fine=true↔okI L id∧Fin9 L vs id)∧(fine=true→(b=true↔tv L (val1 vs) id))
theorem truth_5 {w0:World}{pa pm:Nat}{nn kk:Int}{s:St}{F:Nat→Prop}{va:Option Addr}{vn vc:Nat}{vs:List (Int × Int)}{VB:Nat}(id:Int)(ih: ∀id':Int,okI s.L id'→id'<id→∀w:World,EA w0 w pa pm nn kk s F→Pr w va vn vs VB→Calls Tryz.prog 14 #[.pointer (some ⟨pa,0,none⟩),.int .i64 id',.slice va vn vc] w (TrP w s.L vs id'))(hok:okI s.L id)(hk:(ndI s.L id).kind=5)(w:World)(hE:EA w0 w pa pm nn kk s F)(hV:Pr w va vn vs VB)(_hvn:vn≤16777216)(_hvB:VB≤16777216):Calls Tryz.prog 14 #[.pointer (some ⟨pa,0,none⟩),.int .i64 id,.slice va vn vc] w (TrP w s.L vs id):=by
 have hln:s.L.length≤2002:=by
  have h3:=hE.g.ln
  have h4:=hE.g.cn
  have h5:=hE.g.n2
  omega
 have hnode:=hide (node9_n (B:=1048576) hE.g.ax hE.v hE.k0 (Int.le_trans hE.k8 (by decide)) o_m id)
 have hwk:=hide hE.v.wk
 replace hE:=hide hE
 replace hV:=hide hV
 replace hok:=hide hok
 have hkk:Hid (∀k∈(ndI s.L id).kids,okI s.L k∧k<id):=hide fun k h=>⟨hwk.out.ok hok.out h,(hwk.out id hok.out k h).2⟩
 have hfin9:Hid (Fin9 s.L vs id↔ ∀z∈(ndI s.L id).kids,Fin9 s.L vs z):=hide ((her_iff hok.out).trans ⟨fun h=>h.2,fun h=>⟨⟨by omega,by omega,fun h=>by omega⟩,h⟩⟩)
 have htv:Hid (tv s.L (val1 vs) id↔ ∀z∈(ndI s.L id).kids,tv s.L (val1 vs) z):=hide (tv_and hwk.out hok.out hk)
 have hkl:(ndI s.L id).kids.length≤2002:=by
  have h1:=(hE.out.v.kids hok.out).1
  have h2:=hok.out.2
  omega
 replace ih:=hide ih
 go_enter Tryz.func14,Tryz.ntmps14
 go_wp2_with fail
 refine hnode.out.mono ?_
 clear hnode
 rintro e w5 (⟨_,xr,rfl,hN,k5⟩|⟨hno,_⟩)
 rotate_left
 ·exact absurd hok.out hno
 obtain⟨kdn,sd,ad,ld,cd,ap,np,cp,sk,ak,lk,ck,vr,kka,kkn,kkc⟩:=xr
 obtain rfl:kkn=(ndI s.L id).kids.length:=hN.kids.1.symm
 obtain rfl:kdn=5:=hN.kd.trans hk
 have hI:IL w5 kka (ndI s.L id).kids.length (ndI s.L id).kids:=hN.kids
 simp only[nE]
 have b6:=below_alloc w5 (.cells #[.int .i64 5,.bool sd,.slice ad ld cd,.slice ap np cp,.bool sk,.slice ak lk ck,.int .i64 vr,.slice kka (ndI s.L id).kids.length kkc] 77)
 have y6:NB (w5.alloc (.cells #[.int .i64 5,.bool sd,.slice ad ld cd,.slice ap np cp,.bool sk,.slice ak lk ck,.int .i64 vr,.slice kka (ndI s.L id).kids.length kkc] 77)) w5.heap.size 5 sd ad ld cd ap np cp sk ak lk ck vr kka (ndI s.L id).kids.length kkc:=NB.new w5 _ _ _ _ _ _ _ _ _ _ _ _ _ _ _ _
 have k6:=grow_step b6 k5
 have hI6:=hI.below b6
 have u0:=y6.c0
 have u1:=y6.c1
 have u2:=y6.c2
 have u3:=y6.c3
 have u4:=y6.c4
 have u5:=y6.c5
 replace y6:=hide y6
 replace k6:=hide k6
 replace hI6:=hide hI6
 clear hN hI hk
 go_wp2_with fail
 clear b6 k5 u0 u1 u2 u3 u4 u5
 generalize w5.alloc (.cells #[.int .i64 5,.bool sd,.slice ad ld cd,.slice ap np cp,.bool sk,.slice ak lk ck,.int .i64 vr,.slice kka (ndI s.L id).kids.length kkc] 77)=w6 at*
 generalize w5.heap.size=p at*
 generalize hks:(ndI s.L id).kids=ks at*
 clear hks
 go_loopw [12,13] (fun l i wr=> ∃(t:Nat) (b:Bool),t≤ks.length∧l= .bool b∧i= .int .i64 t∧Hid (Below w6.heap.size w6 wr)∧Hid (∀z∈ks.take t,Fin9 s.L vs z)∧Hid (b=true↔ ∀z∈ks.take t,tv s.L (val1 vs) z)) (fun _ i _=>ks.length-(intOf i).toNat)
 case atStart=>exact⟨0,true,Nat.zero_le _,rfl,rfl,hide (Below.refl _ _),hide (by simp),hide (by simp)⟩
 case round=>
  obtain⟨t,b,ht,rfl,rfl,kr,hfr,hbr⟩:=hrel
  have u7:=(y6.out.below kr.out).c7
  by_cases htn:t<ks.length
  ·rcases(hI6.out.below kr.out).2 with h|⟨b1,o1,rfl,hb1,h1⟩
   ·omega
   obtain⟨e1,i1⟩:=h1 t htn
   have hmem:ks[t]∈ks:=List.getElem_mem htn
   have hk2:=hkk.out ks[t] hmem
   have kw:=grow_step kr.out k6.out
   have hcall:=hide (ih.out ks[t] hk2.1 hk2.2 wr (hE.out.below kw) (hV.out.below kw))
   have hps:Hid (ks.take (t+1)=ks.take t++ [ks[t]]):=hide (List.take_succ_eq_append_getElem htn)
   replace hmem:=hide hmem
   replace hk2:=hide hk2
   generalize ks[t]=kt at*
   clear h1 i1 hb1 kw
   go_wp2_with fail
   refine hcall.out.mono ?_
   rintro e w7 ⟨b2,f2,rfl,k7,hf2,hb2⟩
   have k67:=hide (grow_step k7 kr.out)
   have k07:=hide (grow_step k67.out k6.out)
   clear hcall e1 u7 kr k7
   rcases f2 with _|_
   ·have hend:Hid (TrP w s.L vs id (.returned (.tuple #[.bool false,.bool false])) w7):=hide ⟨false,false,rfl,k07.out,⟨(fun h=>by cases h),fun h=>absurd (hf2.2 ⟨hk2.out.1,hfin9.out.1 h.2 kt hmem.out⟩) (by simp)⟩,fun h=>by cases h⟩
    clear hf2 hb2
    go_wp2_with fail
    refine bodyPost_ret (results_tmp2 rfl _ _ _) rfl ?_
    exact hend.out
   have hfz:=(hf2.1 rfl).2
   have hbz:=hb2 rfl
   have v0:=(y6.out.below k67.out).c0
   have hf3:Hid (∀z∈ks.take (t+1),Fin9 s.L vs z):=hide (by
    rw[hps.out]
    intro z hz
    rcases List.mem_append.1 hz with h|h
    ·exact hfr.out z h
    obtain rfl:=List.mem_singleton.1 h
    exact hfz)
   have hb3:Hid (∀b':Bool,b'=(b&&b2)→(b'=true↔ ∀z∈ks.take (t+1),tv s.L (val1 vs) z)):=hide (by
    intro b' hb'
    rw[hps.out,hb',Bool.and_eq_true,hbr.out,hbz]
    simp[List.mem_append,or_imp,forall_and])
   clear hf2 hb2 hfz hbz hbr hfr
   rcases b with _|_ <;> rcases b2 with _|_
   all_goals
    go_wp2_with fail
    exact⟨⟨t+1,_,by omega,rfl,by go_num,k67,hf3,hide (hb3.out _ rfl)⟩,by simp[intOf];omega⟩
  have htk:ks.take t=ks:=List.take_of_length_le o_m
  have kw:=hide (grow_step kr.out k6.out)
  have hend:Hid (TrP w s.L vs id (.returned (.tuple #[.bool b,.bool true])) wr):=hide ⟨b,true,rfl,kw.out,⟨fun _=>⟨hok.out,hfin9.out.2 (by rw[←htk];exact hfr.out)⟩,fun _=>rfl⟩,fun _=>by rw[htv.out,hbr.out,htk]⟩
  clear htk hfr hbr
  go_wp2_with fail
  refine bodyPost_ret (results_tmp2 rfl _ _ _) rfl ?_
  exact hend.out
theorem truth_6 {w0:World}{pa pm:Nat}{nn kk:Int}{s:St}{F:Nat→Prop}{va:Option Addr}{vn vc:Nat}{vs:List (Int × Int)}{VB:Nat}(id:Int)(ih: ∀id':Int,okI s.L id'→id'<id→∀w:World,EA w0 w pa pm nn kk s F→Pr w va vn vs VB→Calls Tryz.prog 14 #[.pointer (some ⟨pa,0,none⟩),.int .i64 id',.slice va vn vc] w (TrP w s.L vs id'))(hok:okI s.L id)(hk:(ndI s.L id).kind=6)(w:World)(hE:EA w0 w pa pm nn kk s F)(hV:Pr w va vn vs VB)(_hvn:vn≤16777216)(_hvB:VB≤16777216):Calls Tryz.prog 14 #[.pointer (some ⟨pa,0,none⟩),.int .i64 id,.slice va vn vc] w (TrP w s.L vs id):=by
 have hln:s.L.length≤2002:=by
  have h3:=hE.g.ln
  have h4:=hE.g.cn
  have h5:=hE.g.n2
  omega
 have hnode:=hide (node9_n (B:=1048576) hE.g.ax hE.v hE.k0 (Int.le_trans hE.k8 (by decide)) o_m id)
 have hwk:=hide hE.v.wk
 replace hE:=hide hE
 replace hV:=hide hV
 replace hok:=hide hok
 have hkk:Hid (∀k∈(ndI s.L id).kids,okI s.L k∧k<id):=hide fun k h=>⟨hwk.out.ok hok.out h,(hwk.out id hok.out k h).2⟩
 have hfin9:Hid (Fin9 s.L vs id↔ ∀z∈(ndI s.L id).kids,Fin9 s.L vs z):=hide ((her_iff hok.out).trans ⟨fun h=>h.2,fun h=>⟨⟨by omega,by omega,fun h=>by omega⟩,h⟩⟩)
 have htv:Hid (tv s.L (val1 vs) id↔ ∃z∈(ndI s.L id).kids,tv s.L (val1 vs) z):=hide (tv_or hwk.out hok.out hk)
 have hkl:(ndI s.L id).kids.length≤2002:=by
  have h1:=(hE.out.v.kids hok.out).1
  have h2:=hok.out.2
  omega
 replace ih:=hide ih
 go_enter Tryz.func14,Tryz.ntmps14
 go_wp2_with fail
 refine hnode.out.mono ?_
 clear hnode
 rintro e w5 (⟨_,xr,rfl,hN,k5⟩|⟨hno,_⟩)
 rotate_left
 ·exact absurd hok.out hno
 obtain⟨kdn,sd,ad,ld,cd,ap,np,cp,sk,ak,lk,ck,vr,kka,kkn,kkc⟩:=xr
 obtain rfl:kkn=(ndI s.L id).kids.length:=hN.kids.1.symm
 obtain rfl:kdn=6:=hN.kd.trans hk
 have hI:IL w5 kka (ndI s.L id).kids.length (ndI s.L id).kids:=hN.kids
 simp only[nE]
 have b6:=below_alloc w5 (.cells #[.int .i64 6,.bool sd,.slice ad ld cd,.slice ap np cp,.bool sk,.slice ak lk ck,.int .i64 vr,.slice kka (ndI s.L id).kids.length kkc] 77)
 have y6:NB (w5.alloc (.cells #[.int .i64 6,.bool sd,.slice ad ld cd,.slice ap np cp,.bool sk,.slice ak lk ck,.int .i64 vr,.slice kka (ndI s.L id).kids.length kkc] 77)) w5.heap.size 6 sd ad ld cd ap np cp sk ak lk ck vr kka (ndI s.L id).kids.length kkc:=NB.new w5 _ _ _ _ _ _ _ _ _ _ _ _ _ _ _ _
 have k6:=grow_step b6 k5
 have hI6:=hI.below b6
 have u0:=y6.c0
 have u1:=y6.c1
 have u2:=y6.c2
 have u3:=y6.c3
 have u4:=y6.c4
 have u5:=y6.c5
 replace y6:=hide y6
 replace k6:=hide k6
 replace hI6:=hide hI6
 clear hN hI hk
 go_wp2_with fail
 clear b6 k5 u0 u1 u2 u3 u4 u5
 generalize w5.alloc (.cells #[.int .i64 6,.bool sd,.slice ad ld cd,.slice ap np cp,.bool sk,.slice ak lk ck,.int .i64 vr,.slice kka (ndI s.L id).kids.length kkc] 77)=w6 at*
 generalize w5.heap.size=p at*
 generalize hks:(ndI s.L id).kids=ks at*
 clear hks
 go_loopw [12,13] (fun l i wr=> ∃(t:Nat) (b:Bool),t≤ks.length∧l= .bool b∧i= .int .i64 t∧Hid (Below w6.heap.size w6 wr)∧Hid (∀z∈ks.take t,Fin9 s.L vs z)∧Hid (b=true↔ ∃z∈ks.take t,tv s.L (val1 vs) z)) (fun _ i _=>ks.length-(intOf i).toNat)
 case atStart=>exact⟨0,false,Nat.zero_le _,rfl,rfl,hide (Below.refl _ _),hide (by simp),hide (by simp)⟩
 case round=>
  obtain⟨t,b,ht,rfl,rfl,kr,hfr,hbr⟩:=hrel
  have u7:=(y6.out.below kr.out).c7
  by_cases htn:t<ks.length
  ·rcases(hI6.out.below kr.out).2 with h|⟨b1,o1,rfl,hb1,h1⟩
   ·omega
   obtain⟨e1,i1⟩:=h1 t htn
   have hmem:ks[t]∈ks:=List.getElem_mem htn
   have hk2:=hkk.out ks[t] hmem
   have kw:=grow_step kr.out k6.out
   have hcall:=hide (ih.out ks[t] hk2.1 hk2.2 wr (hE.out.below kw) (hV.out.below kw))
   have hps:Hid (ks.take (t+1)=ks.take t++ [ks[t]]):=hide (List.take_succ_eq_append_getElem htn)
   replace hmem:=hide hmem
   replace hk2:=hide hk2
   generalize ks[t]=kt at*
   clear h1 i1 hb1 kw
   go_wp2_with fail
   refine hcall.out.mono ?_
   rintro e w7 ⟨b2,f2,rfl,k7,hf2,hb2⟩
   have k67:=hide (grow_step k7 kr.out)
   have k07:=hide (grow_step k67.out k6.out)
   clear hcall e1 u7 kr k7
   rcases f2 with _|_
   ·have hend:Hid (TrP w s.L vs id (.returned (.tuple #[.bool false,.bool false])) w7):=hide ⟨false,false,rfl,k07.out,⟨(fun h=>by cases h),fun h=>absurd (hf2.2 ⟨hk2.out.1,hfin9.out.1 h.2 kt hmem.out⟩) (by simp)⟩,fun h=>by cases h⟩
    clear hf2 hb2
    go_wp2_with fail
    refine bodyPost_ret (results_tmp2 rfl _ _ _) rfl ?_
    exact hend.out
   have hfz:=(hf2.1 rfl).2
   have hbz:=hb2 rfl
   have v0:=(y6.out.below k67.out).c0
   have hf3:Hid (∀z∈ks.take (t+1),Fin9 s.L vs z):=hide (by
    rw[hps.out]
    intro z hz
    rcases List.mem_append.1 hz with h|h
    ·exact hfr.out z h
    obtain rfl:=List.mem_singleton.1 h
    exact hfz)
   have hb3:Hid (∀b':Bool,b'=(b||b2)→(b'=true↔ ∃z∈ks.take (t+1),tv s.L (val1 vs) z)):=hide (by
    intro b' hb'
    rw[hps.out,hb',Bool.or_eq_true,hbr.out,hbz]
    simp[List.mem_append,or_and_right,exists_or])
   clear hf2 hb2 hfz hbz hbr hfr
   rcases b with _|_ <;> rcases b2 with _|_
   all_goals
    go_wp2_with fail
    exact⟨⟨t+1,_,by omega,rfl,by go_num,k67,hf3,hide (hb3.out _ rfl)⟩,by simp[intOf];omega⟩
  have htk:ks.take t=ks:=List.take_of_length_le o_m
  have kw:=hide (grow_step kr.out k6.out)
  have hend:Hid (TrP w s.L vs id (.returned (.tuple #[.bool b,.bool true])) wr):=hide ⟨b,true,rfl,kw.out,⟨fun _=>⟨hok.out,hfin9.out.2 (by rw[←htk];exact hfr.out)⟩,fun _=>rfl⟩,fun _=>by rw[htv.out,hbr.out,htk]⟩
  clear htk hfr hbr
  go_wp2_with fail
  refine bodyPost_ret (results_tmp2 rfl _ _ _) rfl ?_
  exact hend.out
end Nt
namespace Nt

theorem truth_0 {w0:World}{pa pm:Nat}{nn kk:Int}{s:St}{F:Nat→Prop}{va:Option Addr}{vn vc:Nat}{vs:List (Int × Int)}{VB:Nat}(id:Int)(hok:okI s.L id)(hk:(ndI s.L id).kind<5)(w:World)(hE:EA w0 w pa pm nn kk s F)(hV:Pr w va vn vs VB)(hvn:vn≤16777216)(hvB:VB≤16777216):Calls Tryz.prog 14 #[.pointer (some ⟨pa,0,none⟩),.int .i64 id,.slice va vn vc] w (TrP w s.L vs id):=by
 have hln:s.L.length≤2002:=by
  have h3:=hE.g.ln
  have h4:=hE.g.cn
  have h5:=hE.g.n2
  omega
 have hnode:=hide (node9_n (B:=1048576) hE.g.ax hE.v hE.k0 (Int.le_trans hE.k8 (by decide)) o_m id)
 have hwk:=hide hE.v.wk
 replace hE:=hide hE
 replace hV:=hide hV
 replace hok:=hide hok
 obtain⟨hfit,hpl2,hnk,-⟩:=hE.out.v.atm hok.out hk
 have hfin9:Hid (Fin9 s.L vs id↔Tot (ndI s.L id).ps vs):=hide ((her_iff hok.out).trans ⟨fun h=>h.1.2.2 hk,fun h=>⟨⟨by omega,by omega,fun _=>h⟩,by rw[hnk];intro z hz;cases hz⟩⟩)
 have htv:Hid (tv s.L (val1 vs) id↔Sat (atmN (ndI s.L id)) (val1 vs)):=hide (tv_atm o_m o_m)
 replace hfit:=hide hfit
 go_enter Tryz.func14,Tryz.ntmps14
 go_wp2_with fail
 refine hnode.out.mono ?_
 clear hnode
 rintro e w5 (⟨_,xr,rfl,hN,k5⟩|⟨hno,_⟩)
 rotate_left
 ·exact absurd hok.out hno
 obtain⟨kdn,sd,ad,ld,cd,ap,np,cp,sk,ak,lk,ck,vr,kka,kkn,kkc⟩:=xr
 obtain rfl:kkn=(ndI s.L id).kids.length:=hN.kids.1.symm
 have hkd:kdn=(ndI s.L id).kind:=hN.kd
 have hI:IL w5 kka (ndI s.L id).kids.length (ndI s.L id).kids:=hN.kids
 simp only[nE]
 have b6:=below_alloc w5 (.cells #[.int .i64 kdn,.bool sd,.slice ad ld cd,.slice ap np cp,.bool sk,.slice ak lk ck,.int .i64 vr,.slice kka (ndI s.L id).kids.length kkc] 77)
 have y6:NB (w5.alloc (.cells #[.int .i64 kdn,.bool sd,.slice ad ld cd,.slice ap np cp,.bool sk,.slice ak lk ck,.int .i64 vr,.slice kka (ndI s.L id).kids.length kkc] 77)) w5.heap.size kdn sd ad ld cd ap np cp sk ak lk ck vr kka (ndI s.L id).kids.length kkc:=NB.new w5 _ _ _ _ _ _ _ _ _ _ _ _ _ _ _ _
 have k6:=grow_step b6 k5
 have hI6:=hI.below b6
 have u0:=y6.c0
 have u1:=y6.c1
 have u2:=y6.c2
 have u3:=y6.c3
 have u4:=y6.c4
 have u5:=y6.c5
 replace y6:=hide y6
 replace k6:=hide k6
 replace hI6:=hide hI6
 have hN6:=NC.below hN b6
 have hnp:np=(ndI s.L id).ps.length:=hN6.pn.1.symm
 have hcall:Hid (Calls Tryz.prog 44 #[.agg #[.int .i64 kdn,.bool sd,.slice ad ld cd,.slice ap np cp,.bool sk,.slice ak lk ck],.slice va vn vc] (w5.alloc (.cells #[.int .i64 kdn,.bool sd,.slice ad ld cd,.slice ap np cp,.bool sk,.slice ak lk ck,.int .i64 vr,.slice kka (ndI s.L id).kids.length kkc] 77)) fun e w'=> ∃b fine:Bool,∃er:Int,e= .returned (.tuple #[.bool b,.int .i64 er])∧(fine=true↔er=0)∧TrP w s.L vs id (.returned (.tuple #[.bool b,.bool fine])) w'):=hide (by
  refine Calls.mono (aholds_n (B:=1048576) hN6.zd.zm hN6.hld hN6.pn.pn.pr hN6.zk.zm hN6.hlk o_m o_m (hV.out.below k6.out) hvn hvB) ?_
  rintro e w2 ⟨qs,hq1,hq2,hq3,k2⟩
  have hqe:qs=(ndI s.L id).ps:=std_unique hq1 hfit.out.std hq2
  have hform:formA kdn (ndI s.L id).d qs (ndI s.L id).k= .inl (atmN (ndI s.L id)):=by rw[hqe,hkd];exact hfit.out.again
  rw[hform]at hq3
  have kk2:=grow_step k2 k6.out
  rcases hq3 with⟨h1,rfl⟩|⟨h1,b,rfl,h2⟩
  ·exact⟨false,false,170,rfl,by simp,false,false,rfl,kk2,⟨(fun h=>by cases h),fun h=>absurd (hfin9.out.1 h.2) h1⟩,fun h=>by cases h⟩
  exact⟨b,true,0,rfl,by simp,b,true,rfl,kk2,⟨fun _=>⟨hok.out,hfin9.out.2 h1⟩,fun _=>rfl⟩,fun _=>h2.trans htv.out.symm⟩)
 have h5: ¬kdn=5:=by omega
 have h6: ¬kdn=6:=by omega
 have h7: ¬kdn=7:=by omega
 have h8: ¬kdn=8:=by omega
 have g5:(kdn==5)=false:=beq_eq_false_iff_ne.2 h5
 have g6:(kdn==6)=false:=beq_eq_false_iff_ne.2 h6
 have g7:(kdn==7)=false:=beq_eq_false_iff_ne.2 h7
 have g8:(kdn==8)=false:=beq_eq_false_iff_ne.2 h8
 have n5:(kdn !=5)=true:=bne_iff_ne.2 h5
 have n6:(kdn !=6)=true:=bne_iff_ne.2 h6
 clear hN hN6 hI hk hkd hnp hpl2 hnk
 go_wp2_with fail
 refine hcall.out.mono ?_
 rintro e w7 ⟨b,fine,er,rfl,hfe,hend⟩
 replace hend:=hide hend
 clear hcall u0 u1 u2 u3 u4 u5
 rcases fine with _|_
 ·have her: ¬er=0:=fun h=>by cases hfe.2 h
  have ger:(er==0)=false:=beq_eq_false_iff_ne.2 her
  clear hfe
  go_wp2_with fail
  refine bodyPost_ret (results_tmp2 rfl _ _ _) rfl ?_
  exact hend.out
 obtain rfl:er=0:=hfe.1 rfl
 clear hfe
 go_wp2_with fail
 refine bodyPost_ret (results_tmp2 rfl _ _ _) rfl ?_
 exact hend.out
theorem truth_7 {w0:World}{pa pm:Nat}{nn kk:Int}{s:St}{F:Nat→Prop}{va:Option Addr}{vn vc:Nat}{vs:List (Int × Int)}(id:Int)(hok:okI s.L id)(hk:(ndI s.L id).kind=7)(w:World)(hE:EA w0 w pa pm nn kk s F):Calls Tryz.prog 14 #[.pointer (some ⟨pa,0,none⟩),.int .i64 id,.slice va vn vc] w (TrP w s.L vs id):=by
 have hln:s.L.length≤2002:=by
  have h3:=hE.g.ln
  have h4:=hE.g.cn
  have h5:=hE.g.n2
  omega
 have hnode:=hide (node9_n (B:=1048576) hE.g.ax hE.v hE.k0 (Int.le_trans hE.k8 (by decide)) o_m id)
 have hwk:=hide hE.v.wk
 replace hE:=hide hE
 replace hok:=hide hok
 have hno:Hid (¬Fin9 s.L vs id):=hide fun h=>by
  have h1:=((her_iff hok.out).1 h).1
  exact h1.1 hk
 go_enter Tryz.func14,Tryz.ntmps14
 go_wp2_with fail
 refine hnode.out.mono ?_
 clear hnode
 rintro e w5 (⟨_,xr,rfl,hN,k5⟩|⟨hno,_⟩)
 rotate_left
 ·exact absurd hok.out hno
 obtain⟨kdn,sd,ad,ld,cd,ap,np,cp,sk,ak,lk,ck,vr,kka,kkn,kkc⟩:=xr
 obtain rfl:kkn=(ndI s.L id).kids.length:=hN.kids.1.symm
 obtain rfl:kdn=7:=hN.kd.trans hk
 have hI:IL w5 kka (ndI s.L id).kids.length (ndI s.L id).kids:=hN.kids
 simp only[nE]
 have b6:=below_alloc w5 (.cells #[.int .i64 7,.bool sd,.slice ad ld cd,.slice ap np cp,.bool sk,.slice ak lk ck,.int .i64 vr,.slice kka (ndI s.L id).kids.length kkc] 77)
 have y6:NB (w5.alloc (.cells #[.int .i64 7,.bool sd,.slice ad ld cd,.slice ap np cp,.bool sk,.slice ak lk ck,.int .i64 vr,.slice kka (ndI s.L id).kids.length kkc] 77)) w5.heap.size 7 sd ad ld cd ap np cp sk ak lk ck vr kka (ndI s.L id).kids.length kkc:=NB.new w5 _ _ _ _ _ _ _ _ _ _ _ _ _ _ _ _
 have k6:=grow_step b6 k5
 have hI6:=hI.below b6
 have u0:=y6.c0
 have u1:=y6.c1
 have u2:=y6.c2
 have u3:=y6.c3
 have u4:=y6.c4
 have u5:=y6.c5
 replace y6:=hide y6
 replace k6:=hide k6
 replace hI6:=hide hI6
 have hend:Hid (TrP w s.L vs id (.returned (.tuple #[.bool false,.bool false])) (w5.alloc (.cells #[.int .i64 7,.bool sd,.slice ad ld cd,.slice ap np cp,.bool sk,.slice ak lk ck,.int .i64 vr,.slice kka (ndI s.L id).kids.length kkc] 77))):=hide ⟨false,false,rfl,k6.out,⟨(fun h=>by cases h),fun h=>absurd h.2 hno.out⟩,fun h=>by cases h⟩
 clear hN hI hk b6 k5
 go_wp2_with fail
 refine bodyPost_ret (results_tmp2 rfl _ _ _) rfl ?_
 exact hend.out
theorem truth_8 {w0:World}{pa pm:Nat}{nn kk:Int}{s:St}{F:Nat→Prop}{va:Option Addr}{vn vc:Nat}{vs:List (Int × Int)}(id:Int)(hok:okI s.L id)(hk:(ndI s.L id).kind=8)(w:World)(hE:EA w0 w pa pm nn kk s F):Calls Tryz.prog 14 #[.pointer (some ⟨pa,0,none⟩),.int .i64 id,.slice va vn vc] w (TrP w s.L vs id):=by
 have hln:s.L.length≤2002:=by
  have h3:=hE.g.ln
  have h4:=hE.g.cn
  have h5:=hE.g.n2
  omega
 have hnode:=hide (node9_n (B:=1048576) hE.g.ax hE.v hE.k0 (Int.le_trans hE.k8 (by decide)) o_m id)
 have hwk:=hide hE.v.wk
 replace hE:=hide hE
 replace hok:=hide hok
 have hno:Hid (¬Fin9 s.L vs id):=hide fun h=>by
  have h1:=((her_iff hok.out).1 h).1
  exact h1.2.1 hk
 go_enter Tryz.func14,Tryz.ntmps14
 go_wp2_with fail
 refine hnode.out.mono ?_
 clear hnode
 rintro e w5 (⟨_,xr,rfl,hN,k5⟩|⟨hno,_⟩)
 rotate_left
 ·exact absurd hok.out hno
 obtain⟨kdn,sd,ad,ld,cd,ap,np,cp,sk,ak,lk,ck,vr,kka,kkn,kkc⟩:=xr
 obtain rfl:kkn=(ndI s.L id).kids.length:=hN.kids.1.symm
 obtain rfl:kdn=8:=hN.kd.trans hk
 have hI:IL w5 kka (ndI s.L id).kids.length (ndI s.L id).kids:=hN.kids
 simp only[nE]
 have b6:=below_alloc w5 (.cells #[.int .i64 8,.bool sd,.slice ad ld cd,.slice ap np cp,.bool sk,.slice ak lk ck,.int .i64 vr,.slice kka (ndI s.L id).kids.length kkc] 77)
 have y6:NB (w5.alloc (.cells #[.int .i64 8,.bool sd,.slice ad ld cd,.slice ap np cp,.bool sk,.slice ak lk ck,.int .i64 vr,.slice kka (ndI s.L id).kids.length kkc] 77)) w5.heap.size 8 sd ad ld cd ap np cp sk ak lk ck vr kka (ndI s.L id).kids.length kkc:=NB.new w5 _ _ _ _ _ _ _ _ _ _ _ _ _ _ _ _
 have k6:=grow_step b6 k5
 have hI6:=hI.below b6
 have u0:=y6.c0
 have u1:=y6.c1
 have u2:=y6.c2
 have u3:=y6.c3
 have u4:=y6.c4
 have u5:=y6.c5
 replace y6:=hide y6
 replace k6:=hide k6
 replace hI6:=hide hI6
 have hend:Hid (TrP w s.L vs id (.returned (.tuple #[.bool false,.bool false])) (w5.alloc (.cells #[.int .i64 8,.bool sd,.slice ad ld cd,.slice ap np cp,.bool sk,.slice ak lk ck,.int .i64 vr,.slice kka (ndI s.L id).kids.length kkc] 77))):=hide ⟨false,false,rfl,k6.out,⟨(fun h=>by cases h),fun h=>absurd h.2 hno.out⟩,fun h=>by cases h⟩
 clear hN hI hk b6 k5
 go_wp2_with fail
 refine bodyPost_ret (results_tmp2 rfl _ _ _) rfl ?_
 exact hend.out
theorem truth_no {w0:World}{pa pm:Nat}{nn kk:Int}{s:St}{F:Nat→Prop}{va:Option Addr}{vn vc:Nat}{vs:List (Int × Int)}(id:Int)(hno: ¬okI s.L id)(w:World)(hE:EA w0 w pa pm nn kk s F):Calls Tryz.prog 14 #[.pointer (some ⟨pa,0,none⟩),.int .i64 id,.slice va vn vc] w (TrP w s.L vs id):=by
 have hln:s.L.length≤2002:=by
  have h3:=hE.g.ln
  have h4:=hE.g.cn
  have h5:=hE.g.n2
  omega
 have hnode:=hide (node9_n (B:=1048576) hE.g.ax hE.v hE.k0 (Int.le_trans hE.k8 (by decide)) o_m id)
 replace hE:=hide hE
 replace hno:=hide hno
 go_enter Tryz.func14,Tryz.ntmps14
 go_wp2_with fail
 refine hnode.out.mono ?_
 clear hnode
 rintro e w5 (⟨hok,_⟩|⟨_,rfl,k5⟩)
 ·exact absurd hok hno.out
 have b6:=below_alloc w5 (.cells #[.int .i64 0,.bool false,.slice none 0 0,.slice none 0 0,.bool false,.slice none 0 0,.int .i64 0,.slice none 0 0] 77)
 have hend:Hid (TrP w s.L vs id (.returned (.tuple #[.bool false,.bool false])) (w5.alloc (.cells #[.int .i64 0,.bool false,.slice none 0 0,.slice none 0 0,.bool false,.slice none 0 0,.int .i64 0,.slice none 0 0] 77))):=hide ⟨false,false,rfl,grow_step b6 k5,⟨(fun h=>by cases h),fun h=>absurd h.1 hno.out⟩,fun h=>by cases h⟩
 simp only[nE,zNR]
 clear b6 k5
 go_wp2_with fail
 refine bodyPost_ret (results_tmp2 rfl _ _ _) rfl ?_
 exact hend.out
theorem truth_n {w0:World}{pa pm:Nat}{nn kk:Int}{s:St}{F:Nat→Prop}{va:Option Addr}{vn vc:Nat}{vs:List (Int × Int)}{VB:Nat}(hvn:vn≤16777216)(hvB:VB≤16777216): ∀(N:Nat) (id:Int),id<(N:Int)→∀w:World,EA w0 w pa pm nn kk s F→Pr w va vn vs VB→Calls Tryz.prog 14 #[.pointer (some ⟨pa,0,none⟩),.int .i64 id,.slice va vn vc] w (TrP w s.L vs id)
 |0,id,h,w,hE,_=>truth_no id (fun ho=>by have:=ho.1;omega) w hE
 |N+1,id,h,w,hE,hV=>by
  by_cases hok:okI s.L id
  ·have hkd:=hE.v.kinds hok
   have ih: ∀id':Int,okI s.L id'→id'<id→∀w:World,EA w0 w pa pm nn kk s F→Pr w va vn vs VB→Calls Tryz.prog 14 #[.pointer (some ⟨pa,0,none⟩),.int .i64 id',.slice va vn vc] w (TrP w s.L vs id'):=fun id' _ h3 w' hE' hV'=>truth_n hvn hvB N id' o_m w' hE' hV'
   rcases(show(ndI s.L id).kind=5∨(ndI s.L id).kind=6∨(ndI s.L id).kind=7∨(ndI s.L id).kind=8∨(ndI s.L id).kind<5 by omega)with hk|hk|hk|hk|hk
   ·exact truth_5 id ih hok hk w hE hV hvn hvB
   ·exact truth_6 id ih hok hk w hE hV hvn hvB
   ·exact truth_7 id hok hk w hE
   ·exact truth_8 id hok hk w hE
   exact truth_0 id hok hk w hE hV hvn hvB
  exact truth_no id hok w hE
end Nt
namespace Nt

theorem finP_app {L L':List Nd}(hl: ∃t,L'=L++t)(vs:List (Int × Int))(y:Int)(ho:okI L y):FinP L' vs y↔FinP L vs y:=by
 obtain⟨t,rfl⟩:=hl
 unfold FinP
 rw[ndI_app ho]
theorem finP_0 {kk:Int}{L:List Nd}(h:Gv kk L)(vs:List (Int × Int)):FinP L vs 0:=by
 unfold FinP
 rw[h.n0]
 exact⟨by simp[cst],by simp[cst],fun _ v hv=>absurd rfl hv⟩
theorem finP_1 {kk:Int}{L:List Nd}(h:Gv kk L)(vs:List (Int × Int)):FinP L vs 1:=by
 unfold FinP
 rw[h.n1]
 exact⟨by simp[cst],by simp[cst],fun _ v hv=>absurd rfl hv⟩
theorem fin_le {L L':List Nd}(hw:Wk L)(hl: ∃t,L'=L++t){vs:List (Int × Int)}{i:Int}(ho:okI L i):Fin9 L' vs i↔Fin9 L vs i:=her_le hw hl (finP_app hl vs) ho
theorem fin_join {nn kk:Int}{s:St}{kd dual idle rul sg:Int}{ids:List Int}{r:St × Int × Int}{vs:List (Int × Int)}(h:SimpR nn kk s kd dual idle rul sg ids r)(hkd:kd=5∨kd=6)(hr:rul=0∨rul=1)(hg:Gv kk s.L)(he:r.2.2=0)(hi: ∀x∈ids,Fin9 s.L vs x):Fin9 r.1.L vs r.2.1:=by
 have hk:=h.kp hkd hr hg
 exact h.her hkd hr hg he (fun y ho=>finP_app hk.le vs y ho) (finP_0 hg vs) (finP_1 hg vs) (fun _ hkk _=>⟨by omega,by omega,fun h=>by omega⟩) hi
theorem fin_pln {L:List Nd}{vs:List (Int × Int)}{i:Int}(h:Fin9 L vs i):Pln L i:=fun y hy=>⟨(h y hy).1,(h y hy).2.1⟩
theorem gv_run {R:List Mk}(hm: ∀m∈R,Sm m):Gv 8 (runW 2000 8 (st0,[0,1]) R).1.L∧∀x∈(runW 2000 8 (st0,[0,1]) R).2,okI (runW 2000 8 (st0,[0,1]) R).1.L x:=by
 have hin:In st0 [0,1]:=⟨by simp,fun x hx=>by
  rcases(show x=0∨x=1 by simpa using hx)with rfl|rfl
  ·exact⟨by decide,by decide⟩
  exact⟨by decide,by decide⟩⟩
 have hgs:=run_gs (nn:=2000) (kk:=8) R (st0_gs 8) hin hm
 have hu:=run_uq (nn:=2000) (kk:=8) (ids:=[0,1]) R st0_uq
 obtain⟨⟨t,ht⟩,_⟩:=run_le 2000 8 R st0 [0,1]
 have h0:(runW 2000 8 (st0,[0,1]) R).1.L[0]? =some (cst 0):=by rw[ht];rfl
 have h1:(runW 2000 8 (st0,[0,1]) R).1.L[1]? =some (cst 1):=by rw[ht];rfl
 exact⟨gv_of hu h0 h1 hgs.1 (by decide) lim_0,fun x hx=>hgs.2.2 x hx⟩
end Nt
namespace Nt

structure MS (w0 wr:World) (pa pm:Nat) (s s':St) (F':Nat→Prop) (a:Option Addr) (n:Nat) (P:List Int):Prop where
 e:EA w0 wr pa pm 2000 8 s' F'
 le: ∃t,s'.L=s.L++t
 il:IL wr a n P
 inf:InF (fun b=>b<wr.heap.size∧¬F' b∧b≠pm) a n
theorem MS.below {w0 w w':World}{pa pm:Nat}{s s':St}{F:Nat→Prop}{a:Option Addr}{n:Nat}{P:List Int}(h:MS w0 w pa pm s s' F a n P)(k:Below w.heap.size w w'):MS w0 w' pa pm s s' F a n P:=
 ⟨h.e.below k,h.le,h.il.below k,h.inf.mono fun _ hb=>⟨Nat.lt_of_lt_of_le hb.1 k.size,hb.2⟩⟩
theorem MS.next {w0 w w':World}{e:Ending}{pa pm:Nat}{s s':St}{F:Nat→Prop}{a:Option Addr}{n:Nat}{P:List Int}{r:St × Int × Int}(h:MS w0 w pa pm s s' F a n P)(ha:AO2 w w' e pa pm 2000 8 F r)(hk:Kp 8 s' r): ∃F',MS w0 w' pa pm s r.1 F' a n P:=by
 obtain⟨F',h1,h2⟩:=h.e.next ha hk.gv
 obtain⟨_,_,_,_,h3⟩:=ha
 obtain⟨t1,e1⟩:=h.le
 obtain⟨t2,e2⟩:=hk.le
 have hs:=h3.size
 refine⟨F',h1,⟨t1++t2,by rw[e2,e1,List.append_assoc]⟩,h.il.but h.inf h3 fun b hb _ hf=>hf.elim hb.2.2 hb.2.1,h.inf.mono fun b hb=>⟨Nat.lt_of_lt_of_le hb.1 hs,fun hf=>(h2 b hf).elim hb.2.1 fun hl=>absurd hb.1 (Nat.not_lt.2 hl),hb.2.2⟩⟩
end Nt
namespace Nt

structure MT (s:St) (vs:List (Int × Int)) (P:List Int) (t:Nat) (b1 b2:Bool):Prop where
 fin: ∀x∈P.take t,Fin9 s.L vs x
 all:b1=true↔ ∀x∈P.take t,tv s.L (val1 vs) x
 one:b2=true↔ ∃x∈P.take t,tv s.L (val1 vs) x
theorem MT.zero (s:St)(vs:List (Int × Int))(P:List Int):MT s vs P 0 true false:=⟨by simp,by simp,by simp⟩
theorem MT.step {s:St}{vs:List (Int × Int)}{P:List Int}{t:Nat}{b1 b2 b:Bool}(h:MT s vs P t b1 b2)(ht:t<P.length)(hf:Fin9 s.L vs P[t])(hb:b=true↔tv s.L (val1 vs) P[t]):MT s vs P (t+1) (b1&&b) (b2||b):=by
 have hps:P.take (t+1)=P.take t++ [P[t]]:=List.take_succ_eq_append_getElem ht
 have hm: ∀x,x∈P.take (t+1)↔x∈P.take t∨x=P[t]:=fun x=>by rw[hps];simp only[List.mem_append,List.mem_singleton]
 refine⟨fun x hx=> ?_,?_,?_⟩
 ·rw[hps]at hx
  rcases List.mem_append.1 hx with h1|h1
  ·exact h.fin x h1
  obtain rfl:=List.mem_singleton.1 h1
  exact hf
 ·rw[Bool.and_eq_true,h.all,hb]
  simp only[hm,or_imp,forall_and,forall_eq]
 rw[Bool.or_eq_true,h.one,hb]
 simp only[hm,or_and_right,exists_or,exists_eq_left]
theorem opp_bool {L L':List Nd}{kk kk':Int}{vs:List (Int × Int)}{x y:Int}{b b':Bool}(hg:Gv kk L)(hg':Gv kk' L')(hl: ∃t,L'=L++t)(hx:okI L x)(hf:Fin9 L vs x)(hj:OppJ L' x y)(hb:b=true↔tv L (val1 vs) x)(hb':b'=true↔tv L' (val1 vs) y):b'= !b:=by
 have h1:=hj (fin_pln ((fin_le hg.wk hl hx).2 hf)) (val1 vs)
 rw[tv_le hg.wk hg'.wk hl hx,←hb,←hb']at h1
 clear hb hb'
 rcases b with _|_ <;> rcases b' with _|_ <;> simp at h1 ⊢
theorem sam_bool {L L':List Nd}{kk kk':Int}{vs:List (Int × Int)}{x y:Int}{b b':Bool}(hg:Gv kk L)(hg':Gv kk' L')(hl: ∃t,L'=L++t)(hx:okI L x)(hf:Fin9 L vs x)(hj:SamJ L' x y)(hb:b=true↔tv L (val1 vs) x)(hb':b'=true↔tv L' (val1 vs) y):b'=b:=by
 have h1:=hj.1 (fin_pln ((fin_le hg.wk hl hx).2 hf)) (val1 vs)
 rw[tv_le hg.wk hg'.wk hl hx,←hb,←hb']at h1
 clear hb hb'
 rcases b with _|_ <;> rcases b' with _|_ <;> simp at h1 ⊢
theorem MS.at {w0 wr:World}{pa pm:Nat}{s s':St}{F':Nat→Prop}{b o:Nat}{P:List Int}(h:MS w0 wr pa pm s s' F' (some ⟨b,o,none⟩) P.length P){t:Nat}(ht:t<P.length):wr.cell? ⟨b,o+t,none⟩=some (.int .i64 P[t]):=by
 rcases h.il.2 with h0|⟨b1,o1,e,_,h2⟩
 ·omega
 cases e
 exact(h2 t ht).1
theorem ok_ms {w0 wr:World}{pa pm:Nat}{s s':St}{F':Nat→Prop}{a:Option Addr}{n:Nat}{P:List Int}(h:MS w0 wr pa pm s s' F' a n P){x:Int}(hx:okI s.L x):okI s'.L x:=by
 obtain⟨t,ht⟩:=h.le
 rw[ht]
 exact okI_app hx
end Nt
namespace Nt

theorem ml_sm9 {w:World}{ad:Option Addr}{n:Nat}{R:List Mk}{B:Nat}(h:ML w ad n R B): ∀m∈R,Sm m:=by
 intro m hm
 obtain⟨i,hi,rfl⟩:=List.getElem_of_mem hm
 rcases h.2 with h0|⟨b,off,_,_,h2⟩
 ·have:=h.1
  omega
 obtain⟨sd,ad,ld,cd,ap,np,cp,sk,ak,lk,ck,ka,kn,kc,_,_,_,hP,hnp,_⟩:=h2 i hi
 have h3:(R[i].xp).length=np:=hP.1
 have h4:=std_len (std_lays R[i].xp) fun v=>csum_nzl R[i].xp v
 unfold Sm
 omega
end Nt
end Go.Proofs.YtllfelooahplhaaGreatDoor

namespace Go.Proofs.YtllfelooahplhaaGreatDoor
open Go.RowKit Go.Sort Go.Shelf
open Tm At
open Nt

theorem ofK_mem {ks ids:List Int}(h0:ids≠ []): ∀x∈pickL ks ids,x∈ids:=by
 intro x hx
 unfold pickL at hx
 obtain⟨k,_,rfl⟩:=List.mem_map.1 hx
 have hpk:=pick_lt k (n:=(ids.length:Int)) (by have:=List.length_pos_iff.2 h0;omega)
 unfold ofK
 rw[List.getD_eq_getElem?_getD,List.getElem?_eq_getElem o_m]
 exact List.getElem_mem _
theorem simpMeans_walk {w:World}{ad1:Option Addr}{n1 c1:Nat}{R1:List Mk}{B:Nat}{ka:Option Addr}{kn kc:Nat}{ks:List Int}{va:Option Addr}{vn vc:Nat}{vs:List (Int × Int)}(h1:ML w ad1 n1 R1 B)(hS: ∀m∈R1,Sm m)(hn1:n1≤1048576)(hB:B≤1048576)(hI:IL w ka kn ks)(hkn:kn≤1048576)(hV:Pr w va vn vs B)(hvn:vn≤1048576)(htab:Tab w):
  Calls Tryz.prog 3 #[.slice ad1 n1 c1,.slice ka kn kc,.slice va vn vc] w fun e w'=>e= .returned (.bool true)∧Below w.heap.size w w':=by
 replace hS:=hide hS
 replace hI:=hide hI
 replace hV:=hide hV
 replace h1:=hide h1
 go_enter Tryz.func3,Tryz.ntmps3
 go_wp2_with fail
 refine(awake9_n htab).mono ?_
 rintro e w1 ⟨rfl,k1⟩
 have ht1:=hide (htab.below k1)
 replace htab:=hide htab
 go_wp2_with fail
 refine(new_ag ht1.out).mono ?_
 rintro e w2 ⟨pa,pm,Fa,rfl,hGa,hFa,hpm,k2⟩
 have k12:=hide (grow_step k2 k1)
 have s1:=k1.size
 replace hGa:=hide hGa
 have iA:Hid (∀b,Fa b→w.heap.size≤b):=hide fun b hb=>by have:=hFa b hb;omega
 replace hpm:w.heap.size≤pm:=by omega
 have hp2:=hGa.out.mb.lt
 clear k1 k2 ht1 hFa s1
 go_wp2_with fail
 refine(built_n (nn:=2000) (kk:=8) (s:=st0) hGa.out iA.out hpm (by decide) h1.out hn1 hB k12.out htab.out).mono ?_
 rintro e w3 ⟨ax,cx,F3,rfl,hIx,hfx,hG3,hF3,hB3⟩
 have hrun:=hide (gv_run (R:=R1.take 40) fun m hm=>hS.out m (List.mem_of_mem_take hm))
 have hlen:=run_len 2000 8 (R1.take 40) (st0,[0,1])
 have hl40:(R1.take 40).length≤40:=by rw[List.length_take];omega
 have hne:Hid ((runW 2000 8 (st0,[0,1]) (R1.take 40)).2≠ []):=hide (run_gs (nn:=2000) (kk:=8) (R1.take 40) (st0_gs 8) (st0_in 0 0) fun m hm=>hS.out m (List.mem_of_mem_take hm)).2.1
 generalize runW 2000 8 (st0,[0,1]) (R1.take 40)=ra at*
 obtain⟨s,ids⟩:=ra
 dsimp only at*
 have hE3:Hid (EA w w3 pa pm 2000 8 s F3):=hide ⟨hG3,hrun.out.1,fun b hb=>(hF3 b hb).elim (iA.out b) fun h=>Nat.le_trans k12.out.size h,hpm,k12.out.trans (hB3.below (fun b hb=>hb.elim (fun e=>by omega) (iA.out b)) k12.out.size),htab.out,by decide,by decide⟩
 have hl2:ids.length≤1000:=by simp at hlen;omega
 replace hIx:=hide hIx
 clear hGa iA hp2 hB3 hF3 hG3 hfx hlen hl40 hS h1 k12 htab
 go_wp2_with fail
 refine(picked_n (ids:=ids) (hI.out.below hE3.out.k) hkn hIx.out hne.out hl2).mono ?_
 rintro e w4 ⟨v4,rfl,hrow,k4⟩
 have hok:Hid (∀x∈pickL ks ids,okI s.L x):=hide fun x hx=>hrun.out.2 x (ofK_mem hne.out x hx)
 have hE4:=hE3.out.below k4
 have hln:s.L.length≤2002:=by
  have h3:=hE4.g.ln
  have h4:=hE4.g.cn
  have h5:=hE4.g.n2
  omega
 have hx64: ∀x∈pickL ks ids,I64 x:=fun x hx=>by
  have:=hok.out x hx
  unfold okI at this
  unfold I64
  omega
 obtain⟨a4,c4,rfl,hI4,hN4⟩:=row_il hrow hx64
 have hfl3:=hE3.out.g.fl
 have hpl3:=hE3.out.g.mb.lt
 have hMS:Hid (MS w w4 pa pm s s F3 a4 (pickL ks ids).length (pickL ks ids)):=hide ⟨hE4,⟨[],by simp⟩,hI4,fun b off e h0=>⟨il_lt hI4 e h0,fun hf=>by have h5:=hfl3 b hf;have h6:=hN4 b off e h0;omega,fun hp=>by have h6:=hN4 b off e h0;omega⟩⟩
 have hsg:=hide hrun.out.1
 have hPl:(pickL ks ids).length≤12:=by unfold pickL;rw[List.length_map,List.length_take];omega
 clear hrow hI4 hN4 hE4 hE3 hIx hne hrun k4 hfl3 hpl3 hx64 hI hl2 hkn
 generalize pickL ks ids=P at*
 go_wp2_with fail
 go_loopw [11,12,13] (fun al on i wr=> ∃(t:Nat) (b1 b2:Bool) (s':St) (F':Nat→Prop),t≤P.length∧al= .bool b1∧on= .bool b2∧i= .int .i64 t∧Hid (MS w wr pa pm s s' F' a4 P.length P)∧Hid (MT s vs P t b1 b2)) (fun _ _ i _=>P.length-(intOf i).toNat)
 case atStart=>exact⟨0,true,false,s,F3,Nat.zero_le _,rfl,rfl,rfl,hMS,hide (MT.zero s vs P)⟩
 case round=>
  obtain⟨t,b1,b2,s',F',ht,rfl,rfl,rfl,hM,hT⟩:=hrel
  by_cases htn:t<P.length
  ·rcases hM.out.il.2 with h|⟨b0,o0,rfl,_⟩
   ·omega
   have hxo:Hid (okI s.L P[t]):=hide (hok.out _ (List.getElem_mem htn))
   have e1:=hM.out.at htn
   have hli:=hide (light_n (P[t].toNat+1) P[t] o_m (ok_ms hM.out hxo.out) 3000 wr (by decide) (by decide) hM.out.e)
   go_wp2_with fail
   refine hli.out.mono ?_
   rintro e wA ⟨r,rfl,hr0,hr1,kA⟩
   replace hM:=hide (hM.out.below kA)
   clear hli kA e1
   by_cases hr:r≤0
   ·have hend:=hide hM.out.e.k
    clear hM hT
    go_wp2_with fail
    go_ret
    exact⟨rfl,hend.out⟩
   have e1:=hM.out.at htn
   have htr:=hide (Nt.truth_n (vc:=vc) (VB:=B) o_m o_m (P[t].toNat+1) P[t] o_m wA hM.out.e (hV.out.below hM.out.e.k))
   go_wp2_with fail
   refine htr.out.mono ?_
   rintro e wB ⟨b,fine,rfl,kB,hf,hb⟩
   replace hM:=hide (hM.out.below kB)
   clear htr kB e1
   rcases fine with _|_
   ·have hend:=hide hM.out.e.k
    clear hM hT hf hb
    go_wp2_with fail
    go_ret
    exact⟨rfl,hend.out⟩
   have hfx:=hide ((fin_le hsg.out.wk hM.out.le hxo.out).1 (hf.1 rfl).2)
   have hbx:=hide ((hb rfl).trans (tv_le hsg.out.wk hM.out.e.v.wk hM.out.le hxo.out))
   have hT2:=hide (MT.step hT.out htn hfx.out hbx.out)
   have h64:I64 P[t]:=by
    have h5:=hxo.out.1
    have h6:=hxo.out.2
    unfold I64
    omega
   clear hf hb hT
   have e1:=hM.out.at htn
   have hng:=hide (negate_n hM.out.e h64)
   go_wp2_with fail
   refine hng.out.mono ?_
   rintro e wC ⟨⟨q1,o1,er1⟩,ha1,hk1,hj1,-,-⟩
   obtain⟨FC,hMC⟩:=hM.out.next ha1 hk1
   obtain⟨rfl,-⟩:=ha1
   dsimp only at hMC hj1 ⊢
   have htr2:=hide (Nt.truth_n (vc:=vc) (VB:=B) o_m o_m (o1.toNat+1) o1 o_m wC hMC.e (hV.out.below hMC.e.k))
   replace hj1:=hide hj1
   replace hMC:=hide hMC
   clear hng e1 hM hk1
   go_wp2_with fail
   refine htr2.out.mono ?_
   rintro e wD ⟨bo,fo,rfl,kD,-,hbo⟩
   have hop:Hid (er1=0→fo=true→bo= !b):=hide fun he hfo'=>opp_bool hsg.out hMC.out.e.v hMC.out.le hxo.out hfx.out (hj1.out he) hbx.out (hbo hfo')
   have hM2:=hide (hMC.out.below kD)
   clear htr2 kD hbo hMC hj1
   have e1:=hM2.out.at htn
   have hag:=hide (again_n hM2.out.e h64)
   go_wp2_with fail
   refine hag.out.mono ?_
   rintro e wE ⟨⟨q2,o2,er2⟩,ha2,hk2,hj2,-,-⟩
   obtain⟨FE,hME⟩:=hM2.out.next ha2 hk2
   obtain⟨rfl,-⟩:=ha2
   dsimp only at hME hj2 ⊢
   have htr3:=hide (Nt.truth_n (vc:=vc) (VB:=B) o_m o_m (o2.toNat+1) o2 o_m wE hME.e (hV.out.below hME.e.k))
   replace hj2:=hide hj2
   replace hME:=hide hME
   clear hag e1 hM2 hk2
   go_wp2_with fail
   refine htr3.out.mono ?_
   rintro e wF ⟨bs,fs,rfl,kF,-,hbs⟩
   have hsm:Hid (er2=0→fs=true→bs=b):=hide fun he hfs'=>sam_bool hsg.out hME.out.e.v hME.out.le hxo.out hfx.out (hj2.out he) hbx.out (hbs hfs')
   have hM3:=hide (hME.out.below kF)
   clear htr3 kF hbs hME hj2 hfx hbx h64 hxo
   by_cases he1:er1=0
   ·subst he1
    by_cases he2:er2=0
    ·subst he2
     rcases fo with _|_ <;> rcases fs with _|_
     ·clear hop hsm
      rcases b with _|_ <;> rcases b1 with _|_ <;> rcases b2 with _|_
      all_goals
       go_wp2_with fail
       exact⟨⟨t+1,_,_,_,_,by omega,rfl,rfl,by go_num,hM3,hT2⟩,by simp[intOf];omega⟩
     ·obtain rfl:=hsm.out rfl rfl
      clear hop hsm
      rcases bs with _|_ <;> rcases b1 with _|_ <;> rcases b2 with _|_
      all_goals
       go_wp2_with fail
       exact⟨⟨t+1,_,_,_,_,by omega,rfl,rfl,by go_num,hM3,hT2⟩,by simp[intOf];omega⟩
     ·obtain rfl:=hop.out rfl rfl
      clear hop hsm
      rcases b with _|_ <;> rcases b1 with _|_ <;> rcases b2 with _|_
      all_goals
       go_wp2_with fail
       exact⟨⟨t+1,_,_,_,_,by omega,rfl,rfl,by go_num,hM3,hT2⟩,by simp[intOf];omega⟩
     obtain rfl:=hop.out rfl rfl
     obtain rfl:=hsm.out rfl rfl
     clear hop hsm
     rcases bs with _|_ <;> rcases b1 with _|_ <;> rcases b2 with _|_
     all_goals
      go_wp2_with fail
      exact⟨⟨t+1,_,_,_,_,by omega,rfl,rfl,by go_num,hM3,hT2⟩,by simp[intOf];omega⟩
    have ne2:(er2 !=0)=true:=bne_iff_ne.2 he2
    have hend:=hide hM3.out.e.k
    clear hM3 hT2 hop hsm
    go_wp2_with fail
    go_ret
    exact⟨rfl,hend.out⟩
   have ne1:(er1 !=0)=true:=bne_iff_ne.2 he1
   have hend:=hide hM3.out.e.k
   clear hM3 hT2 hop hsm
   go_wp2_with fail
   go_ret
   exact⟨rfl,hend.out⟩
  have htk:P.take t=P:=List.take_of_length_le o_m
  have hTf:=hT.out.fin
  have hTa:=hT.out.all
  have hTo:=hT.out.one
  rw[htk]at hTf hTa hTo
  replace hTf:=hide hTf
  replace hTa:=hide hTa
  replace hTo:=hide hTo
  have hand:=hide (and9_n (kc:=c4) (ids:=P) hM.out.e.g hM.out.e.v hM.out.e.k0 (by decide) hM.out.il o_m hM.out.e.tab)
  clear hT htk
  go_wp2_with fail
  refine hand.out.mono ?_
  rintro e wA ⟨⟨sA,oA,eA⟩,hsA,haA⟩
  have hkA:=hsA.kp (.inl rfl) (.inl rfl) hM.out.e.v
  obtain⟨FA,hMA⟩:=hM.out.next haA hkA
  have hresA:Hid (eA=0→okI sA.L oA∧Fin9 sA.L vs oA∧(tv sA.L (val1 vs) oA↔b1=true)):=hide fun he=>⟨hkA.ok he,fin_join hsA (.inl rfl) (.inl rfl) hM.out.e.v he (fun x hx=>(fin_le hsg.out.wk hM.out.le (hok.out x hx)).2 (hTf.out x hx)),(and_tv hsA hM.out.e.v he _).trans ((forall_congr' fun x=>forall_congr' fun hx=>tv_le hsg.out.wk hM.out.e.v.wk hM.out.le (hok.out x hx)).trans hTa.out.symm)⟩
  obtain⟨rfl,-⟩:=haA
  dsimp only at hMA ⊢
  replace hMA:=hide hMA
  clear hand hsA hkA hM
  have hor:=hide (or9_n (kc:=c4) (ids:=P) hMA.out.e.g hMA.out.e.v hMA.out.e.k0 (by decide) hMA.out.il o_m hMA.out.e.tab)
  go_wp2_with fail
  refine hor.out.mono ?_
  rintro e wB ⟨⟨sB,oB,eB⟩,hsB,haB⟩
  have hkB:=hsB.kp (.inr rfl) (.inr rfl) hMA.out.e.v
  obtain⟨FB,hMB⟩:=hMA.out.next haB hkB
  have hresB:Hid (eB=0→okI sB.L oB∧Fin9 sB.L vs oB∧(tv sB.L (val1 vs) oB↔b2=true)):=hide fun he=>⟨hkB.ok he,fin_join hsB (.inr rfl) (.inr rfl) hMA.out.e.v he (fun x hx=>(fin_le hsg.out.wk hMA.out.le (hok.out x hx)).2 (hTf.out x hx)),(or_tv hsB hMA.out.e.v he _).trans ((exists_congr fun x=>and_congr_right fun hx=>tv_le hsg.out.wk hMA.out.e.v.wk hMA.out.le (hok.out x hx)).trans hTo.out.symm)⟩
  have hresA2:Hid (eA=0→okI sB.L oA∧Fin9 sB.L vs oA∧(tv sB.L (val1 vs) oA↔b1=true)):=hide fun he=>by
   obtain⟨h5,h6,h7⟩:=hresA.out he
   have hle: ∃t,sB.L=sA.L++t:=hkB.le
   exact⟨by obtain⟨t,e⟩:=hle;rw[e];exact okI_app h5,(fin_le hMA.out.e.v.wk hle h5).2 h6,(tv_le hMA.out.e.v.wk hkB.gv.wk hle h5).trans h7⟩
  obtain⟨rfl,-⟩:=haB
  dsimp only at hMB ⊢
  replace hMB:=hide hMB
  clear hor hsB hkB hMA hresA hTf hTa hTo
  have htr:=hide (Nt.truth_n (vc:=vc) (VB:=B) o_m o_m (oA.toNat+1) oA o_m wB hMB.out.e (hV.out.below hMB.out.e.k))
  go_wp2_with fail
  refine htr.out.mono ?_
  rintro e wC ⟨bA,fA,rfl,kC,hfA,hbA⟩
  have hA:Hid (eA=0→fA=true∧bA=b1):=hide fun he=>by
   obtain⟨h5,h6,h7⟩:=hresA2.out he
   have h8:=hfA.2 ⟨h5,h6⟩
   exact⟨h8,Bool.eq_iff_iff.2 ((hbA h8).trans h7)⟩
  have hMC:=hide (hMB.out.below kC)
  clear htr kC hfA hbA hMB hresA2
  have htr:=hide (Nt.truth_n (vc:=vc) (VB:=B) o_m o_m (oB.toNat+1) oB o_m wC hMC.out.e (hV.out.below hMC.out.e.k))
  go_wp2_with fail
  refine htr.out.mono ?_
  rintro e wD ⟨bB,fB,rfl,kD,hfB,hbB⟩
  have hB2:Hid (eB=0→fB=true∧bB=b2):=hide fun he=>by
   obtain⟨h5,h6,h7⟩:=hresB.out he
   have h8:=hfB.2 ⟨h5,h6⟩
   exact⟨h8,Bool.eq_iff_iff.2 ((hbB h8).trans h7)⟩
  have hend:=hide (hMC.out.below kD).e.k
  clear htr kD hfB hbB hMC hresB
  by_cases he1:eA=0
  ·subst he1
   obtain⟨rfl,rfl⟩:=hA.out rfl
   by_cases he2:eB=0
   ·subst he2
    obtain⟨rfl,rfl⟩:=hB2.out rfl
    clear hA hB2
    rcases bA with _|_ <;> rcases bB with _|_
    all_goals
     go_wp2_with fail
     go_ret
     exact⟨rfl,hend.out⟩
   have ne2:(eB !=0)=true:=bne_iff_ne.2 he2
   clear hA hB2
   rcases bA with _|_
   all_goals
    go_wp2_with fail
    go_ret
    exact⟨rfl,hend.out⟩
  have ne1:(eA !=0)=true:=bne_iff_ne.2 he1
  by_cases he2:eB=0
  ·subst he2
   obtain⟨rfl,rfl⟩:=hB2.out rfl
   clear hA hB2
   rcases bB with _|_
   all_goals
    go_wp2_with fail
    go_ret
    exact⟨rfl,hend.out⟩
  have ne2:(eB !=0)=true:=bne_iff_ne.2 he2
  clear hA hB2
  go_wp2_with fail
  go_ret
  exact⟨rfl,hend.out⟩
end Go.Proofs.YtllfelooahplhaaGreatDoor
