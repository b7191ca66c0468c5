/-
 Layer 18: rows taken together,copied; the remainders that are not in a row; a row by a multiple.
-/
import Derived.Test.YtaafoppaepcaeaaGreatCd10
import Derived.Laws.CopyOwn
set_option maxRecDepth 100000
set_option maxHeartbeats 1600000
namespace Go.Proofs.YtaafoppaepcaeaaGreat
open Go.RowKit
namespace Pd

variable {xa xb xs:List Int}{n b:Nat}{w:World}
def zk (op:Int→Int→Int)(xa xb xs:List Int)(k:Nat):List Int:=zipB op xa xb k++xs.drop k
theorem zk_set {op:Int→Int→Int}{k:Nat}(h:k<xs.length):(zk op xa xb xs k).set k (op (lz xa k) (lz xb k))=zk op xa xb xs (k+1):=by
 unfold zk
 rw[List.set_append_right _ _ (by rw[zip_len];omega),zip_len,Nat.sub_self,List.drop_eq_getElem_cons h,List.set_cons_zero]
 unfold zipB
 rw[List.range_succ,List.map_append]
 simp
theorem zk_len {op:Int→Int→Int}{k:Nat}(h:k≤xs.length):(zk op xa xb xs k).length=xs.length:=by
 unfold zk
 rw[List.length_append,zip_len,List.length_drop]
 omega
theorem zk_all {op:Int→Int→Int}(h:xs.length=n):zk op xa xb xs n=zipB op xa xb n:=by
 unfold zk
 rw[List.drop_eq_nil_of_le o_m,List.append_nil]
theorem both_n {ba bb:Nat}(h:RB w b xs)(ha:RB w ba xa)(hb:RB w bb xb)(hn:xs.length=n)(hna:xa.length=n)(hnb:xb.length=n)(hn2:n≤65)(n1:ba≠b)(n2:bb≠b):
  Calls Tryz.prog 58 #[.slice (some ⟨b,0,none⟩) n n,.slice (some ⟨ba,0,none⟩) n n,.slice (some ⟨bb,0,none⟩) n n] w fun e w'=>e= .returned (.tuple #[])∧RB w' b (zipB (bits .and .u64) xa xb n)∧Only b w w':=by
 have HN:=hide (And.intro hn (And.intro hna hnb))
 clear hn hna hnb
 go_enter Tryz.func58,Tryz.ntmps58
 go_wp2_with fail
 go_loopw [9] (fun i wr=> ∃k:Nat,k≤n∧i= .int .i64 k∧RB wr b (zk (bits .and .u64) xa xb xs k)∧Only b w wr) (fun i _=>n-(intOf i).toNat)
 case atStart=>exact⟨0,Nat.zero_le _,rfl,h,Only.refl _ _⟩
 case round=>
  obtain⟨k,hk,rfl,hr,ho⟩:=hrel
  have hzl:=hide (zk_len (op:=bits .and .u64) (xa:=xa) (xb:=xb) (xs:=xs) (k:=k) (by have:=HN.out;omega))
  by_cases hkn:k<n
  ·have c1:=(ha.only ho n1).cell (i:=k) (by have:=HN.out;omega)
   have c2:=(hb.only ho n2).cell (i:=k) (by have:=HN.out;omega)
   have c3:=hr.cell (i:=k) (by rw[hzl.out];have:=HN.out;omega)
   have c4:=hr.frozen k
   have hs:=hide (hr.set k (bits .and .u64 (lz xa k) (lz xb k)))
   rw[zk_set (by have:=HN.out;omega)]at hs
   generalize lz xa k=za at*
   generalize lz xb k=zb at*
   clear hr
   go_wp2_with fail
   go_region
   have hs2:RB (wr.setCell ⟨b,k,none⟩ (.int .u64 (bits .and .u64 za zb))).drew b (zk (bits .and .u64) xa xb xs (k+1)):=hs.out
   have ho2:=ho.trans ((Only.set b k wr (.int .u64 (bits .and .u64 za zb))).trans (Only.drew _ _))
   generalize (wr.setCell ⟨b,k,none⟩ (.int .u64 (bits .and .u64 za zb))).drew=wn' at*
   clear hs c1 c2 c3 c4
   go_wp2
   go_roundw
   case measure=>simp[intOf];omega
   case rel=>exact⟨k+1,by omega,by go_num,hs2,ho2⟩
  obtain rfl:k=n:=by omega
  rw[zk_all HN.out.1]at hr
  go_wp2
  go_end0
  exact⟨rfl,hr,ho⟩
theorem either_n {ba bb:Nat}(h:RB w b xs)(ha:RB w ba xa)(hb:RB w bb xb)(hn:xs.length=n)(hna:xa.length=n)(hnb:xb.length=n)(hn2:n≤65)(n1:ba≠b)(n2:bb≠b):
  Calls Tryz.prog 59 #[.slice (some ⟨b,0,none⟩) n n,.slice (some ⟨ba,0,none⟩) n n,.slice (some ⟨bb,0,none⟩) n n] w fun e w'=>e= .returned (.tuple #[])∧RB w' b (zipB (bits .or .u64) xa xb n)∧Only b w w':=by
 have HN:=hide (And.intro hn (And.intro hna hnb))
 clear hn hna hnb
 go_enter Tryz.func59,Tryz.ntmps59
 go_wp2_with fail
 go_loopw [9] (fun i wr=> ∃k:Nat,k≤n∧i= .int .i64 k∧RB wr b (zk (bits .or .u64) xa xb xs k)∧Only b w wr) (fun i _=>n-(intOf i).toNat)
 case atStart=>exact⟨0,Nat.zero_le _,rfl,h,Only.refl _ _⟩
 case round=>
  obtain⟨k,hk,rfl,hr,ho⟩:=hrel
  have hzl:=hide (zk_len (op:=bits .or .u64) (xa:=xa) (xb:=xb) (xs:=xs) (k:=k) (by have:=HN.out;omega))
  by_cases hkn:k<n
  ·have c1:=(ha.only ho n1).cell (i:=k) (by have:=HN.out;omega)
   have c2:=(hb.only ho n2).cell (i:=k) (by have:=HN.out;omega)
   have c3:=hr.cell (i:=k) (by rw[hzl.out];have:=HN.out;omega)
   have c4:=hr.frozen k
   have hs:=hide (hr.set k (bits .or .u64 (lz xa k) (lz xb k)))
   rw[zk_set (by have:=HN.out;omega)]at hs
   generalize lz xa k=za at*
   generalize lz xb k=zb at*
   clear hr
   go_wp2_with fail
   go_region
   have hs2:RB (wr.setCell ⟨b,k,none⟩ (.int .u64 (bits .or .u64 za zb))).drew b (zk (bits .or .u64) xa xb xs (k+1)):=hs.out
   have ho2:=ho.trans ((Only.set b k wr (.int .u64 (bits .or .u64 za zb))).trans (Only.drew _ _))
   generalize (wr.setCell ⟨b,k,none⟩ (.int .u64 (bits .or .u64 za zb))).drew=wn' at*
   clear hs c1 c2 c3 c4
   go_wp2
   go_roundw
   case measure=>simp[intOf];omega
   case rel=>exact⟨k+1,by omega,by go_num,hs2,ho2⟩
  obtain rfl:k=n:=by omega
  rw[zk_all HN.out.1]at hr
  go_wp2
  go_end0
  exact⟨rfl,hr,ho⟩
theorem size64 :(Tryz.prog.info? 111).map (·.size)=some 1:=by kernel_rfl
theorem copy_w {g:Nat}{cur:List Int}(hg:RB w g cur)(h:RB w b xs)(hc:cur.length=n)(hn:xs.length=n)(ty:TypeId):
  ∃w',(Builtin.copy_ #[74,74] ty #[.slice (some ⟨g,0,none⟩) n n,.slice (some ⟨b,0,none⟩) n n]).run Tryz.prog w= .ok (goInt n) w'∧RB w' g xs∧Only g w w':=by
 have hlen:(xs.map (Value.int .u64)).length=Nat.min n n:=by
  rw[List.length_map,hn];exact(Nat.min_self n).symm
 have hr:=run_copy_row (P:=Tryz.prog) w 74 74 ty 111 g 0 n n ⟨b,0,none⟩ n n (Uw cur) 111 (xs.map (Value.int .u64)) Tryz.underlying74 size64 hg hlen
  (fun j v hv=>by
   rw[Addr.add_lit,Nat.zero_add,cell_of_row w b j (Uw xs) 111 (0,0) h]
   simpa [Uw] using hv)
  (by rw[Uw_size,List.length_map];omega)
  (fun u hu=>by obtain⟨z,_,rfl⟩:=List.mem_map.1 hu;rfl)
 rw[List.length_map,hn]at hr
 refine⟨_,hr,?_,⟨rfl,rfl,rfl,by simp,fun k hk=>setRow_other w g k _ hk⟩⟩
 have:=setRow_heap w g (Uw cur) ((Uw cur).toList.take 0++xs.map (Value.int .u64)++(Uw cur).toList.drop (0+n)).toArray 111 (0,0) hg
 rw[RB,this]
 have e:(Uw cur).toList.drop (0+n)= []:=List.drop_eq_nil_of_le (by simp[Uw];omega)
 rw[e]
 simp[Uw]
theorem copied_n (h:RB w b xs)(hn:xs.length=n)(hn2:n≤65):
  Calls Tryz.prog 138 #[.slice (some ⟨b,0,none⟩) n n] w fun e w'=>e= .returned (.slice (some ⟨w.heap.size,0,none⟩) n n)∧RB w' w.heap.size xs∧Below w.heap.size w w'∧w'.heap.size=w.heap.size+1:=by
 have hmk:=run_mkW n o_m
 obtain⟨w',hcp,hr,ho⟩:=copy_w (rb_new w (List.replicate n 0)) (h.below (below_alloc w _)) List.length_replicate hn 3
 have hfin:Hid (RB w' w.heap.size xs∧Below w.heap.size w w'∧w'.heap.size=w.heap.size+1):=hide ⟨hr,(below_alloc w _).trans (ho.below (Nat.le_refl _)),by rw[ho.size];simp⟩
 clear hr ho
 go_enter Tryz.func138,Tryz.ntmps138
 go_wp2
 exact bodyPost_ret (results_tmp rfl _ _ _) rfl ⟨rfl,hfin.out⟩
theorem others_n {p:Nat}(h:RB w b xs)(hR:Rok p xs)(h1:1≤p)(h2:p≤4096):
  Calls Tryz.prog 81 #[.slice (some ⟨b,0,none⟩) (wn p) (wn p),.int .i64 p] w fun e w'=> ∃ys,e= .returned (.slice (some ⟨w.heap.size,0,none⟩) (wn p) (wn p))∧RB w' w.heap.size ys∧Below w.heap.size w w'∧Rok p ys∧∀j,j<p→hb ys j= !hb xs j:=by
 have hnr:=hide (newRow_n h2 w)
 have hnn:Hid (wn p≤64):=hide (by unfold wn;omega)
 have hln:=hide hR.len
 have hws:=hide hR.ws
 go_enter Tryz.func81,Tryz.ntmps81
 go_wp2_with fail
 refine hnr.out.mono ?_
 rintro e w0 ⟨rfl,rfl⟩
 clear hnr
 have k0:=hide (below_alloc w (.cells (Uw (List.replicate (wn p) 0)) 111))
 have y0:=hide (rb_new w (List.replicate (wn p) 0))
 have hlt:=h.lt
 generalize hB:w.heap.size=B at*
 replace hB:=hide hB
 generalize w.alloc (.cells (Uw (List.replicate (wn p) 0)) 111)=w1 at*
 go_wp2_with fail
 go_loopw [10] (fun i wr=> ∃(k:Nat) (ys:List Int),k≤p∧i= .int .i64 k∧RB wr B ys∧Below B w wr∧Ws ys∧ys.length=wn p∧∀j,hb ys j=(decide (j<k)&& !hb xs j)) (fun i _=>p-(intOf i).toNat)
 case atStart=>exact⟨0,_,Nat.zero_le _,rfl,y0.out,k0.out,Ws.rep _,List.length_replicate,fun j=>by rw[hb_rep];simp⟩
 case round=>
  obtain⟨k,ys,hk,rfl,hr,kb,hw,hl,hj⟩:=hrel
  have hh:=hide hj
  clear hj
  by_cases hkp:k<p
  ·have hrb:RB wr b xs:=(kb.block b hlt).trans h
   have hhas:=hide (has_n hrb hln.out hws.out (r:=k) (lt_wn hkp) o_m)
   go_wp2_with fail
   refine hhas.out.mono ?_
   rintro e w2 ⟨rfl,m,rfl⟩
   clear hhas
   have hr2:RB (wr.drewN m) B ys:=hr
   have kb2:Below B w (wr.drewN m):=kb.trans (below_drewN _ _ _)
   generalize wr.drewN m=w2 at*
   cases hx:hb xs k with
   |true=>
    go_wp2
    go_roundw
    case measure=>simp[intOf];omega
    case rel=>
     refine⟨k+1,ys,by omega,by go_num,hr2,kb2,hw,hl,fun j=> ?_⟩
     rw[hh.out j]
     by_cases e:j=k
     ·subst e;simp[hx]
     congr 1
     rw[decide_eq_decide]
     omega
   |false=>
    have hadd:=hide (add_n hr2 hl (r:=k) (lt_wn hkp) o_m)
    have hll:=hide hl
    clear hl
    go_wp2_with fail
    refine hadd.out.mono ?_
    rintro e w3 ⟨rfl,hr3,ho3⟩
    clear hadd
    have kb3:Below B w w3:=kb2.trans (ho3.below (Nat.le_refl _))
    go_wp2
    go_roundw
    case measure=>simp[intOf];omega
    case rel=>
     refine⟨k+1,_,by omega,by go_num,hr3,kb3,adB_ws hw k,by rw[adB_len];exact hll.out,fun j=> ?_⟩
     rw[hb_adB hw (by rw[hll.out];exact lt_wn hkp),hh.out j]
     by_cases e:j=k
     ·subst e;simp[hx]
     rw[show decide (k=j)=false from decide_eq_false (fun h=>e h.symm),show decide (j<k+1)=decide (j<k) from by rw[decide_eq_decide];omega,Bool.or_false]
  obtain rfl:k=p:=by omega
  have hll:=hide hl
  clear hl
  go_wp2
  refine bodyPost_ret (results_tmp rfl _ _ _) rfl ?_
  have hB2:=hB.out
  subst hB2
  refine⟨ys,rfl,hr,kb,⟨hw,hll.out,fun j hj=> ?_⟩,fun j hj=> ?_⟩
  ·rw[hh.out j,decide_eq_false o_m,Bool.false_and]
  rw[hh.out j,decide_eq_true hj,Bool.true_and]
theorem by_n {p q:Nat}(h:RB w b xs)(hR:Rok p xs)(h1:1≤p)(h0:p≤4096)(h2:q≤4096):
  Calls Tryz.prog 136 #[.slice (some ⟨b,0,none⟩) (wn p) (wn p),.int .i64 p,.int .i64 q] w fun e w'=> ∃ys,e= .returned (.slice (some ⟨w.heap.size,0,none⟩) (wn q) (wn q))∧RB w' w.heap.size ys∧Below w.heap.size w w'∧Rok q ys∧∀j,j<q→hb ys j=hb xs (j%p):=by
 have hnr:=hide (newRow_n h2 w)
 have hnn:Hid (wn q≤64):=hide (by unfold wn;omega)
 have hln:=hide hR.len
 have hws:=hide hR.ws
 go_enter Tryz.func136,Tryz.ntmps136
 go_wp2_with fail
 refine hnr.out.mono ?_
 rintro e w0 ⟨rfl,rfl⟩
 clear hnr
 have k0:=hide (below_alloc w (.cells (Uw (List.replicate (wn q) 0)) 111))
 have y0:=hide (rb_new w (List.replicate (wn q) 0))
 have hlt:=h.lt
 generalize hB:w.heap.size=B at*
 replace hB:=hide hB
 generalize w.alloc (.cells (Uw (List.replicate (wn q) 0)) 111)=w1 at*
 go_wp2_with fail
 go_loopw [12] (fun i wr=> ∃(k:Nat) (ys:List Int),k≤q∧i= .int .i64 k∧RB wr B ys∧Below B w wr∧Ws ys∧ys.length=wn q∧∀j,hb ys j=(decide (j<k)&&hb xs (j%p))) (fun i _=>q-(intOf i).toNat)
 case atStart=>exact⟨0,_,Nat.zero_le _,rfl,y0.out,k0.out,Ws.rep _,List.length_replicate,fun j=>by rw[hb_rep];simp⟩
 case round=>
  obtain⟨k,ys,hk,rfl,hr,kb,hw,hl,hj⟩:=hrel
  have hh:=hide hj
  clear hj
  by_cases hkp:k<q
  ·have hrb:RB wr b xs:=(kb.block b hlt).trans h
   have hp0:(p:Int)≠0:=by omega
   have hhas:=hide (has_n hrb hln.out hws.out (r:=k%p) (lt_wn (Nat.mod_lt _ o_m)) (by have:=Nat.mod_lt k (show p>0 by omega);omega))
   rw[show((k%p:Nat):Int)=(k:Int)%(p:Int) from Int.natCast_emod k p]at hhas
   go_wp2_with fail
   refine hhas.out.mono ?_
   rintro e w2 ⟨rfl,m,rfl⟩
   clear hhas
   have hr2:RB (wr.drewN m) B ys:=hr
   have kb2:Below B w (wr.drewN m):=kb.trans (below_drewN _ _ _)
   generalize wr.drewN m=w2 at*
   cases hx:hb xs (k%p)with
   |false=>
    go_wp2
    go_roundw
    case measure=>simp[intOf];omega
    case rel=>
     refine⟨k+1,ys,by omega,by go_num,hr2,kb2,hw,hl,fun j=> ?_⟩
     rw[hh.out j]
     by_cases e:j=k
     ·subst e;simp[hx]
     congr 1
     rw[decide_eq_decide]
     omega
   |true=>
    have hadd:=hide (add_n hr2 hl (r:=k) (lt_wn hkp) o_m)
    have hll:=hide hl
    clear hl
    go_wp2_with fail
    refine hadd.out.mono ?_
    rintro e w3 ⟨rfl,hr3,ho3⟩
    clear hadd
    have kb3:Below B w w3:=kb2.trans (ho3.below (Nat.le_refl _))
    go_wp2
    go_roundw
    case measure=>simp[intOf];omega
    case rel=>
     refine⟨k+1,_,by omega,by go_num,hr3,kb3,adB_ws hw k,by rw[adB_len];exact hll.out,fun j=> ?_⟩
     rw[hb_adB hw (by rw[hll.out];exact lt_wn hkp),hh.out j]
     by_cases e:j=k
     ·subst e;simp[hx]
     rw[show decide (k=j)=false from decide_eq_false (fun h=>e h.symm),show decide (j<k+1)=decide (j<k) from by rw[decide_eq_decide];omega,Bool.or_false]
  obtain rfl:k=q:=by omega
  have hll:=hide hl
  clear hl
  go_wp2
  refine bodyPost_ret (results_tmp rfl _ _ _) rfl ?_
  have hB2:=hB.out
  subst hB2
  refine⟨ys,rfl,hr,kb,⟨hw,hll.out,fun j hj=> ?_⟩,fun j hj=> ?_⟩
  ·rw[hh.out j,decide_eq_false o_m,Bool.false_and]
  rw[hh.out j,decide_eq_true hj,Bool.true_and]
end Pd
end Go.Proofs.YtaafoppaepcaeaaGreat
