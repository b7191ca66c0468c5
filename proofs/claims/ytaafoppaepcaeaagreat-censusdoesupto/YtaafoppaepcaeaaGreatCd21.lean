/-
 Layer 19: what is kept while rounds of a loop write; slices.Backward.
-/
import Derived.Test.YtaafoppaepcaeaaGreatCd18
import Derived.Test.YtaafoppaepcaeaaGreatCd03
import Derived.Test.YtaafoppaepcaeaaGreatCd20
set_option maxRecDepth 100000
set_option maxHeartbeats 3200000
namespace Go.Proofs.YtaafoppaepcaeaaGreat
open Go.RowKit Go.Shelf
namespace Pd

variable {w w':World}{x:Int}{xs:List Int}
theorem zn_blk {s:Bool}{a:Option Addr}{l c:Nat}(h:Fresh.Zn 0 w s a l c x)(hs:w.heap.size≤w'.heap.size)(hb: ∀g,Own w g 60→w'.heap[g]? =w.heap[g]?):Fresh.Zn 0 w' s a l c x:=by
 obtain⟨n,⟨⟨zs,hr,hc,hv⟩,-,hf⟩,hsg,hn⟩:=h
 have hf':Fresh.Fr 0 w' a c:=by
  rcases hf with hf|⟨b,xs,e,h0,hrow,h1⟩
  ·exact .inl hf
  exact .inr ⟨b,xs,e,h0,(hb b ⟨_,hrow⟩).trans hrow,h1⟩
 refine⟨n,⟨⟨zs,?_,hc,hv⟩,Nat.zero_le _,hf'⟩,hsg,hn⟩
 obtain⟨h1,h2,h3,h4,h5⟩:=hr
 refine⟨h1,h2,h3,h4,?_⟩
 rcases h5 with h5|⟨a0,ha,h5⟩
 ·exact .inl h5
 refine .inr ⟨a0,ha,h5.imp id ?_⟩
 rintro⟨b,off,rfl,hbl,hcell⟩
 have hk:w'.heap[b]? =w.heap[b]?:=by
  rcases hf with⟨e2,-⟩|⟨b',xs,e2,-,hrow,-⟩
  ·rw[e2]at ha;cases ha
  rw[e2]at ha
  cases ha
  exact hb b ⟨_,hrow⟩
 exact⟨b,off,rfl,Nat.lt_of_lt_of_le hbl hs,fun i hi=>(World.cell?_of_block (a:=⟨b,off+i,none⟩) hk).trans (hcell i hi)⟩
structure Zg (w:World) (z:ZV) (x:Int):Prop where
 zn:Fresh.Zn 0 w z.s z.a z.l z.c x
 le:z.l≤8589934592
theorem Zg.zm {z:ZV}(h:Zg w z x):Zm w z.s z.a z.l z.c x:=h.zn.zn.zm
theorem Zg.below {z:ZV}(h:Zg w z x)(k:Below w.heap.size w w'):Zg w' z x:=⟨h.zn.below k,h.le⟩
theorem Zg.blk {z:ZV}(h:Zg w z x)(hs:w.heap.size≤w'.heap.size)(hb: ∀g,Own w g 60→w'.heap[g]? =w.heap[g]?):Zg w' z x:=⟨zn_blk h.zn hs hb,h.le⟩
structure Prg (w:World) (q:List ZV) (xs:List Int):Prop where
 len:q.length=xs.length
 nu: ∀i (h:i<q.length) (h':i<xs.length),Zg w q[i] xs[i]
theorem Prg.blk {q:List ZV}(h:Prg w q xs)(hs:w.heap.size≤w'.heap.size)(hb: ∀g,Own w g 60→w'.heap[g]? =w.heap[g]?):Prg w' q xs:=⟨h.len,fun i h1 h2=>(h.nu i h1 h2).blk hs hb⟩
theorem Prg.below {q:List ZV}(h:Prg w q xs)(k:Below w.heap.size w w'):Prg w' q xs:=h.blk k.size fun g hg=>k.block g hg.lt
theorem prg_nil (w:World):Prg w [] []:=⟨rfl,fun i h=>by simp at h⟩
theorem Prg.app {q r:List ZV}{ys:List Int}(h:Prg w q xs)(h2:Prg w r ys):Prg w (q++r) (xs++ys):=by
 have hl:=h.len
 have hl2:=h2.len
 refine⟨by simp[hl,hl2],fun i h1 h3=> ?_⟩
 by_cases hi:i<q.length
 ·rw[List.getElem_append_left hi,List.getElem_append_left o_m]
  exact h.nu i hi o_m
 rw[List.getElem_append_right o_m,List.getElem_append_right o_m]
 have:=h2.nu (i-q.length) (by simp at h1;omega) (by simp at h1;omega)
 simpa [hl] using this
theorem prg_one {z:ZV}(h:Zg w z x):Prg w [z] [x]:=⟨rfl,fun i h1 h2=>by
 obtain rfl:i=0:=by simp at h1;omega
 exact h⟩
theorem sn_own {base n:Nat}{v:Value}{q:List ZV}(h:w.ownsRow base 38 2 v n (encL ZV.enc q))(hq:Prg w q xs): ∃a c,v= .slice a n c∧SN w a n xs:=by
 obtain⟨h1,a,c,rfl,-,-,h4⟩:=own_any (by decide) zv_len h
 have hl:=hq.len
 refine⟨a,c,rfl,by omega,fun i hi hi'=> ?_⟩
 rcases h4 with⟨h4,-⟩|⟨g,e,-,ho,-,hc⟩
 ·omega
 refine⟨g,0,q[i]'o_m,e,ho.lt,?_,?_,(hq.nu i o_m hi').zm,(hq.nu i o_m hi').le⟩
 ·have:=hc i o_m 0 (by decide)
  rw[Nat.add_zero]at this
  rw[Nat.zero_add]
  exact this
 have:=hc i o_m 1 (by decide)
 rw[Nat.zero_add]
 exact this
theorem own_u32 {g b:Nat}{cs:Array Value}{t:TypeId}{fr:Nat × Nat}(h:Own w g 60)(hb:w.heap[b]? =some (.cells cs t fr))(ht:t≠60):g≠b:=fun e=>by
 subst e
 exact Own.ne h hb ht rfl
theorem backward_n (w:World)(ca:Option Addr)(n cc:Nat):Calls Tryz.prog 123 #[.slice ca n cc] w fun e w'=>w'=w.alloc (.cells #[.slice ca n cc] 23)∧e= .returned (.func (.func 147) #[] #[.pointer (some ⟨w.heap.size,0,none⟩)]):=by
 go_enter Tryz.func123,Tryz.ntmps123
 go_wp2
 exact bodyPost_ret (results_tmp rfl _ _ _) rfl ⟨rfl,rfl⟩
theorem backward1_any {B l m n cc:Nat}{ca:Option Addr}{cs:List Int}(hn:n≤1073741823)(J:Nat→World→Prop)
  (hJ: ∀k W,J k W→W.cell? ⟨B,0,none⟩=some (.slice ca n cc)∧CL W ca n cc cs)
  (hY: ∀k W z (_:k<n) (h:n-1-k<cs.length),J k W→Zf W z cs[n-1-k]→YieldAt Fence.wide (m-1) Tryz.prog l #[.int .i64 ((n-1-k:Nat):Int),ZV.val z] W fun e W'=>e= .returned (.bool true)∧J (k+1) W')
  (h0:J 0 w):
  CallsIn Fence.wide m Tryz.prog 147 #[.func (.yield l) #[] #[],.pointer (some ⟨B,0,none⟩)] w fun e W'=>(∃v,e= .returned v)∧J n W':=by
 refine callsIn_of_wp Tryz.func147 rfl trivial ?_ rfl
 simp only[Tryz.ntmps147,List.size_toArray,List.length_cons,List.length_nil,Nat.reduceAdd,Nat.reduceSub,Array.replicate_succ,Array.replicate_zero,List.push_toArray,List.append_toArray,List.nil_append,List.cons_append]
 have c0:=(hJ 0 w h0).1
 gi_wp2
 gi_loopw [3] (fun v wr=> ∃k:Nat,k≤n∧v= .int .i64 ((n:Int)-1-k)∧J k wr) (fun v _=>(intOf v+1).toNat)
 case atStart=>exact⟨0,Nat.zero_le _,by simp,h0⟩
 case round=>
  clear c0
  obtain⟨k,hk,rfl,hj⟩:=hrel
  by_cases hin:k<n
  ·obtain⟨i,hi⟩: ∃i:Nat,n-1-k=i:=⟨_,rfl⟩
   have hY2:=hY k wr
   rw[hi]at hY2
   rw[show(n:Int)-1-(k:Int)=(i:Int)by omega]
   obtain⟨c0,hcl⟩:=hJ k wr hj
   have hlen:=hcl.len
   obtain⟨cb,off,z,rfl,hcb,e0,e1,hz⟩:=hcl.get (show i<n by omega) o_m
   obtain⟨fn,tmps,assign,body,hyl,hR⟩:=hY2 z hin o_m hj hz
   have hi1:(i:Int)<(n:Int):=by omega
   have hge:decide ((0:Int)≤(i:Int))=true:=by rw[decide_eq_true_eq];omega
   have hgf:Hid (∀{u:World},J (k+1) u→∃k':Nat,k'≤n∧Value.int .i64 ((i:Int)-1)= .int .i64 ((n:Int)-1-k')∧J k' u):=hide fun h=>⟨k+1,by omega,by congr 1;omega,h⟩
   clear hz
   replace hlen:=hide hlen
   clear hcl hY2
   replace hi:=hide hi
   gi_wp2
   refine⟨fun h=>absurd h (by decide),hR.mono ?_⟩
   rintro e W3 ⟨rfl,hJ4⟩
   clear hR hyl c0 e0 e1
   gi_wp2
   exact⟨hgf.out hJ4,by simp[intOf]⟩
  obtain rfl:k=n:=by omega
  have hge:decide ((k:Int)≤(k:Int)-1)=false:=by rw[decide_eq_false_iff_not];omega
  gi_wp2
  all_goals (go_end0;exact⟨⟨_,rfl⟩,hj⟩)
end Pd
end Go.Proofs.YtaafoppaepcaeaaGreat
