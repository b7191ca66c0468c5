/-
 Walks of the reference package: DivMod.
-/
import Derived.Test.YtaafoppaepcaeaaGreatCd08
import Derived.Deep.DeepCutAuto
import Derived.Deep.RegionHeld3
namespace Go.Proofs.YtaafoppaepcaeaaGreat
open Go.RowKit

theorem tw_succ {t:Nat}(h:t<32):(2:Int)^(32-t)=2*2^(32-(t+1)):=by
 rw[show 32-t=32-(t+1)+1 from by omega,Int.pow_succ,Int.mul_comm]

theorem bit_step {x H P qv m rv Y:Int}{t:Nat}(ht:t<32)(h1:P=H*2^(32-(t+1))+x / 2^(t+1))(h2:P=(qv*2^(32-(t+1))+m)*Y+rv)(k:Int):
  2*P+x / 2^t%2=H*2^(32-t)+x / 2^t∧2*P+x / 2^t%2=(qv*2^(32-t)+(2*m+k))*Y+(rv*2+x / 2^t%2-k*Y):=by
 have e:x / 2^(t+1)=x / 2^t / 2:=by
  rw[Int.pow_succ,Int.ediv_ediv_of_nonneg (Int.pow_nonneg (by decide))]
 constructor
 ·rw[h1,e,tw_succ ht]
  generalize x / 2^t=X at*
  have e3:H*(2*2^(32-(t+1)))=2*(H*2^(32-(t+1))):=Int.mul_left_comm _ _ _
  rw[e3]
  generalize H*2^(32-(t+1))=HT at*
  omega
 rw[h2,tw_succ ht]
 simp only[Int.mul_add,Int.add_mul,Int.mul_assoc,Int.mul_left_comm 2]
 omega

theorem m_bd {m:Int}{t:Nat}(ht:t<32)(h0:0≤m)(h1:m<2^(32-(t+1))):0≤m*2^(t+1)∧m*2^(t+1)+2^t≤4294967295∧(0:Int)<2^t∧(2:Int)^t≤2147483648∧m*2^(t+1)+2^t=(2*m+1)*2^t∧m*2^(t+1)=(2*m)*2^t:=by
 have p0:(0:Int)<2^t:=Int.pow_pos (by decide)
 have e:(2:Int)^(t+1)=2*2^t:=by rw[Int.pow_succ,Int.mul_comm]
 have e2:m*2^(t+1)=(2*m)*2^t:=by rw[e,Int.mul_left_comm,Int.mul_assoc]
 have e3:(2:Int)^(32-(t+1))*2^(t+1)=4294967296:=by
  rw[←Int.pow_add,show 32-(t+1)+(t+1)=32 from by omega];decide
 have h2:(m+1)*2^(t+1)≤2^(32-(t+1))*2^(t+1):=Int.mul_le_mul_of_nonneg_right o_m (by rw[e];omega)
 rw[e3,Int.add_mul,Int.one_mul]at h2
 have h3:0≤m*2^(t+1):=Int.mul_nonneg h0 (by rw[e];omega)
 refine⟨h3,by omega,p0,by omega,?_,e2⟩
 rw[e2,Int.add_mul,Int.one_mul]
theorem bit_bd (x:Int)(t:Nat)(h:0≤x):0≤x / 2^t%2∧x / 2^t%2<2∧(x / 2^t).tmod 2=x / 2^t%2:=by
 have h0:0≤x / 2^t:=Int.ediv_nonneg h (Int.pow_nonneg (by decide))
 exact⟨Int.emod_nonneg _ (by decide),Int.emod_lt_of_pos _ (by decide),Int.tmod_eq_emod_of_nonneg h0⟩

set_option maxRecDepth 100000 in
set_option maxHeartbeats 3200000 in
theorem refdivmod_out {a1 a2:Option Addr}{l1 c1 l2 c2:Nat}{xs ys:List Int}{w:World}(h1:Rd w a1 l1 c1 xs)(h2:Rd w a2 l2 c2 ys)(hl1:l1≤17179869184)(hl2:l2≤17179869184)(hpos:0<val ys):
  Calls Tryz.prog 150 #[.slice a1 l1 c1,.slice a2 l2 c2] w fun e w'=> ∃aq lq cq zq ar lr cr zr,e= .returned (.tuple #[.slice aq lq cq,.slice ar lr cr])∧Out w w' aq lq cq zq∧Canon zq∧val zq=val xs / val ys∧Out w w' ar lr cr zr∧Canon zr∧val zr=val xs%val ys∧lq≤l1∧lr≤l2:=by
 have hXL:=h1.2.2.2.1
 have HXl:=hide h1.1
 go_enter Tryz.func150,Tryz.ntmps150
 go_wp2_with fail
 refine(trim_any h2 o_m).mono ?_
 rintro e w1 ⟨rfl,ho1,-⟩
 have hn:=tl_le ys l2
 have hY:=ho1.rd
 have hvY:=val_trim ys
 have hcY:=canon_trim h2.2.2.2.1
 have k1:=ho1.1
 rw[←hvY]at hpos
 have HVY:=hide hvY
 clear hvY ho1 h2
 generalize trim ys=Y at*
 generalize tl ys l2=n at*
 have hmk:=run_mk l1 o_m
 have hYl:val Y<pw n:=by have:=(vl_bd hcY.1 Y.length).2;rw[hY.1]at this;unfold val;rw[hY.1];exact this
 have k2:=below_alloc w1 (.cells (U (List.replicate l1 0)) 60)
 have rq:=row_alloc w1 (List.replicate l1 0)
 go_wp2_with fail
 go_loopw [8,9] (fun rr i wr=> ∃(j:Nat) (H qv rv:Int) (ar:Option Addr) (lr cr:Nat) (zs Q:List Int),j≤l1∧i= .int .i64 ((j:Int)-1)∧rr= .slice ar lr cr∧Rd wr ar lr cr zs∧Canon zs∧val zs=rv∧0≤rv∧rv<val Y∧(∀b,blk ar=some b→b≠w1.heap.size)∧Q.length=l1∧Limbs Q∧Row wr w1.heap.size Q∧Below w1.heap.size w1 wr∧Hid (∀i,i<j→lz Q i=0)∧Hid (val Q=pw j*qv)∧Hid (val xs=vl xs j+pw j*H)∧Hid (H=qv*val Y+rv)) (fun _ i _=>(intOf i+1).toNat)
 case atStart=>
  refine⟨l1,0,0,0,none,0,0,[],List.replicate l1 0,Nat.le_refl _,rfl,rfl,⟨rfl,by decide,by decide,fun z hz=>(by cases hz),Or.inl ⟨rfl,rfl,rfl⟩⟩,canon_nil,rfl,Int.le_refl _,hpos,fun b hb=>(by cases hb),List.length_replicate,Limbs.replicate _,rq,k2,?_,?_,?_,?_⟩
  ·show ∀_,_;intro i _;exact lz_replicate _ _
  ·show _=_;unfold val;rw[vl_replicate,Int.mul_zero]
  ·show _=_;rw[Int.mul_zero,Int.add_zero];unfold val;rw[unhide HXl]
  show _=_;simp
 case round=>
  obtain⟨j,H,qv,rv,ar,lr,cr,zs,Q,hj,rfl,rfl,hR,hRc,hRv,hr0,hr1,hRb,hQl,hQL,hQ,kr,HZ,HQ,HX,HH⟩:=hrel
  clear hmk rq k2
  by_cases hj0:0<j
  ·obtain⟨j,rfl⟩: ∃i,j=i+1:=⟨j-1,by omega⟩
   have Bx:=lz_bd hXL j
   go_wp2_with fail
   rw[show(((j+1:Nat):Int)-1)=(j:Int) from by omega]
   go_loopw [8,10] (fun rr i wi=> ∃(t:Nat) (P m rv:Int) (ar:Option Addr) (lr cr:Nat) (zs:List Int),t≤32∧i= .int .i64 ((t:Int)-1)∧rr= .slice ar lr cr∧Rd wi ar lr cr zs∧Canon zs∧val zs=rv∧0≤rv∧rv<val Y∧(∀b,blk ar=some b→b≠w1.heap.size)∧Row wi w1.heap.size (Q.set j (m*2^t))∧0≤m∧Hid (m<2^(32-t))∧Below w1.heap.size w1 wi∧Hid (P=H*2^(32-t)+lz xs j / 2^t)∧Hid (P=(qv*2^(32-t)+m)*val Y+rv)) (fun _ i _=>(intOf i+1).toNat)
   case atStart=>
    have hz:=(unhide HZ) j o_m
    refine⟨32,H,0,rv,ar,lr,cr,zs,Nat.le_refl _,rfl,rfl,hR,hRc,hRv,hr0,hr1,hRb,?_,Int.le_refl _,?_,kr,?_,?_⟩
    ·rw[Int.zero_mul,show Q.set j 0=Q from list_ext_lz (by rw[List.length_set]) (fun i hi=>by rw[lz_set _ _ _ _ o_m];split <;> simp_all)]
     exact hQ
    ·show _<_;decide
    ·show _=_
     rw[Nat.sub_self,Int.pow_zero,Int.mul_one,Int.ediv_eq_zero_of_lt Bx.1 o_m]
     omega
    show _=_
    rw[Nat.sub_self,Int.pow_zero,Int.mul_one,Int.add_zero]
    exact HH.out
   case round=>
    obtain⟨t,P,m,rv',ar',lr',cr',zs',ht,rfl,rfl,hS,hSc,hSv,hs0,hs1,hSb,hSQ,hm0,HM,ks,HP1,HP2⟩:=hrel
    by_cases ht0:0<t
    ·obtain⟨t,rfl⟩: ∃i,t=i+1:=⟨t-1,by omega⟩
     have q1:=h1.below (grow_step ks k1)
     obtain⟨_,_,_,_,h5⟩:=q1
     rcases h5 with⟨_,h6,_⟩|⟨a',rfl,h6|⟨b,off,rfl,_,hc⟩⟩
     ·omega
     ·omega
     have hcx:=hc j o_m
     clear hc
     generalize lz xs j=x at*
     have hbit:=bit_bd x t Bx.1
     have hlr':lr'≤n:=by
      rw[←hS.1]
      refine canon_len hSc ?_
      omega
     go_wp2_with fail
     refine(reftimes_any (n:=2) (m:=x / 2^t%2) hS o_m (by decide) (by decide) hbit.1 o_m).mono ?_
     rintro e w4 ⟨a4,l4,c4,z4,rfl,ho4,hc4,hv4,hl4⟩
     rw[hSv]at hv4
     have ks4:=grow_step ho4.1 ks
     have hQ4:Row w4 w1.heap.size (Q.set j (m*2^(t+1))):=(ho4.1.block w1.heap.size hSQ.lt).trans hSQ
     have hb4: ∀b,blk a4=some b→b≠w1.heap.size:=fun b hb=>by have:=(ho4.lt hb).1;have:=hSQ.lt;omega
     have hl4':l4≤n+1:=by
      rw[←ho4.rd.1]
      refine canon_len hc4 ?_
      rw[hv4,pw_succ]
      omega
     have st:=fun k=>bit_step (k:=k) o_m HP1.out HP2.out
     generalize hbv:x / 2^t%2=bt at*
     go_wp2_with fail
     refine(refcmp_any ho4.rd (hY.below ks4)).mono ?_
     rintro e w5 ⟨rfl,rfl⟩
     by_cases hge:val Y≤val z4
     ·have hcc: ¬cmpI (val z4) (val Y)<0:=by unfold cmpI;omega
      generalize cmpI (val z4) (val Y)=cc at*
      go_wp2_with fail
      refine(refsub_any ho4.rd (hY.below ks4) o_m hge).mono ?_
      rintro e w6 ⟨a6,l6,c6,z6,rfl,ho6,hc6,hv6,hl6⟩
      have ks6:=grow_step ho6.1 ks4
      have hQ6:Row w6 w1.heap.size (Q.set j (m*2^(t+1))):=(ho6.1.block w1.heap.size hQ4.lt).trans hQ4
      have hcell:=hQ6.cell (i:=j) (by rw[List.length_set];omega)
      have hfr:=hQ6.frozen j
      rw[lz_set _ _ _ _ o_m,if_pos rfl]at hcell
      have hM:=m_bd o_m hm0 HM.out
      have HM1:=hide hM.2.2.2.2.1
      have hM0:=hM.1
      have hM1:=hM.2.1
      have hM2:=hM.2.2.1
      clear hM
      go_wp2_with fail
      go_region_with fail
      have ev:IntKind.u32.wrap (m*2^(t+1)+2^t)=(2*m+1)*2^t:=by
       rw[IntWalk.u32_in _ ⟨by omega,by omega⟩]
       exact HM1.out
      rw[ev]
      have hO7:Only w1.heap.size w6 (w6.setCell ⟨w1.heap.size,j,none⟩ (.int .u32 ((2*m+1)*2^t))).drew:=(Only.set _ _ _ _).trans (Only.drew _ _)
      have hb6: ∀b,blk a6=some b→b≠w1.heap.size:=fun b hb=>by have:=(ho6.lt hb).1;have:=hQ4.lt;omega
      have r7:Rd (w6.setCell ⟨w1.heap.size,j,none⟩ (.int .u32 ((2*m+1)*2^t))).drew a6 l6 c6 z6:=ho6.rd.only hO7 (fun x off hx=>Or.inr (hb6 x (by rw[hx];rfl)))
      have q7:Row (w6.setCell ⟨w1.heap.size,j,none⟩ (.int .u32 ((2*m+1)*2^t))).drew w1.heap.size (Q.set j ((2*m+1)*2^t)):=by
       have h7:=hQ6.set j ((2*m+1)*2^t)
       rw[List.set_set]at h7
       exact h7
      have k7:Below w1.heap.size w1 (w6.setCell ⟨w1.heap.size,j,none⟩ (.int .u32 ((2*m+1)*2^t))).drew:=(ks6.setCell (Nat.le_refl _) _).drew
      generalize (w6.setCell ⟨w1.heap.size,j,none⟩ (.int .u32 ((2*m+1)*2^t))).drew=w7 at*
      have st1:=st 1
      have HS1:=hide st1.1
      have HS2:Hid (2*P+bt=(qv*2^(32-t)+(2*m+1))*val Y+val z6):=by
       show _=_
       rw[st1.2,hv6,hv4,Int.one_mul]
      have HM7:Hid (2*m+1<2^(32-t)):=by
       show _<_
       have:=HM.out
       rw[tw_succ o_m]
       omega
      clear st st1 hcell hfr hcx
      go_wp2_with fail
      exact⟨⟨t,_,2*m+1,val z6,a6,l6,c6,z6,by omega,by go_num,rfl,r7,hc6,rfl,by omega,by omega,hb6,q7,by omega,HM7,k7,HS1,HS2⟩,by simp[intOf] <;> omega⟩
     have hcc:cmpI (val z4) (val Y)<0:=by unfold cmpI;omega
     generalize cmpI (val z4) (val Y)=cc at*
     have hM:=m_bd o_m hm0 HM.out
     rw[hM.2.2.2.2.2]at hQ4
     have st0:=st 0
     have HS1:=hide st0.1
     have HS2:Hid (2*P+bt=(qv*2^(32-t)+2*m)*val Y+val z4):=by
      show _=_
      rw[st0.2,hv4,Int.add_zero,Int.zero_mul,Int.sub_zero]
     have HM7:Hid (2*m<2^(32-t)):=by
      show _<_
      have:=HM.out
      rw[tw_succ o_m]
      omega
     clear st st0 hcx hM
     go_wp2_with fail
     exact⟨⟨t,_,2*m,val z4,a4,l4,c4,z4,by omega,by go_num,rfl,ho4.rd,hc4,rfl,by omega,by omega,hb4,hQ4,by omega,HM7,ks4,HS1,HS2⟩,by simp[intOf] <;> omega⟩
    obtain rfl:t=0:=by omega
    rw[Int.pow_zero,Int.mul_one]at hSQ
    have hm1:m<4294967296:=HM.out
    have hz:=(unhide HZ) j o_m
    have HZ2:Hid (∀i,i<j→lz (Q.set j m) i=0):=by
     show ∀_,_
     intro i hi
     rw[lz_set _ _ _ _ o_m,if_neg o_m]
     exact(unhide HZ) i o_m
    have HQ2:Hid (val (Q.set j m)=pw j*(qv*4294967296+m)):=by
     show _=_
     have:=vl_set (zs:=Q) (m:=j) (n:=Q.length) m o_m o_m
     unfold val
     rw[List.length_set,this,hz,Int.sub_zero]
     have h9:vl Q Q.length=pw (j+1)*qv:=HQ.out
     rw[h9,pw_succ,Int.mul_add,Int.mul_comm m (pw j),Int.mul_comm 4294967296 (pw j),Int.mul_assoc,Int.mul_comm 4294967296 qv]
    have HX2:Hid (val xs=vl xs j+pw j*P):=by
     show _=_
     have h9:P=H*4294967296+lz xs j:=by
      have:=HP1.out
      rw[Int.pow_zero,Int.ediv_one]at this
      exact this
     rw[HX.out,h9,vl_succ,pw_succ,Int.mul_add,Int.mul_comm (lz xs j) (pw j),Int.mul_comm 4294967296 (pw j),Int.mul_assoc,Int.mul_comm 4294967296 H]
     omega
    have HH2:Hid (P=(qv*4294967296+m)*val Y+rv'):=HP2.out
    go_wp2_with fail
    exact⟨⟨j,P,qv*4294967296+m,rv',ar',lr',cr',zs',Q.set j m,by omega,by go_num,rfl,hS,hSc,hSv,hs0,hs1,hSb,by rw[List.length_set];exact hQl,hQL.set j hm0 hm1,hSQ,ks,HZ2,HQ2,HX2,HH2⟩,by simp[intOf] <;> omega⟩
  obtain rfl:j=0:=by omega
  have hH:val xs=H:=by rw[HX.out];simp[vl,pw]
  have hq0:val Q=qv:=by rw[HQ.out];simp[pw]
  have hdm:=Int.ediv_emod_unique (a:=val xs) (b:=val Y) (r:=rv) (q:=qv) hpos
  have hqr:=hdm.2 ⟨by rw[hH,HH.out,Int.mul_comm];omega,hr0,hr1⟩
  have HD:=hide hqr
  clear hdm hqr
  have rQ:=hQ.rd hQL (off:=0) (len:=l1) (cap:=l1) o_m (Nat.le_refl _) o_m
  rw[List.drop_zero,List.take_of_length_le o_m]at rQ
  have hlr:lr≤n:=by
   rw[←hR.1]
   refine canon_len hRc ?_
   omega
  go_wp2_with fail
  refine(trim_any rQ o_m).mono ?_
  rintro e w4 ⟨rfl,ho4,-⟩
  go_wp2_with fail
  refine(trim_any (hR.below ho4.1) o_m).mono ?_
  rintro e w5 ⟨rfl,ho5,-⟩
  have t1:=tl_le Q l1
  have t2:=tl_le zs lr
  go_wp2_with fail
  refine bodyPost_ret (results_tmp2 rfl _ _ _) rfl ?_
  have kW:Below w.heap.size w wr:=k1.trans (kr.mono k1.size)
  refine⟨_,_,_,_,_,_,_,_,rfl,(ho4.outer kW).later ho5.1,canon_trim hQL,?_,ho5.outer (grow_step ho4.1 kW),canon_trim hRc.1,?_,by omega,by omega⟩
  ·rw[val_trim,←unhide HVY,hq0];exact(unhide HD).1.symm
  rw[val_trim,←unhide HVY,hRv];exact(unhide HD).2.symm

theorem refdivmod_any {a1 a2:Option Addr}{l1 c1 l2 c2:Nat}{xs ys:List Int}{w:World}(h1:Rd w a1 l1 c1 xs)(h2:Rd w a2 l2 c2 ys)(hl1:l1≤17179869184)(hl2:l2≤17179869184)(hpos:0<val ys):
  Calls Tryz.prog 150 #[.slice a1 l1 c1,.slice a2 l2 c2] w fun e w'=> ∃aq lq cq ar lr cr,e= .returned (.tuple #[.slice aq lq cq,.slice ar lr cr])∧(∃zq,Rd w' aq lq cq zq∧Canon zq∧val zq=val xs / val ys)∧(∃zr,Rd w' ar lr cr zr∧Canon zr∧val zr=val xs%val ys)∧Below w.heap.size w w'∧lq≤l1∧lr≤l2:=
 (refdivmod_out h1 h2 hl1 hl2 hpos).mono (by
  rintro e w' ⟨aq,lq,cq,zq,ar,lr,cr,zr,rfl,hq,cq',vq,hr,cr',vr,l1',l2'⟩
  exact⟨aq,lq,cq,ar,lr,cr,rfl,⟨zq,hq.rd,cq',vq⟩,⟨zr,hr.rd,cr',vr⟩,hq.1,l1',l2'⟩)

end Go.Proofs.YtaafoppaepcaeaaGreat
