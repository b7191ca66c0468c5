/-
 Several texts in one: R7,RG.
-/
import Derived.Test.YtcfmkjegolpgaaaGreatDoorP14
import Derived.Deep.DeepCutAuto
import Derived.Deep.RegionHeld3
import Derived.Test.YtcfmkjegolpgaaaGreatDoorP12
set_option maxRecDepth 100000
set_option maxHeartbeats 3200000
namespace Go.Proofs.YtcfmkjegolpgaaaGreatDoor
open Go.RowKit

variable {t l1 c1 l2 c2 L : Nat} {m n : Int} {a1 a2 : Option Addr} {xs ys : List Int} {w wr : World} {v : Value}
theorem tw_succ (h : t < 32) : (2 : Int) ^ (32 - t) = 2 * 2 ^ (32 - (t + 1)):=by
 rw [show 32 - t = 32 - (t + 1) + 1 from by omega,Int.pow_succ,Int.mul_comm]

theorem bit_step {x H P qv rv Y : Int} (ht : t < 32) (h1 : P = H * 2 ^ (32 - (t + 1)) + x / 2 ^ (t + 1)) (h2 : P = (qv * 2 ^ (32 - (t + 1)) + m) * Y + rv) (k : Int) :
  2 * P + x / 2 ^ t % 2 = H * 2 ^ (32 - t) + x / 2 ^ t∧2 * P + x / 2 ^ t % 2 = (qv * 2 ^ (32 - t) + (2 * m + k)) * Y + (rv * 2 + x / 2 ^ t % 2 - k * Y):=by
 have e : x / 2 ^ (t + 1) = x / 2 ^ t / 2:=by
  rw [Int.pow_succ,Int.ediv_ediv_of_nonneg (Int.pow_nonneg (by decide))]
 constructor
 ·rw [h1,e,tw_succ ht]
  generalize x / 2 ^ t = X at *
  have e3 : H * (2 * 2 ^ (32 - (t + 1))) = 2 * (H * 2 ^ (32 - (t + 1))):=Int.mul_left_comm _ _ _
  rw [e3]
  generalize H * 2 ^ (32 - (t + 1)) = HT at *
  omega
 rw [h2,tw_succ ht]
 simp only [Int.mul_add,Int.add_mul,Int.mul_assoc,Int.mul_left_comm 2]
 omega

theorem m_bd (ht : t < 32) (h0 : 0≤m) (h1 : m < 2 ^ (32 - (t + 1))) : 0≤m * 2 ^ (t + 1)∧m * 2 ^ (t + 1) + 2 ^ t≤4294967295∧(0 : Int) < 2 ^ t∧(2 : Int) ^ t≤2147483648∧m * 2 ^ (t + 1) + 2 ^ t = (2 * m + 1) * 2 ^ t∧m * 2 ^ (t + 1) = (2 * m) * 2 ^ t:=by
 have p0 : (0 : Int) < 2 ^ t:=Int.pow_pos (by decide)
 have e : (2 : Int) ^ (t + 1) = 2 * 2 ^ t:=by rw [Int.pow_succ,Int.mul_comm]
 have e2 : m * 2 ^ (t + 1) = (2 * m) * 2 ^ t:=by rw [e,Int.mul_left_comm,Int.mul_assoc]
 have e3 : (2 : Int) ^ (32 - (t + 1)) * 2 ^ (t + 1) = 4294967296:=by
  rw [← Int.pow_add,show 32 - (t + 1) + (t + 1) = 32 from by omega]; decide
 have h2 : (m + 1) * 2 ^ (t + 1)≤2 ^ (32 - (t + 1)) * 2 ^ (t + 1):=Int.mul_le_mul_of_nonneg_right o_m (by rw [e]; omega)
 rw [e3,Int.add_mul,Int.one_mul] at h2
 have h3 : 0≤m * 2 ^ (t + 1):=Int.mul_nonneg h0 (by rw [e]; omega)
 refine ⟨h3,by omega,p0,by omega,?_,e2⟩
 rw [e2,Int.add_mul,Int.one_mul]
theorem bit_bd (x : Int) (t : Nat) (h : 0≤x) : 0≤x / 2 ^ t % 2∧x / 2 ^ t % 2 < 2∧(x / 2 ^ t).tmod 2 = x / 2 ^ t % 2:=by
 have h0 : 0≤x / 2 ^ t:=Int.ediv_nonneg h (Int.pow_nonneg (by decide))
 exact ⟨Int.emod_nonneg _ (by decide),Int.emod_lt_of_pos _ (by decide),Int.tmod_eq_emod_of_nonneg h0⟩

theorem refdivmod_out (h1 : Rd w a1 l1 c1 xs) (h2 : Rd w a2 l2 c2 ys) (hl1 : l1≤17179869184) (hl2 : l2≤17179869184) (hpos : 0 < val ys) :
  Calls Tryz.prog 193 #[.slice a1 l1 c1,.slice a2 l2 c2] w fun e w' => ∃ aq lq cq zq ar lr cr zr,e = .returned (.tuple #[.slice aq lq cq,.slice ar lr cr])∧Out w w' aq lq cq zq∧Canon zq∧val zq = val xs / val ys∧Out w w' ar lr cr zr∧Canon zr∧val zr = val xs % val ys∧lq≤l1∧lr≤l2:=by
 have hXL:=h1.2.2.2.1
 have HXl:=hide h1.1
 go_enter Tryz.func193,Tryz.ntmps193
 go_wp2_with fail
 refine (trim_any h2 o_m).mono ?_
 rintro e w1 ⟨rfl,ho1, -⟩
 have hn:=tl_le ys l2
 have hY:=ho1.rd
 have hvY:=val_trim ys
 have hcY:=canon_trim h2.2.2.2.1
 have k1:=ho1.1
 rw [← hvY] at hpos
 have HVY:=hide hvY
 clear hvY ho1 h2
 generalize trim ys = Y at *
 generalize tl ys l2 = n at *
 have hmk:=run_mk l1 o_m
 have hYl : val Y < pw n:=by have:=(vl_bd hcY.1 Y.length).2; rw [hY.1] at this; unfold val; rw [hY.1]; exact this
 have k2:=below_alloc w1 (.cells (U (List.replicate l1 0)) 108)
 have rq:=row_alloc w1 (List.replicate l1 0)
 go_wp2_with fail
 go_loopw [8,9] (fun rr i wr => ∃ (j : Nat) (H qv rv : Int) (ar : Option Addr) (lr cr : Nat) (zs Q : List Int),j≤l1∧i = .int .i64 ((j : Int) - 1)∧rr = .slice ar lr cr∧Rd wr ar lr cr zs∧Canon zs∧val zs = rv∧0≤rv∧rv < val Y∧(∀ b,blk ar = some b→b ≠ w1.heap.size)∧Q.length = l1∧Limbs Q∧Row wr w1.heap.size Q∧Below w1.heap.size w1 wr∧Hid (∀ i,i < j→lz Q i = 0)∧Hid (val Q = pw j * qv)∧Hid (val xs = vl xs j + pw j * H)∧Hid (H = qv * val Y + rv)) (fun _ i _ => (intOf i + 1).toNat)
 case atStart =>
  refine ⟨l1,0,0,0,none,0,0,[],List.replicate l1 0,Nat.le_refl _,rfl,rfl,⟨rfl,by decide,by decide,fun z hz => (by cases hz),Or.inl ⟨rfl,rfl,rfl⟩⟩,canon_nil,rfl,Int.le_refl _,hpos,fun b hb => (by cases hb),List.length_replicate,Limbs.replicate _,rq,k2,?_,?_,?_,?_⟩
  ·show ∀ _,_; intro i _; exact lz_replicate _ _
  ·show _ = _; unfold val; rw [vl_replicate,Int.mul_zero]
  ·show _ = _; rw [Int.mul_zero,Int.add_zero]; unfold val; rw [unhide HXl]
  show _ = _; simp
 case round =>
  obtain ⟨j,H,qv,rv,ar,lr,cr,zs,Q,hj,rfl,rfl,hR,hRc,hRv,hr0,hr1,hRb,hQl,hQL,hQ,kr,HZ,HQ,HX,HH⟩:=hrel
  clear hmk rq k2
  by_cases hj0 : 0 < j
  ·obtain ⟨j,rfl⟩ : ∃ i,j = i + 1:=⟨j - 1,by omega⟩
   have Bx:=lz_bd hXL j
   go_wp2_with fail
   rw [show (((j + 1 : Nat) : Int) - 1) = (j : Int) from by omega]
   go_loopw [8,10] (fun rr i wi => ∃ (t : Nat) (P m rv : Int) (ar : Option Addr) (lr cr : Nat) (zs : List Int),t≤32∧i = .int .i64 ((t : Int) - 1)∧rr = .slice ar lr cr∧Rd wi ar lr cr zs∧Canon zs∧val zs = rv∧0≤rv∧rv < val Y∧(∀ b,blk ar = some b→b ≠ w1.heap.size)∧Row wi w1.heap.size (Q.set j (m * 2 ^ t))∧0≤m∧Hid (m < 2 ^ (32 - t))∧Below w1.heap.size w1 wi∧Hid (P = H * 2 ^ (32 - t) + lz xs j / 2 ^ t)∧Hid (P = (qv * 2 ^ (32 - t) + m) * val Y + rv)) (fun _ i _ => (intOf i + 1).toNat)
   case atStart =>
    have hz:=(unhide HZ) j o_m
    refine ⟨32,H,0,rv,ar,lr,cr,zs,Nat.le_refl _,rfl,rfl,hR,hRc,hRv,hr0,hr1,hRb,?_,Int.le_refl _,?_,kr,?_,?_⟩
    ·rw [Int.zero_mul,show Q.set j 0 = Q from list_ext_lz (by rw [List.length_set]) (fun i hi => by rw [lz_set _ _ _ _ o_m]; split <;> simp_all)]
     exact hQ
    ·show _ < _; decide
    ·show _ = _
     rw [Nat.sub_self,Int.pow_zero,Int.mul_one,Int.ediv_eq_zero_of_lt Bx.1 o_m]
     omega
    show _ = _
    rw [Nat.sub_self,Int.pow_zero,Int.mul_one,Int.add_zero]
    exact HH.out
   case round =>
    obtain ⟨t,P,m,rv',ar',lr',cr',zs',ht,rfl,rfl,hS,hSc,hSv,hs0,hs1,hSb,hSQ,hm0,HM,ks,HP1,HP2⟩:=hrel
    by_cases ht0 : 0 < t
    ·obtain ⟨t,rfl⟩ : ∃ i,t = i + 1:=⟨t - 1,by omega⟩
     have q1:=h1.below (grow_step ks k1)
     obtain ⟨_,_,_,_,h5⟩:=q1
     rcases h5 with ⟨_,h6,_⟩ | ⟨a',rfl,h6 | ⟨b,off,rfl,_,hc⟩⟩
     ·omega
     ·omega
     have hcx:=hc j o_m
     clear hc
     generalize lz xs j = x at *
     have hbit:=bit_bd x t Bx.1
     have hlr' : lr'≤n:=by
      rw [← hS.1]
      refine canon_len hSc ?_
      omega
     go_wp2_with fail
     refine (reftimes_any (n:=2) (m:=x / 2 ^ t % 2) hS o_m (by decide) (by decide) hbit.1 o_m).mono ?_
     rintro e w4 ⟨a4,l4,c4,z4,rfl,ho4,hc4,hv4,hl4⟩
     rw [hSv] at hv4
     have ks4:=grow_step ho4.1 ks
     have hQ4 : Row w4 w1.heap.size (Q.set j (m * 2 ^ (t + 1))):=(ho4.1.block w1.heap.size hSQ.lt).trans hSQ
     have hb4 : ∀ b,blk a4 = some b→b ≠ w1.heap.size:=fun b hb => by have:=(ho4.lt hb).1; have:=hSQ.lt; omega
     have hl4' : l4≤n + 1:=by
      rw [← ho4.rd.1]
      refine canon_len hc4 ?_
      rw [hv4,pw_succ]
      omega
     have st:=fun k => bit_step (k:=k) o_m HP1.out HP2.out
     generalize hbv : x / 2 ^ t % 2 = bt at *
     go_wp2_with fail
     refine (refcmp_any ho4.rd (hY.below ks4)).mono ?_
     rintro e w5 ⟨rfl,rfl⟩
     by_cases hge : val Y≤val z4
     ·have hcc : ¬ cmpI (val z4) (val Y) < 0:=by unfold cmpI; omega
      generalize cmpI (val z4) (val Y) = cc at *
      go_wp2_with fail
      refine (refsub_any ho4.rd (hY.below ks4) o_m hge).mono ?_
      rintro e w6 ⟨a6,l6,c6,z6,rfl,ho6,hc6,hv6,hl6⟩
      have ks6:=grow_step ho6.1 ks4
      have hQ6 : Row w6 w1.heap.size (Q.set j (m * 2 ^ (t + 1))):=(ho6.1.block w1.heap.size hQ4.lt).trans hQ4
      have hcell:=hQ6.cell (i:=j) (by rw [List.length_set]; omega)
      have hfr:=hQ6.frozen j
      rw [lz_set _ _ _ _ o_m,if_pos rfl] at hcell
      have hM:=m_bd o_m hm0 HM.out
      have HM1:=hide hM.2.2.2.2.1
      have hM0:=hM.1
      have hM1:=hM.2.1
      have hM2:=hM.2.2.1
      clear hM
      go_wp2_with fail
      go_region_with fail
      have ev : IntKind.u32.wrap (m * 2 ^ (t + 1) + 2 ^ t) = (2 * m + 1) * 2 ^ t:=by
       rw [IntWalk.u32_in _ ⟨by omega,by omega⟩]
       exact HM1.out
      rw [ev]
      have hO7 : Only w1.heap.size w6 (w6.setCell ⟨w1.heap.size,j,none⟩ (.int .u32 ((2 * m + 1) * 2 ^ t))).drew:=(Only.set _ _ _ _).trans (Only.drew _ _)
      have hb6 : ∀ b,blk a6 = some b→b ≠ w1.heap.size:=fun b hb => by have:=(ho6.lt hb).1; have:=hQ4.lt; omega
      have r7 : Rd (w6.setCell ⟨w1.heap.size,j,none⟩ (.int .u32 ((2 * m + 1) * 2 ^ t))).drew a6 l6 c6 z6:=ho6.rd.only hO7 (fun x off hx => Or.inr (hb6 x (by rw [hx]; rfl)))
      have q7 : Row (w6.setCell ⟨w1.heap.size,j,none⟩ (.int .u32 ((2 * m + 1) * 2 ^ t))).drew w1.heap.size (Q.set j ((2 * m + 1) * 2 ^ t)):=by
       have h7:=hQ6.set j ((2 * m + 1) * 2 ^ t)
       rw [List.set_set] at h7
       exact h7
      have k7 : Below w1.heap.size w1 (w6.setCell ⟨w1.heap.size,j,none⟩ (.int .u32 ((2 * m + 1) * 2 ^ t))).drew:=(ks6.setCell (Nat.le_refl _) _).drew
      generalize (w6.setCell ⟨w1.heap.size,j,none⟩ (.int .u32 ((2 * m + 1) * 2 ^ t))).drew = w7 at *
      have st1:=st 1
      have HS1:=hide st1.1
      have HS2 : Hid (2 * P + bt = (qv * 2 ^ (32 - t) + (2 * m + 1)) * val Y + val z6):=by
       show _ = _
       rw [st1.2,hv6,hv4,Int.one_mul]
      have HM7 : Hid (2 * m + 1 < 2 ^ (32 - t)):=by
       show _ < _
       have:=HM.out
       rw [tw_succ o_m]
       omega
      clear st st1 hcell hfr hcx
      go_wp2_with fail
      exact ⟨⟨t,_,2 * m + 1,val z6,a6,l6,c6,z6,by omega,by go_num,rfl,r7,hc6,rfl,by omega,by omega,hb6,q7,by omega,HM7,k7,HS1,HS2⟩,by simp [intOf] <;> omega⟩
     have hcc : cmpI (val z4) (val Y) < 0:=by unfold cmpI; omega
     generalize cmpI (val z4) (val Y) = cc at *
     have hM:=m_bd o_m hm0 HM.out
     rw [hM.2.2.2.2.2] at hQ4
     have st0:=st 0
     have HS1:=hide st0.1
     have HS2 : Hid (2 * P + bt = (qv * 2 ^ (32 - t) + 2 * m) * val Y + val z4):=by
      show _ = _
      rw [st0.2,hv4,Int.add_zero,Int.zero_mul,Int.sub_zero]
     have HM7 : Hid (2 * m < 2 ^ (32 - t)):=by
      show _ < _
      have:=HM.out
      rw [tw_succ o_m]
      omega
     clear st st0 hcx hM
     go_wp2_with fail
     exact ⟨⟨t,_,2 * m,val z4,a4,l4,c4,z4,by omega,by go_num,rfl,ho4.rd,hc4,rfl,by omega,by omega,hb4,hQ4,by omega,HM7,ks4,HS1,HS2⟩,by simp [intOf] <;> omega⟩
    obtain rfl : t = 0:=by omega
    rw [Int.pow_zero,Int.mul_one] at hSQ
    have hm1 : m < 4294967296:=HM.out
    have hz:=(unhide HZ) j o_m
    have HZ2 : Hid (∀ i,i < j→lz (Q.set j m) i = 0):=by
     show ∀ _,_
     intro i hi
     rw [lz_set _ _ _ _ o_m,if_neg o_m]
     exact (unhide HZ) i o_m
    have HQ2 : Hid (val (Q.set j m) = pw j * (qv * 4294967296 + m)):=by
     show _ = _
     have:=vl_set (zs:=Q) (m:=j) (n:=Q.length) m o_m o_m
     unfold val
     rw [List.length_set,this,hz,Int.sub_zero]
     have h9 : vl Q Q.length = pw (j + 1) * qv:=HQ.out
     rw [h9,pw_succ,Int.mul_add,Int.mul_comm m (pw j),Int.mul_comm 4294967296 (pw j),Int.mul_assoc,Int.mul_comm 4294967296 qv]
    have HX2 : Hid (val xs = vl xs j + pw j * P):=by
     show _ = _
     have h9 : P = H * 4294967296 + lz xs j:=by
      have:=HP1.out
      rw [Int.pow_zero,Int.ediv_one] at this
      exact this
     rw [HX.out,h9,vl_succ,pw_succ,Int.mul_add,Int.mul_comm (lz xs j) (pw j),Int.mul_comm 4294967296 (pw j),Int.mul_assoc,Int.mul_comm 4294967296 H]
     omega
    have HH2 : Hid (P = (qv * 4294967296 + m) * val Y + rv'):=HP2.out
    go_wp2_with fail
    exact ⟨⟨j,P,qv * 4294967296 + m,rv',ar',lr',cr',zs',Q.set j m,by omega,by go_num,rfl,hS,hSc,hSv,hs0,hs1,hSb,by rw [List.length_set]; exact hQl,hQL.set j hm0 hm1,hSQ,ks,HZ2,HQ2,HX2,HH2⟩,by simp [intOf] <;> omega⟩
  obtain rfl : j = 0:=by omega
  have hH : val xs = H:=by rw [HX.out]; simp [vl,pw]
  have hq0 : val Q = qv:=by rw [HQ.out]; simp [pw]
  have hdm:=Int.ediv_emod_unique (a:=val xs) (b:=val Y) (r:=rv) (q:=qv) hpos
  have hqr:=hdm.2 ⟨by rw [hH,HH.out,Int.mul_comm]; omega,hr0,hr1⟩
  have HD:=hide hqr
  clear hdm hqr
  have rQ:=hQ.rd hQL (off:=0) (len:=l1) (cap:=l1) o_m (Nat.le_refl _) o_m
  rw [List.drop_zero,List.take_of_length_le o_m] at rQ
  have hlr : lr≤n:=by
   rw [← hR.1]
   refine canon_len hRc ?_
   omega
  go_wp2_with fail
  refine (trim_any rQ o_m).mono ?_
  rintro e w4 ⟨rfl,ho4, -⟩
  go_wp2_with fail
  refine (trim_any (hR.below ho4.1) o_m).mono ?_
  rintro e w5 ⟨rfl,ho5, -⟩
  have t1:=tl_le Q l1
  have t2:=tl_le zs lr
  go_wp2_with fail
  refine bodyPost_ret (results_tmp2 rfl _ _ _) rfl ?_
  have kW : Below w.heap.size w wr:=k1.trans (kr.mono k1.size)
  refine ⟨_,_,_,_,_,_,_,_,rfl,(ho4.outer kW).later ho5.1,canon_trim hQL,?_,ho5.outer (grow_step ho4.1 kW),canon_trim hRc.1,?_,by omega,by omega⟩
  ·rw [val_trim,← unhide HVY,hq0]; exact (unhide HD).1.symm
  rw [val_trim,← unhide HVY,hRv]; exact (unhide HD).2.symm


theorem gcdI_both (hm : 0 < m) (hn : 0 < n) (h1 : m % 2 = 0) (h2 : n % 2 = 0) : gcdI m n = 2 * gcdI (m / 2) (n / 2):=by
 obtain ⟨a,rfl⟩ : ∃ a : Nat,m = 2 * (a : Int):=⟨(m / 2).toNat,by omega⟩
 obtain ⟨b,rfl⟩ : ∃ b : Nat,n = 2 * (b : Int):=⟨(n / 2).toNat,by omega⟩
 unfold gcdI
 rw [show (2 * (a : Int)).toNat = 2 * a from by omega,show (2 * (b : Int)).toNat = 2 * b from by omega,show (2 * (a : Int) / 2).toNat = a from by omega,show (2 * (b : Int) / 2).toNat = b from by omega,Nat.gcd_mul_left]
 push_cast
 rfl
theorem gcdI_half (hm : 0 < m) (hn : 0 < n) (h1 : m % 2 = 0) (h2 : n % 2 = 1) : gcdI (m / 2) n = gcdI m n:=by
 obtain ⟨a,rfl⟩ : ∃ a : Nat,m = 2 * (a : Int):=⟨(m / 2).toNat,by omega⟩
 unfold gcdI
 rw [show (2 * (a : Int)).toNat = 2 * a from by omega,show (2 * (a : Int) / 2).toNat = a from by omega]
 have hc : Nat.Coprime 2 n.toNat:=by
  show Nat.gcd 2 n.toNat = 1
  rw [Nat.gcd_rec,show n.toNat % 2 = 1 from by omega]
  rfl
 rw [Nat.Coprime.gcd_mul_left_cancel _ hc]
theorem gcdI_less (hn : 0 < n) (h : n≤m) : gcdI (m - n) n = gcdI m n:=by
 unfold gcdI
 obtain ⟨a,rfl⟩:=Int.eq_ofNat_of_zero_le (show 0≤m from by omega)
 obtain ⟨b,rfl⟩:=Int.eq_ofNat_of_zero_le (Int.le_of_lt hn)
 rw [show ((a : Int) - (b : Int)).toNat = a - b from by omega,Int.toNat_natCast,Int.toNat_natCast,Nat.gcd_sub_self_left o_m]
theorem gcdI_zl (h : 0≤n) : gcdI 0 n = n:=by rw [gcdI_comm]; exact gcdI_zero h
def PnG (w wr : World) (v : Value) (n : Int) (L : Nat) : Prop:=∃ (ad : Option Addr) (l c : Nat) (zs : List Int),v = .slice ad l c∧Out w wr ad l c zs∧Canon zs∧val zs = n∧l≤L

theorem val_par {zs : List Int} (h : 0 < zs.length) : lz zs 0 % 2 = val zs % 2:=by
 cases zs with
 | nil => simp at h
 | cons x r =>
  rw [val_cons]
  show x % 2 = _
  omega

theorem PnG.open (h : PnG w wr v n L) (hn : 0 < n) :
  ∃ (b l c : Nat) (zs : List Int),v = .slice (some ⟨b,0,none⟩) l c∧0 < l∧l≤L∧wr.cell? ⟨b,0,none⟩ = some (.int .u32 (lz zs 0))∧Out w wr (some ⟨b,0,none⟩) l c zs∧Canon zs∧val zs = n∧lz zs 0 % 2 = n % 2∧0≤lz zs 0∧lz zs 0 < 4294967296:=by
 obtain ⟨ad,l,c,zs,rfl,ho,hc,hv,hl⟩:=h
 have hlen:=ho.rd.1
 have h0 : 0 < l:=by
  rcases Nat.eq_zero_or_pos l with h | h
  ·subst h
   rw [List.eq_nil_of_length_eq_zero hlen] at hv
   have : val [] = 0:=rfl
   omega
  exact h
 obtain ⟨_,⟨_,h2,_⟩ | ⟨b,xs,rfl,hb,hr,hlx,hnx,hle,hm,hz⟩⟩:=id ho
 ·omega
 have hcell:=hr.cell (i:=0) o_m
 have e : lz zs 0 = lz xs 0:=by rw [hz,lz_take,if_pos h0]
 have hb:=lz_bd hlx 0
 exact ⟨b,l,c,zs,rfl,h0,hl,by rw [e]; exact hcell,ho,hc,hv,by rw [val_par o_m,hv],by rw [e]; exact hb.1,by rw [e]; exact hb.2⟩

theorem PnG.zero (h : PnG w wr v n L) (hn : n = 0) : ∃ ad c,v = .slice ad 0 c:=by
 obtain ⟨ad,l,c,zs,rfl,ho,hc,hv,hl⟩:=h
 rcases Nat.eq_zero_or_pos zs.length with h | h
 ·rw [ho.rd.1] at h
  subst h
  exact ⟨ad,c,rfl⟩
 have h2:=canon_low hc h
 have:=pw_pos (zs.length - 1)
 omega

theorem PnG.later {w' : World} (h : PnG w wr v n L) (hb : Below wr.heap.size wr w') : PnG w w' v n L:=by
 obtain ⟨ad,l,c,zs,rfl,ho,hc,hv,hl⟩:=h
 exact ⟨ad,l,c,zs,rfl,ho.later hb,hc,hv,hl⟩

theorem pw_two (L : Nat) : pw L = ((2 ^ (32 * L) : Nat) : Int):=by
 induction L with
 | zero => rfl
 | succ L ih =>
  rw [pw_succ,ih,show 32 * (L + 1) = 32 * L + 32 from by omega,Nat.pow_add,show 2 ^ 32 = 4294967296 from rfl,Int.natCast_mul]
  omega
theorem twos_bd {A : Int} (hm : 0 < m) (h : m * 2 ^ t≤A) (hA : A < pw L) : t < 32 * L:=by
 have h1 : 1 * (2 : Int) ^ t≤m * 2 ^ t:=Int.mul_le_mul_of_nonneg_right o_m (Int.pow_nonneg (by decide))
 rw [pw_two] at hA
 have h2 : ((2 ^ t : Nat) : Int) < ((2 ^ (32 * L) : Nat) : Int):=by
  push_cast
  push_cast at hA
  omega
 have h3 : 2 ^ t < 2 ^ (32 * L):=by omega
 exact (Nat.pow_lt_pow_iff_right (by decide)).1 h3

theorem half_bd {A : Int} (h0 : m % 2 = 0) (h : m * 2 ^ t≤A) : m / 2 * 2 ^ (t + 1)≤A:=by
 have e : m / 2 * 2 ^ (t + 1) = m * 2 ^ t:=by
  rw [Int.pow_succ,Int.mul_comm (2 ^ t) 2,← Int.mul_assoc]
  congr 1
  omega
 rw [e]
 exact h
theorem both_two {G : Int} (hm : 0 < m) (hn : 0 < n) (h1 : m % 2 = 0) (h2 : n % 2 = 0) (h : G = 2 ^ t * gcdI m n) : G = 2 ^ (t + 1) * gcdI (m / 2) (n / 2):=by
 rw [h,gcdI_both hm hn h1 h2,Int.pow_succ,Int.mul_assoc]

theorem pow_le (hn : 0≤n) {j k : Nat} (h : j≤k) : n * 2 ^ j≤n * 2 ^ k:=by
 obtain ⟨d,rfl⟩ : ∃ d,k = j + d:=⟨k - j,by omega⟩
 rw [Int.pow_add,← Int.mul_assoc]
 have h1 : (1 : Int)≤2 ^ d:=by
  have : (0 : Int) < 2 ^ d:=Int.pow_pos (by decide)
  omega
 have h2 : n * 2 ^ j * 1≤n * 2 ^ j * 2 ^ d:=Int.mul_le_mul_of_nonneg_left h1 (Int.mul_nonneg hn (Int.pow_nonneg (by decide)))
 omega

def TwosRel (w : World) (G A : Int) (L : Nat) (gk : Nat) (x y t : Value) (wr : World) : Prop :=
 ∃ (m n : Int) (k : Nat),PnG w wr x m L∧PnG w wr y n L∧t = .int .i64 k∧0 < m∧0 < n∧Hid (G = 2 ^ k * gcdI m n)∧Hid (m * 2 ^ k≤A)∧Below w.heap.size w wr∧gk = m.toNat

def OddRel (w : World) (g : Int) (L : Nat) (gk : Nat) (x y : Value) (wr : World) : Prop :=
 ∃ (m n : Int),PnG w wr x m L∧PnG w wr y n L∧0≤m∧0 < n∧(m % 2 = 1 ∨ n % 2 = 1)∧Hid (gcdI m n = g)∧Below w.heap.size w wr∧gk = (m + n).toNat

theorem tm2 {x : Int} (h : 0≤x) : x.tmod 2 = x % 2:=Int.tmod_eq_emod_of_nonneg h

theorem refgcd_L (h1 : Rd w a1 l1 c1 xs) (h2 : Rd w a2 l2 c2 ys) (hL1 : l1≤L) (hL3 : l2≤L) (hL2 : L≤17179869184) :
  Calls Tryz.prog 159 #[.slice a1 l1 c1,.slice a2 l2 c2] w fun e w' => ∃ ad len cap zs,e = .returned (.slice ad len cap)∧Out w w' ad len cap zs∧Canon zs∧val zs = gcdI (val xs) (val ys)∧len≤L:=by
 have hx0:=val_nonneg h1.2.2.2.1
 have hy0:=val_nonneg h2.2.2.2.1
 have hA : val xs < pw L:=by
  have h:=(vl_bd h1.2.2.2.1 l1).2
  have h3 : pw l1≤pw L:=pw_mono hL1
  unfold val
  rw [h1.1]
  omega
 go_enter Tryz.func159,Tryz.ntmps159
 go_wp2_with fail
 refine (trim_any h1 o_m).mono ?_
 rintro e w1 ⟨rfl,ho1, -⟩
 have k1:=ho1.1
 go_wp2_with fail
 refine (trim_any (h2.below k1) o_m).mono ?_
 rintro e w2 ⟨rfl,ho2, -⟩
 have k2 : Below w.heap.size w w2:=grow_step ho2.1 k1
 have t1:=tl_le xs l1
 have t2:=tl_le ys l2
 have pX : PnG w w2 (.slice (some ⟨w.heap.size,0,none⟩) (tl xs l1) (tl xs l1)) (val xs) L:=⟨_,_,_,_,rfl,ho1.later ho2.1,canon_trim h1.2.2.2.1,val_trim xs,by omega⟩
 have pY : PnG w w2 (.slice (some ⟨w1.heap.size,0,none⟩) (tl ys l2) (tl ys l2)) (val ys) L:=⟨_,_,_,_,rfl,ho2.outer k1,canon_trim h2.2.2.2.1,val_trim ys,by omega⟩
 clear ho1 ho2
 generalize tl xs l1 = n1 at *
 generalize tl ys l2 = n2 at *
 by_cases hz1 : val xs = 0
 ·obtain ⟨ad,c,e⟩:=pX.zero hz1
  have e2:=(Value.slice.inj e).2.1
  subst e2
  clear e
  go_wp2_with fail
  go_ret
  obtain ⟨ad,l,c,zs,e,ho,hc,hv,hl⟩:=pY
  exact ⟨ad,l,c,zs,by rw [e]; rfl,ho,hc,by rw [hv,hz1,gcdI_zl hy0],hl⟩
 by_cases hz2 : val ys = 0
 ·obtain ⟨ad,c,e⟩:=pY.zero hz2
  have e2:=(Value.slice.inj e).2.1
  subst e2
  clear e
  obtain ⟨b,l,c,zs,e,hl0, -⟩:=pX.open o_m
  have hn1 : 0 < n1:=by have:=(Value.slice.inj e).2.1; omega
  have hnb1 : ((n1 : Int) == 0) = false:=by rw [beq_eq_false_iff_ne]; omega
  clear e
  go_wp2_with fail
  go_ret
  obtain ⟨ad,l,c,zs,e,ho,hc,hv,hl⟩:=pX
  exact ⟨ad,l,c,zs,by rw [e]; rfl,ho,hc,by rw [hv,hz2,gcdI_zero hx0],hl⟩
 have hn1 : 0 < n1:=by
  obtain ⟨b,l,c,zs,e,hl0, -⟩:=pX.open o_m
  have:=(Value.slice.inj e).2.1; omega
 have hn2 : 0 < n2:=by
  obtain ⟨b,l,c,zs,e,hl0, -⟩:=pY.open o_m
  have:=(Value.slice.inj e).2.1; omega
 have hnb1 : ((n1 : Int) == 0) = false:=by rw [beq_eq_false_iff_ne]; omega
 have hnb2 : ((n2 : Int) == 0) = false:=by rw [beq_eq_false_iff_ne]; omega
 have hstart : Hid (TwosRel w (gcdI (val xs) (val ys)) (val xs) L (val xs).toNat (.slice (some ⟨w.heap.size,0,none⟩) n1 n1) (.slice (some ⟨w1.heap.size,0,none⟩) n2 n2) (.int .i64 0) w2) :=
  ⟨val xs,val ys,0,pX,pY,rfl,by omega,by omega,(by show _ = _; rw [Int.pow_zero,Int.one_mul]),(by show _≤_; rw [Int.pow_zero,Int.mul_one]; exact Int.le_refl _),k2,rfl⟩
 have HA:=hide hA
 clear pX pY hA
 go_wp2_with fail
 go_loopg [5,6,7] (val xs).toNat (fun gk x y t wr => TwosRel w (gcdI (val xs) (val ys)) (val xs) L gk x y t wr)
 case atStart => exact unhide hstart
 case round =>
  obtain ⟨m,n,k,hm,hn,rfl,hm0,hn0,HG,HB,kr,rfl⟩:=hrel
  clear hstart
  have hk:=twos_bd hm0 HB.out HA.out
  obtain ⟨bx,lx,cx,zx,rfl,hlx0,hlxL,cx0,ox,ccx,vx,px,bx0,bx1⟩:=hm.open hm0
  obtain ⟨by',ly,cy,zy,rfl,hly0,hlyL,cy0,oy,ccy,vy,py,by0,by1⟩:=hn.open hn0
  generalize lz zx 0 = u at *
  generalize lz zy 0 = v at *
  have tu:=tm2 bx0
  have tv:=tm2 by0
  by_cases hev : u % 2 = 0∧v % 2 = 0
  ·obtain ⟨hu,hv⟩:=hev
   rw [hu] at tu
   rw [hv] at tv
   have HG2:=hide (both_two hm0 hn0 o_m o_m HG.out)
   have HB2:=hide (half_bd (m:=m) o_m HB.out)
   clear HG HB
   go_wp2_with fail
   refine (refquo_any ox.rd o_m (by decide) (by decide)).mono ?_
   rintro e w3 ⟨aq,lq,cq,zq,rfl,hoq,hcq,hvq,hlq⟩
   have k3:=hoq.1
   replace oy:=oy.later k3
   replace kr3:=grow_step k3 kr
   go_wp2_with fail
   refine (refquo_any oy.rd o_m (by decide) (by decide)).mono ?_
   rintro e w4 ⟨ap,lp,cp,zp,rfl,hop,hcp,hvp,hlp⟩
   have k4:=hop.1
   have q1 : PnG w w4 (.slice aq lq cq) (m / 2) L:=⟨_,_,_,_,rfl,(hoq.outer kr).later k4,hcq,by rw [hvq,vx],by omega⟩
   have q2 : PnG w w4 (.slice ap lp cp) (n / 2) L:=⟨_,_,_,_,rfl,hop.outer kr3,hcp,by rw [hvp,vy],by omega⟩
   have kr4:=grow_step k4 kr3
   clear hvq hvp
   go_wp2_with fail
   go_roundg (m / 2).toNat
   case measure => omega
   case rel => exact ⟨m / 2,n / 2,k + 1,q1,q2,by go_num,by omega,by omega,HG2,HB2,kr4,rfl⟩
  have hodd : m % 2 = 1 ∨ n % 2 = 1:=by omega
  have hGle : Hid (2 ^ k * gcdI m n≤val xs):=by
   show _≤_
   rw [← HG.out]
   unfold gcdI
   have:=Nat.gcd_le_left (m:=(val xs).toNat) (val ys).toNat o_m
   omega
  have hst2 : Hid (OddRel w (gcdI m n) L (m + n).toNat (.slice (some ⟨bx,0,none⟩) lx cx) (.slice (some ⟨by',0,none⟩) ly cy) wr):=⟨m,n,hm,hn,by omega,hn0,hodd,rfl,kr,rfl⟩
  have hcases : (u % 2 = 1) ∨ (u % 2 = 0∧v % 2 = 1):=by omega
  clear HB hm hn
  rcases hcases with hu | ⟨hu,hv⟩
  all_goals (
   rw [hu] at tu
   try rw [hv] at tv
   clear hev hodd
   go_wp2_with fail
   clear cx0 cy0
   go_loopg [5,6] (m + n).toNat (fun gk x y wr => OddRel w (gcdI m n) L gk x y wr)
   case atStart => exact unhide hst2
   case round =>
    obtain ⟨m1,n1',hm1,hn1',hm10,hn10,hodd1,HG1,kr1,rfl⟩:=hrel
    clear hst2
    by_cases hz : m1 = 0
    ·obtain ⟨ax0,cx0',rfl⟩:=hm1.zero hz
     have HGn : Hid (2 ^ k * n1'≤val xs∧gcdI (val xs) (val ys) = 2 ^ k * n1'):=by
      have e : gcdI m n = n1':=by rw [← HG1.out,hz]; exact gcdI_zl o_m
      show _∧_
      rw [← e]
      exact ⟨hGle.out,HG.out⟩
     obtain ⟨b3,l3,c3,z3,rfl,hl30,hl3L, -,o3,cc3,v3, -, -, -⟩:=hn1'.open hn10
     go_wp2_with fail
     go_loopw [6,9] (fun y i wi => ∃ j : Nat,j≤k∧i = .int .i64 j∧PnG w wi y (n1' * 2 ^ j) L∧Below w.heap.size w wi) (fun _ i _ => k - (intOf i).toNat)
     case atStart => exact ⟨0,Nat.zero_le _,rfl,by rw [Int.pow_zero,Int.mul_one]; exact hn1',kr1⟩
     case round =>
      obtain ⟨j,hj,rfl,⟨ad,l,c,zs,rfl,hO,hC,hV,hLL⟩,ki⟩:=hrel
      by_cases hjk : j < k
      ·go_wp2_with fail
       refine (reftimes_any (n:=2) (m:=0) hO.rd o_m (by decide) (by decide) (by decide) (by decide)).mono ?_
       rintro e w5 ⟨a5,l5,c5,z5,rfl,ho5,hc5,hv5,hl5⟩
       have hv6 : val z5 = n1' * 2 ^ (j + 1):=by rw [hv5,hV,Int.pow_succ,Int.mul_assoc,Int.add_zero]
       have h56 : l5≤L:=by
        rw [← ho5.rd.1]
        refine canon_len hc5 ?_
        rw [hv6]
        have h8:=pow_le (n:=n1') (j:=j + 1) (k:=k) o_m o_m
        have h9:=HGn.out.1
        have h10:=HA.out
        rw [Int.mul_comm] at h9
        omega
       have q5 : PnG w w5 (.slice a5 l5 c5) (n1' * 2 ^ (j + 1)) L:=⟨_,_,_,_,rfl,ho5.outer ki,hc5,hv6,h56⟩
       have k5:=grow_step ho5.1 ki
       clear hv5 hv6 hV
       go_wp2_with fail
       exact ⟨⟨j + 1,by omega,by go_num,q5,k5⟩,by simp [intOf] <;> omega⟩
      obtain rfl : j = k:=by omega
      have HF : Hid (val zs = gcdI (val xs) (val ys)):=by
       show _ = _
       rw [hV,HGn.out.2,Int.mul_comm]
      go_wp2_with fail
      go_ret
      exact ⟨_,_,_,_,rfl,hO,hC,HF.out,hLL⟩
    obtain ⟨b3,l3,c3,z3,rfl,hl30,hl3L, -, -, -, -, -, -, -⟩:=hm1.open o_m
    obtain ⟨b4,l4,c4,z4,rfl,hl40,hl4L, -, -, -, -, -, -, -⟩:=hn1'.open hn10
    go_wp2_with fail
    go_loopg [5] m1.toNat (fun gk x wi => ∃ m2 : Int,PnG w wi x m2 L∧PnG w wi (.slice (some ⟨b4,0,none⟩) l4 c4) n1' L∧0 < m2∧m2≤m1∧(m2 % 2 = 1 ∨ n1' % 2 = 1)∧Hid (gcdI m2 n1' = gcdI m n)∧Below w.heap.size w wi∧gk = m2.toNat)
    case atStart => exact ⟨m1,hm1,hn1',by omega,Int.le_refl _,hodd1,HG1,kr1,rfl⟩
    case round =>
     obtain ⟨m2,hm2,hn2',hm20,hm21,hodd2,HG2,kr2,rfl⟩:=hrel
     obtain ⟨b5,l5,c5,z5,rfl,hl50,hl5L,cell5,o5,cc5,v5,p5,q50,q51⟩:=hm2.open hm20
     generalize lz z5 0 = u5 at *
     have t5:=tm2 q50
     by_cases hu5 : u5 % 2 = 0
     ·rw [hu5] at t5
      have HG3 : Hid (gcdI (m2 / 2) n1' = gcdI m n):=by
       show _ = _
       rw [gcdI_half hm20 hn10 o_m o_m]
       exact HG2.out
      go_wp2_with fail
      refine (refquo_any o5.rd o_m (by decide) (by decide)).mono ?_
      rintro e w6 ⟨aq,lq,cq,zq,rfl,hoq,hcq,hvq,hlq⟩
      have q6 : PnG w w6 (.slice aq lq cq) (m2 / 2) L:=⟨_,_,_,_,rfl,hoq.outer kr2,hcq,by rw [hvq,v5],by omega⟩
      have k6:=grow_step hoq.1 kr2
      have n6:=hn2'.later hoq.1
      clear hvq
      go_wp2_with fail
      go_roundg (m2 / 2).toNat
      case measure => omega
      case rel => exact ⟨m2 / 2,q6,n6,by omega,by omega,by omega,HG3,k6,rfl⟩
     have hu51 : u5 % 2 = 1:=by omega
     rw [hu51] at t5
     go_wp2_with fail
     clear cell5
     go_loopg [6] n1'.toNat (fun gk y wi => ∃ n2 : Int,PnG w wi (.slice (some ⟨b5,0,none⟩) l5 c5) m2 L∧PnG w wi y n2 L∧0 < n2∧n2≤n1'∧Hid (gcdI m2 n2 = gcdI m n)∧Below w.heap.size w wi∧gk = n2.toNat)
     case atStart => exact ⟨n1',hm2,hn2',hn10,Int.le_refl _,HG2,kr2,rfl⟩
     case round =>
      obtain ⟨n2,hm3,hn3,hn20,hn21,HG4,kr3,rfl⟩:=hrel
      obtain ⟨b7,l7,c7,z7,rfl,hl70,hl7L,cell7,o7,cc7,v7,p7,q70,q71⟩:=hn3.open hn20
      generalize lz z7 0 = u7 at *
      have t7:=tm2 q70
      by_cases hu7 : u7 % 2 = 0
      ·rw [hu7] at t7
       have HG5 : Hid (gcdI m2 (n2 / 2) = gcdI m n):=by
        show _ = _
        rw [gcdI_comm,gcdI_half hn20 hm20 o_m o_m,gcdI_comm]
        exact HG4.out
       go_wp2_with fail
       refine (refquo_any o7.rd o_m (by decide) (by decide)).mono ?_
       rintro e w8 ⟨aq,lq,cq,zq,rfl,hoq,hcq,hvq,hlq⟩
       have q8 : PnG w w8 (.slice aq lq cq) (n2 / 2) L:=⟨_,_,_,_,rfl,hoq.outer kr3,hcq,by rw [hvq,v7],by omega⟩
       have k8:=grow_step hoq.1 kr3
       have m8:=hm3.later hoq.1
       clear hvq
       go_wp2_with fail
       go_roundg (n2 / 2).toNat
       case measure => omega
       case rel => exact ⟨n2 / 2,m8,q8,by omega,by omega,HG5,k8,rfl⟩
      have hu71 : u7 % 2 = 1:=by omega
      rw [hu71] at t7
      obtain ⟨ad9,l9,c9,z9,e9,o9,cc9,v9,hl9⟩:=id hm3
      obtain ⟨e91,e92,e93⟩:=Value.slice.inj e9
      subst e91 e92 e93
      clear e9
      go_wp2_with fail
      refine (refcmp_any o9.rd o7.rd).mono ?_
      rintro e w10 ⟨rfl,rfl⟩
      rw [v9,v7]
      by_cases hlt : m2 < n2
      ·rw [cmpI_lt hlt]
       have HG6 : Hid (gcdI (n2 - m2) m2 = gcdI m n):=by
        show _ = _
        rw [gcdI_less hm20 o_m,gcdI_comm]
        exact HG4.out
       go_wp2_with fail
       refine (refsub_any o7.rd o9.rd o_m o_m).mono ?_
       rintro e w11 ⟨aq,lq,cq,zq,rfl,hoq,hcq,hvq,hlq⟩
       have q8 : PnG w w11 (.slice aq lq cq) (n2 - m2) L:=⟨_,_,_,_,rfl,hoq.outer kr3,hcq,by rw [hvq,v7,v9],by omega⟩
       have k8:=grow_step hoq.1 kr3
       have m8:=hm3.later hoq.1
       clear hvq
       go_wp2_with fail
       go_roundg (n2 - m2 + m2).toNat
       case measure => omega
       case rel => exact ⟨n2 - m2,m2,q8,m8,by omega,hm20,by omega,HG6,k8,rfl⟩
      have hcc : ¬ cmpI m2 n2 < 0:=by unfold cmpI; omega
      generalize cmpI m2 n2 = cc at *
      have HG6 : Hid (gcdI (m2 - n2) n2 = gcdI m n):=by
       show _ = _
       rw [gcdI_less hn20 o_m]
       exact HG4.out
      go_wp2_with fail
      refine (refsub_any o9.rd o7.rd o_m o_m).mono ?_
      rintro e w11 ⟨aq,lq,cq,zq,rfl,hoq,hcq,hvq,hlq⟩
      have q8 : PnG w w11 (.slice aq lq cq) (m2 - n2) L:=⟨_,_,_,_,rfl,hoq.outer kr3,hcq,by rw [hvq,v7,v9],by omega⟩
      have k8:=grow_step hoq.1 kr3
      have m8:=hn3.later hoq.1
      clear hvq
      go_wp2_with fail
      go_roundg (m2 - n2 + n2).toNat
      case measure => omega
      case rel => exact ⟨m2 - n2,n2,q8,m8,by omega,hn20,by omega,HG6,k8,rfl⟩)

theorem refgcd_any (h1 : Rd w a1 l1 c1 xs) (h2 : Rd w a2 l2 c2 ys) (hl1 : l1≤8589934592) (hl2 : l2≤8589934592) :
  Calls Tryz.prog 159 #[.slice a1 l1 c1,.slice a2 l2 c2] w fun e w' => ∃ ad len cap zs,e = .returned (.slice ad len cap)∧Out w w' ad len cap zs∧Canon zs∧val zs = gcdI (val xs) (val ys)∧len≤l1 + l2:=refgcd_L h1 h2 o_m o_m o_m

end Go.Proofs.YtcfmkjegolpgaaaGreatDoor
