/-
 Several texts in one: T2,T3,T4,T5,K1,Kp,K2,D4,D5,D6.
-/
import Derived.Test.YtaafoppaepcaeaaGreatCd05
import Derived.Test.YtaafoppaepcaeaaGreatCd02
import Derived.Deep.LoopGhost
import Derived.Test.YtaafoppaepcaeaaGreatCd01
set_option maxRecDepth 100000
set_option maxHeartbeats 6400000
namespace Go.Proofs.YtaafoppaepcaeaaGreat
open Go.RowKit

variable {w0 w w':World}{ad a1 a2:Option Addr}{n m:Int}{cap l1 c1 l2 c2 j:Nat}{X xs zs ys:List Int}
theorem Out.alloc {n:Nat}(h:Out w0 w ad n cap X)(o:Obj):Out w0 (w.alloc o) ad n cap X:=
 h.keep (h.1.alloc h.1.size _) (fun _ hb=>Below.heap_alloc _ _ _ (h.lt hb).2)

theorem run_append_one {n:Nat}(hO:Out w0 w ad n cap xs)(ty:TypeId)(x:Int)(h0:0≤x)(h1:x<4294967296)(hbig:n+1≤35184372088832):
  ∃v' w',(Builtin.append_ #[36,36] ty #[.slice ad n cap,.slice (some ⟨w.heap.size,0,none⟩) 1 1]).run Tryz.prog (w.alloc (.cells #[.int .u32 x] 60))= .ok v' w'∧
   ∃ad' cap',v'= .slice ad' (n+1) cap'∧Out w0 w' ad' (n+1) cap' (xs++ [x])∧(∀k,k<w.heap.size→blk ad≠some k→w'.heap[k]? =w.heap[k]?)∧w.heap.size≤w'.heap.size∧(∀k,blk ad'=some k→blk ad=some k∨w.heap.size≤k):=by
 obtain⟨v',w',hr,ad',cap',hv,ho,hg,hbk⟩:=run_append_out (hO.alloc (.cells #[.int .u32 x] 60)) ty ⟨w.heap.size,0,none⟩ 1 1 [x] rfl (fun z hz=>by rw[List.mem_singleton.1 hz];exact⟨h0,h1⟩) (fun j hj=>by
  obtain rfl:j=0:=by omega
  rw[Addr.add_lit]
  exact(row_alloc w [x]).cell (i:=0) (by simp)) hbig
 refine⟨v',w',hr,ad',cap',hv,ho,fun k hk hne=> ?_,?_,fun k hk=> ?_⟩
 ·rw[hg.block k (by simp;omega) (fun e=>hne e.symm)]
  exact Below.heap_alloc _ _ _ hk
 ·have:=hg.size;simp at this;omega
 rcases hbk k hk with h|h
 ·exact .inl h
 exact .inr (by simp at h;omega)

theorem lz_snoc (ps:List Int)(x:Int):lz (ps++ [x]) ps.length=x:=by simp[lz]




theorem val_snoc (Y:List Int)(cr:Int):val (Y++ [cr])=val Y+cr*pw Y.length:=by
 unfold val
 rw[List.length_append,List.length_singleton,vl_succ]
 have e1:vl (Y++ [cr]) Y.length=vl Y Y.length:=vl_congr (fun i hi=>by simp[lz,List.getD,List.getElem?_append_left hi])
 rw[e1,lz_snoc]

theorem canon_len (h:Canon zs){k:Nat}(hv:val zs<pw k):zs.length≤k:=by
 rcases Nat.lt_or_ge k zs.length with h1|h1
 ·have h2:=canon_low h (by omega)
  have h3:pw k≤pw (zs.length-1):=pw_mono (by omega)
  omega
 exact h1


def Nm (w:World)(ad:Option Addr)(len cap:Nat)(n:Int):Prop:=∃zs,Rd w ad len cap zs∧val zs=n
def Cn (w:World)(ad:Option Addr)(len cap:Nat)(n:Int):Prop:=∃zs,Rd w ad len cap zs∧Canon zs∧val zs=n

theorem Cn.nm {len:Nat}(h:Cn w ad len cap n):Nm w ad len cap n:=by
 obtain⟨zs,h1,_,h3⟩:=h;exact⟨zs,h1,h3⟩
theorem Nm.below {len:Nat}(h:Nm w ad len cap n)(hb:Below w.heap.size w w'):Nm w' ad len cap n:=by
 obtain⟨zs,h1,h3⟩:=h;exact⟨zs,h1.below hb,h3⟩
theorem Cn.below {len:Nat}(h:Cn w ad len cap n)(hb:Below w.heap.size w w'):Cn w' ad len cap n:=by
 obtain⟨zs,h1,h2,h3⟩:=h;exact⟨zs,h1.below hb,h2,h3⟩
theorem Nm.nonneg {len:Nat}(h:Nm w ad len cap n):0≤n:=by
 obtain⟨zs,h1,rfl⟩:=h;exact val_nonneg h1.2.2.2.1
theorem out_cn {len:Nat}(h:Out w w' ad len cap zs)(hc:Canon zs)(hv:val zs=n):Cn w' ad len cap n:=⟨zs,h.rd,hc,hv⟩

theorem cmp_n (h1:Nm w a1 l1 c1 m)(h2:Nm w a2 l2 c2 n):
  Calls Tryz.prog 110 #[.slice a1 l1 c1,.slice a2 l2 c2] w fun e w'=>e= .returned (.int .i64 (cmpI m n))∧Below w.heap.size w w':=by
 obtain⟨xs,h1,rfl⟩:=h1
 obtain⟨ys,h2,rfl⟩:=h2
 refine(cmp_any h1 h2).mono ?_
 rintro e w' ⟨rfl,q,rfl⟩
 exact⟨rfl,below_drewN _ _ _⟩

theorem add_n (h1:Nm w a1 l1 c1 m)(h2:Nm w a2 l2 c2 n)(hl1:l1≤1099511627776)(hl2:l2≤1099511627776):
  Calls Tryz.prog 109 #[.slice a1 l1 c1,.slice a2 l2 c2] w fun e w'=> ∃ad len cap,e= .returned (.slice ad len cap)∧Cn w' ad len cap (m+n)∧Below w.heap.size w w'∧len≤max l1 l2+1:=by
 obtain⟨xs,h1,rfl⟩:=h1
 obtain⟨ys,h2,rfl⟩:=h2
 refine(add_any h1 h2 hl1 hl2).mono ?_
 rintro e w' ⟨ad,len,cap,zs,rfl,ho,hc,hv,hl⟩
 exact⟨ad,len,cap,rfl,out_cn ho hc hv,ho.1,hl⟩

theorem sub_n (h1:Nm w a1 l1 c1 m)(h2:Nm w a2 l2 c2 n)(hl1:l1≤1099511627776)(hge:n≤m):
  Calls Tryz.prog 111 #[.slice a1 l1 c1,.slice a2 l2 c2] w fun e w'=> ∃ad len cap,e= .returned (.tuple #[.slice ad len cap,.int .i64 0])∧Cn w' ad len cap (m-n)∧Below w.heap.size w w'∧len≤l1:=by
 obtain⟨xs,h1,rfl⟩:=h1
 obtain⟨ys,h2,rfl⟩:=h2
 refine(sub_any h1 h2 hl1 hge).mono ?_
 rintro e w' ⟨ad,len,cap,zs,rfl,ho,hc,hv,hl⟩
 exact⟨ad,len,cap,rfl,out_cn ho hc hv,ho.1,hl⟩

theorem of_n (n:Int)(h0:0≤n)(h1:n<18446744073709551616)(w:World):
  Calls Tryz.prog 106 #[.int .u64 n] w fun e w'=> ∃ad len cap,e= .returned (.slice ad len cap)∧Cn w' ad len cap n∧Below w.heap.size w w'∧len≤2:=by
 refine(of_any n h0 h1 w).mono ?_
 rintro e w' ⟨ad,len,cap,zs,rfl,ho,hc,hv,hl⟩
 exact⟨ad,len,cap,rfl,out_cn ho hc hv,ho.1,hl⟩

theorem below_alloc (w:World)(o:Obj):Below w.heap.size w (w.alloc o):=(Below.refl _ _).alloc (Nat.le_refl _) _


theorem below_alloc' (h:Below w0.heap.size w0 w)(o:Obj):Below w0.heap.size w0 (w.alloc o):=h.alloc h.size o

theorem grow_alloc (h:Below w0.heap.size w0 w)(o:Obj):Below w0.heap.size w0 (w.alloc o):=below_alloc' h o
theorem grow_drew (h:Below w0.heap.size w0 w):Below w0.heap.size w0 w.drew:=Below.drew h
theorem grow_drewN (h:Below w0.heap.size w0 w)(n:Nat):Below w0.heap.size w0 (w.drewN n):=Below.trans h (below_drewN _ _ _)
theorem grow_step {w1 w2:World}(k:Below w1.heap.size w1 w2)(h:Below w0.heap.size w0 w1):Below w0.heap.size w0 w2:=h.trans (k.mono h.size)

theorem k_f {p:Prop}(h:p:=by kernel_rfl):p:=h
theorem o_m {p:Prop}(h:p:=by omega):p:=h
theorem gw {w w':World}(h:Below w.heap.size w w':=by with_reducible repeat' first|exact Below.refl _ _|assumption|refine grow_step (by assumption) ?_|refine grow_drew ?_|refine grow_alloc ?_ _|refine grow_drewN ?_ _):Below w.heap.size w w':=h
theorem pz :(∀(a:Act) (d:Tmp) (v:Value),a.put (some d) v={a with tmps:=a.tmps.setIfInBounds d v})∧(∀(a:Act) (v:Value),a.put none v=a)∧(∀(l:List Value) (i:Nat) (v:Value),l.toArray.setIfInBounds i v=(l.set i v).toArray)∧(∀(x:Value) (l:List Value) (v:Value),(x::l).set 0 v=v::l)∧ ∀(x:Value) (l:List Value) (n:Nat) (v:Value),(x::l).set (n+1) v=x::l.set n v:=⟨fun _ _ _=>rfl,fun _ _=>rfl,fun _ _ _=>by simp,fun _ _ _=>rfl,fun _ _ _ _=>rfl⟩
theorem cmp_lt (h1:Nm w a1 l1 c1 m)(h2:Nm w a2 l2 c2 n)(he:m<n):
  Calls Tryz.prog 110 #[.slice a1 l1 c1,.slice a2 l2 c2] w fun e w'=>e= .returned (.int .i64 (-1))∧Below w.heap.size w w':=by
 refine(cmp_n h1 h2).mono ?_
 rintro e w' ⟨rfl,hb⟩
 exact⟨ret_int (cmpI_lt he),hb⟩

theorem len32_lay (x:Int)(w:World)(h0:0≤x)(h1:x≤4294967295):
  Calls Tryz.prog 148 #[.int .u32 x] w fun e w'=>e= .returned (.int .i64 (Lib.bitLen x.toNat))∧w'=w:=Any.bits_Len32 Tryz.lays128 x w h0 h1

theorem bitAux_spec (f:Nat): ∀x:Nat,x<2^f→x<2^Lib.bitLenAux f x∧(x≠0→0<Lib.bitLenAux f x∧2^(Lib.bitLenAux f x-1)≤x):=by
 induction f with
 |zero=>intro x hx;simp at hx;subst hx;simp[Lib.bitLenAux]
 |succ f ih=>
  intro x hx
  unfold Lib.bitLenAux
  by_cases h:x=0
  ·subst h;simp
  rw[if_neg h]
  obtain⟨h1,h2⟩:=ih (x / 2) (by rw[Nat.pow_succ]at hx;omega)
  refine⟨?_,fun _=>⟨by omega,?_⟩⟩
  ·rw[Nat.add_comm,Nat.pow_succ];omega
  rw[Nat.add_sub_cancel_left]
  by_cases h3:x / 2=0
  ·have e:Lib.bitLenAux f (x / 2)=0:=by rw[h3];cases f <;> simp[Lib.bitLenAux]
   rw[e];simp;omega
  obtain⟨h4,h5⟩:=h2 h3
  obtain⟨g,hg⟩: ∃g,Lib.bitLenAux f (x / 2)=g+1:=⟨_,(Nat.succ_pred_eq_of_pos h4).symm⟩
  rw[hg]at h5 ⊢
  rw[Nat.add_sub_cancel]at h5
  rw[Nat.pow_succ]
  omega

theorem bitLen_spec (x:Nat)(hx:x<4294967296):x<2^Lib.bitLen x∧(x≠0→0<Lib.bitLen x∧2^(Lib.bitLen x-1)≤x):=
 bitAux_spec 64 x (Nat.lt_of_lt_of_le hx (by decide))

theorem bitLen_le32 (x:Nat)(hx:x<4294967296):Lib.bitLen x≤32:=by
 by_cases h:x=0
 ·subst h;decide
 obtain⟨_,h2⟩:=bitLen_spec x hx
 obtain⟨h3,h4⟩:=h2 h
 rcases Nat.lt_or_ge 32 (Lib.bitLen x)with h5|h5
 ·have:2^32≤2^(Lib.bitLen x-1):=Nat.pow_le_pow_right (by decide) (by omega)
  have e:(2:Nat)^32=4294967296:=by decide
  omega
 exact h5

def bitsL (X:List Int):Nat:=if X.length=0 then 0 else 32*(X.length-1)+Lib.bitLen (lz X (X.length-1)).toNat

theorem bits_any (h1:Rd w a1 l1 c1 xs)(hl:l1≤1099511627776):
  Calls Tryz.prog 124 #[.slice a1 l1 c1] w fun e w'=>e= .returned (.int .i64 (bitsL (trim xs)))∧w=w':=by
 have t1:=h1.trim
 have hb1:=tl_le xs l1
 have hL:=t1.2.2.2.1
 generalize hX:trim xs=X at*
 clear hX
 generalize hn:tl xs l1=n1 at*
 have HN:=hide hn
 clear hn
 have hXl:X.length=n1:=t1.1
 by_cases h0:n1=0
 ·subst h0
  have hbl:=hide (show bitsL X=0 from by unfold bitsL;rw[if_pos hXl])
  clear hXl
  go_enter Tryz.func124,Tryz.ntmps124
  go_wp2_with fail
  refine(bare_any h1).mono ?_
  rintro e w' ⟨rfl,rfl⟩
  rw[unhide HN]
  go_wp2_with fail
  go_ret
  rw[unhide hbl]
  exact⟨rfl,rfl⟩
 obtain⟨b,off,rfl,g⟩:=t1.some (by omega)
 obtain⟨m,rfl⟩: ∃m,n1=m+1:=⟨n1-1,by omega⟩
 have hbl:=hide (show bitsL X=32*m+Lib.bitLen (lz X m).toNat from by unfold bitsL;rw[hXl,if_neg (by omega)];rfl)
 have gm:=g m (by omega)
 have hbd:=lz_bd hL m
 have h32:Lib.bitLen (lz X m).toNat≤32:=bitLen_le32 _ (by omega)
 have hne:(((m:Int)+1)==0)=false:=by rw[beq_eq_false_iff_ne];omega
 clear hXl h0 g
 go_enter Tryz.func124,Tryz.ntmps124
 go_wp2_with fail
 refine(bare_any h1).mono ?_
 rintro e w' ⟨rfl,rfl⟩
 rw[unhide HN]
 go_wp2_with fail
 refine(len32_lay (lz X m) w hbd.1 (by omega)).mono ?_
 rintro e w' ⟨rfl,hw⟩
 have HW:=hide hw.symm
 clear hw
 go_wp2_with fail
 go_ret
 rw[unhide hbl]
 exact⟨ret_int (by omega),unhide HW⟩

theorem bitsL_zero (h:Canon X):bitsL X=0↔val X=0:=by
 rw[canon_zero h]
 constructor
 ·intro hb
  unfold bitsL at hb
  split at hb
  ·exact List.eq_nil_of_length_eq_zero (by assumption)
  rename_i h0
  have h1:=h.2 (by omega)
  have h2:=lz_bd h.1 (X.length-1)
  obtain⟨_,h3⟩:=bitLen_spec (lz X (X.length-1)).toNat (by omega)
  have:=(h3 (by omega)).1
  omega
 rintro rfl;rfl

theorem bits_n (h1:Nm w a1 l1 c1 n)(hl:l1≤1099511627776):
  Calls Tryz.prog 124 #[.slice a1 l1 c1] w fun e w'=> ∃k:Nat,e= .returned (.int .i64 k)∧(k=0↔n=0)∧Below w.heap.size w w':=by
 obtain⟨xs,h1,rfl⟩:=h1
 refine(bits_any h1 hl).mono ?_
 rintro e w' ⟨rfl,rfl⟩
 refine⟨_,rfl,?_,Below.refl _ _⟩
 rw[bitsL_zero (canon_trim h1.2.2.2.1),val_trim]

theorem norm_pure {Y:List Int}(h:Canon Y)(hl:Y.length=j+2): ∃sh:Nat,sh<32∧(32:Int)-(Lib.bitLen (lz Y (j+1)).toNat:Int)=sh∧0<lz Y (j+1)∧Lib.bitLen (lz Y (j+1)).toNat≤32∧2147483648*pw (j+1)≤val Y*2^sh∧val Y*2^sh<pw (j+2):=by
 have hb:=lz_bd h.1 (j+1)
 have hne:=h.2 (by omega)
 rw[hl,show j+2-1=j+1 from by omega]at hne
 obtain⟨u,hu⟩:=Int.eq_ofNat_of_zero_le hb.1
 rw[hu]at hb hne ⊢
 rw[Int.toNat_natCast]
 obtain⟨s1,s2⟩:=bitLen_spec u (by omega)
 obtain⟨s3,s4⟩:=s2 (by omega)
 have s5:=bitLen_le32 u (by omega)
 generalize Lib.bitLen u=l at*
 have hv:val Y=vl Y (j+1)+(u:Int)*pw (j+1):=by unfold val;rw[hl,vl_succ,hu]
 have hlo:=vl_bd h.1 (j+1)
 have hp:=pw_pos (j+1)
 have hp2:pw (j+2)=4294967296*pw (j+1):=pw_succ _
 refine⟨32-l,by omega,by omega,by omega,s5,?_,?_⟩
 ·have h1:((2^(l-1):Nat):Int)*pw (j+1)≤val Y:=by
   have:((2^(l-1):Nat):Int)*pw (j+1)≤(u:Int)*pw (j+1):=Int.mul_le_mul_of_nonneg_right (Int.ofNat_le.2 s4) (by omega)
   omega
  have h2:((2^(l-1):Nat):Int)*pw (j+1)*2^(32-l)≤val Y*2^(32-l):=Int.mul_le_mul_of_nonneg_right h1 (Int.le_of_lt (p2_pos _))
  have e:((2^(l-1):Nat):Int)*pw (j+1)*2^(32-l)=2147483648*pw (j+1):=by
   have e2:((2^(l-1):Nat):Int)*2^(32-l)=2147483648:=by
    have:((2^(l-1):Nat):Int)=(2:Int)^(l-1):=by simp
    rw[this,←Int.pow_add,show l-1+(32-l)=31 from by omega]
    decide
   rw[Int.mul_right_comm,e2]
  omega
 have h1:val Y+1≤((2^l:Nat):Int)*pw (j+1):=by
  have:((u:Int)+1)*pw (j+1)≤((2^l:Nat):Int)*pw (j+1):=Int.mul_le_mul_of_nonneg_right (by have:=Int.ofNat_lt.2 s1;omega) (by omega)
  rw[Int.add_mul]at this
  omega
 have h2:(val Y+1)*2^(32-l)≤((2^l:Nat):Int)*pw (j+1)*2^(32-l):=Int.mul_le_mul_of_nonneg_right h1 (Int.le_of_lt (p2_pos _))
 have e:((2^l:Nat):Int)*pw (j+1)*2^(32-l)=4294967296*pw (j+1):=by
  have e2:((2^l:Nat):Int)*2^(32-l)=4294967296:=by
   have:((2^l:Nat):Int)=(2:Int)^l:=by simp
   rw[this,←Int.pow_add,show l+(32-l)=32 from by omega]
   decide
  rw[Int.mul_right_comm,e2]
 rw[Int.add_mul]at h2
 have:=p2_pos (32-l)
 omega

theorem canon_len_eq {D:List Int}{m:Nat}(h:Canon D)(h1:pw m≤val D)(h2:val D<pw (m+1)):D.length=m+1:=by
 have h3:=canon_len h h2
 have h4:=(vl_bd h.1 D.length).2
 rcases Nat.lt_or_ge m D.length with h5|h5
 ·omega
 have:=pw_mono h5
 unfold val at h1
 omega

theorem top_high {D:List Int}(h:Limbs D)(hl:D.length=j+2)(hv:2147483648*pw (j+1)≤val D):2147483648≤lz D (j+1):=by
 have e:val D=vl D (j+1)+lz D (j+1)*pw (j+1):=by unfold val;rw[hl,vl_succ]
 have h1:=(vl_bd h (j+1)).2
 have hp:=pw_pos (j+1)
 rcases Int.lt_or_le (lz D (j+1)) 2147483648 with h2|h2
 ·have:lz D (j+1)*pw (j+1)≤2147483647*pw (j+1):=Int.mul_le_mul_of_nonneg_right (by omega) (by omega)
  omega
 exact h2

theorem dbm_shift {x y s:Int}(hs:0<s):x*s / (y*s)=x / y∧x*s%(y*s) / s=x%y:=by
 refine⟨Int.mul_ediv_mul_of_pos_left _ _ hs,?_⟩
 rw[Int.mul_comm x s,Int.mul_comm y s,Int.mul_emod_mul_of_pos _ _ hs]
 exact Int.mul_ediv_cancel_left _ (by omega)

theorem dbm_any {Y:List Int}(h1:Rd w a1 l1 c1 X)(h2:Rd w a2 (j+2) c2 Y)(k1:Canon X)(k2:Canon Y)(hl1:l1≤1099511627776)(hge:val Y≤val X):
  Calls Tryz.prog 156 #[.slice a1 l1 c1,.slice a2 (j+2) c2] w fun e w'=> ∃aq lq cq zq ar lr cr zr,e= .returned (.tuple #[.slice aq lq cq,.slice ar lr cr])∧Out w w' aq lq cq zq∧Canon zq∧val zq=val X / val Y∧Out w w' ar lr cr zr∧Canon zr∧val zr=val X%val Y∧lq≤l1∧lr≤l1+1∧(aq=none∨blk aq≠blk ar):=by
 obtain⟨sh,hsh,hsub,htop,hbl,hN1,hN2⟩:=norm_pure k2 h2.1
 have hle:j+2≤l1:=by
  rcases Nat.lt_or_ge l1 (j+2)with h|h
  ·have:=val_lt_of_length k1.1 k2 (by rw[h1.1,h2.1];exact h)
   omega
  exact h
 obtain⟨n,hn⟩: ∃n,l1=j+2+n:=⟨l1-(j+2),by omega⟩
 obtain⟨b2,o2,rfl,g2⟩:=h2.some (by omega)
 have gtop:=g2 (j+1) (by omega)
 have hbd:=lz_bd k2.1 (j+1)
 have HN1:=hide hN1
 have HN2:=hide hN2
 have HGE:=hide hge
 have hmk:=run_mk' n (by omega)
 clear hN1 hN2 hge g2
 subst hn
 go_enter Tryz.func156,Tryz.ntmps156
 go_wp2_with fail
 refine(len32_lay (lz Y (j+1)) w hbd.1 (by omega)).mono ?_
 rintro e w' ⟨rfl,hw⟩
 subst hw
 rename World=>w
 have HSUB:=hide hsub
 go_wp2_with fail
 refine(shiftUp_any h1 hl1 sh hsh).mono ?_
 rintro e w1 ⟨R0,rfl,hR0,hR0L,hR0l,hR0v,hB1,hsz1⟩
 have q2:=h2.below hB1
 have HR0v:=hide hR0v
 have HSZ1:=hide hsz1
 clear hsub hR0v hsz1
 go_wp2_with fail
 refine(shiftUp_any q2 (by omega) sh hsh).mono ?_
 rintro e w2 ⟨D0,rfl,hD0,hD0L,hD0l,hD0v,hB2,hsz2⟩
 have hR2:=hR0.below hB2
 have hB02:Below w.heap.size w w2:=hB1.trans (hB2.mono hB1.size)
 have HD0v:=hide hD0v
 have HSZ2:=hide hsz2
 have hcD:=canon_trim hD0L
 have hvD:val (trim D0)=val Y*2^sh:=by rw[val_trim];exact hD0v
 have hlD:(trim D0).length=j+2:=by
  have h3:=unhide HN1
  have h4:=unhide HN2
  have hp:=pw_pos (j+1)
  exact canon_len_eq hcD (by rw[hvD];omega) (by rw[hvD];exact h4)
 have htl:tl D0 (j+2+1)=j+2:=by have:=trim_length D0;rw[hD0l]at this;omega
 have htop2:=top_high hcD.1 hlD (by rw[hvD];exact unhide HN1)
 have hRD: ∀u:World,Row u w1.heap.size D0→Rd u (some ⟨w1.heap.size,0,none⟩) (j+2) (j+2+1) (trim D0):=fun u hu=>by
  have:=hu.rd hD0L (off:=0) (len:=j+2) (cap:=j+2+1) (by omega) (by omega) (by omega)
  rw[List.drop_zero]at this
  unfold trim
  rw[hD0l,htl]
  exact this
 have HTL:=hide htl
 have HVD:=hide hvD
 have HLD:=hide hlD
 have HRD:=hide hRD
 clear hD0v hsz2 htl hvD hlD hRD hB1 hB2 hR0 q2
 go_wp2_with fail
 refine(bare_own hD0 hD0L hD0l (by omega)).mono ?_
 rintro e w3 ⟨rfl,rfl⟩
 rw[unhide HTL]
 have hc1:((j:Int)+2+(n:Int))-((j:Int)+2)=(n:Int):=by omega
 have hstart:Hid (val R0<val (trim D0)*pw (n+1-0)):=by
  show _<_
  have hS0:=p2_pos sh
  have hS1:=p2_le hsh
  have hX:=(vl_bd k1.1 (j+2+n)).2
  have eX:vl X (j+2+n)=val X:=by unfold val;rw[h1.1]
  have hD:=unhide HN1
  rw[unhide HR0v,unhide HVD,Nat.sub_zero]
  have e1:(val X+1)*2^sh≤pw (j+2+n)*2147483648:=Int.le_trans (Int.mul_le_mul_of_nonneg_right (by omega) (by omega)) (Int.mul_le_mul_of_nonneg_left hS1 (Int.le_of_lt (pw_pos _)))
  have e2:2147483648*pw (j+1)*pw (n+1)≤val Y*2^sh*pw (n+1):=Int.mul_le_mul_of_nonneg_right hD (Int.le_of_lt (pw_pos _))
  rw[Int.mul_assoc,←pw_add,show j+1+(n+1)=j+2+n from by omega]at e2
  rw[Int.add_mul]at e1
  omega
 have hq0:=row_alloc w2 (List.replicate (n+1) 0)
 have hal:=below_alloc w2 (.cells (U (List.replicate (n+1) 0)) 60)
 have hR3:=hR2.below hal
 have hD3:=hD0.below hal
 have hB3:Below w.heap.size w (w2.alloc (.cells (U (List.replicate (n+1) 0)) 60)):=hB02.trans (hal.mono hB02.size)
 have hne1:w.heap.size≠w1.heap.size∧w.heap.size≠w2.heap.size∧w1.heap.size≠w2.heap.size:=by
  have:=unhide HSZ1
  have:=unhide HSZ2
  omega
 have HNE:=hide hne1
 have hA0:Hid (val X*2^sh=val (trim D0)*val (List.replicate (n+1) 0)+val R0):=by
  show _=_
  have e:val (List.replicate (n+1) (0:Int))=0:=by unfold val;exact vl_replicate _ _
  rw[e,unhide HR0v]
  simp
 clear hne1 hR2 hal hB02
 go_wp2_with fail
 go_loopw [38] (fun i wr=> ∃(k:Nat) (R q:List Int),k≤n+1∧i= .int .i64 k∧Row wr w.heap.size R∧Limbs R∧R.length=j+2+n+1∧Row wr w2.heap.size q∧Limbs q∧q.length=n+1∧Row wr w1.heap.size D0∧Below w.heap.size w wr∧val X*2^sh=val (trim D0)*val q+val R∧(∀t,t+k<n+1→lz q t=0)∧val R<val (trim D0)*pw (n+1-k)) (fun i _=>n+1-(intOf i).toNat)
 case atStart=>exact⟨0,R0,_,Nat.zero_le _,rfl,hR3,hR0L,hR0l,hq0,Limbs.replicate _,List.length_replicate,hD3,hB3,unhide hA0,fun t _=>lz_replicate _ _,unhide hstart⟩
 case round=>
  obtain⟨k,R,q,hk,rfl,hR,hRL,hRl,hq,hqL,hql,hD,hB,hA,hqz,hlt⟩:=hrel
  have HA:=hide hA
  have HQZ:=hide hqz
  have HLT:=hide hlt
  have HRl:=hide hRl
  have HQl:=hide hql
  clear hA hqz hlt hRl hql hR3 hD3 hB3 hq0 hR0L hR0l
  by_cases hkn:k<n+1
  ·obtain⟨p,hpk1,hpk2⟩: ∃p,p+k≤n∧n≤p+k:=⟨n-k,by omega,by omega⟩
   have hpl:(n:Int)+1-1-(k:Int)=(p:Int):=by omega
   have hpl2:(n:Int)-(k:Int)=(p:Int):=by omega
   clear hmk hc1 hstart hA0
   go_wp2_with fail
   rw[show p+(j+2)+1-p=j+3 from by omega,show j+2+n+1-p=j+3+k from by omega]
   have hRD:=(unhide HRD) wr hD
   obtain⟨b',o',heq,gD⟩:=hRD.some (by omega)
   simp only[Option.some.injEq,Addr.mk.injEq,and_true]at heq
   obtain⟨rfl,rfl⟩:=heq
   obtain⟨p1,p2,p3,p4,p5⟩:=window_pure (R:=R) (D:=trim D0) (p:=p) (j:=j) hRL hcD.1 (unhide HLD) (by have:=unhide HRl;omega) (by have:=unhide HLT;rwa [show n+1-k=p+1 from by omega]at this)
   have hdpos:0<val (trim D0):=by
    rw[unhide HVD]
    have:=unhide HN1
    have:=pw_pos (j+1)
    omega
   have hDe:vl (trim D0) (j+2)=val (trim D0):=by unfold val;rw[unhide HLD]
   obtain⟨Q,hQ⟩: ∃Q,Q=vl (R.drop p) (j+3) / val (trim D0):=⟨_,rfl⟩
   have hQ0:0≤Q:=by rw[hQ];exact Int.ediv_nonneg p2 (by omega)
   have hQ1:Q<4294967296:=by rw[hQ];exact Int.ediv_lt_of_lt_mul hdpos (by rw[Int.mul_comm];exact p3)
   have hQm:Q*vl (trim D0) (j+2)≤vl (R.drop p) (j+3):=by rw[hDe,hQ,Int.mul_comm];exact Int.mul_ediv_self_le (by omega)
   have hfit:=guess_fits (hRL.drop' p) hcD.1 hQ0 hQm
   simp only[lz_drop]at hfit p5
   have hRlen:p+(j+2)<R.length:=by have:=unhide HRl;omega
   refine(guess_walk (w:=wr) w.heap.size p (j+3+k) w1.heap.size 0 (j+2+1) j (lz R (p+(j+2))) (lz R (p+(j+1))) (lz R (p+j)) (lz (trim D0) (j+1)) (lz (trim D0) j) Q (by omega) (hR.cell (by omega)) (hR.cell (by omega)) (hR.cell (by omega)) (gD (j+1) (by omega)) (gD j (by omega)) (lz_bd hRL _) (lz_bd hRL _) (lz_bd hRL _) ⟨htop2,(lz_bd hcD.1 _).2⟩ (lz_bd hcD.1 _) p5 hQ0 hQ1 hfit).mono ?_
   rintro e w' ⟨g,rfl,hg0,hg1,hg2,nd,rfl⟩
   have hnear:(g-1)*val (trim D0)≤vl (R.drop p) (j+3):=by
    rw[←hDe]
    exact guess_near (hRL.drop' p) hcD.1 (by omega) hg1 (by omega) (by simp only[lz_drop];exact hg2)
   have HP1:=hide p1
   have HP4:=hide p4
   have HQd:=hide hQ
   have HNR:=hide hnear
   clear hfit hQm hg2 hDe p1 p4 p5 hnear gD
   go_wp2_with fail
   refine(takeAway_row (w:=wr.drewN nd) (b:=w.heap.size) (R:=R) (D:=trim D0) (p:=p) (n:=j+3) (cap:=j+3+k) (m:=j+2) (cd:=j+2+1) (ad:=some ⟨w1.heap.size,0,none⟩) (g:=g) hR hRL (by omega) (by omega) (by omega) ((unhide HRD) (wr.drewN nd) hD) (fun x off hx=> .inr (by cases hx;exact fun e=>(unhide HNE).1 e.symm)) rfl (by omega) hg1).mono ?_
   rintro e w4 ⟨R1,bw,rfl,hR1,hR1L,hR1l,hs1,hbw0,hbw1,hv1,ho1⟩
   have hvb:=vl_bd (hR1L.drop' p) (j+3)
   have hD4:Row w4 w1.heap.size D0:=Row.only (c:=w.heap.size) (w:=wr.drewN nd) hD ho1 (fun e=>(unhide HNE).1 e.symm)
   have hq4:Row w4 w2.heap.size q:=Row.only (c:=w.heap.size) (w:=wr.drewN nd) hq ho1 (fun e=>(unhide HNE).2.1 e.symm)
   have hB4:Below w.heap.size w w4:=(hB.trans (below_drewN _ _ _)).trans (ho1.below (Nat.le_refl _))
   have hdc:=digit_cases hdpos (by rw[←hQ];exact hg0) (unhide HNR) hbw0 hbw1 hv1 hvb.1 hvb.2
   have HS1:=hide hs1
   have HR1l:=hide hR1l
   have hqp:lz q p=0:=(unhide HQZ) p (by omega)
   have HQP:=hide hqp
   have hcell4:=hq4.cell (i:=p) (by have:=unhide HQl;omega)
   rw[hqp]at hcell4
   have hfr4:=hq4.frozen p
   have hmodr:vl (R.drop p) (j+3)=val (trim D0)*Q+vl (R.drop p) (j+3)%val (trim D0):=by rw[hQ];exact(Int.mul_ediv_add_emod _ _).symm
   have hr0:=Int.emod_nonneg (vl (R.drop p) (j+3)) (Int.ne_of_gt hdpos)
   have hr1:=Int.emod_lt_of_pos (vl (R.drop p) (j+3)) hdpos
   have HMR:=hide hmodr
   clear hs1 hR1l hqp hv1 hmodr hQ hR hD hq hB
   generalize hrr:vl (R.drop p) (j+3)%val (trim D0)=r at*
   have HRR:=hide hrr
   clear hrr
   have close: ∀(wz:World) (R2:List Int),Row wz w.heap.size R2→Limbs R2→R2.length=R.length→(∀t,t<p∨p+(j+3)≤t→lz R2 t=lz R t)→vl (R2.drop p) (j+3)=r→Row wz w2.heap.size (q.set p Q)→
     val X*2^sh=val (trim D0)*val (q.set p Q)+val R2∧(∀t,t+(k+1)<n+1→lz (q.set p Q) t=0)∧val R2<val (trim D0)*pw (n+1-(k+1)):=by
    intro wz R2 h3 h4 h5 h6 h7 h8
    have hql:=unhide HQl
    have e1:=window_after (R:=R) (R':=R2) (p:=p) (k:=j+3) (r:=r) h5 (by omega) (unhide HP4) h6 h7
    have hRp:=vl_bd hRL p
    have hpp:=pw_pos p
    refine⟨?_,fun t ht=> ?_,?_⟩
    ·rw[e1]
     refine place_step (V:=val q) (q:=Q) (Wv:=vl (R.drop p) (j+3)) ?_ (unhide HMR) ?_
     ·rw[←unhide HP1];exact unhide HA
     unfold val
     rw[List.length_set,vl_set _ (by omega) (by omega),unhide HQP,Int.sub_zero]
    ·rw[lz_set _ _ _ _ (by omega),if_neg (by omega)]
     exact(unhide HQZ) t (by omega)
    rw[e1,show n+1-(k+1)=p from by omega]
    have:pw p*r≤pw p*(val (trim D0)-1):=Int.mul_le_mul_of_nonneg_left (by omega) (by omega)
    rw[Int.mul_sub,Int.mul_one,Int.mul_comm (pw p) (val (trim D0))]at this
    omega
   have HCL:=hide close
   clear close
   rcases hdc with⟨rfl,hgq,hvr⟩|⟨rfl,hgq,hvr⟩
   ·have hgQ:g=Q:=hgq.trans (unhide HQd).symm
    subst hgQ
    have hb0:decide ((0:Int)<0)=false:=by decide
    have hset:=hq4.set p g
    have hR5:=hR1.only (Only.set w2.heap.size p w4 (.int .u32 g)) (unhide HNE).2.1
    have hD5:=hD4.only (Only.set w2.heap.size p w4 (.int .u32 g)) (unhide HNE).2.2
    have hB5:Below w.heap.size w (w4.setCell ⟨w2.heap.size,p,none⟩ (.int .u32 g)):=hB4.setCell (p:=⟨w2.heap.size,p,none⟩) (by have:=unhide HSZ1;have:=unhide HSZ2;show w.heap.size≤w2.heap.size;omega) _
    have HC:=hide ((unhide HCL) _ R1 hR5 hR1L (unhide HR1l) (unhide HS1) hvr hset)
    clear hq4 hR1 hD4 hB4 hvr hgq HCL
    go_wp2_with fail
    go_roundw
    case rel=>exact⟨k+1,R1,q.set p g,by omega,by go_num,hR5,hR1L,(unhide HR1l).trans (unhide HRl),hset,hqL.set p hQ0 hQ1,by rw[List.length_set];exact unhide HQl,hD5,hB5,(unhide HC).1,(unhide HC).2.1,(unhide HC).2.2⟩
    case measure=>simp[intOf];omega
   have hgQ:g-1=Q:=by have:=unhide HQd;omega
   have HGQ:=hide hgQ
   have hb0:decide ((0:Int)<1)=true:=by decide
   have hg1':1≤g:=by omega
   have HVR:=hide hvr
   clear hgQ hgq hvr hfr4 hcell4
   go_wp2_with fail
   refine(putBack_row (w:=w4) (b:=w.heap.size) (R:=R1) (D:=trim D0) (p:=p) (n:=j+3) (cap:=j+3+k) (m:=j+2) (cd:=j+2+1) (ad:=some ⟨w1.heap.size,0,none⟩) hR1 hR1L (by have:=unhide HR1l;omega) (by omega) (by omega) ((unhide HRD) w4 hD4) (fun x off hx=> .inr (by cases hx;exact fun e=>(unhide HNE).1 e.symm)) (by omega)).mono ?_
   rintro e w5 ⟨R2,cr,rfl,hR2,hR2L,hR2l,hs2,hcr0,hcr1,hv2,ho2⟩
   have hD6:=hD4.only ho2 (fun e=>(unhide HNE).1 e.symm)
   have hq6:=hq4.only ho2 (fun e=>(unhide HNE).2.1 e.symm)
   have hB6:=hB4.trans (ho2.below (Nat.le_refl _))
   have hv2b:=vl_bd (hR2L.drop' p) (j+3)
   have hvr2:vl (R2.drop p) (j+3)=r:=by
    have h3:=unhide HVR
    rw[h3]at hv2
    have hcr:cr=0∨cr=1:=by omega
    rcases hcr with rfl|rfl <;> omega
   have hcell6:=hq6.cell (i:=p) (by have:=unhide HQl;omega)
   rw[unhide HQP]at hcell6
   have hfr6:=hq6.frozen p
   have hset:=hq6.set p Q
   have hR7:=hR2.only (Only.set w2.heap.size p w5 (.int .u32 Q)) (unhide HNE).2.1
   have hD7:=hD6.only (Only.set w2.heap.size p w5 (.int .u32 Q)) (unhide HNE).2.2
   have hB7:Below w.heap.size w (w5.setCell ⟨w2.heap.size,p,none⟩ (.int .u32 Q)):=hB6.setCell (p:=⟨w2.heap.size,p,none⟩) (by have:=unhide HSZ1;have:=unhide HSZ2;show w.heap.size≤w2.heap.size;omega) _
   have HC:=hide ((unhide HCL) _ R2 hR7 hR2L (hR2l.trans (unhide HR1l)) (fun t ht=>(hs2 t ht).trans ((unhide HS1) t ht)) hvr2 hset)
   have HL2:=hide (hR2l.trans (unhide HR1l))
   clear hq4 hR1 hD4 hB4 HCL hR2 hD6 hq6 hB6 hs2 hv2 hvr2 hR2l
   go_wp2_with fail
   rw[unhide HGQ]
   go_roundw
   case rel=>exact⟨k+1,R2,q.set p Q,by omega,by go_num,hR7,hR2L,(unhide HL2).trans (unhide HRl),hset,hqL.set p hQ0 hQ1,by rw[List.length_set];exact unhide HQl,hD7,hB7,(unhide HC).1,(unhide HC).2.1,(unhide HC).2.2⟩
   case measure=>simp[intOf];omega
  obtain rfl:k=n+1:=by omega
  have hdpos:0<val (trim D0):=by
   rw[unhide HVD]
   have:=unhide HN1
   have:=pw_pos (j+1)
   omega
  have hRnn:=val_nonneg hRL
  have hlast:val R<val (trim D0):=by
   have:=unhide HLT
   rw[show n+1-(n+1)=0 from by omega]at this
   simpa [pw] using this
  obtain⟨u1,u2⟩:=div_unique hdpos (unhide HA) hRnn hlast
  have hsq:=dbm_shift (x:=val X) (y:=val Y) (p2_pos sh)
  have hqv:Hid (val q=val X / val Y):=by
   show _=_
   rw[←u1,unhide HVD]
   exact hsq.1
  have hrv:Hid (val R / 2^sh=val X%val Y):=by
   show _=_
   rw[←u2,unhide HVD]
   exact hsq.2
  clear u1 u2 hsq hlast hmk
  go_wp2_with fail
  refine(shiftDown_row (n:=j+2+n+1) (cap:=j+2+n+1) hR hRL (unhide HRl) (Nat.le_refl _) (by omega) (by omega) sh hsh).mono ?_
  rintro e w5 ⟨R2,rfl,hR2,hR2L,hR2l,hv2,ho2⟩
  have hq6:=hq.only ho2 (fun e=>(unhide HNE).2.1 e.symm)
  have hB6:=hB.trans (ho2.below (Nat.le_refl _))
  have HV2:=hide hv2
  clear hv2 hR hq hB hD
  go_wp2_with fail
  refine(bare_own hq6 hqL (unhide HQl) (by omega)).mono ?_
  rintro e w6 ⟨rfl,rfl⟩
  go_wp2_with fail
  refine(bare_own hR2 hR2L hR2l (by omega)).mono ?_
  rintro e w6 ⟨rfl,rfl⟩
  have t1:=tl_le q (n+1)
  have t2:=tl_le R2 (j+2+n+1)
  have oq:Out w w5 (some ⟨w2.heap.size,0,none⟩) (tl q (n+1)) (n+1) (trim q):=by
   unfold trim
   rw[unhide HQl]
   exact⟨hB6,.inr ⟨_,q,rfl,by have:=unhide HSZ1;have:=unhide HSZ2;omega,hq6,hqL,unhide HQl,t1,by omega,rfl⟩⟩
  have oR:Out w w5 (some ⟨w.heap.size,0,none⟩) (tl R2 (j+2+n+1)) (j+2+n+1) (trim R2):=by
   unfold trim
   rw[hR2l]
   exact⟨hB6,.inr ⟨_,R2,rfl,Nat.le_refl _,hR2,hR2L,hR2l,t2,by omega,rfl⟩⟩
  have HO:=hide (And.intro oq oR)
  have hblk:Hid (blk (some (⟨w2.heap.size,0,none⟩:Addr))≠blk (some (⟨w.heap.size,0,none⟩:Addr))):=by
   intro h
   simp only[blk,Option.some.injEq]at h
   exact(unhide HNE).2.1 h.symm
  clear oq oR
  go_wp2_with fail
  go_ret2
  refine⟨_,_,_,_,_,_,_,_,rfl,(unhide HO).1,canon_trim hqL,?_,(unhide HO).2,canon_trim hR2L,?_,by omega,by omega,.inr (unhide hblk)⟩
  ·rw[val_trim];exact unhide hqv
  rw[val_trim,unhide HV2];exact unhide hrv

theorem divmod_many (h1:Rd w a1 l1 c1 xs)(h2:Rd w a2 l2 c2 ys)(hl1:l1≤1099511627776)(hge:val ys≤val xs)(hmany:tl ys l2=j+2):
  Calls Tryz.prog 149 #[.slice a1 l1 c1,.slice a2 l2 c2] w fun e w'=> ∃aq lq cq zq ar lr cr zr,e= .returned (.tuple #[.slice aq lq cq,.slice ar lr cr,.int .i64 0])∧Out w w' aq lq cq zq∧Canon zq∧val zq=val xs / val ys∧Out w w' ar lr cr zr∧Canon zr∧val zr=val xs%val ys∧lq≤l1∧lr≤l1+1∧(aq=none∨blk aq≠blk ar):=by
 have t1:=h1.trim
 have t2:=h2.trim
 have k1:=canon_trim h1.2.2.2.1
 have k2:=canon_trim h2.2.2.2.1
 have e1:=val_trim xs
 have e2:=val_trim ys
 rw[hmany]at t2
 have b1:=tl_le xs l1
 generalize hn1:tl xs l1=n1 at*
 have HN1:=hide hn1
 have HN2:=hide hmany
 have hcmp:decide (cmpI (val (trim xs)) (val (trim ys))<0)=false:=by
  unfold cmpI
  rw[if_neg (by omega)]
  split <;> decide
 have hge':val (trim ys)≤val (trim xs):=by omega
 have E1:=hide e1
 have E2:=hide e2
 generalize trim xs=X at*
 generalize trim ys=Y at*
 have hz0:(((j:Int)+2)==0)=false:=by rw[beq_eq_false_iff_ne];omega
 have hz1:(((j:Int)+2)==1)=false:=by rw[beq_eq_false_iff_ne];omega
 clear hn1 hmany e1 e2
 go_enter Tryz.func149,Tryz.ntmps149
 go_wp2_with fail
 refine(bare_any h1).mono ?_
 rintro e w' ⟨rfl,rfl⟩
 rw[unhide HN1]
 go_wp2_with fail
 refine(bare_any h2).mono ?_
 rintro e w' ⟨rfl,rfl⟩
 rw[unhide HN2]
 go_wp2_with fail
 refine(cmp_any t1 t2).mono ?_
 rintro e w' ⟨rfl,qd,rfl⟩
 have hbd:=below_drewN w.heap.size w qd
 go_wp2_with fail
 refine(dbm_any (t1.below hbd) (t2.below hbd) k1 k2 (by omega) hge').mono ?_
 rintro e w1 ⟨aq,lq,cq,zq,ar,lr,cr,zr,rfl,hoq,hcq,hvq,hor,hcr,hvr,hlq,hlr,hblk⟩
 have HO:=hide (And.intro (hoq.outer hbd) (hor.outer hbd))
 have HV:=hide (And.intro hvq hvr)
 have HB:=hide hblk
 clear hoq hor hvq hvr hblk
 go_wp2_with fail
 go_ret3
 refine⟨_,_,_,_,_,_,_,_,rfl,(unhide HO).1,hcq,?_,(unhide HO).2,hcr,?_,by omega,by omega,unhide HB⟩
 ·rw[(unhide HV).1,unhide E1,unhide E2]
 rw[(unhide HV).2,unhide E1,unhide E2]

theorem divmod_any (h1:Rd w a1 l1 c1 xs)(h2:Rd w a2 l2 c2 ys)(hl1:l1≤1099511627776)(hpos:0<val ys):
  Calls Tryz.prog 149 #[.slice a1 l1 c1,.slice a2 l2 c2] w fun e w'=> ∃aq lq cq zq ar lr cr zr,e= .returned (.tuple #[.slice aq lq cq,.slice ar lr cr,.int .i64 0])∧Out w w' aq lq cq zq∧Canon zq∧val zq=val xs / val ys∧Out w w' ar lr cr zr∧Canon zr∧val zr=val xs%val ys∧lq≤l1∧(aq=none∨blk aq≠blk ar):=by
 have hnn:=val_nonneg h1.2.2.2.1
 rcases Int.lt_or_le (val xs) (val ys)with hlt|hge
 ·refine(divmod_less h1 h2 hl1 hlt).mono ?_
  rintro e w' ⟨ad,cap,rfl,ho⟩
  refine⟨none,0,0,[],_,_,_,_,rfl,⟨ho.1,.inl ⟨rfl,rfl,rfl,rfl⟩⟩,canon_nil,?_,ho,canon_trim h1.2.2.2.1,?_,by omega,.inl rfl⟩
  ·rw[Int.ediv_eq_zero_of_lt hnn hlt];rfl
  rw[val_trim,Int.emod_eq_of_lt hnn hlt]
 have ht:=trim_length ys
 rw[h2.1]at ht
 have hv:=val_trim ys
 rcases Nat.lt_trichotomy (tl ys l2) 1 with h|h|h
 ·have:trim ys= []:=List.eq_nil_of_length_eq_zero (by omega)
  rw[this]at hv
  have h0:val []=0:=rfl
  omega
 ·refine(divmod_limb h1 h2 hl1 hge h).mono ?_
  rintro e w' ⟨aq,lq,cq,zq,ar,lr,cr,zr,rfl,hoq,hcq,hvq,hor,hcr,hvr,hlq,_,hb⟩
  exact⟨aq,lq,cq,zq,ar,lr,cr,zr,rfl,hoq,hcq,hvq,hor,hcr,hvr,hlq,hb⟩
 refine(divmod_many (j:=tl ys l2-2) h1 h2 hl1 hge (by omega)).mono ?_
 rintro e w' ⟨aq,lq,cq,zq,ar,lr,cr,zr,rfl,hoq,hcq,hvq,hor,hcr,hvr,hlq,_,hb⟩
 exact⟨aq,lq,cq,zq,ar,lr,cr,zr,rfl,hoq,hcq,hvq,hor,hcr,hvr,hlq,hb⟩

theorem canon_short {l:Nat}(h:Canon zs)(hx:Limbs xs)(hl:xs.length=l)(hv:val zs≤val xs):zs.length≤l:=by
 refine canon_len h ?_
 have:=(vl_bd hx xs.length).2
 rw[hl]at this
 have e:vl xs l=val xs:=by unfold val;rw[hl]
 omega

theorem divmod_n (h1:Nm w a1 l1 c1 m)(h2:Nm w a2 l2 c2 n)(hl1:l1≤1099511627776)(hn0:0<n):
  Calls Tryz.prog 149 #[.slice a1 l1 c1,.slice a2 l2 c2] w fun e w'=> ∃aq lq cq ar lr cr,e= .returned (.tuple #[.slice aq lq cq,.slice ar lr cr,.int .i64 0])∧Cn w' aq lq cq (m / n)∧Cn w' ar lr cr (m%n)∧Below w.heap.size w w'∧lq≤l1∧lr≤l2:=by
 obtain⟨xs,h1,rfl⟩:=h1
 obtain⟨ys,h2,rfl⟩:=h2
 refine(divmod_any h1 h2 hl1 hn0).mono ?_
 rintro e w' ⟨aq,lq,cq,zq,ar,lr,cr,zr,rfl,hoq,hcq,hvq,hor,hcr,hvr,hlq,_⟩
 refine⟨aq,lq,cq,ar,lr,cr,rfl,out_cn hoq hcq hvq,out_cn hor hcr hvr,hoq.1,hlq,?_⟩
 rw[←hor.rd.1]
 exact canon_short hcr h2.2.2.2.1 h2.1 (by rw[hvr];exact Int.le_of_lt (Int.emod_lt_of_pos _ hn0))

def gcdI (m n:Int):Int:=(Nat.gcd m.toNat n.toNat:Int)

theorem gcdI_zero (h:0≤m):gcdI m 0=m:=by
 unfold gcdI
 rw[show(0:Int).toNat=0 from rfl,Nat.gcd_zero_right]
 omega

theorem gcdI_step (hm:0≤m)(hn:0<n):gcdI n (m%n)=gcdI m n:=by
 unfold gcdI
 obtain⟨a,rfl⟩:=Int.eq_ofNat_of_zero_le hm
 obtain⟨b,rfl⟩:=Int.eq_ofNat_of_zero_le (Int.le_of_lt hn)
 rw[←Int.natCast_emod,Int.toNat_natCast,Int.toNat_natCast,Int.toNat_natCast,Nat.gcd_comm a b,Nat.gcd_rec b a,Nat.gcd_comm (a%b) b]

def GcdRel (w:World)(g0:Int)(M:Nat)(gk:Nat)(l p:Value)(wr:World):Prop:=
 ∃aA nA cA A aB nB cB B,l= .slice aA nA cA∧p= .slice aB nB cB∧Rd wr aA nA cA A∧Rd wr aB nB cB B∧Canon B∧nA≤M∧nB≤M∧Below w.heap.size w wr∧gcdI (val A) (val B)=g0∧gk=(val B).toNat

theorem gcd_any (h1:Rd w a1 l1 c1 xs)(h2:Rd w a2 l2 c2 ys)(hl1:l1≤1099511627776)(hl2:l2≤1099511627776):
  Calls Tryz.prog 152 #[.slice a1 l1 c1,.slice a2 l2 c2] w fun e w'=> ∃ad len cap zs,e= .returned (.slice ad len cap)∧Out w w' ad len cap zs∧Canon zs∧val zs=gcdI (val xs) (val ys)∧len≤max l1 l2:=by
 have t1:=h1.trim
 have t2:=h2.trim
 have k2:=canon_trim h2.2.2.2.1
 have b1:=tl_le xs l1
 have b2:=tl_le ys l2
 obtain⟨M,hM1,hM2,hM3,hM4⟩: ∃M,l1≤M∧l2≤M∧M≤1099511627776∧M≤max l1 l2:=⟨max l1 l2,by omega,by omega,by omega,by omega⟩
 have hstart:Hid (GcdRel w (gcdI (val xs) (val ys)) M (val (trim ys)).toNat (.slice a1 (tl xs l1) c1) (.slice a2 (tl ys l2) c2) w):=
  ⟨_,_,_,_,_,_,_,_,rfl,rfl,t1,t2,k2,by omega,by omega,Below.refl _ _,by rw[val_trim,val_trim],rfl⟩
 clear t1 t2 k2
 go_enter Tryz.func152,Tryz.ntmps152
 go_wp2_with fail
 refine(bare_any h1).mono ?_
 rintro e w' ⟨rfl,rfl⟩
 go_wp2_with fail
 refine(bare_any h2).mono ?_
 rintro e w' ⟨rfl,rfl⟩
 go_wp2_with fail
 go_loopg [0,1] (val (trim ys)).toNat (fun gk l p wr=>GcdRel w (gcdI (val xs) (val ys)) M gk l p wr)
 case atStart=>exact unhide hstart
 case round=>
  obtain⟨aA,nA,cA,A,aB,nB,cB,B,rfl,rfl,hA,hB,hcB,hnA,hnB,hbel,hg,rfl⟩:=hrel
  have HG:=hide hg
  clear hg hstart
  by_cases hn0:nB=0
  ·subst hn0
   have hBn:B= []:=List.eq_nil_of_length_eq_zero hB.1
   subst hBn
   have hAn:=val_nonneg hA.2.2.2.1
   have hfin:Hid (val (trim A)=gcdI (val xs) (val ys)):=by
    show _=_
    rw[←unhide HG,val_trim]
    exact(gcdI_zero hAn).symm
   have htA:=tl_le A nA
   have hcA:=canon_trim hA.2.2.2.1
   clear HG
   go_wp2_with fail
   refine(fresh_any hA (by omega)).mono ?_
   rintro e w1 ⟨ad,cap,rfl,ho⟩
   have HO:=hide (ho.outer hbel)
   clear ho
   go_wp2_with fail
   go_ret
   exact⟨_,_,_,_,rfl,unhide HO,hcA,unhide hfin,by omega⟩
  have hpos:0<val B:=by
   have:=canon_low hcB (by rw[hB.1];omega)
   have:=pw_pos (B.length-1)
   omega
  have hAn:=val_nonneg hA.2.2.2.1
  have hg:(0:Int)<(nB:Int):=by omega
  go_wp2_with fail
  refine(divmod_any hA hB (by omega) hpos).mono ?_
  rintro e w1 ⟨aq,lq,cq,zq,ar,lr,cr,zr,rfl,hoq,hcq,hvq,hor,hcr,hvr,hlq,hblk⟩
  have hlr:lr≤nB:=by
   rw[←hor.rd.1]
   exact canon_short hcr hB.2.2.2.1 hB.1 (by rw[hvr];exact Int.le_of_lt (Int.emod_lt_of_pos _ hpos))
  have hrel':Hid (GcdRel w (gcdI (val xs) (val ys)) M (val A%val B).toNat (.slice aB nB cB) (.slice ar lr cr) w1):=
   ⟨_,_,_,_,_,_,_,_,rfl,rfl,hB.below hor.1,hor.rd,hcr,hnB,by omega,hbel.trans (hor.1.mono hbel.size),by rw[hvr,gcdI_step hAn hpos];exact unhide HG,by rw[hvr]⟩
  have hmeas:Hid ((val A%val B).toNat<(val B).toNat):=by
   show _<_
   have h3:=Int.emod_lt_of_pos (val A) hpos
   have h4:=Int.emod_nonneg (val A) (Int.ne_of_gt hpos)
   omega
  clear hoq hor hvq hvr hblk HG hcq hcr
  go_wp2_with fail
  go_roundg (val A%val B).toNat
  case measure=>exact unhide hmeas
  case rel=>exact unhide hrel'
def lcmI (m n:Int):Int:=m / gcdI m n*n

theorem lcm_any (h1:Rd w a1 l1 c1 xs)(h2:Rd w a2 l2 c2 ys)(hl1:l1≤1099511627776)(hl2:l2≤1099511627776):
  Calls Tryz.prog 135 #[.slice a1 l1 c1,.slice a2 l2 c2] w fun e w'=> ∃ad len cap zs,e= .returned (.slice ad len cap)∧Out w w' ad len cap zs∧Canon zs∧val zs=lcmI (val xs) (val ys)∧len≤l1+l2:=by
 go_enter Tryz.func135,Tryz.ntmps135
 go_wp2_with fail
 refine(gcd_any h1 h2 hl1 hl2).mono ?_
 rintro e w1 ⟨ag,lg,cg,zg,rfl,hog,hcg,hvg,hlg⟩
 have HVG:=hide hvg
 have hgl:=hog.rd.1
 clear hvg
 by_cases h0:lg=0
 ·subst h0
  have hzg:zg= []:=List.eq_nil_of_length_eq_zero hgl
  have hfin:Hid (val []=lcmI (val xs) (val ys)):=by
   show _=_
   have e1:=unhide HVG
   rw[hzg]at e1
   unfold lcmI
   rw[←e1]
   show 0=_ / (0:Int)*_
   simp
  have HB:=hide hog.1
  clear HVG hog hgl hzg hcg
  go_wp2_with fail
  go_ret
  exact⟨none,0,0,[],rfl,⟨unhide HB,.inl ⟨rfl,rfl,rfl,rfl⟩⟩,canon_nil,unhide hfin,by omega⟩
 have hne:((lg:Int)==0)=false:=by rw[beq_eq_false_iff_ne];omega
 have hpos:0<val zg:=by
  have:=canon_low hcg (by rw[hgl];omega)
  have:=pw_pos (zg.length-1)
  omega
 have q1:=h1.below hog.1
 have q2:=h2.below hog.1
 have hB1:=hog.1
 have qg:=hog.rd
 clear hog
 go_wp2_with fail
 refine(divmod_any q1 qg hl1 hpos).mono ?_
 rintro e w2 ⟨aq,lq,cq,zq,ar,lr,cr,zr,rfl,hoq,hcq,hvq,hor,hcr,hvr,hlq,hblk⟩
 have q3:=q2.below hoq.1
 have hB2:=hB1.trans (hoq.1.mono hB1.size)
 have HVQ:=hide hvq
 have qq:=hoq.rd
 clear hor hvr hblk hvq hcr hoq q1 q2 hB1 qg
 go_wp2_with fail
 refine(mul_any qq q3 (by omega) hl2).mono ?_
 rintro e w3 ⟨ap,lp,cp,zp,rfl,hop,hcp,hvp,hlp⟩
 have HO:=hide (hop.outer hB2)
 have hfin:Hid (val zp=lcmI (val xs) (val ys)):=by
  show _=_
  rw[hvp,unhide HVQ,unhide HVG]
  rfl
 clear hop hvp
 go_wp2_with fail
 go_ret
 exact⟨_,_,_,_,rfl,unhide HO,hcp,unhide hfin,by omega⟩
theorem lcm_n (h1:Nm w a1 l1 c1 m)(h2:Nm w a2 l2 c2 n)(hl1:l1≤1099511627776)(hl2:l2≤1099511627776):
  Calls Tryz.prog 135 #[.slice a1 l1 c1,.slice a2 l2 c2] w fun e w'=> ∃ad len cap,e= .returned (.slice ad len cap)∧Cn w' ad len cap (lcmI m n)∧Below w.heap.size w w'∧len≤l1+l2:=by
 obtain⟨xs,h1,rfl⟩:=h1
 obtain⟨ys,h2,rfl⟩:=h2
 refine(lcm_any h1 h2 hl1 hl2).mono ?_
 rintro e w' ⟨ad,len,cap,zs,rfl,ho,hc,hv,hl⟩
 exact⟨ad,len,cap,rfl,out_cn ho hc hv,ho.1,hl⟩
theorem Cn.len {len:Nat}(h:Cn w ad len cap n):n=0↔len=0:=by
 obtain⟨zs,h1,h2,rfl⟩:=h
 rw[canon_zero h2]
 constructor
 ·rintro rfl;exact h1.1.symm
 intro h;exact List.eq_nil_of_length_eq_zero (h1.1.trans h)

end Go.Proofs.YtaafoppaepcaeaaGreat
