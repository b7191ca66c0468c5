/-
 Several texts in one: R1,R3,R5,R6.
-/
import Derived.Test.YtaafoppaepcaeaaGreatCd06
import Derived.Laws.CopyOwn
set_option maxRecDepth 100000
set_option maxHeartbeats 3200000
namespace Go.Proofs.YtaafoppaepcaeaaGreat
open Go.RowKit

variable {w:World}{cap len l1 c1 l2 c2:Nat}{ad a1 a2:Option Addr}{X zs xs ys:List Int}
theorem size49 :(Tryz.prog.info? 60).map (·.size)=some 1:=by kernel_rfl

theorem run_copy_rd {g dLen dCap n:Nat}{cur:List Int}(hg:Row w g cur)(hX:Rd w ad n cap X)(hd:dLen≤cur.length)(ty:TypeId):
  ∃v' w',(Builtin.copy_ #[36,36] ty #[.slice (some ⟨g,0,none⟩) dLen dCap,.slice ad n cap]).run Tryz.prog w= .ok v' w'∧(∃k:Nat,v'=goInt k)∧Row w' g (X.take (min n dLen)++cur.drop (min n dLen))∧Only g w w':=by
 obtain⟨h1,h2,h3,h4,h5⟩:=hX
 have fin: ∀a,ad=some a→(∀j,j<n→w.cell? (a.add j)=some (.int .u32 (lz X j)))→∃v' w',(Builtin.copy_ #[36,36] ty #[.slice (some ⟨g,0,none⟩) dLen dCap,.slice ad n cap]).run Tryz.prog w= .ok v' w'∧(∃k:Nat,v'=goInt k)∧Row w' g (X.take (min n dLen)++cur.drop (min n dLen))∧Only g w w':=by
  rintro a rfl hc
  have hlen:((X.take (min n dLen)).map (Value.int .u32)).length=Nat.min n dLen:=by
   rw[List.length_map,List.length_take];show min (min n dLen) X.length=min n dLen;omega
  have hr:=run_copy_row (P:=Tryz.prog) w 36 36 ty 60 g 0 dLen dCap a n cap (U cur) 60 ((X.take (min n dLen)).map (Value.int .u32)) Tryz.underlying36 size49 hg hlen
   (fun j v hv=>by
    obtain⟨q1,rfl⟩:=lz_map hv
    rw[List.length_take]at q1
    rw[lz_take,if_pos o_m]
    exact hc j o_m)
   (by rw[U_size,hlen];show 0+min n dLen≤_;omega)
   (fun u hu=>by obtain⟨z,_,rfl⟩:=List.mem_map.1 hu;rfl)
  refine⟨_,_,hr,⟨_,rfl⟩,?_,⟨rfl,rfl,rfl,by simp,fun k hk=>setRow_other w g k _ hk⟩⟩
  have:=setRow_heap w g (U cur) ((U cur).toList.take 0++(X.take (min n dLen)).map (Value.int .u32)++(U cur).toList.drop (0+((X.take (min n dLen)).map (Value.int .u32)).length)).toArray 60 (0,0) hg
  rw[Row,this,hlen]
  have hmm:Nat.min n dLen=min n dLen:=rfl
  simp[U,List.map_take,List.map_drop,hmm]
 rcases h5 with⟨rfl,rfl,rfl⟩|⟨a,rfl,rfl|⟨b,off,rfl,_,hc⟩⟩
 ·refine⟨_,_,run_copy_nil (P:=Tryz.prog) w 36 36 ty 60 ⟨g,0,none⟩ dLen dCap Tryz.underlying36 (by rw[size49];rfl),⟨0,rfl⟩,?_,Only.refl _ _⟩
  simpa using hg
 ·exact fin a rfl (fun j hj=>absurd hj o_m)
 exact fin _ rfl (fun j hj=>by rw[Addr.add_lit];exact hc j hj)

theorem at_any (h:Rd w ad len cap zs)(i:Int)(h0:0≤i)(hi:i≤9223372036854775807):
  Calls Tryz.prog 131 #[.slice ad len cap,.int .i64 i] w fun e w'=>e= .returned (.int .u64 (lz zs i.toNat))∧w=w':=by
 obtain⟨n,rfl⟩:=Int.eq_ofNat_of_zero_le h0
 rw[Int.toNat_natCast]
 obtain⟨h1,h2,h3,h4,h5⟩:=h
 by_cases hlt:n<len
 ·rcases h5 with⟨_,h6,_⟩|⟨a,rfl,h6|⟨b,off,rfl,_,hc⟩⟩
  ·omega
  ·omega
  have hcn:=hc n hlt
  have hb:=lz_bd h4 n
  clear hc
  go_enter Tryz.func131,Tryz.ntmps131
  go_wp2
  go_ret
  exact⟨rfl,rfl⟩
 have hz:=lz_out (zs:=zs) (i:=n) o_m
 have HZ:Hid (lz zs n=0):=hz
 clear hz h5
 go_enter Tryz.func131,Tryz.ntmps131
 go_wp2
 go_ret
 rw[HZ.out]
 exact⟨rfl,rfl⟩

theorem trim_fin {w':World}{m:Nat}(hxl:xs.length=len)(hl:Limbs xs)(hm:tl xs len=m)(hb:len≤35184372088832)
  (hr:Row w' w.heap.size (xs.take (min len m)++(List.replicate m (0:Int)).drop (min len m)))(ho:Only w.heap.size (w.alloc (.cells (U (List.replicate m 0)) 60)) w'):
  Ending.returned (.slice (some ⟨w.heap.size,0,none⟩) m m)= .returned (.slice (some ⟨w.heap.size,0,none⟩) (tl xs len) (tl xs len))∧Out w w' (some ⟨w.heap.size,0,none⟩) (tl xs len) (tl xs len) (trim xs)∧w'.heap.size=w.heap.size+1:=by
 have hb1:=tl_le xs len
 subst hm
 rw[Nat.min_eq_right hb1,List.drop_eq_nil_of_le (by simp),List.append_nil]at hr
 have e:trim xs=(xs.take (tl xs len)).take (tl xs len):=by unfold trim;rw[hxl,List.take_take,Nat.min_self]
 refine⟨rfl,?_,by rw[ho.size];simp⟩
 rw[e]
 exact out_row ((below_alloc w _).trans (ho.below (Nat.le_refl _))) hr (hl.take _) (by rw[List.length_take];omega) (Nat.le_refl _) o_m

theorem rd_alloc (h:Rd w ad len cap zs)(o:Obj):Rd (w.alloc o) ad len cap zs:=h.below (below_alloc w o)

theorem trim_any (h:Rd w ad len cap xs)(hl:len≤35184372088832):
  Calls Tryz.prog 114 #[.slice ad len cap] w fun e w'=>e= .returned (.slice (some ⟨w.heap.size,0,none⟩) (tl xs len) (tl xs len))∧Out w w' (some ⟨w.heap.size,0,none⟩) (tl xs len) (tl xs len) (trim xs)∧w'.heap.size=w.heap.size+1:=by
 have hxl:=h.1
 have hlim:=h.2.2.2.1
 have hmk0:=run_mk 0 (by decide)
 rw[show((0:Nat):Int)=0 from rfl]at hmk0
 have h0:=rd_alloc h (.cells (U (List.replicate 0 0)) 60)
 by_cases hlz:len=0
 ·subst hlz
  go_enter Tryz.func114,Tryz.ntmps114
  go_wp2
  refine wp_loop_rounds 1 ?_
  rw[rounds_succ]
  obtain⟨v',w',hrun,⟨kk,rfl⟩,hr,ho⟩:=run_copy_rd (dLen:=0) (dCap:=0) (row_alloc w _) h0 (Nat.zero_le _) 3
  rw[show U (List.replicate 0 (0:Int))=U [] from rfl]at hrun
  go_wp2
  go_ret
  exact trim_fin hxl hlim rfl hl hr ho
 obtain⟨b,off,rfl,g⟩:=h.some o_m
 go_enter Tryz.func114,Tryz.ntmps114
 go_wp2
 go_loop [3] (fun n=> ∃k:Nat,k≤len∧n= .int .i64 k∧Hid (tl xs len=tl xs k)) (fun n=>(intOf n).toNat)
 case atStart=>exact⟨len,Nat.le_refl _,rfl,rfl⟩
 case round=>
  obtain⟨k,hk,rfl,HT⟩:=hrel
  cases k with
  |zero=>
   obtain⟨v',w',hrun,⟨kk,rfl⟩,hr,ho⟩:=run_copy_rd (dLen:=0) (dCap:=0) (row_alloc w _) h0 (Nat.zero_le _) 3
   rw[show U (List.replicate 0 (0:Int))=U [] from rfl]at hrun
   go_wp2
   go_ret
   exact trim_fin hxl hlim HT.out hl hr ho
  |succ m=>
   have hcm:=g m o_m
   by_cases hz0:lz xs m=0
   ·have HZ:Hid (lz xs m=0):=hz0
    have hz1:(lz xs m==0)=true:=by simp[hz0]
    clear hz0
    go_wp2
    go_round
    case rel=>exact⟨m,by omega,by go_num,by show _=_;rw[HT.out];conv=>lhs;rw[tl,if_pos HZ.out]⟩
    case measure=>simp[intOf]
   have HZ:Hid (¬lz xs m=0):=hz0
   have hz1:(lz xs m==0)=false:=by simp[hz0]
   have hm1:Hid (tl xs len=m+1):=by show _=_;rw[HT.out,tl,if_neg HZ.out]
   have hmk:=run_mk' m o_m
   have h1:=rd_alloc h (.cells (U (List.replicate (m+1) 0)) 60)
   clear hz0
   obtain⟨v',w',hrun,⟨kk,rfl⟩,hr,ho⟩:=run_copy_rd (dLen:=m+1) (dCap:=m+1) (row_alloc w (List.replicate (m+1) 0)) h1 (by rw[List.length_replicate];exact Nat.le_refl _) 3
   go_wp2
   go_ret
   exact trim_fin hxl hlim hm1.out hl hr ho

theorem cmpI_add (a b c:Int):cmpI (a+c) (b+c)=cmpI a b:=by
 unfold cmpI
 by_cases h1:a<b
 ·rw[if_pos h1,if_pos o_m]
 rw[if_neg h1,if_neg o_m]
 by_cases h2:b<a
 ·rw[if_pos h2,if_pos o_m]
 rw[if_neg h2,if_neg o_m]

theorem ret_val {a b:Int}(h:a=b):Value.int .i64 a= .int .i64 b:=by rw[h]

theorem cmp_up (hx:Limbs xs)(hy:Limbs ys)(k:Nat):cmpI (vl xs (k+1)) (vl ys (k+1))=if lz xs k<lz ys k then -1 else if lz ys k<lz xs k then 1 else cmpI (vl xs k) (vl ys k):=by
 split
 ·rename_i h;exact cmpI_lt (vl_lt_of_lz hx hy (i:=k) o_m (fun j h1 h2=>by omega) h)
 split
 ·rename_i h;exact cmpI_gt (vl_lt_of_lz hy hx (i:=k) o_m (fun j h1 h2=>by omega) h)
 have e:lz xs k=lz ys k:=by omega
 rw[vl_succ,vl_succ,e,cmpI_add]

theorem refcmp_any (h1:Rd w a1 l1 c1 xs)(h2:Rd w a2 l2 c2 ys):
  Calls Tryz.prog 94 #[.slice a1 l1 c1,.slice a2 l2 c2] w fun e w'=>e= .returned (.int .i64 (cmpI (val xs) (val ys)))∧w=w':=by
 have L1:Hid (xs.length=l1):=h1.1
 have L2:Hid (ys.length=l2):=h2.1
 have b1:l1≤9223372036854775807:=by have:=h1.2;omega
 have b2:l2≤9223372036854775807:=by have:=h2.2;omega
 go_enter Tryz.func94,Tryz.ntmps94
 go_wp2_with fail
 go_loop [5,6] (fun o i=> ∃(k:Nat),k≤max l1 l2∧i= .int .i64 k∧o= .int .i64 (cmpI (vl xs k) (vl ys k))) (fun _ i=>max l1 l2-(intOf i).toNat)
 case atStart=>exact⟨0,Nat.zero_le _,rfl,rfl⟩
 case round=>
  obtain⟨k,hk,rfl,rfl⟩:=hrel
  by_cases hkN:k<max l1 l2
  ·have hcu:=hide (cmp_up h1.2.2.2.1 h2.2.2.2.1 k)
   by_cases hk1:k<l1
   ·rcases Int.lt_trichotomy (lz xs k) (lz ys k)with hl|hl|hl
    ·have HV:Hid (cmpI (vl xs (k+1)) (vl ys (k+1))= -1):=by show _=_;rw[hcu.out,if_pos hl]
     have f2:decide (lz ys k<lz xs k)=false:=by simp;omega
     go_wp2_with fail
     refine(at_any h1 (k:Int) o_m o_m).mono ?_
     rintro e w' ⟨rfl,rfl⟩
     rw[Int.toNat_natCast]
     go_wp2_with fail
     refine(at_any h2 (k:Int) o_m o_m).mono ?_
     rintro e w' ⟨rfl,rfl⟩
     rw[Int.toNat_natCast]
     go_wp2_with fail
     refine(at_any h1 (k:Int) o_m o_m).mono ?_
     rintro e w' ⟨rfl,rfl⟩
     rw[Int.toNat_natCast]
     go_wp2_with fail
     refine(at_any h2 (k:Int) o_m o_m).mono ?_
     rintro e w' ⟨rfl,rfl⟩
     rw[Int.toNat_natCast]
     go_wp2_with fail
     go_round
     case rel=>exact⟨k+1,by omega,by go_num,ret_val HV.out.symm⟩
     case measure=>simp[intOf];omega
    ·have HV:Hid (cmpI (vl xs (k+1)) (vl ys (k+1))=cmpI (vl xs k) (vl ys k)):=by show _=_;rw[hcu.out,if_neg o_m,if_neg o_m]
     have f1:decide (lz xs k<lz ys k)=false:=by simp;omega
     have f2:decide (lz ys k<lz xs k)=false:=by simp;omega
     clear hl
     go_wp2_with fail
     refine(at_any h1 (k:Int) o_m o_m).mono ?_
     rintro e w' ⟨rfl,rfl⟩
     rw[Int.toNat_natCast]
     go_wp2_with fail
     refine(at_any h2 (k:Int) o_m o_m).mono ?_
     rintro e w' ⟨rfl,rfl⟩
     rw[Int.toNat_natCast]
     go_wp2_with fail
     refine(at_any h1 (k:Int) o_m o_m).mono ?_
     rintro e w' ⟨rfl,rfl⟩
     rw[Int.toNat_natCast]
     go_wp2_with fail
     refine(at_any h2 (k:Int) o_m o_m).mono ?_
     rintro e w' ⟨rfl,rfl⟩
     rw[Int.toNat_natCast]
     go_wp2_with fail
     go_round
     case rel=>exact⟨k+1,by omega,by go_num,ret_val HV.out.symm⟩
     case measure=>simp[intOf];omega
    have HV:Hid (cmpI (vl xs (k+1)) (vl ys (k+1))=1):=by show _=_;rw[hcu.out,if_neg o_m,if_pos hl]
    have f1:decide (lz xs k<lz ys k)=false:=by simp;omega
    go_wp2_with fail
    refine(at_any h1 (k:Int) o_m o_m).mono ?_
    rintro e w' ⟨rfl,rfl⟩
    rw[Int.toNat_natCast]
    go_wp2_with fail
    refine(at_any h2 (k:Int) o_m o_m).mono ?_
    rintro e w' ⟨rfl,rfl⟩
    rw[Int.toNat_natCast]
    go_wp2_with fail
    refine(at_any h1 (k:Int) o_m o_m).mono ?_
    rintro e w' ⟨rfl,rfl⟩
    rw[Int.toNat_natCast]
    go_wp2_with fail
    refine(at_any h2 (k:Int) o_m o_m).mono ?_
    rintro e w' ⟨rfl,rfl⟩
    rw[Int.toNat_natCast]
    go_wp2_with fail
    go_round
    case rel=>exact⟨k+1,by omega,by go_num,ret_val HV.out.symm⟩
    case measure=>simp[intOf];omega
   have hk2:k<l2:=by omega
   rcases Int.lt_trichotomy (lz xs k) (lz ys k)with hl|hl|hl
   ·have HV:Hid (cmpI (vl xs (k+1)) (vl ys (k+1))= -1):=by show _=_;rw[hcu.out,if_pos hl]
    have f2:decide (lz ys k<lz xs k)=false:=by simp;omega
    go_wp2_with fail
    refine(at_any h1 (k:Int) o_m o_m).mono ?_
    rintro e w' ⟨rfl,rfl⟩
    rw[Int.toNat_natCast]
    go_wp2_with fail
    refine(at_any h2 (k:Int) o_m o_m).mono ?_
    rintro e w' ⟨rfl,rfl⟩
    rw[Int.toNat_natCast]
    go_wp2_with fail
    refine(at_any h1 (k:Int) o_m o_m).mono ?_
    rintro e w' ⟨rfl,rfl⟩
    rw[Int.toNat_natCast]
    go_wp2_with fail
    refine(at_any h2 (k:Int) o_m o_m).mono ?_
    rintro e w' ⟨rfl,rfl⟩
    rw[Int.toNat_natCast]
    go_wp2_with fail
    go_round
    case rel=>exact⟨k+1,by omega,by go_num,ret_val HV.out.symm⟩
    case measure=>simp[intOf];omega
   ·have HV:Hid (cmpI (vl xs (k+1)) (vl ys (k+1))=cmpI (vl xs k) (vl ys k)):=by show _=_;rw[hcu.out,if_neg o_m,if_neg o_m]
    have f1:decide (lz xs k<lz ys k)=false:=by simp;omega
    have f2:decide (lz ys k<lz xs k)=false:=by simp;omega
    clear hl
    go_wp2_with fail
    refine(at_any h1 (k:Int) o_m o_m).mono ?_
    rintro e w' ⟨rfl,rfl⟩
    rw[Int.toNat_natCast]
    go_wp2_with fail
    refine(at_any h2 (k:Int) o_m o_m).mono ?_
    rintro e w' ⟨rfl,rfl⟩
    rw[Int.toNat_natCast]
    go_wp2_with fail
    refine(at_any h1 (k:Int) o_m o_m).mono ?_
    rintro e w' ⟨rfl,rfl⟩
    rw[Int.toNat_natCast]
    go_wp2_with fail
    refine(at_any h2 (k:Int) o_m o_m).mono ?_
    rintro e w' ⟨rfl,rfl⟩
    rw[Int.toNat_natCast]
    go_wp2_with fail
    go_round
    case rel=>exact⟨k+1,by omega,by go_num,ret_val HV.out.symm⟩
    case measure=>simp[intOf];omega
   have HV:Hid (cmpI (vl xs (k+1)) (vl ys (k+1))=1):=by show _=_;rw[hcu.out,if_neg o_m,if_pos hl]
   have f1:decide (lz xs k<lz ys k)=false:=by simp;omega
   go_wp2_with fail
   refine(at_any h1 (k:Int) o_m o_m).mono ?_
   rintro e w' ⟨rfl,rfl⟩
   rw[Int.toNat_natCast]
   go_wp2_with fail
   refine(at_any h2 (k:Int) o_m o_m).mono ?_
   rintro e w' ⟨rfl,rfl⟩
   rw[Int.toNat_natCast]
   go_wp2_with fail
   refine(at_any h1 (k:Int) o_m o_m).mono ?_
   rintro e w' ⟨rfl,rfl⟩
   rw[Int.toNat_natCast]
   go_wp2_with fail
   refine(at_any h2 (k:Int) o_m o_m).mono ?_
   rintro e w' ⟨rfl,rfl⟩
   rw[Int.toNat_natCast]
   go_wp2_with fail
   go_round
   case rel=>exact⟨k+1,by omega,by go_num,ret_val HV.out.symm⟩
   case measure=>simp[intOf];omega
  have e1: ¬k<l1:=by omega
  have e2: ¬k<l2:=by omega
  have HE:Hid (cmpI (vl xs k) (vl ys k)=cmpI (val xs) (val ys)):=by
   show _=_
   rw[vl_ge (by have:=L1.out;omega),vl_ge (by have:=L2.out;omega)]
  go_wp2_with fail
  go_ret
  exact⟨ret_int HE.out,rfl⟩

theorem snoc_step {k:Nat}{cr s T:Int}(hk:zs.length=k)(h:val zs+cr*pw k=T):
  val (zs++ [(s+cr)%4294967296])+((s+cr) / 4294967296)*pw (k+1)=T+s*pw k:=by
 rw[val_snoc,hk,pw_succ]
 have e:(s+cr)%4294967296+4294967296*((s+cr) / 4294967296)=s+cr:=Int.emod_add_mul_ediv _ _
 have e2:(s+cr) / 4294967296*(4294967296*pw k)=(4294967296*((s+cr) / 4294967296))*pw k:=by
  rw[←Int.mul_assoc,Int.mul_comm ((s+cr) / 4294967296)]
 rw[e2,Int.add_assoc,←Int.add_mul,e,Int.add_mul]
 omega

theorem out_nil (w:World):Out w w none 0 0 []:=⟨Below.refl _ _,.inl ⟨rfl,rfl,rfl,rfl⟩⟩

theorem refadd_any (h1:Rd w a1 l1 c1 xs)(h2:Rd w a2 l2 c2 ys)(hl1:l1≤1099511627776)(hl2:l2≤1099511627776):
  Calls Tryz.prog 93 #[.slice a1 l1 c1,.slice a2 l2 c2] w fun e w'=> ∃ad len cap zs,e= .returned (.slice ad len cap)∧Out w w' ad len cap zs∧Canon zs∧val zs=val xs+val ys∧len≤max l1 l2+1:=by
 have L1:Hid (xs.length=l1):=h1.1
 have L2:Hid (ys.length=l2):=h2.1
 go_enter Tryz.func93,Tryz.ntmps93
 go_wp2_with fail
 go_loopw [5,6,7] (fun o c i wr=> ∃(k:Nat) (cr:Int) (ad:Option Addr) (cap:Nat) (zs:List Int),k≤max l1 l2∧i= .int .i64 k∧c= .int .u64 cr∧o= .slice ad k cap∧0≤cr∧cr≤1∧Out w wr ad k cap zs∧Hid (val zs+cr*pw k=vl xs k+vl ys k)) (fun _ _ i _=>max l1 l2-(intOf i).toNat)
 case atStart=>exact⟨0,0,none,0,[],Nat.zero_le _,rfl,rfl,rfl,by decide,by decide,out_nil w,by show _=_;simp[val,vl]⟩
 case round=>
  obtain⟨k,cr,ad,cap,zs,hk,rfl,rfl,rfl,hc0,hc1,hO,HV⟩:=hrel
  by_cases hkN:k<max l1 l2
  ·have q1:=h1.below hO.1
   have q2:=h2.below hO.1
   have B1:=lz_bd h1.2.2.2.1 k
   have B2:=lz_bd h2.2.2.2.1 k
   have HS:Hid (val (zs++ [(lz xs k+lz ys k+cr)%4294967296])+((lz xs k+lz ys k+cr) / 4294967296)*pw (k+1)=vl xs (k+1)+vl ys (k+1)):=by
    have:=snoc_step (s:=lz xs k+lz ys k) hO.rd.1 HV.out
    show _=_
    rw[this,vl_succ,vl_succ,Int.add_mul]
    omega
   have hcase:k<l1∨(¬k<l1∧k<l2):=by omega
   rcases hcase with hk1|⟨hk1,hk2⟩
   ·go_wp2_with fail
    refine(at_any q1 (k:Int) o_m o_m).mono ?_
    rintro e w' ⟨rfl,rfl⟩
    rw[Int.toNat_natCast]
    go_wp2_with fail
    refine(at_any q2 (k:Int) o_m o_m).mono ?_
    rintro e w' ⟨rfl,rfl⟩
    rw[Int.toNat_natCast]
    generalize lz xs k=x at*
    generalize lz ys k=y at*
    go_wp2_with(at_builtin;refine wpList_append_run rfl _ _ 36 rfl _ _ rfl rfl _ (run_append_one hO _ ((x+y+cr)%4294967296) o_m o_m o_m) ?_;rintro v' w3 ⟨ad',cap',rfl,ho3,-,-,-⟩)
    exact⟨⟨k+1,_,ad',cap',_,by omega,by go_num,rfl,rfl,by omega,by omega,ho3,HS⟩,by simp[intOf];omega⟩
   go_wp2_with fail
   refine(at_any q1 (k:Int) o_m o_m).mono ?_
   rintro e w' ⟨rfl,rfl⟩
   rw[Int.toNat_natCast]
   go_wp2_with fail
   refine(at_any q2 (k:Int) o_m o_m).mono ?_
   rintro e w' ⟨rfl,rfl⟩
   rw[Int.toNat_natCast]
   generalize lz xs k=x at*
   generalize lz ys k=y at*
   go_wp2_with(at_builtin;refine wpList_append_run rfl _ _ 36 rfl _ _ rfl rfl _ (run_append_one hO _ ((x+y+cr)%4294967296) o_m o_m o_m) ?_;rintro v' w3 ⟨ad',cap',rfl,ho3,-,-,-⟩)
   exact⟨⟨k+1,_,ad',cap',_,by omega,by go_num,rfl,rfl,by omega,by omega,ho3,HS⟩,by simp[intOf];omega⟩
  have e1: ¬k<l1:=by omega
  have e2: ¬k<l2:=by omega
  have HE:Hid (val (zs++ [cr])=val xs+val ys):=by
   show _=_
   rw[val_snoc,hO.rd.1,HV.out,vl_ge (by have:=L1.out;omega),vl_ge (by have:=L2.out;omega)]
  go_wp2_with(at_builtin;refine wpList_append_run rfl _ _ 36 rfl _ _ rfl rfl _ (run_append_one hO _ cr o_m o_m o_m) ?_;rintro v' w3 ⟨ad',cap',rfl,ho3,-,-,-⟩)
  refine(trim_any ho3.rd o_m).mono ?_
  rintro e w4 ⟨rfl,ho4,-⟩
  have hlen:=tl_le (zs++ [cr]) (k+1)
  go_wp2_with fail
  go_ret
  exact⟨_,_,_,_,rfl,ho4.outer ho3.1,canon_trim ho3.rd.2.2.2.1,(val_trim _).trans HE.out,by omega⟩

theorem vl_small (h:Limbs ys){k:Nat}(hv:val ys<pw k):vl ys k=val ys:=by
 have key: ∀m,vl ys (k+m)<pw k→vl ys (k+m)=vl ys k:=by
  intro m
  induction m with
  |zero=>intro _;rfl
  |succ m ih=>
   intro hm
   rw[←Nat.add_assoc,vl_succ]at hm ⊢
   have hb:=lz_bd h (k+m)
   have h0:=(vl_bd h (k+m)).1
   have hp:=pw_pos (k+m)
   have hmm:pw k≤pw (k+m):=pw_mono o_m
   have hz:lz ys (k+m)=0:=by
    rcases Int.lt_or_le 0 (lz ys (k+m))with h1|h1
    ·have:1*pw (k+m)≤lz ys (k+m)*pw (k+m):=Int.mul_le_mul_of_nonneg_right o_m o_m
     omega
    omega
   rw[hz]at hm ⊢
   rw[Int.zero_mul,Int.add_zero]at hm ⊢
   exact ih hm
 have e:vl ys (k+ys.length)=val ys:=vl_ge o_m
 rw[←e]
 exact(key _ (by rw[e];exact hv)).symm

theorem snoc_sub {k:Nat}{bw d T:Int}(hk:zs.length=k)(h:val zs-bw*pw k=T):
  val (zs++ [(4294967296+d-bw)%4294967296])-(1-(4294967296+d-bw) / 4294967296)*pw (k+1)=T+d*pw k:=by
 rw[val_snoc,hk,pw_succ]
 have e:(4294967296+d-bw)%4294967296+4294967296*((4294967296+d-bw) / 4294967296)=4294967296+d-bw:=Int.emod_add_mul_ediv _ _
 generalize (4294967296+d-bw)%4294967296=z at*
 generalize (4294967296+d-bw) / 4294967296=q at*
 have e3:z=4294967296+d-bw-4294967296*q:=by omega
 subst e3
 have e4:(1-q)*(4294967296*pw k)=(4294967296-4294967296*q)*pw k:=by
  rw[←Int.mul_assoc,Int.sub_mul,Int.one_mul,Int.mul_comm q]
 rw[e4,←h]
 simp only[Int.sub_mul,Int.add_mul]
 omega

theorem refsub_any (h1:Rd w a1 l1 c1 xs)(h2:Rd w a2 l2 c2 ys)(hl1:l1≤1099511627776)(hle:val ys≤val xs):
  Calls Tryz.prog 95 #[.slice a1 l1 c1,.slice a2 l2 c2] w fun e w'=> ∃ad len cap zs,e= .returned (.slice ad len cap)∧Out w w' ad len cap zs∧Canon zs∧val zs=val xs-val ys∧len≤l1:=by
 have L1:Hid (xs.length=l1):=h1.1
 have HLE:=hide hle
 clear hle
 go_enter Tryz.func95,Tryz.ntmps95
 go_wp2_with fail
 go_loopw [5,6,7] (fun o c i wr=> ∃(k:Nat) (cr:Int) (ad:Option Addr) (cap:Nat) (zs:List Int),k≤l1∧i= .int .i64 k∧c= .int .u64 cr∧o= .slice ad k cap∧0≤cr∧cr≤1∧Out w wr ad k cap zs∧Hid (val zs-cr*pw k=vl xs k-vl ys k)) (fun _ _ i _=>l1-(intOf i).toNat)
 case atStart=>exact⟨0,0,none,0,[],Nat.zero_le _,rfl,rfl,rfl,by decide,by decide,out_nil w,by show _=_;simp[val,vl]⟩
 case round=>
  obtain⟨k,cr,ad,cap,zs,hk,rfl,rfl,rfl,hc0,hc1,hO,HV⟩:=hrel
  by_cases hkN:k<l1
  ·have q1:=h1.below hO.1
   have q2:=h2.below hO.1
   have B1:=lz_bd h1.2.2.2.1 k
   have B2:=lz_bd h2.2.2.2.1 k
   have HS:Hid (val (zs++ [(lz xs k+4294967296-lz ys k-cr)%4294967296])-(1-(lz xs k+4294967296-lz ys k-cr) / 4294967296)*pw (k+1)=vl xs (k+1)-vl ys (k+1)):=by
    have:=snoc_sub (d:=lz xs k-lz ys k) hO.rd.1 HV.out
    show _=_
    rw[show lz xs k+4294967296-lz ys k-cr=4294967296+(lz xs k-lz ys k)-cr from by omega,this,vl_succ,vl_succ,Int.sub_mul]
    omega
   go_wp2_with fail
   refine(at_any q1 (k:Int) o_m o_m).mono ?_
   rintro e w' ⟨rfl,rfl⟩
   rw[Int.toNat_natCast]
   go_wp2_with fail
   refine(at_any q2 (k:Int) o_m o_m).mono ?_
   rintro e w' ⟨rfl,rfl⟩
   rw[Int.toNat_natCast]
   generalize lz xs k=x at*
   generalize lz ys k=y at*
   go_wp2_with(at_builtin;refine wpList_append_run rfl _ _ 36 rfl _ _ rfl rfl _ (run_append_one hO _ ((x+4294967296-y-cr)%4294967296) o_m o_m o_m) ?_;rintro v' w3 ⟨ad',cap',rfl,ho3,-,-,-⟩)
   exact⟨⟨k+1,_,ad',cap',_,by omega,by go_num,rfl,rfl,by omega,by omega,ho3,HS⟩,by simp[intOf];omega⟩
  obtain rfl:k=l1:=by omega
  go_wp2_with fail
  refine(trim_any hO.rd o_m).mono ?_
  rintro e w4 ⟨rfl,ho4,-⟩
  have hlen:=tl_le zs k
  go_wp2_with fail
  go_ret
  refine⟨_,_,_,_,rfl,ho4.outer hO.1,canon_trim hO.rd.2.2.2.1,(val_trim _).trans ?_,by omega⟩
  have hv:=HV.out
  rw[vl_ge (Nat.le_of_eq L1.out)]at hv
  have hz:=(vl_bd hO.rd.2.2.2.1 k).2
  have hzv:vl zs k=val zs:=vl_ge (Nat.le_of_eq hO.rd.1)
  have hx:=(vl_bd h1.2.2.2.1 k).2
  rw[vl_ge (Nat.le_of_eq L1.out)]at hx
  have hle:=unhide HLE
  have hy:=vl_small h2.2.2.2.1 (k:=k) o_m
  rw[hy]at hv
  have hcc:cr=0∨cr=1:=by omega
  rcases hcc with rfl|rfl
  ·omega
  rw[Int.one_mul]at hv;omega

theorem reftimes_any {n m:Int}(h1:Rd w a1 l1 c1 xs)(hl1:l1≤1099511627776)(hn0:0≤n)(hn1:n<4294967296)(hm0:0≤m)(hm1:m<4294967296):
  Calls Tryz.prog 153 #[.slice a1 l1 c1,.int .u32 n,.int .u32 m] w fun e w'=> ∃ad len cap zs,e= .returned (.slice ad len cap)∧Out w w' ad len cap zs∧Canon zs∧val zs=val xs*n+m∧len≤l1+1:=by
 have L1:Hid (xs.length=l1):=h1.1
 go_enter Tryz.func153,Tryz.ntmps153
 go_wp2_with fail
 go_loopw [7,8,9] (fun o c i wr=> ∃(k:Nat) (cr:Int) (ad:Option Addr) (cap:Nat) (zs:List Int),k≤l1∧i= .int .i64 k∧c= .int .u64 cr∧o= .slice ad k cap∧0≤cr∧cr<4294967296∧Out w wr ad k cap zs∧Hid (val zs+cr*pw k=vl xs k*n+m)) (fun _ _ i _=>l1-(intOf i).toNat)
 case atStart=>exact⟨0,m,none,0,[],Nat.zero_le _,rfl,rfl,rfl,by omega,by omega,out_nil w,by show _=_;simp[val,vl,pw]⟩
 case round=>
  obtain⟨k,cr,ad,cap,zs,hk,rfl,rfl,rfl,hc0,hc1,hO,HV⟩:=hrel
  by_cases hkN:k<l1
  ·have q1:=h1.below hO.1
   have B1:=lz_bd h1.2.2.2.1 k
   have hmb:=mul_bd B1.1 B1.2 hn0 hn1
   have HS:Hid (val (zs++ [(lz xs k*n+cr)%4294967296])+((lz xs k*n+cr) / 4294967296)*pw (k+1)=vl xs (k+1)*n+m):=by
    have:=snoc_step (s:=lz xs k*n) hO.rd.1 HV.out
    show _=_
    rw[this,vl_succ,Int.add_mul,Int.mul_right_comm (lz xs k) (pw k) n]
    omega
   obtain⟨_,_,_,_,h5⟩:=q1
   rcases h5 with⟨_,h6,_⟩|⟨a,rfl,h6|⟨b,off,rfl,_,hc⟩⟩
   ·omega
   ·omega
   have hcn:=hc k hkN
   clear hc
   generalize lz xs k=x at*
   go_wp2_with(at_builtin;refine wpList_append_run rfl _ _ 36 rfl _ _ rfl rfl _ (run_append_one hO _ ((x*n+cr)%4294967296) o_m o_m o_m) ?_;rintro v' w3 ⟨ad',cap',rfl,ho3,-,-,-⟩)
   exact⟨⟨k+1,_,ad',cap',_,by omega,by go_num,rfl,rfl,by omega,by omega,ho3,HS⟩,by simp[intOf];omega⟩
  have HE:Hid (val (zs++ [cr])=val xs*n+m):=by
   show _=_
   rw[val_snoc,hO.rd.1,HV.out,vl_ge (by have:=L1.out;omega)]
  go_wp2_with(at_builtin;refine wpList_append_run rfl _ _ 36 rfl _ _ rfl rfl _ (run_append_one hO _ cr o_m o_m o_m) ?_;rintro v' w3 ⟨ad',cap',rfl,ho3,-,-,-⟩)
  refine(trim_any ho3.rd o_m).mono ?_
  rintro e w4 ⟨rfl,ho4,-⟩
  have hlen:=tl_le (zs++ [cr]) (k+1)
  go_wp2_with fail
  go_ret
  exact⟨_,_,_,_,rfl,ho4.outer ho3.1,canon_trim ho3.rd.2.2.2.1,(val_trim _).trans HE.out,by omega⟩


theorem run_copy_off {g d dLen dCap n:Nat}{cur:List Int}(hg:Row w g cur)(hX:Rd w ad n cap X)(hd:d+dLen≤cur.length)(ty:TypeId):
  ∃v' w',(Builtin.copy_ #[36,36] ty #[.slice (some ⟨g,d,none⟩) dLen dCap,.slice ad n cap]).run Tryz.prog w= .ok v' w'∧(∃k:Nat,v'=goInt k)∧Row w' g (cur.take d++X.take (min n dLen)++cur.drop (d+min n dLen))∧Only g w w':=by
 obtain⟨h1,h2,h3,h4,h5⟩:=hX
 have fin: ∀a,ad=some a→(∀j,j<n→w.cell? (a.add j)=some (.int .u32 (lz X j)))→∃v' w',(Builtin.copy_ #[36,36] ty #[.slice (some ⟨g,d,none⟩) dLen dCap,.slice ad n cap]).run Tryz.prog w= .ok v' w'∧(∃k:Nat,v'=goInt k)∧Row w' g (cur.take d++X.take (min n dLen)++cur.drop (d+min n dLen))∧Only g w w':=by
  rintro a rfl hc
  have hlen:((X.take (min n dLen)).map (Value.int .u32)).length=Nat.min n dLen:=by
   rw[List.length_map,List.length_take];show min (min n dLen) X.length=min n dLen;omega
  have hr:=run_copy_row (P:=Tryz.prog) w 36 36 ty 60 g d dLen dCap a n cap (U cur) 60 ((X.take (min n dLen)).map (Value.int .u32)) Tryz.underlying36 size49 hg hlen
   (fun j v hv=>by
    obtain⟨q1,rfl⟩:=lz_map hv
    rw[List.length_take]at q1
    rw[lz_take,if_pos o_m]
    exact hc j o_m)
   (by rw[U_size,hlen];show d+min n dLen≤_;omega)
   (fun u hu=>by obtain⟨z,_,rfl⟩:=List.mem_map.1 hu;rfl)
  refine⟨_,_,hr,⟨_,rfl⟩,?_,⟨rfl,rfl,rfl,by simp,fun k hk=>setRow_other w g k _ hk⟩⟩
  have:=setRow_heap w g (U cur) ((U cur).toList.take d++(X.take (min n dLen)).map (Value.int .u32)++(U cur).toList.drop (d+((X.take (min n dLen)).map (Value.int .u32)).length)).toArray 60 (0,0) hg
  rw[Row,this,hlen]
  have hmm:Nat.min n dLen=min n dLen:=rfl
  simp[U,List.map_take,List.map_drop,hmm]
 rcases h5 with⟨rfl,rfl,rfl⟩|⟨a,rfl,rfl|⟨b,off,rfl,_,hc⟩⟩
 ·refine⟨_,_,run_copy_nil (P:=Tryz.prog) w 36 36 ty 60 ⟨g,d,none⟩ dLen dCap Tryz.underlying36 (by rw[size49];rfl),⟨0,rfl⟩,?_,Only.refl _ _⟩
  simpa using hg
 ·exact fin a rfl (fun j hj=>absurd hj o_m)
 exact fin _ rfl (fun j hj=>by rw[Addr.add_lit];exact hc j hj)

theorem vl_cons (x:Int)(zs:List Int)(n:Nat):vl (x::zs) (n+1)=x+4294967296*vl zs n:=by
 induction n with
 |zero=>simp[vl,lz,pw]
 |succ n ih=>
  rw[vl_succ (x::zs) (n+1),ih,vl_succ zs n,pw_succ]
  have e:lz (x::zs) (n+1)=lz zs n:=by simp[lz]
  rw[e,Int.mul_add,←Int.mul_assoc,←Int.mul_assoc,Int.mul_comm (lz zs n) 4294967296]
  omega
theorem val_cons (x:Int)(zs:List Int):val (x::zs)=x+4294967296*val zs:=by
 unfold val
 rw[List.length_cons,vl_cons]

theorem mul_h {j:Nat}{H vx:Int}(vy:Int)(hv:vx=vl X (j+1)+pw (j+1)*H):
  vx=vl X j+pw j*(lz X j+4294967296*H)∧4294967296*(H*vy)+(vy*lz X j+0)=(lz X j+4294967296*H)*vy:=by
 constructor
 ·rw[hv,vl_succ,pw_succ,Int.mul_add,Int.mul_comm (lz X j) (pw j),Int.mul_comm 4294967296 (pw j),Int.mul_assoc]
  omega
 rw[Int.add_mul,Int.mul_comm vy (lz X j),Int.mul_assoc]
 omega
theorem h_bd {H x:Int}{m:Nat}(h0:0≤H)(h1:H<pw m)(hx0:0≤x)(hx1:x<4294967296):0≤x+4294967296*H∧x+4294967296*H<pw (m+1):=by
 rw[pw_succ]
 omega

theorem rd_cell {b off i:Nat}(h:Rd w (some ⟨b,off,none⟩) len cap zs)(hi:i<len):w.cell? ⟨b,off+i,none⟩=some (.int .u32 (lz zs i)):=by
 obtain⟨_,_,_,_,h5⟩:=h
 rcases h5 with⟨h5,_⟩|⟨a,h5,h6⟩
 ·cases h5
 injection h5 with h5
 subst h5
 rcases h6 with h6|⟨b',o',h6,_,h7⟩
 ·omega
 injection h6 with e1 e2 _
 subst e1 e2
 exact h7 i hi
theorem Limbs.cons0 (h:Limbs zs):Limbs (0::zs):=fun z hz=>by
 rcases List.mem_cons.1 hz with rfl|h'
 ·decide
 exact h z h'
theorem prod_lt {a b A B:Int}(h0:0≤a)(h1:a<A)(h2:0≤b)(h3:b<B):a*b<A*B:=by
 have h4:a*b≤a*B:=Int.mul_le_mul_of_nonneg_left (Int.le_of_lt h3) h0
 have h5:a*B<A*B:=Int.mul_lt_mul_of_pos_right h1 o_m
 omega

theorem refmul_any (h1:Rd w a1 l1 c1 xs)(h2:Rd w a2 l2 c2 ys)(hl1:l1≤17179869184)(hl2:l2≤17179869184):
  Calls Tryz.prog 145 #[.slice a1 l1 c1,.slice a2 l2 c2] w fun e w'=> ∃ad len cap zs,e= .returned (.slice ad len cap)∧Out w w' ad len cap zs∧Canon zs∧val zs=val xs*val ys∧len≤l1+l2:=by
 go_enter Tryz.func145,Tryz.ntmps145
 go_wp2_with fail
 refine(trim_any h1 o_m).mono ?_
 rintro e w1 ⟨rfl,ho1,-⟩
 have hn:=tl_le xs l1
 have hX:=ho1.rd
 have hvX:=val_trim xs
 have hXl:=hX.1
 replace h2:=h2.below ho1.1
 have b1:=ho1.1
 generalize trim xs=X at*
 generalize tl xs l1=n at*
 clear ho1 h1
 have HX:=hide hvX
 clear hvX
 have Y1:=(vl_bd h2.2.2.2.1 l2)
 have hvY:vl ys l2=val ys:=by unfold val;rw[h2.1]
 rw[hvY]at Y1
 have hXL:=hX.2.2.2.1
 have HXL:=hide hXl
 clear hXl hvY
 go_wp2_with fail
 go_loopw [6,7] (fun o i wr=> ∃(j:Nat) (H:Int) (ad:Option Addr) (len cap:Nat) (zs:List Int),j≤n∧i= .int .i64 ((j:Int)-1)∧o= .slice ad len cap∧Out w1 wr ad len cap zs∧Canon zs∧0≤H∧len≤n-j+l2∧Hid (H<pw (n-j))∧Hid (val zs=H*val ys)∧Hid (val X=vl X j+pw j*H)) (fun _ i _=>(intOf i+1).toNat)
 case atStart=>
  refine⟨n,0,none,0,0,[],Nat.le_refl _,rfl,rfl,out_nil w1,canon_nil,Int.le_refl _,Nat.zero_le _,?_,?_,?_⟩
  ·show _<_;rw[Nat.sub_self];decide
  ·show _=_;simp[val,vl]
  show _=_;rw[Int.mul_zero,Int.add_zero];unfold val;rw[unhide HXL]
 case round=>
  obtain⟨j,H,ad,len,cap,zs,hj,rfl,rfl,hO,hcn,hH0,hlen,HH,HV,HE⟩:=hrel
  by_cases hj0:0<j
  ·obtain⟨j,rfl⟩: ∃i,j=i+1:=⟨j-1,by omega⟩
   have B1:=lz_bd hXL j
   by_cases hlen0:len=0
   ·subst hlen0
    have hz0:zs= []:=List.length_eq_zero_iff.1 hO.rd.1
    have hmk:=run_mk 1 (by decide)
    rw[show((1:Nat):Int)=1 from rfl,show List.replicate 1 (0:Int)= [0] from rfl]at hmk
    have r0:=row_alloc wr [0]
    have r1:=rd_alloc hO.rd (.cells (U [0]) 60)
    obtain⟨v',w3,hrun,⟨kk,rfl⟩,hr,ho⟩:=run_copy_off (d:=0) (dLen:=0) (dCap:=0) r0 r1 (by simp) 3
    have hup: [0].take 0++zs.take (min 0 0)++([0]:List Int).drop (0+min 0 0)=0::zs:=by
     simp
     exact hz0
    rw[hup]at hr
    have k3:Below wr.heap.size wr w3:=(below_alloc wr (.cells (U [0]) 60)).trans (ho.below (Nat.le_refl _))
    have k13:=grow_step k3 hO.1
    have hcell:=rd_cell (hX.below k13) (i:=j) o_m
    rw[Nat.zero_add]at hcell
    have q2:=h2.below k13
    clear r0 r1 hup
    go_wp2_with fail
    refine(reftimes_any (n:=lz X j) (m:=0) q2 o_m B1.1 B1.2 (by decide) (by decide)).mono ?_
    rintro e w4 ⟨a4,l4,c4,z4,rfl,ho4,hc4,hv4,hl4⟩
    have q3:=((hr.rd (Limbs.cons0 hcn.1) (off:=0) (len:=1) (cap:=1) (by rw[hz0];simp) (Nat.le_refl _) o_m).below ho4.1)
    rw[List.drop_zero,List.take_of_length_le (by rw[hz0];simp)]at q3
    go_wp2_with fail
    refine(refadd_any q3 ho4.rd o_m o_m).mono ?_
    rintro e w5 ⟨a5,l5,c5,z5,rfl,ho5,hc5,hv5,hl5⟩
    have hh:=mul_h (val ys) HE.out
    have hb:=h_bd hH0 HH.out B1.1 B1.2
    rw[show n-(j+1)+1=n-j from by omega]at hb
    have hval:val z5=(lz X j+4294967296*H)*val ys:=by
     rw[hv5,val_cons,hv4,HV.out,Int.zero_add]
     exact hh.2
    have hlen5:l5≤n-j+l2:=by
     rw[←ho5.rd.1]
     refine canon_len hc5 ?_
     rw[hval,pw_add]
     exact prod_lt hb.1 hb.2 Y1.1 Y1.2
    have HA:=hide hval
    have HB:=hide hh.1
    have HC:=hide hb.2
    have hH1:=hb.1
    clear hval hh hb hv5 hv4
    go_wp2_with fail
    exact⟨⟨j,_,a5,l5,c5,z5,by omega,by go_num,rfl,ho5.outer (grow_step ho4.1 k13),hc5,hH1,hlen5,HC,HA,HB⟩,by simp[intOf] <;> omega⟩
   have hlen1:0<len:=by omega
   have hmk:=run_mk' len o_m
   have r0:=row_alloc wr (List.replicate (len+1) 0)
   have r1:=rd_alloc hO.rd (.cells (U (List.replicate (len+1) 0)) 60)
   obtain⟨v',w3,hrun,⟨kk,rfl⟩,hr,ho⟩:=run_copy_off (d:=1) (dLen:=len) (dCap:=len) r0 r1 (by rw[List.length_replicate];omega) 3
   have hup:(List.replicate (len+1) 0).take 1++zs.take (min len len)++(List.replicate (len+1) (0:Int)).drop (1+min len len)=0::zs:=by
    have e1:zs.take (min len len)=zs:=List.take_of_length_le (by have:=hO.rd.1;omega)
    have e2:(List.replicate (len+1) (0:Int)).drop (1+min len len)= []:=List.drop_of_length_le (by rw[List.length_replicate];omega)
    rw[e1,e2]
    simp[List.replicate_succ]
   rw[hup]at hr
   have k3:Below wr.heap.size wr w3:=(below_alloc wr (.cells (U (List.replicate (len+1) 0)) 60)).trans (ho.below (Nat.le_refl _))
   have k13:=grow_step k3 hO.1
   have hcell:=rd_cell (hX.below k13) (i:=j) o_m
   rw[Nat.zero_add]at hcell
   have q2:=h2.below k13
   clear r0 r1 hup
   go_wp2_with fail
   refine(reftimes_any (n:=lz X j) (m:=0) q2 o_m B1.1 B1.2 (by decide) (by decide)).mono ?_
   rintro e w4 ⟨a4,l4,c4,z4,rfl,ho4,hc4,hv4,hl4⟩
   have q3:=((hr.rd (Limbs.cons0 hcn.1) (off:=0) (len:=len+1) (cap:=len+1) (by have:=hO.rd.1;simp;omega) (Nat.le_refl _) o_m).below ho4.1)
   rw[List.drop_zero,List.take_of_length_le (by have:=hO.rd.1;simp;omega)]at q3
   go_wp2_with fail
   refine(refadd_any q3 ho4.rd o_m o_m).mono ?_
   rintro e w5 ⟨a5,l5,c5,z5,rfl,ho5,hc5,hv5,hl5⟩
   have hh:=mul_h (val ys) HE.out
   have hb:=h_bd hH0 HH.out B1.1 B1.2
   rw[show n-(j+1)+1=n-j from by omega]at hb
   have hval:val z5=(lz X j+4294967296*H)*val ys:=by
    rw[hv5,val_cons,hv4,HV.out,Int.zero_add]
    exact hh.2
   have hlen5:l5≤n-j+l2:=by
    rw[←ho5.rd.1]
    refine canon_len hc5 ?_
    rw[hval,pw_add]
    exact prod_lt hb.1 hb.2 Y1.1 Y1.2
   have HA:=hide hval
   have HB:=hide hh.1
   have HC:=hide hb.2
   have hH1:=hb.1
   clear hval hh hb hv5 hv4
   go_wp2_with fail
   exact⟨⟨j,_,a5,l5,c5,z5,by omega,by go_num,rfl,ho5.outer (grow_step ho4.1 k13),hc5,hH1,hlen5,HC,HA,HB⟩,by simp[intOf] <;> omega⟩
  obtain rfl:j=0:=by omega
  have HF:Hid (val zs=val xs*val ys):=by
   show _=_
   rw[HV.out,←HX.out,HE.out]
   simp[vl,pw]
  go_wp2_with fail
  refine(trim_any hO.rd o_m).mono ?_
  rintro e w4 ⟨rfl,ho4,-⟩
  have hlen':=tl_le zs len
  go_wp2_with fail
  go_ret
  exact⟨_,_,_,_,rfl,(ho4.outer hO.1).outer b1,canon_trim hO.rd.2.2.2.1,(val_trim _).trans HF.out,by omega⟩

end Go.Proofs.YtaafoppaepcaeaaGreat
