/-
 Several texts in one: W1,W2,W3,W4,W5,App,W6,W7,W8,D1,D2,D3.
-/
import Derived.Test.YtaafoppaepcaeaaGreatChecked
import Derived.Test.YtaafoppaepcaeaaGreatCd00
import Derived.WalkKit
import Derived.WalkLawsBesides
import Derived.WalkMore
import Derived.Deep.QuietTactic
import Derived.BigQuiet
set_option maxRecDepth 100000
set_option maxHeartbeats 3200000
namespace Go.Proofs.YtaafoppaepcaeaaGreat
open Go.RowKit

variable {a d x x0 g r:Int}{b n m len cap l1 c1 l2 c2 j sh p:Nat}{ad a1 a2:Option Addr}{zs xs ys R D:List Int}{w w' w0:World}
theorem ret_slice {a b:Option Addr}{c d:Nat}(h:a=b)(h1:n=m)(h2:c=d):Ending.returned (.slice a n c)= .returned (.slice b m d):=by rw[h,h1,h2]

theorem bare_walk (b off len cap:Nat)(zs:List Int)(w:World)(hcap:len≤cap)(hbig:cap≤9223372036854775807)
  (hc: ∀j,j<len→w.cell? ⟨b,off+j,none⟩=some (.int .u32 (lz zs j))):
  Calls Tryz.prog 139 #[.slice (some ⟨b,off,none⟩) len cap] w fun e w'=>e= .returned (.slice (some ⟨b,off,none⟩) (tl zs len) cap)∧w=w':=by
 go_enter Tryz.func139,Tryz.ntmps139
 go_wp2
 go_step3
 go_wp2
 go_step3
 go_wp2
 go_loop [3] (fun n=> ∃k:Nat,k≤len∧n= .int .i64 k∧tl zs len=tl zs k) (fun n=>(intOf n).toNat)
 case atStart=>exact⟨len,Nat.le_refl _,rfl,rfl⟩
 case round=>
  obtain⟨k,hk,rfl,ht⟩:=hrel
  have HT:Hid (tl zs len=tl zs k):=ht
  clear ht
  cases k with
  |zero=>
   go_wp2
   go_ret
   exact⟨ret_slice rfl (by rw[HT.out];rfl) rfl,rfl⟩
  |succ m=>
   have hcm:=hc m (by omega)
   by_cases hz0:lz zs m=0
   ·have HZ:Hid (lz zs m=0):=hz0
    have hz1:(lz zs m==0)=true:=by simp[hz0]
    clear hz0
    go_wp2
    go_round
    case rel=>exact⟨m,by omega,by go_num,by rw[HT.out];conv=>lhs;rw[tl,if_pos HZ.out]⟩
    case measure=>simp[intOf]
   have HZ:Hid (¬lz zs m=0):=hz0
   have hz1:(lz zs m==0)=false:=by simp[hz0]
   clear hz0
   go_wp2
   go_ret
   exact⟨ret_slice rfl (by rw[HT.out,tl,if_neg HZ.out]) rfl,rfl⟩

theorem bare_none (a:Option Addr)(cap:Nat)(w:World)(hbig:cap≤9223372036854775807)(hn:a=none→cap=0):
  Calls Tryz.prog 139 #[.slice a 0 cap] w fun e w'=>e= .returned (.slice a 0 cap)∧w=w':=by
 cases a with
 |none=>
  obtain rfl:=hn rfl
  go_enter Tryz.func139,Tryz.ntmps139
  go_wp2
  go_step3
  go_wp2
  go_step3
  go_wp2
  refine wp_loop_rounds 1 ?_
  rw[rounds_succ]
  go_wp2
  rw[Exit.noGoto_ret]
  go_ret
  exact⟨rfl,rfl⟩
 |some a=>
  go_enter Tryz.func139,Tryz.ntmps139
  go_wp2
  go_step3
  go_wp2
  go_step3
  go_wp2
  refine wp_loop_rounds 1 ?_
  rw[rounds_succ]
  go_wp2
  rw[Exit.noGoto_ret]
  go_ret
  exact⟨rfl,rfl⟩

theorem bare_any (h:Rd w ad len cap zs):
  Calls Tryz.prog 139 #[.slice ad len cap] w fun e w'=>e= .returned (.slice ad (tl zs len) cap)∧w=w':=by
 obtain⟨h1,h2,h3,h4,h5⟩:=h
 rcases h5 with⟨rfl,rfl,rfl⟩|⟨a,rfl,rfl|⟨b,off,rfl,_,hc⟩⟩
 ·exact bare_none none 0 w (by decide) (fun _=>rfl)
 ·exact bare_none (some a) cap w h3 (fun h=>by cases h)
 exact bare_walk b off len cap zs w h2 h3 hc

theorem limb_any (h:Rd w ad len cap zs)(i:Int)(h0:0≤i)(hi:i≤9223372036854775807):
  Calls Tryz.prog 141 #[.slice ad len cap,.int .i64 i] w fun e w'=>e= .returned (.int .u64 (lz zs i.toNat))∧w=w':=by
 obtain⟨n,rfl⟩:=Int.eq_ofNat_of_zero_le h0
 rw[Int.toNat_natCast]
 obtain⟨h1,h2,h3,h4,h5⟩:=h
 by_cases hlt:n<len
 ·rcases h5 with⟨_,h6,_⟩|⟨a,rfl,h6|⟨b,off,rfl,_,hc⟩⟩
  ·omega
  ·omega
  have hcn:=hc n hlt
  have hb:=lz_bd h4 n
  clear hc
  go_enter Tryz.func141,Tryz.ntmps141
  go_wp2
  go_ret
  exact⟨rfl,rfl⟩
 have hz:=lz_out (zs:=zs) (i:=n) (by omega)
 have HZ:Hid (lz zs n=0):=hz
 clear hz h5
 go_enter Tryz.func141,Tryz.ntmps141
 go_wp2
 go_ret
 rw[HZ.out]
 exact⟨rfl,rfl⟩


theorem Rd.some (h:Rd w ad len cap zs)(hp:0<len): ∃b off,ad=some ⟨b,off,none⟩∧∀i,i<len→w.cell? ⟨b,off+i,none⟩=some (.int .u32 (lz zs i)):=by
 obtain⟨h1,h2,h3,h4,h5⟩:=h
 rcases h5 with⟨_,h6,_⟩|⟨a,rfl,h6|⟨b,off,rfl,_,hc⟩⟩
 ·omega
 ·omega
 exact⟨b,off,rfl,hc⟩

theorem cmpI_lt {b:Int}(h:a<b):cmpI a b= -1:=by unfold cmpI;rw[if_pos h]
theorem cmpI_gt {b:Int}(h:b<a):cmpI a b=1:=by unfold cmpI;rw[if_neg (by omega),if_pos h]
theorem cmpI_eq {b:Int}(h:a=b):cmpI a b=0:=by unfold cmpI;rw[if_neg (by omega),if_neg (by omega)]
theorem ret_int {k:IntKind}{b:Int}(h:a=b):Ending.returned (.int k a)= .returned (.int k b):=by rw[h]

theorem bare_own (h:Row w b xs)(hl:Limbs xs)(hn:xs.length=n)(hm:n≤9223372036854775807):
  Calls Tryz.prog 139 #[.slice (some ⟨b,0,none⟩) n n] w fun e w'=>e= .returned (.slice (some ⟨b,0,none⟩) (tl xs n) n)∧w=w':=by
 have:=h.rd hl (off:=0) (len:=n) (cap:=n) (by omega) (Nat.le_refl _) hm
 rw[List.drop_zero,List.take_of_length_le (by omega)]at this
 exact bare_any this

theorem own_trim (hb:Below w.heap.size w w')(h:Row w' w.heap.size xs)(hl:Limbs xs)(hn:xs.length=n)(hm:n≤9223372036854775807):
  Out w w' (some ⟨w.heap.size,0,none⟩) (tl xs n) n (trim xs)∧Canon (trim xs)∧val (trim xs)=val xs∧tl xs n≤n:=by
 refine⟨?_,canon_trim hl,val_trim xs,tl_le _ _⟩
 unfold trim
 rw[hn]
 exact out_row hb h hl hn (tl_le _ _) hm

theorem drewN_drewN (w:World)(a b:Nat):(w.drewN a).drewN b=w.drewN (a+b):=by simp[World.drewN,Nat.add_assoc]

theorem cmp_any (h1:Rd w a1 l1 c1 xs)(h2:Rd w a2 l2 c2 ys):
  Calls Tryz.prog 110 #[.slice a1 l1 c1,.slice a2 l2 c2] w fun e w'=>e= .returned (.int .i64 (cmpI (val xs) (val ys)))∧∃n,w'=w.drewN n:=by
 have t1:=h1.trim
 have t2:=h2.trim
 have k1:=canon_trim h1.2.2.2.1
 have k2:=canon_trim h2.2.2.2.1
 have e1:=val_trim xs
 have e2:=val_trim ys
 generalize hX:trim xs=X at*
 generalize hY:trim ys=Y at*
 clear hX hY
 generalize hn1:tl xs l1=n1 at*
 generalize hn2:tl ys l2=n2 at*
 have HN1:Hid (tl xs l1=n1):=hn1
 have HN2:Hid (tl ys l2=n2):=hn2
 have E1:Hid (val X=val xs):=e1
 have E2:Hid (val Y=val ys):=e2
 have L1:Hid (X.length=n1):=t1.1
 have L2:Hid (Y.length=n2):=t2.1
 have hc1:n1≤c1:=t1.2.1
 have hc1':c1≤9223372036854775807:=t1.2.2.1
 clear hn1 hn2 e1 e2
 rcases Nat.lt_trichotomy n1 n2 with hlt|heq|hgt
 ·go_enter Tryz.func110,Tryz.ntmps110
  go_wp2_with fail
  refine(bare_any h1).mono ?_
  rintro e w' ⟨rfl,rfl⟩
  rw[HN1.out]
  go_wp2_with fail
  refine(bare_any h2).mono ?_
  rintro e w' ⟨rfl,rfl⟩
  rw[HN2.out]
  go_wp2_with fail
  go_ret
  exact⟨ret_int (by rw[←E1.out,←E2.out,cmpI_lt];exact val_lt_of_length k1.1 k2 (by rw[L1.out,L2.out];exact hlt)),0,rfl⟩
 ·subst heq
  by_cases h0:n1=0
  ·subst h0
   have ex:X= []:=List.eq_nil_of_length_eq_zero L1.out
   have ey:Y= []:=List.eq_nil_of_length_eq_zero L2.out
   subst ex ey
   go_enter Tryz.func110,Tryz.ntmps110
   go_wp2_with fail
   refine(bare_any h1).mono ?_
   rintro e w' ⟨rfl,rfl⟩
   rw[HN1.out]
   go_wp2_with fail
   refine(bare_any h2).mono ?_
   rintro e w' ⟨rfl,rfl⟩
   rw[HN2.out]
   go_wp2_with fail
   refine wp_loop_rounds 1 ?_
   rw[rounds_succ]
   go_wp2
   go_ret
   exact⟨ret_int (by rw[←E1.out,←E2.out,cmpI_eq rfl]),0,rfl⟩
  obtain⟨b1,o1,rfl,g1⟩:=t1.some (by omega)
  obtain⟨b2,o2,rfl,g2⟩:=t2.some (by omega)
  go_enter Tryz.func110,Tryz.ntmps110
  go_wp2_with fail
  refine(bare_any h1).mono ?_
  rintro e w' ⟨rfl,rfl⟩
  rw[HN1.out]
  go_wp2_with fail
  refine(bare_any h2).mono ?_
  rintro e w' ⟨rfl,rfl⟩
  rw[HN2.out]
  clear h1 h2 t1 t2
  go_wp2_with fail
  go_loopw [5] (fun i wr=> ∃k q:Nat,k≤n1∧i= .int .i64 ((k:Int)-1)∧(∀j,k≤j→j<n1→lz X j=lz Y j)∧wr=w.drewN q) (fun i _=>(intOf i+1).toNat)
  case atStart=>exact⟨n1,0,Nat.le_refl _,rfl,fun j hj1 hj2=>absurd hj1 (by omega),rfl⟩
  case round=>
   obtain⟨k,q,hk,rfl,hs,rfl⟩:=hrel
   have HS:Hid (∀j,k≤j→j<n1→lz X j=lz Y j):=hs
   clear hs
   cases k with
   |zero=>
    go_wp2
    go_ret
    exact⟨ret_int (by rw[←E1.out,←E2.out,cmpI_eq];exact(by unfold val;rw[L1.out,L2.out];exact vl_congr (fun i hi=>HS.out i (by omega) hi))),q,rfl⟩
   |succ m=>
    have gm1:=g1 m (by omega)
    have gm2:=g2 m (by omega)
    have hm:(m:Int)<n1:=by omega
    rcases Int.lt_trichotomy (lz X m) (lz Y m)with hl|hl|hl
    ·have hv:cmpI (val xs) (val ys)= -1:=by rw[←E1.out,←E2.out,cmpI_lt];unfold val;rw[L1.out,L2.out];exact vl_lt_of_lz k1.1 k2.1 (i:=m) (by omega) (fun j h1 h2=>HS.out j (by omega) h2) hl
     have HV:=hide hv
     clear hv
     go_wp2
     go_quiet (fail)
     go_wp2
     go_ret
     exact⟨ret_int (unhide HV).symm,q+nq,drewN_drewN _ _ _⟩
    ·have HL:Hid (lz X m=lz Y m):=hl
     have f1:decide (lz X m<lz Y m)=false:=by simp;omega
     have f2:decide (lz Y m<lz X m)=false:=by simp;omega
     clear hl
     go_wp2
     go_quiet (fail)
     obtain⟨n0,hn0⟩: ∃n0,n0=nq:=⟨_,rfl⟩
     subst hn0
     go_wp2
     go_quiet (fail)
     go_wp2
     go_roundw
     case rel=>exact⟨m,q+n0+nq,by omega,by go_num,fun j h1 h2=>(by by_cases e:j=m;{rw[e];exact HL.out};{exact HS.out j (by omega) h2}),by simp⟩
     case measure=>simp[intOf]
    have hv:cmpI (val xs) (val ys)=1:=by rw[←E1.out,←E2.out,cmpI_gt];unfold val;rw[L1.out,L2.out];exact vl_lt_of_lz k2.1 k1.1 (i:=m) (by omega) (fun j h1 h2=>(HS.out j (by omega) h2).symm) hl
    have HV:=hide hv
    clear hv
    have f1:decide (lz X m<lz Y m)=false:=by simp;omega
    go_wp2
    go_quiet (fail)
    obtain⟨n0,hn0⟩: ∃n0,n0=nq:=⟨_,rfl⟩
    subst hn0
    go_wp2
    go_quiet (fail)
    go_wp2
    go_ret
    exact⟨ret_int (unhide HV).symm,q+n0+nq,by simp⟩
 go_enter Tryz.func110,Tryz.ntmps110
 go_wp2_with fail
 refine(bare_any h1).mono ?_
 rintro e w' ⟨rfl,rfl⟩
 rw[HN1.out]
 go_wp2_with fail
 refine(bare_any h2).mono ?_
 rintro e w' ⟨rfl,rfl⟩
 rw[HN2.out]
 go_wp2_with fail
 go_ret
 exact⟨ret_int (by rw[←E1.out,←E2.out,cmpI_gt];exact val_lt_of_length k2.1 k1 (by rw[L1.out,L2.out];exact hgt)),0,rfl⟩


theorem info49 :(Tryz.prog.info? 60).map (fun i=>(i.zero,i.size,i.bytes))=some (some (.int .u32 0),1,4):=by kernel_rfl

theorem made_zero (n:Nat):madeCells #[.int .u32 0] n=U (List.replicate n 0):=by
  apply Array.ext'
  rw[toList_madeCells_one]
  simp[U]

theorem run_mk (n:Nat)(hn:n≤70368744177664)(u:World):(Instr.makeSlice 36 (.int .i64 (n:Int)) (.int .i64 (n:Int))).run Tryz.prog u=
      .ok (.slice (some ⟨u.heap.size,0,none⟩) n n) (u.alloc (.cells (U (List.replicate n 0)) 60)):=by
  obtain⟨i0,hi,hz0,hz1,hz2⟩:=info_parts info49
  have h:=run_make (P:=Tryz.prog) u 36 60 i0 (.int .u32 0) Tryz.underlying36 hi hz0 .i64 .i64 (n:Int) (n:Int) (by omega) (Int.le_refl _) (by rw[hz2];omega) (by omega)
  rw[Int.toNat_natCast]at h
  rw[←made_zero]
  simpa [hz1,Value.cells] using h

theorem run_mk' (n:Nat)(hn:n+1≤70368744177664)(u:World):(Instr.makeSlice 36 (.int .i64 ((n:Int)+1)) (.int .i64 ((n:Int)+1))).run Tryz.prog u=
      .ok (.slice (some ⟨u.heap.size,0,none⟩) (n+1) (n+1)) (u.alloc (.cells (U (List.replicate (n+1) 0)) 60)):=run_mk (n+1) hn u

theorem row_alloc (w:World)(xs:List Int):Row (w.alloc (.cells (U xs) 60)) w.heap.size xs:=heap_alloc_new w _

theorem mask64 (x:Int)(h0:0≤x)(h1:x<18446744073709551616):bits .and .u64 x 4294967295=x%4294967296:=by
  rw[u64_and x 4294967295 h0 h1 (by decide) (by decide)]
  have e:(4294967295:Int).toNat=2^32-1:=by decide
  rw[e,Nat.and_two_pow_sub_one_eq_mod]
  omega

theorem below_set {wr:World}(h:Below w.heap.size w wr)(k:Nat)(v:Value):Below w.heap.size w (wr.setCell ⟨w.heap.size,k,none⟩ v):=h.setCell (Nat.le_refl _) v

theorem size_set (w:World)(a:Addr)(v:Value):(w.setCell a v).heap.size=w.heap.size:=by simp[World.setCell]

theorem add_any (h1:Rd w a1 l1 c1 xs)(h2:Rd w a2 l2 c2 ys)(hl1:l1≤1099511627776)(hl2:l2≤1099511627776):
    Calls Tryz.prog 109 #[.slice a1 l1 c1,.slice a2 l2 c2] w fun e w'=> ∃ad len cap zs,e= .returned (.slice ad len cap)∧Out w w' ad len cap zs∧Canon zs∧val zs=val xs+val ys∧len≤max l1 l2+1:=by
  have t1:=h1.trim
  have t2:=h2.trim
  have e1:=val_trim xs
  have e2:=val_trim ys
  have b1:tl xs l1≤l1:=tl_le _ _
  have b2:tl ys l2≤l2:=tl_le _ _
  generalize hX:trim xs=X at*
  generalize hY:trim ys=Y at*
  clear hX hY
  generalize hn1:tl xs l1=n1 at*
  generalize hn2:tl ys l2=n2 at*
  have HN1:Hid (tl xs l1=n1):=hn1
  have HN2:Hid (tl ys l2=n2):=hn2
  have E1:Hid (val X=val xs):=e1
  have E2:Hid (val Y=val ys):=e2
  have L1:Hid (X.length=n1):=t1.1
  have L2:Hid (Y.length=n2):=t2.1
  clear hn1 hn2 e1 e2
  go_enter Tryz.func109,Tryz.ntmps109
  go_wp2_with fail
  refine(bare_any h1).mono ?_
  rintro e w' ⟨rfl,rfl⟩
  rw[HN1.out]
  go_wp2_with fail
  refine(bare_any h2).mono ?_
  rintro e w' ⟨rfl,rfl⟩
  rw[HN2.out]
  have hsplit:(n1<n2)∨ ¬(n1<n2):=Decidable.em _
  rcases hsplit with hlt|hlt
  · obtain⟨N,rfl⟩: ∃N,N=n2:=⟨_,rfl⟩
    have hmk:=run_mk' N (by omega)
    go_wp2_with fail
    go_loopw [7,22] (fun c i wr=> ∃(k:Nat) (cr:Int) (zs:List Int),k≤N∧i= .int .i64 k∧c= .int .u64 cr∧0≤cr∧cr≤1∧zs.length=N+1∧Limbs zs∧Row wr w.heap.size zs∧Below w.heap.size w wr∧wr.heap.size=w.heap.size+1∧vl zs k+cr*pw k=vl X k+vl Y k) (fun _ i _=>N-(intOf i).toNat)
    case atStart=>exact⟨0,0,_,Nat.zero_le _,rfl,rfl,by decide,by decide,List.length_replicate,Limbs.replicate _,row_alloc w _,(Below.refl _ _).alloc (Nat.le_refl _) _,by simp,by simp[vl]⟩
    case round=>
      obtain⟨k,cr,zs,hk,rfl,rfl,hc0,hc1,hzl,hzL,hrow,hbel,hsz,hv⟩:=hrel
      have HV:=hide hv
      have hcell:=hrow.cell (i:=k) (by omega)
      have hfr:=hrow.frozen k
      clear hv hmk
      by_cases hkN:k<N
      · have q1:=t1.below hbel
        have q2:=t2.below hbel
        go_wp2_with fail
        refine(limb_any q1 (k:Int) (by omega) (by omega)).mono ?_
        rintro e w' ⟨rfl,rfl⟩
        rw[Int.toNat_natCast]
        go_wp2_with fail
        refine(limb_any q2 (k:Int) (by omega) (by omega)).mono ?_
        rintro e w' ⟨rfl,rfl⟩
        rw[Int.toNat_natCast]
        have B1:=lz_bd q1.2.2.2.1 k
        have B2:=lz_bd q2.2.2.2.1 k
        have HS:Hid (vl (zs.set k ((cr+(lz X k+lz Y k))%4294967296)) (k+1)+((cr+(lz X k+lz Y k)) / 4294967296)*pw (k+1)=vl X (k+1)+vl Y (k+1)):=by
          have:=carry_step (zs:=zs) (k:=k) (cr:=cr) (s:=lz X k+lz Y k) (T:=_) (by omega) (unhide HV)
          rw[Int.add_mul]at this
          show _=_;rw[this,vl_succ,vl_succ];omega
        clear HV q1 q2
        generalize lz X k=x at*
        generalize lz Y k=y at*
        go_wp2_with fail
        rw[mask64 _ (by omega) (by omega),Int.emod_emod_of_dvd _ (Int.dvd_refl _)]
        exact⟨⟨k+1,_,_,by omega,by go_num,rfl,by omega,by omega,by rw[List.length_set];exact hzl,hzL.set k (by omega) (by omega),hrow.set k _,below_set hbel k _,by rw[size_set];exact hsz,unhide HS⟩,by simp[intOf];omega⟩
      obtain rfl:k=N:=by omega
      go_wp2_with fail
      have hset:=hrow.set k cr
      have hlim:=hzL.set k (x:=cr) (by omega) (by omega)
      have hbel':=below_set hbel k (.int .u32 cr)
      have hval:Hid (val (zs.set k cr)=val xs+val ys):=by
        show _=_
        have e:val (zs.set k cr)=vl (zs.set k cr) (k+1):=by unfold val;rw[List.length_set,hzl]
        rw[e,vl_succ,vl_set_past _ _ _ _ (Nat.le_refl _) (by omega),lz_set _ _ _ _ (by omega),if_pos rfl,unhide HV,vl_ge (by have:=L1.out;omega),vl_ge (by have:=L2.out;omega),E1.out,E2.out]
      have hlen':(zs.set k cr).length=k+1:=by rw[List.length_set];exact hzl
      clear HV hcell hfr hrow hbel hsz
      refine(bare_own hset hlim hlen' (by omega)).mono ?_
      rintro e w' ⟨rfl,rfl⟩
      go_wp2_with fail
      go_ret
      obtain⟨o1,o2,o3,o4⟩:=own_trim hbel' hset hlim hlen' (by omega)
      exact⟨_,_,_,_,rfl,o1,o2,o3.trans (unhide hval),by omega⟩
  obtain⟨N,rfl⟩: ∃N,N=n1:=⟨_,rfl⟩
  have hmk:=run_mk' N (by omega)
  go_wp2_with fail
  go_loopw [7,22] (fun c i wr=> ∃(k:Nat) (cr:Int) (zs:List Int),k≤N∧i= .int .i64 k∧c= .int .u64 cr∧0≤cr∧cr≤1∧zs.length=N+1∧Limbs zs∧Row wr w.heap.size zs∧Below w.heap.size w wr∧wr.heap.size=w.heap.size+1∧vl zs k+cr*pw k=vl X k+vl Y k) (fun _ i _=>N-(intOf i).toNat)
  case atStart=>exact⟨0,0,_,Nat.zero_le _,rfl,rfl,by decide,by decide,List.length_replicate,Limbs.replicate _,row_alloc w _,(Below.refl _ _).alloc (Nat.le_refl _) _,by simp,by simp[vl]⟩
  case round=>
    obtain⟨k,cr,zs,hk,rfl,rfl,hc0,hc1,hzl,hzL,hrow,hbel,hsz,hv⟩:=hrel
    have HV:=hide hv
    have hcell:=hrow.cell (i:=k) (by omega)
    have hfr:=hrow.frozen k
    clear hv hmk
    by_cases hkN:k<N
    · have q1:=t1.below hbel
      have q2:=t2.below hbel
      go_wp2_with fail
      refine(limb_any q1 (k:Int) (by omega) (by omega)).mono ?_
      rintro e w' ⟨rfl,rfl⟩
      rw[Int.toNat_natCast]
      go_wp2_with fail
      refine(limb_any q2 (k:Int) (by omega) (by omega)).mono ?_
      rintro e w' ⟨rfl,rfl⟩
      rw[Int.toNat_natCast]
      have B1:=lz_bd q1.2.2.2.1 k
      have B2:=lz_bd q2.2.2.2.1 k
      have HS:Hid (vl (zs.set k ((cr+(lz X k+lz Y k))%4294967296)) (k+1)+((cr+(lz X k+lz Y k)) / 4294967296)*pw (k+1)=vl X (k+1)+vl Y (k+1)):=by
        have:=carry_step (zs:=zs) (k:=k) (cr:=cr) (s:=lz X k+lz Y k) (T:=_) (by omega) (unhide HV)
        rw[Int.add_mul]at this
        show _=_;rw[this,vl_succ,vl_succ];omega
      clear HV q1 q2
      generalize lz X k=x at*
      generalize lz Y k=y at*
      go_wp2_with fail
      rw[mask64 _ (by omega) (by omega),Int.emod_emod_of_dvd _ (Int.dvd_refl _)]
      exact⟨⟨k+1,_,_,by omega,by go_num,rfl,by omega,by omega,by rw[List.length_set];exact hzl,hzL.set k (by omega) (by omega),hrow.set k _,below_set hbel k _,by rw[size_set];exact hsz,unhide HS⟩,by simp[intOf];omega⟩
    obtain rfl:k=N:=by omega
    go_wp2_with fail
    have hset:=hrow.set k cr
    have hlim:=hzL.set k (x:=cr) (by omega) (by omega)
    have hbel':=below_set hbel k (.int .u32 cr)
    have hval:Hid (val (zs.set k cr)=val xs+val ys):=by
      show _=_
      have e:val (zs.set k cr)=vl (zs.set k cr) (k+1):=by unfold val;rw[List.length_set,hzl]
      rw[e,vl_succ,vl_set_past _ _ _ _ (Nat.le_refl _) (by omega),lz_set _ _ _ _ (by omega),if_pos rfl,unhide HV,vl_ge (by have:=L1.out;omega),vl_ge (by have:=L2.out;omega),E1.out,E2.out]
    have hlen':(zs.set k cr).length=k+1:=by rw[List.length_set];exact hzl
    clear HV hcell hfr hrow hbel hsz
    refine(bare_own hset hlim hlen' (by omega)).mono ?_
    rintro e w' ⟨rfl,rfl⟩
    go_wp2_with fail
    go_ret
    obtain⟨o1,o2,o3,o4⟩:=own_trim hbel' hset hlim hlen' (by omega)
    exact⟨_,_,_,_,rfl,o1,o2,o3.trans (unhide hval),by omega⟩

theorem below_drewN (B:Nat)(w:World)(q:Nat):Below B w (w.drewN q):=⟨rfl,rfl,rfl,Nat.le_refl _,fun _ _=>rfl⟩
theorem below_alloc_drewN (w:World)(q:Nat)(o:Obj):Below w.heap.size w ((w.drewN q).alloc o):=
 ⟨rfl,rfl,rfl,by simp,fun k hk=>Below.heap_alloc (w.drewN q) o k hk⟩

theorem sub_any (h1:Rd w a1 l1 c1 xs)(h2:Rd w a2 l2 c2 ys)(hl1:l1≤1099511627776)(hge:val ys≤val xs):
  Calls Tryz.prog 111 #[.slice a1 l1 c1,.slice a2 l2 c2] w fun e w'=> ∃ad len cap zs,e= .returned (.tuple #[.slice ad len cap,.int .i64 0])∧Out w w' ad len cap zs∧Canon zs∧val zs=val xs-val ys∧len≤l1:=by
 have t1:=h1.trim
 have t2:=h2.trim
 have k1:=canon_trim h1.2.2.2.1
 have k2:=canon_trim h2.2.2.2.1
 have e1:=val_trim xs
 have e2:=val_trim ys
 have b1:tl xs l1≤l1:=tl_le _ _
 generalize hX:trim xs=X at*
 generalize hY:trim ys=Y at*
 clear hX hY
 generalize hn1:tl xs l1=n1 at*
 generalize hn2:tl ys l2=n2 at*
 have HN1:Hid (tl xs l1=n1):=hn1
 have HN2:Hid (tl ys l2=n2):=hn2
 have E1:Hid (val X=val xs):=e1
 have E2:Hid (val Y=val ys):=e2
 have L1:Hid (X.length=n1):=t1.1
 have L2:Hid (Y.length=n2):=t2.1
 have hYX:n2≤n1:=by
  rcases Nat.lt_or_ge n1 n2 with h|h
  ·have:=val_lt_of_length k1.1 k2 (by rw[L1.out,L2.out];exact h)
   omega
  exact h
 have hcmp:decide (cmpI (val X) (val Y)<0)=false:=by
  unfold cmpI
  rw[if_neg (by omega)]
  split <;> decide
 have HGE:=hide hge
 clear hn1 hn2 e1 e2 hge
 have hmk:=run_mk n1 (by omega)
 go_enter Tryz.func111,Tryz.ntmps111
 go_wp2_with fail
 refine(bare_any h1).mono ?_
 rintro e w' ⟨rfl,rfl⟩
 rw[HN1.out]
 go_wp2_with fail
 refine(bare_any h2).mono ?_
 rintro e w' ⟨rfl,rfl⟩
 rw[HN2.out]
 go_wp2_with fail
 refine(cmp_any t1 t2).mono ?_
 rintro e w' ⟨rfl,qd,rfl⟩
 go_wp2_with fail
 go_loopw [8,24] (fun c i wr=> ∃(k:Nat) (cr:Int) (zs:List Int),k≤n1∧i= .int .i64 k∧c= .int .u64 cr∧0≤cr∧cr≤1∧zs.length=n1∧Limbs zs∧Row wr w.heap.size zs∧Below w.heap.size w wr∧vl zs k-cr*pw k=vl X k-vl Y k) (fun _ i _=>n1-(intOf i).toNat)
 case atStart=>exact⟨0,0,_,Nat.zero_le _,rfl,rfl,by decide,by decide,List.length_replicate,Limbs.replicate _,row_alloc w _,below_alloc_drewN w _ _,by simp[vl]⟩
 case round=>
  obtain⟨k,cr,zs,hk,rfl,rfl,hc0,hc1,hzl,hzL,hrow,hbel,hv⟩:=hrel
  have HV:=hide hv
  clear hv hmk
  by_cases hkN:k<n1
  ·have q1:=t1.below hbel
   have q2:=t2.below hbel
   have hcell:=hrow.cell (i:=k) (by omega)
   have hfr:=hrow.frozen k
   go_wp2_with fail
   refine(limb_any q1 (k:Int) (by omega) (by omega)).mono ?_
   rintro e w' ⟨rfl,rfl⟩
   rw[Int.toNat_natCast]
   go_wp2_with fail
   refine(limb_any q2 (k:Int) (by omega) (by omega)).mono ?_
   rintro e w' ⟨rfl,rfl⟩
   rw[Int.toNat_natCast]
   have B1:=lz_bd q1.2.2.2.1 k
   have B2:=lz_bd q2.2.2.2.1 k
   have HS:Hid (vl (zs.set k ((4294967296+lz X k-lz Y k-cr)%4294967296)) (k+1)-(1-(4294967296+lz X k-lz Y k-cr) / 4294967296)*pw (k+1)=vl X (k+1)-vl Y (k+1)):=by
    have:=borrow_step (zs:=zs) (k:=k) (bw:=cr) (d:=lz X k-lz Y k) (T:=_) (by omega) (unhide HV)
    have e3:(4294967296+(lz X k-lz Y k)-cr)=(4294967296+lz X k-lz Y k-cr):=by omega
    rw[e3,Int.sub_mul (lz X k)]at this
    show _=_
    rw[this,vl_succ,vl_succ];omega
   clear HV q1 q2
   generalize lz X k=x at*
   generalize lz Y k=y at*
   go_wp2
   rw[mask64 _ (by omega) (by omega),Int.emod_emod_of_dvd _ (Int.dvd_refl _)]
   exact⟨⟨k+1,_,_,by omega,by go_num,rfl,by omega,by omega,by rw[List.length_set];exact hzl,hzL.set k (by omega) (by omega),hrow.set k _,below_set hbel k _,unhide HS⟩,by simp[intOf];omega⟩
  obtain rfl:k=n1:=by omega
  have hval:Hid (val zs=val xs-val ys):=by
   show _=_
   have e3:=unhide HV
   have e4:vl zs k=val zs:=by unfold val;rw[hzl]
   have e5:vl X k=val xs:=by rw[vl_ge (by have:=L1.out;omega),E1.out]
   have e6:vl Y k=val ys:=by rw[vl_ge (by have:=L2.out;omega),E2.out]
   have e7:=vl_bd hzL k
   have e8:=unhide HGE
   have e9:=pw_pos k
   have e10:cr=0∨cr=1:=by omega
   rcases e10 with rfl|rfl <;> omega
  clear HV
  go_wp2_with fail
  refine(bare_own hrow hzL hzl (by omega)).mono ?_
  rintro e w' ⟨rfl,rfl⟩
  go_wp2_with fail
  go_ret2
  obtain⟨o1,o2,o3,o4⟩:=own_trim hbel hrow hzL hzl (by omega)
  exact⟨_,_,_,_,rfl,o1,o2,o3.trans (unhide hval),by omega⟩

theorem run_mk2 (n m:Nat)(hn:n+m≤70368744177664)(u:World):(Instr.makeSlice 36 (.int .i64 ((n:Int)+(m:Int))) (.int .i64 ((n:Int)+(m:Int)))).run Tryz.prog u=
      .ok (.slice (some ⟨u.heap.size,0,none⟩) (n+m) (n+m)) (u.alloc (.cells (U (List.replicate (n+m) 0)) 60)):=run_mk (n+m) hn u

theorem mul_any (h1:Rd w a1 l1 c1 xs)(h2:Rd w a2 l2 c2 ys)(hl1:l1≤1099511627776)(hl2:l2≤1099511627776):
    Calls Tryz.prog 144 #[.slice a1 l1 c1,.slice a2 l2 c2] w fun e w'=> ∃ad len cap zs,e= .returned (.slice ad len cap)∧Out w w' ad len cap zs∧Canon zs∧val zs=val xs*val ys∧len≤l1+l2:=by
  have t1:=h1.trim
  have t2:=h2.trim
  have e1:=val_trim xs
  have e2:=val_trim ys
  have b1:tl xs l1≤l1:=tl_le _ _
  have b2:tl ys l2≤l2:=tl_le _ _
  generalize hX:trim xs=X at*
  generalize hY:trim ys=Y at*
  clear hX hY
  generalize hn1:tl xs l1=n1 at*
  generalize hn2:tl ys l2=n2 at*
  have HN1:Hid (tl xs l1=n1):=hn1
  have HN2:Hid (tl ys l2=n2):=hn2
  have E1:Hid (val X=val xs):=e1
  have E2:Hid (val Y=val ys):=e2
  have L1:Hid (X.length=n1):=t1.1
  have L2:Hid (Y.length=n2):=t2.1
  clear hn1 hn2 e1 e2
  have hmk:=run_mk2 n1 n2 (by omega)
  go_enter Tryz.func144,Tryz.ntmps144
  go_wp2_with fail
  refine(bare_any h1).mono ?_
  rintro e w' ⟨rfl,rfl⟩
  rw[HN1.out]
  go_wp2_with fail
  refine(bare_any h2).mono ?_
  rintro e w' ⟨rfl,rfl⟩
  rw[HN2.out]
  go_wp2_with fail
  go_loopw [24] (fun i wr=> ∃(k:Nat) (P:List Int),k≤n1∧i= .int .i64 k∧P.length=n1+n2∧Limbs P∧Row wr w.heap.size P∧Below w.heap.size w wr∧(∀t,k+n2≤t→lz P t=0)∧vl P (k+n2)=vl X k*val Y) (fun i _=>n1-(intOf i).toNat)
  case atStart=>exact⟨0,_,Nat.zero_le _,rfl,List.length_replicate,Limbs.replicate _,row_alloc w _,(Below.refl _ _).alloc (Nat.le_refl _) _,fun t _=>lz_replicate _ _,by rw[vl_replicate];simp[vl]⟩
  case round=>
    obtain⟨k,P,hk,rfl,hPl,hPL,hrow,hbel,hPz,hv⟩:=hrel
    have HV:=hide hv
    have HZ:=hide hPz
    clear hv hmk hPz
    by_cases hkN:k<n1
    · go_wp2_with fail
      go_loopw [9,28] (fun c j wj=> ∃(m:Nat) (cr:Int) (zs:List Int),m≤n2∧j= .int .i64 m∧c= .int .u64 cr∧0≤cr∧cr<4294967296∧zs.length=n1+n2∧Limbs zs∧Row wj w.heap.size zs∧Below w.heap.size w wj∧(∀t,k+m≤t→lz zs t=lz P t)∧vl zs (k+m)+cr*pw (k+m)=vl P (k+m)+lz X k*vl Y m*pw k) (fun _ j _=>n2-(intOf j).toNat)
      case atStart=>exact⟨0,0,P,Nat.zero_le _,rfl,rfl,by decide,by decide,hPl,hPL,hrow,hbel,fun _ _=>rfl,by simp[vl]⟩
      case round=>
        obtain⟨m,cr,zs,hm,rfl,rfl,hc0,hc1,hzl,hzL,hrz,hbz,hsame,hvz⟩:=hrel
        have HVZ:=hide hvz
        have HSAME:=hide hsame
        clear hvz hsame hrow hbel
        by_cases hmN:m<n2
        · have q1:=t1.below hbz
          have q2:=t2.below hbz
          have q3:=hrz.rd hzL (off:=0) (len:=n1+n2) (cap:=n1+n2) (by omega) (Nat.le_refl _) (by omega)
          rw[List.drop_zero,List.take_of_length_le (by omega)]at q3
          have hcell:=hrz.cell (i:=k+m) (by omega)
          have hfr:=hrz.frozen (k+m)
          go_wp2_with fail
          refine(limb_any q1 (k:Int) (by omega) (by omega)).mono ?_
          rintro e w' ⟨rfl,rfl⟩
          rw[Int.toNat_natCast]
          go_wp2_with fail
          refine(limb_any q2 (m:Int) (by omega) (by omega)).mono ?_
          rintro e w' ⟨rfl,rfl⟩
          rw[Int.toNat_natCast]
          have B1:=lz_bd q1.2.2.2.1 k
          have B2:=lz_bd q2.2.2.2.1 m
          have B3:=lz_bd hzL (k+m)
          have B4:=mul_bd B1.1 B1.2 B2.1 B2.2
          go_wp2_with fail
          refine(limb_any q3 ((k:Int)+(m:Int)) (by omega) (by omega)).mono ?_
          rintro e w' ⟨rfl,rfl⟩
          rw[show((k:Int)+(m:Int)).toNat=k+m from by omega]
          have HS:=hide (mul_step (zs:=zs) (P:=P) (Y:=Y) (i:=k) (j:=m) (cr:=cr) (x:=lz X k) (by omega) ((unhide HSAME) (k+m) (Nat.le_refl _)) (unhide HVZ))
          clear q1 q2 q3 HVZ
          generalize hz:lz zs (k+m)=z at*
          have Hz:=hide hz
          clear hz
          generalize hp:lz X k*lz Y m=p at*
          have Hp:=hide hp
          clear hp
          go_wp2_with fail
          rw[mask64 _ (by omega) (by omega),Int.emod_emod_of_dvd _ (Int.dvd_refl _)]
          exact⟨⟨m+1,_,_,by omega,by go_num,rfl,by omega,by omega,by rw[List.length_set];exact hzl,hzL.set (k+m) (by omega) (by omega),hrz.set (k+m) _,below_set hbz (k+m) _,fun t ht=>by rw[lz_set _ _ _ _ (by omega),if_neg (by omega)];exact(unhide HSAME) t (by omega),unhide HS⟩,by simp[intOf];omega⟩
        obtain rfl:m=n2:=by omega
        have hcell:=hrz.cell (i:=k+m) (by omega)
        have hfr:=hrz.frozen (k+m)
        have HS:=hide (mul_last (zs:=zs) (P:=P) (X:=X) (Y:=Y) (i:=k) (m:=m) (cr:=cr) (by omega) L2.out (unhide HVZ) (unhide HV))
        clear HVZ HV
        go_wp2_with fail
        go_roundw
        case rel=>exact⟨k+1,_,by omega,by go_num,by rw[List.length_set];exact hzl,hzL.set (k+m) (by omega) (by omega),hrz.set (k+m) _,below_set hbz (k+m) _,fun t ht=>by rw[lz_set _ _ _ _ (by omega),if_neg (by omega),(unhide HSAME) t (by omega)];exact(unhide HZ) t (by omega),by rw[show k+1+m=k+m+1 from by omega];exact unhide HS⟩
        case measure=>simp[intOf];omega
    obtain rfl:k=n1:=by omega
    have hval:Hid (val P=val xs*val ys):=by
      show _=_
      have e4:vl P (k+n2)=val P:=by unfold val;rw[hPl]
      have e5:vl X k=val xs:=by rw[vl_ge (by have:=L1.out;omega),E1.out]
      rw[←e4,unhide HV,e5,E2.out]
    clear HV
    go_wp2_with fail
    refine(bare_own hrow hPL hPl (by omega)).mono ?_
    rintro e w' ⟨rfl,rfl⟩
    go_wp2_with fail
    go_ret
    obtain⟨o1,o2,o3,o4⟩:=own_trim hbel hrow hPL hPl (by omega)
    exact⟨_,_,_,_,rfl,o1,o2,o3.trans (unhide hval),by omega⟩

theorem wpList_append_run {P:Program}{ops:Array Oper}{rest:List Oper}{o:Oper}{a:Act}{Q:Exit→Act→World→Prop}(hgd:o.guard=none)(s x:Operand)(t:TypeId)
  (ho:o.op= .call {callee:=.builtin .append,args:=#[s,x],argTypes:=#[t,t]})(v1 v2:Value)(hs:a.eval s=v1)(hx:a.eval x=v2)(F:Value→World→Prop)
  (hr: ∃v' w',(Builtin.append_ #[t,t] o.type #[v1,v2]).run P w= .ok v' w'∧F v' w')
  (h: ∀v' w',F v' w'→wpList P ops Q rest (a.put o.dst v') w'):wpList P ops Q (o::rest) a w:=by
 obtain⟨v',w',hr,hF⟩:=hr
 refine wpList_plain hgd fun K hK=> ?_
 unfold Oper.wp execOp
 simp only[ho,resolve,invoke,builtin,Sem.run_bind,Sem.run_pure,Result.andThen_ok,List.map_toArray,List.map_cons,List.map_nil,hs,hx,hr]
 exact hK _ _ (h v' w' hF)

theorem zeroCells_eq (n:Nat):Builtin.zeroCells (Value.int .u32 0).cells n=U (List.replicate n 0):=by
 apply Array.ext'
 apply List.ext_getElem?
 intro j
 by_cases hj:j<n
 ·simp[Builtin.zeroCells,Value.cells,U,hj,Nat.mod_one]
 simp[Builtin.zeroCells,Value.cells,U,hj]

theorem U_append (xs ys:List Int):U xs++U ys=U (xs++ys):=by simp[U]

theorem row_drew_alloc (w:World)(xs:List Int):Row (w.drew.alloc (.cells (U xs) 60)) w.heap.size xs:=heap_alloc_new w.drew _

theorem Limbs.append (h:Limbs xs)(k:Limbs ys):Limbs (xs++ys):=fun z hz=>(List.mem_append.1 hz).elim (h z) (k z)
theorem Limbs.drop (h:Limbs zs)(n:Nat):Limbs (zs.drop n):=fun z hz=>h z (List.mem_of_mem_drop hz)

theorem lz_map {v:Value}(h:(xs.map (Value.int .u32))[j]? =some v):j<xs.length∧v= .int .u32 (lz xs j):=by
 rw[List.getElem?_map]at h
 cases hq:xs[j]? with
 |none=>rw[hq]at h;cases h
 |some y=>
  rw[hq]at h
  simp only[Option.map_some,Option.some.injEq]at h
  refine⟨(List.getElem?_eq_some_iff.1 hq).1,?_⟩
  rw[←h]
  simp[lz,List.getD,hq]

theorem info49a :(Tryz.prog.info? 60).map (fun i=>(i.zero,i.size,i.bytes))=some (some (.int .u32 0),1,4):=by kernel_rfl

theorem below_drew_alloc (h:Below w0.heap.size w0 w)(o:Obj):Below w0.heap.size w0 (w.drew.alloc o):=
 (h.drew).alloc (by have:=h.size;simpa using this) o

theorem grown_drew_alloc (w:World)(o:Obj)(row:Option Nat):w.grownBy (w.drew.alloc o) row:=
 ⟨rfl,rfl,rfl,by simp,fun k hk _=>Below.heap_alloc w.drew o k hk⟩

theorem run_append_out (hO:Out w0 w ad n cap xs)(ty:TypeId)(a:Addr)(m c:Nat)(news:List Int)(hl:news.length=m)(hL:Limbs news)
  (hnews: ∀j,j<m→w.cell? (a.add j)=some (.int .u32 (lz news j)))(hbig:n+m≤35184372088832):
  ∃v' w',(Builtin.append_ #[36,36] ty #[.slice ad n cap,.slice (some a) m c]).run Tryz.prog w= .ok v' w'∧∃ad' cap',v'= .slice ad' (n+m) cap'∧Out w0 w' ad' (n+m) cap' (xs++news)∧w.grownBy w' (blk ad)∧(∀k,blk ad'=some k→blk ad=some k∨w.heap.size≤k):=by
 obtain⟨i0,hi,hz0,hz1,hz2⟩:=info_parts info49a
 have hnv: ∀j v,(news.map (Value.int .u32))[j]? =some v→w.cell? (a.add j)=some v:=fun j v hv=>by
  obtain⟨h1,rfl⟩:=lz_map hv
  exact hnews j (by omega)
 have hone: ∀u∈news.map (Value.int .u32),u.oneCell'=true:=fun u hu=>by
  obtain⟨z,_,rfl⟩:=List.mem_map.1 hu;rfl
 obtain⟨hB,⟨rfl,rfl,rfl,rfl⟩|⟨b,zs,rfl,hb,hr,hlz,hzl,hle,hm,rfl⟩⟩:=hO
 ·by_cases h0:m=0
  ·subst h0
   obtain rfl:news= []:=List.eq_nil_of_length_eq_zero hl
   refine⟨.slice none 0 0,w,?_,none,0,rfl,⟨hB,.inl ⟨rfl,rfl,rfl,rfl⟩⟩,⟨rfl,rfl,rfl,Nat.le_refl _,fun _ _ _=>rfl⟩,fun k h=> .inl h⟩
   simp[Builtin.append_,run_underlying Tryz.underlying36,sizeOf,typeInfo,hi,Builtin.lenOf,Builtin.firstCells,loadCells,loadCellsFrom]
  have hr:=run_append_nil (P:=Tryz.prog) w 36 ty 60 i0 (.int .u32 0) Tryz.underlying36 hi hz0 a m c (news.map (Value.int .u32)) (by rw[hz1];simp[hl]) hnv (by omega) (by omega) (by rw[hz2];omega)
  have hge:=grownCap_ge w m 0 60
  have hcm:grownCap w m 0 60≤maxLen:=grownCap_le_maxLen w m 0 60 (by unfold maxLen;omega)
  rw[zeroCells_eq]at hr
  rw[show(news.map (Value.int .u32)).toArray=U news from rfl,U_append]at hr
  refine⟨_,_,hr,_,_,by rw[Nat.zero_add],⟨below_drew_alloc hB _,.inr ⟨_,_,rfl,by have:=hB.size;omega,row_drew_alloc w _,hL.append (Limbs.replicate _),by simp[hl];omega,by omega,by unfold maxLen at hcm;omega,?_⟩⟩,grown_drew_alloc w _ _,fun k h=> .inr (by cases h;exact Nat.le_refl _)⟩
  rw[Nat.zero_add,List.nil_append,←hl,List.take_left]
 by_cases hroom:n+m≤cap
 ·have hr':=run_append_room (P:=Tryz.prog) w 36 ty 60 i0 Tryz.underlying36 hi b n cap (U zs) hr a m c (news.map (Value.int .u32)) (by rw[hz1];simp[hl]) hnv hone hroom (by rw[hz1,U_size];simp[hl];omega)
  refine⟨_,_,hr',some ⟨b,0,none⟩,cap,rfl,⟨?_,.inr ⟨b,zs.take n++news++zs.drop (n+m),rfl,hb,?_,((hlz.take n).append hL).append (hlz.drop _),by simp[hl];omega,hroom,hm,?_⟩⟩,⟨rfl,rfl,rfl,by simp,fun k _ hk=>setRow_other w b k _ (fun e=>hk (by simp[blk,e]))⟩,fun k h=> .inl h⟩
  ·exact hB.trans ⟨rfl,rfl,rfl,by simp,fun k hk=>setRow_other w b k _ (by omega)⟩
  ·have:=setRow_heap w b (U zs) ((U zs).toList.take (n*i0.size)++news.map (Value.int .u32)++(U zs).toList.drop (n*i0.size+(news.map (Value.int .u32)).length)).toArray 60 (0,0) hr
   rw[Row,this]
   simp[U,hz1,hl,List.map_take,List.map_drop]
  have e:(zs.take n++news).length=n+m:=by simp[hl];omega
  rw[←e,List.take_left]
 have holds: ∀j v,((zs.take n).map (Value.int .u32))[j]? =some v→w.cell? ((⟨b,0,none⟩:Addr).add j)=some v:=fun j v hv=>by
  obtain⟨h1,rfl⟩:=lz_map hv
  have h2:j<n:=by rw[List.length_take]at h1;omega
  rw[lz_take,if_pos h2,Addr.add_lit,Nat.zero_add]
  exact hr.cell (by omega)
 have hr':=run_append_grow (P:=Tryz.prog) w 36 ty 60 i0 (.int .u32 0) Tryz.underlying36 hi hz0 ⟨b,0,none⟩ n cap ((zs.take n).map (Value.int .u32)) (by rw[hz1];simp;omega) holds a m c (news.map (Value.int .u32)) (by rw[hz1];simp[hl]) hnv (by omega) (by omega) (growslice_fits (by omega) (by rw[hz2];omega))
 have hge:=grownCap_ge w (n+m) cap 60
 have hcm:grownCap w (n+m) cap 60≤maxLen:=grownCap_le_maxLen w (n+m) cap 60 (by unfold maxLen;omega)
 rw[zeroCells_eq]at hr'
 rw[show(news.map (Value.int .u32)).toArray=U news from rfl,show((zs.take n).map (Value.int .u32)).toArray=U (zs.take n) from rfl,U_append,U_append]at hr'
 refine⟨_,_,hr',_,_,rfl,⟨below_drew_alloc hB _,.inr ⟨_,_,rfl,by have:=hB.size;omega,row_drew_alloc w _,((hlz.take n).append hL).append (Limbs.replicate _),by simp[hl];omega,by omega,by unfold maxLen at hcm;omega,?_⟩⟩,grown_drew_alloc w _ _,fun k h=> .inr (by cases h;exact Nat.le_refl _)⟩
 have e:(zs.take n++news).length=n+m:=by simp[hl];omega
 rw[←e,List.take_left]


theorem ret_bool {a b:Bool}(h:a=b):Ending.returned (.bool a)= .returned (.bool b):=by rw[h]

theorem of_any (n:Int)(h0:0≤n)(h1:n<18446744073709551616)(w:World):
  Calls Tryz.prog 106 #[.int .u64 n] w fun e w'=> ∃ad len cap zs,e= .returned (.slice ad len cap)∧Out w w' ad len cap zs∧Canon zs∧val zs=n∧len≤2:=by
 have hm:=mask64 n h0 h1
 go_enter Tryz.func106,Tryz.ntmps106
 go_wp2_with fail
 have hrow:Row (w.alloc (.cells #[.int .u32 (n%4294967296),.int .u32 (n / 4294967296)] 60)) w.heap.size [n%4294967296,n / 4294967296]:=row_alloc w [n%4294967296,n / 4294967296]
 have hlim:Limbs [n%4294967296,n / 4294967296]:=by
  intro z hz
  simp only[List.mem_cons,List.not_mem_nil,or_false]at hz
  rcases hz with rfl|rfl <;> omega
 have hbel:Below w.heap.size w (w.alloc (.cells #[.int .u32 (n%4294967296),.int .u32 (n / 4294967296)] 60)):=(Below.refl _ _).alloc (Nat.le_refl _) _
 have hval:Hid (val [n%4294967296,n / 4294967296]=n):=by
  show _=_
  simp only[val,vl,lz,pw,List.length_cons,List.length_nil]
  simp
  omega
 refine(bare_own (n:=2) hrow hlim rfl (by decide)).mono ?_
 rintro e w' ⟨rfl,rfl⟩
 obtain⟨o1,o2,o3,o4⟩:=own_trim (n:=2) hbel hrow hlim rfl (by decide)
 clear hm
 go_wp2_with fail
 go_ret
 exact⟨_,_,_,_,rfl,o1,o2,o3.trans (unhide hval),o4⟩

theorem run_append_nils (ty:TypeId)(c:Nat)(w:World):(Builtin.append_ #[36,36] ty #[.slice none 0 0,.slice none 0 c]).run Tryz.prog w= .ok (.slice none 0 0) w:=by
 obtain⟨i0,hi,hz0,hz1,hz2⟩:=info_parts info49a
 simp[Builtin.append_,run_underlying Tryz.underlying36,sizeOf,typeInfo,hi,Builtin.lenOf,Builtin.firstCells]

theorem out_none (w:World):Out w w none 0 0 []:=⟨Below.refl _ _,.inl ⟨rfl,rfl,rfl,rfl⟩⟩

theorem run_append_all {X:List Int}(h:Rd w ad n cap X)(hb:n≤1099511627776)(ty:TypeId):
  ∃v' w',(Builtin.append_ #[36,36] ty #[.slice none 0 0,.slice ad n cap]).run Tryz.prog w= .ok v' w'∧∃ad' cap',v'= .slice ad' n cap'∧Out w w' ad' n cap' X:=by
 obtain⟨h1,h2,h3,h4,h5⟩:=h
 have fin: ∀a,ad=some a→(∀j,j<n→w.cell? (a.add j)=some (.int .u32 (lz X j)))→∃v' w',(Builtin.append_ #[36,36] ty #[.slice none 0 0,.slice ad n cap]).run Tryz.prog w= .ok v' w'∧∃ad' cap',v'= .slice ad' n cap'∧Out w w' ad' n cap' X:=by
  rintro a rfl hc
  obtain⟨v',w',hr,ad',cap',hv,ho,_⟩:=run_append_out (out_none w) ty a n cap X h1 h4 hc (by omega)
  rw[Nat.zero_add]at hv ho
  exact⟨v',w',hr,ad',cap',hv,by simpa using ho⟩
 rcases h5 with⟨rfl,rfl,rfl⟩|⟨a,rfl,rfl|⟨b,off,rfl,_,hc⟩⟩
 ·obtain rfl:X= []:=List.eq_nil_of_length_eq_zero h1
  exact⟨_,_,run_append_nils ty 0 w,none,0,rfl,out_none w⟩
 ·exact fin a rfl (fun j hj=>absurd hj (by omega))
 exact fin _ rfl (fun j hj=>by rw[Addr.add_lit];exact hc j hj)

theorem fresh_any (h1:Rd w a1 l1 c1 xs)(hl:l1≤1099511627776):
  Calls Tryz.prog 154 #[.slice a1 l1 c1] w fun e w'=> ∃ad cap,e= .returned (.slice ad (tl xs l1) cap)∧Out w w' ad (tl xs l1) cap (trim xs):=by
 have t1:=h1.trim
 have hb:=tl_le xs l1
 go_enter Tryz.func154,Tryz.ntmps154
 go_wp2_with fail
 refine(bare_any h1).mono ?_
 rintro e w' ⟨rfl,rfl⟩
 go_wp2_with(at_builtin;refine wpList_append_run rfl _ _ 36 rfl _ _ rfl rfl _ (run_append_all t1 (by omega) _) ?_;rintro v' w' ⟨ad',cap',rfl,ho⟩)
 go_ret
 exact⟨_,_,rfl,ho⟩

theorem or64 (x y:Int)(h0:0≤x)(h1:x<4294967296)(h2:0≤y)(h3:y<4294967296):bits .or .u64 (x*4294967296) y=x*4294967296+y:=by
 obtain⟨a,rfl⟩:=Int.eq_ofNat_of_zero_le h0
 obtain⟨b,rfl⟩:=Int.eq_ofNat_of_zero_le h2
 have e1:((a:Int)*4294967296)=((a*4294967296:Nat):Int):=by omega
 rw[e1,u64_or_nat _ _ (by omega) (by omega)]
 have e2:a*4294967296|||b=a*4294967296+b:=by
  have:=Nat.two_pow_add_eq_or_of_lt (i:=32) (b:=b) (by omega) a
  rw[Nat.mul_comm a]
  exact this.symm
 rw[e2]
 omega

theorem divl_row (hr:Row w b zs)(hL:Limbs zs)(hlen:len≤zs.length)(hbig:len≤1099511627776)(hd0:0<d)(hd1:d<4294967296):
  Calls Tryz.prog 155 #[.slice (some ⟨b,0,none⟩) len cap,.int .u32 d] w fun e w'=> ∃zk,e= .returned (.int .u32 (vl zs len%d))∧Row w' b zk∧Limbs zk∧zk.length=zs.length∧(∀j,len≤j→lz zk j=lz zs j)∧vl zk len=vl zs len / d∧Only b w w':=by
 go_enter Tryz.func155,Tryz.ntmps155
 go_wp2
 go_loopw [5,6] (fun l i wr=> ∃(k:Nat) (r:Int) (zk:List Int),k≤len∧i= .int .i64 ((k:Int)-1)∧l= .int .u64 r∧0≤r∧r<d∧Row wr b zk∧Limbs zk∧zk.length=zs.length∧(∀j,j<k∨len≤j→lz zk j=lz zs j)∧vl zs len-vl zs k=d*(vl zk len-vl zk k)+r*pw k∧Only b w wr) (fun _ i _=>(intOf i+1).toNat)
 case atStart=>exact⟨len,0,zs,Nat.le_refl _,rfl,rfl,by decide,hd0,hr,hL,rfl,fun _ _=>rfl,by simp,Only.refl _ _⟩
 case round=>
  obtain⟨k,r,zk,hk,rfl,rfl,hr0,hr1,hrow,hzL,hzl,hsame,hv,honly⟩:=hrel
  have HV:=hide hv
  have HS:=hide hsame
  clear hv hsame
  cases k with
  |zero=>
   have hfin:Hid (vl zs len%d=r∧vl zk len=vl zs len / d):=by
    have h:=unhide HV
    simp only[vl,pw,Int.sub_zero,Int.mul_one]at h
    rw[h]
    refine⟨?_,?_⟩
    ·rw[Int.add_comm,Int.add_mul_emod_self_left,Int.emod_eq_of_lt hr0 hr1]
    rw[Int.add_comm,Int.add_mul_ediv_left _ _ (by omega),Int.ediv_eq_zero_of_lt hr0 hr1,Int.zero_add]
   clear HV
   go_wp2
   go_ret
   exact⟨zk,ret_int (unhide hfin).1.symm,hrow,hzL,hzl,fun j hj=>(unhide HS) j (.inr hj),(unhide hfin).2,honly⟩
  |succ m=>
   have hcell:=hrow.cell (i:=m) (by omega)
   have hfr:=hrow.frozen m
   have hB:=lz_bd hzL m
   have ho:=or64 r (lz zk m) hr0 (by omega) hB.1 hB.2
   have HM:=hide ((unhide HS) m (.inl (by omega)))
   have hq:Hid (r*4294967296+lz zs m=d*((r*4294967296+lz zk m) / d)+(r*4294967296+lz zk m)%d):=by
    show _=_
    rw[←unhide HM]
    exact(Int.mul_ediv_add_emod _ _).symm
   have HD:=hide (div_step (zs:=zs) (zk:=zk) (m:=m) (len:=len) (d:=d) (r:=r) (by omega) (by omega) (unhide HM) (unhide hq) (unhide HV))
   have q0:0≤(r*4294967296+lz zk m) / d:=Int.ediv_nonneg (by omega) (by omega)
   have q1:(r*4294967296+lz zk m) / d<4294967296:=by
    refine Int.ediv_lt_of_lt_mul hd0 ?_
    have:(r+1)*4294967296≤d*4294967296:=Int.mul_le_mul_of_nonneg_right (by omega) (by decide)
    rw[Int.mul_comm 4294967296 d]
    omega
   have r0:0≤(r*4294967296+lz zk m)%d:=Int.emod_nonneg _ (by omega)
   have r1:(r*4294967296+lz zk m)%d<d:=Int.emod_lt_of_pos _ hd0
   clear hq HV
   generalize hx:lz zk m=x at*
   clear hx
   go_wp2
   exact⟨⟨m,_,_,by omega,rfl,rfl,r0,r1,hrow.set m _,hzL.set m q0 q1,by rw[List.length_set];exact hzl,fun j hj=>by rw[lz_set _ _ _ _ (by omega),if_neg (by omega)];exact(unhide HS) j (by omega),unhide HD,honly.trans (Only.set b m wr _)⟩,by simp[intOf]⟩

theorem tl_congr (h: ∀i,i<n→lz xs i=lz ys i):tl xs n=tl ys n:=by
 induction n with
 |zero=>rfl
 |succ n ih=>unfold tl;rw[h n (by omega),ih (fun i hi=>h i (by omega))]

theorem canon_cut {zk:List Int}(h:Limbs zk)(hn:n≤zk.length):Canon (zk.take (tl zk n))∧val (zk.take (tl zk n))=vl zk n:=by
 have hb:=tl_le zk n
 refine⟨⟨h.take _,fun hp=> ?_⟩,by rw[val_take _ _ (by omega),vl_tl]⟩
 have hl:(zk.take (tl zk n)).length=tl zk n:=by rw[List.length_take];omega
 rw[hl]at hp ⊢
 rw[lz_take,if_pos (by omega)]
 exact tl_last hp

theorem trim_canon (h:Canon zs):trim zs=zs:=canon_inj (canon_trim h.1) h (val_trim zs)
theorem tl_canon (h:Canon zs)(hn:zs.length=n):tl zs n=n:=by
 subst hn
 rw[←trim_length,trim_canon h]

theorem bare_cut {zk:List Int}(h:Row w b zk)(hl:Limbs zk)(hn:n≤zk.length)(hc:n≤cap)(hm:cap≤9223372036854775807):
  Calls Tryz.prog 139 #[.slice (some ⟨b,0,none⟩) n cap] w fun e w'=>e= .returned (.slice (some ⟨b,0,none⟩) (tl zk n) cap)∧w=w':=by
 have:=h.rd hl (off:=0) (len:=n) (cap:=cap) (by omega) hc hm
 rw[List.drop_zero]at this
 have e:tl (zk.take n) n=tl zk n:=tl_congr (fun i hi=>by rw[lz_take,if_pos hi])
 have k:=bare_any this
 rw[e]at k
 exact k

theorem Row.below (h:Row w b xs)(hb:Below w.heap.size w w'):Row w' b xs:=by
 unfold Row;rw[hb.block b h.lt];exact h

theorem Row.only {c:Nat}(h:Row w b xs)(hb:Only c w w')(hne:b≠c):Row w' b xs:=by
 unfold Row;rw[hb.block b hne];exact h

theorem Out.later (h:Out w0 w ad len cap zs)(hb:Below w.heap.size w w'):Out w0 w' ad len cap zs:=by
 obtain⟨h1,h2⟩:=h
 refine⟨h1.trans (hb.mono h1.size),?_⟩
 rcases h2 with h2|⟨b,xs,h3,h4,h5,h6⟩
 ·exact .inl h2
 exact .inr ⟨b,xs,h3,h4,h5.below hb,h6⟩

theorem Out.outer (h:Out w w' ad len cap zs)(hb:Below w0.heap.size w0 w):Out w0 w' ad len cap zs:=by
 obtain⟨h1,h2⟩:=h
 refine⟨hb.trans (h1.mono hb.size),?_⟩
 rcases h2 with h2|⟨b,xs,h3,h4,h6⟩
 ·exact .inl h2
 exact .inr ⟨b,xs,h3,Nat.le_trans hb.size h4,h6⟩

theorem divmod_less (h1:Rd w a1 l1 c1 xs)(h2:Rd w a2 l2 c2 ys)(hl1:l1≤1099511627776)(hlt:val xs<val ys):
  Calls Tryz.prog 149 #[.slice a1 l1 c1,.slice a2 l2 c2] w fun e w'=> ∃ad cap,e= .returned (.tuple #[.slice none 0 0,.slice ad (tl xs l1) cap,.int .i64 0])∧Out w w' ad (tl xs l1) cap (trim xs):=by
 have t1:=h1.trim
 have t2:=h2.trim
 have k1:=canon_trim h1.2.2.2.1
 have hnn:=val_nonneg h1.2.2.2.1
 have e1:=val_trim xs
 have e2:=val_trim ys
 have hp:((tl ys l2:Int)==0)=false:=by
  rw[beq_eq_false_iff_ne]
  intro h
  have h0:trim ys= []:=List.eq_nil_of_length_eq_zero (by have:=trim_length ys;rw[h2.1]at this;omega)
  rw[h0]at e2
  have:val []=0:=rfl
  omega
 have hcmp:decide (cmpI (val (trim xs)) (val (trim ys))<0)=true:=by
  rw[cmpI_lt (by omega)];decide
 have hb:=tl_le xs l1
 have htt:Hid (tl (trim xs) (tl xs l1)=tl xs l1):=tl_canon k1 t1.1
 have htr:Hid (trim (trim xs)=trim xs):=trim_canon k1
 clear e1 e2
 go_enter Tryz.func149,Tryz.ntmps149
 go_wp2_with fail
 refine(bare_any h1).mono ?_
 rintro e w' ⟨rfl,rfl⟩
 go_wp2_with fail
 refine(bare_any h2).mono ?_
 rintro e w' ⟨rfl,rfl⟩
 go_wp2_with fail
 refine(cmp_any t1 t2).mono ?_
 rintro e w' ⟨rfl,qd,rfl⟩
 have t3:=t1.below (below_drewN w.heap.size w qd)
 have hb2:=below_drewN w.heap.size w qd
 go_wp2_with fail
 refine(fresh_any t3 (by omega)).mono ?_
 rintro e w' ⟨ad,cap,rfl,ho⟩
 rw[unhide htt]at ho ⊢
 rw[unhide htr]at ho
 have HO:=hide (ho.outer hb2)
 clear ho
 go_wp2_with fail
 go_ret3
 exact⟨_,_,rfl,unhide HO⟩

theorem divmod_limb (h1:Rd w a1 l1 c1 xs)(h2:Rd w a2 l2 c2 ys)(hl1:l1≤1099511627776)(hge:val ys≤val xs)(hone:tl ys l2=1):
  Calls Tryz.prog 149 #[.slice a1 l1 c1,.slice a2 l2 c2] w fun e w'=> ∃aq lq cq zq ar lr cr zr,e= .returned (.tuple #[.slice aq lq cq,.slice ar lr cr,.int .i64 0])∧Out w w' aq lq cq zq∧Canon zq∧val zq=val xs / val ys∧Out w w' ar lr cr zr∧Canon zr∧val zr=val xs%val ys∧lq≤l1∧lr≤2∧(aq=none∨blk aq≠blk ar):=by
 have t1:=h1.trim
 have t2:=h2.trim
 have k1:=canon_trim h1.2.2.2.1
 have k2:=canon_trim h2.2.2.2.1
 have e1:=val_trim xs
 have e2:=val_trim ys
 have L2:=trim_length ys
 rw[h2.1,hone]at L2
 rw[hone]at t2
 generalize hX:trim xs=X at*
 generalize hY:trim ys=Y at*
 clear hX hY
 have b1:=tl_le xs l1
 generalize hn1:tl xs l1=n1 at*
 have HN1:=hide hn1
 have HN2:=hide hone
 have E1:=hide e1
 have E2:=hide e2
 obtain⟨b2,o2,rfl,g2⟩:=t2.some (by decide)
 have g20:=g2 0 (by decide)
 have hd:=lz_bd k2.1 0
 have hdv:Hid (val Y=lz Y 0):=by
  show _=_
  unfold val
  rw[L2]
  simp[vl,pw]
 have hdp:0<lz Y 0:=by
  have:=k2.2 (by omega)
  rw[L2]at this
  simp only[Nat.sub_self]at this
  omega
 have hpos:0<n1:=by
  rcases Nat.eq_zero_or_pos n1 with h|h
  ·subst h
   have:X= []:=List.eq_nil_of_length_eq_zero t1.1
   subst this
   have h3:val []=0:=rfl
   have:=unhide hdv
   omega
  exact h
 have hcmp:decide (cmpI (val X) (val Y)<0)=false:=by
  unfold cmpI
  rw[if_neg (by omega)]
  split <;> decide
 have htt:=hide (tl_canon k1 t1.1)
 have htr:=hide (trim_canon k1)
 clear hn1 hone e1 e2 g2 L2
 go_enter Tryz.func149,Tryz.ntmps149
 go_wp2_with fail
 refine(bare_any h1).mono ?_
 rintro e w' ⟨rfl,rfl⟩
 rw[unhide HN1]
 go_wp2_with fail
 refine(bare_any h2).mono ?_
 rintro e w' ⟨rfl,rfl⟩
 rw[unhide HN2]
 go_wp2_with fail
 refine(cmp_any t1 t2).mono ?_
 rintro e w' ⟨rfl,qd,rfl⟩
 have t3:=t1.below (below_drewN w.heap.size w qd)
 go_wp2_with fail
 refine(fresh_any t3 (by omega)).mono ?_
 rintro e w1 ⟨ad,cap,rfl,ho⟩
 rw[unhide htt]at ho ⊢
 rw[unhide htr]at ho
 obtain⟨hB,⟨_,h0,_⟩|⟨bq,zq,rfl,hbq,hrq,hlq,hzql,hle,hmx,hzX⟩⟩:=ho
 ·omega
 have HX:=hide hzX
 have hB0:Below w.heap.size w w1:=(below_drewN w.heap.size w qd).trans hB
 have g21:w1.cell? ⟨b2,o2,none⟩=some (.int .u32 (lz Y 0)):=by
  obtain⟨_,_,_,_,⟨h,_⟩|⟨a,ha,h|⟨b,off,rfl,hlt,_⟩⟩⟩:=t2
  ·cases h
  ·omega
  simp only[Option.some.injEq,Addr.mk.injEq,and_true]at ha
  obtain⟨rfl,rfl⟩:=ha
  exact(hB0.cell (p:=⟨b2,o2,none⟩) hlt).trans (by simpa using g20)
 clear hzX g20
 go_wp2_with fail
 refine(divl_row (len:=n1) (cap:=cap) hrq hlq (by omega) (by omega) hdp hd.2).mono ?_
 rintro e w2 ⟨zk,rfl,hrk,hlk,hzkl,hsame,hvk,honly⟩
 have hB2:Below w.heap.size w w2:=hB0.trans (honly.below (by simpa using hbq))
 have hvX:Hid (vl zq n1=val xs):=by
  show _=_
  rw[←val_take zq n1 (by omega),←unhide HX,unhide E1]
 have HVK:=hide hvk
 clear hvk hsame
 go_wp2_with fail
 refine(bare_cut hrk hlk (by omega) hle hmx).mono ?_
 rintro e w3 ⟨rfl,rfl⟩
 have hrem:0≤vl zq n1%lz Y 0∧vl zq n1%lz Y 0<lz Y 0:=⟨Int.emod_nonneg _ (by omega),Int.emod_lt_of_pos _ hdp⟩
 go_wp2_with fail
 refine(of_any (vl zq n1%lz Y 0) hrem.1 (by omega) w2).mono ?_
 rintro e w3 ⟨ar,lr,cr,zr,rfl,hor,hcr,hvr,hlr⟩
 obtain⟨cq1,cq2⟩:=canon_cut (n:=n1) hlk (by omega)
 have hq:Out w w2 (some ⟨bq,0,none⟩) (tl zk n1) cap (zk.take (tl zk n1)):=⟨hB2,.inr ⟨bq,zk,rfl,by simpa using hbq,hrk,hlk,by omega,by have:=tl_le zk n1;omega,hmx,rfl⟩⟩
 have HQ:=hide (hq.later hor.1)
 have HR:=hide (hor.outer hB2)
 have hblk:Hid (blk (some (⟨bq,0,none⟩:Addr))≠blk ar):=by
  obtain⟨_,⟨rfl,_⟩|⟨br,_,rfl,hbr,_⟩⟩:=hor
  ·intro h;cases h
  intro h
  simp only[blk,Option.some.injEq]at h
  have:=hrk.lt
  omega
 have HVR:=hide hvr
 have HC:=hide (And.intro cq1 cq2)
 have hlq':=tl_le zk n1
 clear hq hor cq1 cq2 hvr
 go_wp2_with fail
 go_ret3
 refine⟨_,_,_,_,_,_,_,_,rfl,unhide HQ,(unhide HC).1,?_,unhide HR,hcr,?_,by omega,hlr,.inr (unhide hblk)⟩
 ·rw[(unhide HC).2,unhide HVK,unhide hvX,←unhide hdv,unhide E2]
 rw[unhide HVR,unhide hvX,←unhide hdv,unhide E2]

theorem p2_pos (sh:Nat):(0:Int)<2^sh:=Int.pow_pos (by decide)

theorem p2_le (h:sh<32):(2:Int)^sh≤2147483648:=by
 have h1:2^sh≤2^31:=Nat.pow_le_pow_right (by decide) (by omega)
 have h2:((2^sh:Nat):Int)≤((2^31:Nat):Int):=Int.ofNat_le.2 h1
 have e:((2^sh:Nat):Int)=(2:Int)^sh:=by simp
 rw[e]at h2
 simpa using h2

theorem shl_bd (h0:0≤x)(h1:x<4294967296)(hs:sh<32):0≤x*2^sh∧x*2^sh≤4294967295*2147483648:=by
 have hp:=p2_pos sh
 have hl:=p2_le hs
 refine⟨Int.mul_nonneg h0 (by omega),?_⟩
 exact Int.le_trans (Int.mul_le_mul_of_nonneg_right (by omega) (by omega)) (Int.mul_le_mul_of_nonneg_left hl (by decide))

theorem or_shift {cr:Int}(hc0:0≤cr)(hc1:cr<2^sh)(h0:0≤x)(h1:x<4294967296)(hs:sh<32):bits .or .u64 cr (x*2^sh)=cr+x*2^sh:=by
 have hb:=shl_bd h0 h1 hs
 have hl:=p2_le hs
 obtain⟨a,rfl⟩:=Int.eq_ofNat_of_zero_le hc0
 obtain⟨b,rfl⟩:=Int.eq_ofNat_of_zero_le h0
 have e1:((b:Int)*2^sh)=((b*2^sh:Nat):Int):=by simp
 have ha:a<2^sh:=by
  have:((a:Nat):Int)<((2^sh:Nat):Int):=by simpa using hc1
  exact Int.ofNat_lt.1 this
 rw[e1]at hb ⊢
 rw[u64_or_nat _ _ (by omega) (by omega)]
 have e2:a|||b*2^sh=b*2^sh+a:=by
  have:=Nat.two_pow_add_eq_or_of_lt (i:=sh) (b:=a) ha b
  rw[Nat.or_comm,Nat.mul_comm b]
  exact this.symm
 rw[e2]
 omega

theorem shiftUp_any (h1:Rd w a1 l1 c1 xs)(hl1:l1≤1099511627776)(sh:Nat)(hs:sh<32):
  Calls Tryz.prog 157 #[.slice a1 l1 c1,.int .i64 sh] w fun e w'=> ∃zs,e= .returned (.slice (some ⟨w.heap.size,0,none⟩) (l1+1) (l1+1))∧Row w' w.heap.size zs∧Limbs zs∧zs.length=l1+1∧val zs=val xs*2^sh∧Below w.heap.size w w'∧w'.heap.size=w.heap.size+1:=by
 have hmk:=run_mk' l1 (by omega)
 have HL:=hide h1.1
 have hS0:=p2_pos sh
 have hS1:=p2_le hs
 go_enter Tryz.func157,Tryz.ntmps157
 go_wp2_with fail
 go_loopw [7,15] (fun c i wr=> ∃(k:Nat) (cr:Int) (zs:List Int),k≤l1∧i= .int .i64 k∧c= .int .u64 cr∧0≤cr∧cr<2^sh∧zs.length=l1+1∧Limbs zs∧Row wr w.heap.size zs∧Below w.heap.size w wr∧wr.heap.size=w.heap.size+1∧vl zs k+cr*pw k=vl xs k*2^sh) (fun _ i _=>l1-(intOf i).toNat)
 case atStart=>exact⟨0,0,_,Nat.zero_le _,rfl,rfl,by decide,hS0,List.length_replicate,Limbs.replicate _,row_alloc w _,(Below.refl _ _).alloc (Nat.le_refl _) _,by simp,by simp[vl]⟩
 case round=>
  obtain⟨k,cr,zs,hk,rfl,rfl,hc0,hc1,hzl,hzL,hrow,hbel,hsz,hv⟩:=hrel
  have HV:=hide hv
  have HSZ:=hide hsz
  have hcell:=hrow.cell (i:=k) (by omega)
  have hfr:=hrow.frozen k
  clear hv hmk hsz
  by_cases hkN:k<l1
  ·have q1:=h1.below hbel
   go_wp2_with fail
   refine(limb_any q1 (k:Int) (by omega) (by omega)).mono ?_
   rintro e w' ⟨rfl,rfl⟩
   rw[Int.toNat_natCast]
   have B1:=lz_bd q1.2.2.2.1 k
   have HS:=hide (carry_step (zs:=zs) (k:=k) (cr:=cr) (s:=lz xs k*2^sh) (T:=_) (by omega) (unhide HV))
   have HT:Hid (vl xs k*2^sh+lz xs k*2^sh*pw k=vl xs (k+1)*2^sh):=by
    show _=_
    rw[vl_succ,Int.add_mul,Int.mul_right_comm]
   have hor:=or_shift hc0 hc1 B1.1 B1.2 hs
   have hbd:=shl_bd B1.1 B1.2 hs
   have hcd:(cr+lz xs k*2^sh) / 4294967296<2^sh:=by
    refine Int.ediv_lt_of_lt_mul (by decide) ?_
    have:lz xs k*2^sh≤4294967295*2^sh:=Int.mul_le_mul_of_nonneg_right (by omega) (by omega)
    omega
   clear HV q1
   generalize lz xs k=x at*
   go_wp2_with fail
   rw[mask64 _ (by omega) (by omega),Int.emod_emod_of_dvd _ (Int.dvd_refl _)]
   exact⟨⟨k+1,_,_,by omega,by go_num,rfl,by omega,hcd,by rw[List.length_set];exact hzl,hzL.set k (by omega) (by omega),hrow.set k _,below_set hbel k _,by rw[size_set];exact unhide HSZ,(unhide HS).trans (unhide HT)⟩,by simp[intOf];omega⟩
  obtain rfl:k=l1:=by omega
  have hset:=hrow.set k cr
  have hval:Hid (val (zs.set k cr)=val xs*2^sh):=by
   show _=_
   have e:val (zs.set k cr)=vl (zs.set k cr) (k+1):=by unfold val;rw[List.length_set,hzl]
   rw[e,vl_succ,vl_set_past _ _ _ _ (Nat.le_refl _) (by omega),lz_set _ _ _ _ (by omega),if_pos rfl,unhide HV,vl_ge (by have:=unhide HL;omega)]
  have hlim:=hzL.set k (x:=cr) hc0 (by omega)
  have hlen':(zs.set k cr).length=k+1:=by rw[List.length_set];exact hzl
  have hbel':=below_set hbel k (.int .u32 cr)
  have HSZ':=hide ((size_set wr ⟨w.heap.size,k,none⟩ (.int .u32 cr)).trans (unhide HSZ))
  clear HV
  go_wp2_with fail
  go_ret
  exact⟨_,rfl,hset,hlim,hlen',unhide hval,hbel',unhide HSZ'⟩

theorem shr_limb {x1:Int}(h0:0≤x0)(h1:x0<4294967296)(hs:sh<32):
  2^sh*((x1*4294967296+x0) / 2^sh%4294967296)=x0-x0%2^sh+(x1%2^sh)*4294967296:=by
 have hS0:=p2_pos sh
 have hT0:=p2_pos (32-sh)
 have hST:(2:Int)^sh*2^(32-sh)=4294967296:=by
  rw[←Int.pow_add,show sh+(32-sh)=32 from by omega]
  decide
 generalize (2:Int)^sh=S at*
 generalize (2:Int)^(32-sh)=T at*
 have e0:S*(x0 / S)+x0%S=x0:=Int.mul_ediv_add_emod _ _
 have e1:S*(x1 / S)+x1%S=x1:=Int.mul_ediv_add_emod _ _
 have r0:=Int.emod_nonneg x0 (Int.ne_of_gt hS0)
 have r1:=Int.emod_nonneg x1 (Int.ne_of_gt hS0)
 have r1':=Int.emod_lt_of_pos x1 hS0
 have q0:x0 / S<T:=Int.ediv_lt_of_lt_mul hS0 (by rw[Int.mul_comm T S];omega)
 have q0':0≤x0 / S:=Int.ediv_nonneg h0 (by omega)
 have f1:(x1*4294967296+x0) / S=x0 / S+x1*T:=by
  have:x1*4294967296+x0=x0+S*(x1*T):=by
   rw[←hST,Int.mul_left_comm,Int.mul_left_comm S x1 T]
   omega
  rw[this,Int.add_mul_ediv_left _ _ (by omega)]
 have hrT:x1%S*T≤4294967296-T:=by
  have h2:(x1%S+1)*T≤S*T:=Int.mul_le_mul_of_nonneg_right (by omega) (by omega)
  rw[Int.add_mul,hST]at h2
  omega
 have hrT0:0≤x1%S*T:=Int.mul_nonneg r1 (by omega)
 have f2:x0 / S+x1*T=x0 / S+x1%S*T+4294967296*(x1 / S):=by
  have:x1*T=(S*(x1 / S)+x1%S)*T:=by rw[e1]
  rw[this,Int.add_mul,←hST,Int.mul_right_comm S (x1 / S) T]
  omega
 rw[f1,f2,Int.add_mul_emod_self_left,Int.emod_eq_of_lt (by omega) (by omega),Int.mul_add]
 have f3:S*(x1%S*T)=x1%S*4294967296:=by rw[←hST,Int.mul_left_comm]
 rw[f3]
 omega

theorem shiftDown_row (hr:Row w b zs)(hL:Limbs zs)(hlen:zs.length=n)(hc:n≤cap)(hm:cap≤9223372036854775807)(hbig:n≤1099511627777)(sh:Nat)(hs:sh<32):
  Calls Tryz.prog 161 #[.slice (some ⟨b,0,none⟩) n cap,.int .i64 sh] w fun e w'=> ∃zk,e= .returned (.tuple #[])∧Row w' b zk∧Limbs zk∧zk.length=n∧val zk=val zs / 2^sh∧Only b w w':=by
 have hS0:=p2_pos sh
 have hS1:=p2_le hs
 go_enter Tryz.func161,Tryz.ntmps161
 go_wp2_with fail
 go_loopw [8] (fun i wr=> ∃(k:Nat) (zk:List Int),k≤n∧i= .int .i64 k∧zk.length=n∧Limbs zk∧Row wr b zk∧Only b w wr∧(∀t,k≤t→lz zk t=lz zs t)∧2^sh*vl zk k=vl zs k-lz zs 0%2^sh+(lz zs k%2^sh)*pw k) (fun i _=>n-(intOf i).toNat)
 case atStart=>exact⟨0,zs,Nat.zero_le _,rfl,hlen,hL,hr,Only.refl _ _,fun _ _=>rfl,by simp only[vl,pw];omega⟩
 case round=>
  obtain⟨k,zk,hk,rfl,hkl,hkL,hrow,honly,hsame,hv⟩:=hrel
  have HV:=hide hv
  have HS:=hide hsame
  clear hv hsame
  by_cases hkN:k<n
  ·have q:=hrow.rd hkL (off:=0) (len:=n) (cap:=cap) (by omega) hc hm
   rw[List.drop_zero,List.take_of_length_le (by omega)]at q
   have hcell:=hrow.cell (i:=k) (by omega)
   have hfr:=hrow.frozen k
   go_wp2_with fail
   refine(limb_any q ((k:Int)+1) (by omega) (by omega)).mono ?_
   rintro e w' ⟨rfl,rfl⟩
   rw[show((k:Int)+1).toNat=k+1 from by omega]
   have B1:=lz_bd hkL (k+1)
   have B2:=lz_bd hkL k
   have hor:=or64 (lz zk (k+1)) (lz zk k) B1.1 B1.2 B2.1 B2.2
   go_wp2_with fail
   refine(limb_any q (k:Int) (by omega) (by omega)).mono ?_
   rintro e w' ⟨rfl,rfl⟩
   rw[Int.toNat_natCast]
   have hsame0:=(unhide HS) k (Nat.le_refl _)
   have hsame1:=(unhide HS) (k+1) (by omega)
   have hw1:0≤(lz zk (k+1)*4294967296+lz zk k) / 2^sh:=Int.ediv_nonneg (by omega) (by omega)
   have hw2:(lz zk (k+1)*4294967296+lz zk k) / 2^sh<18446744073709551616:=Int.lt_of_le_of_lt (Int.ediv_le_self _ (by omega)) (by omega)
   have HN:Hid (2^sh*vl (zk.set k ((lz zk (k+1)*4294967296+lz zk k) / 2^sh%4294967296)) (k+1)=vl zs (k+1)-lz zs 0%2^sh+lz zs (k+1)%2^sh*pw (k+1)):=by
    show _=_
    rw[vl_succ,vl_set_past _ _ _ _ (Nat.le_refl _) (by omega),lz_set _ _ _ _ (by omega),if_pos rfl,Int.mul_add,unhide HV,←Int.mul_assoc,shr_limb B2.1 B2.2 hs,vl_succ,pw_succ,hsame0,hsame1,Int.add_mul,Int.sub_mul,Int.mul_assoc (lz zs (k+1)%2^sh)]
    omega
   clear q HV hsame0 hsame1
   go_wp2_with fail
   rw[mask64 _ hw1 hw2,Int.emod_emod_of_dvd _ (Int.dvd_refl _)]
   exact⟨⟨k+1,_,by omega,by go_num,by rw[List.length_set];exact hkl,hkL.set k (by omega) (by omega),hrow.set k _,honly.trans (Only.set b k wr _),fun t ht=>by rw[lz_set _ _ _ _ (by omega),if_neg (by omega)];exact(unhide HS) t (by omega),unhide HN⟩,by simp[intOf];omega⟩
  obtain rfl:k=n:=by omega
  have hfin:Hid (val zk=val zs / 2^sh):=by
   have h:=unhide HV
   show _=_
   rw[lz_out (zs:=zs) (i:=k) (by omega)]at h
   have e1:vl zk k=val zk:=by unfold val;rw[hkl]
   have e2:vl zs k=val zs:=by unfold val;rw[hlen]
   rw[e1,e2]at h
   have r0:=Int.emod_nonneg (lz zs 0) (Int.ne_of_gt hS0)
   have r1:=Int.emod_lt_of_pos (lz zs 0) hS0
   have h2:val zs=lz zs 0%2^sh+2^sh*val zk:=by simp at h;omega
   rw[h2,Int.add_mul_ediv_left _ _ (by omega),Int.ediv_eq_zero_of_lt r0 r1,Int.zero_add]
  clear HV
  go_wp2_with fail
  go_end0
  exact⟨zk,rfl,hrow,hkL,hkl,unhide hfin,honly⟩

theorem lz_drop (R:List Int)(p i:Nat):lz (R.drop p) i=lz R (p+i):=by simp[lz]

theorem drop_set (R:List Int)(p i:Nat)(x:Int):(R.set (p+i) x).drop p=(R.drop p).set i x:=by
 apply List.ext_getElem?
 intro j
 simp only[List.getElem?_drop,List.getElem?_set]
 by_cases h:i=j
 ·subst h
  rw[if_pos rfl,if_pos rfl,List.length_drop]
  by_cases h2:p+i<R.length
  ·rw[if_pos h2,if_pos (by omega)]
  rw[if_neg h2,if_neg (by omega)]
 rw[if_neg (by omega),if_neg h]

theorem Limbs.drop' (h:Limbs zs)(n:Nat):Limbs (zs.drop n):=fun z hz=>h z (List.mem_of_mem_drop hz)

theorem Row.window (h:Row w b R)(hL:Limbs R){p n cap:Nat}(hn:p+n≤R.length)(hc:n≤cap)(hm:cap≤9223372036854775807):Rd w (some ⟨b,p,none⟩) n cap ((R.drop p).take n):=h.rd hL hn hc hm

theorem putBack_row {cd:Nat}(hr:Row w b R)(hL:Limbs R)(hn:p+n≤R.length)(hc:n≤cap)(hm:cap≤9223372036854775807)
  (hD:Rd w ad m cd D)(hne: ∀x off,ad=some ⟨x,off,none⟩→m=0∨x≠b)(hmn:m≤n):
  Calls Tryz.prog 160 #[.slice (some ⟨b,p,none⟩) n cap,.slice ad m cd] w fun e w'=> ∃R' cr,e= .returned (.tuple #[])∧Row w' b R'∧Limbs R'∧R'.length=R.length∧(∀t,t<p∨p+n≤t→lz R' t=lz R t)∧0≤cr∧cr≤1∧vl (R'.drop p) n+cr*pw n=vl (R.drop p) n+val D∧Only b w w':=by
 have HDL:=hide hD.1
 go_enter Tryz.func160,Tryz.ntmps160
 go_wp2_with fail
 go_loopw [4,8] (fun c i wr=> ∃(k:Nat) (cr:Int) (zk:List Int),k≤n∧i= .int .i64 k∧c= .int .u64 cr∧0≤cr∧cr≤1∧zk.length=R.length∧Limbs zk∧Row wr b zk∧Only b w wr∧(∀t,t<p∨p+k≤t→lz zk t=lz R t)∧vl (zk.drop p) k+cr*pw k=vl (R.drop p) k+vl D k) (fun _ i _=>n-(intOf i).toNat)
 case atStart=>exact⟨0,0,R,Nat.zero_le _,rfl,rfl,by decide,by decide,rfl,hL,hr,Only.refl _ _,fun _ _=>rfl,by simp[vl]⟩
 case round=>
  obtain⟨k,cr,zk,hk,rfl,rfl,hc0,hc1,hkl,hkL,hrow,honly,hsame,hv⟩:=hrel
  have HV:=hide hv
  have HS:=hide hsame
  have HKL:=hide hkl
  clear hv hsame hkl
  by_cases hkn:k<n
  ·have q:=hrow.window hkL (p:=p) (n:=n) (cap:=cap) (by have:=unhide HKL;omega) hc hm
   have qD:=hD.only honly hne
   have hcell:=hrow.cell (i:=p+k) (by have:=unhide HKL;omega)
   have hfr:=hrow.frozen (p+k)
   go_wp2_with fail
   refine(limb_any q (k:Int) (by omega) (by omega)).mono ?_
   rintro e w' ⟨rfl,rfl⟩
   rw[Int.toNat_natCast,lz_take,if_pos hkn,lz_drop]
   go_wp2_with fail
   refine(limb_any qD (k:Int) (by omega) (by omega)).mono ?_
   rintro e w' ⟨rfl,rfl⟩
   rw[Int.toNat_natCast]
   have B1:=lz_bd hkL (p+k)
   have B2:=lz_bd qD.2.2.2.1 k
   have HN:Hid (vl ((zk.set (p+k) ((cr+(lz zk (p+k)+lz D k))%4294967296)).drop p) (k+1)+((cr+(lz zk (p+k)+lz D k)) / 4294967296)*pw (k+1)=vl (R.drop p) (k+1)+vl D (k+1)):=by
    show _=_
    rw[drop_set,carry_step (by rw[List.length_drop];have:=unhide HKL;omega) (unhide HV),vl_succ,vl_succ,lz_drop,(unhide HS) (p+k) (.inr (Nat.le_refl _)),Int.add_mul]
    omega
   clear HV q qD
   generalize hx:lz zk (p+k)=x at*
   clear hx
   generalize lz D k=y at*
   go_wp2_with fail
   rw[mask64 _ (by omega) (by omega),Int.emod_emod_of_dvd _ (Int.dvd_refl _)]
   exact⟨⟨k+1,_,_,by omega,by go_num,rfl,by omega,by omega,by rw[List.length_set];exact unhide HKL,hkL.set (p+k) (by omega) (by omega),hrow.set (p+k) _,honly.trans (Only.set b (p+k) wr _),fun t ht=>by rw[lz_set _ _ _ _ (by have:=unhide HKL;omega),if_neg (by omega)];exact(unhide HS) t (by omega),unhide HN⟩,by simp[intOf];omega⟩
  obtain rfl:k=n:=by omega
  have hfin:Hid (vl (zk.drop p) k+cr*pw k=vl (R.drop p) k+val D):=by
   show _=_
   rw[unhide HV,vl_ge (zs:=D) (by have:=unhide HDL;omega)]
  clear HV
  go_wp2_with fail
  go_end0
  exact⟨zk,cr,rfl,hrow,hkL,unhide HKL,unhide HS,hc0,hc1,unhide hfin,honly⟩

theorem take_step {k:Nat}{bw y T V:Int}(hk:k<zs.length)(h1:vl zs k-bw*pw k=V-T):
  vl (zs.set k ((4294967296+x-y-bw)%4294967296)) (k+1)-(1-(4294967296+x-y-bw) / 4294967296)*pw (k+1)=(V+x*pw k)-(T+y*pw k):=by
 have:=borrow_step (zs:=zs) (k:=k) (bw:=bw) (d:=x-y) (T:=V-T) hk h1
 rw[show 4294967296+(x-y)-bw=4294967296+x-y-bw from by omega,Int.sub_mul x y]at this
 rw[this]
 omega

theorem takeAway_row {cd:Nat}(hr:Row w b R)(hL:Limbs R)(hn:p+n≤R.length)(hc:n≤cap)(hm:cap≤9223372036854775807)
  (hD:Rd w ad m cd D)(hne: ∀x off,ad=some ⟨x,off,none⟩→m=0∨x≠b)(hmn:m+1=n)(hg0:0≤g)(hg1:g<4294967296):
  Calls Tryz.prog 159 #[.slice (some ⟨b,p,none⟩) n cap,.slice ad m cd,.int .u64 g] w fun e w'=> ∃R' bw,e= .returned (.bool (decide (0<bw)))∧Row w' b R'∧Limbs R'∧R'.length=R.length∧(∀t,t<p∨p+n≤t→lz R' t=lz R t)∧0≤bw∧bw≤1∧vl (R'.drop p) n-bw*pw n=vl (R.drop p) n-g*val D∧Only b w w':=by
 have HDL:=hide hD.1
 have HMN:=hide hmn
 clear hmn
 go_enter Tryz.func159,Tryz.ntmps159
 go_wp2_with fail
 go_loopw [7,8,13] (fun c o i wr=> ∃(k:Nat) (cr bw T:Int) (zk:List Int),k≤n∧i= .int .i64 k∧c= .int .u64 cr∧0≤cr∧cr<4294967296∧o= .int .u64 bw∧0≤bw∧bw≤1∧zk.length=R.length∧Limbs zk∧Row wr b zk∧Only b w wr∧(∀t,t<p∨p+k≤t→lz zk t=lz R t)∧0≤T∧T+cr*pw k=g*vl D k∧vl (zk.drop p) k-bw*pw k=vl (R.drop p) k-T) (fun _ _ i _=>n-(intOf i).toNat)
 case atStart=>exact⟨0,0,0,0,R,Nat.zero_le _,rfl,rfl,by decide,by decide,rfl,by decide,by decide,rfl,hL,hr,Only.refl _ _,fun _ _=>rfl,by decide,by simp[vl],by simp[vl]⟩
 case round=>
  obtain⟨k,cr,bw,T,zk,hk,rfl,rfl,hc0,hc1,rfl,hb0,hb1,hkl,hkL,hrow,honly,hsame,hT0,hT,hv⟩:=hrel
  have HV:=hide hv
  have HS:=hide hsame
  have HKL:=hide hkl
  have HT:=hide hT
  clear hv hsame hkl hT
  by_cases hkn:k<n
  ·have q:=hrow.window hkL (p:=p) (n:=n) (cap:=cap) (by have:=unhide HKL;omega) hc hm
   have qD:=hD.only honly hne
   have hcell:=hrow.cell (i:=p+k) (by have:=unhide HKL;omega)
   have hfr:=hrow.frozen (p+k)
   go_wp2_with fail
   refine(limb_any qD (k:Int) (by omega) (by omega)).mono ?_
   rintro e w' ⟨rfl,rfl⟩
   rw[Int.toNat_natCast]
   have B2:=lz_bd qD.2.2.2.1 k
   have B4:=mul_bd hg0 hg1 B2.1 B2.2
   go_wp2_with fail
   refine(limb_any q (k:Int) (by omega) (by omega)).mono ?_
   rintro e w' ⟨rfl,rfl⟩
   rw[Int.toNat_natCast,lz_take,if_pos hkn,lz_drop]
   have B1:=lz_bd hkL (p+k)
   have hmk:=mask64 (cr+g*lz D k) (by omega) (by omega)
   have HX:=hide ((unhide HS) (p+k) (.inr (Nat.le_refl _)))
   have hy:cr+g*lz D k=(cr+g*lz D k)%4294967296+4294967296*((cr+g*lz D k) / 4294967296):=(Int.emod_add_mul_ediv _ _).symm
   have HN:=hide (take_step (zs:=zk.drop p) (k:=k) (bw:=bw) (x:=lz zk (p+k)) (y:=(cr+g*lz D k)%4294967296) (T:=T) (V:=vl (R.drop p) k) (by rw[List.length_drop];have:=unhide HKL;omega) (unhide HV))
   have HT2:Hid (T+(cr+g*lz D k)%4294967296*pw k+(cr+g*lz D k) / 4294967296*pw (k+1)=g*vl D (k+1)):=by
    show _=_
    rw[vl_succ,Int.mul_add,←unhide HT,pw_succ,←Int.mul_assoc g]
    have e1:(cr+g*lz D k) / 4294967296*(4294967296*pw k)=4294967296*((cr+g*lz D k) / 4294967296)*pw k:=by rw[←Int.mul_assoc,Int.mul_comm ((cr+g*lz D k) / 4294967296)]
    rw[e1,Int.add_assoc,←Int.add_mul,←hy,Int.add_mul]
    omega
   have hTn:0≤T+(cr+g*lz D k)%4294967296*pw k:=by
    have:=Int.mul_nonneg (show 0≤(cr+g*lz D k)%4294967296 from by omega) (Int.le_of_lt (pw_pos k))
    omega
   have HVS:Hid (vl (R.drop p) (k+1)=vl (R.drop p) k+lz zk (p+k)*pw k):=by
    show _=_
    rw[vl_succ,lz_drop,unhide HX]
   clear HV q qD HT hy
   generalize hx:lz zk (p+k)=x at*
   clear hx
   generalize hpq:g*lz D k=y at*
   clear hpq
   go_wp2
   rw[mask64 _ (by omega) (by omega),Int.emod_emod_of_dvd _ (Int.dvd_refl _)]
   exact⟨⟨k+1,_,_,_,_,by omega,by go_num,rfl,by omega,by omega,rfl,by omega,by omega,by rw[List.length_set];exact unhide HKL,hkL.set (p+k) (by omega) (by omega),hrow.set (p+k) _,honly.trans (Only.set b (p+k) wr _),fun t ht=>by rw[lz_set _ _ _ _ (by have:=unhide HKL;omega),if_neg (by omega)];exact(unhide HS) t (by omega),hTn,unhide HT2,by rw[drop_set,unhide HN,unhide HVS]⟩,by simp[intOf];omega⟩
  obtain rfl:k=n:=by omega
  have hfin:Hid (vl (zk.drop p) k-bw*pw k=vl (R.drop p) k-g*val D):=by
   show _=_
   have hT:=unhide HT
   have hmn:=unhide HMN
   rw[vl_ge (zs:=D) (by have:=unhide HDL;omega)]at hT
   have hDb:=vl_bd hD.2.2.2.1 m
   have hDv:vl D m=val D:=vl_ge (by have:=unhide HDL;omega)
   rw[hDv]at hDb
   have hgD:g*val D≤4294967295*val D:=Int.mul_le_mul_of_nonneg_right (by omega) hDb.1
   have hpk:pw k=4294967296*pw m:=by rw[←hmn,pw_succ]
   have hpm:=pw_pos m
   have hcr:cr=0:=by
    rcases Int.lt_or_le cr 1 with h|h
    ·omega
    have:1*pw k≤cr*pw k:=Int.mul_le_mul_of_nonneg_right h (by omega)
    omega
   rw[hcr]at hT
   rw[unhide HV]
   omega
  clear HV HT
  go_wp2_with fail
  go_ret
  exact⟨zk,bw,rfl,hrow,hkL,unhide HKL,unhide HS,hb0,hb1,unhide hfin,honly⟩

theorem guess_end {l f s high:Int}(h:d*f+l=high)(hd:d*s≤l*4294967296+x0):d*(f*4294967296+s)≤high*4294967296+x0:=by
 rw[←h,Int.mul_add,Int.add_mul,←Int.mul_assoc]
 omega

theorem guess_more {l f s high Q:Int}(h:d*f+l=high)(hd:l*4294967296+x0<d*s)(hQ:Q*(f*4294967296+s)≤high*4294967296+x0)(hD:0<f*4294967296+s):Q<d:=by
 rcases Int.lt_or_le Q d with h1|h1
 ·exact h1
 have h2:d*(f*4294967296+s)≤Q*(f*4294967296+s):=Int.mul_le_mul_of_nonneg_right h1 (by omega)
 rw[Int.mul_add,←Int.mul_assoc]at h2
 rw[←h,Int.add_mul]at hQ
 omega

theorem guess_walk (b p cap bd od cd j:Nat)(x2 x1 x0 f s Q:Int)(hj:j≤1099511627776)
  (g2:w.cell? ⟨b,p+(j+2),none⟩=some (.int .u32 x2))(g1:w.cell? ⟨b,p+(j+1),none⟩=some (.int .u32 x1))(g0:w.cell? ⟨b,p+j,none⟩=some (.int .u32 x0))
  (e1:w.cell? ⟨bd,od+(j+1),none⟩=some (.int .u32 f))(e0:w.cell? ⟨bd,od+j,none⟩=some (.int .u32 s))
  (b2:0≤x2∧x2<4294967296)(b1:0≤x1∧x1<4294967296)(b0:0≤x0∧x0<4294967296)(bf:2147483648≤f∧f<4294967296)(bs:0≤s∧s<4294967296)(hx2:x2≤f)
  (hQ0:0≤Q)(hQ1:Q<4294967296)(hQ:Q*(f*4294967296+s)≤(x2*4294967296+x1)*4294967296+x0):
  Calls Tryz.prog 158 #[.slice (some ⟨b,p,none⟩) (j+3) cap,.slice (some ⟨bd,od,none⟩) (j+2) cd] w fun e w'=> ∃g,e= .returned (.int .u64 g)∧Q≤g∧g<4294967296∧g*(f*4294967296+s)≤(x2*4294967296+x1)*4294967296+x0∧∃n,w'=w.drewN n:=by
 have ho:=or64 x2 x1 b2.1 b2.2 b1.1 b1.2
 have HQ:=hide hQ
 obtain⟨high,hh⟩: ∃high,high=x2*4294967296+x1:=⟨_,rfl⟩
 have hhb:0≤high∧high≤f*4294967296+4294967295:=by omega
 have HH:=hide hh
 rw[←hh]at ho
 have hq0:0≤high / f:=Int.ediv_nonneg hhb.1 (by omega)
 have hr0:0≤high%f:=Int.emod_nonneg _ (by omega)
 have hr1:high%f<f:=Int.emod_lt_of_pos _ (by omega)
 have hqr:high / f*f+high%f=high:=by rw[Int.mul_comm];exact Int.mul_ediv_add_emod _ _
 have HQR:=hide hqr
 have HS0:Hid (Q≤high / f):=by
  refine Int.le_ediv_of_mul_le (by omega) ?_
  rw[←hh,Int.mul_add,←Int.mul_assoc]at hQ
  have:=Int.mul_nonneg hQ0 bs.1
  omega
 have HS1:Hid (high / f≤4294967297):=by
  show _≤_
  rcases Int.lt_or_le 4294967297 (high / f)with h|h
  ·have h2:(4294967298:Int)*f≤high / f*f:=Int.mul_le_mul_of_nonneg_right (by omega) (by omega)
   omega
  exact h
 clear hQ hh hqr
 go_enter Tryz.func158,Tryz.ntmps158
 go_wp2
 go_step3
 go_wp2
 go_quiet (fail)
 obtain⟨na,hna⟩: ∃na,na=nq:=⟨_,rfl⟩
 subst hna
 go_wp2
 go_quiet (fail)
 obtain⟨nb,hnb⟩: ∃nb,nb=nq:=⟨_,rfl⟩
 subst hnb
 go_wp2
 go_quiet (fail)
 go_wp2
 go_step3
 go_wp2
 go_loop [9,10] (fun vd vl'=> ∃d l:Int,vd= .int .u64 d∧vl'= .int .u64 l∧d*f+l=high∧0≤l∧l<4294967296∧Q≤d∧d≤4294967297) (fun vd _=>(intOf vd).toNat)
 case atStart=>exact⟨_,_,rfl,rfl,unhide HQR,hr0,by omega,unhide HS0,unhide HS1⟩
 case round=>
  obtain⟨d,l,rfl,rfl,hdl,hl0,hl1,hQd,hd1⟩:=hrel
  have HDL:=hide hdl
  clear hdl
  have hol:=or64 l x0 hl0 hl1 b0.1 b0.2
  by_cases hbig:4294967296≤d
  ·have hb1:decide ((4294967296:Int)≤d)=true:=by simp;omega
   have hlow:l+f<4294967296∨d=4294967296:=by
    have h1:=unhide HDL
    rcases Int.lt_or_le 4294967296 d with h2|h2
    ·have e:d=4294967297:=by omega
     left
     rw[e]at h1
     omega
    right;omega
   have hnew:Hid ((d-1)*f+(l+f)=high):=by
    show _=_
    have h1:=unhide HDL
    rw[Int.sub_mul,Int.one_mul]
    omega
   by_cases hbr:4294967296≤l+f
   ·have hb2:decide ((4294967296:Int)≤l+f)=true:=by simp;omega
    have hd':d-1<4294967296:=by omega
    have hend:Hid ((d-1)*(f*4294967296+s)≤high*4294967296+x0):=guess_end (unhide hnew) (by
     have:=mul_bd (x:=d-1) (y:=s) (by omega) hd' bs.1 bs.2
     omega)
    go_wp2
    go_ret
    exact⟨d-1,rfl,by omega,hd',by rw[←unhide HH];exact unhide hend,na+nb+nq,by simp⟩
   have hb2:decide ((4294967296:Int)≤l+f)=false:=by simp;omega
   go_wp2
   exact⟨⟨unhide hnew,by omega,by omega,by omega⟩,by simp[intOf];omega⟩
  have hb1:decide ((4294967296:Int)≤d)=false:=by simp;omega
  have hds:=mul_bd (x:=d) (y:=s) (by omega) (by omega) bs.1 bs.2
  by_cases hgt:l*4294967296+x0<d*s
  ·have hb3:decide (l*4294967296+x0<d*s)=true:=by simp;omega
   have hQd':Q<d:=guess_more (unhide HDL) hgt (by rw[unhide HH];exact unhide HQ) (by omega)
   have hnew:Hid ((d-1)*f+(l+f)=high):=by
    show _=_
    have h1:=unhide HDL
    rw[Int.sub_mul,Int.one_mul]
    omega
   by_cases hbr:4294967296≤l+f
   ·have hb2:decide ((4294967296:Int)≤l+f)=true:=by simp;omega
    have hd':d-1<4294967296:=by omega
    have hend:Hid ((d-1)*(f*4294967296+s)≤high*4294967296+x0):=guess_end (unhide hnew) (by
     have:=mul_bd (x:=d-1) (y:=s) (by omega) hd' bs.1 bs.2
     omega)
    go_wp2
    go_ret
    exact⟨d-1,rfl,by omega,hd',by rw[←unhide HH];exact unhide hend,na+nb+nq,by simp⟩
   have hb2:decide ((4294967296:Int)≤l+f)=false:=by simp;omega
   go_wp2
   exact⟨⟨unhide hnew,by omega,by omega,by omega⟩,by simp[intOf];omega⟩
  have hb3:decide (l*4294967296+x0<d*s)=false:=by simp;omega
  have hend:Hid (d*(f*4294967296+s)≤high*4294967296+x0):=guess_end (unhide HDL) (by omega)
  go_wp2
  go_ret
  exact⟨d,rfl,hQd,by omega,by rw[←unhide HH];exact unhide hend,na+nb+nq,by simp⟩

theorem vl_split (R:List Int)(p k:Nat):vl R (p+k)=vl R p+pw p*vl (R.drop p) k:=by
 induction k with
 |zero=>simp[vl]
 |succ k ih=>
  rw[←Nat.add_assoc,vl_succ,ih,vl_succ,lz_drop,pw_add,Int.mul_add]
  have:lz R (p+k)*(pw p*pw k)=pw p*(lz R (p+k)*pw k):=by rw[Int.mul_left_comm]
  omega

theorem high_zero (h:Limbs R){n m:Nat}(hv:vl R n<pw m)(hm:m≤n):vl R m=vl R n∧∀t,m≤t→t<n→lz R t=0:=by
 induction n with
 |zero=>exact⟨by rw[show m=0 from by omega],fun t h1 h2=>by omega⟩
 |succ n ih=>
  by_cases e:m=n+1
  ·subst e;exact⟨rfl,fun t h1 h2=>by omega⟩
  have hb:=lz_bd h n
  have hlo:=(vl_bd h n).1
  rw[vl_succ]at hv
  have hz:lz R n=0:=by
   rcases Int.lt_or_le 0 (lz R n)with h1|h1
   ·have:1*pw n≤lz R n*pw n:=Int.mul_le_mul_of_nonneg_right (by omega) (Int.le_of_lt (pw_pos n))
    have:=pw_mono (show m≤n from by omega)
    omega
   omega
  rw[hz]at hv
  obtain⟨h1,h2⟩:=ih (by omega) (by omega)
  refine⟨by rw[vl_succ,hz,h1];simp,fun t h3 h4=> ?_⟩
  by_cases e2:t=n
  ·rw[e2];exact hz
  exact h2 t h3 (by omega)

theorem guess_fits {W:List Int}{Q:Int}(hW:Limbs W)(hD:Limbs D)(hQ0:0≤Q)(hQ:Q*vl D (j+2)≤vl W (j+3)):
  Q*(lz D (j+1)*4294967296+lz D j)≤(lz W (j+2)*4294967296+lz W (j+1))*4294967296+lz W j:=by
 have hp:=pw_pos j
 have e1:vl D (j+2)=vl D j+(lz D (j+1)*4294967296+lz D j)*pw j:=by
  rw[vl_succ,vl_succ,pw_succ,Int.add_mul,←Int.mul_assoc]
  omega
 have e2:vl W (j+3)=vl W j+((lz W (j+2)*4294967296+lz W (j+1))*4294967296+lz W j)*pw j:=by
  have p1:pw (j+1)=4294967296*pw j:=pw_succ j
  have p2:pw (j+2)=4294967296*(4294967296*pw j):=by rw[pw_succ,pw_succ]
  rw[vl_succ,vl_succ,vl_succ,p1,p2]
  simp only[Int.add_mul,←Int.mul_assoc]
  omega
 rw[e1,e2]at hQ
 generalize (lz D (j+1)*4294967296+lz D j)=d2 at*
 generalize ((lz W (j+2)*4294967296+lz W (j+1))*4294967296+lz W j)=w3 at*
 have h1:=(vl_bd hW j).2
 have h2:=Int.mul_nonneg hQ0 (vl_bd hD j).1
 rw[Int.mul_add,←Int.mul_assoc]at hQ
 rcases Int.lt_or_le w3 (Q*d2)with h|h
 ·have:(w3+1)*pw j≤Q*d2*pw j:=Int.mul_le_mul_of_nonneg_right (by omega) (by omega)
  rw[Int.add_mul]at this
  omega
 exact h

theorem guess_near {W:List Int}(hW:Limbs W)(hD:Limbs D)(hg0:0≤g)(hg1:g<4294967296)(hf:1≤lz D (j+1))
  (hg:g*(lz D (j+1)*4294967296+lz D j)≤(lz W (j+2)*4294967296+lz W (j+1))*4294967296+lz W j):(g-1)*vl D (j+2)≤vl W (j+3):=by
 have hp:=pw_pos j
 have e1:vl D (j+2)=vl D j+(lz D (j+1)*4294967296+lz D j)*pw j:=by
  rw[vl_succ,vl_succ,pw_succ,Int.add_mul,←Int.mul_assoc]
  omega
 have e2:vl W (j+3)=vl W j+((lz W (j+2)*4294967296+lz W (j+1))*4294967296+lz W j)*pw j:=by
  have p1:pw (j+1)=4294967296*pw j:=pw_succ j
  have p2:pw (j+2)=4294967296*(4294967296*pw j):=by rw[pw_succ,pw_succ]
  rw[vl_succ,vl_succ,vl_succ,p1,p2]
  simp only[Int.add_mul,←Int.mul_assoc]
  omega
 have hd2:4294967296≤lz D (j+1)*4294967296+lz D j:=by have:=(lz_bd hD j).1;omega
 rw[e1,e2]
 generalize (lz D (j+1)*4294967296+lz D j)=d2 at*
 generalize ((lz W (j+2)*4294967296+lz W (j+1))*4294967296+lz W j)=w3 at*
 have hw:=(vl_bd hW j).1
 have hd:=vl_bd hD j
 rcases Int.lt_or_le g 1 with h|h
 ·have hg00:g=0:=by omega
  subst hg00
  have:0≤d2*pw j:=Int.mul_nonneg (by omega) (by omega)
  have:0≤w3*pw j:=Int.mul_nonneg (by omega) (by omega)
  omega
 have h1:(g-1)*vl D j≤(g-1)*pw j:=Int.mul_le_mul_of_nonneg_left (by omega) (by omega)
 have h2:(g-1)*pw j≤d2*pw j:=Int.mul_le_mul_of_nonneg_right (by omega) (by omega)
 have h3:g*d2*pw j≤w3*pw j:=Int.mul_le_mul_of_nonneg_right hg (by omega)
 have h4:(g-1)*(d2*pw j)=g*d2*pw j-d2*pw j:=by rw[←Int.mul_assoc,Int.sub_mul,Int.sub_mul,Int.one_mul]
 rw[Int.mul_add,h4]
 omega

theorem place_step {A D V V' Rp pp q Wv:Int}(hA:A=D*V+(Rp+pp*Wv))(hW:Wv=D*q+r)(hV:V'=V+q*pp):A=D*V'+(Rp+pp*r):=by
 rw[hA,hW,hV,Int.mul_add D,Int.mul_add pp]
 have:pp*(D*q)=D*(q*pp):=by rw[Int.mul_left_comm,Int.mul_comm pp q]
 omega

theorem div_unique {A D q:Int}(hD:0<D)(h:A=D*q+r)(h0:0≤r)(h1:r<D):A / D=q∧A%D=r:=by
 subst h
 refine⟨?_,?_⟩
 ·rw[Int.add_comm,Int.add_mul_ediv_left _ _ (by omega),Int.ediv_eq_zero_of_lt h0 h1,Int.zero_add]
 rw[Int.add_comm,Int.add_mul_emod_self_left,Int.emod_eq_of_lt h0 h1]

theorem vl_noughts (hm:m≤n)(h: ∀t,m≤t→t<n→lz R t=0):vl R n=vl R m:=by
 induction n with
 |zero=>rw[show m=0 from by omega]
 |succ n ih=>
  by_cases e:m=n+1
  ·rw[e]
  rw[vl_succ,h n (by omega) (by omega),ih (by omega) (fun t h1 h2=>h t h1 (by omega))];simp

theorem window_pure (hR:Limbs R)(hD:Limbs D)(hDl:D.length=j+2)(hL:p+j+3≤R.length)(hlt:val R<val D*pw (p+1)):
  val R=vl R p+pw p*vl (R.drop p) (j+3)∧0≤vl (R.drop p) (j+3)∧vl (R.drop p) (j+3)<val D*4294967296∧(∀t,p+(j+3)≤t→lz R t=0)∧lz (R.drop p) (j+2)≤lz D (j+1):=by
 have hDv:val D=vl D (j+2):=by unfold val;rw[hDl]
 have hDb:=vl_bd hD (j+2)
 rw[←hDv]at hDb
 have hpp:=pw_pos p
 have hbig:vl R R.length<pw (p+(j+3)):=by
  have h1:val D*pw (p+1)≤pw (j+2)*pw (p+1):=Int.mul_le_mul_of_nonneg_right (by omega) (Int.le_of_lt (pw_pos _))
  rw[←pw_add,show j+2+(p+1)=p+(j+3) from by omega]at h1
  show val R<_
  omega
 obtain⟨h1,h2⟩:=high_zero hR hbig (by omega)
 have hz: ∀t,p+(j+3)≤t→lz R t=0:=fun t ht=>by
  rcases Nat.lt_or_ge t R.length with h|h
  ·exact h2 t ht h
  exact lz_out h
 have hv:val R=vl R p+pw p*vl (R.drop p) (j+3):=by
  unfold val
  rw[←h1,vl_split]
 have hlo:=vl_bd (hR.drop' p) (j+3)
 have hRp:=(vl_bd hR p).1
 have hW:vl (R.drop p) (j+3)<val D*4294967296:=by
  rcases Int.lt_or_le (vl (R.drop p) (j+3)) (val D*4294967296)with h|h
  ·exact h
  have h3:val D*4294967296*pw p≤vl (R.drop p) (j+3)*pw p:=Int.mul_le_mul_of_nonneg_right h (by omega)
  rw[Int.mul_assoc,←pw_succ,Int.mul_comm (vl (R.drop p) (j+3))]at h3
  omega
 refine⟨hv,hlo.1,hW,hz,?_⟩
 have e1:vl (R.drop p) (j+3)=vl (R.drop p) (j+2)+lz (R.drop p) (j+2)*pw (j+2):=vl_succ _ _
 have e2:vl D (j+2)=vl D (j+1)+lz D (j+1)*pw (j+1):=vl_succ _ _
 have h4:=(vl_bd (hR.drop' p) (j+2)).1
 have h5:=(vl_bd hD (j+1)).2
 have hp1:=pw_pos (j+1)
 have hp2:pw (j+2)=4294967296*pw (j+1):=pw_succ _
 rcases Int.lt_or_le (lz D (j+1)) (lz (R.drop p) (j+2))with h|h
 ·have h6:(lz D (j+1)+1)*pw (j+2)≤lz (R.drop p) (j+2)*pw (j+2):=Int.mul_le_mul_of_nonneg_right (by omega) (by omega)
  rw[Int.add_mul,hp2,Int.mul_left_comm]at h6
  rw[hp2]at e1
  rw[hDv,e2]at hW
  omega
 exact h

theorem window_after {R':List Int}{k:Nat}(hlen:R'.length=R.length)(hL:p+k≤R.length)(hz: ∀t,p+k≤t→lz R t=0)(hs: ∀t,t<p∨p+k≤t→lz R' t=lz R t)(hr:vl (R'.drop p) k=r):val R'=vl R p+pw p*r:=by
 unfold val
 rw[hlen,vl_noughts hL (fun t h1 h2=>by rw[hs t (.inr h1)];exact hz t h1),vl_split,hr,vl_congr (fun i hi=>hs i (.inl hi))]

theorem digit_cases {Wv bw v P:Int}(hd:0<d)(hg:Wv / d≤g)(hn:(g-1)*d≤Wv)(hb0:0≤bw)(hb1:bw≤1)(hv:v-bw*P=Wv-g*d)(hv0:0≤v)(hv1:v<P):
  (bw=0∧g=Wv / d∧v=Wv%d)∨(bw=1∧g=Wv / d+1∧v=Wv%d-d+P):=by
 have h1:d*(Wv / d)+Wv%d=Wv:=Int.mul_ediv_add_emod _ _
 have h2:=Int.emod_nonneg Wv (Int.ne_of_gt hd)
 have h3:=Int.emod_lt_of_pos Wv hd
 have hg2:g-1≤Wv / d:=Int.le_ediv_of_mul_le hd hn
 have hc:g=Wv / d∨g=Wv / d+1:=by omega
 have hb:bw=0∨bw=1:=by omega
 have e0:Wv / d*d=d*(Wv / d):=Int.mul_comm _ _
 rcases hc with rfl|rfl
 ·rcases hb with rfl|rfl
  ·exact .inl ⟨rfl,rfl,by omega⟩
  omega
 rw[Int.add_mul,Int.one_mul]at hv
 rcases hb with rfl|rfl
 ·omega
 exact .inr ⟨rfl,rfl,by omega⟩
end Go.Proofs.YtaafoppaepcaeaaGreat
