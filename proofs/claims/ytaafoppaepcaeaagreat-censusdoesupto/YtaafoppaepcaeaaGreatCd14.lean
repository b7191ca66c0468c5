/-
 Layer 2: numbers as words of the machine; how they stand.
-/
import Derived.Test.YtaafoppaepcaeaaGreatCd09
import Derived.Laws.BitsAllLaws
import Derived.Deep.LoopGhost
import Derived.Deep.DeepCutAuto
set_option maxRecDepth 100000
set_option maxHeartbeats 1600000
namespace Go.Proofs.YtaafoppaepcaeaaGreat
open Go.RowKit

theorem or_hi (x y:Int)(h0:0≤x)(h1:x<4294967296)(h2:0≤y)(h3:y<4294967296):bits .or .u64 x (y*4294967296)=x+y*4294967296:=by
 rw[u64_or _ _ h0 o_m o_m o_m]
 obtain⟨a,rfl⟩:=Int.eq_ofNat_of_zero_le h0
 obtain⟨b,rfl⟩:=Int.eq_ofNat_of_zero_le h2
 have hb:(a:Nat)<2^32:=by omega
 have e:=Nat.shiftLeft_add_eq_or_of_lt hb b
 rw[Nat.shiftLeft_eq]at e
 rw[show((b:Int)*4294967296).toNat=b*2^32 from by omega,Int.toNat_natCast,Nat.or_comm,←e]
 omega
theorem or_zero (x:Int)(h0:0≤x)(h1:x<18446744073709551616):bits .or .u64 0 x=x:=by
 rw[u64_or _ _ (by decide) (by decide) h0 h1]
 simp
 omega

theorem zcmp_gt {s1 s2:Bool}{a1 a2:Option Addr}{l1 c1 l2 c2:Nat}{z1 z2:Int}{w:World}(h1:Zm w s1 a1 l1 c1 z1)(h2:Zm w s2 a2 l2 c2 z2)(hl1:l1≤1099511627776)(hl2:l2≤1099511627776)(he:z2<z1):
  Calls Tryz.prog 71 #[.agg #[.bool s1,.slice a1 l1 c1],.agg #[.bool s2,.slice a2 l2 c2]] w fun e w'=>e= .returned (.int .i64 1)∧Below w.heap.size w w':=by
 refine(zcmp_n h1 h2 hl1 hl2).mono ?_
 rintro e w' ⟨rfl,hb⟩
 exact⟨ret_int (cmpI_gt he),hb⟩

theorem zint64_in {s:Bool}{a:Option Addr}{l c:Nat}{z:Int}{w:World}(h:Zm w s a l c z)(hl:l≤1099511627776)(h0: -9223372036854775808≤z)(h1:z≤9223372036854775807):
  Calls Tryz.prog 118 #[.agg #[.bool s,.slice a l c]] w fun e w'=>e= .returned (.tuple #[.int .i64 z,.bool true])∧Below w.heap.size w w':=by
 go_enter Tryz.func118,Tryz.ntmps118
 go_wp2_with fail
 have x:=zb_new w s a l c
 have b0:=below_alloc w (.cells #[.bool s,.slice a l c] 38)
 replace h:=h.below b0
 generalize w.alloc (.cells #[.bool s,.slice a l c] 38)=wb at*
 generalize hp:w.heap.size=p at*
 replace hp:=hide hp
 go_cut [16] (fun t16 wc=>t16= .bool false∧Below wb.heap.size wb wc)
 case first=>
  by_cases hA:z= -9223372036854775808
  ·go_region_held3 (fun w'=>w'.cell? ⟨p,0,none⟩=some (.bool s)∧w'.cell? ⟨p,1,none⟩=some (.slice a l c)∧Below wb.heap.size wb w')
    ((refine zk1 x ?_;(with_reducible repeat' first|exact Below.refl _ _|assumption|refine grow_step (by assumption) ?_|refine grow_drew ?_|refine grow_alloc ?_ _|refine grow_drewN ?_ _)))
    (first|(go_at_call 62;with_reducible refine(zof_n (-9223372036854775808) (by decide) (by decide) _).mono ?_;rintro e w' ⟨s4,a4,l4,c4,rfl,z4,hg,hl4⟩)|(go_at_call 62;with_reducible refine(zof_n 9223372036854775807 (by decide) (by decide) _).mono ?_;rintro e w' ⟨s5,a5,l5,c5,rfl,z5,hg,hl5⟩)|(go_at_call 71;with_reducible refine(zcmp_0 (Zm.below h gw) (Zn.zm (Zn.below z4 gw)) (by omega) (by omega) (by omega)).mono ?_;rintro e w' ⟨rfl,hg⟩)|(go_at_call 71;with_reducible refine(zcmp_lt (Zm.below h gw) (Zn.zm (Zn.below z5 gw)) (by omega) (by omega) (by omega)).mono ?_;rintro e w' ⟨rfl,hg⟩))
   go_wp2_with fail
   go_meet
   case rel=>exact⟨rfl,gw⟩
  by_cases hB:z=9223372036854775807
  ·go_region_held3 (fun w'=>w'.cell? ⟨p,0,none⟩=some (.bool s)∧w'.cell? ⟨p,1,none⟩=some (.slice a l c)∧Below wb.heap.size wb w')
    ((refine zk1 x ?_;(with_reducible repeat' first|exact Below.refl _ _|assumption|refine grow_step (by assumption) ?_|refine grow_drew ?_|refine grow_alloc ?_ _|refine grow_drewN ?_ _)))
    (first|(go_at_call 62;with_reducible refine(zof_n (-9223372036854775808) (by decide) (by decide) _).mono ?_;rintro e w' ⟨s4,a4,l4,c4,rfl,z4,hg,hl4⟩)|(go_at_call 62;with_reducible refine(zof_n 9223372036854775807 (by decide) (by decide) _).mono ?_;rintro e w' ⟨s5,a5,l5,c5,rfl,z5,hg,hl5⟩)|(go_at_call 71;with_reducible refine(zcmp_gt (Zm.below h gw) (Zn.zm (Zn.below z4 gw)) (by omega) (by omega) (by omega)).mono ?_;rintro e w' ⟨rfl,hg⟩)|(go_at_call 71;with_reducible refine(zcmp_0 (Zm.below h gw) (Zn.zm (Zn.below z5 gw)) (by omega) (by omega) (by omega)).mono ?_;rintro e w' ⟨rfl,hg⟩))
   go_wp2_with fail
   go_meet
   case rel=>exact⟨rfl,gw⟩
  go_region_held3 (fun w'=>w'.cell? ⟨p,0,none⟩=some (.bool s)∧w'.cell? ⟨p,1,none⟩=some (.slice a l c)∧Below wb.heap.size wb w')
   ((refine zk1 x ?_;(with_reducible repeat' first|exact Below.refl _ _|assumption|refine grow_step (by assumption) ?_|refine grow_drew ?_|refine grow_alloc ?_ _|refine grow_drewN ?_ _)))
   (first|(go_at_call 62;with_reducible refine(zof_n (-9223372036854775808) (by decide) (by decide) _).mono ?_;rintro e w' ⟨s4,a4,l4,c4,rfl,z4,hg,hl4⟩)|(go_at_call 62;with_reducible refine(zof_n 9223372036854775807 (by decide) (by decide) _).mono ?_;rintro e w' ⟨s5,a5,l5,c5,rfl,z5,hg,hl5⟩)|(go_at_call 71;with_reducible refine(zcmp_gt (Zm.below h gw) (Zn.zm (Zn.below z4 gw)) (by omega) (by omega) (by omega)).mono ?_;rintro e w' ⟨rfl,hg⟩)|(go_at_call 71;with_reducible refine(zcmp_lt (Zm.below h gw) (Zn.zm (Zn.below z5 gw)) (by omega) (by omega) (by omega)).mono ?_;rintro e w' ⟨rfl,hg⟩))
  go_wp2_with fail
  go_meet
  case rel=>exact⟨rfl,gw⟩
 case rest=>
 obtain⟨rfl,kw⟩:=hcut
 have u0:=(x.below kw).c0
 have u1:=(x.below kw).c1
 obtain⟨n,hn,rfl⟩:=h
 have hn0:=hn.nonneg
 go_wp2_with fail
 refine(bare_n2 (hn.below kw) hl).mono ?_
 rintro e w1 ⟨ad,len,cap,rfl,⟨zs,hr,hcn,hv⟩,k1,-⟩
 replace k1:=grow_step k1 kw
 clear u0 u1
 have u0:=(x.below k1).c0
 have hlen:len≤2:=by
  rw[←hr.1]
  refine canon_len hcn ?_
  rw[hv,show pw 2=18446744073709551616 from by decide]
  cases s <;> simp[sg]at h0 h1 <;> omega
 have hzl:=hide hr.1
 go_wp2_with fail
 go_loopw [4,21] (fun wd i wr=> ∃k:Nat,k≤len∧i= .int .i64 k∧wd= .int .u64 (vl zs k)∧w1=wr) (fun _ i _=>len-(intOf i).toNat)
 case atStart=>exact⟨0,Nat.zero_le _,rfl,rfl,rfl⟩
 case round=>
  obtain⟨k,hk,rfl,rfl,rfl⟩:=hrel
  by_cases hkN:k<len
  ·have B0:=lz_bd hcn.1 0
   have B1:=lz_bd hcn.1 1
   have hk2:k=0∨k=1:=by omega
   obtain⟨_,_,_,_,h5⟩:=hr
   rcases h5 with⟨_,h6,_⟩|⟨a',rfl,h6|⟨b,off,rfl,_,hc⟩⟩
   ·omega
   ·omega
   have hcn':=hc k hkN
   clear hc
   rcases hk2 with rfl|rfl
   ·rw[Nat.add_zero]at hcn'
    go_wp2_with fail
    exact⟨⟨1,by omega,rfl,by rw[show vl zs 0=0 from rfl,or_zero _ B0.1 o_m];simp[vl,pw],trivial⟩,by simp[intOf];omega⟩
   go_wp2_with fail
   have e1:vl zs 1=lz zs 0:=by simp[vl,pw]
   have e2:vl zs 2=lz zs 0+lz zs 1*4294967296:=by rw[vl_succ,e1];simp[pw]
   exact⟨⟨2,by omega,rfl,by rw[e2,e1,or_hi _ _ B0.1 B0.2 B1.1 B1.2],trivial⟩,by simp[intOf];omega⟩
  obtain rfl:k=len:=by omega
  have hvl:vl zs k=n:=by rw[←hv];unfold val;rw[unhide hzl]
  rw[hvl]
  have hB:Below p w w1:=b0.trans (k1.mono (Nat.le_of_lt x.lt))
  cases s
  ·go_wp2_with fail
   refine bodyPost_ret (results_tmp2 rfl _ _ _) rfl ?_
   refine⟨?_,hp.out.symm▸hB⟩
   show Ending.returned (.tuple #[.int .i64 (wrap64 n),.bool true])=_
   rw[show wrap64 n=sg false n from by simp[sg]at h1 ⊢;unfold wrap64;omega]
  go_wp2_with fail
  refine bodyPost_ret (results_tmp2 rfl _ _ _) rfl ?_
  refine⟨?_,hp.out.symm▸hB⟩
  show Ending.returned (.tuple #[.int .i64 (wrap64 (-wrap64 n)),.bool true])=_
  rw[show wrap64 (-wrap64 n)=sg true n from by simp[sg]at h0 ⊢;unfold wrap64;omega]

theorem zint64_out {s:Bool}{a:Option Addr}{l c:Nat}{z:Int}{w:World}(h:Zm w s a l c z)(hl:l≤1099511627776)(h0:z< -9223372036854775808∨9223372036854775807<z):
  Calls Tryz.prog 118 #[.agg #[.bool s,.slice a l c]] w fun e w'=>e= .returned (.tuple #[.int .i64 0,.bool false])∧Below w.heap.size w w':=by
 go_enter Tryz.func118,Tryz.ntmps118
 go_wp2_with fail
 have x:=zb_new w s a l c
 have b0:=below_alloc w (.cells #[.bool s,.slice a l c] 38)
 replace h:=h.below b0
 generalize w.alloc (.cells #[.bool s,.slice a l c] 38)=wb at*
 generalize hp:w.heap.size=p at*
 replace hp:=hide hp
 by_cases hA:z< -9223372036854775808
 ·have u0:=x.c0
  have u1:=x.c1
  go_region_with (first|(go_at_call 62;with_reducible refine(zof_n (-9223372036854775808) (by decide) (by decide) _).mono ?_;rintro e w' ⟨s4,a4,l4,c4,rfl,z4,hg,hl4⟩;have v0:=(ZB.below x (show Below wb.heap.size wb w' from gw)).c0;have v1:=(ZB.below x (show Below wb.heap.size wb w' from gw)).c1)|(go_at_call 71;with_reducible refine(zcmp_lt (Zm.below h gw) (Zn.zm (Zn.below z4 gw)) (by omega) (by omega) (by omega)).mono ?_;rintro e w' ⟨rfl,hg⟩))
  all_goals (
   have kw:Below wb.heap.size wb w':=gw
   go_wp2_with fail
   refine bodyPost_ret (results_tmp2 rfl _ _ _) rfl ?_
   exact⟨rfl,hp.out.symm▸b0.trans (kw.mono (Nat.le_of_lt x.lt))⟩)
 go_region_held3 (fun w'=>w'.cell? ⟨p,0,none⟩=some (.bool s)∧w'.cell? ⟨p,1,none⟩=some (.slice a l c)∧Below wb.heap.size wb w')
  ((refine zk1 x ?_;(with_reducible repeat' first|exact Below.refl _ _|assumption|refine grow_step (by assumption) ?_|refine grow_drew ?_|refine grow_alloc ?_ _|refine grow_drewN ?_ _)))
  (first|(go_at_call 62;with_reducible refine(zof_n (-9223372036854775808) (by decide) (by decide) _).mono ?_;rintro e w' ⟨s4,a4,l4,c4,rfl,z4,hg,hl4⟩)|(go_at_call 62;with_reducible refine(zof_n 9223372036854775807 (by decide) (by decide) _).mono ?_;rintro e w' ⟨s5,a5,l5,c5,rfl,z5,hg,hl5⟩)|(go_at_call 71;with_reducible refine(zcmp_gt (Zm.below h gw) (Zn.zm (Zn.below z4 gw)) (by omega) (by omega) (by omega)).mono ?_;rintro e w' ⟨rfl,hg⟩)|(go_at_call 71;with_reducible refine(zcmp_gt (Zm.below h gw) (Zn.zm (Zn.below z5 gw)) (by omega) (by omega) (by omega)).mono ?_;rintro e w' ⟨rfl,hg⟩))
 rename_i hH
 have kw:=hH.2.2
 go_wp2_with fail
 refine bodyPost_ret (results_tmp2 rfl _ _ _) rfl ?_
 exact⟨rfl,hp.out.symm▸b0.trans (kw.mono (Nat.le_of_lt x.lt))⟩

end Go.Proofs.YtaafoppaepcaeaaGreat
