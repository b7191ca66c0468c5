/-
 Layer 7: how many limbs a number has.
-/
import Derived.Test.YtbgpddlcfiiiaaaGreatDoorSbm05
import Derived.Test.YtbgpddlcfiiiaaaGreatDoorSbm01
import Derived.Test.YtbgpddlcfiiiaaaGreatDoorSbm04
set_option maxRecDepth 100000
set_option maxHeartbeats 1600000
namespace Go.Proofs.YtbgpddlcfiiiaaaGreatDoor.Mt
open Go.RowKit Go.Shelf

variable {w:World}{b l c:Nat}{s:Bool}{a:Option Addr}{xs:List Int}
def ZB (w:World)(b:Nat)(s:Bool)(a:Option Addr)(l c:Nat):Prop:=w.heap[b]? =some (.cells #[.bool s,.slice a l c] 26 (0,0))
theorem ZB.c0 (h:ZB w b s a l c):w.cell? ⟨b,0,none⟩=some (.bool s):=cell_of_row w b 0 _ _ (0,0) h
theorem ZB.c1 (h:ZB w b s a l c):w.cell? ⟨b,1,none⟩=some (.slice a l c):=cell_of_row w b 1 _ _ (0,0) h
theorem ZB.lt (h:ZB w b s a l c):b<w.heap.size:=by
 have h':w.heap[b]? =some _:=h
 rcases Nat.lt_or_ge b w.heap.size with hb|hb
 ·exact hb
 rw[Array.getElem?_eq_none hb]at h';cases h'
theorem ZB.below {w':World}(h:ZB w b s a l c)(hb:Below w.heap.size w w'):ZB w' b s a l c:=(hb.block b h.lt).trans h
theorem zb_new (w:World)(s:Bool)(a:Option Addr)(l c:Nat):ZB (w.alloc (.cells #[.bool s,.slice a l c] 26)) w.heap.size s a l c:=heap_alloc_new w _
theorem len32_lay (x:Int)(w:World)(h0:0≤x)(h1:x≤4294967295):
  Calls Tryz.prog 113 #[.int .u32 x] w fun e w'=>e= .returned (.int .i64 (Lib.bitLen x.toNat))∧w'=w:=Any.bits_Len32 Tryz.lays128 x w h0 h1

theorem bitAux_spec (f:Nat): ∀x:Nat,x<2^f→x<2^Lib.bitLenAux f x∧(x≠0→0<Lib.bitLenAux f x∧2^(Lib.bitLenAux f x-1)≤x):=by
 induction f with
 |zero=>intro x hx;simp at hx;subst hx;simp[Lib.bitLenAux]
 |succ f ih=>
  intro x hx
  unfold Lib.bitLenAux
  by_cases h:x=0
  ·subst h;simp
  rw[if_neg h]
  obtain⟨h1,h2⟩:=ih (x / 2) (by rw[Nat.pow_succ]at hx;omega)
  refine⟨?_,fun _=>⟨by omega,?_⟩⟩
  ·rw[Nat.add_comm,Nat.pow_succ];omega
  rw[Nat.add_sub_cancel_left]
  by_cases h3:x / 2=0
  ·have e:Lib.bitLenAux f (x / 2)=0:=by rw[h3];cases f <;> simp[Lib.bitLenAux]
   rw[e];simp;omega
  obtain⟨h4,h5⟩:=h2 h3
  obtain⟨g,hg⟩: ∃g,Lib.bitLenAux f (x / 2)=g+1:=⟨_,(Nat.succ_pred_eq_of_pos h4).symm⟩
  rw[hg]at h5 ⊢
  rw[Nat.add_sub_cancel]at h5
  rw[Nat.pow_succ]
  omega

theorem bitLen_spec (x:Nat)(hx:x<4294967296):x<2^Lib.bitLen x∧(x≠0→0<Lib.bitLen x∧2^(Lib.bitLen x-1)≤x):=
 bitAux_spec 64 x (Nat.lt_of_lt_of_le hx (by decide))

theorem bitLen_le32 (x:Nat)(hx:x<4294967296):Lib.bitLen x≤32:=by
 by_cases h:x=0
 ·subst h;decide
 obtain⟨_,h2⟩:=bitLen_spec x hx
 obtain⟨h3,h4⟩:=h2 h
 rcases Nat.lt_or_ge 32 (Lib.bitLen x)with h5|h5
 ·have:2^32≤2^(Lib.bitLen x-1):=Nat.pow_le_pow_right (by decide) (by omega)
  have e:(2:Nat)^32=4294967296:=by decide
  omega
 exact h5

def bitsL (X:List Int):Nat:=if X.length=0 then 0 else 32*(X.length-1)+Lib.bitLen (lz X (X.length-1)).toNat

theorem bits_any {a1:Option Addr}{l1 c1:Nat}(h1:Rd w a1 l1 c1 xs)(hl:l1≤1099511627776):
  Calls Tryz.prog 72 #[.slice a1 l1 c1] w fun e w'=>e= .returned (.int .i64 (bitsL (trim xs)))∧w=w':=by
 have t1:=h1.trim
 have hb1:=tl_le xs l1
 have hL:=t1.2.2.2.1
 generalize hX:trim xs=X at*
 clear hX
 generalize hn:tl xs l1=n1 at*
 have HN:=hide hn
 clear hn
 have hXl:X.length=n1:=t1.1
 by_cases h0:n1=0
 ·subst h0
  have hbl:=hide (show bitsL X=0 from by unfold bitsL;rw[if_pos hXl])
  clear hXl
  go_enter Tryz.func72,Tryz.ntmps72
  go_wp2_with fail
  refine(bare_any h1).mono ?_
  rintro e w' ⟨rfl,rfl⟩
  rw[unhide HN]
  go_wp2_with fail
  go_ret
  rw[unhide hbl]
  exact⟨rfl,rfl⟩
 obtain⟨b,off,rfl,g⟩:=t1.some (by omega)
 obtain⟨m,rfl⟩: ∃m,n1=m+1:=⟨n1-1,by omega⟩
 have hbl:=hide (show bitsL X=32*m+Lib.bitLen (lz X m).toNat from by unfold bitsL;rw[hXl,if_neg (by omega)];rfl)
 have gm:=g m (by omega)
 have hbd:=lz_bd hL m
 have h32:Lib.bitLen (lz X m).toNat≤32:=bitLen_le32 _ (by omega)
 have hne:(((m:Int)+1)==0)=false:=by rw[beq_eq_false_iff_ne];omega
 clear hXl h0 g
 go_enter Tryz.func72,Tryz.ntmps72
 go_wp2_with fail
 refine(bare_any h1).mono ?_
 rintro e w' ⟨rfl,rfl⟩
 rw[unhide HN]
 go_wp2_with fail
 refine(len32_lay (lz X m) w hbd.1 (by omega)).mono ?_
 rintro e w' ⟨rfl,hw⟩
 have HW:=hide hw.symm
 clear hw
 go_wp2_with fail
 go_ret
 rw[unhide hbl]
 exact⟨ret_int (by omega),unhide HW⟩

theorem limbs_bits (hL:Limbs xs)(hl:xs.length=l):((bitsL (trim xs):Int)+32-1) / 32=(tl xs l:Int):=by
 have hc:=canon_trim hL
 have ht:=trim_length xs
 rw[hl]at ht
 rw[←ht]
 generalize trim xs=X at*
 unfold bitsL
 by_cases h0:X.length=0
 ·rw[if_pos h0,h0];decide
 rw[if_neg h0]
 have hb:=lz_bd hc.1 (X.length-1)
 have hnz:lz X (X.length-1)≠0:=hc.2 (by omega)
 have h1:=bitLen_spec (lz X (X.length-1)).toNat (by omega)
 have h2:=bitLen_le32 (lz X (X.length-1)).toNat (by omega)
 have h3:=(h1.2 (by omega)).1
 generalize Lib.bitLen (lz X (X.length-1)).toNat=bl at*
 omega

theorem zlimbs_n (h:Rd w a l c xs)(hl:l≤1099511627776):
  Calls Tryz.prog 165 #[.agg #[.bool s,.slice a l c]] w fun e w'=>e= .returned (.int .i64 (tl xs l))∧Below w.heap.size w w':=by
 have HL:=hide (limbs_bits h.2.2.2.1 h.1)
 have htl:=tl_le xs l
 go_enter Tryz.func165,Tryz.ntmps165
 go_wp2_with fail
 have x:=zb_new w s a l c
 have b0:=below_alloc7 w (.cells #[.bool s,.slice a l c] 26)
 replace h:=h.below b0
 generalize w.alloc (.cells #[.bool s,.slice a l c] 26)=wb at*
 have u1:=x.c1
 have u0:=x.c0
 go_wp2_with fail
 refine(bits_any h hl).mono ?_
 rintro e w1 ⟨rfl,rfl⟩
 have hb:((bitsL (trim xs):Nat):Int)+32-1≤32*tl xs l+31:=by have:=HL.out;omega
 generalize hq:bitsL (trim xs)=q at*
 have HQ:Hid (((q:Int)+32-1) / 32=(tl xs l:Int)):=HL.out
 clear hq HL
 go_wp2_with fail
 go_ret
 exact⟨ret_int HQ.out,b0⟩

end Go.Proofs.YtbgpddlcfiiiaaaGreatDoor.Mt
