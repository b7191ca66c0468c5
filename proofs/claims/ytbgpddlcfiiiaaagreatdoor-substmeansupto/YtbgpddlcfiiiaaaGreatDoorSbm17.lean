/-
 Layer 5: orderParts,and parts that are sorted.
-/
import Derived.Test.YtbgpddlcfiiiaaaGreatDoorSbm12
import Derived.Test.YtbgpddlcfiiiaaaGreatDoorSbm15
import Derived.Test.YtbgpddlcfiiiaaaGreatDoorSbm02
import Derived.Sort.LotA
namespace Go.Proofs.YtbgpddlcfiiiaaaGreatDoor
open Go.RowKit Go.Sort Go.Shelf
open Tm

variable {w w':World}{ad:Option Addr}{len cap m:Nat}
def NoU (w:World)(b:Nat):Prop:=∀off x,w.cell? ⟨b,off,none⟩≠some (.int .u32 x)
theorem Rd.grownU {zs:List Int}(h:Rd w ad len cap zs)(hg:w.grownBy w' (Option.some m))(hm:NoU w m):Rd w' ad len cap zs:=by
 obtain⟨h1,h2,h3,h4,h5⟩:=h
 refine⟨h1,h2,h3,h4,?_⟩
 rcases h5 with h5|⟨a,ha,h5⟩
 ·exact .inl h5
 refine .inr ⟨a,ha,?_⟩
 rcases h5 with h5|⟨b,off,rfl,hlt,hc⟩
 ·exact .inl h5
 by_cases h0:len=0
 ·exact .inl h0
 have hne:b≠m:=by
  intro e
  subst e
  exact hm _ _ (hc 0 o_m)
 refine .inr ⟨b,off,rfl,Nat.lt_of_lt_of_le hlt hg.size,fun i hi=> ?_⟩
 rw[World.cell?_of_block (a:=⟨b,off+i,none⟩) (hg.block b hlt (by simpa using hne))]
 exact hc i hi
theorem Zm.grownU {s:Bool}{z:Int}(h:Zm w s ad len cap z)(hg:w.grownBy w' (some m))(hm:NoU w m):Zm w' s ad len cap z:=by
 obtain⟨n,⟨zs,h1,h3⟩,h4⟩:=h
 exact⟨n,⟨zs,h1.grownU hg hm,h3⟩,h4⟩
theorem Zn.grownU {s:Bool}{z:Int}(h:Zn w s ad len cap z)(hg:w.grownBy w' (some m))(hm:NoU w m):Zn w' s ad len cap z:=by
 obtain⟨n,⟨zs,h1,h2,h3⟩,h4⟩:=h
 exact⟨n,⟨zs,h1.grownU hg hm,h2,h3⟩,h4⟩

def ordQ (p q:Int × Int):Int:=if cmpI p.1 q.1≠0 then cmpI p.1 q.1 else cmpI p.2 q.2

set_option maxRecDepth 100000 in
set_option maxHeartbeats 1600000 in
theorem order_g {v1 v2:Int}{s1 s2:Bool}{a1 a2:Option Addr}{l1 c1 l2 c2:Nat}{z1 z2:Int}(h1:Zm w s1 a1 l1 c1 z1)(h2:Zm w s2 a2 l2 c2 z2)(hl1:l1≤1099511627776)(hl2:l2≤1099511627776):
  Calls Tryz.prog 104 #[.agg #[.int .i64 v1,.bool s1,.slice a1 l1 c1],.agg #[.int .i64 v2,.bool s2,.slice a2 l2 c2]] w fun e w'=>e= .returned (.int .i64 (ordQ (v1,z1) (v2,z2)))∧Gr w w':=by
 go_enter Tryz.func104,Tryz.ntmps104
 go_wp2_with fail
 have x:=(pb_new w v1 s1 a1 l1 c1)
 have x2:=pb_new (w.alloc (.cells #[.int .i64 v1,.bool s1,.slice a1 l1 c1] 117)) v2 s2 a2 l2 c2
 have b1:=below_alloc (w.alloc (.cells #[.int .i64 v1,.bool s1,.slice a1 l1 c1] 117)) (.cells #[.int .i64 v2,.bool s2,.slice a2 l2 c2] 117)
 replace x:PB _ _ _ _ _ _ _:=(b1.block _ x.lt).trans x
 have b0:=hide ((gr_alloc w (.cells #[.int .i64 v1,.bool s1,.slice a1 l1 c1] 117)).trans (gr_alloc _ (.cells #[.int .i64 v2,.bool s2,.slice a2 l2 c2] 117)))
 rw[show(w.alloc (.cells #[.int .i64 v1,.bool s1,.slice a1 l1 c1] 117)).heap.size=w.heap.size+1 from by simp]at x2
 replace h1:=h1.below b0.out.b
 replace h2:=h2.below b0.out.b
 clear b1
 generalize (w.alloc (.cells #[.int .i64 v1,.bool s1,.slice a1 l1 c1] 117)).alloc (.cells #[.int .i64 v2,.bool s2,.slice a2 l2 c2] 117)=wb at*
 generalize hp:w.heap.size=p at*
 replace hp:=hide hp
 generalize p+1=q at*
 have u0:=x.c0
 have u1:=x.c1
 have u2:=x.c2
 have y0:=x2.c0
 have y1:=x2.c1
 have y2:=x2.c2
 refine(compare_g (x:=v1) (y:=v2)).mono ?_
 rintro e w1 ⟨rfl,rfl⟩
 by_cases he:cmpI v1 v2=0
 ·have e0:=hide (show ordQ (v1,z1) (v2,z2)=cmpI z1 z2 by simp[ordQ,he])
  rw[he]
  go_wp2_with fail
  refine(zcmp_g h1 h2 hl1 hl2).mono ?_
  rintro e w2 ⟨rfl,k2⟩
  replace k2:=hide (b0.out.trans k2)
  go_wp2
  go_ret
  exact⟨ret_int e0.out.symm,k2⟩
 have e0:=hide (show ordQ (v1,z1) (v2,z2)=cmpI v1 v2 by simp[ordQ,he])
 generalize cmpI v1 v2=r at*
 go_wp2
 go_ret
 exact⟨ret_int e0.out.symm,b0⟩
end Go.Proofs.YtbgpddlcfiiiaaaGreatDoor
