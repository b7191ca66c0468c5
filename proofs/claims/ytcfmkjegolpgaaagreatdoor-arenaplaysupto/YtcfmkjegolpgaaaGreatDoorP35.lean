/-
 The reference's plain contracts out of those that tell where answers lie (layers 2,5,6).
-/
import Derived.Test.YtcfmkjegolpgaaaGreatDoorP33
import Derived.Test.YtcfmkjegolpgaaaGreatDoorP30
import Derived.Test.YtcfmkjegolpgaaaGreatDoorP29
namespace Go.Proofs.YtcfmkjegolpgaaaGreatDoor.Rf
open Go.RowKit Go.Sort Go.Shelf
open Tm At

theorem rorder5_n {w : World} {ad : Option Addr} {n cp : Nat} {s : Bool} {a : Option Addr} {l c : Nat} {ps : List (Int × Int)} {k : Int} {ad2 : Option Addr} {n2 cp2 : Nat} {s2 : Bool} {a2 : Option Addr} {l2 c2 : Nat} {qs : List (Int × Int)} {k2 : Int} {B : Nat} (hP : Pr w ad n ps B) (hz : Zm w s a l c k) (hl : l≤B) (hP2 : Pr w ad2 n2 qs B) (hz2 : Zm w s2 a2 l2 c2 k2) (hl2 : l2≤B) (hB : B + n≤268435456) (hB2 : B + n2≤268435456) :
  Calls Tryz.prog 78 #[.agg #[.slice ad n cp,.bool s,.slice a l c],.agg #[.slice ad2 n2 cp2,.bool s2,.slice a2 l2 c2]] w fun e w' => e = .returned (.int .i64 (ordT (nz (lays [] ps)) (nz (lays [] qs)) k k2))∧Below w.heap.size w w':=Low.rorder5_n (Fw:=0) (.mk hP (Nat.zero_le _)) (.mk hz (Nat.zero_le _)) hl (.mk hP2 (Nat.zero_le _)) (.mk hz2 (Nat.zero_le _)) hl2 hB hB2
set_option maxRecDepth 100000 in
set_option maxHeartbeats 3200000 in
theorem same5_t {w : World} {ad : Option Addr} {n cp : Nat} {s : Bool} {a : Option Addr} {l c : Nat} {ps : List (Int × Int)} {k : Int} {ad2 : Option Addr} {n2 cp2 : Nat} {s2 : Bool} {a2 : Option Addr} {l2 c2 : Nat} {B : Nat} (hS : Std ps) (hP : Pn w ad n ps B) (hz : Zn w s a l c k) (hl : l≤B) (hP2 : Pn w ad2 n2 ps B) (hz2 : Zn w s2 a2 l2 c2 k) (hl2 : l2≤B) (hB : B + n≤268435456) (hB2 : B + n2≤268435456) :
  Calls Tryz.prog 48 #[.agg #[.slice ad n cp,.bool s,.slice a l c],.agg #[.slice ad2 n2 cp2,.bool s2,.slice a2 l2 c2]] w fun e w' => e = .returned (.bool true)∧Below w.heap.size w w':=by
 go_enter Tryz.func48,Tryz.ntmps48
 go_wp2_with fail
 have x:=(tb_new w ad n cp s a l c).below (below_alloc _ (.cells #[.slice ad2 n2 cp2,.bool s2,.slice a2 l2 c2] 40))
 have y:=tb_new (w.alloc (.cells #[.slice ad n cp,.bool s,.slice a l c] 40)) ad2 n2 cp2 s2 a2 l2 c2
 have b0 : Below w.heap.size w ((w.alloc (.cells #[.slice ad n cp,.bool s,.slice a l c] 40)).alloc (.cells #[.slice ad2 n2 cp2,.bool s2,.slice a2 l2 c2] 40)):=below_alloc' (below_alloc _ _) _
 rw [show (w.alloc (.cells #[.slice ad n cp,.bool s,.slice a l c] 40)).heap.size = w.heap.size + 1 from by simp] at y
 generalize (w.alloc (.cells #[.slice ad n cp,.bool s,.slice a l c] 40)).alloc (.cells #[.slice ad2 n2 cp2,.bool s2,.slice a2 l2 c2] 40) = wb at *
 replace hP:=hP.below b0
 replace hz:=hz.below b0
 replace hP2:=hP2.below b0
 replace hz2:=hz2.below b0
 generalize hp : w.heap.size = p at *
 replace b0 : Hid (Below w.heap.size w wb):=hp ▸ b0
 replace hp:=hide hp
 generalize p + 1 = q at *
 obtain ⟨X,hX,hVX⟩:=pn_px hP hS
 obtain ⟨Y,hY,hVY⟩:=pn_px hP2 hS
 obtain ⟨xs,hr,hst, -⟩:=hz.stands
 obtain ⟨ys,hr2,hst2, -⟩:=hz2.stands
 replace hVX:=hide hVX
 replace hVY:=hide hVY
 refine (rvalid5_n hX hr hl o_m o_m).mono ?_
 rintro e w1 ⟨b1,rfl,hb1,k1⟩
 obtain rfl : b1 = true:=hb1.2 ⟨hVX.out,hst⟩
 clear hb1
 replace k1:=hide k1
 have y0:=(y.below k1.out).c0
 have y1:=(y.below k1.out).c1
 have y2:=(y.below k1.out).c2
 go_wp2_with fail
 refine (rvalid5_n (hY.below k1.out) (hr2.below k1.out) hl2 o_m o_m).mono ?_
 rintro e w2 ⟨b2,rfl,hb2,k2⟩
 obtain rfl : b2 = true:=hb2.2 ⟨hVY.out,hst2⟩
 clear hb2 y0 y1 y2
 replace k2:=hide (grow_step k2 k1.out)
 clear k1
 have x0:=(x.below k2.out).c0
 have x1:=(x.below k2.out).c1
 have x2:=(x.below k2.out).c2
 have y0:=(y.below k2.out).c0
 have y1:=(y.below k2.out).c1
 have y2:=(y.below k2.out).c2
 go_wp2_with fail
 refine (rorder5_n (hP.pr.below k2.out) (hz.zm.below k2.out) hl (hP2.pr.below k2.out) (hz2.zm.below k2.out) hl2 hB hB2).mono ?_
 rintro e w3 ⟨rfl,k3⟩
 rw [ordT_self]
 have kf : Hid (Below w.heap.size w w3):=b0.out.trans ((grow_step k3 k2.out).mono b0.out.size)
 clear k3
 go_wp2
 go_ret
 exact ⟨rfl,kf.out⟩
end Go.Proofs.YtcfmkjegolpgaaaGreatDoor.Rf
