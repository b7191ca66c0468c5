/-
  The walk of the law NatCommon.
-/
import Derived.Test.YtpkbdfdbmeilpabDoorD6
import Derived.Test.YtpkbdfdbmeilpabDoorK2
namespace Go.Proofs.YtpkbdfdbmeilpabDoor
open Go.RowKit

set_option maxRecDepth 100000 in
set_option maxHeartbeats 3200000 in
theorem natCommon_0 {aa ab ac : Option Addr} {la ca lb cb lc cc : Nat} {a b c : Int} {w : World} (ha : Nm w aa la ca a) (hb : Nm w ab lb cb b) (hc : Nm w ac lc cc c) (hla : la ≤ 1048576) (hlb : lb ≤ 1048576) (hlc : lc ≤ 1048576) (htab : Tab w) (hz : gcdI a b = 0) :
    Calls Tryd.prog 4 #[.slice aa la ca, .slice ab lb cb, .slice ac lc cc] w fun e w' => e = .returned (.bool true) ∧ Below w.heap.size w w' := by
  have na := ha.nonneg
  have nb := hb.nonneg
  have nc := hc.nonneg
  go_enter Tryd.func4, Tryd.ntmps4
  go_wp2_with fail
  refine (gcd_n ha hb (by omega) (by omega)).mono ?_
  rintro e w1 ⟨aG, lG, cG, rfl, G, b1, kG⟩
  replace ha := ha.below b1
  replace hb := hb.below b1
  replace hc := hc.below b1
  replace htab := htab.below b1
  obtain rfl : lG = 0 := G.len.1 hz
  go_wp2_with fail
  refine (lcm_n ha hb (by omega) (by omega)).mono ?_
  rintro e w2 ⟨aL, lL, cL, rfl, L, b2, kL⟩
  replace ha := ha.below b2
  replace hb := hb.below b2
  replace hc := hc.below b2
  replace htab := htab.below b2
  replace G := G.below b2
  replace b2 := b1.trans (b2.mono b1.size)
  clear b1
  go_wp2_with fail
  refine (mul_n G.nm L.nm (by omega) (by omega)).mono ?_
  rintro e w3 ⟨aM, lM, cM, rfl, M, b3, kM⟩
  replace ha := ha.below b3
  replace hb := hb.below b3
  replace hc := hc.below b3
  replace htab := htab.below b3
  replace G := G.below b3
  replace b3 := b2.trans (b3.mono b2.size)
  clear L b2
  go_wp2_with fail
  refine (mul_n ha hb (by omega) (by omega)).mono ?_
  rintro e w4 ⟨aP, lP, cP, rfl, P, b4, kP⟩
  replace ha := ha.below b4
  replace hb := hb.below b4
  replace hc := hc.below b4
  replace htab := htab.below b4
  replace G := G.below b4
  replace M := M.below b4
  replace b4 := b3.trans (b4.mono b3.size)
  clear b3
  go_wp2_with fail
  refine (same_t M P (lcmI_mul na)).mono ?_
  rintro e w5 ⟨rfl, b5⟩
  replace ha := ha.below b5
  replace hb := hb.below b5
  replace hc := hc.below b5
  replace htab := htab.below b5
  replace G := G.below b5
  replace b5 := b4.trans (b5.mono b4.size)
  clear M P b4
  go_wp2_with fail
  refine (gcd_n hb ha (by omega) (by omega)).mono ?_
  rintro e w6 ⟨aH, lH, cH, rfl, H, b6, kH⟩
  replace ha := ha.below b6
  replace hb := hb.below b6
  replace hc := hc.below b6
  replace htab := htab.below b6
  replace G := G.below b6
  replace b6 := b5.trans (b6.mono b5.size)
  clear b5
  go_wp2_with fail
  refine (same_t G H (gcdI_comm _ _)).mono ?_
  rintro e w7 ⟨rfl, b7⟩
  replace ha := ha.below b7
  replace hb := hb.below b7
  replace hc := hc.below b7
  replace htab := htab.below b7
  replace G := G.below b7
  replace b7 := b6.trans (b7.mono b6.size)
  clear H b6
  go_wp2_with fail
  refine (mul_n ha hc (by omega) (by omega)).mono ?_
  rintro e w8 ⟨aS, lS, cS, rfl, S, b8, kS⟩
  replace ha := ha.below b8
  replace hb := hb.below b8
  replace hc := hc.below b8
  replace htab := htab.below b8
  replace G := G.below b8
  replace b8 := b7.trans (b8.mono b7.size)
  clear b7
  go_wp2_with fail
  refine (mul_n hb hc (by omega) (by omega)).mono ?_
  rintro e w9 ⟨aT, lT, cT, rfl, T, b9, kT⟩
  replace ha := ha.below b9
  replace hb := hb.below b9
  replace hc := hc.below b9
  replace htab := htab.below b9
  replace G := G.below b9
  replace S := S.below b9
  replace b9 := b8.trans (b9.mono b8.size)
  clear b8
  go_wp2_with fail
  refine (gcd_n S.nm T.nm (by omega) (by omega)).mono ?_
  rintro e w10 ⟨aU, lU, cU, rfl, U, b10, kU⟩
  replace ha := ha.below b10
  replace hb := hb.below b10
  replace hc := hc.below b10
  replace htab := htab.below b10
  replace G := G.below b10
  replace b10 := b9.trans (b10.mono b9.size)
  clear S T b9
  go_wp2_with fail
  refine (mul_n G.nm hc (by omega) (by omega)).mono ?_
  rintro e w11 ⟨aV, lV, cV, rfl, V, b11, kV⟩
  replace ha := ha.below b11
  replace hb := hb.below b11
  replace hc := hc.below b11
  replace htab := htab.below b11
  replace G := G.below b11
  replace U := U.below b11
  replace b11 := b10.trans (b11.mono b10.size)
  clear b10
  go_wp2_with fail
  refine (same_t U V (gcdI_mul na nb nc)).mono ?_
  rintro e w12 ⟨rfl, b12⟩
  replace ha := ha.below b12
  replace hb := hb.below b12
  replace hc := hc.below b12
  replace htab := htab.below b12
  replace G := G.below b12
  replace b12 := b11.trans (b12.mono b11.size)
  clear U V b11
  go_wp2_with fail
  refine (mul_n hb hc (by omega) (by omega)).mono ?_
  rintro e w13 ⟨aT, lT, cT, rfl, T, b13, kT⟩
  replace ha := ha.below b13
  replace hb := hb.below b13
  replace hc := hc.below b13
  replace htab := htab.below b13
  replace G := G.below b13
  replace b13 := b12.trans (b13.mono b12.size)
  clear b12
  go_wp2_with fail
  refine (add_n ha T.nm (by omega) (by omega)).mono ?_
  rintro e w14 ⟨aS, lS, cS, rfl, S, b14, kS⟩
  replace ha := ha.below b14
  replace hb := hb.below b14
  replace hc := hc.below b14
  replace htab := htab.below b14
  replace G := G.below b14
  replace b14 := b13.trans (b14.mono b13.size)
  clear T b13
  go_wp2_with fail
  refine (gcd_n S.nm hb (by omega) (by omega)).mono ?_
  rintro e w15 ⟨aU, lU, cU, rfl, U, b15, kU⟩
  replace ha := ha.below b15
  replace hb := hb.below b15
  replace hc := hc.below b15
  replace htab := htab.below b15
  replace G := G.below b15
  replace b15 := b14.trans (b15.mono b14.size)
  clear S b14
  go_wp2_with fail
  refine (same_t U G (gcdI_add na nb nc)).mono ?_
  rintro e w16 ⟨rfl, b16⟩
  replace ha := ha.below b16
  replace hb := hb.below b16
  replace hc := hc.below b16
  replace htab := htab.below b16
  replace b16 := b15.trans (b16.mono b15.size)
  clear U G b15
  go_wp2_with fail
  refine (known_any w16 htab).mono ?_
  rintro e w17 ⟨rfl, b17⟩
  replace ha := ha.below b17
  replace hb := hb.below b17
  replace hc := hc.below b17
  replace b17 := b16.trans (b17.mono b16.size)
  clear htab b16
  go_wp2_with fail
  go_ret
  exact ⟨rfl, b17⟩

set_option maxRecDepth 100000 in
set_option maxHeartbeats 3200000 in
theorem natCommon_1 {aa ab ac : Option Addr} {la ca lb cb lc cc : Nat} {a b c : Int} {w : World} (ha : Nm w aa la ca a) (hb : Nm w ab lb cb b) (hc : Nm w ac lc cc c) (hla : la ≤ 1048576) (hlb : lb ≤ 1048576) (hlc : lc ≤ 1048576) (htab : Tab w) (hz : 0 < gcdI a b) :
    Calls Tryd.prog 4 #[.slice aa la ca, .slice ab lb cb, .slice ac lc cc] w fun e w' => e = .returned (.bool true) ∧ Below w.heap.size w w' := by
  have na := ha.nonneg
  have nb := hb.nonneg
  have nc := hc.nonneg
  go_enter Tryd.func4, Tryd.ntmps4
  go_wp2_with fail
  refine (gcd_n ha hb (by omega) (by omega)).mono ?_
  rintro e w1 ⟨aG, lG, cG, rfl, G, b1, kG⟩
  replace ha := ha.below b1
  replace hb := hb.below b1
  replace hc := hc.below b1
  replace htab := htab.below b1
  have hlG : 0 < lG := Nat.pos_of_ne_zero (fun h => (Int.ne_of_gt hz) (G.len.2 h))
  go_wp2_with fail
  refine (lcm_n ha hb (by omega) (by omega)).mono ?_
  rintro e w2 ⟨aL, lL, cL, rfl, L, b2, kL⟩
  replace ha := ha.below b2
  replace hb := hb.below b2
  replace hc := hc.below b2
  replace htab := htab.below b2
  replace G := G.below b2
  replace b2 := b1.trans (b2.mono b1.size)
  clear b1
  go_wp2_with fail
  refine (mul_n G.nm L.nm (by omega) (by omega)).mono ?_
  rintro e w3 ⟨aM, lM, cM, rfl, M, b3, kM⟩
  replace ha := ha.below b3
  replace hb := hb.below b3
  replace hc := hc.below b3
  replace htab := htab.below b3
  replace G := G.below b3
  replace b3 := b2.trans (b3.mono b2.size)
  clear L b2
  go_wp2_with fail
  refine (mul_n ha hb (by omega) (by omega)).mono ?_
  rintro e w4 ⟨aP, lP, cP, rfl, P, b4, kP⟩
  replace ha := ha.below b4
  replace hb := hb.below b4
  replace hc := hc.below b4
  replace htab := htab.below b4
  replace G := G.below b4
  replace M := M.below b4
  replace b4 := b3.trans (b4.mono b3.size)
  clear b3
  go_wp2_with fail
  refine (same_t M P (lcmI_mul na)).mono ?_
  rintro e w5 ⟨rfl, b5⟩
  replace ha := ha.below b5
  replace hb := hb.below b5
  replace hc := hc.below b5
  replace htab := htab.below b5
  replace G := G.below b5
  replace b5 := b4.trans (b5.mono b4.size)
  clear M P b4
  go_wp2_with fail
  refine (gcd_n hb ha (by omega) (by omega)).mono ?_
  rintro e w6 ⟨aH, lH, cH, rfl, H, b6, kH⟩
  replace ha := ha.below b6
  replace hb := hb.below b6
  replace hc := hc.below b6
  replace htab := htab.below b6
  replace G := G.below b6
  replace b6 := b5.trans (b6.mono b5.size)
  clear b5
  go_wp2_with fail
  refine (same_t G H (gcdI_comm _ _)).mono ?_
  rintro e w7 ⟨rfl, b7⟩
  replace ha := ha.below b7
  replace hb := hb.below b7
  replace hc := hc.below b7
  replace htab := htab.below b7
  replace G := G.below b7
  replace b7 := b6.trans (b7.mono b6.size)
  clear H b6
  go_wp2_with fail
  refine (divmod_n ha G.nm (by omega) hz).mono ?_
  rintro e w8 ⟨aQ, lQ, cQ, aR, lR, cR, rfl, Q, R, b8, kQ, kR⟩
  replace ha := ha.below b8
  replace hb := hb.below b8
  replace hc := hc.below b8
  replace htab := htab.below b8
  replace G := G.below b8
  replace b8 := b7.trans (b8.mono b7.size)
  clear b7
  obtain rfl : lR = 0 := R.len.1 (Int.emod_eq_zero_of_dvd (gcdI_left na))
  clear Q R
  go_wp2_with fail
  refine (divmod_n hb G.nm (by omega) hz).mono ?_
  rintro e w9 ⟨aQ2, lQ2, cQ2, aR2, lR2, cR2, rfl, Q2, R2, b9, kQ2, kR2⟩
  replace ha := ha.below b9
  replace hb := hb.below b9
  replace hc := hc.below b9
  replace htab := htab.below b9
  replace G := G.below b9
  replace b9 := b8.trans (b9.mono b8.size)
  clear b8
  obtain rfl : lR2 = 0 := R2.len.1 (Int.emod_eq_zero_of_dvd (gcdI_right nb))
  clear Q2 R2
  go_wp2_with fail
  refine (mul_n ha hc (by omega) (by omega)).mono ?_
  rintro e w10 ⟨aS, lS, cS, rfl, S, b10, kS⟩
  replace ha := ha.below b10
  replace hb := hb.below b10
  replace hc := hc.below b10
  replace htab := htab.below b10
  replace G := G.below b10
  replace b10 := b9.trans (b10.mono b9.size)
  clear b9
  go_wp2_with fail
  refine (mul_n hb hc (by omega) (by omega)).mono ?_
  rintro e w11 ⟨aT, lT, cT, rfl, T, b11, kT⟩
  replace ha := ha.below b11
  replace hb := hb.below b11
  replace hc := hc.below b11
  replace htab := htab.below b11
  replace G := G.below b11
  replace S := S.below b11
  replace b11 := b10.trans (b11.mono b10.size)
  clear b10
  go_wp2_with fail
  refine (gcd_n S.nm T.nm (by omega) (by omega)).mono ?_
  rintro e w12 ⟨aU, lU, cU, rfl, U, b12, kU⟩
  replace ha := ha.below b12
  replace hb := hb.below b12
  replace hc := hc.below b12
  replace htab := htab.below b12
  replace G := G.below b12
  replace b12 := b11.trans (b12.mono b11.size)
  clear S T b11
  go_wp2_with fail
  refine (mul_n G.nm hc (by omega) (by omega)).mono ?_
  rintro e w13 ⟨aV, lV, cV, rfl, V, b13, kV⟩
  replace ha := ha.below b13
  replace hb := hb.below b13
  replace hc := hc.below b13
  replace htab := htab.below b13
  replace G := G.below b13
  replace U := U.below b13
  replace b13 := b12.trans (b13.mono b12.size)
  clear b12
  go_wp2_with fail
  refine (same_t U V (gcdI_mul na nb nc)).mono ?_
  rintro e w14 ⟨rfl, b14⟩
  replace ha := ha.below b14
  replace hb := hb.below b14
  replace hc := hc.below b14
  replace htab := htab.below b14
  replace G := G.below b14
  replace b14 := b13.trans (b14.mono b13.size)
  clear U V b13
  go_wp2_with fail
  refine (mul_n hb hc (by omega) (by omega)).mono ?_
  rintro e w15 ⟨aT, lT, cT, rfl, T, b15, kT⟩
  replace ha := ha.below b15
  replace hb := hb.below b15
  replace hc := hc.below b15
  replace htab := htab.below b15
  replace G := G.below b15
  replace b15 := b14.trans (b15.mono b14.size)
  clear b14
  go_wp2_with fail
  refine (add_n ha T.nm (by omega) (by omega)).mono ?_
  rintro e w16 ⟨aS, lS, cS, rfl, S, b16, kS⟩
  replace ha := ha.below b16
  replace hb := hb.below b16
  replace hc := hc.below b16
  replace htab := htab.below b16
  replace G := G.below b16
  replace b16 := b15.trans (b16.mono b15.size)
  clear T b15
  go_wp2_with fail
  refine (gcd_n S.nm hb (by omega) (by omega)).mono ?_
  rintro e w17 ⟨aU, lU, cU, rfl, U, b17, kU⟩
  replace ha := ha.below b17
  replace hb := hb.below b17
  replace hc := hc.below b17
  replace htab := htab.below b17
  replace G := G.below b17
  replace b17 := b16.trans (b17.mono b16.size)
  clear S b16
  go_wp2_with fail
  refine (same_t U G (gcdI_add na nb nc)).mono ?_
  rintro e w18 ⟨rfl, b18⟩
  replace ha := ha.below b18
  replace hb := hb.below b18
  replace hc := hc.below b18
  replace htab := htab.below b18
  replace b18 := b17.trans (b18.mono b17.size)
  clear U G b17
  go_wp2_with fail
  refine (known_any w18 htab).mono ?_
  rintro e w19 ⟨rfl, b19⟩
  replace ha := ha.below b19
  replace hb := hb.below b19
  replace hc := hc.below b19
  replace b19 := b18.trans (b19.mono b18.size)
  clear htab b18
  go_wp2_with fail
  go_ret
  exact ⟨rfl, b19⟩

theorem natCommon_walk {aa ab ac : Option Addr} {la ca lb cb lc cc : Nat} {a b c : Int} {w : World} (ha : Nm w aa la ca a) (hb : Nm w ab lb cb b) (hc : Nm w ac lc cc c) (hla : la ≤ 1048576) (hlb : lb ≤ 1048576) (hlc : lc ≤ 1048576) (htab : Tab w) :
    Calls Tryd.prog 4 #[.slice aa la ca, .slice ab lb cb, .slice ac lc cc] w fun e w' => e = .returned (.bool true) ∧ Below w.heap.size w w' := by
  have h0 := gcdI_nonneg a b
  by_cases hz : gcdI a b = 0
  · exact natCommon_0 ha hb hc hla hlb hlc htab hz
  · exact natCommon_1 ha hb hc hla hlb hlc htab (by omega)
end Go.Proofs.YtpkbdfdbmeilpabDoor
