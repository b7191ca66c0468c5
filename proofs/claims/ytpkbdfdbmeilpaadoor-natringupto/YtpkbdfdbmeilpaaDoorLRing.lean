/-
  The walk of the law NatRing.
-/
import Derived.Test.YtpkbdfdbmeilpaaDoorK2
namespace Go.Proofs.YtpkbdfdbmeilpaaDoor
open Go.RowKit

set_option maxRecDepth 100000 in
set_option maxHeartbeats 3200000 in
theorem natRing_walk {aa ab ac : Option Addr} {la ca lb cb lc cc : Nat} {a b c : Int} {w : World} (ha : Nm w aa la ca a) (hb : Nm w ab lb cb b) (hc : Nm w ac lc cc c) (hla : la ≤ 1048576) (hlb : lb ≤ 1048576) (hlc : lc ≤ 1048576) (htab : Tab w) :
    Calls Tryd.prog 7 #[.slice aa la ca, .slice ab lb cb, .slice ac lc cc] w fun e w' => e = .returned (.bool true) ∧ Below w.heap.size w w' := by
  go_enter Tryd.func7, Tryd.ntmps7
  go_wp2_with fail
  refine (add_n ha hb (by omega) (by omega)).mono ?_
  rintro e w1 ⟨aS, lS, cS, rfl, S, b1, kS⟩
  replace ha := ha.below b1
  replace hb := hb.below b1
  replace hc := hc.below b1
  replace htab := htab.below b1
  go_wp2_with fail
  refine (sub_n S.nm hb (by omega) (by have := ha.nonneg; omega)).mono ?_
  rintro e w2 ⟨aD, lD, cD, rfl, D, b2, kD⟩
  replace ha := ha.below b2
  replace hb := hb.below b2
  replace hc := hc.below b2
  replace htab := htab.below b2
  replace S := S.below b2
  replace b2 := b1.trans (b2.mono b1.size)
  clear b1
  go_wp2_with fail
  refine (add_n hb ha (by omega) (by omega)).mono ?_
  rintro e w3 ⟨aT, lT, cT, rfl, T, b3, kT⟩
  replace ha := ha.below b3
  replace hb := hb.below b3
  replace hc := hc.below b3
  replace htab := htab.below b3
  replace S := S.below b3
  replace D := D.below b3
  replace b3 := b2.trans (b3.mono b2.size)
  clear b2
  go_wp2_with fail
  refine (same_t S T (Int.add_comm _ _)).mono ?_
  rintro e w4 ⟨rfl, b4⟩
  replace ha := ha.below b4
  replace hb := hb.below b4
  replace hc := hc.below b4
  replace htab := htab.below b4
  replace S := S.below b4
  replace D := D.below b4
  replace b4 := b3.trans (b4.mono b3.size)
  clear T b3
  go_wp2_with fail
  refine (add_n S.nm hc (by omega) (by omega)).mono ?_
  rintro e w5 ⟨aX, lX, cX, rfl, X, b5, kX⟩
  replace ha := ha.below b5
  replace hb := hb.below b5
  replace hc := hc.below b5
  replace htab := htab.below b5
  replace S := S.below b5
  replace D := D.below b5
  replace b5 := b4.trans (b5.mono b4.size)
  clear b4
  go_wp2_with fail
  refine (add_n hb hc (by omega) (by omega)).mono ?_
  rintro e w6 ⟨aY, lY, cY, rfl, Y, b6, kY⟩
  replace ha := ha.below b6
  replace hb := hb.below b6
  replace hc := hc.below b6
  replace htab := htab.below b6
  replace S := S.below b6
  replace D := D.below b6
  replace X := X.below b6
  replace b6 := b5.trans (b6.mono b5.size)
  clear b5
  go_wp2_with fail
  refine (add_n ha Y.nm (by omega) (by omega)).mono ?_
  rintro e w7 ⟨aZ, lZ, cZ, rfl, Z, b7, kZ⟩
  replace ha := ha.below b7
  replace hb := hb.below b7
  replace hc := hc.below b7
  replace htab := htab.below b7
  replace S := S.below b7
  replace D := D.below b7
  replace X := X.below b7
  replace b7 := b6.trans (b7.mono b6.size)
  clear Y b6
  go_wp2_with fail
  refine (same_t X Z (Int.add_assoc _ _ _)).mono ?_
  rintro e w8 ⟨rfl, b8⟩
  replace ha := ha.below b8
  replace hb := hb.below b8
  replace hc := hc.below b8
  replace htab := htab.below b8
  replace S := S.below b8
  replace D := D.below b8
  replace b8 := b7.trans (b8.mono b7.size)
  clear X Z b7
  go_wp2_with fail
  refine (mul_n ha hb (by omega) (by omega)).mono ?_
  rintro e w9 ⟨aP, lP, cP, rfl, P, b9, kP⟩
  replace ha := ha.below b9
  replace hb := hb.below b9
  replace hc := hc.below b9
  replace htab := htab.below b9
  replace S := S.below b9
  replace D := D.below b9
  replace b9 := b8.trans (b9.mono b8.size)
  clear b8
  go_wp2_with fail
  refine (mul_n hb ha (by omega) (by omega)).mono ?_
  rintro e w10 ⟨aQ, lQ, cQ, rfl, Q, b10, kQ⟩
  replace ha := ha.below b10
  replace hb := hb.below b10
  replace hc := hc.below b10
  replace htab := htab.below b10
  replace S := S.below b10
  replace D := D.below b10
  replace P := P.below b10
  replace b10 := b9.trans (b10.mono b9.size)
  clear b9
  go_wp2_with fail
  refine (same_t P Q (Int.mul_comm _ _)).mono ?_
  rintro e w11 ⟨rfl, b11⟩
  replace ha := ha.below b11
  replace hb := hb.below b11
  replace hc := hc.below b11
  replace htab := htab.below b11
  replace S := S.below b11
  replace D := D.below b11
  replace P := P.below b11
  replace b11 := b10.trans (b11.mono b10.size)
  clear Q b10
  go_wp2_with fail
  refine (mul_n P.nm hc (by omega) (by omega)).mono ?_
  rintro e w12 ⟨aX, lX, cX, rfl, X, b12, kX⟩
  replace ha := ha.below b12
  replace hb := hb.below b12
  replace hc := hc.below b12
  replace htab := htab.below b12
  replace S := S.below b12
  replace D := D.below b12
  replace P := P.below b12
  replace b12 := b11.trans (b12.mono b11.size)
  clear b11
  go_wp2_with fail
  refine (mul_n hb hc (by omega) (by omega)).mono ?_
  rintro e w13 ⟨aY, lY, cY, rfl, Y, b13, kY⟩
  replace ha := ha.below b13
  replace hb := hb.below b13
  replace hc := hc.below b13
  replace htab := htab.below b13
  replace S := S.below b13
  replace D := D.below b13
  replace P := P.below b13
  replace X := X.below b13
  replace b13 := b12.trans (b13.mono b12.size)
  clear b12
  go_wp2_with fail
  refine (mul_n ha Y.nm (by omega) (by omega)).mono ?_
  rintro e w14 ⟨aZ, lZ, cZ, rfl, Z, b14, kZ⟩
  replace ha := ha.below b14
  replace hb := hb.below b14
  replace hc := hc.below b14
  replace htab := htab.below b14
  replace S := S.below b14
  replace D := D.below b14
  replace P := P.below b14
  replace X := X.below b14
  replace b14 := b13.trans (b14.mono b13.size)
  clear Y b13
  go_wp2_with fail
  refine (same_t X Z (Int.mul_assoc _ _ _)).mono ?_
  rintro e w15 ⟨rfl, b15⟩
  replace ha := ha.below b15
  replace hb := hb.below b15
  replace hc := hc.below b15
  replace htab := htab.below b15
  replace S := S.below b15
  replace D := D.below b15
  replace b15 := b14.trans (b15.mono b14.size)
  clear X Z P b14
  go_wp2_with fail
  refine (mul_n S.nm hc (by omega) (by omega)).mono ?_
  rintro e w16 ⟨aX, lX, cX, rfl, X, b16, kX⟩
  replace ha := ha.below b16
  replace hb := hb.below b16
  replace hc := hc.below b16
  replace htab := htab.below b16
  replace D := D.below b16
  replace b16 := b15.trans (b16.mono b15.size)
  clear S b15
  go_wp2_with fail
  refine (mul_n ha hc (by omega) (by omega)).mono ?_
  rintro e w17 ⟨aY, lY, cY, rfl, Y, b17, kY⟩
  replace ha := ha.below b17
  replace hb := hb.below b17
  replace hc := hc.below b17
  replace htab := htab.below b17
  replace D := D.below b17
  replace X := X.below b17
  replace b17 := b16.trans (b17.mono b16.size)
  clear b16
  go_wp2_with fail
  refine (mul_n hb hc (by omega) (by omega)).mono ?_
  rintro e w18 ⟨aZ, lZ, cZ, rfl, Z, b18, kZ⟩
  replace ha := ha.below b18
  replace htab := htab.below b18
  replace D := D.below b18
  replace X := X.below b18
  replace Y := Y.below b18
  replace b18 := b17.trans (b18.mono b17.size)
  clear hb hc b17
  go_wp2_with fail
  refine (add_n Y.nm Z.nm (by omega) (by omega)).mono ?_
  rintro e w19 ⟨aV, lV, cV, rfl, V, b19, kV⟩
  replace ha := ha.below b19
  replace htab := htab.below b19
  replace D := D.below b19
  replace X := X.below b19
  replace b19 := b18.trans (b19.mono b18.size)
  clear Y Z b18
  go_wp2_with fail
  refine (same_t X V (Int.add_mul _ _ _)).mono ?_
  rintro e w20 ⟨rfl, b20⟩
  replace ha := ha.below b20
  replace htab := htab.below b20
  replace D := D.below b20
  replace b20 := b19.trans (b20.mono b19.size)
  clear X V b19
  go_wp2_with fail
  refine (cmp_0 D.nm ha (by omega)).mono ?_
  rintro e w21 ⟨rfl, b21⟩
  replace htab := htab.below b21
  replace b21 := b20.trans (b21.mono b20.size)
  clear D ha b20
  go_wp2_with fail
  refine (known_any w21 htab).mono ?_
  rintro e w22 ⟨rfl, b22⟩
  replace b22 := b21.trans (b22.mono b21.size)
  clear htab b21
  go_wp2_with fail
  go_ret
  exact ⟨rfl, b22⟩
end Go.Proofs.YtpkbdfdbmeilpaaDoor
