/-
  The walk of the law NatDivides.
-/
import Derived.Test.YtpkbdfdbmeilpabDoorD5
import Derived.Test.YtpkbdfdbmeilpabDoorK2
namespace Go.Proofs.YtpkbdfdbmeilpabDoor
open Go.RowKit

set_option maxRecDepth 100000 in
set_option maxHeartbeats 3200000 in
theorem natDivides_0 {aa ab ac : Option Addr} {la ca lb cb lc cc : Nat} {a b c : Int} {w : World} (ha : Nm w aa la ca a) (hb : Nm w ab lb cb b) (hc : Nm w ac lc cc c) (_hla : la ≤ 1048576) (hlb : lb ≤ 1048576) (_hlc : lc ≤ 1048576) (htab : Tab w) (hz : b = 0) :
    Calls Tryd.prog 3 #[.slice aa la ca, .slice ab lb cb, .slice ac lc cc] w fun e w' => e = .returned (.bool true) ∧ Below w.heap.size w w' := by
  go_enter Tryd.func3, Tryd.ntmps3
  go_wp2_with fail
  refine (known_any w htab).mono ?_
  rintro e w1 ⟨rfl, b1⟩
  replace ha := ha.below b1
  replace hb := hb.below b1
  replace hc := hc.below b1
  replace htab := htab.below b1
  go_wp2_with fail
  refine (bits_0 hb (by omega) hz).mono ?_
  rintro e w2 ⟨rfl, b2⟩
  replace ha := ha.below b2
  replace hb := hb.below b2
  replace hc := hc.below b2
  replace htab := htab.below b2
  replace b2 := b1.trans (b2.mono b1.size)
  clear b1
  go_wp2_with fail
  refine (divmod_n0 ha hb hz).mono ?_
  rintro e w3 ⟨rfl, b3⟩
  replace ha := ha.below b3
  replace hb := hb.below b3
  replace hc := hc.below b3
  replace htab := htab.below b3
  replace b3 := b2.trans (b3.mono b2.size)
  clear b2
  go_wp2_with fail
  go_ret
  exact ⟨rfl, b3⟩

set_option maxRecDepth 100000 in
set_option maxHeartbeats 3200000 in
theorem natDivides_1 {aa ab ac : Option Addr} {la ca lb cb lc cc : Nat} {a b c : Int} {w : World} (ha : Nm w aa la ca a) (hb : Nm w ab lb cb b) (hc : Nm w ac lc cc c) (hla : la ≤ 1048576) (hlb : lb ≤ 1048576) (hlc : lc ≤ 1048576) (htab : Tab w) (hz : 0 < b) :
    Calls Tryd.prog 3 #[.slice aa la ca, .slice ab lb cb, .slice ac lc cc] w fun e w' => e = .returned (.bool true) ∧ Below w.heap.size w w' := by
  go_enter Tryd.func3, Tryd.ntmps3
  go_wp2_with fail
  refine (known_any w htab).mono ?_
  rintro e w1 ⟨rfl, b1⟩
  replace ha := ha.below b1
  replace hb := hb.below b1
  replace hc := hc.below b1
  replace htab := htab.below b1
  go_wp2_with fail
  refine (bits_pos hb (by omega) (by omega)).mono ?_
  rintro e w2 ⟨kb, rfl, hkb, b2⟩
  replace ha := ha.below b2
  replace hb := hb.below b2
  replace hc := hc.below b2
  replace htab := htab.below b2
  replace b2 := b1.trans (b2.mono b1.size)
  clear b1
  go_wp2_with fail
  refine (divmod_n ha hb (by omega) hz).mono ?_
  rintro e w3 ⟨aQ, lQ, cQ, aR, lR, cR, rfl, Q, R, b3, kQ, kR⟩
  replace ha := ha.below b3
  replace hb := hb.below b3
  replace hc := hc.below b3
  replace htab := htab.below b3
  replace b3 := b2.trans (b3.mono b2.size)
  clear b2
  go_wp2_with fail
  refine (divmod_n hc hb (by omega) hz).mono ?_
  rintro e w4 ⟨aQ2, lQ2, cQ2, aL, lL, cL, rfl, Q2, L, b4, kQ2, kL⟩
  replace ha := ha.below b4
  replace hb := hb.below b4
  replace hc := hc.below b4
  replace htab := htab.below b4
  replace Q := Q.below b4
  replace R := R.below b4
  replace b4 := b3.trans (b4.mono b3.size)
  clear b3
  go_wp2_with fail
  refine (mul_n ha hb (by omega) (by omega)).mono ?_
  rintro e w5 ⟨aP, lP, cP, rfl, P, b5, kP⟩
  replace ha := ha.below b5
  replace hb := hb.below b5
  replace hc := hc.below b5
  replace htab := htab.below b5
  replace Q := Q.below b5
  replace R := R.below b5
  replace Q2 := Q2.below b5
  replace L := L.below b5
  replace b5 := b4.trans (b5.mono b4.size)
  clear b4
  go_wp2_with fail
  refine (add_n P.nm L.nm (by omega) (by omega)).mono ?_
  rintro e w6 ⟨aS, lS, cS, rfl, S, b6, kS⟩
  replace ha := ha.below b6
  replace hb := hb.below b6
  replace hc := hc.below b6
  replace htab := htab.below b6
  replace Q := Q.below b6
  replace R := R.below b6
  replace Q2 := Q2.below b6
  replace L := L.below b6
  replace b6 := b5.trans (b6.mono b5.size)
  clear P b5
  go_wp2_with fail
  refine (divmod_n S.nm hb (by omega) hz).mono ?_
  rintro e w7 ⟨aU, lU, cU, aV, lV, cV, rfl, U, V, b7, kU, kV⟩
  replace ha := ha.below b7
  replace hb := hb.below b7
  replace hc := hc.below b7
  replace htab := htab.below b7
  replace Q := Q.below b7
  replace R := R.below b7
  replace Q2 := Q2.below b7
  replace L := L.below b7
  replace S := S.below b7
  replace b7 := b6.trans (b7.mono b6.size)
  clear b6
  go_wp2_with fail
  refine (cmp_lt R.nm hb (Int.emod_lt_of_pos _ hz)).mono ?_
  rintro e w8 ⟨rfl, b8⟩
  replace ha := ha.below b8
  replace hb := hb.below b8
  replace hc := hc.below b8
  replace htab := htab.below b8
  replace Q := Q.below b8
  replace R := R.below b8
  replace Q2 := Q2.below b8
  replace L := L.below b8
  replace S := S.below b8
  replace U := U.below b8
  replace V := V.below b8
  replace b8 := b7.trans (b8.mono b7.size)
  clear b7
  go_wp2_with fail
  refine (mul_n Q.nm hb (by omega) (by omega)).mono ?_
  rintro e w9 ⟨aM, lM, cM, rfl, M, b9, kM⟩
  replace ha := ha.below b9
  replace hb := hb.below b9
  replace hc := hc.below b9
  replace htab := htab.below b9
  replace Q := Q.below b9
  replace R := R.below b9
  replace Q2 := Q2.below b9
  replace L := L.below b9
  replace S := S.below b9
  replace U := U.below b9
  replace V := V.below b9
  replace b9 := b8.trans (b9.mono b8.size)
  clear b8
  go_wp2_with fail
  refine (add_n M.nm R.nm (by omega) (by omega)).mono ?_
  rintro e w10 ⟨aT, lT, cT, rfl, T, b10, kT⟩
  replace ha := ha.below b10
  replace hb := hb.below b10
  replace hc := hc.below b10
  replace htab := htab.below b10
  replace Q := Q.below b10
  replace R := R.below b10
  replace Q2 := Q2.below b10
  replace L := L.below b10
  replace S := S.below b10
  replace U := U.below b10
  replace V := V.below b10
  replace b10 := b9.trans (b10.mono b9.size)
  clear M b9
  go_wp2_with fail
  refine (cmp_0 T.nm ha (by rw [Int.mul_comm]; exact Int.mul_ediv_add_emod _ _)).mono ?_
  rintro e w11 ⟨rfl, b11⟩
  replace ha := ha.below b11
  replace hb := hb.below b11
  replace hc := hc.below b11
  replace htab := htab.below b11
  replace Q := Q.below b11
  replace R := R.below b11
  replace Q2 := Q2.below b11
  replace L := L.below b11
  replace S := S.below b11
  replace U := U.below b11
  replace V := V.below b11
  replace b11 := b10.trans (b11.mono b10.size)
  clear T b10
  go_wp2_with fail
  refine (cmp_0 U.nm ha (by rw [Int.add_comm, Int.add_mul_ediv_right _ _ (Int.ne_of_gt hz), Int.ediv_eq_zero_of_lt (Int.emod_nonneg _ (Int.ne_of_gt hz)) (Int.emod_lt_of_pos _ hz), Int.zero_add])).mono ?_
  rintro e w12 ⟨rfl, b12⟩
  replace ha := ha.below b12
  replace hb := hb.below b12
  replace hc := hc.below b12
  replace htab := htab.below b12
  replace Q := Q.below b12
  replace R := R.below b12
  replace Q2 := Q2.below b12
  replace L := L.below b12
  replace S := S.below b12
  replace U := U.below b12
  replace V := V.below b12
  replace b12 := b11.trans (b12.mono b11.size)
  clear b11
  go_wp2_with fail
  refine (same_t V L (by rw [Int.add_comm, Int.add_mul_emod_self_right, Int.emod_emod_of_dvd _ (Int.dvd_refl _)])).mono ?_
  rintro e w13 ⟨rfl, b13⟩
  replace ha := ha.below b13
  replace hb := hb.below b13
  replace hc := hc.below b13
  replace htab := htab.below b13
  replace Q := Q.below b13
  replace R := R.below b13
  replace Q2 := Q2.below b13
  replace L := L.below b13
  replace S := S.below b13
  replace U := U.below b13
  replace V := V.below b13
  replace b13 := b12.trans (b13.mono b12.size)
  clear b12
  go_wp2_with fail
  go_ret
  exact ⟨rfl, b13⟩

theorem natDivides_walk {aa ab ac : Option Addr} {la ca lb cb lc cc : Nat} {a b c : Int} {w : World} (ha : Nm w aa la ca a) (hb : Nm w ab lb cb b) (hc : Nm w ac lc cc c) (hla : la ≤ 1048576) (hlb : lb ≤ 1048576) (hlc : lc ≤ 1048576) (htab : Tab w) :
    Calls Tryd.prog 3 #[.slice aa la ca, .slice ab lb cb, .slice ac lc cc] w fun e w' => e = .returned (.bool true) ∧ Below w.heap.size w w' := by
  have h0 := hb.nonneg
  by_cases hz : b = 0
  · exact natDivides_0 ha hb hc hla hlb hlc htab hz
  · exact natDivides_1 ha hb hc hla hlb hlc htab (by omega)
end Go.Proofs.YtpkbdfdbmeilpabDoor
