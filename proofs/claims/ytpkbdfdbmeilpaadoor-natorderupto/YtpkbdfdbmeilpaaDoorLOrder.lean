/-
  The walk of the law NatOrder.
-/
import Derived.Test.YtpkbdfdbmeilpaaDoorK2
namespace Go.Proofs.YtpkbdfdbmeilpaaDoor
open Go.RowKit

set_option maxRecDepth 100000 in
set_option maxHeartbeats 3200000 in
theorem natOrder_001 {aa ab ac : Option Addr} {la ca lb cb lc cc : Nat} {a b c : Int} {w : World} (ha : Nm w aa la ca a) (hb : Nm w ab lb cb b) (hc : Nm w ac lc cc c) (hla : la ≤ 1048576) (hlb : lb ≤ 1048576) (hlc : lc ≤ 1048576) (htab : Tab w) (hab : a < b) (hbc : b < c) (hz : c = 0) :
    Calls Tryd.prog 8 #[.slice aa la ca, .slice ab lb cb, .slice ac lc cc] w fun e w' => e = .returned (.bool true) ∧ Below w.heap.size w w' := by
  go_enter Tryd.func8, Tryd.ntmps8
  go_wp2_with fail
  refine (cmp_lt ha hb (by omega)).mono ?_
  rintro e w1 ⟨rfl, b1⟩
  replace ha := ha.below b1
  replace hb := hb.below b1
  replace hc := hc.below b1
  replace htab := htab.below b1
  go_wp2_with fail
  refine (cmp_gt hb ha (by omega)).mono ?_
  rintro e w2 ⟨rfl, b2⟩
  replace ha := ha.below b2
  replace hb := hb.below b2
  replace hc := hc.below b2
  replace htab := htab.below b2
  replace b2 := b1.trans (b2.mono b1.size)
  clear b1
  go_wp2_with fail
  refine (cmp_0 ha ha (rfl)).mono ?_
  rintro e w3 ⟨rfl, b3⟩
  replace ha := ha.below b3
  replace hb := hb.below b3
  replace hc := hc.below b3
  replace htab := htab.below b3
  replace b3 := b2.trans (b3.mono b2.size)
  clear b2
  go_wp2_with fail
  refine (cmp_lt hb hc (by omega)).mono ?_
  rintro e w4 ⟨rfl, b4⟩
  replace ha := ha.below b4
  replace hb := hb.below b4
  replace hc := hc.below b4
  replace htab := htab.below b4
  replace b4 := b3.trans (b4.mono b3.size)
  clear b3
  go_wp2_with fail
  refine (cmp_lt ha hc (by omega)).mono ?_
  rintro e w5 ⟨rfl, b5⟩
  replace ha := ha.below b5
  replace hb := hb.below b5
  replace hc := hc.below b5
  replace htab := htab.below b5
  replace b5 := b4.trans (b5.mono b4.size)
  clear b4
  go_wp2_with fail
  refine (add_n ha hc (by omega) (by omega)).mono ?_
  rintro e w6 ⟨aS, lS, cS, rfl, S, b6, kS⟩
  replace ha := ha.below b6
  replace hb := hb.below b6
  replace hc := hc.below b6
  replace htab := htab.below b6
  replace b6 := b5.trans (b6.mono b5.size)
  clear b5
  go_wp2_with fail
  refine (add_n hb hc (by omega) (by omega)).mono ?_
  rintro e w7 ⟨aT, lT, cT, rfl, T, b7, kT⟩
  replace ha := ha.below b7
  replace hb := hb.below b7
  replace hc := hc.below b7
  replace htab := htab.below b7
  replace S := S.below b7
  replace b7 := b6.trans (b7.mono b6.size)
  clear b6
  go_wp2_with fail
  refine (cmp_lt S.nm T.nm (by omega)).mono ?_
  rintro e w8 ⟨rfl, b8⟩
  replace ha := ha.below b8
  replace hb := hb.below b8
  replace hc := hc.below b8
  replace htab := htab.below b8
  replace b8 := b7.trans (b8.mono b7.size)
  clear S T b7
  go_wp2_with fail
  refine (bits_0 hc (by omega) hz).mono ?_
  rintro e w9 ⟨rfl, b9⟩
  replace ha := ha.below b9
  replace hb := hb.below b9
  replace hc := hc.below b9
  replace htab := htab.below b9
  replace b9 := b8.trans (b9.mono b8.size)
  clear b8
  go_wp2_with fail
  refine (sub_n_neg ha hb (by omega)).mono ?_
  rintro e w10 ⟨rfl, b10⟩
  replace ha := ha.below b10
  replace hb := hb.below b10
  replace hc := hc.below b10
  replace htab := htab.below b10
  replace b10 := b9.trans (b10.mono b9.size)
  clear b9
  go_wp2_with fail
  refine (known_any w10 htab).mono ?_
  rintro e w11 ⟨rfl, b11⟩
  replace ha := ha.below b11
  replace hb := hb.below b11
  replace hc := hc.below b11
  replace b11 := b10.trans (b11.mono b10.size)
  clear htab b10
  go_wp2_with fail
  go_ret
  exact ⟨rfl, b11⟩

set_option maxRecDepth 100000 in
set_option maxHeartbeats 3200000 in
theorem natOrder_000 {aa ab ac : Option Addr} {la ca lb cb lc cc : Nat} {a b c : Int} {w : World} (ha : Nm w aa la ca a) (hb : Nm w ab lb cb b) (hc : Nm w ac lc cc c) (hla : la ≤ 1048576) (hlb : lb ≤ 1048576) (hlc : lc ≤ 1048576) (htab : Tab w) (hab : a < b) (hbc : b < c) (hz : 0 < c) :
    Calls Tryd.prog 8 #[.slice aa la ca, .slice ab lb cb, .slice ac lc cc] w fun e w' => e = .returned (.bool true) ∧ Below w.heap.size w w' := by
  go_enter Tryd.func8, Tryd.ntmps8
  go_wp2_with fail
  refine (cmp_lt ha hb (by omega)).mono ?_
  rintro e w1 ⟨rfl, b1⟩
  replace ha := ha.below b1
  replace hb := hb.below b1
  replace hc := hc.below b1
  replace htab := htab.below b1
  go_wp2_with fail
  refine (cmp_gt hb ha (by omega)).mono ?_
  rintro e w2 ⟨rfl, b2⟩
  replace ha := ha.below b2
  replace hb := hb.below b2
  replace hc := hc.below b2
  replace htab := htab.below b2
  replace b2 := b1.trans (b2.mono b1.size)
  clear b1
  go_wp2_with fail
  refine (cmp_0 ha ha (rfl)).mono ?_
  rintro e w3 ⟨rfl, b3⟩
  replace ha := ha.below b3
  replace hb := hb.below b3
  replace hc := hc.below b3
  replace htab := htab.below b3
  replace b3 := b2.trans (b3.mono b2.size)
  clear b2
  go_wp2_with fail
  refine (cmp_lt hb hc (by omega)).mono ?_
  rintro e w4 ⟨rfl, b4⟩
  replace ha := ha.below b4
  replace hb := hb.below b4
  replace hc := hc.below b4
  replace htab := htab.below b4
  replace b4 := b3.trans (b4.mono b3.size)
  clear b3
  go_wp2_with fail
  refine (cmp_lt ha hc (by omega)).mono ?_
  rintro e w5 ⟨rfl, b5⟩
  replace ha := ha.below b5
  replace hb := hb.below b5
  replace hc := hc.below b5
  replace htab := htab.below b5
  replace b5 := b4.trans (b5.mono b4.size)
  clear b4
  go_wp2_with fail
  refine (add_n ha hc (by omega) (by omega)).mono ?_
  rintro e w6 ⟨aS, lS, cS, rfl, S, b6, kS⟩
  replace ha := ha.below b6
  replace hb := hb.below b6
  replace hc := hc.below b6
  replace htab := htab.below b6
  replace b6 := b5.trans (b6.mono b5.size)
  clear b5
  go_wp2_with fail
  refine (add_n hb hc (by omega) (by omega)).mono ?_
  rintro e w7 ⟨aT, lT, cT, rfl, T, b7, kT⟩
  replace ha := ha.below b7
  replace hb := hb.below b7
  replace hc := hc.below b7
  replace htab := htab.below b7
  replace S := S.below b7
  replace b7 := b6.trans (b7.mono b6.size)
  clear b6
  go_wp2_with fail
  refine (cmp_lt S.nm T.nm (by omega)).mono ?_
  rintro e w8 ⟨rfl, b8⟩
  replace ha := ha.below b8
  replace hb := hb.below b8
  replace hc := hc.below b8
  replace htab := htab.below b8
  replace b8 := b7.trans (b8.mono b7.size)
  clear S T b7
  go_wp2_with fail
  refine (bits_pos hc (by omega) (by omega)).mono ?_
  rintro e w9 ⟨kb, rfl, hkb, b9⟩
  replace ha := ha.below b9
  replace hb := hb.below b9
  replace hc := hc.below b9
  replace htab := htab.below b9
  replace b9 := b8.trans (b9.mono b8.size)
  clear b8
  go_wp2_with fail
  refine (mul_n ha hc (by omega) (by omega)).mono ?_
  rintro e w10 ⟨aP, lP, cP, rfl, P, b10, kP⟩
  replace ha := ha.below b10
  replace hb := hb.below b10
  replace hc := hc.below b10
  replace htab := htab.below b10
  replace b10 := b9.trans (b10.mono b9.size)
  clear b9
  go_wp2_with fail
  refine (mul_n hb hc (by omega) (by omega)).mono ?_
  rintro e w11 ⟨aQ, lQ, cQ, rfl, Q, b11, kQ⟩
  replace ha := ha.below b11
  replace hb := hb.below b11
  replace hc := hc.below b11
  replace htab := htab.below b11
  replace P := P.below b11
  replace b11 := b10.trans (b11.mono b10.size)
  clear b10
  go_wp2_with fail
  refine (cmp_lt P.nm Q.nm (Int.mul_lt_mul_of_pos_right hab hz)).mono ?_
  rintro e w12 ⟨rfl, b12⟩
  replace ha := ha.below b12
  replace hb := hb.below b12
  replace hc := hc.below b12
  replace htab := htab.below b12
  replace b12 := b11.trans (b12.mono b11.size)
  clear P Q b11
  go_wp2_with fail
  refine (sub_n_neg ha hb (by omega)).mono ?_
  rintro e w13 ⟨rfl, b13⟩
  replace ha := ha.below b13
  replace hb := hb.below b13
  replace hc := hc.below b13
  replace htab := htab.below b13
  replace b13 := b12.trans (b13.mono b12.size)
  clear b12
  go_wp2_with fail
  refine (known_any w13 htab).mono ?_
  rintro e w14 ⟨rfl, b14⟩
  replace ha := ha.below b14
  replace hb := hb.below b14
  replace hc := hc.below b14
  replace b14 := b13.trans (b14.mono b13.size)
  clear htab b13
  go_wp2_with fail
  go_ret
  exact ⟨rfl, b14⟩

set_option maxRecDepth 100000 in
set_option maxHeartbeats 3200000 in
theorem natOrder_011 {aa ab ac : Option Addr} {la ca lb cb lc cc : Nat} {a b c : Int} {w : World} (ha : Nm w aa la ca a) (hb : Nm w ab lb cb b) (hc : Nm w ac lc cc c) (hla : la ≤ 1048576) (hlb : lb ≤ 1048576) (hlc : lc ≤ 1048576) (htab : Tab w) (hab : a < b) (hbc : b = c) (hz : c = 0) :
    Calls Tryd.prog 8 #[.slice aa la ca, .slice ab lb cb, .slice ac lc cc] w fun e w' => e = .returned (.bool true) ∧ Below w.heap.size w w' := by
  go_enter Tryd.func8, Tryd.ntmps8
  go_wp2_with fail
  refine (cmp_lt ha hb (by omega)).mono ?_
  rintro e w1 ⟨rfl, b1⟩
  replace ha := ha.below b1
  replace hb := hb.below b1
  replace hc := hc.below b1
  replace htab := htab.below b1
  go_wp2_with fail
  refine (cmp_gt hb ha (by omega)).mono ?_
  rintro e w2 ⟨rfl, b2⟩
  replace ha := ha.below b2
  replace hb := hb.below b2
  replace hc := hc.below b2
  replace htab := htab.below b2
  replace b2 := b1.trans (b2.mono b1.size)
  clear b1
  go_wp2_with fail
  refine (cmp_0 ha ha (rfl)).mono ?_
  rintro e w3 ⟨rfl, b3⟩
  replace ha := ha.below b3
  replace hb := hb.below b3
  replace hc := hc.below b3
  replace htab := htab.below b3
  replace b3 := b2.trans (b3.mono b2.size)
  clear b2
  go_wp2_with fail
  refine (cmp_0 hb hc (by omega)).mono ?_
  rintro e w4 ⟨rfl, b4⟩
  replace ha := ha.below b4
  replace hb := hb.below b4
  replace hc := hc.below b4
  replace htab := htab.below b4
  replace b4 := b3.trans (b4.mono b3.size)
  clear b3
  go_wp2_with fail
  refine (cmp_lt ha hc (by omega)).mono ?_
  rintro e w5 ⟨rfl, b5⟩
  replace ha := ha.below b5
  replace hb := hb.below b5
  replace hc := hc.below b5
  replace htab := htab.below b5
  replace b5 := b4.trans (b5.mono b4.size)
  clear b4
  go_wp2_with fail
  refine (add_n ha hc (by omega) (by omega)).mono ?_
  rintro e w6 ⟨aS, lS, cS, rfl, S, b6, kS⟩
  replace ha := ha.below b6
  replace hb := hb.below b6
  replace hc := hc.below b6
  replace htab := htab.below b6
  replace b6 := b5.trans (b6.mono b5.size)
  clear b5
  go_wp2_with fail
  refine (add_n hb hc (by omega) (by omega)).mono ?_
  rintro e w7 ⟨aT, lT, cT, rfl, T, b7, kT⟩
  replace ha := ha.below b7
  replace hb := hb.below b7
  replace hc := hc.below b7
  replace htab := htab.below b7
  replace S := S.below b7
  replace b7 := b6.trans (b7.mono b6.size)
  clear b6
  go_wp2_with fail
  refine (cmp_lt S.nm T.nm (by omega)).mono ?_
  rintro e w8 ⟨rfl, b8⟩
  replace ha := ha.below b8
  replace hb := hb.below b8
  replace hc := hc.below b8
  replace htab := htab.below b8
  replace b8 := b7.trans (b8.mono b7.size)
  clear S T b7
  go_wp2_with fail
  refine (bits_0 hc (by omega) hz).mono ?_
  rintro e w9 ⟨rfl, b9⟩
  replace ha := ha.below b9
  replace hb := hb.below b9
  replace hc := hc.below b9
  replace htab := htab.below b9
  replace b9 := b8.trans (b9.mono b8.size)
  clear b8
  go_wp2_with fail
  refine (sub_n_neg ha hb (by omega)).mono ?_
  rintro e w10 ⟨rfl, b10⟩
  replace ha := ha.below b10
  replace hb := hb.below b10
  replace hc := hc.below b10
  replace htab := htab.below b10
  replace b10 := b9.trans (b10.mono b9.size)
  clear b9
  go_wp2_with fail
  refine (known_any w10 htab).mono ?_
  rintro e w11 ⟨rfl, b11⟩
  replace ha := ha.below b11
  replace hb := hb.below b11
  replace hc := hc.below b11
  replace b11 := b10.trans (b11.mono b10.size)
  clear htab b10
  go_wp2_with fail
  go_ret
  exact ⟨rfl, b11⟩

set_option maxRecDepth 100000 in
set_option maxHeartbeats 3200000 in
theorem natOrder_010 {aa ab ac : Option Addr} {la ca lb cb lc cc : Nat} {a b c : Int} {w : World} (ha : Nm w aa la ca a) (hb : Nm w ab lb cb b) (hc : Nm w ac lc cc c) (hla : la ≤ 1048576) (hlb : lb ≤ 1048576) (hlc : lc ≤ 1048576) (htab : Tab w) (hab : a < b) (hbc : b = c) (hz : 0 < c) :
    Calls Tryd.prog 8 #[.slice aa la ca, .slice ab lb cb, .slice ac lc cc] w fun e w' => e = .returned (.bool true) ∧ Below w.heap.size w w' := by
  go_enter Tryd.func8, Tryd.ntmps8
  go_wp2_with fail
  refine (cmp_lt ha hb (by omega)).mono ?_
  rintro e w1 ⟨rfl, b1⟩
  replace ha := ha.below b1
  replace hb := hb.below b1
  replace hc := hc.below b1
  replace htab := htab.below b1
  go_wp2_with fail
  refine (cmp_gt hb ha (by omega)).mono ?_
  rintro e w2 ⟨rfl, b2⟩
  replace ha := ha.below b2
  replace hb := hb.below b2
  replace hc := hc.below b2
  replace htab := htab.below b2
  replace b2 := b1.trans (b2.mono b1.size)
  clear b1
  go_wp2_with fail
  refine (cmp_0 ha ha (rfl)).mono ?_
  rintro e w3 ⟨rfl, b3⟩
  replace ha := ha.below b3
  replace hb := hb.below b3
  replace hc := hc.below b3
  replace htab := htab.below b3
  replace b3 := b2.trans (b3.mono b2.size)
  clear b2
  go_wp2_with fail
  refine (cmp_0 hb hc (by omega)).mono ?_
  rintro e w4 ⟨rfl, b4⟩
  replace ha := ha.below b4
  replace hb := hb.below b4
  replace hc := hc.below b4
  replace htab := htab.below b4
  replace b4 := b3.trans (b4.mono b3.size)
  clear b3
  go_wp2_with fail
  refine (cmp_lt ha hc (by omega)).mono ?_
  rintro e w5 ⟨rfl, b5⟩
  replace ha := ha.below b5
  replace hb := hb.below b5
  replace hc := hc.below b5
  replace htab := htab.below b5
  replace b5 := b4.trans (b5.mono b4.size)
  clear b4
  go_wp2_with fail
  refine (add_n ha hc (by omega) (by omega)).mono ?_
  rintro e w6 ⟨aS, lS, cS, rfl, S, b6, kS⟩
  replace ha := ha.below b6
  replace hb := hb.below b6
  replace hc := hc.below b6
  replace htab := htab.below b6
  replace b6 := b5.trans (b6.mono b5.size)
  clear b5
  go_wp2_with fail
  refine (add_n hb hc (by omega) (by omega)).mono ?_
  rintro e w7 ⟨aT, lT, cT, rfl, T, b7, kT⟩
  replace ha := ha.below b7
  replace hb := hb.below b7
  replace hc := hc.below b7
  replace htab := htab.below b7
  replace S := S.below b7
  replace b7 := b6.trans (b7.mono b6.size)
  clear b6
  go_wp2_with fail
  refine (cmp_lt S.nm T.nm (by omega)).mono ?_
  rintro e w8 ⟨rfl, b8⟩
  replace ha := ha.below b8
  replace hb := hb.below b8
  replace hc := hc.below b8
  replace htab := htab.below b8
  replace b8 := b7.trans (b8.mono b7.size)
  clear S T b7
  go_wp2_with fail
  refine (bits_pos hc (by omega) (by omega)).mono ?_
  rintro e w9 ⟨kb, rfl, hkb, b9⟩
  replace ha := ha.below b9
  replace hb := hb.below b9
  replace hc := hc.below b9
  replace htab := htab.below b9
  replace b9 := b8.trans (b9.mono b8.size)
  clear b8
  go_wp2_with fail
  refine (mul_n ha hc (by omega) (by omega)).mono ?_
  rintro e w10 ⟨aP, lP, cP, rfl, P, b10, kP⟩
  replace ha := ha.below b10
  replace hb := hb.below b10
  replace hc := hc.below b10
  replace htab := htab.below b10
  replace b10 := b9.trans (b10.mono b9.size)
  clear b9
  go_wp2_with fail
  refine (mul_n hb hc (by omega) (by omega)).mono ?_
  rintro e w11 ⟨aQ, lQ, cQ, rfl, Q, b11, kQ⟩
  replace ha := ha.below b11
  replace hb := hb.below b11
  replace hc := hc.below b11
  replace htab := htab.below b11
  replace P := P.below b11
  replace b11 := b10.trans (b11.mono b10.size)
  clear b10
  go_wp2_with fail
  refine (cmp_lt P.nm Q.nm (Int.mul_lt_mul_of_pos_right hab hz)).mono ?_
  rintro e w12 ⟨rfl, b12⟩
  replace ha := ha.below b12
  replace hb := hb.below b12
  replace hc := hc.below b12
  replace htab := htab.below b12
  replace b12 := b11.trans (b12.mono b11.size)
  clear P Q b11
  go_wp2_with fail
  refine (sub_n_neg ha hb (by omega)).mono ?_
  rintro e w13 ⟨rfl, b13⟩
  replace ha := ha.below b13
  replace hb := hb.below b13
  replace hc := hc.below b13
  replace htab := htab.below b13
  replace b13 := b12.trans (b13.mono b12.size)
  clear b12
  go_wp2_with fail
  refine (known_any w13 htab).mono ?_
  rintro e w14 ⟨rfl, b14⟩
  replace ha := ha.below b14
  replace hb := hb.below b14
  replace hc := hc.below b14
  replace b14 := b13.trans (b14.mono b13.size)
  clear htab b13
  go_wp2_with fail
  go_ret
  exact ⟨rfl, b14⟩

set_option maxRecDepth 100000 in
set_option maxHeartbeats 3200000 in
theorem natOrder_021 {aa ab ac : Option Addr} {la ca lb cb lc cc : Nat} {a b c : Int} {w : World} (ha : Nm w aa la ca a) (hb : Nm w ab lb cb b) (hc : Nm w ac lc cc c) (hla : la ≤ 1048576) (hlb : lb ≤ 1048576) (hlc : lc ≤ 1048576) (htab : Tab w) (hab : a < b) (hbc : c < b) (hz : c = 0) :
    Calls Tryd.prog 8 #[.slice aa la ca, .slice ab lb cb, .slice ac lc cc] w fun e w' => e = .returned (.bool true) ∧ Below w.heap.size w w' := by
  go_enter Tryd.func8, Tryd.ntmps8
  go_wp2_with fail
  refine (cmp_lt ha hb (by omega)).mono ?_
  rintro e w1 ⟨rfl, b1⟩
  replace ha := ha.below b1
  replace hb := hb.below b1
  replace hc := hc.below b1
  replace htab := htab.below b1
  go_wp2_with fail
  refine (cmp_gt hb ha (by omega)).mono ?_
  rintro e w2 ⟨rfl, b2⟩
  replace ha := ha.below b2
  replace hb := hb.below b2
  replace hc := hc.below b2
  replace htab := htab.below b2
  replace b2 := b1.trans (b2.mono b1.size)
  clear b1
  go_wp2_with fail
  refine (cmp_0 ha ha (rfl)).mono ?_
  rintro e w3 ⟨rfl, b3⟩
  replace ha := ha.below b3
  replace hb := hb.below b3
  replace hc := hc.below b3
  replace htab := htab.below b3
  replace b3 := b2.trans (b3.mono b2.size)
  clear b2
  go_wp2_with fail
  refine (cmp_gt hb hc (by omega)).mono ?_
  rintro e w4 ⟨rfl, b4⟩
  replace ha := ha.below b4
  replace hb := hb.below b4
  replace hc := hc.below b4
  replace htab := htab.below b4
  replace b4 := b3.trans (b4.mono b3.size)
  clear b3
  go_wp2_with fail
  refine (add_n ha hc (by omega) (by omega)).mono ?_
  rintro e w5 ⟨aS, lS, cS, rfl, S, b5, kS⟩
  replace ha := ha.below b5
  replace hb := hb.below b5
  replace hc := hc.below b5
  replace htab := htab.below b5
  replace b5 := b4.trans (b5.mono b4.size)
  clear b4
  go_wp2_with fail
  refine (add_n hb hc (by omega) (by omega)).mono ?_
  rintro e w6 ⟨aT, lT, cT, rfl, T, b6, kT⟩
  replace ha := ha.below b6
  replace hb := hb.below b6
  replace hc := hc.below b6
  replace htab := htab.below b6
  replace S := S.below b6
  replace b6 := b5.trans (b6.mono b5.size)
  clear b5
  go_wp2_with fail
  refine (cmp_lt S.nm T.nm (by omega)).mono ?_
  rintro e w7 ⟨rfl, b7⟩
  replace ha := ha.below b7
  replace hb := hb.below b7
  replace hc := hc.below b7
  replace htab := htab.below b7
  replace b7 := b6.trans (b7.mono b6.size)
  clear S T b6
  go_wp2_with fail
  refine (bits_0 hc (by omega) hz).mono ?_
  rintro e w8 ⟨rfl, b8⟩
  replace ha := ha.below b8
  replace hb := hb.below b8
  replace hc := hc.below b8
  replace htab := htab.below b8
  replace b8 := b7.trans (b8.mono b7.size)
  clear b7
  go_wp2_with fail
  refine (sub_n_neg ha hb (by omega)).mono ?_
  rintro e w9 ⟨rfl, b9⟩
  replace ha := ha.below b9
  replace hb := hb.below b9
  replace hc := hc.below b9
  replace htab := htab.below b9
  replace b9 := b8.trans (b9.mono b8.size)
  clear b8
  go_wp2_with fail
  refine (known_any w9 htab).mono ?_
  rintro e w10 ⟨rfl, b10⟩
  replace ha := ha.below b10
  replace hb := hb.below b10
  replace hc := hc.below b10
  replace b10 := b9.trans (b10.mono b9.size)
  clear htab b9
  go_wp2_with fail
  go_ret
  exact ⟨rfl, b10⟩

set_option maxRecDepth 100000 in
set_option maxHeartbeats 3200000 in
theorem natOrder_020 {aa ab ac : Option Addr} {la ca lb cb lc cc : Nat} {a b c : Int} {w : World} (ha : Nm w aa la ca a) (hb : Nm w ab lb cb b) (hc : Nm w ac lc cc c) (hla : la ≤ 1048576) (hlb : lb ≤ 1048576) (hlc : lc ≤ 1048576) (htab : Tab w) (hab : a < b) (hbc : c < b) (hz : 0 < c) :
    Calls Tryd.prog 8 #[.slice aa la ca, .slice ab lb cb, .slice ac lc cc] w fun e w' => e = .returned (.bool true) ∧ Below w.heap.size w w' := by
  go_enter Tryd.func8, Tryd.ntmps8
  go_wp2_with fail
  refine (cmp_lt ha hb (by omega)).mono ?_
  rintro e w1 ⟨rfl, b1⟩
  replace ha := ha.below b1
  replace hb := hb.below b1
  replace hc := hc.below b1
  replace htab := htab.below b1
  go_wp2_with fail
  refine (cmp_gt hb ha (by omega)).mono ?_
  rintro e w2 ⟨rfl, b2⟩
  replace ha := ha.below b2
  replace hb := hb.below b2
  replace hc := hc.below b2
  replace htab := htab.below b2
  replace b2 := b1.trans (b2.mono b1.size)
  clear b1
  go_wp2_with fail
  refine (cmp_0 ha ha (rfl)).mono ?_
  rintro e w3 ⟨rfl, b3⟩
  replace ha := ha.below b3
  replace hb := hb.below b3
  replace hc := hc.below b3
  replace htab := htab.below b3
  replace b3 := b2.trans (b3.mono b2.size)
  clear b2
  go_wp2_with fail
  refine (cmp_gt hb hc (by omega)).mono ?_
  rintro e w4 ⟨rfl, b4⟩
  replace ha := ha.below b4
  replace hb := hb.below b4
  replace hc := hc.below b4
  replace htab := htab.below b4
  replace b4 := b3.trans (b4.mono b3.size)
  clear b3
  go_wp2_with fail
  refine (add_n ha hc (by omega) (by omega)).mono ?_
  rintro e w5 ⟨aS, lS, cS, rfl, S, b5, kS⟩
  replace ha := ha.below b5
  replace hb := hb.below b5
  replace hc := hc.below b5
  replace htab := htab.below b5
  replace b5 := b4.trans (b5.mono b4.size)
  clear b4
  go_wp2_with fail
  refine (add_n hb hc (by omega) (by omega)).mono ?_
  rintro e w6 ⟨aT, lT, cT, rfl, T, b6, kT⟩
  replace ha := ha.below b6
  replace hb := hb.below b6
  replace hc := hc.below b6
  replace htab := htab.below b6
  replace S := S.below b6
  replace b6 := b5.trans (b6.mono b5.size)
  clear b5
  go_wp2_with fail
  refine (cmp_lt S.nm T.nm (by omega)).mono ?_
  rintro e w7 ⟨rfl, b7⟩
  replace ha := ha.below b7
  replace hb := hb.below b7
  replace hc := hc.below b7
  replace htab := htab.below b7
  replace b7 := b6.trans (b7.mono b6.size)
  clear S T b6
  go_wp2_with fail
  refine (bits_pos hc (by omega) (by omega)).mono ?_
  rintro e w8 ⟨kb, rfl, hkb, b8⟩
  replace ha := ha.below b8
  replace hb := hb.below b8
  replace hc := hc.below b8
  replace htab := htab.below b8
  replace b8 := b7.trans (b8.mono b7.size)
  clear b7
  go_wp2_with fail
  refine (mul_n ha hc (by omega) (by omega)).mono ?_
  rintro e w9 ⟨aP, lP, cP, rfl, P, b9, kP⟩
  replace ha := ha.below b9
  replace hb := hb.below b9
  replace hc := hc.below b9
  replace htab := htab.below b9
  replace b9 := b8.trans (b9.mono b8.size)
  clear b8
  go_wp2_with fail
  refine (mul_n hb hc (by omega) (by omega)).mono ?_
  rintro e w10 ⟨aQ, lQ, cQ, rfl, Q, b10, kQ⟩
  replace ha := ha.below b10
  replace hb := hb.below b10
  replace hc := hc.below b10
  replace htab := htab.below b10
  replace P := P.below b10
  replace b10 := b9.trans (b10.mono b9.size)
  clear b9
  go_wp2_with fail
  refine (cmp_lt P.nm Q.nm (Int.mul_lt_mul_of_pos_right hab hz)).mono ?_
  rintro e w11 ⟨rfl, b11⟩
  replace ha := ha.below b11
  replace hb := hb.below b11
  replace hc := hc.below b11
  replace htab := htab.below b11
  replace b11 := b10.trans (b11.mono b10.size)
  clear P Q b10
  go_wp2_with fail
  refine (sub_n_neg ha hb (by omega)).mono ?_
  rintro e w12 ⟨rfl, b12⟩
  replace ha := ha.below b12
  replace hb := hb.below b12
  replace hc := hc.below b12
  replace htab := htab.below b12
  replace b12 := b11.trans (b12.mono b11.size)
  clear b11
  go_wp2_with fail
  refine (known_any w12 htab).mono ?_
  rintro e w13 ⟨rfl, b13⟩
  replace ha := ha.below b13
  replace hb := hb.below b13
  replace hc := hc.below b13
  replace b13 := b12.trans (b13.mono b12.size)
  clear htab b12
  go_wp2_with fail
  go_ret
  exact ⟨rfl, b13⟩

set_option maxRecDepth 100000 in
set_option maxHeartbeats 3200000 in
theorem natOrder_101 {aa ab ac : Option Addr} {la ca lb cb lc cc : Nat} {a b c : Int} {w : World} (ha : Nm w aa la ca a) (hb : Nm w ab lb cb b) (hc : Nm w ac lc cc c) (hla : la ≤ 1048576) (hlb : lb ≤ 1048576) (hlc : lc ≤ 1048576) (htab : Tab w) (hab : a = b) (hbc : b < c) (hz : c = 0) :
    Calls Tryd.prog 8 #[.slice aa la ca, .slice ab lb cb, .slice ac lc cc] w fun e w' => e = .returned (.bool true) ∧ Below w.heap.size w w' := by
  go_enter Tryd.func8, Tryd.ntmps8
  go_wp2_with fail
  refine (cmp_0 ha hb (by omega)).mono ?_
  rintro e w1 ⟨rfl, b1⟩
  replace ha := ha.below b1
  replace hb := hb.below b1
  replace hc := hc.below b1
  replace htab := htab.below b1
  go_wp2_with fail
  refine (cmp_0 hb ha (by omega)).mono ?_
  rintro e w2 ⟨rfl, b2⟩
  replace ha := ha.below b2
  replace hb := hb.below b2
  replace hc := hc.below b2
  replace htab := htab.below b2
  replace b2 := b1.trans (b2.mono b1.size)
  clear b1
  go_wp2_with fail
  refine (cmp_0 ha ha (rfl)).mono ?_
  rintro e w3 ⟨rfl, b3⟩
  replace ha := ha.below b3
  replace hb := hb.below b3
  replace hc := hc.below b3
  replace htab := htab.below b3
  replace b3 := b2.trans (b3.mono b2.size)
  clear b2
  go_wp2_with fail
  refine (cmp_lt hb hc (by omega)).mono ?_
  rintro e w4 ⟨rfl, b4⟩
  replace ha := ha.below b4
  replace hb := hb.below b4
  replace hc := hc.below b4
  replace htab := htab.below b4
  replace b4 := b3.trans (b4.mono b3.size)
  clear b3
  go_wp2_with fail
  refine (cmp_lt ha hc (by omega)).mono ?_
  rintro e w5 ⟨rfl, b5⟩
  replace ha := ha.below b5
  replace hb := hb.below b5
  replace hc := hc.below b5
  replace htab := htab.below b5
  replace b5 := b4.trans (b5.mono b4.size)
  clear b4
  go_wp2_with fail
  refine (add_n ha hc (by omega) (by omega)).mono ?_
  rintro e w6 ⟨aS, lS, cS, rfl, S, b6, kS⟩
  replace ha := ha.below b6
  replace hb := hb.below b6
  replace hc := hc.below b6
  replace htab := htab.below b6
  replace b6 := b5.trans (b6.mono b5.size)
  clear b5
  go_wp2_with fail
  refine (add_n hb hc (by omega) (by omega)).mono ?_
  rintro e w7 ⟨aT, lT, cT, rfl, T, b7, kT⟩
  replace ha := ha.below b7
  replace hb := hb.below b7
  replace hc := hc.below b7
  replace htab := htab.below b7
  replace S := S.below b7
  replace b7 := b6.trans (b7.mono b6.size)
  clear b6
  go_wp2_with fail
  refine (cmp_0 S.nm T.nm (by omega)).mono ?_
  rintro e w8 ⟨rfl, b8⟩
  replace ha := ha.below b8
  replace hb := hb.below b8
  replace hc := hc.below b8
  replace htab := htab.below b8
  replace b8 := b7.trans (b8.mono b7.size)
  clear S T b7
  go_wp2_with fail
  refine (bits_0 hc (by omega) hz).mono ?_
  rintro e w9 ⟨rfl, b9⟩
  replace ha := ha.below b9
  replace hb := hb.below b9
  replace hc := hc.below b9
  replace htab := htab.below b9
  replace b9 := b8.trans (b9.mono b8.size)
  clear b8
  go_wp2_with fail
  refine (sub_n ha hb (by omega) (by omega)).mono ?_
  rintro e w10 ⟨aD, lD, cD, rfl, D, b10, kD⟩
  replace ha := ha.below b10
  replace hb := hb.below b10
  replace hc := hc.below b10
  replace htab := htab.below b10
  replace b10 := b9.trans (b10.mono b9.size)
  clear b9
  go_wp2_with fail
  refine (known_any w10 htab).mono ?_
  rintro e w11 ⟨rfl, b11⟩
  replace ha := ha.below b11
  replace hb := hb.below b11
  replace hc := hc.below b11
  replace D := D.below b11
  replace b11 := b10.trans (b11.mono b10.size)
  clear htab b10
  go_wp2_with fail
  go_ret
  exact ⟨rfl, b11⟩

set_option maxRecDepth 100000 in
set_option maxHeartbeats 3200000 in
theorem natOrder_100 {aa ab ac : Option Addr} {la ca lb cb lc cc : Nat} {a b c : Int} {w : World} (ha : Nm w aa la ca a) (hb : Nm w ab lb cb b) (hc : Nm w ac lc cc c) (hla : la ≤ 1048576) (hlb : lb ≤ 1048576) (hlc : lc ≤ 1048576) (htab : Tab w) (hab : a = b) (hbc : b < c) (hz : 0 < c) :
    Calls Tryd.prog 8 #[.slice aa la ca, .slice ab lb cb, .slice ac lc cc] w fun e w' => e = .returned (.bool true) ∧ Below w.heap.size w w' := by
  go_enter Tryd.func8, Tryd.ntmps8
  go_wp2_with fail
  refine (cmp_0 ha hb (by omega)).mono ?_
  rintro e w1 ⟨rfl, b1⟩
  replace ha := ha.below b1
  replace hb := hb.below b1
  replace hc := hc.below b1
  replace htab := htab.below b1
  go_wp2_with fail
  refine (cmp_0 hb ha (by omega)).mono ?_
  rintro e w2 ⟨rfl, b2⟩
  replace ha := ha.below b2
  replace hb := hb.below b2
  replace hc := hc.below b2
  replace htab := htab.below b2
  replace b2 := b1.trans (b2.mono b1.size)
  clear b1
  go_wp2_with fail
  refine (cmp_0 ha ha (rfl)).mono ?_
  rintro e w3 ⟨rfl, b3⟩
  replace ha := ha.below b3
  replace hb := hb.below b3
  replace hc := hc.below b3
  replace htab := htab.below b3
  replace b3 := b2.trans (b3.mono b2.size)
  clear b2
  go_wp2_with fail
  refine (cmp_lt hb hc (by omega)).mono ?_
  rintro e w4 ⟨rfl, b4⟩
  replace ha := ha.below b4
  replace hb := hb.below b4
  replace hc := hc.below b4
  replace htab := htab.below b4
  replace b4 := b3.trans (b4.mono b3.size)
  clear b3
  go_wp2_with fail
  refine (cmp_lt ha hc (by omega)).mono ?_
  rintro e w5 ⟨rfl, b5⟩
  replace ha := ha.below b5
  replace hb := hb.below b5
  replace hc := hc.below b5
  replace htab := htab.below b5
  replace b5 := b4.trans (b5.mono b4.size)
  clear b4
  go_wp2_with fail
  refine (add_n ha hc (by omega) (by omega)).mono ?_
  rintro e w6 ⟨aS, lS, cS, rfl, S, b6, kS⟩
  replace ha := ha.below b6
  replace hb := hb.below b6
  replace hc := hc.below b6
  replace htab := htab.below b6
  replace b6 := b5.trans (b6.mono b5.size)
  clear b5
  go_wp2_with fail
  refine (add_n hb hc (by omega) (by omega)).mono ?_
  rintro e w7 ⟨aT, lT, cT, rfl, T, b7, kT⟩
  replace ha := ha.below b7
  replace hb := hb.below b7
  replace hc := hc.below b7
  replace htab := htab.below b7
  replace S := S.below b7
  replace b7 := b6.trans (b7.mono b6.size)
  clear b6
  go_wp2_with fail
  refine (cmp_0 S.nm T.nm (by omega)).mono ?_
  rintro e w8 ⟨rfl, b8⟩
  replace ha := ha.below b8
  replace hb := hb.below b8
  replace hc := hc.below b8
  replace htab := htab.below b8
  replace b8 := b7.trans (b8.mono b7.size)
  clear S T b7
  go_wp2_with fail
  refine (bits_pos hc (by omega) (by omega)).mono ?_
  rintro e w9 ⟨kb, rfl, hkb, b9⟩
  replace ha := ha.below b9
  replace hb := hb.below b9
  replace hc := hc.below b9
  replace htab := htab.below b9
  replace b9 := b8.trans (b9.mono b8.size)
  clear b8
  go_wp2_with fail
  refine (mul_n ha hc (by omega) (by omega)).mono ?_
  rintro e w10 ⟨aP, lP, cP, rfl, P, b10, kP⟩
  replace ha := ha.below b10
  replace hb := hb.below b10
  replace hc := hc.below b10
  replace htab := htab.below b10
  replace b10 := b9.trans (b10.mono b9.size)
  clear b9
  go_wp2_with fail
  refine (mul_n hb hc (by omega) (by omega)).mono ?_
  rintro e w11 ⟨aQ, lQ, cQ, rfl, Q, b11, kQ⟩
  replace ha := ha.below b11
  replace hb := hb.below b11
  replace hc := hc.below b11
  replace htab := htab.below b11
  replace P := P.below b11
  replace b11 := b10.trans (b11.mono b10.size)
  clear b10
  go_wp2_with fail
  refine (cmp_0 P.nm Q.nm (by rw [hab])).mono ?_
  rintro e w12 ⟨rfl, b12⟩
  replace ha := ha.below b12
  replace hb := hb.below b12
  replace hc := hc.below b12
  replace htab := htab.below b12
  replace b12 := b11.trans (b12.mono b11.size)
  clear P Q b11
  go_wp2_with fail
  refine (sub_n ha hb (by omega) (by omega)).mono ?_
  rintro e w13 ⟨aD, lD, cD, rfl, D, b13, kD⟩
  replace ha := ha.below b13
  replace hb := hb.below b13
  replace hc := hc.below b13
  replace htab := htab.below b13
  replace b13 := b12.trans (b13.mono b12.size)
  clear b12
  go_wp2_with fail
  refine (known_any w13 htab).mono ?_
  rintro e w14 ⟨rfl, b14⟩
  replace ha := ha.below b14
  replace hb := hb.below b14
  replace hc := hc.below b14
  replace D := D.below b14
  replace b14 := b13.trans (b14.mono b13.size)
  clear htab b13
  go_wp2_with fail
  go_ret
  exact ⟨rfl, b14⟩

set_option maxRecDepth 100000 in
set_option maxHeartbeats 3200000 in
theorem natOrder_111 {aa ab ac : Option Addr} {la ca lb cb lc cc : Nat} {a b c : Int} {w : World} (ha : Nm w aa la ca a) (hb : Nm w ab lb cb b) (hc : Nm w ac lc cc c) (hla : la ≤ 1048576) (hlb : lb ≤ 1048576) (hlc : lc ≤ 1048576) (htab : Tab w) (hab : a = b) (hbc : b = c) (hz : c = 0) :
    Calls Tryd.prog 8 #[.slice aa la ca, .slice ab lb cb, .slice ac lc cc] w fun e w' => e = .returned (.bool true) ∧ Below w.heap.size w w' := by
  go_enter Tryd.func8, Tryd.ntmps8
  go_wp2_with fail
  refine (cmp_0 ha hb (by omega)).mono ?_
  rintro e w1 ⟨rfl, b1⟩
  replace ha := ha.below b1
  replace hb := hb.below b1
  replace hc := hc.below b1
  replace htab := htab.below b1
  go_wp2_with fail
  refine (cmp_0 hb ha (by omega)).mono ?_
  rintro e w2 ⟨rfl, b2⟩
  replace ha := ha.below b2
  replace hb := hb.below b2
  replace hc := hc.below b2
  replace htab := htab.below b2
  replace b2 := b1.trans (b2.mono b1.size)
  clear b1
  go_wp2_with fail
  refine (cmp_0 ha ha (rfl)).mono ?_
  rintro e w3 ⟨rfl, b3⟩
  replace ha := ha.below b3
  replace hb := hb.below b3
  replace hc := hc.below b3
  replace htab := htab.below b3
  replace b3 := b2.trans (b3.mono b2.size)
  clear b2
  go_wp2_with fail
  refine (cmp_0 hb hc (by omega)).mono ?_
  rintro e w4 ⟨rfl, b4⟩
  replace ha := ha.below b4
  replace hb := hb.below b4
  replace hc := hc.below b4
  replace htab := htab.below b4
  replace b4 := b3.trans (b4.mono b3.size)
  clear b3
  go_wp2_with fail
  refine (cmp_0 ha hc (by omega)).mono ?_
  rintro e w5 ⟨rfl, b5⟩
  replace ha := ha.below b5
  replace hb := hb.below b5
  replace hc := hc.below b5
  replace htab := htab.below b5
  replace b5 := b4.trans (b5.mono b4.size)
  clear b4
  go_wp2_with fail
  refine (add_n ha hc (by omega) (by omega)).mono ?_
  rintro e w6 ⟨aS, lS, cS, rfl, S, b6, kS⟩
  replace ha := ha.below b6
  replace hb := hb.below b6
  replace hc := hc.below b6
  replace htab := htab.below b6
  replace b6 := b5.trans (b6.mono b5.size)
  clear b5
  go_wp2_with fail
  refine (add_n hb hc (by omega) (by omega)).mono ?_
  rintro e w7 ⟨aT, lT, cT, rfl, T, b7, kT⟩
  replace ha := ha.below b7
  replace hb := hb.below b7
  replace hc := hc.below b7
  replace htab := htab.below b7
  replace S := S.below b7
  replace b7 := b6.trans (b7.mono b6.size)
  clear b6
  go_wp2_with fail
  refine (cmp_0 S.nm T.nm (by omega)).mono ?_
  rintro e w8 ⟨rfl, b8⟩
  replace ha := ha.below b8
  replace hb := hb.below b8
  replace hc := hc.below b8
  replace htab := htab.below b8
  replace b8 := b7.trans (b8.mono b7.size)
  clear S T b7
  go_wp2_with fail
  refine (bits_0 hc (by omega) hz).mono ?_
  rintro e w9 ⟨rfl, b9⟩
  replace ha := ha.below b9
  replace hb := hb.below b9
  replace hc := hc.below b9
  replace htab := htab.below b9
  replace b9 := b8.trans (b9.mono b8.size)
  clear b8
  go_wp2_with fail
  refine (sub_n ha hb (by omega) (by omega)).mono ?_
  rintro e w10 ⟨aD, lD, cD, rfl, D, b10, kD⟩
  replace ha := ha.below b10
  replace hb := hb.below b10
  replace hc := hc.below b10
  replace htab := htab.below b10
  replace b10 := b9.trans (b10.mono b9.size)
  clear b9
  go_wp2_with fail
  refine (known_any w10 htab).mono ?_
  rintro e w11 ⟨rfl, b11⟩
  replace ha := ha.below b11
  replace hb := hb.below b11
  replace hc := hc.below b11
  replace D := D.below b11
  replace b11 := b10.trans (b11.mono b10.size)
  clear htab b10
  go_wp2_with fail
  go_ret
  exact ⟨rfl, b11⟩

set_option maxRecDepth 100000 in
set_option maxHeartbeats 3200000 in
theorem natOrder_110 {aa ab ac : Option Addr} {la ca lb cb lc cc : Nat} {a b c : Int} {w : World} (ha : Nm w aa la ca a) (hb : Nm w ab lb cb b) (hc : Nm w ac lc cc c) (hla : la ≤ 1048576) (hlb : lb ≤ 1048576) (hlc : lc ≤ 1048576) (htab : Tab w) (hab : a = b) (hbc : b = c) (hz : 0 < c) :
    Calls Tryd.prog 8 #[.slice aa la ca, .slice ab lb cb, .slice ac lc cc] w fun e w' => e = .returned (.bool true) ∧ Below w.heap.size w w' := by
  go_enter Tryd.func8, Tryd.ntmps8
  go_wp2_with fail
  refine (cmp_0 ha hb (by omega)).mono ?_
  rintro e w1 ⟨rfl, b1⟩
  replace ha := ha.below b1
  replace hb := hb.below b1
  replace hc := hc.below b1
  replace htab := htab.below b1
  go_wp2_with fail
  refine (cmp_0 hb ha (by omega)).mono ?_
  rintro e w2 ⟨rfl, b2⟩
  replace ha := ha.below b2
  replace hb := hb.below b2
  replace hc := hc.below b2
  replace htab := htab.below b2
  replace b2 := b1.trans (b2.mono b1.size)
  clear b1
  go_wp2_with fail
  refine (cmp_0 ha ha (rfl)).mono ?_
  rintro e w3 ⟨rfl, b3⟩
  replace ha := ha.below b3
  replace hb := hb.below b3
  replace hc := hc.below b3
  replace htab := htab.below b3
  replace b3 := b2.trans (b3.mono b2.size)
  clear b2
  go_wp2_with fail
  refine (cmp_0 hb hc (by omega)).mono ?_
  rintro e w4 ⟨rfl, b4⟩
  replace ha := ha.below b4
  replace hb := hb.below b4
  replace hc := hc.below b4
  replace htab := htab.below b4
  replace b4 := b3.trans (b4.mono b3.size)
  clear b3
  go_wp2_with fail
  refine (cmp_0 ha hc (by omega)).mono ?_
  rintro e w5 ⟨rfl, b5⟩
  replace ha := ha.below b5
  replace hb := hb.below b5
  replace hc := hc.below b5
  replace htab := htab.below b5
  replace b5 := b4.trans (b5.mono b4.size)
  clear b4
  go_wp2_with fail
  refine (add_n ha hc (by omega) (by omega)).mono ?_
  rintro e w6 ⟨aS, lS, cS, rfl, S, b6, kS⟩
  replace ha := ha.below b6
  replace hb := hb.below b6
  replace hc := hc.below b6
  replace htab := htab.below b6
  replace b6 := b5.trans (b6.mono b5.size)
  clear b5
  go_wp2_with fail
  refine (add_n hb hc (by omega) (by omega)).mono ?_
  rintro e w7 ⟨aT, lT, cT, rfl, T, b7, kT⟩
  replace ha := ha.below b7
  replace hb := hb.below b7
  replace hc := hc.below b7
  replace htab := htab.below b7
  replace S := S.below b7
  replace b7 := b6.trans (b7.mono b6.size)
  clear b6
  go_wp2_with fail
  refine (cmp_0 S.nm T.nm (by omega)).mono ?_
  rintro e w8 ⟨rfl, b8⟩
  replace ha := ha.below b8
  replace hb := hb.below b8
  replace hc := hc.below b8
  replace htab := htab.below b8
  replace b8 := b7.trans (b8.mono b7.size)
  clear S T b7
  go_wp2_with fail
  refine (bits_pos hc (by omega) (by omega)).mono ?_
  rintro e w9 ⟨kb, rfl, hkb, b9⟩
  replace ha := ha.below b9
  replace hb := hb.below b9
  replace hc := hc.below b9
  replace htab := htab.below b9
  replace b9 := b8.trans (b9.mono b8.size)
  clear b8
  go_wp2_with fail
  refine (mul_n ha hc (by omega) (by omega)).mono ?_
  rintro e w10 ⟨aP, lP, cP, rfl, P, b10, kP⟩
  replace ha := ha.below b10
  replace hb := hb.below b10
  replace hc := hc.below b10
  replace htab := htab.below b10
  replace b10 := b9.trans (b10.mono b9.size)
  clear b9
  go_wp2_with fail
  refine (mul_n hb hc (by omega) (by omega)).mono ?_
  rintro e w11 ⟨aQ, lQ, cQ, rfl, Q, b11, kQ⟩
  replace ha := ha.below b11
  replace hb := hb.below b11
  replace hc := hc.below b11
  replace htab := htab.below b11
  replace P := P.below b11
  replace b11 := b10.trans (b11.mono b10.size)
  clear b10
  go_wp2_with fail
  refine (cmp_0 P.nm Q.nm (by rw [hab])).mono ?_
  rintro e w12 ⟨rfl, b12⟩
  replace ha := ha.below b12
  replace hb := hb.below b12
  replace hc := hc.below b12
  replace htab := htab.below b12
  replace b12 := b11.trans (b12.mono b11.size)
  clear P Q b11
  go_wp2_with fail
  refine (sub_n ha hb (by omega) (by omega)).mono ?_
  rintro e w13 ⟨aD, lD, cD, rfl, D, b13, kD⟩
  replace ha := ha.below b13
  replace hb := hb.below b13
  replace hc := hc.below b13
  replace htab := htab.below b13
  replace b13 := b12.trans (b13.mono b12.size)
  clear b12
  go_wp2_with fail
  refine (known_any w13 htab).mono ?_
  rintro e w14 ⟨rfl, b14⟩
  replace ha := ha.below b14
  replace hb := hb.below b14
  replace hc := hc.below b14
  replace D := D.below b14
  replace b14 := b13.trans (b14.mono b13.size)
  clear htab b13
  go_wp2_with fail
  go_ret
  exact ⟨rfl, b14⟩

set_option maxRecDepth 100000 in
set_option maxHeartbeats 3200000 in
theorem natOrder_121 {aa ab ac : Option Addr} {la ca lb cb lc cc : Nat} {a b c : Int} {w : World} (ha : Nm w aa la ca a) (hb : Nm w ab lb cb b) (hc : Nm w ac lc cc c) (hla : la ≤ 1048576) (hlb : lb ≤ 1048576) (hlc : lc ≤ 1048576) (htab : Tab w) (hab : a = b) (hbc : c < b) (hz : c = 0) :
    Calls Tryd.prog 8 #[.slice aa la ca, .slice ab lb cb, .slice ac lc cc] w fun e w' => e = .returned (.bool true) ∧ Below w.heap.size w w' := by
  go_enter Tryd.func8, Tryd.ntmps8
  go_wp2_with fail
  refine (cmp_0 ha hb (by omega)).mono ?_
  rintro e w1 ⟨rfl, b1⟩
  replace ha := ha.below b1
  replace hb := hb.below b1
  replace hc := hc.below b1
  replace htab := htab.below b1
  go_wp2_with fail
  refine (cmp_0 hb ha (by omega)).mono ?_
  rintro e w2 ⟨rfl, b2⟩
  replace ha := ha.below b2
  replace hb := hb.below b2
  replace hc := hc.below b2
  replace htab := htab.below b2
  replace b2 := b1.trans (b2.mono b1.size)
  clear b1
  go_wp2_with fail
  refine (cmp_0 ha ha (rfl)).mono ?_
  rintro e w3 ⟨rfl, b3⟩
  replace ha := ha.below b3
  replace hb := hb.below b3
  replace hc := hc.below b3
  replace htab := htab.below b3
  replace b3 := b2.trans (b3.mono b2.size)
  clear b2
  go_wp2_with fail
  refine (cmp_gt hb hc (by omega)).mono ?_
  rintro e w4 ⟨rfl, b4⟩
  replace ha := ha.below b4
  replace hb := hb.below b4
  replace hc := hc.below b4
  replace htab := htab.below b4
  replace b4 := b3.trans (b4.mono b3.size)
  clear b3
  go_wp2_with fail
  refine (add_n ha hc (by omega) (by omega)).mono ?_
  rintro e w5 ⟨aS, lS, cS, rfl, S, b5, kS⟩
  replace ha := ha.below b5
  replace hb := hb.below b5
  replace hc := hc.below b5
  replace htab := htab.below b5
  replace b5 := b4.trans (b5.mono b4.size)
  clear b4
  go_wp2_with fail
  refine (add_n hb hc (by omega) (by omega)).mono ?_
  rintro e w6 ⟨aT, lT, cT, rfl, T, b6, kT⟩
  replace ha := ha.below b6
  replace hb := hb.below b6
  replace hc := hc.below b6
  replace htab := htab.below b6
  replace S := S.below b6
  replace b6 := b5.trans (b6.mono b5.size)
  clear b5
  go_wp2_with fail
  refine (cmp_0 S.nm T.nm (by omega)).mono ?_
  rintro e w7 ⟨rfl, b7⟩
  replace ha := ha.below b7
  replace hb := hb.below b7
  replace hc := hc.below b7
  replace htab := htab.below b7
  replace b7 := b6.trans (b7.mono b6.size)
  clear S T b6
  go_wp2_with fail
  refine (bits_0 hc (by omega) hz).mono ?_
  rintro e w8 ⟨rfl, b8⟩
  replace ha := ha.below b8
  replace hb := hb.below b8
  replace hc := hc.below b8
  replace htab := htab.below b8
  replace b8 := b7.trans (b8.mono b7.size)
  clear b7
  go_wp2_with fail
  refine (sub_n ha hb (by omega) (by omega)).mono ?_
  rintro e w9 ⟨aD, lD, cD, rfl, D, b9, kD⟩
  replace ha := ha.below b9
  replace hb := hb.below b9
  replace hc := hc.below b9
  replace htab := htab.below b9
  replace b9 := b8.trans (b9.mono b8.size)
  clear b8
  go_wp2_with fail
  refine (known_any w9 htab).mono ?_
  rintro e w10 ⟨rfl, b10⟩
  replace ha := ha.below b10
  replace hb := hb.below b10
  replace hc := hc.below b10
  replace D := D.below b10
  replace b10 := b9.trans (b10.mono b9.size)
  clear htab b9
  go_wp2_with fail
  go_ret
  exact ⟨rfl, b10⟩

set_option maxRecDepth 100000 in
set_option maxHeartbeats 3200000 in
theorem natOrder_120 {aa ab ac : Option Addr} {la ca lb cb lc cc : Nat} {a b c : Int} {w : World} (ha : Nm w aa la ca a) (hb : Nm w ab lb cb b) (hc : Nm w ac lc cc c) (hla : la ≤ 1048576) (hlb : lb ≤ 1048576) (hlc : lc ≤ 1048576) (htab : Tab w) (hab : a = b) (hbc : c < b) (hz : 0 < c) :
    Calls Tryd.prog 8 #[.slice aa la ca, .slice ab lb cb, .slice ac lc cc] w fun e w' => e = .returned (.bool true) ∧ Below w.heap.size w w' := by
  go_enter Tryd.func8, Tryd.ntmps8
  go_wp2_with fail
  refine (cmp_0 ha hb (by omega)).mono ?_
  rintro e w1 ⟨rfl, b1⟩
  replace ha := ha.below b1
  replace hb := hb.below b1
  replace hc := hc.below b1
  replace htab := htab.below b1
  go_wp2_with fail
  refine (cmp_0 hb ha (by omega)).mono ?_
  rintro e w2 ⟨rfl, b2⟩
  replace ha := ha.below b2
  replace hb := hb.below b2
  replace hc := hc.below b2
  replace htab := htab.below b2
  replace b2 := b1.trans (b2.mono b1.size)
  clear b1
  go_wp2_with fail
  refine (cmp_0 ha ha (rfl)).mono ?_
  rintro e w3 ⟨rfl, b3⟩
  replace ha := ha.below b3
  replace hb := hb.below b3
  replace hc := hc.below b3
  replace htab := htab.below b3
  replace b3 := b2.trans (b3.mono b2.size)
  clear b2
  go_wp2_with fail
  refine (cmp_gt hb hc (by omega)).mono ?_
  rintro e w4 ⟨rfl, b4⟩
  replace ha := ha.below b4
  replace hb := hb.below b4
  replace hc := hc.below b4
  replace htab := htab.below b4
  replace b4 := b3.trans (b4.mono b3.size)
  clear b3
  go_wp2_with fail
  refine (add_n ha hc (by omega) (by omega)).mono ?_
  rintro e w5 ⟨aS, lS, cS, rfl, S, b5, kS⟩
  replace ha := ha.below b5
  replace hb := hb.below b5
  replace hc := hc.below b5
  replace htab := htab.below b5
  replace b5 := b4.trans (b5.mono b4.size)
  clear b4
  go_wp2_with fail
  refine (add_n hb hc (by omega) (by omega)).mono ?_
  rintro e w6 ⟨aT, lT, cT, rfl, T, b6, kT⟩
  replace ha := ha.below b6
  replace hb := hb.below b6
  replace hc := hc.below b6
  replace htab := htab.below b6
  replace S := S.below b6
  replace b6 := b5.trans (b6.mono b5.size)
  clear b5
  go_wp2_with fail
  refine (cmp_0 S.nm T.nm (by omega)).mono ?_
  rintro e w7 ⟨rfl, b7⟩
  replace ha := ha.below b7
  replace hb := hb.below b7
  replace hc := hc.below b7
  replace htab := htab.below b7
  replace b7 := b6.trans (b7.mono b6.size)
  clear S T b6
  go_wp2_with fail
  refine (bits_pos hc (by omega) (by omega)).mono ?_
  rintro e w8 ⟨kb, rfl, hkb, b8⟩
  replace ha := ha.below b8
  replace hb := hb.below b8
  replace hc := hc.below b8
  replace htab := htab.below b8
  replace b8 := b7.trans (b8.mono b7.size)
  clear b7
  go_wp2_with fail
  refine (mul_n ha hc (by omega) (by omega)).mono ?_
  rintro e w9 ⟨aP, lP, cP, rfl, P, b9, kP⟩
  replace ha := ha.below b9
  replace hb := hb.below b9
  replace hc := hc.below b9
  replace htab := htab.below b9
  replace b9 := b8.trans (b9.mono b8.size)
  clear b8
  go_wp2_with fail
  refine (mul_n hb hc (by omega) (by omega)).mono ?_
  rintro e w10 ⟨aQ, lQ, cQ, rfl, Q, b10, kQ⟩
  replace ha := ha.below b10
  replace hb := hb.below b10
  replace hc := hc.below b10
  replace htab := htab.below b10
  replace P := P.below b10
  replace b10 := b9.trans (b10.mono b9.size)
  clear b9
  go_wp2_with fail
  refine (cmp_0 P.nm Q.nm (by rw [hab])).mono ?_
  rintro e w11 ⟨rfl, b11⟩
  replace ha := ha.below b11
  replace hb := hb.below b11
  replace hc := hc.below b11
  replace htab := htab.below b11
  replace b11 := b10.trans (b11.mono b10.size)
  clear P Q b10
  go_wp2_with fail
  refine (sub_n ha hb (by omega) (by omega)).mono ?_
  rintro e w12 ⟨aD, lD, cD, rfl, D, b12, kD⟩
  replace ha := ha.below b12
  replace hb := hb.below b12
  replace hc := hc.below b12
  replace htab := htab.below b12
  replace b12 := b11.trans (b12.mono b11.size)
  clear b11
  go_wp2_with fail
  refine (known_any w12 htab).mono ?_
  rintro e w13 ⟨rfl, b13⟩
  replace ha := ha.below b13
  replace hb := hb.below b13
  replace hc := hc.below b13
  replace D := D.below b13
  replace b13 := b12.trans (b13.mono b12.size)
  clear htab b12
  go_wp2_with fail
  go_ret
  exact ⟨rfl, b13⟩

set_option maxRecDepth 100000 in
set_option maxHeartbeats 3200000 in
theorem natOrder_231 {aa ab ac : Option Addr} {la ca lb cb lc cc : Nat} {a b c : Int} {w : World} (ha : Nm w aa la ca a) (hb : Nm w ab lb cb b) (hc : Nm w ac lc cc c) (hla : la ≤ 1048576) (hlb : lb ≤ 1048576) (hlc : lc ≤ 1048576) (htab : Tab w) (hab : b < a) (hz : c = 0) :
    Calls Tryd.prog 8 #[.slice aa la ca, .slice ab lb cb, .slice ac lc cc] w fun e w' => e = .returned (.bool true) ∧ Below w.heap.size w w' := by
  go_enter Tryd.func8, Tryd.ntmps8
  go_wp2_with fail
  refine (cmp_gt ha hb (by omega)).mono ?_
  rintro e w1 ⟨rfl, b1⟩
  replace ha := ha.below b1
  replace hb := hb.below b1
  replace hc := hc.below b1
  replace htab := htab.below b1
  go_wp2_with fail
  refine (cmp_lt hb ha (by omega)).mono ?_
  rintro e w2 ⟨rfl, b2⟩
  replace ha := ha.below b2
  replace hb := hb.below b2
  replace hc := hc.below b2
  replace htab := htab.below b2
  replace b2 := b1.trans (b2.mono b1.size)
  clear b1
  go_wp2_with fail
  refine (cmp_0 ha ha (rfl)).mono ?_
  rintro e w3 ⟨rfl, b3⟩
  replace ha := ha.below b3
  replace hb := hb.below b3
  replace hc := hc.below b3
  replace htab := htab.below b3
  replace b3 := b2.trans (b3.mono b2.size)
  clear b2
  go_wp2_with fail
  refine (add_n ha hc (by omega) (by omega)).mono ?_
  rintro e w4 ⟨aS, lS, cS, rfl, S, b4, kS⟩
  replace ha := ha.below b4
  replace hb := hb.below b4
  replace hc := hc.below b4
  replace htab := htab.below b4
  replace b4 := b3.trans (b4.mono b3.size)
  clear b3
  go_wp2_with fail
  refine (add_n hb hc (by omega) (by omega)).mono ?_
  rintro e w5 ⟨aT, lT, cT, rfl, T, b5, kT⟩
  replace ha := ha.below b5
  replace hb := hb.below b5
  replace hc := hc.below b5
  replace htab := htab.below b5
  replace S := S.below b5
  replace b5 := b4.trans (b5.mono b4.size)
  clear b4
  go_wp2_with fail
  refine (cmp_gt S.nm T.nm (by omega)).mono ?_
  rintro e w6 ⟨rfl, b6⟩
  replace ha := ha.below b6
  replace hb := hb.below b6
  replace hc := hc.below b6
  replace htab := htab.below b6
  replace b6 := b5.trans (b6.mono b5.size)
  clear S T b5
  go_wp2_with fail
  refine (bits_0 hc (by omega) hz).mono ?_
  rintro e w7 ⟨rfl, b7⟩
  replace ha := ha.below b7
  replace hb := hb.below b7
  replace hc := hc.below b7
  replace htab := htab.below b7
  replace b7 := b6.trans (b7.mono b6.size)
  clear b6
  go_wp2_with fail
  refine (sub_n ha hb (by omega) (by omega)).mono ?_
  rintro e w8 ⟨aD, lD, cD, rfl, D, b8, kD⟩
  replace ha := ha.below b8
  replace hb := hb.below b8
  replace hc := hc.below b8
  replace htab := htab.below b8
  replace b8 := b7.trans (b8.mono b7.size)
  clear b7
  go_wp2_with fail
  refine (known_any w8 htab).mono ?_
  rintro e w9 ⟨rfl, b9⟩
  replace ha := ha.below b9
  replace hb := hb.below b9
  replace hc := hc.below b9
  replace D := D.below b9
  replace b9 := b8.trans (b9.mono b8.size)
  clear htab b8
  go_wp2_with fail
  go_ret
  exact ⟨rfl, b9⟩

set_option maxRecDepth 100000 in
set_option maxHeartbeats 3200000 in
theorem natOrder_230 {aa ab ac : Option Addr} {la ca lb cb lc cc : Nat} {a b c : Int} {w : World} (ha : Nm w aa la ca a) (hb : Nm w ab lb cb b) (hc : Nm w ac lc cc c) (hla : la ≤ 1048576) (hlb : lb ≤ 1048576) (hlc : lc ≤ 1048576) (htab : Tab w) (hab : b < a) (hz : 0 < c) :
    Calls Tryd.prog 8 #[.slice aa la ca, .slice ab lb cb, .slice ac lc cc] w fun e w' => e = .returned (.bool true) ∧ Below w.heap.size w w' := by
  go_enter Tryd.func8, Tryd.ntmps8
  go_wp2_with fail
  refine (cmp_gt ha hb (by omega)).mono ?_
  rintro e w1 ⟨rfl, b1⟩
  replace ha := ha.below b1
  replace hb := hb.below b1
  replace hc := hc.below b1
  replace htab := htab.below b1
  go_wp2_with fail
  refine (cmp_lt hb ha (by omega)).mono ?_
  rintro e w2 ⟨rfl, b2⟩
  replace ha := ha.below b2
  replace hb := hb.below b2
  replace hc := hc.below b2
  replace htab := htab.below b2
  replace b2 := b1.trans (b2.mono b1.size)
  clear b1
  go_wp2_with fail
  refine (cmp_0 ha ha (rfl)).mono ?_
  rintro e w3 ⟨rfl, b3⟩
  replace ha := ha.below b3
  replace hb := hb.below b3
  replace hc := hc.below b3
  replace htab := htab.below b3
  replace b3 := b2.trans (b3.mono b2.size)
  clear b2
  go_wp2_with fail
  refine (add_n ha hc (by omega) (by omega)).mono ?_
  rintro e w4 ⟨aS, lS, cS, rfl, S, b4, kS⟩
  replace ha := ha.below b4
  replace hb := hb.below b4
  replace hc := hc.below b4
  replace htab := htab.below b4
  replace b4 := b3.trans (b4.mono b3.size)
  clear b3
  go_wp2_with fail
  refine (add_n hb hc (by omega) (by omega)).mono ?_
  rintro e w5 ⟨aT, lT, cT, rfl, T, b5, kT⟩
  replace ha := ha.below b5
  replace hb := hb.below b5
  replace hc := hc.below b5
  replace htab := htab.below b5
  replace S := S.below b5
  replace b5 := b4.trans (b5.mono b4.size)
  clear b4
  go_wp2_with fail
  refine (cmp_gt S.nm T.nm (by omega)).mono ?_
  rintro e w6 ⟨rfl, b6⟩
  replace ha := ha.below b6
  replace hb := hb.below b6
  replace hc := hc.below b6
  replace htab := htab.below b6
  replace b6 := b5.trans (b6.mono b5.size)
  clear S T b5
  go_wp2_with fail
  refine (bits_pos hc (by omega) (by omega)).mono ?_
  rintro e w7 ⟨kb, rfl, hkb, b7⟩
  replace ha := ha.below b7
  replace hb := hb.below b7
  replace hc := hc.below b7
  replace htab := htab.below b7
  replace b7 := b6.trans (b7.mono b6.size)
  clear b6
  go_wp2_with fail
  refine (mul_n ha hc (by omega) (by omega)).mono ?_
  rintro e w8 ⟨aP, lP, cP, rfl, P, b8, kP⟩
  replace ha := ha.below b8
  replace hb := hb.below b8
  replace hc := hc.below b8
  replace htab := htab.below b8
  replace b8 := b7.trans (b8.mono b7.size)
  clear b7
  go_wp2_with fail
  refine (mul_n hb hc (by omega) (by omega)).mono ?_
  rintro e w9 ⟨aQ, lQ, cQ, rfl, Q, b9, kQ⟩
  replace ha := ha.below b9
  replace hb := hb.below b9
  replace hc := hc.below b9
  replace htab := htab.below b9
  replace P := P.below b9
  replace b9 := b8.trans (b9.mono b8.size)
  clear b8
  go_wp2_with fail
  refine (cmp_gt P.nm Q.nm (Int.mul_lt_mul_of_pos_right hab hz)).mono ?_
  rintro e w10 ⟨rfl, b10⟩
  replace ha := ha.below b10
  replace hb := hb.below b10
  replace hc := hc.below b10
  replace htab := htab.below b10
  replace b10 := b9.trans (b10.mono b9.size)
  clear P Q b9
  go_wp2_with fail
  refine (sub_n ha hb (by omega) (by omega)).mono ?_
  rintro e w11 ⟨aD, lD, cD, rfl, D, b11, kD⟩
  replace ha := ha.below b11
  replace hb := hb.below b11
  replace hc := hc.below b11
  replace htab := htab.below b11
  replace b11 := b10.trans (b11.mono b10.size)
  clear b10
  go_wp2_with fail
  refine (known_any w11 htab).mono ?_
  rintro e w12 ⟨rfl, b12⟩
  replace ha := ha.below b12
  replace hb := hb.below b12
  replace hc := hc.below b12
  replace D := D.below b12
  replace b12 := b11.trans (b12.mono b11.size)
  clear htab b11
  go_wp2_with fail
  go_ret
  exact ⟨rfl, b12⟩

theorem natOrder_walk {aa ab ac : Option Addr} {la ca lb cb lc cc : Nat} {a b c : Int} {w : World} (ha : Nm w aa la ca a) (hb : Nm w ab lb cb b) (hc : Nm w ac lc cc c) (hla : la ≤ 1048576) (hlb : lb ≤ 1048576) (hlc : lc ≤ 1048576) (htab : Tab w) :
    Calls Tryd.prog 8 #[.slice aa la ca, .slice ab lb cb, .slice ac lc cc] w fun e w' => e = .returned (.bool true) ∧ Below w.heap.size w w' := by
  have h0 := hc.nonneg
  have hz : c = 0 ∨ 0 < c := by omega
  rcases Int.lt_trichotomy a b with h | h | h
  · rcases Int.lt_trichotomy b c with k | k | k
    · rcases hz with z | z
      · exact natOrder_001 ha hb hc hla hlb hlc htab h k z
      · exact natOrder_000 ha hb hc hla hlb hlc htab h k z
    · rcases hz with z | z
      · exact natOrder_011 ha hb hc hla hlb hlc htab h k z
      · exact natOrder_010 ha hb hc hla hlb hlc htab h k z
    · rcases hz with z | z
      · exact natOrder_021 ha hb hc hla hlb hlc htab h k z
      · exact natOrder_020 ha hb hc hla hlb hlc htab h k z
  · rcases Int.lt_trichotomy b c with k | k | k
    · rcases hz with z | z
      · exact natOrder_101 ha hb hc hla hlb hlc htab h k z
      · exact natOrder_100 ha hb hc hla hlb hlc htab h k z
    · rcases hz with z | z
      · exact natOrder_111 ha hb hc hla hlb hlc htab h k z
      · exact natOrder_110 ha hb hc hla hlb hlc htab h k z
    · rcases hz with z | z
      · exact natOrder_121 ha hb hc hla hlb hlc htab h k z
      · exact natOrder_120 ha hb hc hla hlb hlc htab h k z
  · rcases hz with z | z
    · exact natOrder_231 ha hb hc hla hlb hlc htab h z
    · exact natOrder_230 ha hb hc hla hlb hlc htab h z
end Go.Proofs.YtpkbdfdbmeilpaaDoor
