/-
  The walk of the law NatTells.
-/
import Derived.Test.YtcmlkofcmgbceaaDoorRS
import Derived.Deep.RegionHeld3
import Derived.Deep.DeepCutAuto
namespace Go.Proofs.YtcmlkofcmgbceaaDoor
open Go.RowKit

set_option maxRecDepth 100000 in
set_option maxHeartbeats 3200000 in
theorem natTells_walk {aa : Option Addr} {la ca : Nat} {xs : List Int} {n : Int} {s : ByteArray} {w : World} (ha : Rd w aa la ca xs) (hla : la ≤ 1048576) (hn0 : 0 ≤ n) (hn1 : n < 18446744073709551616) (hs : s.size ≤ 1048576) (htab : Tab w) :
    Calls Tryd.prog 5 #[.slice aa la ca, .int .u64 n, .string s] w fun e w' => e = .returned (.bool true) ∧ Below w.heap.size w w' := by
  go_enter Tryd.func5, Tryd.ntmps5
  go_wp2_with fail
  refine (lend_any ha (by omega)).mono ?_
  rintro e w1 ⟨f1, g1, F1, rfl, b1, -, -, lent1⟩
  go_wp2_with fail
  have bx := box_new lent1
  have b0 := below_alloc' b1 (.cells #[.slice (some ⟨f1, 0, none⟩) (la + 4) (la + 4), .int .i64 la, .slice (some ⟨g1, 0, none⟩) (la + 4) (la + 4)] 24)
  generalize w1.alloc (.cells #[.slice (some ⟨f1, 0, none⟩) (la + 4) (la + 4), .int .i64 la, .slice (some ⟨g1, 0, none⟩) (la + 4) (la + 4)] 24) = w0 at *
  generalize w1.heap.size = p at *
  clear b1 lent1
  have ra := ha.below b0
  have tb := htab.below b0
  clear ha htab
  refine (parse_SS s w0 hs).mono ?_
  rintro e wP ⟨ap, lp, cp, er, rfl, hc1, kP⟩
  go_wp2_with fail
  refine (refparse_SS s wP hs).mono ?_
  rintro e wQ ⟨aq, lq, cq, fine, rfl, hc2, kQ⟩
  have k0P : Kept w0 wP := kP
  have k0Q : Kept w0 wQ := kept_step kQ kP
  have HBI : Hid (∃ m, ((bitsL (trim xs) : Nat) : Int) = m) := ⟨_, rfl⟩
  have HTX : Hid (∃ t : ByteArray, ⟨(Lib.decDigits (val xs).toNat).toArray⟩ = t) := ⟨_, rfl⟩
  obtain ⟨mb, HBI'⟩ := HBI.out
  obtain ⟨tx, HTX'⟩ := HTX.out
  clear HBI HTX
  have HBI := hide HBI'
  have HTX := hide HTX'
  clear HBI' HTX'
  go_upto_region 4 with (fail)
  go_cut [49] (fun v w' => v = .bool false ∧ Kept w0 w')
  case first =>
    rcases unhide hc1 with ⟨hno, rfl, rfl⟩ | ⟨hok, rfl, zp, hop, hcp, hvp⟩
    · rcases unhide hc2 with ⟨-, rfl, rfl⟩ | ⟨hok, -⟩
      · go_wp2_with fail
        go_meet
        case rel => exact ⟨rfl, k0Q⟩
      · exact absurd hok hno
    · rcases unhide hc2 with ⟨hno, -⟩ | ⟨-, rfl, zq, hoq, hcq, hvq⟩
      · exact absurd hok hno
      · go_wp2_with fail
        refine (is_two0 (w0 := w0) hop hcp hvp kQ hoq hcq hvq (Below.refl _ _) (Kept.refl _) k0Q).mono ?_
        rintro e w' ⟨rfl, hk⟩
        go_wp2_with fail
        go_meet
        case rel => exact ⟨rfl, hk⟩
  case rest =>
    rename_i hK
    refine hK _ _ ?_
    obtain ⟨rfl, hcut⟩ := hcut
    go_wp2_with fail
    refine (of_S (w0 := w0) hn0 hn1 hcut).mono ?_
    rintro e w2 ⟨a2, l2, c2, z2, rfl, o2, cc2, v2, k2⟩
    have K2 : Kept w0 w2 := kept_step k2 hcut
    go_wp2_with fail
    refine (refof_S (w0 := w0) hn0 hn1 K2).mono ?_
    rintro e w3 ⟨a3, l3, c3, z3, rfl, o3, cc3, v3, k3⟩
    have K3 : Kept w0 w3 := kept_step k3 K2
    go_wp2_with fail
    refine (is_two0 (w0 := w0) o2 cc2 v2 k3 o3 cc3 v3 (Below.refl _ _) hcut K3).mono ?_
    rintro e w4 ⟨rfl, K4⟩
    clear o2 cc2 v2 k3 o3 cc3 v3 k2
    obtain ⟨s0, s1, s2, -⟩ := mk_S1 bx K4
    go_wp2_with fail
    refine (list_any (by omega)).mono ?_
    rintro e w5 ⟨rfl, k5⟩
    have K5 : Kept w0 w5 := kept_step k5 K4
    go_wp2_with fail
    refine (bits_S bx HBI K5).mono ?_
    rintro e w6 ⟨rfl, k6⟩
    have K6 : Kept w0 w6 := kept_step k6 K5
    go_wp2_with fail
    refine (refbits_S ra hla HBI K6).mono ?_
    rintro e w7 ⟨rfl, k7⟩
    have K7 : Kept w0 w7 := kept_step k7 K6
    clear s0 s1 s2 k5 k6 k7
    obtain ⟨s0, s1, s2, -⟩ := mk_S1 bx K7
    go_wp2_with fail
    refine (list_any (by omega)).mono ?_
    rintro e w8 ⟨rfl, k8⟩
    have K8 : Kept w0 w8 := kept_step k8 K7
    go_wp2_with fail
    refine (text_S bx tb HTX K8).mono ?_
    rintro e w9 ⟨rfl, k9⟩
    have K9 : Kept w0 w9 := kept_step k9 K8
    go_wp2_with fail
    refine (reftext_S ra hla HTX K9).mono ?_
    rintro e w10 ⟨rfl, k10⟩
    have K10 : Kept w0 w10 := kept_step k10 K9
    clear s0 s1 s2 k8 k9 k10
    obtain ⟨s0, s1, s2, -⟩ := mk_S1 bx K10
    go_wp2_with fail
    refine (same_S bx K10).mono ?_
    rintro e w11 ⟨rfl, k11⟩
    have K11 : Kept w0 w11 := kept_step k11 K10
    go_wp2_with fail
    refine (known_S tb K11).mono ?_
    rintro e w12 ⟨rfl, k12⟩
    have K12 : Kept w0 w12 := kept_step k12 K11
    go_wp2_with fail
    go_ret
    exact ⟨rfl, b0.trans (Below.mono K12 b0.size)⟩
end Go.Proofs.YtcmlkofcmgbceaaDoor
