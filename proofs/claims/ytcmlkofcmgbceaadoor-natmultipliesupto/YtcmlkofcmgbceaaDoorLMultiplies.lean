/-
  The walk of the law NatMultiplies.
-/
import Derived.Test.YtcmlkofcmgbceaaDoorQMultiplies
import Derived.Deep.RegionHeld3
import Derived.Deep.DeepCutAuto
namespace Go.Proofs.YtcmlkofcmgbceaaDoor
open Go.RowKit

set_option maxRecDepth 100000 in
set_option maxHeartbeats 3200000 in
theorem natMultiplies_walk {aa ab : Option Addr} {la ca lb cb : Nat} {xs ys : List Int} {w : World} (ha : Rd w aa la ca xs) (hb : Rd w ab lb cb ys) (hla : la ≤ 1048576) (hlb : lb ≤ 1048576) (htab : Tab w) :
    Calls Tryd.prog 3 #[.slice aa la ca, .slice ab lb cb] w fun e w' => e = .returned (.bool true) ∧ Below w.heap.size w w' := by
  go_enter Tryd.func3, Tryd.ntmps3
  go_wp2_with fail
  refine (lend_any ha (by omega)).mono ?_
  rintro e w1 ⟨f1, g1, F1, rfl, b1, -, -, lent1⟩
  go_wp2_with fail
  have bx := box_new lent1
  have b2 := below_alloc' b1 (.cells #[.slice (some ⟨f1, 0, none⟩) (la + 4) (la + 4), .int .i64 la, .slice (some ⟨g1, 0, none⟩) (la + 4) (la + 4)] 24)
  generalize w1.alloc (.cells #[.slice (some ⟨f1, 0, none⟩) (la + 4) (la + 4), .int .i64 la, .slice (some ⟨g1, 0, none⟩) (la + 4) (la + 4)] 24) = w2 at *
  generalize w1.heap.size = p at *
  clear b1 lent1
  refine (lend_any (hb.below b2) (by omega)).mono ?_
  rintro e w3 ⟨f2, g2, F2, rfl, b3, -, -, lent2⟩
  go_wp2_with fail
  have bY := box_new lent2
  have b4 := below_alloc' b3 (.cells #[.slice (some ⟨f2, 0, none⟩) (lb + 4) (lb + 4), .int .i64 lb, .slice (some ⟨g2, 0, none⟩) (lb + 4) (lb + 4)] 24)
  generalize w3.alloc (.cells #[.slice (some ⟨f2, 0, none⟩) (lb + 4) (lb + 4), .int .i64 lb, .slice (some ⟨g2, 0, none⟩) (lb + 4) (lb + 4)] 24) = w0 at *
  generalize w3.heap.size = q at *
  clear b3 lent2
  replace bx := bx.below b4
  have b0 := b2.trans (b4.mono b2.size)
  clear b2 b4
  have ra := ha.below b0
  have rb := hb.below b0
  have tb := htab.below b0
  clear ha hb htab
  have hn1 : (0 : Int) ≤ (la : Int) := by omega
  have hn2 : (0 : Int) ≤ (lb : Int) := by omega
  have HS := divmod_SS bx bY
  go_region_held3 (fun w' => w'.cell? ⟨p, 0, none⟩ = some (.slice (some ⟨f1, 0, none⟩) (la + 4) (la + 4)) ∧ w'.cell? ⟨p, 1, none⟩ = some (.int .i64 la) ∧ w'.cell? ⟨p, 2, none⟩ = some (.slice (some ⟨g1, 0, none⟩) (la + 4) (la + 4)) ∧ w'.cell? ⟨q, 0, none⟩ = some (.slice (some ⟨f2, 0, none⟩) (lb + 4) (lb + 4)) ∧ w'.cell? ⟨q, 1, none⟩ = some (.int .i64 lb) ∧ w'.cell? ⟨q, 2, none⟩ = some (.slice (some ⟨g2, 0, none⟩) (lb + 4) (lb + 4)) ∧ Kept w0 w')
    ((refine mk_S bx bY ?_; (repeat' (first | with_reducible exact Kept.refl _ | with_reducible assumption | (go_split_ands; with_reducible assumption) | with_reducible refine kept_step (by with_reducible assumption) ?_ | with_reducible refine kept_drew ?_ | with_reducible refine kept_alloc ?_ _ | with_reducible refine kept_drewN ?_ _))))
    (first | (go_at_call 9; refine (list_any (by omega)).mono ?_; rintro e w' ⟨rfl, hg⟩) | (go_at_call 8; refine (HS _ (by (repeat' (first | with_reducible exact Kept.refl _ | with_reducible assumption | (go_split_ands; with_reducible assumption) | with_reducible refine kept_step (by with_reducible assumption) ?_ | with_reducible refine kept_drew ?_ | with_reducible refine kept_alloc ?_ _ | with_reducible refine kept_drewN ?_ _)))).mono ?_; rintro e w' ⟨aq, lq, cq, ar, lr, cr, er, rfl, hcase, hg⟩))
  clear HS
  have kD : Kept w0 w' := by (repeat' (first | with_reducible exact Kept.refl _ | with_reducible assumption | (go_split_ands; with_reducible assumption) | with_reducible refine kept_step (by with_reducible assumption) ?_ | with_reducible refine kept_drew ?_ | with_reducible refine kept_alloc ?_ _ | with_reducible refine kept_drewN ?_ _))
  generalize w' = wD at *
  go_wp2_with fail
  refine (trim_any (rb.below kD) (by omega)).mono ?_
  rintro e wT ⟨rfl, hoT, -⟩
  have kT : Kept w0 wT := kept_step hoT.1 kD
  have kDT := hoT.1
  have htl := tl_le ys lb
  have hz : Hid (tl ys lb = 0 ↔ val ys = 0) := by
    have hv := val_trim ys
    have hc := canon_trim rb.2.2.2.1
    have hln := hoT.rd.1
    show _ ↔ _
    rw [← hv, ← hln]
    constructor
    · intro h
      rw [List.eq_nil_of_length_eq_zero h]; rfl
    · intro h
      rcases Nat.eq_zero_or_pos (trim ys).length with h2 | h2
      · exact h2
      · have h3 := canon_low hc h2
        have := pw_pos ((trim ys).length - 1)
        omega
  generalize tl ys lb = nt at *
  clear hoT
  go_upto_if 28 with (fail)
  go_cut [] (fun w' => Kept w0 w')
  case first =>
    rcases unhide hcase with ⟨hy0, rfl, rfl, rfl⟩ | ⟨hypos, rfl, zq, zr, hoq, hcq, hvq, hor, hcr, hvr, hblk⟩
    · obtain rfl : nt = 0 := hz.out.2 hy0
      go_wp2_with fail
      go_meet
      case rel => (repeat' (first | with_reducible exact Kept.refl _ | with_reducible assumption | (go_split_ands; with_reducible assumption) | with_reducible refine kept_step (by with_reducible assumption) ?_ | with_reducible refine kept_drew ?_ | with_reducible refine kept_alloc ?_ _ | with_reducible refine kept_drewN ?_ _))
    · have hnt : 0 < nt := by
        have := hz.out
        omega
      have HP := hide hypos
      clear hcase
      go_wp2_with fail
      refine (refdivmod_out (ra.below kT) (rb.below kT) (by omega) (by omega) HP.out).mono ?_
      rintro e wE ⟨as', ls, cs, zs, at', lt, ct, zt, rfl, hos, hcs, hvs, hot, hct, hvt, -, -⟩
      have kE0 : Kept w0 wE := kept_step hos.1 kT
      have kDE : Below wD.heap.size wD wE := grow_step hos.1 kDT
      have hn1' := ne_of_quo hblk
      have hn2' := ne_later (hoq.later kDT) hot
      replace hoq := hoq.later kDE
      replace hor := hor.later kDE
      replace hos := hos.outer kT
      replace hot := hot.outer kT
      clear hblk kD kDT kT kDE
      obtain ⟨s0, s1, s2, s3, s4, s5, -⟩ := mk_S bx bY kE0
      go_wp2_with fail
      (go_at_call 12; with_reducible refine (is_q bx bY hoq hcq hvq hos hcs hvs ?_ ?_ ?_ rfl ?_).mono ?_; (all_goals (try ((repeat' (first | with_reducible exact Kept.refl _ | with_reducible assumption | (go_split_ands; with_reducible assumption) | with_reducible refine kept_step (by with_reducible assumption) ?_ | with_reducible refine kept_drew ?_ | with_reducible refine kept_alloc ?_ _ | with_reducible refine kept_drewN ?_ _)); done))); (all_goals (try ((repeat' (first | with_reducible exact Below.refl _ _ | with_reducible assumption | with_reducible refine grow_step (by with_reducible assumption) ?_ | with_reducible refine grow_drew ?_ | with_reducible refine grow_alloc ?_ _ | with_reducible refine grow_drewN ?_ _)); done))); rintro e w' ⟨rfl, hk, hko⟩)
      clear s0 s1 s2 s3 s4 s5
      obtain ⟨s0, s1, s2, s3, s4, s5, -⟩ := mk_S bx bY hk
      go_wp2_with fail
      (go_at_call 12; with_reducible refine (is_r bx bY hor hcr hvr hot hct hvt hn1' hn2' ?_ ?_ ?_ rfl ?_).mono ?_; (all_goals (try ((repeat' (first | with_reducible assumption | with_reducible refine ko_step (by with_reducible assumption) ?_ | with_reducible refine ko_drew ?_ | with_reducible refine ko_alloc ?_ _ | with_reducible refine ko_drewN ?_ _)); done))); (all_goals (try ((repeat' (first | with_reducible exact Kept.refl _ | with_reducible assumption | (go_split_ands; with_reducible assumption) | with_reducible refine kept_step (by with_reducible assumption) ?_ | with_reducible refine kept_drew ?_ | with_reducible refine kept_alloc ?_ _ | with_reducible refine kept_drewN ?_ _)); done))); (all_goals (try ((repeat' (first | with_reducible exact Below.refl _ _ | with_reducible assumption | with_reducible refine grow_step (by with_reducible assumption) ?_ | with_reducible refine grow_drew ?_ | with_reducible refine grow_alloc ?_ _ | with_reducible refine grow_drewN ?_ _)); done))); rintro e w' ⟨rfl, hk⟩)
      go_wp2_with fail
      go_meet
      case rel => (repeat' (first | with_reducible exact Kept.refl _ | with_reducible assumption | (go_split_ands; with_reducible assumption) | with_reducible refine kept_step (by with_reducible assumption) ?_ | with_reducible refine kept_drew ?_ | with_reducible refine kept_alloc ?_ _ | with_reducible refine kept_drewN ?_ _))
  case rest =>
    rename_i hK
    exact hK _ _ (natMultiplies_rest hla hlb bx bY b0 ra rb tb hcut)
end Go.Proofs.YtcmlkofcmgbceaaDoor
