/-
  Layer 2: numbers as words of the machine; how they stand.
-/
import Derived.Test.YtmbeaopcpckiaaaDoorZ7
import Derived.Laws.BitsAllLaws
import Derived.Deep.LoopGhost
import Derived.Deep.DeepCutAuto
namespace Go.Proofs.YtmbeaopcpckiaaaDoor
open Go.RowKit

theorem or_hi (x y : Int) (h0 : 0 ≤ x) (h1 : x < 4294967296) (h2 : 0 ≤ y) (h3 : y < 4294967296) : bits .or .u64 x (y * 4294967296) = x + y * 4294967296 := by
  rw [u64_or _ _ h0 (by omega) (by omega) (by omega)]
  obtain ⟨a, rfl⟩ := Int.eq_ofNat_of_zero_le h0
  obtain ⟨b, rfl⟩ := Int.eq_ofNat_of_zero_le h2
  have hb : (a : Nat) < 2 ^ 32 := by omega
  have e := Nat.shiftLeft_add_eq_or_of_lt hb b
  rw [Nat.shiftLeft_eq] at e
  rw [show ((b : Int) * 4294967296).toNat = b * 2 ^ 32 from by omega, Int.toNat_natCast, Nat.or_comm, ← e]
  omega
theorem or_lo (x y : Int) (h0 : 0 ≤ x) (h1 : x < 4294967296) (h2 : 0 ≤ y) (h3 : y < 4294967296) : bits .or .u64 (y * 4294967296) x = y * 4294967296 + x := by
  rw [u64_or _ _ (by omega) (by omega) h0 (by omega)]
  obtain ⟨a, rfl⟩ := Int.eq_ofNat_of_zero_le h0
  obtain ⟨b, rfl⟩ := Int.eq_ofNat_of_zero_le h2
  have hb : (a : Nat) < 2 ^ 32 := by omega
  have e := Nat.shiftLeft_add_eq_or_of_lt hb b
  rw [Nat.shiftLeft_eq] at e
  rw [show ((b : Int) * 4294967296).toNat = b * 2 ^ 32 from by omega, Int.toNat_natCast, ← e]
  omega
theorem or_zero (x : Int) (h0 : 0 ≤ x) (h1 : x < 18446744073709551616) : bits .or .u64 0 x = x := by
  rw [u64_or _ _ (by decide) (by decide) h0 h1]
  simp
  omega

theorem zcmp_gt {s1 s2 : Bool} {a1 a2 : Option Addr} {l1 c1 l2 c2 : Nat} {z1 z2 : Int} {w : World} (h1 : Zm w s1 a1 l1 c1 z1) (h2 : Zm w s2 a2 l2 c2 z2) (hl1 : l1 ≤ 1099511627776) (hl2 : l2 ≤ 1099511627776) (he : z2 < z1) :
    Calls Tryd.prog 48 #[.agg #[.bool s1, .slice a1 l1 c1], .agg #[.bool s2, .slice a2 l2 c2]] w fun e w' => e = .returned (.int .i64 1) ∧ Below w.heap.size w w' := by
  refine (zcmp_n h1 h2 hl1 hl2).mono ?_
  rintro e w' ⟨rfl, hb⟩
  exact ⟨ret_int (cmpI_gt he), hb⟩

set_option maxRecDepth 100000 in
set_option maxHeartbeats 1600000 in
theorem zint64_in {s : Bool} {a : Option Addr} {l c : Nat} {z : Int} {w : World} (h : Zm w s a l c z) (hl : l ≤ 1099511627776) (h0 : -9223372036854775808 ≤ z) (h1 : z ≤ 9223372036854775807) :
    Calls Tryd.prog 39 #[.agg #[.bool s, .slice a l c]] w fun e w' => e = .returned (.tuple #[.int .i64 z, .bool true]) ∧ Below w.heap.size w w' := by
  go_enter Tryd.func39, Tryd.ntmps39
  go_wp2_with fail
  have x := zb_new w s a l c
  have b0 := below_alloc w (.cells #[.bool s, .slice a l c] 49)
  replace h := h.below b0
  generalize w.alloc (.cells #[.bool s, .slice a l c] 49) = wb at *
  generalize hp : w.heap.size = p at *
  replace hp := hide hp
  go_cut [16] (fun t16 wc => t16 = .bool false ∧ Below wb.heap.size wb wc)
  case first =>
    by_cases hA : z = -9223372036854775808
    · go_region_held3 (fun w' => w'.cell? ⟨p, 0, none⟩ = some (.bool s) ∧ w'.cell? ⟨p, 1, none⟩ = some (.slice a l c) ∧ Below wb.heap.size wb w')
        ((refine zk1 x ?_; (repeat' (first | with_reducible exact Below.refl _ _ | with_reducible assumption | with_reducible refine grow_step (by with_reducible assumption) ?_ | with_reducible refine grow_drew ?_ | with_reducible refine grow_alloc ?_ _ | with_reducible refine grow_drewN ?_ _))))
        (first | (go_at_call 38; with_reducible refine (zof_n (-9223372036854775808) (by decide) (by decide) _).mono ?_; rintro e w' ⟨s4, a4, l4, c4, rfl, z4, hg, hl4⟩) | (go_at_call 38; with_reducible refine (zof_n 9223372036854775807 (by decide) (by decide) _).mono ?_; rintro e w' ⟨s5, a5, l5, c5, rfl, z5, hg, hl5⟩) | (go_at_call 48; with_reducible refine (zcmp_0 (Zm.below h (by (repeat' (first | with_reducible exact Below.refl _ _ | with_reducible assumption | with_reducible refine grow_step (by with_reducible assumption) ?_ | with_reducible refine grow_drew ?_ | with_reducible refine grow_alloc ?_ _ | with_reducible refine grow_drewN ?_ _)))) (Zn.zm (Zn.below z4 (by (repeat' (first | with_reducible exact Below.refl _ _ | with_reducible assumption | with_reducible refine grow_step (by with_reducible assumption) ?_ | with_reducible refine grow_drew ?_ | with_reducible refine grow_alloc ?_ _ | with_reducible refine grow_drewN ?_ _))))) (by omega) (by omega) (by omega)).mono ?_; rintro e w' ⟨rfl, hg⟩) | (go_at_call 48; with_reducible refine (zcmp_lt (Zm.below h (by (repeat' (first | with_reducible exact Below.refl _ _ | with_reducible assumption | with_reducible refine grow_step (by with_reducible assumption) ?_ | with_reducible refine grow_drew ?_ | with_reducible refine grow_alloc ?_ _ | with_reducible refine grow_drewN ?_ _)))) (Zn.zm (Zn.below z5 (by (repeat' (first | with_reducible exact Below.refl _ _ | with_reducible assumption | with_reducible refine grow_step (by with_reducible assumption) ?_ | with_reducible refine grow_drew ?_ | with_reducible refine grow_alloc ?_ _ | with_reducible refine grow_drewN ?_ _))))) (by omega) (by omega) (by omega)).mono ?_; rintro e w' ⟨rfl, hg⟩))
      go_wp2_with fail
      go_meet
      case rel => exact ⟨rfl, by (repeat' (first | with_reducible exact Below.refl _ _ | with_reducible assumption | with_reducible refine grow_step (by with_reducible assumption) ?_ | with_reducible refine grow_drew ?_ | with_reducible refine grow_alloc ?_ _ | with_reducible refine grow_drewN ?_ _))⟩
    · by_cases hB : z = 9223372036854775807
      · go_region_held3 (fun w' => w'.cell? ⟨p, 0, none⟩ = some (.bool s) ∧ w'.cell? ⟨p, 1, none⟩ = some (.slice a l c) ∧ Below wb.heap.size wb w')
          ((refine zk1 x ?_; (repeat' (first | with_reducible exact Below.refl _ _ | with_reducible assumption | with_reducible refine grow_step (by with_reducible assumption) ?_ | with_reducible refine grow_drew ?_ | with_reducible refine grow_alloc ?_ _ | with_reducible refine grow_drewN ?_ _))))
          (first | (go_at_call 38; with_reducible refine (zof_n (-9223372036854775808) (by decide) (by decide) _).mono ?_; rintro e w' ⟨s4, a4, l4, c4, rfl, z4, hg, hl4⟩) | (go_at_call 38; with_reducible refine (zof_n 9223372036854775807 (by decide) (by decide) _).mono ?_; rintro e w' ⟨s5, a5, l5, c5, rfl, z5, hg, hl5⟩) | (go_at_call 48; with_reducible refine (zcmp_gt (Zm.below h (by (repeat' (first | with_reducible exact Below.refl _ _ | with_reducible assumption | with_reducible refine grow_step (by with_reducible assumption) ?_ | with_reducible refine grow_drew ?_ | with_reducible refine grow_alloc ?_ _ | with_reducible refine grow_drewN ?_ _)))) (Zn.zm (Zn.below z4 (by (repeat' (first | with_reducible exact Below.refl _ _ | with_reducible assumption | with_reducible refine grow_step (by with_reducible assumption) ?_ | with_reducible refine grow_drew ?_ | with_reducible refine grow_alloc ?_ _ | with_reducible refine grow_drewN ?_ _))))) (by omega) (by omega) (by omega)).mono ?_; rintro e w' ⟨rfl, hg⟩) | (go_at_call 48; with_reducible refine (zcmp_0 (Zm.below h (by (repeat' (first | with_reducible exact Below.refl _ _ | with_reducible assumption | with_reducible refine grow_step (by with_reducible assumption) ?_ | with_reducible refine grow_drew ?_ | with_reducible refine grow_alloc ?_ _ | with_reducible refine grow_drewN ?_ _)))) (Zn.zm (Zn.below z5 (by (repeat' (first | with_reducible exact Below.refl _ _ | with_reducible assumption | with_reducible refine grow_step (by with_reducible assumption) ?_ | with_reducible refine grow_drew ?_ | with_reducible refine grow_alloc ?_ _ | with_reducible refine grow_drewN ?_ _))))) (by omega) (by omega) (by omega)).mono ?_; rintro e w' ⟨rfl, hg⟩))
        go_wp2_with fail
        go_meet
        case rel => exact ⟨rfl, by (repeat' (first | with_reducible exact Below.refl _ _ | with_reducible assumption | with_reducible refine grow_step (by with_reducible assumption) ?_ | with_reducible refine grow_drew ?_ | with_reducible refine grow_alloc ?_ _ | with_reducible refine grow_drewN ?_ _))⟩
      · go_region_held3 (fun w' => w'.cell? ⟨p, 0, none⟩ = some (.bool s) ∧ w'.cell? ⟨p, 1, none⟩ = some (.slice a l c) ∧ Below wb.heap.size wb w')
          ((refine zk1 x ?_; (repeat' (first | with_reducible exact Below.refl _ _ | with_reducible assumption | with_reducible refine grow_step (by with_reducible assumption) ?_ | with_reducible refine grow_drew ?_ | with_reducible refine grow_alloc ?_ _ | with_reducible refine grow_drewN ?_ _))))
          (first | (go_at_call 38; with_reducible refine (zof_n (-9223372036854775808) (by decide) (by decide) _).mono ?_; rintro e w' ⟨s4, a4, l4, c4, rfl, z4, hg, hl4⟩) | (go_at_call 38; with_reducible refine (zof_n 9223372036854775807 (by decide) (by decide) _).mono ?_; rintro e w' ⟨s5, a5, l5, c5, rfl, z5, hg, hl5⟩) | (go_at_call 48; with_reducible refine (zcmp_gt (Zm.below h (by (repeat' (first | with_reducible exact Below.refl _ _ | with_reducible assumption | with_reducible refine grow_step (by with_reducible assumption) ?_ | with_reducible refine grow_drew ?_ | with_reducible refine grow_alloc ?_ _ | with_reducible refine grow_drewN ?_ _)))) (Zn.zm (Zn.below z4 (by (repeat' (first | with_reducible exact Below.refl _ _ | with_reducible assumption | with_reducible refine grow_step (by with_reducible assumption) ?_ | with_reducible refine grow_drew ?_ | with_reducible refine grow_alloc ?_ _ | with_reducible refine grow_drewN ?_ _))))) (by omega) (by omega) (by omega)).mono ?_; rintro e w' ⟨rfl, hg⟩) | (go_at_call 48; with_reducible refine (zcmp_lt (Zm.below h (by (repeat' (first | with_reducible exact Below.refl _ _ | with_reducible assumption | with_reducible refine grow_step (by with_reducible assumption) ?_ | with_reducible refine grow_drew ?_ | with_reducible refine grow_alloc ?_ _ | with_reducible refine grow_drewN ?_ _)))) (Zn.zm (Zn.below z5 (by (repeat' (first | with_reducible exact Below.refl _ _ | with_reducible assumption | with_reducible refine grow_step (by with_reducible assumption) ?_ | with_reducible refine grow_drew ?_ | with_reducible refine grow_alloc ?_ _ | with_reducible refine grow_drewN ?_ _))))) (by omega) (by omega) (by omega)).mono ?_; rintro e w' ⟨rfl, hg⟩))
        go_wp2_with fail
        go_meet
        case rel => exact ⟨rfl, by (repeat' (first | with_reducible exact Below.refl _ _ | with_reducible assumption | with_reducible refine grow_step (by with_reducible assumption) ?_ | with_reducible refine grow_drew ?_ | with_reducible refine grow_alloc ?_ _ | with_reducible refine grow_drewN ?_ _))⟩
  case rest =>
  obtain ⟨rfl, kw⟩ := hcut
  have u0 := (x.below kw).c0
  have u1 := (x.below kw).c1
  obtain ⟨n, hn, rfl⟩ := h
  have hn0 := hn.nonneg
  go_wp2_with fail
  refine (bare_n2 (hn.below kw) hl).mono ?_
  rintro e w1 ⟨ad, len, cap, rfl, ⟨zs, hr, hcn, hv⟩, k1, -⟩
  replace k1 := grow_step k1 kw
  clear u0 u1
  have u0 := (x.below k1).c0
  have hlen : len ≤ 2 := by
    rw [← hr.1]
    refine canon_len hcn ?_
    rw [hv, show pw 2 = 18446744073709551616 from by decide]
    cases s <;> simp [sg] at h0 h1 <;> omega
  have hzl := hide hr.1
  go_wp2_with fail
  go_loopw [4, 21] (fun wd i wr => ∃ k : Nat, k ≤ len ∧ i = .int .i64 k ∧ wd = .int .u64 (vl zs k) ∧ w1 = wr) (fun _ i _ => len - (intOf i).toNat)
  case atStart => exact ⟨0, Nat.zero_le _, rfl, rfl, rfl⟩
  case round =>
    obtain ⟨k, hk, rfl, rfl, rfl⟩ := hrel
    by_cases hkN : k < len
    · have B0 := lz_bd hcn.1 0
      have B1 := lz_bd hcn.1 1
      have hk2 : k = 0 ∨ k = 1 := by omega
      obtain ⟨_, _, _, _, h5⟩ := hr
      rcases h5 with ⟨_, h6, _⟩ | ⟨a', rfl, h6 | ⟨b, off, rfl, _, hc⟩⟩
      · omega
      · omega
      · have hcn' := hc k hkN
        clear hc
        rcases hk2 with rfl | rfl
        · rw [Nat.add_zero] at hcn'
          go_wp2_with fail
          exact ⟨⟨1, by omega, rfl, by rw [show vl zs 0 = 0 from rfl, or_zero _ B0.1 (by omega)]; simp [vl, pw], trivial⟩, by simp [intOf]; omega⟩
        · go_wp2_with fail
          have e1 : vl zs 1 = lz zs 0 := by simp [vl, pw]
          have e2 : vl zs 2 = lz zs 0 + lz zs 1 * 4294967296 := by rw [vl_succ, e1]; simp [pw]
          exact ⟨⟨2, by omega, rfl, by rw [e2, e1, or_hi _ _ B0.1 B0.2 B1.1 B1.2], trivial⟩, by simp [intOf]; omega⟩
    · obtain rfl : k = len := by omega
      have hvl : vl zs k = n := by rw [← hv]; unfold val; rw [unhide hzl]
      rw [hvl]
      have hB : Below p w w1 := b0.trans (k1.mono (Nat.le_of_lt x.lt))
      cases s
      · go_wp2_with fail
        refine bodyPost_ret (results_tmp2 rfl _ _ _) rfl ?_
        refine ⟨?_, hp.out.symm ▸ hB⟩
        show Ending.returned (.tuple #[.int .i64 (wrap64 n), .bool true]) = _
        rw [show wrap64 n = sg false n from by simp [sg] at h1 ⊢; unfold wrap64; omega]
      · go_wp2_with fail
        refine bodyPost_ret (results_tmp2 rfl _ _ _) rfl ?_
        refine ⟨?_, hp.out.symm ▸ hB⟩
        show Ending.returned (.tuple #[.int .i64 (wrap64 (-wrap64 n)), .bool true]) = _
        rw [show wrap64 (-wrap64 n) = sg true n from by simp [sg] at h0 ⊢; unfold wrap64; omega]

set_option maxRecDepth 100000 in
set_option maxHeartbeats 1600000 in
theorem zint64_out {s : Bool} {a : Option Addr} {l c : Nat} {z : Int} {w : World} (h : Zm w s a l c z) (hl : l ≤ 1099511627776) (h0 : z < -9223372036854775808 ∨ 9223372036854775807 < z) :
    Calls Tryd.prog 39 #[.agg #[.bool s, .slice a l c]] w fun e w' => e = .returned (.tuple #[.int .i64 0, .bool false]) ∧ Below w.heap.size w w' := by
  go_enter Tryd.func39, Tryd.ntmps39
  go_wp2_with fail
  have x := zb_new w s a l c
  have b0 := below_alloc w (.cells #[.bool s, .slice a l c] 49)
  replace h := h.below b0
  generalize w.alloc (.cells #[.bool s, .slice a l c] 49) = wb at *
  generalize hp : w.heap.size = p at *
  replace hp := hide hp
  by_cases hA : z < -9223372036854775808
  · have u0 := x.c0
    have u1 := x.c1
    go_region_with (first | (go_at_call 38; with_reducible refine (zof_n (-9223372036854775808) (by decide) (by decide) _).mono ?_; rintro e w' ⟨s4, a4, l4, c4, rfl, z4, hg, hl4⟩; have v0 := (ZB.below x (show Below wb.heap.size wb w' by (repeat' (first | with_reducible exact Below.refl _ _ | with_reducible assumption | with_reducible refine grow_step (by with_reducible assumption) ?_ | with_reducible refine grow_drew ?_ | with_reducible refine grow_alloc ?_ _ | with_reducible refine grow_drewN ?_ _)))).c0; have v1 := (ZB.below x (show Below wb.heap.size wb w' by (repeat' (first | with_reducible exact Below.refl _ _ | with_reducible assumption | with_reducible refine grow_step (by with_reducible assumption) ?_ | with_reducible refine grow_drew ?_ | with_reducible refine grow_alloc ?_ _ | with_reducible refine grow_drewN ?_ _)))).c1) | (go_at_call 48; with_reducible refine (zcmp_lt (Zm.below h (by (repeat' (first | with_reducible exact Below.refl _ _ | with_reducible assumption | with_reducible refine grow_step (by with_reducible assumption) ?_ | with_reducible refine grow_drew ?_ | with_reducible refine grow_alloc ?_ _ | with_reducible refine grow_drewN ?_ _)))) (Zn.zm (Zn.below z4 (by (repeat' (first | with_reducible exact Below.refl _ _ | with_reducible assumption | with_reducible refine grow_step (by with_reducible assumption) ?_ | with_reducible refine grow_drew ?_ | with_reducible refine grow_alloc ?_ _ | with_reducible refine grow_drewN ?_ _))))) (by omega) (by omega) (by omega)).mono ?_; rintro e w' ⟨rfl, hg⟩))
    all_goals (
      have kw : Below wb.heap.size wb w' := by (repeat' (first | with_reducible exact Below.refl _ _ | with_reducible assumption | with_reducible refine grow_step (by with_reducible assumption) ?_ | with_reducible refine grow_drew ?_ | with_reducible refine grow_alloc ?_ _ | with_reducible refine grow_drewN ?_ _))
      go_wp2_with fail
      refine bodyPost_ret (results_tmp2 rfl _ _ _) rfl ?_
      exact ⟨rfl, hp.out.symm ▸ b0.trans (kw.mono (Nat.le_of_lt x.lt))⟩)
  · go_region_held3 (fun w' => w'.cell? ⟨p, 0, none⟩ = some (.bool s) ∧ w'.cell? ⟨p, 1, none⟩ = some (.slice a l c) ∧ Below wb.heap.size wb w')
      ((refine zk1 x ?_; (repeat' (first | with_reducible exact Below.refl _ _ | with_reducible assumption | with_reducible refine grow_step (by with_reducible assumption) ?_ | with_reducible refine grow_drew ?_ | with_reducible refine grow_alloc ?_ _ | with_reducible refine grow_drewN ?_ _))))
      (first | (go_at_call 38; with_reducible refine (zof_n (-9223372036854775808) (by decide) (by decide) _).mono ?_; rintro e w' ⟨s4, a4, l4, c4, rfl, z4, hg, hl4⟩) | (go_at_call 38; with_reducible refine (zof_n 9223372036854775807 (by decide) (by decide) _).mono ?_; rintro e w' ⟨s5, a5, l5, c5, rfl, z5, hg, hl5⟩) | (go_at_call 48; with_reducible refine (zcmp_gt (Zm.below h (by (repeat' (first | with_reducible exact Below.refl _ _ | with_reducible assumption | with_reducible refine grow_step (by with_reducible assumption) ?_ | with_reducible refine grow_drew ?_ | with_reducible refine grow_alloc ?_ _ | with_reducible refine grow_drewN ?_ _)))) (Zn.zm (Zn.below z4 (by (repeat' (first | with_reducible exact Below.refl _ _ | with_reducible assumption | with_reducible refine grow_step (by with_reducible assumption) ?_ | with_reducible refine grow_drew ?_ | with_reducible refine grow_alloc ?_ _ | with_reducible refine grow_drewN ?_ _))))) (by omega) (by omega) (by omega)).mono ?_; rintro e w' ⟨rfl, hg⟩) | (go_at_call 48; with_reducible refine (zcmp_gt (Zm.below h (by (repeat' (first | with_reducible exact Below.refl _ _ | with_reducible assumption | with_reducible refine grow_step (by with_reducible assumption) ?_ | with_reducible refine grow_drew ?_ | with_reducible refine grow_alloc ?_ _ | with_reducible refine grow_drewN ?_ _)))) (Zn.zm (Zn.below z5 (by (repeat' (first | with_reducible exact Below.refl _ _ | with_reducible assumption | with_reducible refine grow_step (by with_reducible assumption) ?_ | with_reducible refine grow_drew ?_ | with_reducible refine grow_alloc ?_ _ | with_reducible refine grow_drewN ?_ _))))) (by omega) (by omega) (by omega)).mono ?_; rintro e w' ⟨rfl, hg⟩))
    rename_i hH
    have kw := hH.2.2
    go_wp2_with fail
    refine bodyPost_ret (results_tmp2 rfl _ _ _) rfl ?_
    exact ⟨rfl, hp.out.symm ▸ b0.trans (kw.mono (Nat.le_of_lt x.lt))⟩

/-- does a number stand as it should? -/
def StandsB (s : Bool) (l : Nat) (xs : List Int) : Bool := (s == (s && decide (0 < tl xs l))) && decide (tl xs l = l)

set_option maxRecDepth 100000 in
set_option maxHeartbeats 1600000 in
theorem zvalid_n {s : Bool} {a : Option Addr} {l c : Nat} {xs : List Int} {w : World} (h : Rd w a l c xs) :
    Calls Tryd.prog 41 #[.agg #[.bool s, .slice a l c]] w fun e w' => e = .returned (.bool (StandsB s l xs)) ∧ Below w.heap.size w w' := by
  have B := lz_bd h.2.2.2.1 (l - 1)
  go_enter Tryd.func41, Tryd.ntmps41
  by_cases hl : l = 0
  · subst hl
    have e : StandsB s 0 xs = !s := by cases s <;> simp [StandsB, tl]
    rw [e]
    go_wp2_with fail
    go_ret
    exact ⟨by simp, below_alloc _ _⟩
  · obtain ⟨l, rfl⟩ : ∃ k, l = k + 1 := ⟨l - 1, by omega⟩
    have e : StandsB s (l + 1) xs = !(decide (lz xs l = 0)) := by
      have ht := tl_le xs l
      by_cases hz : lz xs l = 0
      · have : tl xs (l + 1) = tl xs l := by simp [tl, hz]
        simp [StandsB, this, hz]
        omega
      · have : tl xs (l + 1) = l + 1 := by simp [tl, hz]
        simp [StandsB, this, hz]
    rw [Nat.add_sub_cancel] at B
    obtain ⟨_, _, _, _, h5⟩ := h
    rcases h5 with ⟨_, h6, _⟩ | ⟨a', rfl, h6 | ⟨b, off, rfl, hb, hc⟩⟩
    · omega
    · omega
    · have hcl := hc l (by omega)
      clear hc
      rw [e]
      go_wp2_with fail
      go_ret
      exact ⟨ret_bool (by by_cases hz : lz xs l = 0 <;> simp [hz]), below_alloc _ _⟩

set_option maxRecDepth 100000 in
set_option maxHeartbeats 1600000 in
theorem rint64_in {s : Bool} {a : Option Addr} {l c : Nat} {z : Int} {w : World} (h : Zm w s a l c z) (hl : l ≤ 1099511627776) (h0 : -9223372036854775808 ≤ z) (h1 : z ≤ 9223372036854775807) :
    Calls Tryd.prog 42 #[.agg #[.bool s, .slice a l c]] w fun e w' => e = .returned (.tuple #[.int .i64 z, .bool true]) ∧ Below w.heap.size w w' := by
  go_enter Tryd.func42, Tryd.ntmps42
  go_wp2_with fail
  have x := zb_new w s a l c
  have b0 := below_alloc w (.cells #[.bool s, .slice a l c] 49)
  replace h := h.below b0
  generalize w.alloc (.cells #[.bool s, .slice a l c] 49) = wb at *
  generalize hp : w.heap.size = p at *
  replace hp := hide hp
  refine (rnorm_n h hl).mono ?_
  rintro e w1 ⟨s', ad, len, cap, rfl, ⟨n, ⟨zs, hr, hcn, hv⟩, hz, hs'⟩, k1, -⟩
  have hn0 : 0 ≤ n := by rw [← hv]; exact val_nonneg hcn.1
  have bb : Below p w w1 := b0.trans (k1.mono (Nat.le_of_lt x.lt))
  have hpw : p ≤ w1.heap.size := Nat.le_trans (Nat.le_of_lt x.lt) k1.size
  clear x k1
  go_upto_region 2 with (fail)
  have xn := zb_new w1 s' ad len cap
  have k2 := below_alloc w1 (.cells #[.bool s', .slice ad len cap] 49)
  replace hr := hr.below k2
  replace bb := bb.trans (k2.mono hpw)
  generalize w1.alloc (.cells #[.bool s', .slice ad len cap] 49) = w2 at *
  generalize w1.heap.size = q at *
  have u0 := xn.c0
  have u1 := xn.c1
  have hlen : len ≤ 2 := by
    rw [← hr.1]
    refine canon_len hcn ?_
    rw [hv, show pw 2 = 18446744073709551616 from by decide]
    rw [hz] at h0 h1
    cases s' <;> simp [sg] at h0 h1 <;> omega
  have hzl := hide hr.1
  have hlen0 : len = 0 ∨ 0 < len := by omega
  go_wp2_with fail
  go_loopw [5, 6] (fun uu i wr => ∃ (j : Nat) (u : Int), j ≤ len ∧ i = .int .i64 ((j : Int) - 1) ∧ uu = .int .u64 u ∧ 0 ≤ u ∧ Hid (u < pw (len - j)) ∧ Hid (val zs = vl zs j + pw j * u) ∧ w2 = wr) (fun _ i _ => (intOf i + 1).toNat)
  case atStart =>
    refine ⟨len, 0, Nat.le_refl _, rfl, rfl, by decide, ?_, ?_, rfl⟩
    · show _ < _; exact pw_pos _
    · show _ = _; rw [Int.mul_zero, Int.add_zero]; unfold val; rw [unhide hzl]
  case round =>
    obtain ⟨j, u, hj, rfl, rfl, hu0, HU, HV, rfl⟩ := hrel
    by_cases hj0 : 0 < j
    · obtain ⟨j, rfl⟩ : ∃ i, j = i + 1 := ⟨j - 1, by omega⟩
      have B0 := lz_bd hcn.1 j
      have hu1 : u < 4294967296 := by
        have h1 := HU.out
        have h2 := pw_mono (show len - (j + 1) ≤ 1 by omega)
        rw [show pw 1 = 4294967296 from by decide] at h2
        omega
      have HV2 : Hid (val zs = vl zs j + pw j * (u * 4294967296 + lz zs j)) := by
        show _ = _
        rw [HV.out, vl_succ, pw_succ, Int.mul_add, Int.mul_comm (lz zs j) (pw j), Int.mul_comm 4294967296 (pw j), Int.mul_assoc, Int.mul_comm 4294967296 u]
        omega
      have HU2 : Hid (u * 4294967296 + lz zs j < pw (len - j)) := by
        show _ < _
        have h1 := HU.out
        rw [show len - j = len - (j + 1) + 1 from by omega, pw_succ]
        omega
      have hor := or_lo (lz zs j) u B0.1 B0.2 hu0 hu1
      obtain ⟨_, _, _, _, h5⟩ := hr
      rcases h5 with ⟨_, h6, _⟩ | ⟨a', rfl, h6 | ⟨b, off, rfl, _, hc⟩⟩
      · omega
      · omega
      · have hcl := hc j (by omega)
        clear hc
        generalize lz zs j = xj at *
        go_wp2_with fail
        exact ⟨⟨j, _, by omega, by go_num, rfl, by omega, HU2, HV2, trivial⟩, by simp [intOf] <;> omega⟩
    · obtain rfl : j = 0 := by omega
      have hun : u = n := by rw [← hv, HV.out]; simp [vl, pw]
      subst hun
      cases s'
      · have hz' : z = u := hz
        go_wp2_with fail
        refine bodyPost_ret (results_tmp2 rfl _ _ _) rfl ?_
        refine ⟨?_, hp.out.symm ▸ bb⟩
        show Ending.returned (.tuple #[.int .i64 u, .bool true]) = _
        rw [hz']
      · have hz' : z = -u := hz
        have hu1 : u ≠ 0 := hs' rfl
        go_wp2_with fail
        refine bodyPost_ret (results_tmp2 rfl _ _ _) rfl ?_
        refine ⟨?_, hp.out.symm ▸ bb⟩
        show Ending.returned (.tuple #[.int .i64 (-(u - 1) - 1), .bool true]) = _
        rw [show -(u - 1) - 1 = sg true u from by show _ = -u; omega]

set_option maxRecDepth 100000 in
set_option maxHeartbeats 1600000 in
theorem rint64_out {s : Bool} {a : Option Addr} {l c : Nat} {z : Int} {w : World} (h : Zm w s a l c z) (hl : l ≤ 1099511627776) (h0 : z < -9223372036854775808 ∨ 9223372036854775807 < z) :
    Calls Tryd.prog 42 #[.agg #[.bool s, .slice a l c]] w fun e w' => e = .returned (.tuple #[.int .i64 0, .bool false]) ∧ Below w.heap.size w w' := by
  go_enter Tryd.func42, Tryd.ntmps42
  go_wp2_with fail
  have x := zb_new w s a l c
  have b0 := below_alloc w (.cells #[.bool s, .slice a l c] 49)
  replace h := h.below b0
  generalize w.alloc (.cells #[.bool s, .slice a l c] 49) = wb at *
  generalize hp : w.heap.size = p at *
  replace hp := hide hp
  refine (rnorm_n h hl).mono ?_
  rintro e w1 ⟨s', ad, len, cap, rfl, ⟨n, ⟨zs, hr, hcn, hv⟩, hz, hs'⟩, k1, -⟩
  have hn0 : 0 ≤ n := by rw [← hv]; exact val_nonneg hcn.1
  have bb : Below p w w1 := b0.trans (k1.mono (Nat.le_of_lt x.lt))
  have hpw : p ≤ w1.heap.size := Nat.le_trans (Nat.le_of_lt x.lt) k1.size
  clear x k1
  go_upto_region 2 with (fail)
  have xn := zb_new w1 s' ad len cap
  have k2 := below_alloc w1 (.cells #[.bool s', .slice ad len cap] 49)
  replace hr := hr.below k2
  replace bb := bb.trans (k2.mono hpw)
  generalize w1.alloc (.cells #[.bool s', .slice ad len cap] 49) = w2 at *
  generalize w1.heap.size = q at *
  have u0 := xn.c0
  have u1 := xn.c1
  by_cases hlen : 2 < len
  · go_wp2_with fail
    refine bodyPost_ret (results_tmp2 rfl _ _ _) rfl ?_
    exact ⟨rfl, hp.out.symm ▸ bb⟩
  replace hlen : len ≤ 2 := by omega
  have hn2 : n < 18446744073709551616 := by
    have h3 := (vl_bd hcn.1 zs.length).2
    have h4 := pw_mono (show zs.length ≤ 2 by rw [hr.1]; exact hlen)
    rw [show pw 2 = 18446744073709551616 from by decide] at h4
    have h5 : vl zs zs.length = n := hv
    omega
  have hzl := hide hr.1
  have hlen0 : len = 0 ∨ 0 < len := by omega
  go_wp2_with fail
  go_loopw [5, 6] (fun uu i wr => ∃ (j : Nat) (u : Int), j ≤ len ∧ i = .int .i64 ((j : Int) - 1) ∧ uu = .int .u64 u ∧ 0 ≤ u ∧ Hid (u < pw (len - j)) ∧ Hid (val zs = vl zs j + pw j * u) ∧ w2 = wr) (fun _ i _ => (intOf i + 1).toNat)
  case atStart =>
    refine ⟨len, 0, Nat.le_refl _, rfl, rfl, by decide, ?_, ?_, rfl⟩
    · show _ < _; exact pw_pos _
    · show _ = _; rw [Int.mul_zero, Int.add_zero]; unfold val; rw [unhide hzl]
  case round =>
    obtain ⟨j, u, hj, rfl, rfl, hu0, HU, HV, rfl⟩ := hrel
    by_cases hj0 : 0 < j
    · obtain ⟨j, rfl⟩ : ∃ i, j = i + 1 := ⟨j - 1, by omega⟩
      have B0 := lz_bd hcn.1 j
      have hu1 : u < 4294967296 := by
        have h1 := HU.out
        have h2 := pw_mono (show len - (j + 1) ≤ 1 by omega)
        rw [show pw 1 = 4294967296 from by decide] at h2
        omega
      have HV2 : Hid (val zs = vl zs j + pw j * (u * 4294967296 + lz zs j)) := by
        show _ = _
        rw [HV.out, vl_succ, pw_succ, Int.mul_add, Int.mul_comm (lz zs j) (pw j), Int.mul_comm 4294967296 (pw j), Int.mul_assoc, Int.mul_comm 4294967296 u]
        omega
      have HU2 : Hid (u * 4294967296 + lz zs j < pw (len - j)) := by
        show _ < _
        have h1 := HU.out
        rw [show len - j = len - (j + 1) + 1 from by omega, pw_succ]
        omega
      have hor := or_lo (lz zs j) u B0.1 B0.2 hu0 hu1
      obtain ⟨_, _, _, _, h5⟩ := hr
      rcases h5 with ⟨_, h6, _⟩ | ⟨a', rfl, h6 | ⟨b, off, rfl, _, hc⟩⟩
      · omega
      · omega
      · have hcl := hc j (by omega)
        clear hc
        generalize lz zs j = xj at *
        go_wp2_with fail
        exact ⟨⟨j, _, by omega, by go_num, rfl, by omega, HU2, HV2, trivial⟩, by simp [intOf] <;> omega⟩
    · obtain rfl : j = 0 := by omega
      have hun : u = n := by rw [← hv, HV.out]; simp [vl, pw]
      subst hun
      cases s'
      · have hz' : z = u := hz
        go_wp2_with fail
        refine bodyPost_ret (results_tmp2 rfl _ _ _) rfl ?_
        exact ⟨rfl, hp.out.symm ▸ bb⟩
      · have hz' : z = -u := hz
        go_wp2_with fail
        refine bodyPost_ret (results_tmp2 rfl _ _ _) rfl ?_
        exact ⟨rfl, hp.out.symm ▸ bb⟩

set_option maxRecDepth 100000 in
set_option maxHeartbeats 1600000 in
theorem rnorm_any {s : Bool} {a : Option Addr} {l c : Nat} {xs : List Int} {w : World} (h : Rd w a l c xs) (hl : l ≤ 1099511627776) :
    Calls Tryd.prog 45 #[.agg #[.bool s, .slice a l c]] w fun e w' => ∃ ad, e = .returned (.agg #[.bool (s && decide (0 < tl xs l)), .slice ad (tl xs l) (tl xs l)]) ∧ Below w.heap.size w w' := by
  have hn := h
  go_enter Tryd.func45, Tryd.ntmps45
  go_wp2_with fail
  have x := (zb_new w s a l c).below (below_alloc _ (.cells #[.bool false, .slice none 0 0] 49))
  have y := zb_new (w.alloc (.cells #[.bool s, .slice a l c] 49)) false none 0 0
  have b0 : Below w.heap.size w ((w.alloc (.cells #[.bool s, .slice a l c] 49)).alloc (.cells #[.bool false, .slice none 0 0] 49)) := below_alloc' (below_alloc _ _) _
  rw [show (w.alloc (.cells #[.bool s, .slice a l c] 49)).heap.size = w.heap.size + 1 from by simp] at y
  generalize (w.alloc (.cells #[.bool s, .slice a l c] 49)).alloc (.cells #[.bool false, .slice none 0 0] 49) = wb at *
  have hpr : w.heap.size < w.heap.size + 1 := by omega
  replace hn := hn.below b0
  generalize hp : w.heap.size = p at *
  replace hp := hide hp
  generalize p + 1 = r at *
  have hrb := Nat.le_of_lt y.lt
  refine (trim_any hn (by omega)).mono ?_
  rintro e w' ⟨rfl, ho, -⟩
  have hg := ho.1
  obtain ⟨len, hlen⟩ : ∃ n, n = tl xs l := ⟨_, rfl⟩
  rw [← hlen] at ho ⊢
  replace hlen := hide hlen
  have y' : ZB w' r false none 0 0 := ZB.below y (by (repeat' (first | with_reducible exact Below.refl _ _ | with_reducible assumption | with_reducible refine grow_step (by with_reducible assumption) ?_ | with_reducible refine grow_drew ?_ | with_reducible refine grow_alloc ?_ _ | with_reducible refine grow_drewN ?_ _))); have y0 := y'.c0; have y1 := y'.c1; have y2 := y'.f 0; have y3 := y'.f 1
  have u0 := (x.below hg).c0
  have hB : Below p w w' := b0.trans (hg.mono (Nat.le_of_lt (Nat.lt_of_lt_of_le hpr hrb)))
  cases s
  · go_wp2
    refine bodyPost_ret (results_cell_row rfl _ _ r 49 _ (0, 0) _ rfl (zb_fin y' false _ _ _) Tryd.underlying49 rfl (by kernel_rfl)) rfl ?_
    exact ⟨some ⟨wb.heap.size, 0, none⟩, by rw [← unhide hlen]; simp, hp.out.symm ▸ (hB.setCell (Nat.le_of_lt hpr) _).setCell (Nat.le_of_lt hpr) _⟩
  · go_wp2
    refine bodyPost_ret (results_cell_row rfl _ _ r 49 _ (0, 0) _ rfl (zb_fin y' (decide (0 < len)) _ _ _) Tryd.underlying49 rfl (by kernel_rfl)) rfl ?_
    exact ⟨some ⟨wb.heap.size, 0, none⟩, by rw [← unhide hlen]; simp, hp.out.symm ▸ (hB.setCell (Nat.le_of_lt hpr) _).setCell (Nat.le_of_lt hpr) _⟩

set_option maxRecDepth 100000 in
set_option maxHeartbeats 1600000 in
theorem rvalid_n {s : Bool} {a : Option Addr} {l c : Nat} {xs : List Int} {w : World} (h : Rd w a l c xs) (hl : l ≤ 1099511627776) :
    Calls Tryd.prog 46 #[.agg #[.bool s, .slice a l c]] w fun e w' => e = .returned (.bool (StandsB s l xs)) ∧ Below w.heap.size w w' := by
  go_enter Tryd.func46, Tryd.ntmps46
  go_wp2_with fail
  have x := zb_new w s a l c
  have b0 := below_alloc w (.cells #[.bool s, .slice a l c] 49)
  have hn := h.below b0
  generalize w.alloc (.cells #[.bool s, .slice a l c] 49) = wb at *
  generalize hp : w.heap.size = p at *
  replace hp := hide hp
  refine (rnorm_any (s := s) hn hl).mono ?_
  rintro e w1 ⟨ad, rfl, k1⟩
  have u0 := (x.below k1).c0
  have u1 := (x.below k1).c1
  have hpw : p < w1.heap.size := Nat.lt_of_lt_of_le x.lt k1.size
  have hB : Below p w w1 := b0.trans (k1.mono (Nat.le_of_lt x.lt))
  obtain ⟨len, hlen⟩ : ∃ n, n = tl xs l := ⟨_, rfl⟩
  rw [← hlen]
  replace hlen := hide hlen
  by_cases hs : (s && decide (0 < len)) = s
  · have e1 : (s == (s && decide (0 < len))) = true := by rw [hs]; simp
    have e2 : ((s && decide (0 < len)) == s) = true := by rw [hs]; simp
    have E1 := hide e1
    clear e1
    generalize hsn : (s && decide (0 < len)) = s' at *
    replace hsn := hide hsn
    go_wp2
    go_ret
    exact ⟨ret_bool (by unfold StandsB; rw [← unhide hlen, unhide hsn, unhide E1]; by_cases hl0 : len = l <;> simp [hl0] <;> omega), hp.out.symm ▸ hB.alloc (Nat.le_of_lt hpw) _⟩
  · have e1 : (s == (s && decide (0 < len))) = false := beq_eq_false_iff_ne.2 (fun e => hs e.symm)
    have e2 : ((s && decide (0 < len)) == s) = false := beq_eq_false_iff_ne.2 hs
    have E1 := hide e1
    clear e1
    generalize hsn : (s && decide (0 < len)) = s' at *
    replace hsn := hide hsn
    go_wp2
    go_ret
    exact ⟨ret_bool (by unfold StandsB; rw [← unhide hlen, unhide hsn, unhide E1]; simp), hp.out.symm ▸ hB.alloc (Nat.le_of_lt hpw) _⟩

end Go.Proofs.YtmbeaopcpckiaaaDoor
