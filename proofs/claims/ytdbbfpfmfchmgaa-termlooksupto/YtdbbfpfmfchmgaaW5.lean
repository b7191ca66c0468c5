/-
  Walks: Mul.
-/
import Derived.Test.YtdbbfpfmfchmgaaW4
namespace Go.Proofs.Ytdbbfpfmfchmgaa
open Go.RowKit

theorem run_mk2 (n m : Nat) (hn : n + m ≤ 70368744177664) (u : World) : (Instr.makeSlice 23 (.int .i64 ((n : Int) + (m : Int))) (.int .i64 ((n : Int) + (m : Int)))).run Try.prog u =
      .ok (.slice (some ⟨u.heap.size, 0, none⟩) (n + m) (n + m)) (u.alloc (.cells (U (List.replicate (n + m) 0)) 65)) := run_mk (n + m) hn u

set_option maxRecDepth 100000 in
set_option maxHeartbeats 1600000 in
theorem mul_any {a1 a2 : Option Addr} {l1 c1 l2 c2 : Nat} {xs ys : List Int} {w : World} (h1 : Rd w a1 l1 c1 xs) (h2 : Rd w a2 l2 c2 ys) (hl1 : l1 ≤ 1099511627776) (hl2 : l2 ≤ 1099511627776) :
    Calls Try.prog 74 #[.slice a1 l1 c1, .slice a2 l2 c2] w fun e w' => ∃ ad len cap zs, e = .returned (.slice ad len cap) ∧ Out w w' ad len cap zs ∧ Canon zs ∧ val zs = val xs * val ys ∧ len ≤ l1 + l2 := by
  have t1 := h1.trim
  have t2 := h2.trim
  have e1 := val_trim xs
  have e2 := val_trim ys
  have b1 : tl xs l1 ≤ l1 := tl_le _ _
  have b2 : tl ys l2 ≤ l2 := tl_le _ _
  generalize hX : trim xs = X at *
  generalize hY : trim ys = Y at *
  clear hX hY
  generalize hn1 : tl xs l1 = n1 at *
  generalize hn2 : tl ys l2 = n2 at *
  have HN1 : Hid (tl xs l1 = n1) := hn1
  have HN2 : Hid (tl ys l2 = n2) := hn2
  have E1 : Hid (val X = val xs) := e1
  have E2 : Hid (val Y = val ys) := e2
  have L1 : Hid (X.length = n1) := t1.1
  have L2 : Hid (Y.length = n2) := t2.1
  clear hn1 hn2 e1 e2
  have hmk := run_mk2 n1 n2 (by omega)
  go_enter Try.func74, Try.ntmps74
  go_wp2_with fail
  refine (bare_any h1).mono ?_
  rintro e w' ⟨rfl, rfl⟩
  rw [HN1.out]
  go_wp2_with fail
  refine (bare_any h2).mono ?_
  rintro e w' ⟨rfl, rfl⟩
  rw [HN2.out]
  go_wp2_with fail
  go_loopw [24] (fun i wr => ∃ (k : Nat) (P : List Int), k ≤ n1 ∧ i = .int .i64 k ∧ P.length = n1 + n2 ∧ Limbs P ∧ Row wr w.heap.size P ∧ Below w.heap.size w wr ∧ (∀ t, k + n2 ≤ t → lz P t = 0) ∧ vl P (k + n2) = vl X k * val Y) (fun i _ => n1 - (intOf i).toNat)
  case atStart => exact ⟨0, _, Nat.zero_le _, rfl, List.length_replicate, Limbs.replicate _, row_alloc w _, (Below.refl _ _).alloc (Nat.le_refl _) _, fun t _ => lz_replicate _ _, by rw [vl_replicate]; simp [vl]⟩
  case round =>
    obtain ⟨k, P, hk, rfl, hPl, hPL, hrow, hbel, hPz, hv⟩ := hrel
    have HV := hide hv
    have HZ := hide hPz
    clear hv hmk hPz
    by_cases hkN : k < n1
    · go_wp2_with fail
      go_loopw [9, 28] (fun c j wj => ∃ (m : Nat) (cr : Int) (zs : List Int), m ≤ n2 ∧ j = .int .i64 m ∧ c = .int .u64 cr ∧ 0 ≤ cr ∧ cr < 4294967296 ∧ zs.length = n1 + n2 ∧ Limbs zs ∧ Row wj w.heap.size zs ∧ Below w.heap.size w wj ∧ (∀ t, k + m ≤ t → lz zs t = lz P t) ∧ vl zs (k + m) + cr * pw (k + m) = vl P (k + m) + lz X k * vl Y m * pw k) (fun _ j _ => n2 - (intOf j).toNat)
      case atStart => exact ⟨0, 0, P, Nat.zero_le _, rfl, rfl, by decide, by decide, hPl, hPL, hrow, hbel, fun _ _ => rfl, by simp [vl]⟩
      case round =>
        obtain ⟨m, cr, zs, hm, rfl, rfl, hc0, hc1, hzl, hzL, hrz, hbz, hsame, hvz⟩ := hrel
        have HVZ := hide hvz
        have HSAME := hide hsame
        clear hvz hsame hrow hbel
        by_cases hmN : m < n2
        · have q1 := t1.below hbz
          have q2 := t2.below hbz
          have q3 := hrz.rd hzL (off := 0) (len := n1 + n2) (cap := n1 + n2) (by omega) (Nat.le_refl _) (by omega)
          rw [List.drop_zero, List.take_of_length_le (by omega)] at q3
          have hcell := hrz.cell (i := k + m) (by omega)
          have hfr := hrz.frozen (k + m)
          go_wp2_with fail
          refine (limb_any q1 (k : Int) (by omega) (by omega)).mono ?_
          rintro e w' ⟨rfl, rfl⟩
          rw [Int.toNat_natCast]
          go_wp2_with fail
          refine (limb_any q2 (m : Int) (by omega) (by omega)).mono ?_
          rintro e w' ⟨rfl, rfl⟩
          rw [Int.toNat_natCast]
          have B1 := lz_bd q1.2.2.2.1 k
          have B2 := lz_bd q2.2.2.2.1 m
          have B3 := lz_bd hzL (k + m)
          have B4 := mul_bd B1.1 B1.2 B2.1 B2.2
          go_wp2_with fail
          refine (limb_any q3 ((k : Int) + (m : Int)) (by omega) (by omega)).mono ?_
          rintro e w' ⟨rfl, rfl⟩
          rw [show ((k : Int) + (m : Int)).toNat = k + m from by omega]
          have HS := hide (mul_step (zs := zs) (P := P) (Y := Y) (i := k) (j := m) (cr := cr) (x := lz X k) (by omega) ((unhide HSAME) (k + m) (Nat.le_refl _)) (unhide HVZ))
          clear q1 q2 q3 HVZ
          generalize hz : lz zs (k + m) = z at *
          have Hz := hide hz
          clear hz
          generalize hp : lz X k * lz Y m = p at *
          have Hp := hide hp
          clear hp
          go_wp2_with fail
          rw [mask64 _ (by omega) (by omega), Int.emod_emod_of_dvd _ (Int.dvd_refl _)]
          exact ⟨⟨m + 1, _, _, by omega, by go_num, rfl, by omega, by omega, by rw [List.length_set]; exact hzl, hzL.set (k + m) (by omega) (by omega), hrz.set (k + m) _, below_set hbz (k + m) _, fun t ht => by rw [lz_set _ _ _ _ (by omega), if_neg (by omega)]; exact (unhide HSAME) t (by omega), unhide HS⟩, by simp [intOf]; omega⟩
        · obtain rfl : m = n2 := by omega
          have hcell := hrz.cell (i := k + m) (by omega)
          have hfr := hrz.frozen (k + m)
          have HS := hide (mul_last (zs := zs) (P := P) (X := X) (Y := Y) (i := k) (m := m) (cr := cr) (by omega) L2.out (unhide HVZ) (unhide HV))
          clear HVZ HV
          go_wp2_with fail
          go_roundw
          case rel => exact ⟨k + 1, _, by omega, by go_num, by rw [List.length_set]; exact hzl, hzL.set (k + m) (by omega) (by omega), hrz.set (k + m) _, below_set hbz (k + m) _, fun t ht => by rw [lz_set _ _ _ _ (by omega), if_neg (by omega), (unhide HSAME) t (by omega)]; exact (unhide HZ) t (by omega), by rw [show k + 1 + m = k + m + 1 from by omega]; exact unhide HS⟩
          case measure => simp [intOf]; omega
    · obtain rfl : k = n1 := by omega
      have hval : Hid (val P = val xs * val ys) := by
        show _ = _
        have e4 : vl P (k + n2) = val P := by unfold val; rw [hPl]
        have e5 : vl X k = val xs := by rw [vl_ge (by have := L1.out; omega), E1.out]
        rw [← e4, unhide HV, e5, E2.out]
      clear HV
      go_wp2_with fail
      refine (bare_own hrow hPL hPl (by omega)).mono ?_
      rintro e w' ⟨rfl, rfl⟩
      go_wp2_with fail
      go_ret
      obtain ⟨o1, o2, o3, o4⟩ := own_trim hbel hrow hPL hPl (by omega)
      exact ⟨_, _, _, _, rfl, o1, o2, o3.trans (unhide hval), by omega⟩
end Go.Proofs.Ytdbbfpfmfchmgaa
