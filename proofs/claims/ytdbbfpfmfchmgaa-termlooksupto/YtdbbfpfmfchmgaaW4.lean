/-
  Walks: Sub.
-/
import Derived.Test.YtdbbfpfmfchmgaaW3
namespace Go.Proofs.Ytdbbfpfmfchmgaa
open Go.RowKit

theorem below_drewN (B : Nat) (w : World) (q : Nat) : Below B w (w.drewN q) := ⟨rfl, rfl, rfl, Nat.le_refl _, fun _ _ => rfl⟩
theorem below_alloc_drewN (w : World) (q : Nat) (o : Obj) : Below w.heap.size w ((w.drewN q).alloc o) :=
  ⟨rfl, rfl, rfl, by simp, fun k hk => Below.heap_alloc (w.drewN q) o k hk⟩

set_option maxRecDepth 100000 in
set_option maxHeartbeats 1600000 in
/-- a difference below 0 -/
theorem sub_neg {a1 a2 : Option Addr} {l1 c1 l2 c2 : Nat} {xs ys : List Int} {w : World} (h1 : Rd w a1 l1 c1 xs) (h2 : Rd w a2 l2 c2 ys) (hlt : val xs < val ys) :
    Calls Try.prog 73 #[.slice a1 l1 c1, .slice a2 l2 c2] w fun e w' => e = .returned (.tuple #[.slice none 0 0, .int .i64 10]) ∧ ∃ n, w' = w.drewN n := by
  have t1 := h1.trim
  have t2 := h2.trim
  have e1 := val_trim xs
  have e2 := val_trim ys
  have hcmp : decide (cmpI (val (trim xs)) (val (trim ys)) < 0) = true := by
    rw [cmpI_lt (by omega)]; decide
  clear e1 e2
  go_enter Try.func73, Try.ntmps73
  go_wp2_with fail
  refine (bare_any h1).mono ?_
  rintro e w' ⟨rfl, rfl⟩
  go_wp2_with fail
  refine (bare_any h2).mono ?_
  rintro e w' ⟨rfl, rfl⟩
  go_wp2_with fail
  refine (cmp_any t1 t2).mono ?_
  rintro e w' ⟨rfl, qd, rfl⟩
  go_wp2_with fail
  go_ret2
  exact ⟨rfl, qd, rfl⟩

set_option maxRecDepth 100000 in
set_option maxHeartbeats 1600000 in
theorem sub_any {a1 a2 : Option Addr} {l1 c1 l2 c2 : Nat} {xs ys : List Int} {w : World} (h1 : Rd w a1 l1 c1 xs) (h2 : Rd w a2 l2 c2 ys) (hl1 : l1 ≤ 1099511627776) (hge : val ys ≤ val xs) :
    Calls Try.prog 73 #[.slice a1 l1 c1, .slice a2 l2 c2] w fun e w' => ∃ ad len cap zs, e = .returned (.tuple #[.slice ad len cap, .int .i64 0]) ∧ Out w w' ad len cap zs ∧ Canon zs ∧ val zs = val xs - val ys ∧ len ≤ l1 := by
  have t1 := h1.trim
  have t2 := h2.trim
  have k1 := canon_trim h1.2.2.2.1
  have k2 := canon_trim h2.2.2.2.1
  have e1 := val_trim xs
  have e2 := val_trim ys
  have b1 : tl xs l1 ≤ l1 := tl_le _ _
  generalize hX : trim xs = X at *
  generalize hY : trim ys = Y at *
  clear hX hY
  generalize hn1 : tl xs l1 = n1 at *
  generalize hn2 : tl ys l2 = n2 at *
  have HN1 : Hid (tl xs l1 = n1) := hn1
  have HN2 : Hid (tl ys l2 = n2) := hn2
  have E1 : Hid (val X = val xs) := e1
  have E2 : Hid (val Y = val ys) := e2
  have L1 : Hid (X.length = n1) := t1.1
  have L2 : Hid (Y.length = n2) := t2.1
  have hYX : n2 ≤ n1 := by
    rcases Nat.lt_or_ge n1 n2 with h | h
    · have := val_lt_of_length k1.1 k2 (by rw [L1.out, L2.out]; exact h)
      omega
    · exact h
  have hcmp : decide (cmpI (val X) (val Y) < 0) = false := by
    unfold cmpI
    rw [if_neg (by omega)]
    split <;> decide
  have HGE := hide hge
  clear hn1 hn2 e1 e2 hge
  have hmk := run_mk n1 (by omega)
  go_enter Try.func73, Try.ntmps73
  go_wp2_with fail
  refine (bare_any h1).mono ?_
  rintro e w' ⟨rfl, rfl⟩
  rw [HN1.out]
  go_wp2_with fail
  refine (bare_any h2).mono ?_
  rintro e w' ⟨rfl, rfl⟩
  rw [HN2.out]
  go_wp2_with fail
  refine (cmp_any t1 t2).mono ?_
  rintro e w' ⟨rfl, qd, rfl⟩
  go_wp2_with fail
  go_loopw [8, 24] (fun c i wr => ∃ (k : Nat) (cr : Int) (zs : List Int), k ≤ n1 ∧ i = .int .i64 k ∧ c = .int .u64 cr ∧ 0 ≤ cr ∧ cr ≤ 1 ∧ zs.length = n1 ∧ Limbs zs ∧ Row wr w.heap.size zs ∧ Below w.heap.size w wr ∧ vl zs k - cr * pw k = vl X k - vl Y k) (fun _ i _ => n1 - (intOf i).toNat)
  case atStart => exact ⟨0, 0, _, Nat.zero_le _, rfl, rfl, by decide, by decide, List.length_replicate, Limbs.replicate _, row_alloc w _, below_alloc_drewN w _ _, by simp [vl]⟩
  case round =>
    obtain ⟨k, cr, zs, hk, rfl, rfl, hc0, hc1, hzl, hzL, hrow, hbel, hv⟩ := hrel
    have HV := hide hv
    clear hv hmk
    by_cases hkN : k < n1
    · have q1 := t1.below hbel
      have q2 := t2.below hbel
      have hcell := hrow.cell (i := k) (by omega)
      have hfr := hrow.frozen k
      go_wp2_with fail
      refine (limb_any q1 (k : Int) (by omega) (by omega)).mono ?_
      rintro e w' ⟨rfl, rfl⟩
      rw [Int.toNat_natCast]
      go_wp2_with fail
      refine (limb_any q2 (k : Int) (by omega) (by omega)).mono ?_
      rintro e w' ⟨rfl, rfl⟩
      rw [Int.toNat_natCast]
      have B1 := lz_bd q1.2.2.2.1 k
      have B2 := lz_bd q2.2.2.2.1 k
      have HS : Hid (vl (zs.set k ((4294967296 + lz X k - lz Y k - cr) % 4294967296)) (k + 1) - (1 - (4294967296 + lz X k - lz Y k - cr) / 4294967296) * pw (k + 1) = vl X (k + 1) - vl Y (k + 1)) := by
        have := borrow_step (zs := zs) (k := k) (bw := cr) (d := lz X k - lz Y k) (T := _) (by omega) (unhide HV)
        have e3 : (4294967296 + (lz X k - lz Y k) - cr) = (4294967296 + lz X k - lz Y k - cr) := by omega
        rw [e3, Int.sub_mul (lz X k)] at this
        show _ = _
        rw [this, vl_succ, vl_succ]; omega
      clear HV q1 q2
      generalize lz X k = x at *
      generalize lz Y k = y at *
      go_wp2
      rw [mask64 _ (by omega) (by omega), Int.emod_emod_of_dvd _ (Int.dvd_refl _)]
      exact ⟨⟨k + 1, _, _, by omega, by go_num, rfl, by omega, by omega, by rw [List.length_set]; exact hzl, hzL.set k (by omega) (by omega), hrow.set k _, below_set hbel k _, unhide HS⟩, by simp [intOf]; omega⟩
    · obtain rfl : k = n1 := by omega
      have hval : Hid (val zs = val xs - val ys) := by
        show _ = _
        have e3 := unhide HV
        have e4 : vl zs k = val zs := by unfold val; rw [hzl]
        have e5 : vl X k = val xs := by rw [vl_ge (by have := L1.out; omega), E1.out]
        have e6 : vl Y k = val ys := by rw [vl_ge (by have := L2.out; omega), E2.out]
        have e7 := vl_bd hzL k
        have e8 := unhide HGE
        have e9 := pw_pos k
        have e10 : cr = 0 ∨ cr = 1 := by omega
        rcases e10 with rfl | rfl <;> omega
      clear HV
      go_wp2_with fail
      refine (bare_own hrow hzL hzl (by omega)).mono ?_
      rintro e w' ⟨rfl, rfl⟩
      go_wp2_with fail
      go_ret2
      obtain ⟨o1, o2, o3, o4⟩ := own_trim hbel hrow hzL hzl (by omega)
      exact ⟨_, _, _, _, rfl, o1, o2, o3.trans (unhide hval), by omega⟩
end Go.Proofs.Ytdbbfpfmfchmgaa
