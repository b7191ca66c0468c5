/-
  Walks: shiftUp, shiftDown.
-/
import Derived.Test.YtgkacepahfjeeaaGreatDoorW8
namespace Go.Proofs.YtgkacepahfjeeaaGreatDoor
open Go.RowKit

theorem p2_pos (sh : Nat) : (0 : Int) < 2 ^ sh := Int.pow_pos (by decide)

theorem p2_le {sh : Nat} (h : sh < 32) : (2 : Int) ^ sh ≤ 2147483648 := by
  have h1 : 2 ^ sh ≤ 2 ^ 31 := Nat.pow_le_pow_right (by decide) (by omega)
  have h2 : ((2 ^ sh : Nat) : Int) ≤ ((2 ^ 31 : Nat) : Int) := Int.ofNat_le.2 h1
  have e : ((2 ^ sh : Nat) : Int) = (2 : Int) ^ sh := by simp
  rw [e] at h2
  simpa using h2

theorem shl_bd {x : Int} {sh : Nat} (h0 : 0 ≤ x) (h1 : x < 4294967296) (hs : sh < 32) : 0 ≤ x * 2 ^ sh ∧ x * 2 ^ sh ≤ 4294967295 * 2147483648 := by
  have hp := p2_pos sh
  have hl := p2_le hs
  refine ⟨Int.mul_nonneg h0 (by omega), ?_⟩
  exact Int.le_trans (Int.mul_le_mul_of_nonneg_right (by omega) (by omega)) (Int.mul_le_mul_of_nonneg_left hl (by decide))

theorem wrap_shl {x : Int} {sh : Nat} (h0 : 0 ≤ x) (h1 : x < 4294967296) (hs : sh < 32) : IntKind.u64.wrap (x * 2 ^ sh) = x * 2 ^ sh := by
  have := shl_bd h0 h1 hs
  rw [IntKind.wrap_u64]
  exact Int.emod_eq_of_lt this.1 (by omega)

theorem or_shift {cr x : Int} {sh : Nat} (hc0 : 0 ≤ cr) (hc1 : cr < 2 ^ sh) (h0 : 0 ≤ x) (h1 : x < 4294967296) (hs : sh < 32) : bits .or .u64 cr (x * 2 ^ sh) = cr + x * 2 ^ sh := by
  have hb := shl_bd h0 h1 hs
  have hl := p2_le hs
  obtain ⟨a, rfl⟩ := Int.eq_ofNat_of_zero_le hc0
  obtain ⟨b, rfl⟩ := Int.eq_ofNat_of_zero_le h0
  have e1 : ((b : Int) * 2 ^ sh) = ((b * 2 ^ sh : Nat) : Int) := by simp
  have ha : a < 2 ^ sh := by
    have : ((a : Nat) : Int) < ((2 ^ sh : Nat) : Int) := by simpa using hc1
    exact Int.ofNat_lt.1 this
  rw [e1] at hb ⊢
  rw [u64_or_nat _ _ (by omega) (by omega)]
  have e2 : a ||| b * 2 ^ sh = b * 2 ^ sh + a := by
    have := Nat.two_pow_add_eq_or_of_lt (i := sh) (b := a) ha b
    rw [Nat.or_comm, Nat.mul_comm b]
    exact this.symm
  rw [e2]
  omega

set_option maxRecDepth 100000 in
set_option maxHeartbeats 1600000 in
theorem shiftUp_any {a1 : Option Addr} {l1 c1 : Nat} {xs : List Int} {w : World} (h1 : Rd w a1 l1 c1 xs) (hl1 : l1 ≤ 1099511627776) (sh : Nat) (hs : sh < 32) :
    Calls Tryz.prog 81 #[.slice a1 l1 c1, .int .i64 sh] w fun e w' => ∃ zs, e = .returned (.slice (some ⟨w.heap.size, 0, none⟩) (l1 + 1) (l1 + 1)) ∧ Row w' w.heap.size zs ∧ Limbs zs ∧ zs.length = l1 + 1 ∧ val zs = val xs * 2 ^ sh ∧ Below w.heap.size w w' ∧ w'.heap.size = w.heap.size + 1 := by
  have hmk := run_mk' l1 (by omega)
  have HL := hide h1.1
  have hS0 := p2_pos sh
  have hS1 := p2_le hs
  go_enter Tryz.func81, Tryz.ntmps81
  go_wp2_with fail
  go_loopw [7, 15] (fun c i wr => ∃ (k : Nat) (cr : Int) (zs : List Int), k ≤ l1 ∧ i = .int .i64 k ∧ c = .int .u64 cr ∧ 0 ≤ cr ∧ cr < 2 ^ sh ∧ zs.length = l1 + 1 ∧ Limbs zs ∧ Row wr w.heap.size zs ∧ Below w.heap.size w wr ∧ wr.heap.size = w.heap.size + 1 ∧ vl zs k + cr * pw k = vl xs k * 2 ^ sh) (fun _ i _ => l1 - (intOf i).toNat)
  case atStart => exact ⟨0, 0, _, Nat.zero_le _, rfl, rfl, by decide, hS0, List.length_replicate, Limbs.replicate _, row_alloc w _, (Below.refl _ _).alloc (Nat.le_refl _) _, by simp, by simp [vl]⟩
  case round =>
    obtain ⟨k, cr, zs, hk, rfl, rfl, hc0, hc1, hzl, hzL, hrow, hbel, hsz, hv⟩ := hrel
    have HV := hide hv
    have HSZ := hide hsz
    have hcell := hrow.cell (i := k) (by omega)
    have hfr := hrow.frozen k
    clear hv hmk hsz
    by_cases hkN : k < l1
    · have q1 := h1.below hbel
      go_wp2_with fail
      refine (limb_any q1 (k : Int) (by omega) (by omega)).mono ?_
      rintro e w' ⟨rfl, rfl⟩
      rw [Int.toNat_natCast]
      have B1 := lz_bd q1.2.2.2.1 k
      have HS := hide (carry_step (zs := zs) (k := k) (cr := cr) (s := lz xs k * 2 ^ sh) (T := _) (by omega) (unhide HV))
      have HT : Hid (vl xs k * 2 ^ sh + lz xs k * 2 ^ sh * pw k = vl xs (k + 1) * 2 ^ sh) := by
        show _ = _
        rw [vl_succ, Int.add_mul, Int.mul_right_comm]
      have hor := or_shift hc0 hc1 B1.1 B1.2 hs
      have hbd := shl_bd B1.1 B1.2 hs
      have hcd : (cr + lz xs k * 2 ^ sh) / 4294967296 < 2 ^ sh := by
        refine Int.ediv_lt_of_lt_mul (by decide) ?_
        have : lz xs k * 2 ^ sh ≤ 4294967295 * 2 ^ sh := Int.mul_le_mul_of_nonneg_right (by omega) (by omega)
        omega
      clear HV q1
      generalize lz xs k = x at *
      go_wp2_with fail
      rw [mask64 _ (by omega) (by omega), Int.emod_emod_of_dvd _ (Int.dvd_refl _)]
      exact ⟨⟨k + 1, _, _, by omega, by go_num, rfl, by omega, hcd, by rw [List.length_set]; exact hzl, hzL.set k (by omega) (by omega), hrow.set k _, below_set hbel k _, by rw [size_set]; exact unhide HSZ, (unhide HS).trans (unhide HT)⟩, by simp [intOf]; omega⟩
    · obtain rfl : k = l1 := by omega
      have hset := hrow.set k cr
      have hval : Hid (val (zs.set k cr) = val xs * 2 ^ sh) := by
        show _ = _
        have e : val (zs.set k cr) = vl (zs.set k cr) (k + 1) := by unfold val; rw [List.length_set, hzl]
        rw [e, vl_succ, vl_set_past _ _ _ _ (Nat.le_refl _) (by omega), lz_set _ _ _ _ (by omega), if_pos rfl, unhide HV, vl_ge (by have := unhide HL; omega)]
      have hlim := hzL.set k (x := cr) hc0 (by omega)
      have hlen' : (zs.set k cr).length = k + 1 := by rw [List.length_set]; exact hzl
      have hbel' := below_set hbel k (.int .u32 cr)
      have HSZ' := hide ((size_set wr ⟨w.heap.size, k, none⟩ (.int .u32 cr)).trans (unhide HSZ))
      clear HV
      go_wp2_with fail
      go_ret
      exact ⟨_, rfl, hset, hlim, hlen', unhide hval, hbel', unhide HSZ'⟩

theorem shr_limb {x0 x1 : Int} {sh : Nat} (h0 : 0 ≤ x0) (h1 : x0 < 4294967296) (hs : sh < 32) :
    2 ^ sh * ((x1 * 4294967296 + x0) / 2 ^ sh % 4294967296) = x0 - x0 % 2 ^ sh + (x1 % 2 ^ sh) * 4294967296 := by
  have hS0 := p2_pos sh
  have hT0 := p2_pos (32 - sh)
  have hST : (2 : Int) ^ sh * 2 ^ (32 - sh) = 4294967296 := by
    rw [← Int.pow_add, show sh + (32 - sh) = 32 from by omega]
    decide
  generalize (2 : Int) ^ sh = S at *
  generalize (2 : Int) ^ (32 - sh) = T at *
  have e0 : S * (x0 / S) + x0 % S = x0 := Int.mul_ediv_add_emod _ _
  have e1 : S * (x1 / S) + x1 % S = x1 := Int.mul_ediv_add_emod _ _
  have r0 := Int.emod_nonneg x0 (Int.ne_of_gt hS0)
  have r1 := Int.emod_nonneg x1 (Int.ne_of_gt hS0)
  have r1' := Int.emod_lt_of_pos x1 hS0
  have q0 : x0 / S < T := Int.ediv_lt_of_lt_mul hS0 (by rw [Int.mul_comm T S]; omega)
  have q0' : 0 ≤ x0 / S := Int.ediv_nonneg h0 (by omega)
  have f1 : (x1 * 4294967296 + x0) / S = x0 / S + x1 * T := by
    have : x1 * 4294967296 + x0 = x0 + S * (x1 * T) := by
      rw [← hST, Int.mul_left_comm, Int.mul_left_comm S x1 T]
      omega
    rw [this, Int.add_mul_ediv_left _ _ (by omega)]
  have hrT : x1 % S * T ≤ 4294967296 - T := by
    have h2 : (x1 % S + 1) * T ≤ S * T := Int.mul_le_mul_of_nonneg_right (by omega) (by omega)
    rw [Int.add_mul, hST] at h2
    omega
  have hrT0 : 0 ≤ x1 % S * T := Int.mul_nonneg r1 (by omega)
  have f2 : x0 / S + x1 * T = x0 / S + x1 % S * T + 4294967296 * (x1 / S) := by
    have : x1 * T = (S * (x1 / S) + x1 % S) * T := by rw [e1]
    rw [this, Int.add_mul, ← hST, Int.mul_right_comm S (x1 / S) T]
    omega
  rw [f1, f2, Int.add_mul_emod_self_left, Int.emod_eq_of_lt (by omega) (by omega), Int.mul_add]
  have f3 : S * (x1 % S * T) = x1 % S * 4294967296 := by rw [← hST, Int.mul_left_comm]
  rw [f3]
  omega

set_option maxRecDepth 100000 in
set_option maxHeartbeats 1600000 in
theorem shiftDown_row {w : World} {b : Nat} {zs : List Int} {n cap : Nat} (hr : Row w b zs) (hL : Limbs zs) (hlen : zs.length = n) (hc : n ≤ cap) (hm : cap ≤ 9223372036854775807) (hbig : n ≤ 1099511627777) (sh : Nat) (hs : sh < 32) :
    Calls Tryz.prog 85 #[.slice (some ⟨b, 0, none⟩) n cap, .int .i64 sh] w fun e w' => ∃ zk, e = .returned (.tuple #[]) ∧ Row w' b zk ∧ Limbs zk ∧ zk.length = n ∧ val zk = val zs / 2 ^ sh ∧ Only b w w' := by
  have hS0 := p2_pos sh
  have hS1 := p2_le hs
  go_enter Tryz.func85, Tryz.ntmps85
  go_wp2_with fail
  go_loopw [8] (fun i wr => ∃ (k : Nat) (zk : List Int), k ≤ n ∧ i = .int .i64 k ∧ zk.length = n ∧ Limbs zk ∧ Row wr b zk ∧ Only b w wr ∧ (∀ t, k ≤ t → lz zk t = lz zs t) ∧ 2 ^ sh * vl zk k = vl zs k - lz zs 0 % 2 ^ sh + (lz zs k % 2 ^ sh) * pw k) (fun i _ => n - (intOf i).toNat)
  case atStart => exact ⟨0, zs, Nat.zero_le _, rfl, hlen, hL, hr, Only.refl _ _, fun _ _ => rfl, by simp only [vl, pw]; omega⟩
  case round =>
    obtain ⟨k, zk, hk, rfl, hkl, hkL, hrow, honly, hsame, hv⟩ := hrel
    have HV := hide hv
    have HS := hide hsame
    clear hv hsame
    by_cases hkN : k < n
    · have q := hrow.rd hkL (off := 0) (len := n) (cap := cap) (by omega) hc hm
      rw [List.drop_zero, List.take_of_length_le (by omega)] at q
      have hcell := hrow.cell (i := k) (by omega)
      have hfr := hrow.frozen k
      go_wp2_with fail
      refine (limb_any q ((k : Int) + 1) (by omega) (by omega)).mono ?_
      rintro e w' ⟨rfl, rfl⟩
      rw [show ((k : Int) + 1).toNat = k + 1 from by omega]
      have B1 := lz_bd hkL (k + 1)
      have B2 := lz_bd hkL k
      have hor := or64 (lz zk (k + 1)) (lz zk k) B1.1 B1.2 B2.1 B2.2
      go_wp2_with fail
      refine (limb_any q (k : Int) (by omega) (by omega)).mono ?_
      rintro e w' ⟨rfl, rfl⟩
      rw [Int.toNat_natCast]
      have hsame0 := (unhide HS) k (Nat.le_refl _)
      have hsame1 := (unhide HS) (k + 1) (by omega)
      have hw1 : 0 ≤ (lz zk (k + 1) * 4294967296 + lz zk k) / 2 ^ sh := Int.ediv_nonneg (by omega) (by omega)
      have hw2 : (lz zk (k + 1) * 4294967296 + lz zk k) / 2 ^ sh < 18446744073709551616 := Int.lt_of_le_of_lt (Int.ediv_le_self _ (by omega)) (by omega)
      have HN : Hid (2 ^ sh * vl (zk.set k ((lz zk (k + 1) * 4294967296 + lz zk k) / 2 ^ sh % 4294967296)) (k + 1) = vl zs (k + 1) - lz zs 0 % 2 ^ sh + lz zs (k + 1) % 2 ^ sh * pw (k + 1)) := by
        show _ = _
        rw [vl_succ, vl_set_past _ _ _ _ (Nat.le_refl _) (by omega), lz_set _ _ _ _ (by omega), if_pos rfl, Int.mul_add, unhide HV, ← Int.mul_assoc, shr_limb B2.1 B2.2 hs, vl_succ, pw_succ, hsame0, hsame1, Int.add_mul, Int.sub_mul, Int.mul_assoc (lz zs (k + 1) % 2 ^ sh)]
        omega
      clear q HV hsame0 hsame1
      go_wp2_with fail
      rw [mask64 _ hw1 hw2, Int.emod_emod_of_dvd _ (Int.dvd_refl _)]
      exact ⟨⟨k + 1, _, by omega, by go_num, by rw [List.length_set]; exact hkl, hkL.set k (by omega) (by omega), hrow.set k _, honly.trans (Only.set b k wr _), fun t ht => by rw [lz_set _ _ _ _ (by omega), if_neg (by omega)]; exact (unhide HS) t (by omega), unhide HN⟩, by simp [intOf]; omega⟩
    · obtain rfl : k = n := by omega
      have hfin : Hid (val zk = val zs / 2 ^ sh) := by
        have h := unhide HV
        show _ = _
        rw [lz_out (zs := zs) (i := k) (by omega)] at h
        have e1 : vl zk k = val zk := by unfold val; rw [hkl]
        have e2 : vl zs k = val zs := by unfold val; rw [hlen]
        rw [e1, e2] at h
        have r0 := Int.emod_nonneg (lz zs 0) (Int.ne_of_gt hS0)
        have r1 := Int.emod_lt_of_pos (lz zs 0) hS0
        have h2 : val zs = lz zs 0 % 2 ^ sh + 2 ^ sh * val zk := by simp at h; omega
        rw [h2, Int.add_mul_ediv_left _ _ (by omega), Int.ediv_eq_zero_of_lt r0 r1, Int.zero_add]
      clear HV
      go_wp2_with fail
      go_end0
      exact ⟨zk, rfl, hrow, hkL, hkl, unhide hfin, honly⟩
end Go.Proofs.YtgkacepahfjeeaaGreatDoor
