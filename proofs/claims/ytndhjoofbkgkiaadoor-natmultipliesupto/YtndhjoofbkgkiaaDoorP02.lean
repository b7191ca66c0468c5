/-
 Several texts in one: D1, D2, D3.
-/
import Derived.Test.YtndhjoofbkgkiaaDoorP01
namespace Go.Proofs.YtndhjoofbkgkiaaDoor
open Go.RowKit

theorem p2_pos (sh : Nat) : (0 : Int) < 2 ^ sh := Int.pow_pos (by decide)

theorem p2_le {sh : Nat} (h : sh < 32) : (2 : Int) ^ sh ≤ 2147483648 := by
 have h1 : 2 ^ sh ≤ 2 ^ 31 := Nat.pow_le_pow_right (by decide) (by omega)
 have h2 : ((2 ^ sh : Nat) : Int) ≤ ((2 ^ 31 : Nat) : Int) := Int.ofNat_le.2 h1
 have e : ((2 ^ sh : Nat) : Int) = (2 : Int) ^ sh := by simp
 rw [e] at h2
 simpa using h2

theorem shl_bd {x : Int} {sh : Nat} (h0 : 0 ≤ x) (h1 : x < 4294967296) (hs : sh < 32) : 0 ≤ x * 2 ^ sh ∧ x * 2 ^ sh ≤ 4294967295 * 2147483648 := by
 have hp := p2_pos sh
 have hl := p2_le hs
 refine ⟨Int.mul_nonneg h0 (by omega), ?_⟩
 exact Int.le_trans (Int.mul_le_mul_of_nonneg_right (by omega) (by omega)) (Int.mul_le_mul_of_nonneg_left hl (by decide))

theorem or_shift {cr x : Int} {sh : Nat} (hc0 : 0 ≤ cr) (hc1 : cr < 2 ^ sh) (h0 : 0 ≤ x) (h1 : x < 4294967296) (hs : sh < 32) : bits .or .u64 cr (x * 2 ^ sh) = cr + x * 2 ^ sh := by
 have hb := shl_bd h0 h1 hs
 have hl := p2_le hs
 obtain ⟨a, rfl⟩ := Int.eq_ofNat_of_zero_le hc0
 obtain ⟨b, rfl⟩ := Int.eq_ofNat_of_zero_le h0
 have e1 : ((b : Int) * 2 ^ sh) = ((b * 2 ^ sh : Nat) : Int) := by simp
 have ha : a < 2 ^ sh := by
  have : ((a : Nat) : Int) < ((2 ^ sh : Nat) : Int) := by simpa using hc1
  exact Int.ofNat_lt.1 this
 rw [e1] at hb ⊢
 rw [u64_or_nat _ _ (by omega) (by omega)]
 have e2 : a ||| b * 2 ^ sh = b * 2 ^ sh + a := by
  have := Nat.two_pow_add_eq_or_of_lt (i := sh) (b := a) ha b
  rw [Nat.or_comm, Nat.mul_comm b]
  exact this.symm
 rw [e2]
 omega

set_option maxRecDepth 100000 in
set_option maxHeartbeats 1600000 in
theorem shiftUp_any {a1 : Option Addr} {l1 c1 : Nat} {xs : List Int} {w : World} (h1 : Rd w a1 l1 c1 xs) (hl1 : l1 ≤ 1099511627776) (sh : Nat) (hs : sh < 32) :
  Calls Tryd.prog 71 #[.slice a1 l1 c1, .int .i64 sh] w fun e w' => ∃ zs, e = .returned (.slice (some ⟨w.heap.size, 0, none⟩) (l1 + 1) (l1 + 1)) ∧ Row w' w.heap.size zs ∧ Limbs zs ∧ zs.length = l1 + 1 ∧ val zs = val xs * 2 ^ sh ∧ Below w.heap.size w w' ∧ w'.heap.size = w.heap.size + 1 := by
 have hmk := run_mk' l1 (by omega)
 have HL := hide h1.1
 have hS0 := p2_pos sh
 have hS1 := p2_le hs
 go_enter Tryd.func71, Tryd.ntmps71
 go_wp2_with fail
 go_loopw [7, 15] (fun c i wr => ∃ (k : Nat) (cr : Int) (zs : List Int), k ≤ l1 ∧ i = .int .i64 k ∧ c = .int .u64 cr ∧ 0 ≤ cr ∧ cr < 2 ^ sh ∧ zs.length = l1 + 1 ∧ Limbs zs ∧ Row wr w.heap.size zs ∧ Below w.heap.size w wr ∧ wr.heap.size = w.heap.size + 1 ∧ vl zs k + cr * pw k = vl xs k * 2 ^ sh) (fun _ i _ => l1 - (intOf i).toNat)
 case atStart => exact ⟨0, 0, _, Nat.zero_le _, rfl, rfl, by decide, hS0, List.length_replicate, Limbs.replicate _, row_alloc w _, (Below.refl _ _).alloc (Nat.le_refl _) _, by simp, by simp [vl]⟩
 case round =>
  obtain ⟨k, cr, zs, hk, rfl, rfl, hc0, hc1, hzl, hzL, hrow, hbel, hsz, hv⟩ := hrel
  have HV := hide hv
  have HSZ := hide hsz
  have hcell := hrow.cell (i := k) (by omega)
  have hfr := hrow.frozen k
  clear hv hmk hsz
  by_cases hkN : k < l1
  ·have q1 := h1.below hbel
   go_wp2_with fail
   refine (limb_any q1 (k : Int) (by omega) (by omega)).mono ?_
   rintro e w' ⟨rfl, rfl⟩
   rw [Int.toNat_natCast]
   have B1 := lz_bd q1.2.2.2.1 k
   have HS := hide (carry_step (zs := zs) (k := k) (cr := cr) (s := lz xs k * 2 ^ sh) (T := _) (by omega) (unhide HV))
   have HT : Hid (vl xs k * 2 ^ sh + lz xs k * 2 ^ sh * pw k = vl xs (k + 1) * 2 ^ sh) := by
    show _ = _
    rw [vl_succ, Int.add_mul, Int.mul_right_comm]
   have hor := or_shift hc0 hc1 B1.1 B1.2 hs
   have hbd := shl_bd B1.1 B1.2 hs
   have hcd : (cr + lz xs k * 2 ^ sh) / 4294967296 < 2 ^ sh := by
    refine Int.ediv_lt_of_lt_mul (by decide) ?_
    have : lz xs k * 2 ^ sh ≤ 4294967295 * 2 ^ sh := Int.mul_le_mul_of_nonneg_right (by omega) (by omega)
    omega
   clear HV q1
   generalize lz xs k = x at *
   go_wp2_with fail
   rw [mask64 _ (by omega) (by omega), Int.emod_emod_of_dvd _ (Int.dvd_refl _)]
   exact ⟨⟨k + 1, _, _, by omega, by go_num, rfl, by omega, hcd, by rw [List.length_set]; exact hzl, hzL.set k (by omega) (by omega), hrow.set k _, below_set hbel k _, by rw [size_set]; exact unhide HSZ, (unhide HS).trans (unhide HT)⟩, by simp [intOf]; omega⟩
  ·obtain rfl : k = l1 := by omega
   have hset := hrow.set k cr
   have hval : Hid (val (zs.set k cr) = val xs * 2 ^ sh) := by
    show _ = _
    have e : val (zs.set k cr) = vl (zs.set k cr) (k + 1) := by unfold val; rw [List.length_set, hzl]
    rw [e, vl_succ, vl_set_past _ _ _ _ (Nat.le_refl _) (by omega), lz_set _ _ _ _ (by omega), if_pos rfl, unhide HV, vl_ge (by have := unhide HL; omega)]
   have hlim := hzL.set k (x := cr) hc0 (by omega)
   have hlen' : (zs.set k cr).length = k + 1 := by rw [List.length_set]; exact hzl
   have hbel' := below_set hbel k (.int .u32 cr)
   have HSZ' := hide ((size_set wr ⟨w.heap.size, k, none⟩ (.int .u32 cr)).trans (unhide HSZ))
   clear HV
   go_wp2_with fail
   go_ret
   exact ⟨_, rfl, hset, hlim, hlen', unhide hval, hbel', unhide HSZ'⟩

theorem shr_limb {x0 x1 : Int} {sh : Nat} (h0 : 0 ≤ x0) (h1 : x0 < 4294967296) (hs : sh < 32) :
  2 ^ sh * ((x1 * 4294967296 + x0) / 2 ^ sh % 4294967296) = x0 - x0 % 2 ^ sh + (x1 % 2 ^ sh) * 4294967296 := by
 have hS0 := p2_pos sh
 have hT0 := p2_pos (32 - sh)
 have hST : (2 : Int) ^ sh * 2 ^ (32 - sh) = 4294967296 := by
  rw [← Int.pow_add, show sh + (32 - sh) = 32 from by omega]
  decide
 generalize (2 : Int) ^ sh = S at *
 generalize (2 : Int) ^ (32 - sh) = T at *
 have e0 : S * (x0 / S) + x0 % S = x0 := Int.mul_ediv_add_emod _ _
 have e1 : S * (x1 / S) + x1 % S = x1 := Int.mul_ediv_add_emod _ _
 have r0 := Int.emod_nonneg x0 (Int.ne_of_gt hS0)
 have r1 := Int.emod_nonneg x1 (Int.ne_of_gt hS0)
 have r1' := Int.emod_lt_of_pos x1 hS0
 have q0 : x0 / S < T := Int.ediv_lt_of_lt_mul hS0 (by rw [Int.mul_comm T S]; omega)
 have q0' : 0 ≤ x0 / S := Int.ediv_nonneg h0 (by omega)
 have f1 : (x1 * 4294967296 + x0) / S = x0 / S + x1 * T := by
  have : x1 * 4294967296 + x0 = x0 + S * (x1 * T) := by
   rw [← hST, Int.mul_left_comm, Int.mul_left_comm S x1 T]
   omega
  rw [this, Int.add_mul_ediv_left _ _ (by omega)]
 have hrT : x1 % S * T ≤ 4294967296 - T := by
  have h2 : (x1 % S + 1) * T ≤ S * T := Int.mul_le_mul_of_nonneg_right (by omega) (by omega)
  rw [Int.add_mul, hST] at h2
  omega
 have hrT0 : 0 ≤ x1 % S * T := Int.mul_nonneg r1 (by omega)
 have f2 : x0 / S + x1 * T = x0 / S + x1 % S * T + 4294967296 * (x1 / S) := by
  have : x1 * T = (S * (x1 / S) + x1 % S) * T := by rw [e1]
  rw [this, Int.add_mul, ← hST, Int.mul_right_comm S (x1 / S) T]
  omega
 rw [f1, f2, Int.add_mul_emod_self_left, Int.emod_eq_of_lt (by omega) (by omega), Int.mul_add]
 have f3 : S * (x1 % S * T) = x1 % S * 4294967296 := by rw [← hST, Int.mul_left_comm]
 rw [f3]
 omega

set_option maxRecDepth 100000 in
set_option maxHeartbeats 1600000 in
theorem shiftDown_row {w : World} {b : Nat} {zs : List Int} {n cap : Nat} (hr : Row w b zs) (hL : Limbs zs) (hlen : zs.length = n) (hc : n ≤ cap) (hm : cap ≤ 9223372036854775807) (hbig : n ≤ 1099511627777) (sh : Nat) (hs : sh < 32) :
  Calls Tryd.prog 75 #[.slice (some ⟨b, 0, none⟩) n cap, .int .i64 sh] w fun e w' => ∃ zk, e = .returned (.tuple #[]) ∧ Row w' b zk ∧ Limbs zk ∧ zk.length = n ∧ val zk = val zs / 2 ^ sh ∧ Only b w w' := by
 have hS0 := p2_pos sh
 have hS1 := p2_le hs
 go_enter Tryd.func75, Tryd.ntmps75
 go_wp2_with fail
 go_loopw [8] (fun i wr => ∃ (k : Nat) (zk : List Int), k ≤ n ∧ i = .int .i64 k ∧ zk.length = n ∧ Limbs zk ∧ Row wr b zk ∧ Only b w wr ∧ (∀ t, k ≤ t → lz zk t = lz zs t) ∧ 2 ^ sh * vl zk k = vl zs k - lz zs 0 % 2 ^ sh + (lz zs k % 2 ^ sh) * pw k) (fun i _ => n - (intOf i).toNat)
 case atStart => exact ⟨0, zs, Nat.zero_le _, rfl, hlen, hL, hr, Only.refl _ _, fun _ _ => rfl, by simp only [vl, pw]; omega⟩
 case round =>
  obtain ⟨k, zk, hk, rfl, hkl, hkL, hrow, honly, hsame, hv⟩ := hrel
  have HV := hide hv
  have HS := hide hsame
  clear hv hsame
  by_cases hkN : k < n
  ·have q := hrow.rd hkL (off := 0) (len := n) (cap := cap) (by omega) hc hm
   rw [List.drop_zero, List.take_of_length_le (by omega)] at q
   have hcell := hrow.cell (i := k) (by omega)
   have hfr := hrow.frozen k
   go_wp2_with fail
   refine (limb_any q ((k : Int) + 1) (by omega) (by omega)).mono ?_
   rintro e w' ⟨rfl, rfl⟩
   rw [show ((k : Int) + 1).toNat = k + 1 from by omega]
   have B1 := lz_bd hkL (k + 1)
   have B2 := lz_bd hkL k
   have hor := or64 (lz zk (k + 1)) (lz zk k) B1.1 B1.2 B2.1 B2.2
   go_wp2_with fail
   refine (limb_any q (k : Int) (by omega) (by omega)).mono ?_
   rintro e w' ⟨rfl, rfl⟩
   rw [Int.toNat_natCast]
   have hsame0 := (unhide HS) k (Nat.le_refl _)
   have hsame1 := (unhide HS) (k + 1) (by omega)
   have hw1 : 0 ≤ (lz zk (k + 1) * 4294967296 + lz zk k) / 2 ^ sh := Int.ediv_nonneg (by omega) (by omega)
   have hw2 : (lz zk (k + 1) * 4294967296 + lz zk k) / 2 ^ sh < 18446744073709551616 := Int.lt_of_le_of_lt (Int.ediv_le_self _ (by omega)) (by omega)
   have HN : Hid (2 ^ sh * vl (zk.set k ((lz zk (k + 1) * 4294967296 + lz zk k) / 2 ^ sh % 4294967296)) (k + 1) = vl zs (k + 1) - lz zs 0 % 2 ^ sh + lz zs (k + 1) % 2 ^ sh * pw (k + 1)) := by
    show _ = _
    rw [vl_succ, vl_set_past _ _ _ _ (Nat.le_refl _) (by omega), lz_set _ _ _ _ (by omega), if_pos rfl, Int.mul_add, unhide HV, ← Int.mul_assoc, shr_limb B2.1 B2.2 hs, vl_succ, pw_succ, hsame0, hsame1, Int.add_mul, Int.sub_mul, Int.mul_assoc (lz zs (k + 1) % 2 ^ sh)]
    omega
   clear q HV hsame0 hsame1
   go_wp2_with fail
   rw [mask64 _ hw1 hw2, Int.emod_emod_of_dvd _ (Int.dvd_refl _)]
   exact ⟨⟨k + 1, _, by omega, by go_num, by rw [List.length_set]; exact hkl, hkL.set k (by omega) (by omega), hrow.set k _, honly.trans (Only.set b k wr _), fun t ht => by rw [lz_set _ _ _ _ (by omega), if_neg (by omega)]; exact (unhide HS) t (by omega), unhide HN⟩, by simp [intOf]; omega⟩
  ·obtain rfl : k = n := by omega
   have hfin : Hid (val zk = val zs / 2 ^ sh) := by
    have h := unhide HV
    show _ = _
    rw [lz_out (zs := zs) (i := k) (by omega)] at h
    have e1 : vl zk k = val zk := by unfold val; rw [hkl]
    have e2 : vl zs k = val zs := by unfold val; rw [hlen]
    rw [e1, e2] at h
    have r0 := Int.emod_nonneg (lz zs 0) (Int.ne_of_gt hS0)
    have r1 := Int.emod_lt_of_pos (lz zs 0) hS0
    have h2 : val zs = lz zs 0 % 2 ^ sh + 2 ^ sh * val zk := by simp at h; omega
    rw [h2, Int.add_mul_ediv_left _ _ (by omega), Int.ediv_eq_zero_of_lt r0 r1, Int.zero_add]
   clear HV
   go_wp2_with fail
   go_end0
   exact ⟨zk, rfl, hrow, hkL, hkl, unhide hfin, honly⟩
end Go.Proofs.YtndhjoofbkgkiaaDoor

namespace Go.Proofs.YtndhjoofbkgkiaaDoor
open Go.RowKit

theorem lz_drop (R : List Int) (p i : Nat) : lz (R.drop p) i = lz R (p + i) := by simp [lz]

theorem drop_set (R : List Int) (p i : Nat) (x : Int) : (R.set (p + i) x).drop p = (R.drop p).set i x := by
 apply List.ext_getElem?
 intro j
 simp only [List.getElem?_drop, List.getElem?_set]
 by_cases h : i = j
 ·subst h
  rw [if_pos rfl, if_pos rfl, List.length_drop]
  by_cases h2 : p + i < R.length
  ·rw [if_pos h2, if_pos (by omega)]
  ·rw [if_neg h2, if_neg (by omega)]
 ·rw [if_neg (by omega), if_neg h]

theorem Limbs.drop' {zs : List Int} (h : Limbs zs) (n : Nat) : Limbs (zs.drop n) := fun z hz => h z (List.mem_of_mem_drop hz)

/-- a window of a row of the call's own -/
theorem Row.window {w : World} {b : Nat} {R : List Int} (h : Row w b R) (hL : Limbs R) {p n cap : Nat} (hn : p + n ≤ R.length) (hc : n ≤ cap) (hm : cap ≤ 9223372036854775807) : Rd w (some ⟨b, p, none⟩) n cap ((R.drop p).take n) := h.rd hL hn hc hm

set_option maxRecDepth 100000 in
set_option maxHeartbeats 1600000 in
/-- putBack: the divisor is added, the last carry is lost -/
theorem putBack_row {w : World} {b : Nat} {R D : List Int} {p n cap m cd : Nat} {ad : Option Addr} (hr : Row w b R) (hL : Limbs R) (hn : p + n ≤ R.length) (hc : n ≤ cap) (hm : cap ≤ 9223372036854775807)
  (hD : Rd w ad m cd D) (hne : ∀ x off, ad = some ⟨x, off, none⟩ → m = 0 ∨ x ≠ b) (hmn : m ≤ n) :
  Calls Tryd.prog 74 #[.slice (some ⟨b, p, none⟩) n cap, .slice ad m cd] w fun e w' => ∃ R' cr, e = .returned (.tuple #[]) ∧ Row w' b R' ∧ Limbs R' ∧ R'.length = R.length ∧ (∀ t, t < p ∨ p + n ≤ t → lz R' t = lz R t) ∧ 0 ≤ cr ∧ cr ≤ 1 ∧ vl (R'.drop p) n + cr * pw n = vl (R.drop p) n + val D ∧ Only b w w' := by
 have HDL := hide hD.1
 go_enter Tryd.func74, Tryd.ntmps74
 go_wp2_with fail
 go_loopw [4, 8] (fun c i wr => ∃ (k : Nat) (cr : Int) (zk : List Int), k ≤ n ∧ i = .int .i64 k ∧ c = .int .u64 cr ∧ 0 ≤ cr ∧ cr ≤ 1 ∧ zk.length = R.length ∧ Limbs zk ∧ Row wr b zk ∧ Only b w wr ∧ (∀ t, t < p ∨ p + k ≤ t → lz zk t = lz R t) ∧ vl (zk.drop p) k + cr * pw k = vl (R.drop p) k + vl D k) (fun _ i _ => n - (intOf i).toNat)
 case atStart => exact ⟨0, 0, R, Nat.zero_le _, rfl, rfl, by decide, by decide, rfl, hL, hr, Only.refl _ _, fun _ _ => rfl, by simp [vl]⟩
 case round =>
  obtain ⟨k, cr, zk, hk, rfl, rfl, hc0, hc1, hkl, hkL, hrow, honly, hsame, hv⟩ := hrel
  have HV := hide hv
  have HS := hide hsame
  have HKL := hide hkl
  clear hv hsame hkl
  by_cases hkn : k < n
  ·have q := hrow.window hkL (p := p) (n := n) (cap := cap) (by have := unhide HKL; omega) hc hm
   have qD := hD.only honly hne
   have hcell := hrow.cell (i := p + k) (by have := unhide HKL; omega)
   have hfr := hrow.frozen (p + k)
   go_wp2_with fail
   refine (limb_any q (k : Int) (by omega) (by omega)).mono ?_
   rintro e w' ⟨rfl, rfl⟩
   rw [Int.toNat_natCast, lz_take, if_pos hkn, lz_drop]
   go_wp2_with fail
   refine (limb_any qD (k : Int) (by omega) (by omega)).mono ?_
   rintro e w' ⟨rfl, rfl⟩
   rw [Int.toNat_natCast]
   have B1 := lz_bd hkL (p + k)
   have B2 := lz_bd qD.2.2.2.1 k
   have HN : Hid (vl ((zk.set (p + k) ((cr + (lz zk (p + k) + lz D k)) % 4294967296)).drop p) (k + 1) + ((cr + (lz zk (p + k) + lz D k)) / 4294967296) * pw (k + 1) = vl (R.drop p) (k + 1) + vl D (k + 1)) := by
    show _ = _
    rw [drop_set, carry_step (by rw [List.length_drop]; have := unhide HKL; omega) (unhide HV), vl_succ, vl_succ, lz_drop, (unhide HS) (p + k) (.inr (Nat.le_refl _)), Int.add_mul]
    omega
   clear HV q qD
   generalize hx : lz zk (p + k) = x at *
   clear hx
   generalize lz D k = y at *
   go_wp2_with fail
   rw [mask64 _ (by omega) (by omega), Int.emod_emod_of_dvd _ (Int.dvd_refl _)]
   exact ⟨⟨k + 1, _, _, by omega, by go_num, rfl, by omega, by omega, by rw [List.length_set]; exact unhide HKL, hkL.set (p + k) (by omega) (by omega), hrow.set (p + k) _, honly.trans (Only.set b (p + k) wr _), fun t ht => by rw [lz_set _ _ _ _ (by have := unhide HKL; omega), if_neg (by omega)]; exact (unhide HS) t (by omega), unhide HN⟩, by simp [intOf]; omega⟩
  ·obtain rfl : k = n := by omega
   have hfin : Hid (vl (zk.drop p) k + cr * pw k = vl (R.drop p) k + val D) := by
    show _ = _
    rw [unhide HV, vl_ge (zs := D) (by have := unhide HDL; omega)]
   clear HV
   go_wp2_with fail
   go_end0
   exact ⟨zk, cr, rfl, hrow, hkL, unhide HKL, unhide HS, hc0, hc1, unhide hfin, honly⟩

theorem take_step {zs : List Int} {k : Nat} {bw x y T V : Int} (hk : k < zs.length) (h1 : vl zs k - bw * pw k = V - T) :
  vl (zs.set k ((4294967296 + x - y - bw) % 4294967296)) (k + 1) - (1 - (4294967296 + x - y - bw) / 4294967296) * pw (k + 1) = (V + x * pw k) - (T + y * pw k) := by
 have := borrow_step (zs := zs) (k := k) (bw := bw) (d := x - y) (T := V - T) hk h1
 rw [show 4294967296 + (x - y) - bw = 4294967296 + x - y - bw from by omega, Int.sub_mul x y] at this
 rw [this]
 omega

set_option maxRecDepth 100000 in
set_option maxHeartbeats 1600000 in
/-- takeAway: g times the divisor is taken; whether that went below 0 -/
theorem takeAway_row {w : World} {b : Nat} {R D : List Int} {p n cap m cd : Nat} {ad : Option Addr} {g : Int} (hr : Row w b R) (hL : Limbs R) (hn : p + n ≤ R.length) (hc : n ≤ cap) (hm : cap ≤ 9223372036854775807)
  (hD : Rd w ad m cd D) (hne : ∀ x off, ad = some ⟨x, off, none⟩ → m = 0 ∨ x ≠ b) (hmn : m + 1 = n) (hg0 : 0 ≤ g) (hg1 : g < 4294967296) :
  Calls Tryd.prog 73 #[.slice (some ⟨b, p, none⟩) n cap, .slice ad m cd, .int .u64 g] w fun e w' => ∃ R' bw, e = .returned (.bool (decide (0 < bw))) ∧ Row w' b R' ∧ Limbs R' ∧ R'.length = R.length ∧ (∀ t, t < p ∨ p + n ≤ t → lz R' t = lz R t) ∧ 0 ≤ bw ∧ bw ≤ 1 ∧ vl (R'.drop p) n - bw * pw n = vl (R.drop p) n - g * val D ∧ Only b w w' := by
 have HDL := hide hD.1
 have HMN := hide hmn
 clear hmn
 go_enter Tryd.func73, Tryd.ntmps73
 go_wp2_with fail
 go_loopw [7, 8, 13] (fun c o i wr => ∃ (k : Nat) (cr bw T : Int) (zk : List Int), k ≤ n ∧ i = .int .i64 k ∧ c = .int .u64 cr ∧ 0 ≤ cr ∧ cr < 4294967296 ∧ o = .int .u64 bw ∧ 0 ≤ bw ∧ bw ≤ 1 ∧ zk.length = R.length ∧ Limbs zk ∧ Row wr b zk ∧ Only b w wr ∧ (∀ t, t < p ∨ p + k ≤ t → lz zk t = lz R t) ∧ 0 ≤ T ∧ T + cr * pw k = g * vl D k ∧ vl (zk.drop p) k - bw * pw k = vl (R.drop p) k - T) (fun _ _ i _ => n - (intOf i).toNat)
 case atStart => exact ⟨0, 0, 0, 0, R, Nat.zero_le _, rfl, rfl, by decide, by decide, rfl, by decide, by decide, rfl, hL, hr, Only.refl _ _, fun _ _ => rfl, by decide, by simp [vl], by simp [vl]⟩
 case round =>
  obtain ⟨k, cr, bw, T, zk, hk, rfl, rfl, hc0, hc1, rfl, hb0, hb1, hkl, hkL, hrow, honly, hsame, hT0, hT, hv⟩ := hrel
  have HV := hide hv
  have HS := hide hsame
  have HKL := hide hkl
  have HT := hide hT
  clear hv hsame hkl hT
  by_cases hkn : k < n
  ·have q := hrow.window hkL (p := p) (n := n) (cap := cap) (by have := unhide HKL; omega) hc hm
   have qD := hD.only honly hne
   have hcell := hrow.cell (i := p + k) (by have := unhide HKL; omega)
   have hfr := hrow.frozen (p + k)
   go_wp2_with fail
   refine (limb_any qD (k : Int) (by omega) (by omega)).mono ?_
   rintro e w' ⟨rfl, rfl⟩
   rw [Int.toNat_natCast]
   have B2 := lz_bd qD.2.2.2.1 k
   have B4 := mul_bd hg0 hg1 B2.1 B2.2
   go_wp2_with fail
   refine (limb_any q (k : Int) (by omega) (by omega)).mono ?_
   rintro e w' ⟨rfl, rfl⟩
   rw [Int.toNat_natCast, lz_take, if_pos hkn, lz_drop]
   have B1 := lz_bd hkL (p + k)
   have hmk := mask64 (cr + g * lz D k) (by omega) (by omega)
   have HX := hide ((unhide HS) (p + k) (.inr (Nat.le_refl _)))
   have hy : cr + g * lz D k = (cr + g * lz D k) % 4294967296 + 4294967296 * ((cr + g * lz D k) / 4294967296) := (Int.emod_add_mul_ediv _ _).symm
   have HN := hide (take_step (zs := zk.drop p) (k := k) (bw := bw) (x := lz zk (p + k)) (y := (cr + g * lz D k) % 4294967296) (T := T) (V := vl (R.drop p) k) (by rw [List.length_drop]; have := unhide HKL; omega) (unhide HV))
   have HT2 : Hid (T + (cr + g * lz D k) % 4294967296 * pw k + (cr + g * lz D k) / 4294967296 * pw (k + 1) = g * vl D (k + 1)) := by
    show _ = _
    rw [vl_succ, Int.mul_add, ← unhide HT, pw_succ, ← Int.mul_assoc g]
    have e1 : (cr + g * lz D k) / 4294967296 * (4294967296 * pw k) = 4294967296 * ((cr + g * lz D k) / 4294967296) * pw k := by rw [← Int.mul_assoc, Int.mul_comm ((cr + g * lz D k) / 4294967296)]
    rw [e1, Int.add_assoc, ← Int.add_mul, ← hy, Int.add_mul]
    omega
   have hTn : 0 ≤ T + (cr + g * lz D k) % 4294967296 * pw k := by
    have := Int.mul_nonneg (show 0 ≤ (cr + g * lz D k) % 4294967296 from by omega) (Int.le_of_lt (pw_pos k))
    omega
   have HVS : Hid (vl (R.drop p) (k + 1) = vl (R.drop p) k + lz zk (p + k) * pw k) := by
    show _ = _
    rw [vl_succ, lz_drop, unhide HX]
   clear HV q qD HT hy
   generalize hx : lz zk (p + k) = x at *
   clear hx
   generalize hpq : g * lz D k = y at *
   clear hpq
   go_wp2
   rw [mask64 _ (by omega) (by omega), Int.emod_emod_of_dvd _ (Int.dvd_refl _)]
   exact ⟨⟨k + 1, _, _, _, _, by omega, by go_num, rfl, by omega, by omega, rfl, by omega, by omega, by rw [List.length_set]; exact unhide HKL, hkL.set (p + k) (by omega) (by omega), hrow.set (p + k) _, honly.trans (Only.set b (p + k) wr _), fun t ht => by rw [lz_set _ _ _ _ (by have := unhide HKL; omega), if_neg (by omega)]; exact (unhide HS) t (by omega), hTn, unhide HT2, by rw [drop_set, unhide HN, unhide HVS]⟩, by simp [intOf]; omega⟩
  ·obtain rfl : k = n := by omega
   have hfin : Hid (vl (zk.drop p) k - bw * pw k = vl (R.drop p) k - g * val D) := by
    show _ = _
    have hT := unhide HT
    have hmn := unhide HMN
    rw [vl_ge (zs := D) (by have := unhide HDL; omega)] at hT
    have hDb := vl_bd hD.2.2.2.1 m
    have hDv : vl D m = val D := vl_ge (by have := unhide HDL; omega)
    rw [hDv] at hDb
    have hgD : g * val D ≤ 4294967295 * val D := Int.mul_le_mul_of_nonneg_right (by omega) hDb.1
    have hpk : pw k = 4294967296 * pw m := by rw [← hmn, pw_succ]
    have hpm := pw_pos m
    have hcr : cr = 0 := by
     rcases Int.lt_or_le cr 1 with h | h
     ·omega
     ·have : 1 * pw k ≤ cr * pw k := Int.mul_le_mul_of_nonneg_right h (by omega)
      omega
    rw [hcr] at hT
    rw [unhide HV]
    omega
   clear HV HT
   go_wp2_with fail
   go_ret
   exact ⟨zk, bw, rfl, hrow, hkL, unhide HKL, unhide HS, hb0, hb1, unhide hfin, honly⟩

theorem guess_end {d l f s x0 high : Int} (h : d * f + l = high) (hd : d * s ≤ l * 4294967296 + x0) : d * (f * 4294967296 + s) ≤ high * 4294967296 + x0 := by
 rw [← h, Int.mul_add, Int.add_mul, ← Int.mul_assoc]
 omega

theorem guess_more {d l f s x0 high Q : Int} (h : d * f + l = high) (hd : l * 4294967296 + x0 < d * s) (hQ : Q * (f * 4294967296 + s) ≤ high * 4294967296 + x0) (hD : 0 < f * 4294967296 + s) : Q < d := by
 rcases Int.lt_or_le Q d with h1 | h1
 ·exact h1
 ·have h2 : d * (f * 4294967296 + s) ≤ Q * (f * 4294967296 + s) := Int.mul_le_mul_of_nonneg_right h1 (by omega)
  rw [Int.mul_add, ← Int.mul_assoc] at h2
  rw [← h, Int.add_mul] at hQ
  omega

set_option maxRecDepth 100000 in
set_option maxHeartbeats 3200000 in
theorem guess_walk {w : World} (b p cap bd od cd j : Nat) (x2 x1 x0 f s Q : Int) (hj : j ≤ 1099511627776)
  (g2 : w.cell? ⟨b, p + (j + 2), none⟩ = some (.int .u32 x2)) (g1 : w.cell? ⟨b, p + (j + 1), none⟩ = some (.int .u32 x1)) (g0 : w.cell? ⟨b, p + j, none⟩ = some (.int .u32 x0))
  (e1 : w.cell? ⟨bd, od + (j + 1), none⟩ = some (.int .u32 f)) (e0 : w.cell? ⟨bd, od + j, none⟩ = some (.int .u32 s))
  (b2 : 0 ≤ x2 ∧ x2 < 4294967296) (b1 : 0 ≤ x1 ∧ x1 < 4294967296) (b0 : 0 ≤ x0 ∧ x0 < 4294967296) (bf : 2147483648 ≤ f ∧ f < 4294967296) (bs : 0 ≤ s ∧ s < 4294967296) (hx2 : x2 ≤ f)
  (hQ0 : 0 ≤ Q) (hQ1 : Q < 4294967296) (hQ : Q * (f * 4294967296 + s) ≤ (x2 * 4294967296 + x1) * 4294967296 + x0) :
  Calls Tryd.prog 72 #[.slice (some ⟨b, p, none⟩) (j + 3) cap, .slice (some ⟨bd, od, none⟩) (j + 2) cd] w fun e w' => ∃ g, e = .returned (.int .u64 g) ∧ Q ≤ g ∧ g < 4294967296 ∧ g * (f * 4294967296 + s) ≤ (x2 * 4294967296 + x1) * 4294967296 + x0 ∧ ∃ n, w' = w.drewN n := by
 have ho := or64 x2 x1 b2.1 b2.2 b1.1 b1.2
 have HQ := hide hQ
 obtain ⟨high, hh⟩ : ∃ high, high = x2 * 4294967296 + x1 := ⟨_, rfl⟩
 have hhb : 0 ≤ high ∧ high ≤ f * 4294967296 + 4294967295 := by omega
 have HH := hide hh
 rw [← hh] at ho
 have hq0 : 0 ≤ high / f := Int.ediv_nonneg hhb.1 (by omega)
 have hr0 : 0 ≤ high % f := Int.emod_nonneg _ (by omega)
 have hr1 : high % f < f := Int.emod_lt_of_pos _ (by omega)
 have hqr : high / f * f + high % f = high := by rw [Int.mul_comm]; exact Int.mul_ediv_add_emod _ _
 have HQR := hide hqr
 have HS0 : Hid (Q ≤ high / f) := by
  refine Int.le_ediv_of_mul_le (by omega) ?_
  rw [← hh, Int.mul_add, ← Int.mul_assoc] at hQ
  have := Int.mul_nonneg hQ0 bs.1
  omega
 have HS1 : Hid (high / f ≤ 4294967297) := by
  show _ ≤ _
  rcases Int.lt_or_le 4294967297 (high / f) with h | h
  ·have h2 : (4294967298 : Int) * f ≤ high / f * f := Int.mul_le_mul_of_nonneg_right (by omega) (by omega)
   omega
  ·exact h
 clear hQ hh hqr
 go_enter Tryd.func72, Tryd.ntmps72
 go_wp2
 go_step3
 go_wp2
 go_quiet (fail)
 obtain ⟨na, hna⟩ : ∃ na, na = nq := ⟨_, rfl⟩
 subst hna
 go_wp2
 go_quiet (fail)
 obtain ⟨nb, hnb⟩ : ∃ nb, nb = nq := ⟨_, rfl⟩
 subst hnb
 go_wp2
 go_quiet (fail)
 go_wp2
 go_step3
 go_wp2
 go_loop [9, 10] (fun vd vl' => ∃ d l : Int, vd = .int .u64 d ∧ vl' = .int .u64 l ∧ d * f + l = high ∧ 0 ≤ l ∧ l < 4294967296 ∧ Q ≤ d ∧ d ≤ 4294967297) (fun vd _ => (intOf vd).toNat)
 case atStart => exact ⟨_, _, rfl, rfl, unhide HQR, hr0, by omega, unhide HS0, unhide HS1⟩
 case round =>
  obtain ⟨d, l, rfl, rfl, hdl, hl0, hl1, hQd, hd1⟩ := hrel
  have HDL := hide hdl
  clear hdl
  have hol := or64 l x0 hl0 hl1 b0.1 b0.2
  by_cases hbig : 4294967296 ≤ d
  ·have hb1 : decide ((4294967296 : Int) ≤ d) = true := by simp; omega
   have hlow : l + f < 4294967296 ∨ d = 4294967296 := by
    have h1 := unhide HDL
    rcases Int.lt_or_le 4294967296 d with h2 | h2
    ·have e : d = 4294967297 := by omega
     left
     rw [e] at h1
     omega
    ·right; omega
   have hnew : Hid ((d - 1) * f + (l + f) = high) := by
    show _ = _
    have h1 := unhide HDL
    rw [Int.sub_mul, Int.one_mul]
    omega
   by_cases hbr : 4294967296 ≤ l + f
   ·have hb2 : decide ((4294967296 : Int) ≤ l + f) = true := by simp; omega
    have hd' : d - 1 < 4294967296 := by omega
    have hend : Hid ((d - 1) * (f * 4294967296 + s) ≤ high * 4294967296 + x0) := guess_end (unhide hnew) (by
     have := mul_bd (x := d - 1) (y := s) (by omega) hd' bs.1 bs.2
     omega)
    go_wp2
    go_ret
    exact ⟨d - 1, rfl, by omega, hd', by rw [← unhide HH]; exact unhide hend, na + nb + nq, by simp⟩
   ·have hb2 : decide ((4294967296 : Int) ≤ l + f) = false := by simp; omega
    go_wp2
    exact ⟨⟨unhide hnew, by omega, by omega, by omega⟩, by simp [intOf]; omega⟩
  ·have hb1 : decide ((4294967296 : Int) ≤ d) = false := by simp; omega
   have hds := mul_bd (x := d) (y := s) (by omega) (by omega) bs.1 bs.2
   by_cases hgt : l * 4294967296 + x0 < d * s
   ·have hb3 : decide (l * 4294967296 + x0 < d * s) = true := by simp; omega
    have hQd' : Q < d := guess_more (unhide HDL) hgt (by rw [unhide HH]; exact unhide HQ) (by omega)
    have hnew : Hid ((d - 1) * f + (l + f) = high) := by
     show _ = _
     have h1 := unhide HDL
     rw [Int.sub_mul, Int.one_mul]
     omega
    by_cases hbr : 4294967296 ≤ l + f
    ·have hb2 : decide ((4294967296 : Int) ≤ l + f) = true := by simp; omega
     have hd' : d - 1 < 4294967296 := by omega
     have hend : Hid ((d - 1) * (f * 4294967296 + s) ≤ high * 4294967296 + x0) := guess_end (unhide hnew) (by
      have := mul_bd (x := d - 1) (y := s) (by omega) hd' bs.1 bs.2
      omega)
     go_wp2
     go_ret
     exact ⟨d - 1, rfl, by omega, hd', by rw [← unhide HH]; exact unhide hend, na + nb + nq, by simp⟩
    ·have hb2 : decide ((4294967296 : Int) ≤ l + f) = false := by simp; omega
     go_wp2
     exact ⟨⟨unhide hnew, by omega, by omega, by omega⟩, by simp [intOf]; omega⟩
   ·have hb3 : decide (l * 4294967296 + x0 < d * s) = false := by simp; omega
    have hend : Hid (d * (f * 4294967296 + s) ≤ high * 4294967296 + x0) := guess_end (unhide HDL) (by omega)
    go_wp2
    go_ret
    exact ⟨d, rfl, hQd, by omega, by rw [← unhide HH]; exact unhide hend, na + nb + nq, by simp⟩
end Go.Proofs.YtndhjoofbkgkiaaDoor

namespace Go.Proofs.YtndhjoofbkgkiaaDoor
open Go.RowKit

theorem vl_split (R : List Int) (p k : Nat) : vl R (p + k) = vl R p + pw p * vl (R.drop p) k := by
 induction k with
 | zero => simp [vl]
 | succ k ih =>
  rw [← Nat.add_assoc, vl_succ, ih, vl_succ, lz_drop, pw_add, Int.mul_add]
  have : lz R (p + k) * (pw p * pw k) = pw p * (lz R (p + k) * pw k) := by rw [Int.mul_left_comm]
  omega

/-- limbs behind what a number reaches are noughts -/
theorem high_zero {R : List Int} (h : Limbs R) {n m : Nat} (hv : vl R n < pw m) (hm : m ≤ n) : vl R m = vl R n ∧ ∀ t, m ≤ t → t < n → lz R t = 0 := by
 induction n with
 | zero => exact ⟨by rw [show m = 0 from by omega], fun t h1 h2 => by omega⟩
 | succ n ih =>
  by_cases e : m = n + 1
  ·subst e; exact ⟨rfl, fun t h1 h2 => by omega⟩
  ·have hb := lz_bd h n
   have hlo := (vl_bd h n).1
   rw [vl_succ] at hv
   have hz : lz R n = 0 := by
    rcases Int.lt_or_le 0 (lz R n) with h1 | h1
    ·have : 1 * pw n ≤ lz R n * pw n := Int.mul_le_mul_of_nonneg_right (by omega) (Int.le_of_lt (pw_pos n))
     have := pw_mono (show m ≤ n from by omega)
     omega
    ·omega
   rw [hz] at hv
   obtain ⟨h1, h2⟩ := ih (by omega) (by omega)
   refine ⟨by rw [vl_succ, hz, h1]; simp, fun t h3 h4 => ?_⟩
   by_cases e2 : t = n
   ·rw [e2]; exact hz
   ·exact h2 t h3 (by omega)

/-- the quotient's limb fits the highest limbs of window and divisor -/
theorem guess_fits {W D : List Int} {j : Nat} {Q : Int} (hW : Limbs W) (hD : Limbs D) (hQ0 : 0 ≤ Q) (hQ : Q * vl D (j + 2) ≤ vl W (j + 3)) :
  Q * (lz D (j + 1) * 4294967296 + lz D j) ≤ (lz W (j + 2) * 4294967296 + lz W (j + 1)) * 4294967296 + lz W j := by
 have hp := pw_pos j
 have e1 : vl D (j + 2) = vl D j + (lz D (j + 1) * 4294967296 + lz D j) * pw j := by
  rw [vl_succ, vl_succ, pw_succ, Int.add_mul, ← Int.mul_assoc]
  omega
 have e2 : vl W (j + 3) = vl W j + ((lz W (j + 2) * 4294967296 + lz W (j + 1)) * 4294967296 + lz W j) * pw j := by
  have p1 : pw (j + 1) = 4294967296 * pw j := pw_succ j
  have p2 : pw (j + 2) = 4294967296 * (4294967296 * pw j) := by rw [pw_succ, pw_succ]
  rw [vl_succ, vl_succ, vl_succ, p1, p2]
  simp only [Int.add_mul, ← Int.mul_assoc]
  omega
 rw [e1, e2] at hQ
 generalize (lz D (j + 1) * 4294967296 + lz D j) = d2 at *
 generalize ((lz W (j + 2) * 4294967296 + lz W (j + 1)) * 4294967296 + lz W j) = w3 at *
 have h1 := (vl_bd hW j).2
 have h2 := Int.mul_nonneg hQ0 (vl_bd hD j).1
 rw [Int.mul_add, ← Int.mul_assoc] at hQ
 rcases Int.lt_or_le w3 (Q * d2) with h | h
 ·have : (w3 + 1) * pw j ≤ Q * d2 * pw j := Int.mul_le_mul_of_nonneg_right (by omega) (by omega)
  rw [Int.add_mul] at this
  omega
 ·exact h

/-- and what fits these is at most one too great -/
theorem guess_near {W D : List Int} {j : Nat} {g : Int} (hW : Limbs W) (hD : Limbs D) (hg0 : 0 ≤ g) (hg1 : g < 4294967296) (hf : 1 ≤ lz D (j + 1))
  (hg : g * (lz D (j + 1) * 4294967296 + lz D j) ≤ (lz W (j + 2) * 4294967296 + lz W (j + 1)) * 4294967296 + lz W j) : (g - 1) * vl D (j + 2) ≤ vl W (j + 3) := by
 have hp := pw_pos j
 have e1 : vl D (j + 2) = vl D j + (lz D (j + 1) * 4294967296 + lz D j) * pw j := by
  rw [vl_succ, vl_succ, pw_succ, Int.add_mul, ← Int.mul_assoc]
  omega
 have e2 : vl W (j + 3) = vl W j + ((lz W (j + 2) * 4294967296 + lz W (j + 1)) * 4294967296 + lz W j) * pw j := by
  have p1 : pw (j + 1) = 4294967296 * pw j := pw_succ j
  have p2 : pw (j + 2) = 4294967296 * (4294967296 * pw j) := by rw [pw_succ, pw_succ]
  rw [vl_succ, vl_succ, vl_succ, p1, p2]
  simp only [Int.add_mul, ← Int.mul_assoc]
  omega
 have hd2 : 4294967296 ≤ lz D (j + 1) * 4294967296 + lz D j := by have := (lz_bd hD j).1; omega
 rw [e1, e2]
 generalize (lz D (j + 1) * 4294967296 + lz D j) = d2 at *
 generalize ((lz W (j + 2) * 4294967296 + lz W (j + 1)) * 4294967296 + lz W j) = w3 at *
 have hw := (vl_bd hW j).1
 have hd := vl_bd hD j
 rcases Int.lt_or_le g 1 with h | h
 ·have hg00 : g = 0 := by omega
  subst hg00
  have : 0 ≤ d2 * pw j := Int.mul_nonneg (by omega) (by omega)
  have : 0 ≤ w3 * pw j := Int.mul_nonneg (by omega) (by omega)
  omega
 ·have h1 : (g - 1) * vl D j ≤ (g - 1) * pw j := Int.mul_le_mul_of_nonneg_left (by omega) (by omega)
  have h2 : (g - 1) * pw j ≤ d2 * pw j := Int.mul_le_mul_of_nonneg_right (by omega) (by omega)
  have h3 : g * d2 * pw j ≤ w3 * pw j := Int.mul_le_mul_of_nonneg_right hg (by omega)
  have h4 : (g - 1) * (d2 * pw j) = g * d2 * pw j - d2 * pw j := by rw [← Int.mul_assoc, Int.sub_mul, Int.sub_mul, Int.one_mul]
  rw [Int.mul_add, h4]
  omega

/-- one place of the quotient -/
theorem place_step {A D V V' Rp pp q r Wv : Int} (hA : A = D * V + (Rp + pp * Wv)) (hW : Wv = D * q + r) (hV : V' = V + q * pp) : A = D * V' + (Rp + pp * r) := by
 rw [hA, hW, hV, Int.mul_add D, Int.mul_add pp]
 have : pp * (D * q) = D * (q * pp) := by rw [Int.mul_left_comm, Int.mul_comm pp q]
 omega

/-- quotient and rest are known by their sizes -/
theorem div_unique {A D q r : Int} (hD : 0 < D) (h : A = D * q + r) (h0 : 0 ≤ r) (h1 : r < D) : A / D = q ∧ A % D = r := by
 subst h
 refine ⟨?_, ?_⟩
 ·rw [Int.add_comm, Int.add_mul_ediv_left _ _ (by omega), Int.ediv_eq_zero_of_lt h0 h1, Int.zero_add]
 ·rw [Int.add_comm, Int.add_mul_emod_self_left, Int.emod_eq_of_lt h0 h1]

theorem vl_noughts {R : List Int} {m n : Nat} (hm : m ≤ n) (h : ∀ t, m ≤ t → t < n → lz R t = 0) : vl R n = vl R m := by
 induction n with
 | zero => rw [show m = 0 from by omega]
 | succ n ih =>
  by_cases e : m = n + 1
  ·rw [e]
  ·rw [vl_succ, h n (by omega) (by omega), ih (by omega) (fun t h1 h2 => h t h1 (by omega))]; simp

/-- what a window is -/
theorem window_pure {R D : List Int} {p j : Nat} (hR : Limbs R) (hD : Limbs D) (hDl : D.length = j + 2) (hL : p + j + 3 ≤ R.length) (hlt : val R < val D * pw (p + 1)) :
  val R = vl R p + pw p * vl (R.drop p) (j + 3) ∧ 0 ≤ vl (R.drop p) (j + 3) ∧ vl (R.drop p) (j + 3) < val D * 4294967296 ∧ (∀ t, p + (j + 3) ≤ t → lz R t = 0) ∧ lz (R.drop p) (j + 2) ≤ lz D (j + 1) := by
 have hDv : val D = vl D (j + 2) := by unfold val; rw [hDl]
 have hDb := vl_bd hD (j + 2)
 rw [← hDv] at hDb
 have hpp := pw_pos p
 have hbig : vl R R.length < pw (p + (j + 3)) := by
  have h1 : val D * pw (p + 1) ≤ pw (j + 2) * pw (p + 1) := Int.mul_le_mul_of_nonneg_right (by omega) (Int.le_of_lt (pw_pos _))
  rw [← pw_add, show j + 2 + (p + 1) = p + (j + 3) from by omega] at h1
  show val R < _
  omega
 obtain ⟨h1, h2⟩ := high_zero hR hbig (by omega)
 have hz : ∀ t, p + (j + 3) ≤ t → lz R t = 0 := fun t ht => by
  rcases Nat.lt_or_ge t R.length with h | h
  ·exact h2 t ht h
  ·exact lz_out h
 have hv : val R = vl R p + pw p * vl (R.drop p) (j + 3) := by
  unfold val
  rw [← h1, vl_split]
 have hlo := vl_bd (hR.drop' p) (j + 3)
 have hRp := (vl_bd hR p).1
 have hW : vl (R.drop p) (j + 3) < val D * 4294967296 := by
  rcases Int.lt_or_le (vl (R.drop p) (j + 3)) (val D * 4294967296) with h | h
  ·exact h
  ·have h3 : val D * 4294967296 * pw p ≤ vl (R.drop p) (j + 3) * pw p := Int.mul_le_mul_of_nonneg_right h (by omega)
   rw [Int.mul_assoc, ← pw_succ, Int.mul_comm (vl (R.drop p) (j + 3))] at h3
   omega
 refine ⟨hv, hlo.1, hW, hz, ?_⟩
 have e1 : vl (R.drop p) (j + 3) = vl (R.drop p) (j + 2) + lz (R.drop p) (j + 2) * pw (j + 2) := vl_succ _ _
 have e2 : vl D (j + 2) = vl D (j + 1) + lz D (j + 1) * pw (j + 1) := vl_succ _ _
 have h4 := (vl_bd (hR.drop' p) (j + 2)).1
 have h5 := (vl_bd hD (j + 1)).2
 have hp1 := pw_pos (j + 1)
 have hp2 : pw (j + 2) = 4294967296 * pw (j + 1) := pw_succ _
 rcases Int.lt_or_le (lz D (j + 1)) (lz (R.drop p) (j + 2)) with h | h
 ·have h6 : (lz D (j + 1) + 1) * pw (j + 2) ≤ lz (R.drop p) (j + 2) * pw (j + 2) := Int.mul_le_mul_of_nonneg_right (by omega) (by omega)
  rw [Int.add_mul, hp2, Int.mul_left_comm] at h6
  rw [hp2] at e1
  rw [hDv, e2] at hW
  omega
 ·exact h

theorem window_after {R R' : List Int} {p k : Nat} {r : Int} (hlen : R'.length = R.length) (hL : p + k ≤ R.length) (hz : ∀ t, p + k ≤ t → lz R t = 0) (hs : ∀ t, t < p ∨ p + k ≤ t → lz R' t = lz R t) (hr : vl (R'.drop p) k = r) : val R' = vl R p + pw p * r := by
 unfold val
 rw [hlen, vl_noughts hL (fun t h1 h2 => by rw [hs t (.inr h1)]; exact hz t h1), vl_split, hr, vl_congr (fun i hi => hs i (.inl hi))]

/-- the guess is the quotient's limb, or one more: then what was taken must be put back -/
theorem digit_cases {Wv d g bw v P : Int} (hd : 0 < d) (hg : Wv / d ≤ g) (hn : (g - 1) * d ≤ Wv) (hb0 : 0 ≤ bw) (hb1 : bw ≤ 1) (hv : v - bw * P = Wv - g * d) (hv0 : 0 ≤ v) (hv1 : v < P) :
  (bw = 0 ∧ g = Wv / d ∧ v = Wv % d) ∨ (bw = 1 ∧ g = Wv / d + 1 ∧ v = Wv % d - d + P) := by
 have h1 : d * (Wv / d) + Wv % d = Wv := Int.mul_ediv_add_emod _ _
 have h2 := Int.emod_nonneg Wv (Int.ne_of_gt hd)
 have h3 := Int.emod_lt_of_pos Wv hd
 have hg2 : g - 1 ≤ Wv / d := Int.le_ediv_of_mul_le hd hn
 have hc : g = Wv / d ∨ g = Wv / d + 1 := by omega
 have hb : bw = 0 ∨ bw = 1 := by omega
 have e0 : Wv / d * d = d * (Wv / d) := Int.mul_comm _ _
 rcases hc with rfl | rfl
 ·rcases hb with rfl | rfl
  ·exact .inl ⟨rfl, rfl, by omega⟩
  ·omega
 ·rw [Int.add_mul, Int.one_mul] at hv
  rcases hb with rfl | rfl
  ·omega
  ·exact .inr ⟨rfl, rfl, by omega⟩
end Go.Proofs.YtndhjoofbkgkiaaDoor
