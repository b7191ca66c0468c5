/-
  Walks: guess, takeAway, putBack.
-/
import Derived.Test.YtgkacepahfjeeaaGreatDoorD1
namespace Go.Proofs.YtgkacepahfjeeaaGreatDoor
open Go.RowKit

theorem lz_drop (R : List Int) (p i : Nat) : lz (R.drop p) i = lz R (p + i) := by simp [lz]

theorem drop_set (R : List Int) (p i : Nat) (x : Int) : (R.set (p + i) x).drop p = (R.drop p).set i x := by
  apply List.ext_getElem?
  intro j
  simp only [List.getElem?_drop, List.getElem?_set]
  by_cases h : i = j
  · subst h
    rw [if_pos rfl, if_pos rfl, List.length_drop]
    by_cases h2 : p + i < R.length
    · rw [if_pos h2, if_pos (by omega)]
    · rw [if_neg h2, if_neg (by omega)]
  · rw [if_neg (by omega), if_neg h]

theorem Limbs.drop' {zs : List Int} (h : Limbs zs) (n : Nat) : Limbs (zs.drop n) := fun z hz => h z (List.mem_of_mem_drop hz)

/-- a window of a row of the call's own -/
theorem Row.window {w : World} {b : Nat} {R : List Int} (h : Row w b R) (hL : Limbs R) {p n cap : Nat} (hn : p + n ≤ R.length) (hc : n ≤ cap) (hm : cap ≤ 9223372036854775807) : Rd w (some ⟨b, p, none⟩) n cap ((R.drop p).take n) := h.rd hL hn hc hm

set_option maxRecDepth 100000 in
set_option maxHeartbeats 1600000 in
/-- putBack: the divisor is added, the last carry is lost -/
theorem putBack_row {w : World} {b : Nat} {R D : List Int} {p n cap m cd : Nat} {ad : Option Addr} (hr : Row w b R) (hL : Limbs R) (hn : p + n ≤ R.length) (hc : n ≤ cap) (hm : cap ≤ 9223372036854775807)
    (hD : Rd w ad m cd D) (hne : ∀ x off, ad = some ⟨x, off, none⟩ → m = 0 ∨ x ≠ b) (hmn : m ≤ n) :
    Calls Tryz.prog 84 #[.slice (some ⟨b, p, none⟩) n cap, .slice ad m cd] w fun e w' => ∃ R' cr, e = .returned (.tuple #[]) ∧ Row w' b R' ∧ Limbs R' ∧ R'.length = R.length ∧ (∀ t, t < p ∨ p + n ≤ t → lz R' t = lz R t) ∧ 0 ≤ cr ∧ cr ≤ 1 ∧ vl (R'.drop p) n + cr * pw n = vl (R.drop p) n + val D ∧ Only b w w' := by
  have HDL := hide hD.1
  go_enter Tryz.func84, Tryz.ntmps84
  go_wp2_with fail
  go_loopw [4, 8] (fun c i wr => ∃ (k : Nat) (cr : Int) (zk : List Int), k ≤ n ∧ i = .int .i64 k ∧ c = .int .u64 cr ∧ 0 ≤ cr ∧ cr ≤ 1 ∧ zk.length = R.length ∧ Limbs zk ∧ Row wr b zk ∧ Only b w wr ∧ (∀ t, t < p ∨ p + k ≤ t → lz zk t = lz R t) ∧ vl (zk.drop p) k + cr * pw k = vl (R.drop p) k + vl D k) (fun _ i _ => n - (intOf i).toNat)
  case atStart => exact ⟨0, 0, R, Nat.zero_le _, rfl, rfl, by decide, by decide, rfl, hL, hr, Only.refl _ _, fun _ _ => rfl, by simp [vl]⟩
  case round =>
    obtain ⟨k, cr, zk, hk, rfl, rfl, hc0, hc1, hkl, hkL, hrow, honly, hsame, hv⟩ := hrel
    have HV := hide hv
    have HS := hide hsame
    have HKL := hide hkl
    clear hv hsame hkl
    by_cases hkn : k < n
    · have q := hrow.window hkL (p := p) (n := n) (cap := cap) (by have := unhide HKL; omega) hc hm
      have qD := hD.only honly hne
      have hcell := hrow.cell (i := p + k) (by have := unhide HKL; omega)
      have hfr := hrow.frozen (p + k)
      go_wp2_with fail
      refine (limb_any q (k : Int) (by omega) (by omega)).mono ?_
      rintro e w' ⟨rfl, rfl⟩
      rw [Int.toNat_natCast, lz_take, if_pos hkn, lz_drop]
      go_wp2_with fail
      refine (limb_any qD (k : Int) (by omega) (by omega)).mono ?_
      rintro e w' ⟨rfl, rfl⟩
      rw [Int.toNat_natCast]
      have B1 := lz_bd hkL (p + k)
      have B2 := lz_bd qD.2.2.2.1 k
      have HN : Hid (vl ((zk.set (p + k) ((cr + (lz zk (p + k) + lz D k)) % 4294967296)).drop p) (k + 1) + ((cr + (lz zk (p + k) + lz D k)) / 4294967296) * pw (k + 1) = vl (R.drop p) (k + 1) + vl D (k + 1)) := by
        show _ = _
        rw [drop_set, carry_step (by rw [List.length_drop]; have := unhide HKL; omega) (unhide HV), vl_succ, vl_succ, lz_drop, (unhide HS) (p + k) (.inr (Nat.le_refl _)), Int.add_mul]
        omega
      clear HV q qD
      generalize hx : lz zk (p + k) = x at *
      clear hx
      generalize lz D k = y at *
      go_wp2_with fail
      rw [mask64 _ (by omega) (by omega), Int.emod_emod_of_dvd _ (Int.dvd_refl _)]
      exact ⟨⟨k + 1, _, _, by omega, by go_num, rfl, by omega, by omega, by rw [List.length_set]; exact unhide HKL, hkL.set (p + k) (by omega) (by omega), hrow.set (p + k) _, honly.trans (Only.set b (p + k) wr _), fun t ht => by rw [lz_set _ _ _ _ (by have := unhide HKL; omega), if_neg (by omega)]; exact (unhide HS) t (by omega), unhide HN⟩, by simp [intOf]; omega⟩
    · obtain rfl : k = n := by omega
      have hfin : Hid (vl (zk.drop p) k + cr * pw k = vl (R.drop p) k + val D) := by
        show _ = _
        rw [unhide HV, vl_ge (zs := D) (by have := unhide HDL; omega)]
      clear HV
      go_wp2_with fail
      go_end0
      exact ⟨zk, cr, rfl, hrow, hkL, unhide HKL, unhide HS, hc0, hc1, unhide hfin, honly⟩

theorem take_step {zs : List Int} {k : Nat} {bw x y T V : Int} (hk : k < zs.length) (h1 : vl zs k - bw * pw k = V - T) :
    vl (zs.set k ((4294967296 + x - y - bw) % 4294967296)) (k + 1) - (1 - (4294967296 + x - y - bw) / 4294967296) * pw (k + 1) = (V + x * pw k) - (T + y * pw k) := by
  have := borrow_step (zs := zs) (k := k) (bw := bw) (d := x - y) (T := V - T) hk h1
  rw [show 4294967296 + (x - y) - bw = 4294967296 + x - y - bw from by omega, Int.sub_mul x y] at this
  rw [this]
  omega

set_option maxRecDepth 100000 in
set_option maxHeartbeats 1600000 in
/-- takeAway: g times the divisor is taken; whether that went below 0 -/
theorem takeAway_row {w : World} {b : Nat} {R D : List Int} {p n cap m cd : Nat} {ad : Option Addr} {g : Int} (hr : Row w b R) (hL : Limbs R) (hn : p + n ≤ R.length) (hc : n ≤ cap) (hm : cap ≤ 9223372036854775807)
    (hD : Rd w ad m cd D) (hne : ∀ x off, ad = some ⟨x, off, none⟩ → m = 0 ∨ x ≠ b) (hmn : m + 1 = n) (hg0 : 0 ≤ g) (hg1 : g < 4294967296) :
    Calls Tryz.prog 83 #[.slice (some ⟨b, p, none⟩) n cap, .slice ad m cd, .int .u64 g] w fun e w' => ∃ R' bw, e = .returned (.bool (decide (0 < bw))) ∧ Row w' b R' ∧ Limbs R' ∧ R'.length = R.length ∧ (∀ t, t < p ∨ p + n ≤ t → lz R' t = lz R t) ∧ 0 ≤ bw ∧ bw ≤ 1 ∧ vl (R'.drop p) n - bw * pw n = vl (R.drop p) n - g * val D ∧ Only b w w' := by
  have HDL := hide hD.1
  have HMN := hide hmn
  clear hmn
  go_enter Tryz.func83, Tryz.ntmps83
  go_wp2_with fail
  go_loopw [7, 8, 13] (fun c o i wr => ∃ (k : Nat) (cr bw T : Int) (zk : List Int), k ≤ n ∧ i = .int .i64 k ∧ c = .int .u64 cr ∧ 0 ≤ cr ∧ cr < 4294967296 ∧ o = .int .u64 bw ∧ 0 ≤ bw ∧ bw ≤ 1 ∧ zk.length = R.length ∧ Limbs zk ∧ Row wr b zk ∧ Only b w wr ∧ (∀ t, t < p ∨ p + k ≤ t → lz zk t = lz R t) ∧ 0 ≤ T ∧ T + cr * pw k = g * vl D k ∧ vl (zk.drop p) k - bw * pw k = vl (R.drop p) k - T) (fun _ _ i _ => n - (intOf i).toNat)
  case atStart => exact ⟨0, 0, 0, 0, R, Nat.zero_le _, rfl, rfl, by decide, by decide, rfl, by decide, by decide, rfl, hL, hr, Only.refl _ _, fun _ _ => rfl, by decide, by simp [vl], by simp [vl]⟩
  case round =>
    obtain ⟨k, cr, bw, T, zk, hk, rfl, rfl, hc0, hc1, rfl, hb0, hb1, hkl, hkL, hrow, honly, hsame, hT0, hT, hv⟩ := hrel
    have HV := hide hv
    have HS := hide hsame
    have HKL := hide hkl
    have HT := hide hT
    clear hv hsame hkl hT
    by_cases hkn : k < n
    · have q := hrow.window hkL (p := p) (n := n) (cap := cap) (by have := unhide HKL; omega) hc hm
      have qD := hD.only honly hne
      have hcell := hrow.cell (i := p + k) (by have := unhide HKL; omega)
      have hfr := hrow.frozen (p + k)
      go_wp2_with fail
      refine (limb_any qD (k : Int) (by omega) (by omega)).mono ?_
      rintro e w' ⟨rfl, rfl⟩
      rw [Int.toNat_natCast]
      have B2 := lz_bd qD.2.2.2.1 k
      have B4 := mul_bd hg0 hg1 B2.1 B2.2
      go_wp2_with fail
      refine (limb_any q (k : Int) (by omega) (by omega)).mono ?_
      rintro e w' ⟨rfl, rfl⟩
      rw [Int.toNat_natCast, lz_take, if_pos hkn, lz_drop]
      have B1 := lz_bd hkL (p + k)
      have hmk := mask64 (cr + g * lz D k) (by omega) (by omega)
      have HX := hide ((unhide HS) (p + k) (.inr (Nat.le_refl _)))
      have hy : cr + g * lz D k = (cr + g * lz D k) % 4294967296 + 4294967296 * ((cr + g * lz D k) / 4294967296) := (Int.emod_add_mul_ediv _ _).symm
      have HN := hide (take_step (zs := zk.drop p) (k := k) (bw := bw) (x := lz zk (p + k)) (y := (cr + g * lz D k) % 4294967296) (T := T) (V := vl (R.drop p) k) (by rw [List.length_drop]; have := unhide HKL; omega) (unhide HV))
      have HT2 : Hid (T + (cr + g * lz D k) % 4294967296 * pw k + (cr + g * lz D k) / 4294967296 * pw (k + 1) = g * vl D (k + 1)) := by
        show _ = _
        rw [vl_succ, Int.mul_add, ← unhide HT, pw_succ, ← Int.mul_assoc g]
        have e1 : (cr + g * lz D k) / 4294967296 * (4294967296 * pw k) = 4294967296 * ((cr + g * lz D k) / 4294967296) * pw k := by rw [← Int.mul_assoc, Int.mul_comm ((cr + g * lz D k) / 4294967296)]
        rw [e1, Int.add_assoc, ← Int.add_mul, ← hy, Int.add_mul]
        omega
      have hTn : 0 ≤ T + (cr + g * lz D k) % 4294967296 * pw k := by
        have := Int.mul_nonneg (show 0 ≤ (cr + g * lz D k) % 4294967296 from by omega) (Int.le_of_lt (pw_pos k))
        omega
      have HVS : Hid (vl (R.drop p) (k + 1) = vl (R.drop p) k + lz zk (p + k) * pw k) := by
        show _ = _
        rw [vl_succ, lz_drop, unhide HX]
      clear HV q qD HT hy
      generalize hx : lz zk (p + k) = x at *
      clear hx
      generalize hpq : g * lz D k = y at *
      clear hpq
      go_wp2
      rw [mask64 _ (by omega) (by omega), Int.emod_emod_of_dvd _ (Int.dvd_refl _)]
      exact ⟨⟨k + 1, _, _, _, _, by omega, by go_num, rfl, by omega, by omega, rfl, by omega, by omega, by rw [List.length_set]; exact unhide HKL, hkL.set (p + k) (by omega) (by omega), hrow.set (p + k) _, honly.trans (Only.set b (p + k) wr _), fun t ht => by rw [lz_set _ _ _ _ (by have := unhide HKL; omega), if_neg (by omega)]; exact (unhide HS) t (by omega), hTn, unhide HT2, by rw [drop_set, unhide HN, unhide HVS]⟩, by simp [intOf]; omega⟩
    · obtain rfl : k = n := by omega
      have hfin : Hid (vl (zk.drop p) k - bw * pw k = vl (R.drop p) k - g * val D) := by
        show _ = _
        have hT := unhide HT
        have hmn := unhide HMN
        rw [vl_ge (zs := D) (by have := unhide HDL; omega)] at hT
        have hDb := vl_bd hD.2.2.2.1 m
        have hDv : vl D m = val D := vl_ge (by have := unhide HDL; omega)
        rw [hDv] at hDb
        have hgD : g * val D ≤ 4294967295 * val D := Int.mul_le_mul_of_nonneg_right (by omega) hDb.1
        have hpk : pw k = 4294967296 * pw m := by rw [← hmn, pw_succ]
        have hpm := pw_pos m
        have hcr : cr = 0 := by
          rcases Int.lt_or_le cr 1 with h | h
          · omega
          · have : 1 * pw k ≤ cr * pw k := Int.mul_le_mul_of_nonneg_right h (by omega)
            omega
        rw [hcr] at hT
        rw [unhide HV]
        omega
      clear HV HT
      go_wp2_with fail
      go_ret
      exact ⟨zk, bw, rfl, hrow, hkL, unhide HKL, unhide HS, hb0, hb1, unhide hfin, honly⟩

theorem guess_end {d l f s x0 high : Int} (h : d * f + l = high) (hd : d * s ≤ l * 4294967296 + x0) : d * (f * 4294967296 + s) ≤ high * 4294967296 + x0 := by
  rw [← h, Int.mul_add, Int.add_mul, ← Int.mul_assoc]
  omega

theorem guess_more {d l f s x0 high Q : Int} (h : d * f + l = high) (hd : l * 4294967296 + x0 < d * s) (hQ : Q * (f * 4294967296 + s) ≤ high * 4294967296 + x0) (hD : 0 < f * 4294967296 + s) : Q < d := by
  rcases Int.lt_or_le Q d with h1 | h1
  · exact h1
  · have h2 : d * (f * 4294967296 + s) ≤ Q * (f * 4294967296 + s) := Int.mul_le_mul_of_nonneg_right h1 (by omega)
    rw [Int.mul_add, ← Int.mul_assoc] at h2
    rw [← h, Int.add_mul] at hQ
    omega

set_option maxRecDepth 100000 in
set_option maxHeartbeats 3200000 in
theorem guess_walk {w : World} (b p cap bd od cd j : Nat) (x2 x1 x0 f s Q : Int) (hj : j ≤ 1099511627776)
    (g2 : w.cell? ⟨b, p + (j + 2), none⟩ = some (.int .u32 x2)) (g1 : w.cell? ⟨b, p + (j + 1), none⟩ = some (.int .u32 x1)) (g0 : w.cell? ⟨b, p + j, none⟩ = some (.int .u32 x0))
    (e1 : w.cell? ⟨bd, od + (j + 1), none⟩ = some (.int .u32 f)) (e0 : w.cell? ⟨bd, od + j, none⟩ = some (.int .u32 s))
    (b2 : 0 ≤ x2 ∧ x2 < 4294967296) (b1 : 0 ≤ x1 ∧ x1 < 4294967296) (b0 : 0 ≤ x0 ∧ x0 < 4294967296) (bf : 2147483648 ≤ f ∧ f < 4294967296) (bs : 0 ≤ s ∧ s < 4294967296) (hx2 : x2 ≤ f)
    (hQ0 : 0 ≤ Q) (hQ1 : Q < 4294967296) (hQ : Q * (f * 4294967296 + s) ≤ (x2 * 4294967296 + x1) * 4294967296 + x0) :
    Calls Tryz.prog 82 #[.slice (some ⟨b, p, none⟩) (j + 3) cap, .slice (some ⟨bd, od, none⟩) (j + 2) cd] w fun e w' => ∃ g, e = .returned (.int .u64 g) ∧ Q ≤ g ∧ g < 4294967296 ∧ g * (f * 4294967296 + s) ≤ (x2 * 4294967296 + x1) * 4294967296 + x0 ∧ ∃ n, w' = w.drewN n := by
  have ho := or64 x2 x1 b2.1 b2.2 b1.1 b1.2
  have HQ := hide hQ
  obtain ⟨high, hh⟩ : ∃ high, high = x2 * 4294967296 + x1 := ⟨_, rfl⟩
  have hhb : 0 ≤ high ∧ high ≤ f * 4294967296 + 4294967295 := by omega
  have HH := hide hh
  rw [← hh] at ho
  have hq0 : 0 ≤ high / f := Int.ediv_nonneg hhb.1 (by omega)
  have hr0 : 0 ≤ high % f := Int.emod_nonneg _ (by omega)
  have hr1 : high % f < f := Int.emod_lt_of_pos _ (by omega)
  have hqr : high / f * f + high % f = high := by rw [Int.mul_comm]; exact Int.mul_ediv_add_emod _ _
  have HQR := hide hqr
  have HS0 : Hid (Q ≤ high / f) := by
    refine Int.le_ediv_of_mul_le (by omega) ?_
    rw [← hh, Int.mul_add, ← Int.mul_assoc] at hQ
    have := Int.mul_nonneg hQ0 bs.1
    omega
  have HS1 : Hid (high / f ≤ 4294967297) := by
    show _ ≤ _
    rcases Int.lt_or_le 4294967297 (high / f) with h | h
    · have h2 : (4294967298 : Int) * f ≤ high / f * f := Int.mul_le_mul_of_nonneg_right (by omega) (by omega)
      omega
    · exact h
  clear hQ hh hqr
  go_enter Tryz.func82, Tryz.ntmps82
  go_wp2
  go_step3
  go_wp2
  go_quiet (fail)
  obtain ⟨na, hna⟩ : ∃ na, na = nq := ⟨_, rfl⟩
  subst hna
  go_wp2
  go_quiet (fail)
  obtain ⟨nb, hnb⟩ : ∃ nb, nb = nq := ⟨_, rfl⟩
  subst hnb
  go_wp2
  go_quiet (fail)
  go_wp2
  go_step3
  go_wp2
  go_loop [9, 10] (fun vd vl' => ∃ d l : Int, vd = .int .u64 d ∧ vl' = .int .u64 l ∧ d * f + l = high ∧ 0 ≤ l ∧ l < 4294967296 ∧ Q ≤ d ∧ d ≤ 4294967297) (fun vd _ => (intOf vd).toNat)
  case atStart => exact ⟨_, _, rfl, rfl, unhide HQR, hr0, by omega, unhide HS0, unhide HS1⟩
  case round =>
    obtain ⟨d, l, rfl, rfl, hdl, hl0, hl1, hQd, hd1⟩ := hrel
    have HDL := hide hdl
    clear hdl
    have hol := or64 l x0 hl0 hl1 b0.1 b0.2
    by_cases hbig : 4294967296 ≤ d
    · have hb1 : decide ((4294967296 : Int) ≤ d) = true := by simp; omega
      have hlow : l + f < 4294967296 ∨ d = 4294967296 := by
        have h1 := unhide HDL
        rcases Int.lt_or_le 4294967296 d with h2 | h2
        · have e : d = 4294967297 := by omega
          left
          rw [e] at h1
          omega
        · right; omega
      have hnew : Hid ((d - 1) * f + (l + f) = high) := by
        show _ = _
        have h1 := unhide HDL
        rw [Int.sub_mul, Int.one_mul]
        omega
      by_cases hbr : 4294967296 ≤ l + f
      · have hb2 : decide ((4294967296 : Int) ≤ l + f) = true := by simp; omega
        have hd' : d - 1 < 4294967296 := by omega
        have hend : Hid ((d - 1) * (f * 4294967296 + s) ≤ high * 4294967296 + x0) := guess_end (unhide hnew) (by
          have := mul_bd (x := d - 1) (y := s) (by omega) hd' bs.1 bs.2
          omega)
        go_wp2
        go_ret
        exact ⟨d - 1, rfl, by omega, hd', by rw [← unhide HH]; exact unhide hend, na + nb + nq, by simp⟩
      · have hb2 : decide ((4294967296 : Int) ≤ l + f) = false := by simp; omega
        go_wp2
        exact ⟨⟨unhide hnew, by omega, by omega, by omega⟩, by simp [intOf]; omega⟩
    · have hb1 : decide ((4294967296 : Int) ≤ d) = false := by simp; omega
      have hds := mul_bd (x := d) (y := s) (by omega) (by omega) bs.1 bs.2
      by_cases hgt : l * 4294967296 + x0 < d * s
      · have hb3 : decide (l * 4294967296 + x0 < d * s) = true := by simp; omega
        have hQd' : Q < d := guess_more (unhide HDL) hgt (by rw [unhide HH]; exact unhide HQ) (by omega)
        have hnew : Hid ((d - 1) * f + (l + f) = high) := by
          show _ = _
          have h1 := unhide HDL
          rw [Int.sub_mul, Int.one_mul]
          omega
        by_cases hbr : 4294967296 ≤ l + f
        · have hb2 : decide ((4294967296 : Int) ≤ l + f) = true := by simp; omega
          have hd' : d - 1 < 4294967296 := by omega
          have hend : Hid ((d - 1) * (f * 4294967296 + s) ≤ high * 4294967296 + x0) := guess_end (unhide hnew) (by
            have := mul_bd (x := d - 1) (y := s) (by omega) hd' bs.1 bs.2
            omega)
          go_wp2
          go_ret
          exact ⟨d - 1, rfl, by omega, hd', by rw [← unhide HH]; exact unhide hend, na + nb + nq, by simp⟩
        · have hb2 : decide ((4294967296 : Int) ≤ l + f) = false := by simp; omega
          go_wp2
          exact ⟨⟨unhide hnew, by omega, by omega, by omega⟩, by simp [intOf]; omega⟩
      · have hb3 : decide (l * 4294967296 + x0 < d * s) = false := by simp; omega
        have hend : Hid (d * (f * 4294967296 + s) ≤ high * 4294967296 + x0) := guess_end (unhide HDL) (by omega)
        go_wp2
        go_ret
        exact ⟨d, rfl, hQd, by omega, by rw [← unhide HH]; exact unhide hend, na + nb + nq, by simp⟩
end Go.Proofs.YtgkacepahfjeeaaGreatDoor
