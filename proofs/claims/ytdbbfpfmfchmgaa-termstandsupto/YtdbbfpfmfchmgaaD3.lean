/-
  The numbers behind a division by many limbs.
-/
import Derived.Test.YtdbbfpfmfchmgaaD2
namespace Go.Proofs.Ytdbbfpfmfchmgaa
open Go.RowKit

theorem vl_split (R : List Int) (p k : Nat) : vl R (p + k) = vl R p + pw p * vl (R.drop p) k := by
  induction k with
  | zero => simp [vl]
  | succ k ih =>
    rw [← Nat.add_assoc, vl_succ, ih, vl_succ, lz_drop, pw_add, Int.mul_add]
    have : lz R (p + k) * (pw p * pw k) = pw p * (lz R (p + k) * pw k) := by rw [Int.mul_left_comm]
    omega

/-- limbs behind what a number reaches are noughts -/
theorem high_zero {R : List Int} (h : Limbs R) {n m : Nat} (hv : vl R n < pw m) (hm : m ≤ n) : vl R m = vl R n ∧ ∀ t, m ≤ t → t < n → lz R t = 0 := by
  induction n with
  | zero => exact ⟨by rw [show m = 0 from by omega], fun t h1 h2 => by omega⟩
  | succ n ih =>
    by_cases e : m = n + 1
    · subst e; exact ⟨rfl, fun t h1 h2 => by omega⟩
    · have hb := lz_bd h n
      have hlo := (vl_bd h n).1
      rw [vl_succ] at hv
      have hz : lz R n = 0 := by
        rcases Int.lt_or_le 0 (lz R n) with h1 | h1
        · have : 1 * pw n ≤ lz R n * pw n := Int.mul_le_mul_of_nonneg_right (by omega) (Int.le_of_lt (pw_pos n))
          have := pw_mono (show m ≤ n from by omega)
          omega
        · omega
      rw [hz] at hv
      obtain ⟨h1, h2⟩ := ih (by omega) (by omega)
      refine ⟨by rw [vl_succ, hz, h1]; simp, fun t h3 h4 => ?_⟩
      by_cases e2 : t = n
      · rw [e2]; exact hz
      · exact h2 t h3 (by omega)

/-- the quotient's limb fits the highest limbs of window and divisor -/
theorem guess_fits {W D : List Int} {j : Nat} {Q : Int} (hW : Limbs W) (hD : Limbs D) (hQ0 : 0 ≤ Q) (hQ : Q * vl D (j + 2) ≤ vl W (j + 3)) :
    Q * (lz D (j + 1) * 4294967296 + lz D j) ≤ (lz W (j + 2) * 4294967296 + lz W (j + 1)) * 4294967296 + lz W j := by
  have hp := pw_pos j
  have e1 : vl D (j + 2) = vl D j + (lz D (j + 1) * 4294967296 + lz D j) * pw j := by
    rw [vl_succ, vl_succ, pw_succ, Int.add_mul, ← Int.mul_assoc]
    omega
  have e2 : vl W (j + 3) = vl W j + ((lz W (j + 2) * 4294967296 + lz W (j + 1)) * 4294967296 + lz W j) * pw j := by
    have p1 : pw (j + 1) = 4294967296 * pw j := pw_succ j
    have p2 : pw (j + 2) = 4294967296 * (4294967296 * pw j) := by rw [pw_succ, pw_succ]
    rw [vl_succ, vl_succ, vl_succ, p1, p2]
    simp only [Int.add_mul, ← Int.mul_assoc]
    omega
  rw [e1, e2] at hQ
  generalize (lz D (j + 1) * 4294967296 + lz D j) = d2 at *
  generalize ((lz W (j + 2) * 4294967296 + lz W (j + 1)) * 4294967296 + lz W j) = w3 at *
  have h1 := (vl_bd hW j).2
  have h2 := Int.mul_nonneg hQ0 (vl_bd hD j).1
  rw [Int.mul_add, ← Int.mul_assoc] at hQ
  rcases Int.lt_or_le w3 (Q * d2) with h | h
  · have : (w3 + 1) * pw j ≤ Q * d2 * pw j := Int.mul_le_mul_of_nonneg_right (by omega) (by omega)
    rw [Int.add_mul] at this
    omega
  · exact h

/-- and what fits these is at most one too great -/
theorem guess_near {W D : List Int} {j : Nat} {g : Int} (hW : Limbs W) (hD : Limbs D) (hg0 : 0 ≤ g) (hg1 : g < 4294967296) (hf : 1 ≤ lz D (j + 1))
    (hg : g * (lz D (j + 1) * 4294967296 + lz D j) ≤ (lz W (j + 2) * 4294967296 + lz W (j + 1)) * 4294967296 + lz W j) : (g - 1) * vl D (j + 2) ≤ vl W (j + 3) := by
  have hp := pw_pos j
  have e1 : vl D (j + 2) = vl D j + (lz D (j + 1) * 4294967296 + lz D j) * pw j := by
    rw [vl_succ, vl_succ, pw_succ, Int.add_mul, ← Int.mul_assoc]
    omega
  have e2 : vl W (j + 3) = vl W j + ((lz W (j + 2) * 4294967296 + lz W (j + 1)) * 4294967296 + lz W j) * pw j := by
    have p1 : pw (j + 1) = 4294967296 * pw j := pw_succ j
    have p2 : pw (j + 2) = 4294967296 * (4294967296 * pw j) := by rw [pw_succ, pw_succ]
    rw [vl_succ, vl_succ, vl_succ, p1, p2]
    simp only [Int.add_mul, ← Int.mul_assoc]
    omega
  have hd2 : 4294967296 ≤ lz D (j + 1) * 4294967296 + lz D j := by have := (lz_bd hD j).1; omega
  rw [e1, e2]
  generalize (lz D (j + 1) * 4294967296 + lz D j) = d2 at *
  generalize ((lz W (j + 2) * 4294967296 + lz W (j + 1)) * 4294967296 + lz W j) = w3 at *
  have hw := (vl_bd hW j).1
  have hd := vl_bd hD j
  rcases Int.lt_or_le g 1 with h | h
  · have hg00 : g = 0 := by omega
    subst hg00
    have : 0 ≤ d2 * pw j := Int.mul_nonneg (by omega) (by omega)
    have : 0 ≤ w3 * pw j := Int.mul_nonneg (by omega) (by omega)
    omega
  · have h1 : (g - 1) * vl D j ≤ (g - 1) * pw j := Int.mul_le_mul_of_nonneg_left (by omega) (by omega)
    have h2 : (g - 1) * pw j ≤ d2 * pw j := Int.mul_le_mul_of_nonneg_right (by omega) (by omega)
    have h3 : g * d2 * pw j ≤ w3 * pw j := Int.mul_le_mul_of_nonneg_right hg (by omega)
    have h4 : (g - 1) * (d2 * pw j) = g * d2 * pw j - d2 * pw j := by rw [← Int.mul_assoc, Int.sub_mul, Int.sub_mul, Int.one_mul]
    rw [Int.mul_add, h4]
    omega

/-- one place of the quotient -/
theorem place_step {A D V V' Rp pp q r Wv : Int} (hA : A = D * V + (Rp + pp * Wv)) (hW : Wv = D * q + r) (hV : V' = V + q * pp) : A = D * V' + (Rp + pp * r) := by
  rw [hA, hW, hV, Int.mul_add D, Int.mul_add pp]
  have : pp * (D * q) = D * (q * pp) := by rw [Int.mul_left_comm, Int.mul_comm pp q]
  omega

/-- quotient and rest are known by their sizes -/
theorem div_unique {A D q r : Int} (hD : 0 < D) (h : A = D * q + r) (h0 : 0 ≤ r) (h1 : r < D) : A / D = q ∧ A % D = r := by
  subst h
  refine ⟨?_, ?_⟩
  · rw [Int.add_comm, Int.add_mul_ediv_left _ _ (by omega), Int.ediv_eq_zero_of_lt h0 h1, Int.zero_add]
  · rw [Int.add_comm, Int.add_mul_emod_self_left, Int.emod_eq_of_lt h0 h1]

theorem vl_noughts {R : List Int} {m n : Nat} (hm : m ≤ n) (h : ∀ t, m ≤ t → t < n → lz R t = 0) : vl R n = vl R m := by
  induction n with
  | zero => rw [show m = 0 from by omega]
  | succ n ih =>
    by_cases e : m = n + 1
    · rw [e]
    · rw [vl_succ, h n (by omega) (by omega), ih (by omega) (fun t h1 h2 => h t h1 (by omega))]; simp

/-- what a window is -/
theorem window_pure {R D : List Int} {p j : Nat} (hR : Limbs R) (hD : Limbs D) (hDl : D.length = j + 2) (hL : p + j + 3 ≤ R.length) (hlt : val R < val D * pw (p + 1)) :
    val R = vl R p + pw p * vl (R.drop p) (j + 3) ∧ 0 ≤ vl (R.drop p) (j + 3) ∧ vl (R.drop p) (j + 3) < val D * 4294967296 ∧ (∀ t, p + (j + 3) ≤ t → lz R t = 0) ∧ lz (R.drop p) (j + 2) ≤ lz D (j + 1) := by
  have hDv : val D = vl D (j + 2) := by unfold val; rw [hDl]
  have hDb := vl_bd hD (j + 2)
  rw [← hDv] at hDb
  have hpp := pw_pos p
  have hbig : vl R R.length < pw (p + (j + 3)) := by
    have h1 : val D * pw (p + 1) ≤ pw (j + 2) * pw (p + 1) := Int.mul_le_mul_of_nonneg_right (by omega) (Int.le_of_lt (pw_pos _))
    rw [← pw_add, show j + 2 + (p + 1) = p + (j + 3) from by omega] at h1
    show val R < _
    omega
  obtain ⟨h1, h2⟩ := high_zero hR hbig (by omega)
  have hz : ∀ t, p + (j + 3) ≤ t → lz R t = 0 := fun t ht => by
    rcases Nat.lt_or_ge t R.length with h | h
    · exact h2 t ht h
    · exact lz_out h
  have hv : val R = vl R p + pw p * vl (R.drop p) (j + 3) := by
    unfold val
    rw [← h1, vl_split]
  have hlo := vl_bd (hR.drop' p) (j + 3)
  have hRp := (vl_bd hR p).1
  have hW : vl (R.drop p) (j + 3) < val D * 4294967296 := by
    rcases Int.lt_or_le (vl (R.drop p) (j + 3)) (val D * 4294967296) with h | h
    · exact h
    · have h3 : val D * 4294967296 * pw p ≤ vl (R.drop p) (j + 3) * pw p := Int.mul_le_mul_of_nonneg_right h (by omega)
      rw [Int.mul_assoc, ← pw_succ, Int.mul_comm (vl (R.drop p) (j + 3))] at h3
      omega
  refine ⟨hv, hlo.1, hW, hz, ?_⟩
  have e1 : vl (R.drop p) (j + 3) = vl (R.drop p) (j + 2) + lz (R.drop p) (j + 2) * pw (j + 2) := vl_succ _ _
  have e2 : vl D (j + 2) = vl D (j + 1) + lz D (j + 1) * pw (j + 1) := vl_succ _ _
  have h4 := (vl_bd (hR.drop' p) (j + 2)).1
  have h5 := (vl_bd hD (j + 1)).2
  have hp1 := pw_pos (j + 1)
  have hp2 : pw (j + 2) = 4294967296 * pw (j + 1) := pw_succ _
  rcases Int.lt_or_le (lz D (j + 1)) (lz (R.drop p) (j + 2)) with h | h
  · have h6 : (lz D (j + 1) + 1) * pw (j + 2) ≤ lz (R.drop p) (j + 2) * pw (j + 2) := Int.mul_le_mul_of_nonneg_right (by omega) (by omega)
    rw [Int.add_mul, hp2, Int.mul_left_comm] at h6
    rw [hp2] at e1
    rw [hDv, e2] at hW
    omega
  · exact h

theorem window_after {R R' : List Int} {p k : Nat} {r : Int} (hlen : R'.length = R.length) (hL : p + k ≤ R.length) (hz : ∀ t, p + k ≤ t → lz R t = 0) (hs : ∀ t, t < p ∨ p + k ≤ t → lz R' t = lz R t) (hr : vl (R'.drop p) k = r) : val R' = vl R p + pw p * r := by
  unfold val
  rw [hlen, vl_noughts hL (fun t h1 h2 => by rw [hs t (.inr h1)]; exact hz t h1), vl_split, hr, vl_congr (fun i hi => hs i (.inl hi))]

/-- the guess is the quotient's limb, or one more: then what was taken must be put back -/
theorem digit_cases {Wv d g bw v P : Int} (hd : 0 < d) (hg : Wv / d ≤ g) (hn : (g - 1) * d ≤ Wv) (hb0 : 0 ≤ bw) (hb1 : bw ≤ 1) (hv : v - bw * P = Wv - g * d) (hv0 : 0 ≤ v) (hv1 : v < P) :
    (bw = 0 ∧ g = Wv / d ∧ v = Wv % d) ∨ (bw = 1 ∧ g = Wv / d + 1 ∧ v = Wv % d - d + P) := by
  have h1 : d * (Wv / d) + Wv % d = Wv := Int.mul_ediv_add_emod _ _
  have h2 := Int.emod_nonneg Wv (Int.ne_of_gt hd)
  have h3 := Int.emod_lt_of_pos Wv hd
  have hg2 : g - 1 ≤ Wv / d := Int.le_ediv_of_mul_le hd hn
  have hc : g = Wv / d ∨ g = Wv / d + 1 := by omega
  have hb : bw = 0 ∨ bw = 1 := by omega
  have e0 : Wv / d * d = d * (Wv / d) := Int.mul_comm _ _
  rcases hc with rfl | rfl
  · rcases hb with rfl | rfl
    · exact .inl ⟨rfl, rfl, by omega⟩
    · omega
  · rw [Int.add_mul, Int.one_mul] at hv
    rcases hb with rfl | rfl
    · omega
    · exact .inr ⟨rfl, rfl, by omega⟩
end Go.Proofs.Ytdbbfpfmfchmgaa
