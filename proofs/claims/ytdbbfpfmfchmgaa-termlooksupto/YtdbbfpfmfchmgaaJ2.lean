/-
  Several texts in one: D4, D5, D6.
-/
import Derived.Test.YtdbbfpfmfchmgaaD3
import Derived.Test.YtdbbfpfmfchmgaaK2
import Derived.Test.YtdbbfpfmfchmgaaK1
import Derived.Deep.LoopGhost
namespace Go.Proofs.Ytdbbfpfmfchmgaa
open Go.RowKit

/-- how far a divisor is shifted, and what it is then -/
theorem norm_pure {Y : List Int} {j : Nat} (h : Canon Y) (hl : Y.length = j + 2) : ∃ sh : Nat, sh < 32 ∧ (32 : Int) - (Lib.bitLen (lz Y (j + 1)).toNat : Int) = sh ∧ 0 < lz Y (j + 1) ∧ Lib.bitLen (lz Y (j + 1)).toNat ≤ 32 ∧ 2147483648 * pw (j + 1) ≤ val Y * 2 ^ sh ∧ val Y * 2 ^ sh < pw (j + 2) := by
  have hb := lz_bd h.1 (j + 1)
  have hne := h.2 (by omega)
  rw [hl, show j + 2 - 1 = j + 1 from by omega] at hne
  obtain ⟨u, hu⟩ := Int.eq_ofNat_of_zero_le hb.1
  rw [hu] at hb hne ⊢
  rw [Int.toNat_natCast]
  obtain ⟨s1, s2⟩ := bitLen_spec u (by omega)
  obtain ⟨s3, s4⟩ := s2 (by omega)
  have s5 := bitLen_le32 u (by omega)
  generalize Lib.bitLen u = l at *
  have hv : val Y = vl Y (j + 1) + (u : Int) * pw (j + 1) := by unfold val; rw [hl, vl_succ, hu]
  have hlo := vl_bd h.1 (j + 1)
  have hp := pw_pos (j + 1)
  have hp2 : pw (j + 2) = 4294967296 * pw (j + 1) := pw_succ _
  refine ⟨32 - l, by omega, by omega, by omega, s5, ?_, ?_⟩
  · have h1 : ((2 ^ (l - 1) : Nat) : Int) * pw (j + 1) ≤ val Y := by
      have : ((2 ^ (l - 1) : Nat) : Int) * pw (j + 1) ≤ (u : Int) * pw (j + 1) := Int.mul_le_mul_of_nonneg_right (Int.ofNat_le.2 s4) (by omega)
      omega
    have h2 : ((2 ^ (l - 1) : Nat) : Int) * pw (j + 1) * 2 ^ (32 - l) ≤ val Y * 2 ^ (32 - l) := Int.mul_le_mul_of_nonneg_right h1 (Int.le_of_lt (p2_pos _))
    have e : ((2 ^ (l - 1) : Nat) : Int) * pw (j + 1) * 2 ^ (32 - l) = 2147483648 * pw (j + 1) := by
      have e2 : ((2 ^ (l - 1) : Nat) : Int) * 2 ^ (32 - l) = 2147483648 := by
        have : ((2 ^ (l - 1) : Nat) : Int) = (2 : Int) ^ (l - 1) := by simp
        rw [this, ← Int.pow_add, show l - 1 + (32 - l) = 31 from by omega]
        decide
      rw [Int.mul_right_comm, e2]
    omega
  · have h1 : val Y + 1 ≤ ((2 ^ l : Nat) : Int) * pw (j + 1) := by
      have : ((u : Int) + 1) * pw (j + 1) ≤ ((2 ^ l : Nat) : Int) * pw (j + 1) := Int.mul_le_mul_of_nonneg_right (by have := Int.ofNat_lt.2 s1; omega) (by omega)
      rw [Int.add_mul] at this
      omega
    have h2 : (val Y + 1) * 2 ^ (32 - l) ≤ ((2 ^ l : Nat) : Int) * pw (j + 1) * 2 ^ (32 - l) := Int.mul_le_mul_of_nonneg_right h1 (Int.le_of_lt (p2_pos _))
    have e : ((2 ^ l : Nat) : Int) * pw (j + 1) * 2 ^ (32 - l) = 4294967296 * pw (j + 1) := by
      have e2 : ((2 ^ l : Nat) : Int) * 2 ^ (32 - l) = 4294967296 := by
        have : ((2 ^ l : Nat) : Int) = (2 : Int) ^ l := by simp
        rw [this, ← Int.pow_add, show l + (32 - l) = 32 from by omega]
        decide
      rw [Int.mul_right_comm, e2]
    rw [Int.add_mul] at h2
    have := p2_pos (32 - l)
    omega

theorem canon_len_eq {D : List Int} {m : Nat} (h : Canon D) (h1 : pw m ≤ val D) (h2 : val D < pw (m + 1)) : D.length = m + 1 := by
  have h3 := canon_len h h2
  have h4 := (vl_bd h.1 D.length).2
  rcases Nat.lt_or_ge m D.length with h5 | h5
  · omega
  · have := pw_mono h5
    unfold val at h1
    omega

theorem top_high {D : List Int} {j : Nat} (h : Limbs D) (hl : D.length = j + 2) (hv : 2147483648 * pw (j + 1) ≤ val D) : 2147483648 ≤ lz D (j + 1) := by
  have e : val D = vl D (j + 1) + lz D (j + 1) * pw (j + 1) := by unfold val; rw [hl, vl_succ]
  have h1 := (vl_bd h (j + 1)).2
  have hp := pw_pos (j + 1)
  rcases Int.lt_or_le (lz D (j + 1)) 2147483648 with h2 | h2
  · have : lz D (j + 1) * pw (j + 1) ≤ 2147483647 * pw (j + 1) := Int.mul_le_mul_of_nonneg_right (by omega) (by omega)
    omega
  · exact h2

theorem row_drewN {w : World} {b : Nat} {xs : List Int} (h : Row w b xs) (n : Nat) : Row (w.drewN n) b xs := h

theorem dbm_shift {x y s : Int} (hs : 0 < s) : x * s / (y * s) = x / y ∧ x * s % (y * s) / s = x % y := by
  refine ⟨Int.mul_ediv_mul_of_pos_left _ _ hs, ?_⟩
  rw [Int.mul_comm x s, Int.mul_comm y s, Int.mul_emod_mul_of_pos _ _ hs]
  exact Int.mul_ediv_cancel_left _ (by omega)

end Go.Proofs.Ytdbbfpfmfchmgaa

namespace Go.Proofs.Ytdbbfpfmfchmgaa
open Go.RowKit

/-- a canonical reading of a number is no longer than any other -/
theorem canon_short {zs xs : List Int} {l : Nat} (h : Canon zs) (hx : Limbs xs) (hl : xs.length = l) (hv : val zs ≤ val xs) : zs.length ≤ l := by
  refine canon_len h ?_
  have := (vl_bd hx xs.length).2
  rw [hl] at this
  have e : vl xs l = val xs := by unfold val; rw [hl]
  omega

end Go.Proofs.Ytdbbfpfmfchmgaa

namespace Go.Proofs.Ytdbbfpfmfchmgaa
open Go.RowKit
/-- the greatest common divisor of numbers that are not below 0 -/
def gcdI (m n : Int) : Int := (Nat.gcd m.toNat n.toNat : Int)

theorem gcdI_zero {m : Int} (h : 0 ≤ m) : gcdI m 0 = m := by
  unfold gcdI
  rw [show (0 : Int).toNat = 0 from rfl, Nat.gcd_zero_right]
  omega

theorem gcdI_step {m n : Int} (hm : 0 ≤ m) (hn : 0 < n) : gcdI n (m % n) = gcdI m n := by
  unfold gcdI
  obtain ⟨a, rfl⟩ := Int.eq_ofNat_of_zero_le hm
  obtain ⟨b, rfl⟩ := Int.eq_ofNat_of_zero_le (Int.le_of_lt hn)
  rw [← Int.natCast_emod, Int.toNat_natCast, Int.toNat_natCast, Int.toNat_natCast, Nat.gcd_comm a b, Nat.gcd_rec b a, Nat.gcd_comm (a % b) b]

/-- what holds of both numbers at every round's head -/
def GcdRel (w : World) (g0 : Int) (M : Nat) (gk : Nat) (l p : Value) (wr : World) : Prop :=
  ∃ aA nA cA A aB nB cB B, l = .slice aA nA cA ∧ p = .slice aB nB cB ∧ Rd wr aA nA cA A ∧ Rd wr aB nB cB B ∧ Canon B ∧ nA ≤ M ∧ nB ≤ M ∧ Below w.heap.size w wr ∧ gcdI (val A) (val B) = g0 ∧ gk = (val B).toNat

/-- the least common multiple, as it is reckoned -/
def lcmI (m n : Int) : Int := m / gcdI m n * n

theorem Cn.len {w : World} {ad : Option Addr} {len cap : Nat} {n : Int} (h : Cn w ad len cap n) : n = 0 ↔ len = 0 := by
  obtain ⟨zs, h1, h2, rfl⟩ := h
  rw [canon_zero h2]
  constructor
  · rintro rfl; exact h1.1.symm
  · intro h; exact List.eq_nil_of_length_eq_zero (h1.1.trans h)

theorem gcdI_nonneg (m n : Int) : 0 ≤ gcdI m n := Int.natCast_nonneg _
theorem gcdI_comm (m n : Int) : gcdI m n = gcdI n m := by unfold gcdI; rw [Nat.gcd_comm]
theorem gcdI_left {m n : Int} (hm : 0 ≤ m) : gcdI m n ∣ m := by
  unfold gcdI
  obtain ⟨a, rfl⟩ := Int.eq_ofNat_of_zero_le hm
  rw [Int.toNat_natCast]
  exact Int.natCast_dvd_natCast.2 (Nat.gcd_dvd_left _ _)
theorem gcdI_right {m n : Int} (hn : 0 ≤ n) : gcdI m n ∣ n := by rw [gcdI_comm]; exact gcdI_left hn
theorem gcdI_mul {m n c : Int} (hm : 0 ≤ m) (hn : 0 ≤ n) (hc : 0 ≤ c) : gcdI (m * c) (n * c) = gcdI m n * c := by
  unfold gcdI
  obtain ⟨a, rfl⟩ := Int.eq_ofNat_of_zero_le hm
  obtain ⟨b, rfl⟩ := Int.eq_ofNat_of_zero_le hn
  obtain ⟨d, rfl⟩ := Int.eq_ofNat_of_zero_le hc
  rw [← Int.natCast_mul, ← Int.natCast_mul, Int.toNat_natCast, Int.toNat_natCast, Int.toNat_natCast, Int.toNat_natCast, Nat.gcd_mul_right, Int.natCast_mul]
theorem gcdI_add {m n c : Int} (hm : 0 ≤ m) (hn : 0 ≤ n) (hc : 0 ≤ c) : gcdI (m + n * c) n = gcdI m n := by
  unfold gcdI
  obtain ⟨a, rfl⟩ := Int.eq_ofNat_of_zero_le hm
  obtain ⟨b, rfl⟩ := Int.eq_ofNat_of_zero_le hn
  obtain ⟨d, rfl⟩ := Int.eq_ofNat_of_zero_le hc
  rw [← Int.natCast_mul, ← Int.natCast_add, Int.toNat_natCast, Int.toNat_natCast, Int.toNat_natCast, Nat.gcd_comm (a + b * d), Nat.gcd_comm a b, Nat.gcd_rec b (a + b * d), Nat.gcd_rec b a, Nat.add_mul_mod_self_left]
theorem lcmI_mul {m n : Int} (hm : 0 ≤ m) : gcdI m n * lcmI m n = m * n := by
  unfold lcmI
  rw [← Int.mul_assoc, Int.mul_ediv_cancel' (gcdI_left hm)]

end Go.Proofs.Ytdbbfpfmfchmgaa
