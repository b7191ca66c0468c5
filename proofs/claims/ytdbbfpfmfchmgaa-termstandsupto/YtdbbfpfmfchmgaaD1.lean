/-
  Walks: shiftUp, shiftDown.
-/
import Derived.Test.YtdbbfpfmfchmgaaJ0
namespace Go.Proofs.Ytdbbfpfmfchmgaa
open Go.RowKit

theorem p2_pos (sh : Nat) : (0 : Int) < 2 ^ sh := Int.pow_pos (by decide)

theorem p2_le {sh : Nat} (h : sh < 32) : (2 : Int) ^ sh ≤ 2147483648 := by
  have h1 : 2 ^ sh ≤ 2 ^ 31 := Nat.pow_le_pow_right (by decide) (by omega)
  have h2 : ((2 ^ sh : Nat) : Int) ≤ ((2 ^ 31 : Nat) : Int) := Int.ofNat_le.2 h1
  have e : ((2 ^ sh : Nat) : Int) = (2 : Int) ^ sh := by simp
  rw [e] at h2
  simpa using h2

theorem shl_bd {x : Int} {sh : Nat} (h0 : 0 ≤ x) (h1 : x < 4294967296) (hs : sh < 32) : 0 ≤ x * 2 ^ sh ∧ x * 2 ^ sh ≤ 4294967295 * 2147483648 := by
  have hp := p2_pos sh
  have hl := p2_le hs
  refine ⟨Int.mul_nonneg h0 (by omega), ?_⟩
  exact Int.le_trans (Int.mul_le_mul_of_nonneg_right (by omega) (by omega)) (Int.mul_le_mul_of_nonneg_left hl (by decide))

theorem wrap_shl {x : Int} {sh : Nat} (h0 : 0 ≤ x) (h1 : x < 4294967296) (hs : sh < 32) : IntKind.u64.wrap (x * 2 ^ sh) = x * 2 ^ sh := by
  have := shl_bd h0 h1 hs
  rw [IntKind.wrap_u64]
  exact Int.emod_eq_of_lt this.1 (by omega)

theorem or_shift {cr x : Int} {sh : Nat} (hc0 : 0 ≤ cr) (hc1 : cr < 2 ^ sh) (h0 : 0 ≤ x) (h1 : x < 4294967296) (hs : sh < 32) : bits .or .u64 cr (x * 2 ^ sh) = cr + x * 2 ^ sh := by
  have hb := shl_bd h0 h1 hs
  have hl := p2_le hs
  obtain ⟨a, rfl⟩ := Int.eq_ofNat_of_zero_le hc0
  obtain ⟨b, rfl⟩ := Int.eq_ofNat_of_zero_le h0
  have e1 : ((b : Int) * 2 ^ sh) = ((b * 2 ^ sh : Nat) : Int) := by simp
  have ha : a < 2 ^ sh := by
    have : ((a : Nat) : Int) < ((2 ^ sh : Nat) : Int) := by simpa using hc1
    exact Int.ofNat_lt.1 this
  rw [e1] at hb ⊢
  rw [u64_or_nat _ _ (by omega) (by omega)]
  have e2 : a ||| b * 2 ^ sh = b * 2 ^ sh + a := by
    have := Nat.two_pow_add_eq_or_of_lt (i := sh) (b := a) ha b
    rw [Nat.or_comm, Nat.mul_comm b]
    exact this.symm
  rw [e2]
  omega

theorem shr_limb {x0 x1 : Int} {sh : Nat} (h0 : 0 ≤ x0) (h1 : x0 < 4294967296) (hs : sh < 32) :
    2 ^ sh * ((x1 * 4294967296 + x0) / 2 ^ sh % 4294967296) = x0 - x0 % 2 ^ sh + (x1 % 2 ^ sh) * 4294967296 := by
  have hS0 := p2_pos sh
  have hT0 := p2_pos (32 - sh)
  have hST : (2 : Int) ^ sh * 2 ^ (32 - sh) = 4294967296 := by
    rw [← Int.pow_add, show sh + (32 - sh) = 32 from by omega]
    decide
  generalize (2 : Int) ^ sh = S at *
  generalize (2 : Int) ^ (32 - sh) = T at *
  have e0 : S * (x0 / S) + x0 % S = x0 := Int.mul_ediv_add_emod _ _
  have e1 : S * (x1 / S) + x1 % S = x1 := Int.mul_ediv_add_emod _ _
  have r0 := Int.emod_nonneg x0 (Int.ne_of_gt hS0)
  have r1 := Int.emod_nonneg x1 (Int.ne_of_gt hS0)
  have r1' := Int.emod_lt_of_pos x1 hS0
  have q0 : x0 / S < T := Int.ediv_lt_of_lt_mul hS0 (by rw [Int.mul_comm T S]; omega)
  have q0' : 0 ≤ x0 / S := Int.ediv_nonneg h0 (by omega)
  have f1 : (x1 * 4294967296 + x0) / S = x0 / S + x1 * T := by
    have : x1 * 4294967296 + x0 = x0 + S * (x1 * T) := by
      rw [← hST, Int.mul_left_comm, Int.mul_left_comm S x1 T]
      omega
    rw [this, Int.add_mul_ediv_left _ _ (by omega)]
  have hrT : x1 % S * T ≤ 4294967296 - T := by
    have h2 : (x1 % S + 1) * T ≤ S * T := Int.mul_le_mul_of_nonneg_right (by omega) (by omega)
    rw [Int.add_mul, hST] at h2
    omega
  have hrT0 : 0 ≤ x1 % S * T := Int.mul_nonneg r1 (by omega)
  have f2 : x0 / S + x1 * T = x0 / S + x1 % S * T + 4294967296 * (x1 / S) := by
    have : x1 * T = (S * (x1 / S) + x1 % S) * T := by rw [e1]
    rw [this, Int.add_mul, ← hST, Int.mul_right_comm S (x1 / S) T]
    omega
  rw [f1, f2, Int.add_mul_emod_self_left, Int.emod_eq_of_lt (by omega) (by omega), Int.mul_add]
  have f3 : S * (x1 % S * T) = x1 % S * 4294967296 := by rw [← hST, Int.mul_left_comm]
  rw [f3]
  omega

end Go.Proofs.Ytdbbfpfmfchmgaa
