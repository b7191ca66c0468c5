/-
  Walks of the reference package: DivMod.
-/
import Derived.Test.YtofhodimmeiahaaGreatDoorR6
import Derived.Deep.DeepCutAuto
import Derived.Deep.RegionHeld3
namespace Go.Proofs.YtofhodimmeiahaaGreatDoor
open Go.RowKit

theorem tw_succ {t : Nat} (h : t < 32) : (2 : Int) ^ (32 - t) = 2 * 2 ^ (32 - (t + 1)) := by
  rw [show 32 - t = 32 - (t + 1) + 1 from by omega, Int.pow_succ, Int.mul_comm]

/-- one bit more -/
theorem bit_step {x H P qv m rv Y : Int} {t : Nat} (ht : t < 32) (h1 : P = H * 2 ^ (32 - (t + 1)) + x / 2 ^ (t + 1)) (h2 : P = (qv * 2 ^ (32 - (t + 1)) + m) * Y + rv) (k : Int) :
    2 * P + x / 2 ^ t % 2 = H * 2 ^ (32 - t) + x / 2 ^ t ∧ 2 * P + x / 2 ^ t % 2 = (qv * 2 ^ (32 - t) + (2 * m + k)) * Y + (rv * 2 + x / 2 ^ t % 2 - k * Y) := by
  have e : x / 2 ^ (t + 1) = x / 2 ^ t / 2 := by
    rw [Int.pow_succ, Int.ediv_ediv_of_nonneg (Int.pow_nonneg (by decide))]
  constructor
  · rw [h1, e, tw_succ ht]
    generalize x / 2 ^ t = X at *
    have e3 : H * (2 * 2 ^ (32 - (t + 1))) = 2 * (H * 2 ^ (32 - (t + 1))) := Int.mul_left_comm _ _ _
    rw [e3]
    generalize H * 2 ^ (32 - (t + 1)) = HT at *
    omega
  · rw [h2, tw_succ ht]
    simp only [Int.mul_add, Int.add_mul, Int.mul_assoc, Int.mul_left_comm 2]
    omega

theorem m_bd {m : Int} {t : Nat} (ht : t < 32) (h0 : 0 ≤ m) (h1 : m < 2 ^ (32 - (t + 1))) : 0 ≤ m * 2 ^ (t + 1) ∧ m * 2 ^ (t + 1) + 2 ^ t ≤ 4294967295 ∧ (0 : Int) < 2 ^ t ∧ (2 : Int) ^ t ≤ 2147483648 ∧ m * 2 ^ (t + 1) + 2 ^ t = (2 * m + 1) * 2 ^ t ∧ m * 2 ^ (t + 1) = (2 * m) * 2 ^ t := by
  have p0 : (0 : Int) < 2 ^ t := Int.pow_pos (by decide)
  have e : (2 : Int) ^ (t + 1) = 2 * 2 ^ t := by rw [Int.pow_succ, Int.mul_comm]
  have e2 : m * 2 ^ (t + 1) = (2 * m) * 2 ^ t := by rw [e, Int.mul_left_comm, Int.mul_assoc]
  have e3 : (2 : Int) ^ (32 - (t + 1)) * 2 ^ (t + 1) = 4294967296 := by
    rw [← Int.pow_add, show 32 - (t + 1) + (t + 1) = 32 from by omega]; decide
  have h2 : (m + 1) * 2 ^ (t + 1) ≤ 2 ^ (32 - (t + 1)) * 2 ^ (t + 1) := Int.mul_le_mul_of_nonneg_right (by omega) (by rw [e]; omega)
  rw [e3, Int.add_mul, Int.one_mul] at h2
  have h3 : 0 ≤ m * 2 ^ (t + 1) := Int.mul_nonneg h0 (by rw [e]; omega)
  refine ⟨h3, by omega, p0, by omega, ?_, e2⟩
  rw [e2, Int.add_mul, Int.one_mul]
theorem bit_bd (x : Int) (t : Nat) (h : 0 ≤ x) : 0 ≤ x / 2 ^ t % 2 ∧ x / 2 ^ t % 2 < 2 ∧ (x / 2 ^ t).tmod 2 = x / 2 ^ t % 2 := by
  have h0 : 0 ≤ x / 2 ^ t := Int.ediv_nonneg h (Int.pow_nonneg (by decide))
  exact ⟨Int.emod_nonneg _ (by decide), Int.emod_lt_of_pos _ (by decide), Int.tmod_eq_emod_of_nonneg h0⟩

end Go.Proofs.YtofhodimmeiahaaGreatDoor
