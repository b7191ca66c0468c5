/-
  Walks: Gcd, Lcm.
-/
import Derived.Test.YtmbeaopcpckiaabDoorD5
namespace Go.Proofs.YtmbeaopcpckiaabDoor
open Go.RowKit
/-- the greatest common divisor of numbers that are not below 0 -/
def gcdI (m n : Int) : Int := (Nat.gcd m.toNat n.toNat : Int)

theorem gcdI_zero {m : Int} (h : 0 ≤ m) : gcdI m 0 = m := by
  unfold gcdI
  rw [show (0 : Int).toNat = 0 from rfl, Nat.gcd_zero_right]
  omega

theorem gcdI_step {m n : Int} (hm : 0 ≤ m) (hn : 0 < n) : gcdI n (m % n) = gcdI m n := by
  unfold gcdI
  obtain ⟨a, rfl⟩ := Int.eq_ofNat_of_zero_le hm
  obtain ⟨b, rfl⟩ := Int.eq_ofNat_of_zero_le (Int.le_of_lt hn)
  rw [← Int.natCast_emod, Int.toNat_natCast, Int.toNat_natCast, Int.toNat_natCast, Nat.gcd_comm a b, Nat.gcd_rec b a, Nat.gcd_comm (a % b) b]

/-- what holds of both numbers at every round's head -/
def GcdRel (w : World) (g0 : Int) (M : Nat) (gk : Nat) (l p : Value) (wr : World) : Prop :=
  ∃ aA nA cA A aB nB cB B, l = .slice aA nA cA ∧ p = .slice aB nB cB ∧ Rd wr aA nA cA A ∧ Rd wr aB nB cB B ∧ Canon B ∧ nA ≤ M ∧ nB ≤ M ∧ Below w.heap.size w wr ∧ gcdI (val A) (val B) = g0 ∧ gk = (val B).toNat

/-- the least common multiple, as it is reckoned -/
def lcmI (m n : Int) : Int := m / gcdI m n * n

theorem Cn.len {w : World} {ad : Option Addr} {len cap : Nat} {n : Int} (h : Cn w ad len cap n) : n = 0 ↔ len = 0 := by
  obtain ⟨zs, h1, h2, rfl⟩ := h
  rw [canon_zero h2]
  constructor
  · rintro rfl; exact h1.1.symm
  · intro h; exact List.eq_nil_of_length_eq_zero (h1.1.trans h)

theorem gcdI_nonneg (m n : Int) : 0 ≤ gcdI m n := Int.natCast_nonneg _
theorem gcdI_comm (m n : Int) : gcdI m n = gcdI n m := by unfold gcdI; rw [Nat.gcd_comm]
theorem gcdI_left {m n : Int} (hm : 0 ≤ m) : gcdI m n ∣ m := by
  unfold gcdI
  obtain ⟨a, rfl⟩ := Int.eq_ofNat_of_zero_le hm
  rw [Int.toNat_natCast]
  exact Int.natCast_dvd_natCast.2 (Nat.gcd_dvd_left _ _)
theorem gcdI_right {m n : Int} (hn : 0 ≤ n) : gcdI m n ∣ n := by rw [gcdI_comm]; exact gcdI_left hn
theorem gcdI_mul {m n c : Int} (hm : 0 ≤ m) (hn : 0 ≤ n) (hc : 0 ≤ c) : gcdI (m * c) (n * c) = gcdI m n * c := by
  unfold gcdI
  obtain ⟨a, rfl⟩ := Int.eq_ofNat_of_zero_le hm
  obtain ⟨b, rfl⟩ := Int.eq_ofNat_of_zero_le hn
  obtain ⟨d, rfl⟩ := Int.eq_ofNat_of_zero_le hc
  rw [← Int.natCast_mul, ← Int.natCast_mul, Int.toNat_natCast, Int.toNat_natCast, Int.toNat_natCast, Int.toNat_natCast, Nat.gcd_mul_right, Int.natCast_mul]
theorem gcdI_add {m n c : Int} (hm : 0 ≤ m) (hn : 0 ≤ n) (hc : 0 ≤ c) : gcdI (m + n * c) n = gcdI m n := by
  unfold gcdI
  obtain ⟨a, rfl⟩ := Int.eq_ofNat_of_zero_le hm
  obtain ⟨b, rfl⟩ := Int.eq_ofNat_of_zero_le hn
  obtain ⟨d, rfl⟩ := Int.eq_ofNat_of_zero_le hc
  rw [← Int.natCast_mul, ← Int.natCast_add, Int.toNat_natCast, Int.toNat_natCast, Int.toNat_natCast, Nat.gcd_comm (a + b * d), Nat.gcd_comm a b, Nat.gcd_rec b (a + b * d), Nat.gcd_rec b a, Nat.add_mul_mod_self_left]
theorem lcmI_mul {m n : Int} (hm : 0 ≤ m) : gcdI m n * lcmI m n = m * n := by
  unfold lcmI
  rw [← Int.mul_assoc, Int.mul_ediv_cancel' (gcdI_left hm)]

end Go.Proofs.YtmbeaopcpckiaabDoor
