/-
  How many bits a number has, as a number.
-/
import Derived.Test.YtpkbdfdbmeilpabDoorK2
namespace Go.Proofs.YtpkbdfdbmeilpabDoor
open Go.RowKit

theorem pw_two (m : Nat) : pw m = 2 ^ (32 * m) := by
  induction m with
  | zero => rfl
  | succ m ih =>
    rw [pw_succ, ih, show 32 * (m + 1) = 32 + 32 * m from by omega, Int.pow_add]
    rfl

theorem two_cast (k : Nat) : ((2 ^ k : Nat) : Int) = (2 : Int) ^ k := by simp

theorem bitsL_spec {X : List Int} (h : Canon X) (hp : 0 < X.length) : 0 < bitsL X ∧ (2 : Int) ^ (bitsL X - 1) ≤ val X ∧ val X < 2 ^ bitsL X ∧ bitsL X ≤ 32 * X.length := by
  obtain ⟨m, hm⟩ : ∃ m, X.length = m + 1 := ⟨X.length - 1, by omega⟩
  have hb : bitsL X = 32 * m + Lib.bitLen (lz X m).toNat := by unfold bitsL; rw [hm, if_neg (by omega)]; rfl
  have hl := h.2 hp
  rw [hm, Nat.add_sub_cancel] at hl
  have hbd := lz_bd h.1 m
  obtain ⟨u, hu⟩ := Int.eq_ofNat_of_zero_le hbd.1
  rw [hu] at hb hl hbd
  rw [Int.toNat_natCast] at hb
  have hu0 : u ≠ 0 := by omega
  obtain ⟨s1, s2⟩ := bitLen_spec u (by omega)
  obtain ⟨s3, s4⟩ := s2 hu0
  have s5 := bitLen_le32 u (by omega)
  generalize Lib.bitLen u = l at *
  have hv : val X = vl X m + (u : Int) * pw m := by unfold val; rw [hm, vl_succ, hu]
  have hlo := vl_bd h.1 m
  have hpp := pw_pos m
  refine ⟨by omega, ?_, ?_, by omega⟩
  · rw [hb, hv, show 32 * m + l - 1 = (l - 1) + 32 * m from by omega, Int.pow_add, ← pw_two]
    have : ((2 ^ (l - 1) : Nat) : Int) * pw m ≤ (u : Int) * pw m := Int.mul_le_mul_of_nonneg_right (Int.ofNat_le.2 s4) (by omega)
    rw [two_cast] at this
    omega
  · rw [hb, hv, show 32 * m + l = l + 32 * m from by omega, Int.pow_add, ← pw_two]
    have : ((u : Int) + 1) * pw m ≤ ((2 ^ l : Nat) : Int) * pw m := Int.mul_le_mul_of_nonneg_right (by have := Int.ofNat_lt.2 s1; omega) (by omega)
    rw [two_cast, Int.add_mul] at this
    omega

theorem bits_v {a1 : Option Addr} {l1 c1 : Nat} {n : Int} {w : World} (h1 : Nm w a1 l1 c1 n) (hl : l1 ≤ 1099511627776) (hn : 0 < n) :
    Calls Tryd.prog 8 #[.slice a1 l1 c1] w fun e w' => ∃ k : Nat, e = .returned (.int .i64 k) ∧ 0 < k ∧ (2 : Int) ^ (k - 1) ≤ n ∧ n < 2 ^ k ∧ k ≤ 32 * l1 ∧ Below w.heap.size w w' := by
  obtain ⟨xs, h1, rfl⟩ := h1
  refine (bits_any h1 hl).mono ?_
  rintro e w' ⟨rfl, rfl⟩
  have hc := canon_trim h1.2.2.2.1
  have hv := val_trim xs
  have hp : 0 < (trim xs).length := by
    rcases Nat.eq_zero_or_pos (trim xs).length with h | h
    · rw [List.eq_nil_of_length_eq_zero h] at hv
      have : val [] = 0 := rfl
      omega
    · exact h
  obtain ⟨s1, s2, s3, s4⟩ := bitsL_spec hc hp
  rw [hv] at s2 s3
  have ht := tl_le xs xs.length
  rw [trim_length, h1.1] at s4
  rw [h1.1] at ht
  exact ⟨_, rfl, s1, s2, s3, by omega, Below.refl _ _⟩

/-- between the same powers of 2 -/
theorem bits_unique {n : Int} {k j : Nat} (hk : 0 < k) (hj : 0 < j) (h1 : (2 : Int) ^ (k - 1) ≤ n) (h2 : n < 2 ^ k) (h3 : (2 : Int) ^ (j - 1) ≤ n) (h4 : n < 2 ^ j) : k = j := by
  have mono : ∀ a b : Nat, a ≤ b → (2 : Int) ^ a ≤ 2 ^ b := fun a b h => by
    have := Nat.pow_le_pow_right (n := 2) (by decide) h
    have := Int.ofNat_le.2 this
    rwa [two_cast, two_cast] at this
  rcases Nat.lt_trichotomy k j with h | h | h
  · have := mono k (j - 1) (by omega); omega
  · exact h
  · have := mono j (k - 1) (by omega); omega
end Go.Proofs.YtpkbdfdbmeilpabDoor
