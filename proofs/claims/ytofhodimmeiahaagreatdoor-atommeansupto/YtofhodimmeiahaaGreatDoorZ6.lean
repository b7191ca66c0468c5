/-
  Layer 2: 'awake'.
-/
import Derived.Test.YtofhodimmeiahaaGreatDoorZ5
namespace Go.Proofs.YtofhodimmeiahaaGreatDoor
open Go.RowKit

theorem fd_le {a b q r q' r' : Int} (h : FD a b q r) (h' : FD a b q' r') : q ≤ q' := by
  obtain ⟨e, c⟩ := h
  obtain ⟨e', c'⟩ := h'
  by_cases hq : q ≤ q'
  · exact hq
  · exfalso
    have h1 : q' + 1 ≤ q := by omega
    rcases c with ⟨c1, c2⟩ | ⟨c1, c2⟩
    · have hb : 0 ≤ b := by omega
      have h2 := Int.mul_le_mul_of_nonneg_right h1 hb
      rw [Int.add_mul, Int.one_mul] at h2
      rcases c' with ⟨d1, d2⟩ | ⟨d1, d2⟩ <;> omega
    · have hb : b ≤ 0 := by omega
      have h2 := Int.mul_le_mul_of_nonpos_right h1 hb
      rw [Int.add_mul, Int.one_mul] at h2
      rcases c' with ⟨d1, d2⟩ | ⟨d1, d2⟩ <;> omega
theorem fd_unique {a b q r q' r' : Int} (h : FD a b q r) (h' : FD a b q' r') : q = q' ∧ r = r' := by
  have e := Int.le_antisymm (fd_le h h') (fd_le h' h)
  subst e
  exact ⟨rfl, by have := h.1; have := h'.1; omega⟩

def minusS : ByteArray := ⟨#[45, 52, 50, 57, 52, 57, 54, 55, 50, 57, 54]⟩
theorem minus_cut : cutB minusS = true := by kernel_rfl
theorem minus_ok : okText (minusS.extract 1 minusS.size) := by
  refine ⟨by decide, by decide, ?_⟩
  have : ∀ i, i < 10 → 48 ≤ bt (minusS.extract 1 minusS.size) i ∧ bt (minusS.extract 1 minusS.size) i ≤ 57 := by decide
  exact this
theorem minus_dr : dr (minusS.extract 1 minusS.size) 0 (minusS.extract 1 minusS.size).size = 4294967296 := by decide
theorem awake_text : zText 12884901888 = ⟨#[49, 50, 56, 56, 52, 57, 48, 49, 56, 56, 56]⟩ := by
  have h := dec_pad 9 12 884901888 (by decide) (by decide)
  rw [show 12 * 10 ^ 9 + 884901888 = 12884901888 from rfl, dec_step 12 (by decide), dec_small (12 / 10) (by decide)] at h
  unfold zText
  rw [if_neg (by decide), show (12884901888 : Int).toNat = 12884901888 from by decide, h]
  decide

end Go.Proofs.YtofhodimmeiahaaGreatDoor
