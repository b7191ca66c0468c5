/-
  Walks: guess, takeAway, putBack.
-/
import Derived.Test.YtdbbfpfmfchmgaaD1
namespace Go.Proofs.Ytdbbfpfmfchmgaa
open Go.RowKit

theorem lz_drop (R : List Int) (p i : Nat) : lz (R.drop p) i = lz R (p + i) := by simp [lz]

theorem drop_set (R : List Int) (p i : Nat) (x : Int) : (R.set (p + i) x).drop p = (R.drop p).set i x := by
  apply List.ext_getElem?
  intro j
  simp only [List.getElem?_drop, List.getElem?_set]
  by_cases h : i = j
  · subst h
    rw [if_pos rfl, if_pos rfl, List.length_drop]
    by_cases h2 : p + i < R.length
    · rw [if_pos h2, if_pos (by omega)]
    · rw [if_neg h2, if_neg (by omega)]
  · rw [if_neg (by omega), if_neg h]

theorem Limbs.drop' {zs : List Int} (h : Limbs zs) (n : Nat) : Limbs (zs.drop n) := fun z hz => h z (List.mem_of_mem_drop hz)

/-- a window of a row of the call's own -/
theorem Row.window {w : World} {b : Nat} {R : List Int} (h : Row w b R) (hL : Limbs R) {p n cap : Nat} (hn : p + n ≤ R.length) (hc : n ≤ cap) (hm : cap ≤ 9223372036854775807) : Rd w (some ⟨b, p, none⟩) n cap ((R.drop p).take n) := h.rd hL hn hc hm

theorem take_step {zs : List Int} {k : Nat} {bw x y T V : Int} (hk : k < zs.length) (h1 : vl zs k - bw * pw k = V - T) :
    vl (zs.set k ((4294967296 + x - y - bw) % 4294967296)) (k + 1) - (1 - (4294967296 + x - y - bw) / 4294967296) * pw (k + 1) = (V + x * pw k) - (T + y * pw k) := by
  have := borrow_step (zs := zs) (k := k) (bw := bw) (d := x - y) (T := V - T) hk h1
  rw [show 4294967296 + (x - y) - bw = 4294967296 + x - y - bw from by omega, Int.sub_mul x y] at this
  rw [this]
  omega

theorem guess_end {d l f s x0 high : Int} (h : d * f + l = high) (hd : d * s ≤ l * 4294967296 + x0) : d * (f * 4294967296 + s) ≤ high * 4294967296 + x0 := by
  rw [← h, Int.mul_add, Int.add_mul, ← Int.mul_assoc]
  omega

theorem guess_more {d l f s x0 high Q : Int} (h : d * f + l = high) (hd : l * 4294967296 + x0 < d * s) (hQ : Q * (f * 4294967296 + s) ≤ high * 4294967296 + x0) (hD : 0 < f * 4294967296 + s) : Q < d := by
  rcases Int.lt_or_le Q d with h1 | h1
  · exact h1
  · have h2 : d * (f * 4294967296 + s) ≤ Q * (f * 4294967296 + s) := Int.mul_le_mul_of_nonneg_right h1 (by omega)
    rw [Int.mul_add, ← Int.mul_assoc] at h2
    rw [← h, Int.add_mul] at hQ
    omega

end Go.Proofs.Ytdbbfpfmfchmgaa
