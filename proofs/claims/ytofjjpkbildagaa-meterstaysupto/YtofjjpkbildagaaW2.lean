/-
  Walks: Cmp, same.
-/
import Derived.Test.YtofjjpkbildagaaW1
import Derived.Test.YtofjjpkbildagaaNum
namespace Go.Proofs.Ytofjjpkbildagaa
open Go.RowKit

/-- the cells of a slice with an element, by its address -/
theorem Rd.some {w : World} {ad : Option Addr} {len cap : Nat} {zs : List Int} (h : Rd w ad len cap zs) (hp : 0 < len) : ∃ b off, ad = some ⟨b, off, none⟩ ∧ ∀ i, i < len → w.cell? ⟨b, off + i, none⟩ = some (.int .u32 (lz zs i)) := by
  obtain ⟨h1, h2, h3, h4, h5⟩ := h
  rcases h5 with ⟨_, h6, _⟩ | ⟨a, rfl, h6 | ⟨b, off, rfl, _, hc⟩⟩
  · omega
  · omega
  · exact ⟨b, off, rfl, hc⟩

theorem cmpI_lt {a b : Int} (h : a < b) : cmpI a b = -1 := by unfold cmpI; rw [if_pos h]
theorem cmpI_gt {a b : Int} (h : b < a) : cmpI a b = 1 := by unfold cmpI; rw [if_neg (by omega), if_pos h]
theorem cmpI_eq {a b : Int} (h : a = b) : cmpI a b = 0 := by unfold cmpI; rw [if_neg (by omega), if_neg (by omega)]
theorem ret_int {k : IntKind} {a b : Int} (h : a = b) : Ending.returned (.int k a) = .returned (.int k b) := by rw [h]

/-- bare of a row of the call's own -/
theorem bare_own {w : World} {b : Nat} {xs : List Int} {n : Nat} (h : Row w b xs) (hl : Limbs xs) (hn : xs.length = n) (hm : n ≤ 9223372036854775807) :
    Calls Try.prog 39 #[.slice (some ⟨b, 0, none⟩) n n] w fun e w' => e = .returned (.slice (some ⟨b, 0, none⟩) (tl xs n) n) ∧ w = w' := by
  have := h.rd hl (off := 0) (len := n) (cap := n) (by omega) (Nat.le_refl _) hm
  rw [List.drop_zero, List.take_of_length_le (by omega)] at this
  exact bare_any this

theorem own_trim {w w' : World} {xs : List Int} {n : Nat} (hb : Below w.heap.size w w') (h : Row w' w.heap.size xs) (hl : Limbs xs) (hn : xs.length = n) (hm : n ≤ 9223372036854775807) :
    Out w w' (some ⟨w.heap.size, 0, none⟩) (tl xs n) n (trim xs) ∧ Canon (trim xs) ∧ val (trim xs) = val xs ∧ tl xs n ≤ n := by
  refine ⟨?_, canon_trim hl, val_trim xs, tl_le _ _⟩
  unfold trim
  rw [hn]
  exact out_row hb h hl hn (tl_le _ _) hm

theorem drewN_drewN (w : World) (a b : Nat) : (w.drewN a).drewN b = w.drewN (a + b) := by simp [World.drewN, Nat.add_assoc]

end Go.Proofs.Ytofjjpkbildagaa
