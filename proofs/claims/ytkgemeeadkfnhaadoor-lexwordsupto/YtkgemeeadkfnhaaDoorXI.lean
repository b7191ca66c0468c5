/-
  Layer 3: the reference's words, or the error.
-/
import Derived.Test.YtkgemeeadkfnhaaDoorJ2
namespace Go.Proofs.YtkgemeeadkfnhaaDoor
open Go.RowKit Go.Shelf

theorem own_base {W : World} {base base' : Nat} {e : TypeId} {size : Nat} {v : Value} {n : Nat} {xs : List Value} (h : W.ownsRow base e size v n xs) (hb : base' ≤ base) : W.ownsRow base' e size v n xs := by
  obtain ⟨h1, h2⟩ := h
  refine ⟨h1, ?_⟩
  rcases h2 with h2 | ⟨g, cap, cur, h3, h4, h5⟩
  · exact .inl h2
  · exact .inr ⟨g, cap, cur, h3, by omega, h5⟩
end Go.Proofs.YtkgemeeadkfnhaaDoor
