/-
  Walks: same, Of, fresh.
-/
import Derived.Test.YtkgemeeadkfnhaaDoorW5
import Derived.Test.YtkgemeeadkfnhaaDoorApp
namespace Go.Proofs.YtkgemeeadkfnhaaDoor
open Go.RowKit

theorem ret_bool {a b : Bool} (h : a = b) : Ending.returned (.bool a) = .returned (.bool b) := by rw [h]

theorem run_append_nils (ty : TypeId) (c : Nat) (w : World) : (Builtin.append_ #[36, 36] ty #[.slice none 0 0, .slice none 0 c]).run Tryd.prog w = .ok (.slice none 0 0) w := by
  obtain ⟨i0, hi, hz0, hz1, hz2⟩ := info_parts info49a
  simp [Builtin.append_, run_underlying Tryd.underlying36, sizeOf, typeInfo, hi, Builtin.lenOf, Builtin.firstCells]

theorem out_none (w : World) : Out w w none 0 0 [] := ⟨Below.refl _ _, .inl ⟨rfl, rfl, rfl, rfl⟩⟩

/-- append of all of a slice that reads as limbs onto nil -/
theorem run_append_all {w : World} {ad : Option Addr} {n cap : Nat} {X : List Int} (h : Rd w ad n cap X) (hb : n ≤ 1099511627776) (ty : TypeId) :
    ∃ v' w', (Builtin.append_ #[36, 36] ty #[.slice none 0 0, .slice ad n cap]).run Tryd.prog w = .ok v' w' ∧ ∃ ad' cap', v' = .slice ad' n cap' ∧ Out w w' ad' n cap' X := by
  obtain ⟨h1, h2, h3, h4, h5⟩ := h
  have fin : ∀ a, ad = some a → (∀ j, j < n → w.cell? (a.add j) = some (.int .u32 (lz X j))) → ∃ v' w', (Builtin.append_ #[36, 36] ty #[.slice none 0 0, .slice ad n cap]).run Tryd.prog w = .ok v' w' ∧ ∃ ad' cap', v' = .slice ad' n cap' ∧ Out w w' ad' n cap' X := by
    rintro a rfl hc
    obtain ⟨v', w', hr, ad', cap', hv, ho, _⟩ := run_append_out (out_none w) ty a n cap X h1 h4 hc (by omega)
    rw [Nat.zero_add] at hv ho
    exact ⟨v', w', hr, ad', cap', hv, by simpa using ho⟩
  rcases h5 with ⟨rfl, rfl, rfl⟩ | ⟨a, rfl, rfl | ⟨b, off, rfl, _, hc⟩⟩
  · obtain rfl : X = [] := List.eq_nil_of_length_eq_zero h1
    exact ⟨_, _, run_append_nils ty 0 w, none, 0, rfl, out_none w⟩
  · exact fin a rfl (fun j hj => absurd hj (by omega))
  · exact fin _ rfl (fun j hj => by rw [Addr.add_lit]; exact hc j hj)

end Go.Proofs.YtkgemeeadkfnhaaDoor
