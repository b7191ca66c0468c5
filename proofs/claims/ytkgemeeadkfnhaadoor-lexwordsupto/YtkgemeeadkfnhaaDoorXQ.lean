/-
  Layer 3: what the law LexBlanks calls: a pick, blanks.
-/
import Derived.Test.YtkgemeeadkfnhaaDoorXO
import Derived.Deep.QuietTactic
import Derived.BigQuiet
namespace Go.Proofs.YtkgemeeadkfnhaaDoor
open Go.RowKit Go.Shelf

set_option maxRecDepth 100000 in
set_option maxHeartbeats 1600000 in
theorem pick_n (c n : Int) (h0 : -9223372036854775808 ≤ c) (h1 : c ≤ 9223372036854775807) (hn0 : 0 < n) (hn1 : n ≤ 9223372036854775807) (w : World) :
    Calls Tryd.prog 7 #[.int .i64 c, .int .i64 n] w fun e w' => ∃ k : Nat, (k : Int) < n ∧ e = .returned (.int .i64 k) ∧ w = w' := by
  have hne : (n == 0) = false := by rw [beq_eq_false_iff_ne]; omega
  by_cases hc : c < 0
  · have hr := Int.emod_lt_of_pos (-(c + 1)) hn0
    have hr0 := Int.emod_nonneg (-(c + 1)) (show n ≠ 0 from by omega)
    go_enter Tryd.func7, Tryd.ntmps7
    go_wp2
    go_ret
    refine ⟨((-(c + 1)) % n).toNat, by omega, ret_int ?_, rfl⟩
    rw [Int.toNat_of_nonneg hr0, ← Int.tmod_eq_emod_of_nonneg (show 0 ≤ -(c + 1) from by omega), Int.neg_tmod]
  · have hr := Int.emod_lt_of_pos c hn0
    have hr0 := Int.emod_nonneg c (show n ≠ 0 from by omega)
    go_enter Tryd.func7, Tryd.ntmps7
    go_wp2
    go_ret
    refine ⟨(c % n).toNat, by omega, ret_int ?_, rfl⟩
    rw [Int.toNat_of_nonneg hr0]
end Go.Proofs.YtkgemeeadkfnhaaDoor
