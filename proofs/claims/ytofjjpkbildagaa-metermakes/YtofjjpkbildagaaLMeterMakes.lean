/-
  The law MeterMakes: its walk.
-/
import Derived.Test.YtofjjpkbildagaaM8
namespace Go.Proofs.Ytofjjpkbildagaa
open Go.RowKit Mt

set_option maxRecDepth 100000 in
set_option maxHeartbeats 3200000 in
theorem meterMakes_walk {w : World} {n k : Int} :
    Calls Try.prog 3 #[.int .i64 n, .int .i64 k] w fun x w' => x = .returned (.bool true) ∧ Below w.heap.size w w' := by
  by_cases h : n < 1 ∨ 2000 < n ∨ k < 1 ∨ 8 < k
  · have hh := hide h
    go_enter Try.func3, Try.ntmps3
    go_wp2_with fail
    refine (new_no hh.out).mono ?_
    rintro v w1 ⟨rfl, k1⟩
    replace k1 := hide k1
    clear hh
    go_wp2_with fail
    all_goals first | (refine (known7_n w1).mono ?_; rintro v w2 ⟨rfl, k2⟩; have kf := hide (step7 k2 k1.out); clear k2 h; go_wp2; go_ret; exact ⟨rfl, kf.out⟩) | (exfalso; omega) | trace_state
  · have h1 : 1 ≤ n := by omega
    have h2 : n ≤ 2000 := by omega
    have h3 : 1 ≤ k := by omega
    have h4 : k ≤ 8 := by omega
    clear h
    go_enter Try.func3, Try.ntmps3
    go_wp2_with fail
    refine (new_n h1 h2 h3 h4).mono ?_
    rintro v w1 ⟨rfl, m1, k1⟩
    replace k1 := hide k1
    go_wp2_with fail
    generalize hp : w.heap.size = b at *
    replace hp := hide hp
    refine (spent_n m1 (by decide) (by decide) (by decide) (by decide)).mono ?_
    rintro v w2 ⟨rfl, k2⟩
    have m2 := m1.below k2
    have K2 := hide (base7 k1.out (Nat.le_refl _) m1.lt k2)
    clear m1 k1 k2
    go_wp2_with fail
    refine (over_n m2 (by decide) (by decide) (by decide) (by decide)).mono ?_
    rintro v w3 ⟨rfl, k3⟩
    have m3 := m2.below k3
    have K3 := hide (base7 K2.out (Nat.le_refl _) m2.lt k3)
    clear m2 K2 k3
    go_wp2_with fail
    refine (known7_n w3).mono ?_
    rintro v w4 ⟨rfl, k4⟩
    have K4 := hide (base7 K3.out (Nat.le_refl _) m3.lt k4)
    clear m3 K3 k4
    go_wp2
    go_ret
    exact ⟨rfl, hp.out ▸ K4.out⟩
end Go.Proofs.Ytofjjpkbildagaa
