/-
  Layer 7: what is known; the law MeterMakes.
-/
import Derived.Test.YtofjjpkbildagaaM7
namespace Go.Proofs.Ytofjjpkbildagaa
open Go.RowKit Mt

theorem But.base {b : Nat} {w w1 w2 : World} (k : Below b w w1) (hb : b < w1.heap.size) (g : But b w1 w2) : Below b w w2 := k.trans (g.below (Nat.le_refl _) (Nat.le_of_lt hb))
theorem base7 {b B : Nat} {w w1 w2 : World} (k : Below B w w1) (hB : B ≤ b) (hb : b < w1.heap.size) (g : Below w1.heap.size w1 w2) : Below B w w2 := k.trans (g.mono (by omega))
theorem nl_nil (w : World) (ad : Option Addr) : NL w ad 0 [] 0 := ⟨rfl, .inl rfl⟩

theorem rd_one (w : World) (b : Nat) (x : Int) (h0 : 0 ≤ x) (h1 : x < 4294967296) (h : w.cell? ⟨b, 0, none⟩ = some (.int .u32 x)) : Rd w (some ⟨b, 0, none⟩) 1 1 [x] := by
  refine ⟨rfl, Nat.le_refl _, by decide, fun z hz => ?_, .inr ⟨_, rfl, .inr ⟨b, 0, rfl, cell_lt h, fun i hi => ?_⟩⟩⟩
  · have : z = x := by simpa using hz
    subst this; exact ⟨h0, h1⟩
  · obtain rfl : i = 0 := by omega
    simpa [lz] using h

set_option maxRecDepth 100000 in
set_option maxHeartbeats 3200000 in
theorem known7_n (w : World) :
    Calls Try.prog 8 #[] w fun x w' => x = .returned (.bool true) ∧ Below w.heap.size w w' := by
  go_enter Try.func8, Try.ntmps8
  go_wp2_with fail
  refine (new_n (n := 2) (k := 1) (by decide) (by decide) (by decide) (by decide)).mono ?_
  rintro v w1 ⟨rfl, m1, k1⟩
  have hany : ([(false, [5])] : List (Bool × List Int)).any (isl 1) = false := by decide
  have n1 : NL ((w1.alloc (.cells #[.int .u32 5] 59)).alloc (.cells #[.bool false, .slice (some ⟨w1.heap.size, 0, none⟩) 1 1] 48)) (some ⟨w1.heap.size + 1, 0, none⟩) 1 [(false, [5])] 1 := by
    have y0 := heap_alloc_new w1 (.cells #[.int .u32 5] 59)
    have y1 := heap_alloc_new (w1.alloc (.cells #[.int .u32 5] 59)) (.cells #[.bool false, .slice (some ⟨w1.heap.size, 0, none⟩) 1 1] 48)
    rw [show (w1.alloc (.cells #[.int .u32 5] 59)).heap.size = w1.heap.size + 1 from by simp] at y1
    refine ⟨rfl, .inr ⟨w1.heap.size + 1, 0, rfl, fun i hi => ?_⟩⟩
    obtain rfl : i = 0 := by simpa using hi
    refine ⟨some ⟨w1.heap.size, 0, none⟩, 1, 1, cell_of_row _ _ 0 _ _ (0, 0) y1, cell_of_row _ _ 1 _ _ (0, 0) y1, ?_, Nat.le_refl _⟩
    exact (rd_one (w1.alloc (.cells #[.int .u32 5] 59)) w1.heap.size 5 (by decide) (by decide) (cell_of_row _ _ 0 _ _ (0, 0) y0)).below (below_alloc7 _ _)
  have kb : Below w1.heap.size w1 ((w1.alloc (.cells #[.int .u32 5] 59)).alloc (.cells #[.bool false, .slice (some ⟨w1.heap.size, 0, none⟩) 1 1] 48)) := step7 (below_alloc7 _ _) (below_alloc7 _ _)
  have HH := hide (And.intro hany (And.intro n1 (And.intro m1 (And.intro k1 kb))))
  clear hany n1 m1 k1 kb
  go_wp2_with fail
  obtain ⟨hany, n1, m1, k1, kb⟩ := HH.out
  clear HH
  generalize hp : w.heap.size = b at *
  replace hp := hide hp
  refine (node_n (m1.below kb) n1 (by decide) (by decide) (by decide) (by decide) (by decide)).mono ?_
  rintro v w2 ⟨rfl, m2, k2⟩
  rw [hany] at m2
  rw [hany, show (if false = true then (71 : Int) else if (2 : Int) - 0 < 1 then 70 else 0) = 0 from by decide]
  replace m2 : MB w2 b 2 1 1 0 := m2
  have K2 := hide (But.base (base7 k1 (Nat.le_refl _) m1.lt kb) (m1.below kb).lt k2)
  clear hany n1 m1 k1 kb k2
  go_wp2_with fail
  refine (spend_n (nn := 1) m2 (by decide) (by decide) (by decide)).mono ?_
  rintro v w3 ⟨rfl, m3, k3⟩
  rw [show (if (1 : Int) < 0 then (1 : Int) else if (2 : Int) - 1 < 1 then 70 else 0) = 0 from by decide]
  replace m3 : MB w3 b 2 1 2 0 := m3
  have K3 := hide (But.base K2.out m2.lt k3)
  clear m2 K2 k3
  go_wp2_with fail
  refine (spent_n m3 (by decide) (by decide) (by decide) (by decide)).mono ?_
  rintro v w4 ⟨rfl, k4⟩
  have m4 := m3.below k4
  have K4 := hide (base7 K3.out (Nat.le_refl _) m3.lt k4)
  clear m3 K3 k4
  go_wp2_with fail
  refine (over_n m4 (by decide) (by decide) (by decide) (by decide)).mono ?_
  rintro v w5 ⟨rfl, k5⟩
  have m5 := m4.below k5
  have K5 := hide (base7 K4.out (Nat.le_refl _) m4.lt k5)
  clear m4 K4 k5
  go_wp2_with fail
  refine (node_n m5 (nl_nil _ _) (by decide) (by decide) (by decide) (by decide) (by decide)).mono ?_
  rintro v w6 ⟨rfl, m6, k6⟩
  rw [show (if (([] : List (Bool × List Int)).any (isl 1)) = true then (71 : Int) else if (2 : Int) - 2 < 1 then 70 else 0) = 70 from by decide]
  replace m6 : MB w6 b 2 1 2 70 := m6
  have K6 := hide (But.base K5.out m5.lt k6)
  clear m5 K5 k6
  go_wp2_with fail
  refine (over_n m6 (by decide) (by decide) (by decide) (by decide)).mono ?_
  rintro v w7 ⟨rfl, k7⟩
  have K7 := hide (base7 K6.out (Nat.le_refl _) m6.lt k7)
  clear m6 K6 k7
  go_wp2
  go_ret
  exact ⟨rfl, hp.out ▸ K7.out⟩

theorem calls_known (w : World) : Calls Try.prog 8 #[] w fun x w' => x = .returned (.bool true) ∧ Below w.heap.size w w' := known7_n w
end Go.Proofs.Ytofjjpkbildagaa
