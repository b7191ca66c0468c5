/-
 Layer 2: numbers as words of the machine; how they stand.
-/
import Derived.Test.YtgpaajolcpgeaaaGreatDoorSrd10
import Derived.Laws.BitsAllLaws
import Derived.Deep.LoopGhost
import Derived.Deep.DeepCutAuto
namespace Go.Proofs.YtgpaajolcpgeaaaGreatDoor
open Go.RowKit

/-- does a number stand as it should? -/
def StandsB (s : Bool) (l : Nat) (xs : List Int) : Bool := (s == (s && decide (0 < tl xs l))) && decide (tl xs l = l)

set_option maxRecDepth 100000 in
set_option maxHeartbeats 1600000 in
theorem zvalid_n {s : Bool} {a : Option Addr} {l c : Nat} {xs : List Int} {w : World} (h : Rd w a l c xs) :
  Calls Tryz.prog 119 #[.agg #[.bool s, .slice a l c]] w fun e w' => e = .returned (.bool (StandsB s l xs)) ∧ Below w.heap.size w w' := by
 have B := lz_bd h.2.2.2.1 (l - 1)
 go_enter Tryz.func119, Tryz.ntmps119
 by_cases hl : l = 0
 ·subst hl
  have e : StandsB s 0 xs = !s := by cases s <;> simp [StandsB, tl]
  rw [e]
  go_wp2_with fail
  go_ret
  exact ⟨by simp, below_alloc _ _⟩
 ·obtain ⟨l, rfl⟩ : ∃ k, l = k + 1 := ⟨l - 1, by omega⟩
  have e : StandsB s (l + 1) xs = !(decide (lz xs l = 0)) := by
   have ht := tl_le xs l
   by_cases hz : lz xs l = 0
   ·have : tl xs (l + 1) = tl xs l := by simp [tl, hz]
    simp [StandsB, this, hz]
    omega
   ·have : tl xs (l + 1) = l + 1 := by simp [tl, hz]
    simp [StandsB, this, hz]
  rw [Nat.add_sub_cancel] at B
  obtain ⟨_, _, _, _, h5⟩ := h
  rcases h5 with ⟨_, h6, _⟩ | ⟨a', rfl, h6 | ⟨b, off, rfl, hb, hc⟩⟩
  ·omega
  ·omega
  ·have hcl := hc l (by omega)
   clear hc
   rw [e]
   go_wp2_with fail
   go_ret
   exact ⟨ret_bool (by by_cases hz : lz xs l = 0 <;> simp [hz]), below_alloc _ _⟩

end Go.Proofs.YtgpaajolcpgeaaaGreatDoor
