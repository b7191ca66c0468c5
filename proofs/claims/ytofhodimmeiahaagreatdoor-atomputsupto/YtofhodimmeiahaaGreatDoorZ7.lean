/-
  Layer 2: orders told in the words of the laws.
-/
import Derived.Test.YtofhodimmeiahaaGreatDoorZ6
namespace Go.Proofs.YtofhodimmeiahaaGreatDoor
open Go.RowKit

theorem cmpI_sub (m n : Int) : cmpI (m - n) 0 = cmpI m n := by unfold cmpI; omega
theorem cmpI_bd (m n : Int) : -1 ≤ cmpI m n ∧ cmpI m n ≤ 1 := by unfold cmpI; omega
theorem zcmp_0 {s1 s2 : Bool} {a1 a2 : Option Addr} {l1 c1 l2 c2 : Nat} {z1 z2 : Int} {w : World} (h1 : Zm w s1 a1 l1 c1 z1) (h2 : Zm w s2 a2 l2 c2 z2) (hl1 : l1 ≤ 1099511627776) (hl2 : l2 ≤ 1099511627776) (he : z1 = z2) :
    Calls Tryz.prog 19 #[.agg #[.bool s1, .slice a1 l1 c1], .agg #[.bool s2, .slice a2 l2 c2]] w fun e w' => e = .returned (.int .i64 0) ∧ Below w.heap.size w w' := by
  refine (zcmp_n h1 h2 hl1 hl2).mono ?_
  rintro e w' ⟨rfl, hb⟩
  exact ⟨ret_int (cmpI_eq he), hb⟩
theorem zcmp_lt {s1 s2 : Bool} {a1 a2 : Option Addr} {l1 c1 l2 c2 : Nat} {z1 z2 : Int} {w : World} (h1 : Zm w s1 a1 l1 c1 z1) (h2 : Zm w s2 a2 l2 c2 z2) (hl1 : l1 ≤ 1099511627776) (hl2 : l2 ≤ 1099511627776) (he : z1 < z2) :
    Calls Tryz.prog 19 #[.agg #[.bool s1, .slice a1 l1 c1], .agg #[.bool s2, .slice a2 l2 c2]] w fun e w' => e = .returned (.int .i64 (-1)) ∧ Below w.heap.size w w' := by
  refine (zcmp_n h1 h2 hl1 hl2).mono ?_
  rintro e w' ⟨rfl, hb⟩
  exact ⟨ret_int (cmpI_lt he), hb⟩

theorem zdivmod0' {s1 s2 : Bool} {a1 a2 : Option Addr} {l1 c1 l2 c2 : Nat} {z1 z2 : Int} {w : World} (h1 : Zm w s1 a1 l1 c1 z1) (h2 : Zm w s2 a2 l2 c2 z2) (hz : z2 = 0) :
    Calls Tryz.prog 30 #[.agg #[.bool s1, .slice a1 l1 c1], .agg #[.bool s2, .slice a2 l2 c2]] w fun e w' => ∃ sq aq lq cq sr ar lr cr, e = .returned (.tuple #[.agg #[.bool sq, .slice aq lq cq], .agg #[.bool sr, .slice ar lr cr], .int .i64 11]) ∧ Below w.heap.size w w' ∧ lq = 0 ∧ lr = 0 := by
  refine (zdivmod0 h1 h2 hz).mono ?_
  rintro e w' ⟨rfl, hb⟩
  exact ⟨false, none, 0, 0, false, none, 0, 0, rfl, hb, rfl, rfl⟩
theorem fd_eq {a b q r : Int} (h : FD a b q r) : q * b + r = a := h.1.symm
theorem fd_side {a b q r : Int} (h : FD a b q r) : cmpI r 0 = 0 ∨ cmpI r 0 = cmpI b 0 := by
  obtain ⟨_, c⟩ := h
  unfold cmpI
  omega
theorem fd_near {a b q r : Int} (h : FD a b q r) : (r.natAbs : Int) < (b.natAbs : Int) := by
  obtain ⟨_, c⟩ := h
  omega
theorem fd_more {a b q r : Int} (h : FD a b q r) : FD (a + b) b (q + 1) r := by
  obtain ⟨e, c⟩ := h
  exact ⟨by rw [Int.add_mul, Int.one_mul, e]; omega, c⟩
theorem cmpI_ne {b : Int} (hb : b ≠ 0) : cmpI b 0 ≠ 0 := by unfold cmpI; omega

end Go.Proofs.YtofhodimmeiahaaGreatDoor
