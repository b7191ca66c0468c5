/-
  What ZintMemory asks: quotient and rest, whatever the divisor; the reference's rest.
-/
import Derived.Test.YtgkacepahfjeeaaGreatDoorZG
namespace Go.Proofs.YtgkacepahfjeeaaGreatDoor
open Go.RowKit

/-- r is the rest of z1 by z2, or 0 where z2 is 0 -/
def RM (z1 z2 r : Int) : Prop := (z2 = 0 ∧ r = 0) ∨ (z2 ≠ 0 ∧ ∃ q, FD z1 z2 q r)
theorem rm_unique {z1 z2 r r' : Int} (h : RM z1 z2 r) (h' : RM z1 z2 r') : r = r' := by
  rcases h with ⟨h1, h2⟩ | ⟨h1, q, h2⟩ <;> rcases h' with ⟨k1, k2⟩ | ⟨k1, q', k2⟩
  · rw [h2, k2]
  · exact absurd h1 k1
  · exact absurd k1 h1
  · exact (fd_unique h2 k2).2
theorem zn_nilB {B : Nat} {w : World} (hB : B ≤ w.heap.size) : Fresh.Zn B w false none 0 0 0 := by
  obtain ⟨n, h1, h2, h3⟩ := zn_nil w
  exact ⟨n, ⟨h1, hB, .inl ⟨rfl, rfl⟩⟩, h2, h3⟩
theorem zdivmod_all {B : Nat} {s1 s2 : Bool} {a1 a2 : Option Addr} {l1 c1 l2 c2 : Nat} {z1 z2 : Int} {w : World} (h1 : Fresh.Zm B w s1 a1 l1 c1 z1) (h2 : Fresh.Zm B w s2 a2 l2 c2 z2) (hl1 : l1 ≤ 1099511627776) (hl2 : l2 ≤ 1099511627776) :
    Calls Tryz.prog 20 #[.agg #[.bool s1, .slice a1 l1 c1], .agg #[.bool s2, .slice a2 l2 c2]] w fun e w' => ∃ sq aq lq cq sr ar lr cr qv rv er, e = .returned (.tuple #[.agg #[.bool sq, .slice aq lq cq], .agg #[.bool sr, .slice ar lr cr], .int .i64 er]) ∧ Fresh.Zn B w' sq aq lq cq qv ∧ Fresh.Zn B w' sr ar lr cr rv ∧ RM z1 z2 rv ∧ Below w.heap.size w w' ∧ lr ≤ l2 ∧ (∀ b, blk ar = some b → blk aq ≠ some b) := by
  by_cases hz : z2 = 0
  · have hB : B ≤ w.heap.size := by obtain ⟨n, h, _⟩ := h1; exact h.2
    have e1 : Zm w s1 a1 l1 c1 z1 := by obtain ⟨n, h, e⟩ := h1; exact ⟨n, h.1, e⟩
    have e2 : Zm w s2 a2 l2 c2 z2 := by obtain ⟨n, h, e⟩ := h2; exact ⟨n, h.1, e⟩
    refine (zdivmod0 e1 e2 hz).mono ?_
    rintro e w' ⟨rfl, hb⟩
    exact ⟨_, _, _, _, _, _, _, _, 0, 0, _, rfl, zn_nilB (Nat.le_trans hB hb.size), zn_nilB (Nat.le_trans hB hb.size), .inl ⟨hz, rfl⟩, hb, by omega, fun b hb => (by cases hb)⟩
  · refine (Fresh.zdivmod_n h1 h2 hl1 hl2 hz).mono ?_
    rintro e w' ⟨sq, aq, lq, cq, sr, ar, lr, cr, qv, rv, rfl, hq, hr, hfd, hb, _, hlr, hap⟩
    exact ⟨_, _, _, _, _, _, _, _, _, _, _, rfl, hq, hr, .inr ⟨hz, _, hfd⟩, hb, hlr, hap⟩
theorem rdm_all {s1 s2 : Bool} {a1 a2 : Option Addr} {l1 c1 l2 c2 : Nat} {z1 z2 : Int} {w : World} (h1 : Zm w s1 a1 l1 c1 z1) (h2 : Zm w s2 a2 l2 c2 z2) (hl1 : l1 ≤ 4294967296) (hl2 : l2 ≤ 4294967296) :
    Calls Tryz.prog 44 #[.agg #[.bool s1, .slice a1 l1 c1], .agg #[.bool s2, .slice a2 l2 c2]] w fun e w' => ∃ sq aq lq cq sr ar lr cr rv er, e = .returned (.tuple #[.agg #[.bool sq, .slice aq lq cq], .agg #[.bool sr, .slice ar lr cr], .int .i64 er]) ∧ Zn w' sr ar lr cr rv ∧ RM z1 z2 rv ∧ Below w.heap.size w w' ∧ lr ≤ l1 + l2 + 5 := by
  by_cases hz : z2 = 0
  · refine (rdivmod0z h1 h2 (by omega) hz).mono ?_
    rintro e w' ⟨sq, aq, lq, cq, sr, ar, lr, cr, rfl, _, hr, hb, _, hl⟩
    exact ⟨_, _, _, _, _, _, _, _, 0, _, rfl, hr, .inl ⟨hz, rfl⟩, hb, by omega⟩
  · refine (rdivmod_n h1 h2 hl1 hl2 hz).mono ?_
    rintro e w' ⟨sq, aq, lq, cq, sr, ar, lr, cr, qv, rv, rfl, _, hr, hfd, hb, _, hl⟩
    exact ⟨_, _, _, _, _, _, _, _, _, _, rfl, hr, .inr ⟨hz, _, hfd⟩, hb, hl⟩

set_option maxRecDepth 100000 in
set_option maxHeartbeats 1600000 in
theorem rmod_all {s1 s2 : Bool} {a1 a2 : Option Addr} {l1 c1 l2 c2 : Nat} {z1 z2 : Int} {w : World} (h1 : Zm w s1 a1 l1 c1 z1) (h2 : Zm w s2 a2 l2 c2 z2) (hl1 : l1 ≤ 4294967296) (hl2 : l2 ≤ 4294967296) :
    Calls Tryz.prog 21 #[.agg #[.bool s1, .slice a1 l1 c1], .agg #[.bool s2, .slice a2 l2 c2]] w fun e w' => ∃ sr ar lr cr rv, e = .returned (.agg #[.bool sr, .slice ar lr cr]) ∧ Zn w' sr ar lr cr rv ∧ RM z1 z2 rv ∧ Below w.heap.size w w' ∧ lr ≤ l1 + l2 + 5 := by
  go_enter Tryz.func21, Tryz.ntmps21
  go_wp2_with fail
  have y := zb_new ((w.alloc (.cells #[.bool s1, .slice a1 l1 c1] 26)).alloc (.cells #[.bool s2, .slice a2 l2 c2] 26)) false none 0 0
  rw [show ((w.alloc (.cells #[.bool s1, .slice a1 l1 c1] 26)).alloc (.cells #[.bool s2, .slice a2 l2 c2] 26)).heap.size = w.heap.size + 1 + 1 from by simp] at y
  have b0 : Below w.heap.size w (((w.alloc (.cells #[.bool s1, .slice a1 l1 c1] 26)).alloc (.cells #[.bool s2, .slice a2 l2 c2] 26)).alloc (.cells #[.bool false, .slice none 0 0] 26)) := below_alloc' (below_alloc' (below_alloc _ _) _) _
  generalize ((w.alloc (.cells #[.bool s1, .slice a1 l1 c1] 26)).alloc (.cells #[.bool s2, .slice a2 l2 c2] 26)).alloc (.cells #[.bool false, .slice none 0 0] 26) = wb at *
  generalize hr : w.heap.size + 1 + 1 = r at *
  have hwr : w.heap.size ≤ r := by omega
  refine (rdm_all (h1.below b0) (h2.below b0) hl1 hl2).mono ?_
  rintro e w1 ⟨sq, aq, lq, cq, sr, ar, lr, cr, rv, er, rfl, hz, hrm, k1, hl⟩
  have b1 : Below w1.heap.size w1 ((w1.alloc (.cells #[.bool sq, .slice aq lq cq] 26)).alloc (.cells #[.bool sr, .slice ar lr cr] 26)) := below_alloc' (below_alloc _ _) _
  have y2 := (y.below k1).below b1
  have t2 := zb_new (w1.alloc (.cells #[.bool sq, .slice aq lq cq] 26)) sr ar lr cr
  rw [show (w1.alloc (.cells #[.bool sq, .slice aq lq cq] 26)).heap.size = w1.heap.size + 1 from by simp] at t2
  have y0 := y2.c0
  have y1 := y2.c1
  have f0 := y2.f 0
  have f1 := y2.f 1
  have t0 := t2.c0
  have t1 := t2.c1
  have z2 := hz.below b1
  have b2 : Below w.heap.size w ((w1.alloc (.cells #[.bool sq, .slice aq lq cq] 26)).alloc (.cells #[.bool sr, .slice ar lr cr] 26)) := (b0.trans (k1.mono b0.size)).trans (b1.mono (Nat.le_trans b0.size k1.size))
  clear y b0 k1 hz t2 b1
  go_wp2_with fail
  refine bodyPost_ret (results_cell_row rfl _ _ r 26 _ (0, 0) _ rfl (zb_fin y2 sr ar lr cr) Tryz.underlying26 rfl (by kernel_rfl)) rfl ?_
  exact ⟨sr, ar, lr, cr, rv, by simp, zb_zn y2 z2 _ _ _ _, hrm, (b2.setCell hwr _).setCell hwr _, hl⟩
end Go.Proofs.YtgkacepahfjeeaaGreatDoor
