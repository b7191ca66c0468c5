/-
 Layer 3: what the law LexBlanks calls: a pick, blanks.
-/
import Derived.Test.YtcgdhbgjmapoeaaDoorP14
import Derived.Deep.QuietTactic
import Derived.BigQuiet
namespace Go.Proofs.YtcgdhbgjmapoeaaDoor
open Go.RowKit Go.Shelf

set_option maxRecDepth 100000 in
set_option maxHeartbeats 1600000 in
theorem pick_n (c n : Int) (h0 : -9223372036854775808 ≤ c) (h1 : c ≤ 9223372036854775807) (hn0 : 0 < n) (hn1 : n ≤ 9223372036854775807) (w : World) :
  Calls Tryd.prog 15 #[.int .i64 c, .int .i64 n] w fun e w' => ∃ k : Nat, (k : Int) < n ∧ e = .returned (.int .i64 k) ∧ w = w' := by
 have hne : (n == 0) = false := by rw [beq_eq_false_iff_ne]; omega
 by_cases hc : c < 0
 ·have hr := Int.emod_lt_of_pos (-(c + 1)) hn0
  have hr0 := Int.emod_nonneg (-(c + 1)) (show n ≠ 0 from by omega)
  go_enter Tryd.func15, Tryd.ntmps15
  go_wp2
  go_ret
  refine ⟨((-(c + 1)) % n).toNat, by omega, ret_int ?_, rfl⟩
  rw [Int.toNat_of_nonneg hr0, ← Int.tmod_eq_emod_of_nonneg (show 0 ≤ -(c + 1) from by omega), Int.neg_tmod]
 ·have hr := Int.emod_lt_of_pos c hn0
  have hr0 := Int.emod_nonneg c (show n ≠ 0 from by omega)
  go_enter Tryd.func15, Tryd.ntmps15
  go_wp2
  go_ret
  refine ⟨(c % n).toNat, by omega, ret_int ?_, rfl⟩
  rw [Int.toNat_of_nonneg hr0]
theorem blank_lit {g : ByteArray} (h0 : 0 < g.size) (h : (List.range g.size).all (fun j => decide (cls (bt g j) = 0)) = true) : blankS g := ⟨h0, fun i hi => by
 have := range_all.1 h i hi
 rwa [decide_eq_true_iff] at this⟩
set_option maxRecDepth 100000 in
set_option maxHeartbeats 1600000 in
theorem gap_n (n : Int) (h0 : -9223372036854775808 ≤ n) (h1 : n ≤ 9223372036854775807) (w : World) :
  Calls Tryd.prog 21 #[.int .i64 n] w fun e w' => ∃ g, blankS g ∧ g.size ≤ 3 ∧ e = .returned (.string g) ∧ Below w.heap.size w w' := by
 go_enter Tryd.func21, Tryd.ntmps21
 go_wp2_with fail
 refine (pick_n n 6 h0 h1 (by decide) (by decide) _).mono ?_
 rintro e w' ⟨k, hk, rfl, rfl⟩
 have ba := below_alloc w (.cells #[.string ⟨#[32]⟩, .string ⟨#[9]⟩, .string ⟨#[10]⟩, .string ⟨#[13]⟩, .string ⟨#[32, 32]⟩, .string ⟨#[32, 13, 10]⟩] 9)
 rcases (show k = 0 ∨ k = 1 ∨ k = 2 ∨ k = 3 ∨ k = 4 ∨ k = 5 from by omega) with rfl | rfl | rfl | rfl | rfl | rfl
 all_goals (
  go_wp2_with fail
  go_ret
  exact ⟨_, blank_lit (by decide) (by decide), by decide, rfl, ba⟩)
/-- a list of ints that came in -/
def IntsR (w : World) (ad : Option Addr) (len cap : Nat) : Prop := len ≤ cap ∧ cap ≤ 9223372036854775807 ∧ (len = 0 ∨ ∃ b off, ad = some ⟨b, off, none⟩ ∧ b < w.heap.size ∧ ∀ i, i < len → ∃ z, w.cell? ⟨b, off + i, none⟩ = some (.int .i64 z) ∧ -9223372036854775808 ≤ z ∧ z ≤ 9223372036854775807)
theorem IntsR.below {w w' : World} {ad : Option Addr} {len cap : Nat} (h : IntsR w ad len cap) (hb : Below w.heap.size w w') : IntsR w' ad len cap := by
 obtain ⟨h1, h2, h3⟩ := h
 refine ⟨h1, h2, ?_⟩
 rcases h3 with h3 | ⟨b, off, rfl, hlt, hc⟩
 ·exact .inl h3
 ·refine .inr ⟨b, off, rfl, Nat.lt_of_lt_of_le hlt hb.size, fun i hi => ?_⟩
  obtain ⟨z, hz, hzb⟩ := hc i hi
  exact ⟨z, (hb.cell (p := ⟨b, off + i, none⟩) hlt).trans hz, hzb⟩
set_option maxRecDepth 100000 in
set_option maxHeartbeats 1600000 in
theorem at_n {w : World} {ga : Option Addr} {gl gc pb : Nat} (i : Int) (h0 : 0 ≤ i) (h1 : i ≤ 1099511627776) (hg : IntsR w ga gl gc) (hp : w.cell? ⟨pb, 0, none⟩ = some (.slice ga gl gc)) :
  Calls Tryd.prog 20 #[.int .i64 i, .pointer (some ⟨pb, 0, none⟩)] w fun e w' => ∃ g, blankS g ∧ g.size ≤ 3 ∧ e = .returned (.string g) ∧ Below w.heap.size w w' := by
 obtain ⟨hlc, hcb, hc⟩ := hg
 rcases hc with rfl | ⟨b, off, rfl, hlt, hc⟩
 ·go_enter Tryd.func20, Tryd.ntmps20
  go_wp2_with fail
  go_ret
  exact ⟨_, blank_lit (by decide) (by decide), by decide, rfl, Below.refl _ _⟩
 ·rcases Nat.eq_zero_or_pos gl with rfl | hpos
  ·go_enter Tryd.func20, Tryd.ntmps20
   go_wp2_with fail
   go_ret
   exact ⟨_, blank_lit (by decide) (by decide), by decide, rfl, Below.refl _ _⟩
  ·have hr := Int.emod_lt_of_pos i (show (0 : Int) < (gl : Int) from by omega)
   have hr0 := Int.emod_nonneg i (show (gl : Int) ≠ 0 from by omega)
   obtain ⟨z, hz, hz0, hz1⟩ := hc (i % gl).toNat (by omega)
   have hne : ((gl : Int) == 0) = false := by rw [beq_eq_false_iff_ne]; omega
   clear hc
   go_enter Tryd.func20, Tryd.ntmps20
   go_wp2_with fail
   go_region_with (go_at_call 21; refine (gap_n z hz0 hz1 _).mono ?_; rintro e w3 ⟨g, hg1, hg2, rfl, hb3⟩)
   all_goals (
    go_wp2_with fail
    go_ret
    exact ⟨g, hg1, hg2, rfl, grow_step hb3 (Below.refl _ _).drew⟩)
end Go.Proofs.YtcgdhbgjmapoeaaDoor
