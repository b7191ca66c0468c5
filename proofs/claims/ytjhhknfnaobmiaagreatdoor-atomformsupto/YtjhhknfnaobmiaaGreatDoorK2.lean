/-
 Small steps for the laws: comparisons that are known; how many bits.
-/
import Derived.Test.YtjhhknfnaobmiaaGreatDoorK1
namespace Go.Proofs.YtjhhknfnaobmiaaGreatDoor
open Go.RowKit

theorem cmp_lt {a1 a2 : Option Addr} {l1 c1 l2 c2 : Nat} {m n : Int} {w : World} (h1 : Nm w a1 l1 c1 m) (h2 : Nm w a2 l2 c2 n) (he : m < n) :
  Calls Tryz.prog 86 #[.slice a1 l1 c1, .slice a2 l2 c2] w fun e w' => e = .returned (.int .i64 (-1)) ∧ Below w.heap.size w w' := by
 refine (cmp_n h1 h2).mono ?_
 rintro e w' ⟨rfl, hb⟩
 exact ⟨ret_int (cmpI_lt he), hb⟩

theorem len32_lay (x : Int) (w : World) (h0 : 0 ≤ x) (h1 : x ≤ 4294967295) :
  Calls Tryz.prog 128 #[.int .u32 x] w fun e w' => e = .returned (.int .i64 (Lib.bitLen x.toNat)) ∧ w' = w := Any.bits_Len32 Tryz.lays128 x w h0 h1

theorem bitAux_spec (f : Nat) : ∀ x : Nat, x < 2 ^ f → x < 2 ^ Lib.bitLenAux f x ∧ (x ≠ 0 → 0 < Lib.bitLenAux f x ∧ 2 ^ (Lib.bitLenAux f x - 1) ≤ x) := by
 induction f with
 | zero => intro x hx; simp at hx; subst hx; simp [Lib.bitLenAux]
 | succ f ih =>
  intro x hx
  unfold Lib.bitLenAux
  by_cases h : x = 0
  ·subst h; simp
  ·rw [if_neg h]
   obtain ⟨h1, h2⟩ := ih (x / 2) (by rw [Nat.pow_succ] at hx; omega)
   refine ⟨?_, fun _ => ⟨by omega, ?_⟩⟩
   ·rw [Nat.add_comm, Nat.pow_succ]; omega
   ·rw [Nat.add_sub_cancel_left]
    by_cases h3 : x / 2 = 0
    ·have e : Lib.bitLenAux f (x / 2) = 0 := by rw [h3]; cases f <;> simp [Lib.bitLenAux]
     rw [e]; simp; omega
    ·obtain ⟨h4, h5⟩ := h2 h3
     obtain ⟨g, hg⟩ : ∃ g, Lib.bitLenAux f (x / 2) = g + 1 := ⟨_, (Nat.succ_pred_eq_of_pos h4).symm⟩
     rw [hg] at h5 ⊢
     rw [Nat.add_sub_cancel] at h5
     rw [Nat.pow_succ]
     omega

theorem bitLen_spec (x : Nat) (hx : x < 4294967296) : x < 2 ^ Lib.bitLen x ∧ (x ≠ 0 → 0 < Lib.bitLen x ∧ 2 ^ (Lib.bitLen x - 1) ≤ x) :=
 bitAux_spec 64 x (Nat.lt_of_lt_of_le hx (by decide))

theorem bitLen_le32 (x : Nat) (hx : x < 4294967296) : Lib.bitLen x ≤ 32 := by
 by_cases h : x = 0
 ·subst h; decide
 ·obtain ⟨_, h2⟩ := bitLen_spec x hx
  obtain ⟨h3, h4⟩ := h2 h
  rcases Nat.lt_or_ge 32 (Lib.bitLen x) with h5 | h5
  ·have : 2 ^ 32 ≤ 2 ^ (Lib.bitLen x - 1) := Nat.pow_le_pow_right (by decide) (by omega)
   have e : (2 : Nat) ^ 32 = 4294967296 := by decide
   omega
  ·exact h5

/-- how many bits a canonical list has -/
def bitsL (X : List Int) : Nat := if X.length = 0 then 0 else 32 * (X.length - 1) + Lib.bitLen (lz X (X.length - 1)).toNat

set_option maxRecDepth 100000 in
set_option maxHeartbeats 800000 in
theorem bits_any {a1 : Option Addr} {l1 c1 : Nat} {xs : List Int} {w : World} (h1 : Rd w a1 l1 c1 xs) (hl : l1 ≤ 1099511627776) :
  Calls Tryz.prog 83 #[.slice a1 l1 c1] w fun e w' => e = .returned (.int .i64 (bitsL (trim xs))) ∧ w = w' := by
 have t1 := h1.trim
 have hb1 := tl_le xs l1
 have hL := t1.2.2.2.1
 generalize hX : trim xs = X at *
 clear hX
 generalize hn : tl xs l1 = n1 at *
 have HN := hide hn
 clear hn
 have hXl : X.length = n1 := t1.1
 by_cases h0 : n1 = 0
 ·subst h0
  have hbl := hide (show bitsL X = 0 from by unfold bitsL; rw [if_pos hXl])
  clear hXl
  go_enter Tryz.func83, Tryz.ntmps83
  go_wp2_with fail
  refine (bare_any h1).mono ?_
  rintro e w' ⟨rfl, rfl⟩
  rw [unhide HN]
  go_wp2_with fail
  go_ret
  rw [unhide hbl]
  exact ⟨rfl, rfl⟩
 ·obtain ⟨b, off, rfl, g⟩ := t1.some (by omega)
  obtain ⟨m, rfl⟩ : ∃ m, n1 = m + 1 := ⟨n1 - 1, by omega⟩
  have hbl := hide (show bitsL X = 32 * m + Lib.bitLen (lz X m).toNat from by unfold bitsL; rw [hXl, if_neg (by omega)]; rfl)
  have gm := g m (by omega)
  have hbd := lz_bd hL m
  have h32 : Lib.bitLen (lz X m).toNat ≤ 32 := bitLen_le32 _ (by omega)
  have hne : (((m : Int) + 1) == 0) = false := by rw [beq_eq_false_iff_ne]; omega
  clear hXl h0 g
  go_enter Tryz.func83, Tryz.ntmps83
  go_wp2_with fail
  refine (bare_any h1).mono ?_
  rintro e w' ⟨rfl, rfl⟩
  rw [unhide HN]
  go_wp2_with fail
  refine (len32_lay (lz X m) w hbd.1 (by omega)).mono ?_
  rintro e w' ⟨rfl, hw⟩
  have HW := hide hw.symm
  clear hw
  go_wp2_with fail
  go_ret
  rw [unhide hbl]
  exact ⟨ret_int (by omega), unhide HW⟩

/-- 0 bits: the number 0 -/
theorem bitsL_zero {X : List Int} (h : Canon X) : bitsL X = 0 ↔ val X = 0 := by
 rw [canon_zero h]
 constructor
 ·intro hb
  unfold bitsL at hb
  split at hb
  ·exact List.eq_nil_of_length_eq_zero (by assumption)
  ·rename_i h0
   have h1 := h.2 (by omega)
   have h2 := lz_bd h.1 (X.length - 1)
   obtain ⟨_, h3⟩ := bitLen_spec (lz X (X.length - 1)).toNat (by omega)
   have := (h3 (by omega)).1
   omega
 ·rintro rfl; rfl

theorem bits_n {a1 : Option Addr} {l1 c1 : Nat} {n : Int} {w : World} (h1 : Nm w a1 l1 c1 n) (hl : l1 ≤ 1099511627776) :
  Calls Tryz.prog 83 #[.slice a1 l1 c1] w fun e w' => ∃ k : Nat, e = .returned (.int .i64 k) ∧ (k = 0 ↔ n = 0) ∧ Below w.heap.size w w' := by
 obtain ⟨xs, h1, rfl⟩ := h1
 refine (bits_any h1 hl).mono ?_
 rintro e w' ⟨rfl, rfl⟩
 refine ⟨_, rfl, ?_, Below.refl _ _⟩
 rw [bitsL_zero (canon_trim h1.2.2.2.1), val_trim]
end Go.Proofs.YtjhhknfnaobmiaaGreatDoor
