/-
  Layer 3: the reference's signs and rows.
-/
import Derived.Test.YtnikdfmdcoidmaaDoorXD
import Derived.Test.YtnikdfmdcoidmaaDoorR8
namespace Go.Proofs.YtnikdfmdcoidmaaDoor
open Go.RowKit Go.Shelf

theorem pfx1 {s : ByteArray} (h0 : 0 < s.size) (c : UInt8) : pfx s ⟨#[c]⟩ = (bt s 0 == c.toNat) := by
  rw [Bool.eq_iff_iff, pfx_iff, beq_iff_eq]
  constructor
  · rintro ⟨_, h⟩
    exact h 0 (by show 0 < 1; decide)
  · intro h
    refine ⟨by show 1 ≤ s.size; omega, fun i hi => ?_⟩
    obtain rfl : i = 0 := by have : i < 1 := hi; omega
    exact h
theorem pfx2_small {s : ByteArray} (h : s.size < 2) (c d : UInt8) : pfx s ⟨#[c, d]⟩ = false := by
  rw [Bool.eq_false_iff]
  intro hp
  have : 2 ≤ s.size := (pfx_iff.1 hp).1
  omega
theorem pfx2_big {s : ByteArray} (h : 2 ≤ s.size) (c d : UInt8) : pfx s ⟨#[c, d]⟩ = ((s.extract 0 2).toList == [c, d]) := by
  unfold pfx
  have e : (⟨#[c, d]⟩ : ByteArray).toList = [c, d] := by rw [ByteArray.toList_eq]
  rw [e, decide_eq_true (show (⟨#[c, d]⟩ : ByteArray).size ≤ s.size from h), Bool.true_and]
  rfl
/-- which byte a sign of one byte may be -/
def sg1 (b : Nat) : Bool := b == 60 || b == 62 || b == 61 || b == 43 || b == 45 || b == 42 || b == 46 || b == 40 || b == 41
theorem sgOf_size {s : ByteArray} (h0 : 0 < s.size) : (sgOf s).size = if pfx s ⟨#[60, 61]⟩ || pfx s ⟨#[62, 61]⟩ || pfx s ⟨#[33, 61]⟩ then 2 else if sg1 (bt s 0) then 1 else 0 := by
  unfold sgOf signL
  cases h1 : pfx s ⟨#[60, 61]⟩
  case true => simp [List.find?, h1]; rfl
  cases h2 : pfx s ⟨#[62, 61]⟩
  case true => simp [List.find?, h1, h2]; rfl
  cases h3 : pfx s ⟨#[33, 61]⟩
  case true => simp [List.find?, h1, h2, h3]; rfl
  simp only [List.find?, h1, h2, h3, pfx1 h0, Bool.or_false, Bool.false_eq_true, if_false]
  unfold sg1
  generalize bt s 0 = b
  by_cases k0 : b = 60
  · subst k0; rfl
  by_cases k1 : b = 62
  · subst k1; rfl
  by_cases k2 : b = 61
  · subst k2; rfl
  by_cases k3 : b = 43
  · subst k3; rfl
  by_cases k4 : b = 45
  · subst k4; rfl
  by_cases k5 : b = 42
  · subst k5; rfl
  by_cases k6 : b = 46
  · subst k6; rfl
  by_cases k7 : b = 40
  · subst k7; rfl
  by_cases k8 : b = 41
  · subst k8; rfl
  rw [beq_eq_false_iff_ne.2 k0, beq_eq_false_iff_ne.2 k1, beq_eq_false_iff_ne.2 k2, beq_eq_false_iff_ne.2 k3, beq_eq_false_iff_ne.2 k4, beq_eq_false_iff_ne.2 k5, beq_eq_false_iff_ne.2 k6, beq_eq_false_iff_ne.2 k7, beq_eq_false_iff_ne.2 k8]
  have e0 : (b == UInt8.toNat 60) = false := beq_eq_false_iff_ne.2 k0
  have e1 : (b == UInt8.toNat 62) = false := beq_eq_false_iff_ne.2 k1
  have e2 : (b == UInt8.toNat 61) = false := beq_eq_false_iff_ne.2 k2
  have e3 : (b == UInt8.toNat 43) = false := beq_eq_false_iff_ne.2 k3
  have e4 : (b == UInt8.toNat 45) = false := beq_eq_false_iff_ne.2 k4
  have e5 : (b == UInt8.toNat 42) = false := beq_eq_false_iff_ne.2 k5
  have e6 : (b == UInt8.toNat 46) = false := beq_eq_false_iff_ne.2 k6
  have e7 : (b == UInt8.toNat 40) = false := beq_eq_false_iff_ne.2 k7
  have e8 : (b == UInt8.toNat 41) = false := beq_eq_false_iff_ne.2 k8
  rw [e0, e1, e2, e3, e4, e5, e6, e7, e8]
  rfl
theorem sg1_iff {b : Nat} : sg1 b = true ↔ b = 60 ∨ b = 62 ∨ b = 61 ∨ b = 43 ∨ b = 45 ∨ b = 42 ∨ b = 46 ∨ b = 40 ∨ b = 41 := by
  unfold sg1
  simp only [Bool.or_eq_true, beq_iff_eq, or_assoc]
theorem sg1_yes {b : Nat} {n : Nat} (h : n = if sg1 b then 1 else 0) (hb : (b : Int) = 60 ∨ (b : Int) = 62 ∨ (b : Int) = 61 ∨ (b : Int) = 43 ∨ (b : Int) = 45 ∨ (b : Int) = 42 ∨ (b : Int) = 46 ∨ (b : Int) = 40 ∨ (b : Int) = 41) : (1 : Int) = n := by
  rw [h, if_pos (sg1_iff.2 (by omega))]; rfl
theorem sg1_no {b : Nat} {n : Nat} (h : n = if sg1 b then 1 else 0) (h0 : ¬ (b : Int) = 60) (h1 : ¬ (b : Int) = 62) (h2 : ¬ (b : Int) = 61) (h3 : ¬ (b : Int) = 43) (h4 : ¬ (b : Int) = 45) (h5 : ¬ (b : Int) = 42) (h6 : ¬ (b : Int) = 46) (h7 : ¬ (b : Int) = 40) (h8 : ¬ (b : Int) = 41) : (0 : Int) = n := by
  rw [h, if_neg (fun hq => by have := sg1_iff.1 hq; omega)]; rfl

set_option maxRecDepth 100000 in
set_option maxHeartbeats 3200000 in
theorem refsign_n (s : ByteArray) (w : World) (h0 : 0 < s.size) (hs : s.size ≤ 1099511627776) :
    Calls Tryd.prog 47 #[.string s] w fun e w' => e = .returned (.int .i64 (sgOf s).size) ∧ w = w' := by
  have HS := hide (sgOf_size h0)
  have hb := bt_lt s 0
  have he := bt_eq s 0 h0
  by_cases h2 : 2 ≤ s.size
  · rw [pfx2_big h2, pfx2_big h2, pfx2_big h2] at HS
    cases c1 : ((s.extract 0 2).toList == [60, 61])
    case true =>
      have HF : Hid ((sgOf s).size = 2) := by show _ = _; rw [HS.out, c1]; rfl
      clear HS he hb
      go_enter Tryd.func47, Tryd.ntmps47
      go_wp2
      go_ret
      exact ⟨ret_int (by rw [HF.out]; rfl), rfl⟩
    cases c2 : ((s.extract 0 2).toList == [62, 61])
    case true =>
      have HF : Hid ((sgOf s).size = 2) := by show _ = _; rw [HS.out, c1, c2]; rfl
      clear HS he hb
      go_enter Tryd.func47, Tryd.ntmps47
      go_wp2
      go_ret
      exact ⟨ret_int (by rw [HF.out]; rfl), rfl⟩
    cases c3 : ((s.extract 0 2).toList == [33, 61])
    case true =>
      have HF : Hid ((sgOf s).size = 2) := by show _ = _; rw [HS.out, c1, c2, c3]; rfl
      clear HS he hb
      go_enter Tryd.func47, Tryd.ntmps47
      go_wp2
      go_ret
      exact ⟨ret_int (by rw [HF.out]; rfl), rfl⟩
    rw [c1, c2, c3] at HS
    have HF : Hid ((sgOf s).size = if sg1 (bt s 0) then 1 else 0) := HS
    rw [he] at HF
    clear HS he hb
    go_enter Tryd.func47, Tryd.ntmps47
    go_wp2
    all_goals (
      go_ret
      refine ⟨ret_int ?_, rfl⟩
      simp only [beq_iff_eq, beq_eq_false_iff_ne, ne_eq] at *
      first | (refine sg1_yes HF.out ?_; omega) | (refine sg1_no HF.out ?_ ?_ ?_ ?_ ?_ ?_ ?_ ?_ ?_ <;> assumption))
  · rw [pfx2_small (by omega), pfx2_small (by omega), pfx2_small (by omega)] at HS
    have HF : Hid ((sgOf s).size = if sg1 (bt s 0) then 1 else 0) := HS
    rw [he] at HF
    clear HS he hb
    go_enter Tryd.func47, Tryd.ntmps47
    go_wp2
    all_goals (
      go_ret
      refine ⟨ret_int ?_, rfl⟩
      simp only [beq_iff_eq, beq_eq_false_iff_ne, ne_eq] at *
      first | (refine sg1_yes HF.out ?_; omega) | (refine sg1_no HF.out ?_ ?_ ?_ ?_ ?_ ?_ ?_ ?_ ?_ <;> assumption))
end Go.Proofs.YtnikdfmdcoidmaaDoor
