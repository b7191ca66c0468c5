/-
  Layer 3: bytes, rows, blanks.
-/
import Derived.Test.YtkgemeeadkfnhaaDoorT5
import Derived.Test.YtkgemeeadkfnhaaDoorKp
namespace Go.Proofs.YtkgemeeadkfnhaaDoor
open Go.RowKit

/-- what a byte is: a blank, a digit, a letter, an underscore, another -/
def cls (b : Int) : Int := if b = 32 ∨ b = 9 ∨ b = 10 ∨ b = 13 then 0 else if 48 ≤ b ∧ b ≤ 57 then 1 else if (97 ≤ b ∧ b ≤ 122) ∨ (65 ≤ b ∧ b ≤ 90) then 2 else if b = 95 then 3 else 4

set_option maxRecDepth 100000 in
set_option maxHeartbeats 1600000 in
theorem lookAt_n (b : Int) (h0 : 0 ≤ b) (h1 : b < 256) (w : World) :
    Calls Tryd.prog 19 #[.int .u8 b] w fun e w' => e = .returned (.int .i64 (cls b)) ∧ w = w' := by
  by_cases hb : b = 32 ∨ b = 9 ∨ b = 10 ∨ b = 13
  · rcases hb with rfl | rfl | rfl | rfl
    all_goals (
      go_enter Tryd.func19, Tryd.ntmps19
      go_wp2
      go_ret
      exact ⟨rfl, rfl⟩)
  · have e1 : (b == 32) = false := by rw [beq_eq_false_iff_ne]; omega
    have e2 : (b == 9) = false := by rw [beq_eq_false_iff_ne]; omega
    have e3 : (b == 10) = false := by rw [beq_eq_false_iff_ne]; omega
    have e4 : (b == 13) = false := by rw [beq_eq_false_iff_ne]; omega
    by_cases hd : 48 ≤ b ∧ b ≤ 57
    · obtain ⟨d1, d2⟩ := hd
      have HC : Hid (cls b = 1) := by show _ = _; unfold cls; rw [if_neg hb, if_pos ⟨d1, d2⟩]
      clear hb
      go_enter Tryd.func19, Tryd.ntmps19
      go_wp2
      go_ret
      exact ⟨ret_int HC.out.symm, rfl⟩
    · by_cases hl : 97 ≤ b ∧ b ≤ 122
      · obtain ⟨d1, d2⟩ := hl
        have HC : Hid (cls b = 2) := by show _ = _; unfold cls; rw [if_neg hb, if_neg hd, if_pos (.inl ⟨d1, d2⟩)]
        have d3 : ¬ b ≤ 57 := by omega
        have d4 : 48 ≤ b := by omega
        clear hb hd
        go_enter Tryd.func19, Tryd.ntmps19
        go_wp2
        go_ret
        exact ⟨ret_int HC.out.symm, rfl⟩
      · by_cases hu : 65 ≤ b ∧ b ≤ 90
        · obtain ⟨d1, d2⟩ := hu
          have HC : Hid (cls b = 2) := by show _ = _; unfold cls; rw [if_neg hb, if_neg hd, if_pos (.inr ⟨d1, d2⟩)]
          have d3 : ¬ b ≤ 57 := by omega
          have d4 : 48 ≤ b := by omega
          have d5 : ¬ 97 ≤ b := by omega
          clear hb hd hl
          go_enter Tryd.func19, Tryd.ntmps19
          go_wp2
          go_ret
          exact ⟨ret_int HC.out.symm, rfl⟩
        · by_cases h9 : b = 95
          · subst h9
            go_enter Tryd.func19, Tryd.ntmps19
            go_wp2
            go_ret
            exact ⟨rfl, rfl⟩
          · have HC : Hid (cls b = 4) := by show _ = _; unfold cls; rw [if_neg hb, if_neg hd, if_neg (by omega), if_neg h9]
            have e5 : (b == 95) = false := by rw [beq_eq_false_iff_ne]; exact h9
            rcases (show b < 48 ∨ (57 < b ∧ b < 65) ∨ (90 < b ∧ b < 97) ∨ 122 < b from by omega) with q | ⟨q, q'⟩ | ⟨q, q'⟩ | q
            all_goals (
              clear hb hd hl hu
              go_enter Tryd.func19, Tryd.ntmps19
              go_wp2
              go_ret
              exact ⟨ret_int HC.out.symm, rfl⟩)

/-- may a byte stand in a row? -/
def inRow (b : Int) : Bool := decide (cls b = 1 ∨ cls b = 2 ∨ cls b = 3)
theorem cls_bd (b : Int) : 0 ≤ cls b ∧ cls b ≤ 4 := by unfold cls; split <;> (try split) <;> (try split) <;> (try split) <;> decide

set_option maxRecDepth 100000 in
set_option maxHeartbeats 1600000 in
theorem isRow_n (b : Int) (h0 : 0 ≤ b) (h1 : b < 256) (w : World) :
    Calls Tryd.prog 30 #[.int .u8 b] w fun e w' => e = .returned (.bool (inRow b)) ∧ w = w' := by
  have hc := cls_bd b
  go_enter Tryd.func30, Tryd.ntmps30
  go_wp2_with fail
  refine (lookAt_n b h0 h1 w).mono ?_
  rintro e w' ⟨rfl, rfl⟩
  have HR : Hid (inRow b = decide (cls b = 1 ∨ cls b = 2 ∨ cls b = 3)) := rfl
  generalize cls b = c at *
  rcases (show c = 0 ∨ c = 1 ∨ c = 2 ∨ c = 3 ∨ c = 4 from by omega) with rfl | rfl | rfl | rfl | rfl
  all_goals (
    go_wp2
    go_ret
    exact ⟨ret_bool (by rw [HR.out]; decide), rfl⟩)
theorem cls_digit {b : Int} (h : cls b = 1) : 48 ≤ b ∧ b ≤ 57 := by
  unfold cls at h
  split at h
  · cases h
  · split at h
    · assumption
    · split at h
      · cases h
      · split at h <;> cases h

theorem extract_all (s : ByteArray) : s.extract 0 s.size = s := by
  apply ByteArray.ext
  rw [ByteArray.data_extract]
  exact Array.extract_size
/-- the first k bytes stand in a row, and no more -/
def RowEnd (s : ByteArray) (k : Nat) : Prop := k ≤ s.size ∧ (∀ j, j < k → inRow (bt s j) = true) ∧ (k < s.size → inRow (bt s k) = false)
theorem RowEnd.unique {s : ByteArray} {k m : Nat} (h : RowEnd s k) (h' : RowEnd s m) : k = m := by
  rcases Nat.lt_trichotomy k m with hlt | rfl | hlt
  · have h1 := h.2.2 (by have := h'.1; omega)
    have h2 := h'.2.1 k hlt
    rw [h1] at h2; cases h2
  · rfl
  · have h1 := h'.2.2 (by have := h.1; omega)
    have h2 := h.2.1 m hlt
    rw [h1] at h2; cases h2

set_option maxRecDepth 100000 in
set_option maxHeartbeats 1600000 in
theorem rowOf_n (s : ByteArray) (w : World) (hs : s.size ≤ 1099511627776) :
    Calls Tryd.prog 20 #[.string s] w fun e w' => ∃ k, RowEnd s k ∧ e = .returned (.string (s.extract 0 k)) ∧ w = w' := by
  go_enter Tryd.func20, Tryd.ntmps20
  go_wp2_with fail
  go_loop [3] (fun i => ∃ k : Nat, k ≤ s.size ∧ i = .int .i64 k ∧ Hid (∀ j, j < k → inRow (bt s j) = true)) (fun i => s.size - (intOf i).toNat)
  case atStart => exact ⟨0, Nat.zero_le _, rfl, fun j hj => absurd hj (by omega)⟩
  case round =>
    obtain ⟨k, hk, rfl, HJ⟩ := hrel
    by_cases hkl : k < s.size
    · have hb := bt_lt s k
      have he := bt_eq s k hkl
      go_wp2_with fail
      refine (isRow_n ((s[k]'hkl).toNat : Int) (by omega) (by omega) w).mono ?_
      rintro e w' ⟨rfl, rfl⟩
      rw [← he]
      cases hr : inRow (bt s k)
      · have HE : Hid (RowEnd s k) := ⟨hk, HJ.out, fun _ => hr⟩
        clear hr HJ
        go_wp2_with fail
        go_ret
        exact ⟨k, HE.out, rfl, rfl⟩
      · have HE : Hid (∀ j, j < k + 1 → inRow (bt s j) = true) := by
          show ∀ _, _
          intro j hj
          by_cases e : j = k
          · rw [e]; exact hr
          · exact HJ.out j (by omega)
        clear hr HJ
        go_wp2_with fail
        exact ⟨⟨k + 1, by omega, by go_num, HE⟩, by simp [intOf]; omega⟩
    · obtain rfl : k = s.size := by omega
      have HE : Hid (RowEnd s s.size) := ⟨Nat.le_refl _, HJ.out, fun h => absurd h (by omega)⟩
      go_wp2_with fail
      go_ret
      exact ⟨_, HE.out, by rw [extract_all]; rfl, rfl⟩

/-- from place a on blanks stand up to place k, and no more -/
def BlankEnd (s : ByteArray) (a k : Nat) : Prop := a ≤ k ∧ k ≤ s.size ∧ (∀ j, a ≤ j → j < k → cls (bt s j) = 0) ∧ (k < s.size → cls (bt s k) ≠ 0)
theorem BlankEnd.unique {s : ByteArray} {a k m : Nat} (h : BlankEnd s a k) (h' : BlankEnd s a m) : k = m := by
  rcases Nat.lt_trichotomy k m with hlt | rfl | hlt
  · exact absurd (h'.2.2.1 k h.1 hlt) (h.2.2.2 (by have := h'.2.1; omega))
  · rfl
  · exact absurd (h.2.2.1 m h'.1 hlt) (h'.2.2.2 (by have := h.2.1; omega))

set_option maxRecDepth 100000 in
set_option maxHeartbeats 1600000 in
theorem passBlanks_n (s : ByteArray) (a : Nat) (w : World) (hs : s.size ≤ 1099511627776) (ha : a ≤ s.size) :
    Calls Tryd.prog 23 #[.string s, .int .i64 a] w fun e w' => ∃ k : Nat, BlankEnd s a k ∧ e = .returned (.int .i64 k) ∧ w = w' := by
  go_enter Tryd.func23, Tryd.ntmps23
  go_wp2_with fail
  go_loop [1] (fun i => ∃ k : Nat, a ≤ k ∧ k ≤ s.size ∧ i = .int .i64 k ∧ Hid (∀ j, a ≤ j → j < k → cls (bt s j) = 0)) (fun i => s.size - (intOf i).toNat)
  case atStart => exact ⟨a, Nat.le_refl _, ha, rfl, fun j hj hj' => absurd hj (by omega)⟩
  case round =>
    obtain ⟨k, hak, hk, rfl, HJ⟩ := hrel
    by_cases hkl : k < s.size
    · have hb := bt_lt s k
      have he := bt_eq s k hkl
      go_wp2_with fail
      refine (lookAt_n ((s[k]'hkl).toNat : Int) (by omega) (by omega) w).mono ?_
      rintro e w' ⟨rfl, rfl⟩
      rw [← he]
      have hcb := cls_bd (bt s k)
      by_cases hr : cls (bt s k) = 0
      · have HE : Hid (∀ j, a ≤ j → j < k + 1 → cls (bt s j) = 0) := by
          show ∀ _, _
          intro j hj hj'
          by_cases e : j = k
          · rw [e]; exact hr
          · exact HJ.out j hj (by omega)
        rw [hr]
        clear hr HJ hcb
        go_wp2_with fail
        exact ⟨⟨k + 1, by omega, by omega, by go_num, HE⟩, by simp [intOf]; omega⟩
      · have HE : Hid (BlankEnd s a k) := ⟨hak, hk, HJ.out, fun _ => hr⟩
        have hr2 : (cls (bt s k) == 0) = false := by rw [beq_eq_false_iff_ne]; exact hr
        clear HJ hr
        generalize cls (bt s k) = c at *
        go_wp2_with fail
        go_ret
        exact ⟨k, HE.out, rfl, rfl⟩
    · obtain rfl : k = s.size := by omega
      have HE : Hid (BlankEnd s a s.size) := ⟨hak, Nat.le_refl _, HJ.out, fun h => absurd h (by omega)⟩
      go_wp2_with fail
      go_ret
      exact ⟨_, HE.out, rfl, rfl⟩
end Go.Proofs.YtkgemeeadkfnhaaDoor
