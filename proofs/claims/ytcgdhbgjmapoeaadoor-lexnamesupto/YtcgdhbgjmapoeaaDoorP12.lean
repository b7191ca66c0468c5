/-
  Layer 3: the reference's bytes and names.
-/
import Derived.Test.YtcgdhbgjmapoeaaDoorP08
namespace Go.Proofs.YtcgdhbgjmapoeaaDoor
open Go.RowKit Go.Shelf

def letB (b : Int) : Bool := decide (cls b = 2)
def digB (b : Int) : Bool := decide (cls b = 1)
theorem letB_eq (b : Int) : letB b = ((decide (97 ≤ b) && decide (b ≤ 122)) || (decide (65 ≤ b) && decide (b ≤ 90))) := by
  unfold letB cls
  by_cases h : 97 ≤ b ∧ b ≤ 122
  · rw [if_neg (by omega), if_neg (by omega), if_pos (.inl h)]; simp [h]
  · by_cases h2 : 65 ≤ b ∧ b ≤ 90
    · rw [if_neg (by omega), if_neg (by omega), if_pos (.inr h2)]; simp [h2]
    · have e1 : (decide (97 ≤ b) && decide (b ≤ 122)) = false := by rw [← Bool.decide_and]; exact decide_eq_false h
      have e2 : (decide (65 ≤ b) && decide (b ≤ 90)) = false := by rw [← Bool.decide_and]; exact decide_eq_false h2
      rw [e1, e2]
      split
      · rfl
      · split
        · rfl
        · rw [if_neg (by omega)]; split <;> rfl
theorem digB_eq (b : Int) : digB b = (decide (48 ≤ b) && decide (b ≤ 57)) := by
  unfold digB cls
  by_cases h : 48 ≤ b ∧ b ≤ 57
  · rw [if_neg (by omega), if_pos h]; simp [h]
  · have e1 : (decide (48 ≤ b) && decide (b ≤ 57)) = false := by rw [← Bool.decide_and]; exact decide_eq_false h
    rw [e1]
    exact decide_eq_false (fun hc => h (cls_digit hc))
theorem inRow_eq (b : Int) : inRow b = (letB b || (digB b || decide (b = 95))) := by
  unfold inRow letB digB
  have h95 : cls b = 3 ↔ b = 95 := by
    unfold cls
    constructor
    · intro h
      split at h
      · cases h
      · split at h
        · cases h
        · split at h
          · cases h
          · split at h
            · assumption
            · cases h
    · rintro rfl; decide
  rw [Bool.eq_iff_iff, Bool.or_eq_true, Bool.or_eq_true, decide_eq_true_iff, decide_eq_true_iff, decide_eq_true_iff, decide_eq_true_iff, h95]
  constructor
  · rintro (h | h | h)
    · exact .inr (.inl h)
    · exact .inl h
    · exact .inr (.inr h)
  · rintro (h | h | h)
    · exact .inr (.inl h)
    · exact .inl h
    · exact .inr (.inr h)

set_option maxRecDepth 100000 in
set_option maxHeartbeats 1600000 in
theorem letter_n (b : Int) (h0 : 0 ≤ b) (h1 : b < 256) (w : World) :
    Calls Tryd.prog 31 #[.int .u8 b] w fun e w' => e = .returned (.bool (letB b)) ∧ w = w' := by
  have HL := hide (letB_eq b)
  by_cases a1 : 97 ≤ b <;> by_cases a2 : b ≤ 122 <;> by_cases a3 : 65 ≤ b <;> by_cases a4 : b ≤ 90
  all_goals first
    | (exfalso; omega)
    | (go_enter Tryd.func31, Tryd.ntmps31
       go_wp2
       go_ret
       exact ⟨ret_bool (by rw [HL.out]; simp [a1, a2, a3, a4]), rfl⟩)
set_option maxRecDepth 100000 in
set_option maxHeartbeats 1600000 in
theorem digit_n (b : Int) (h0 : 0 ≤ b) (h1 : b < 256) (w : World) :
    Calls Tryd.prog 36 #[.int .u8 b] w fun e w' => e = .returned (.bool (digB b)) ∧ w = w' := by
  have HL := hide (digB_eq b)
  by_cases a1 : 48 ≤ b <;> by_cases a2 : b ≤ 57
  all_goals first
    | (exfalso; omega)
    | (go_enter Tryd.func36, Tryd.ntmps36
       go_wp2
       go_ret
       exact ⟨ret_bool (by rw [HL.out]; simp [a1, a2]), rfl⟩)
set_option maxRecDepth 100000 in
set_option maxHeartbeats 1600000 in
theorem rowed_n (b : Int) (h0 : 0 ≤ b) (h1 : b < 256) (w : World) :
    Calls Tryd.prog 25 #[.int .u8 b] w fun e w' => e = .returned (.bool (inRow b)) ∧ w = w' := by
  have HL := hide (inRow_eq b)
  go_enter Tryd.func25, Tryd.ntmps25
  go_wp2_with fail
  refine (letter_n b h0 h1 w).mono ?_
  rintro e w' ⟨rfl, rfl⟩
  go_wp2_with fail
  refine (digit_n b h0 h1 w).mono ?_
  rintro e w' ⟨rfl, rfl⟩
  generalize letB b = l at *
  generalize digB b = d at *
  have h9 : decide (b = 95) = (b == 95) := rfl
  cases l <;> cases d <;> cases h3 : (b == 95)
  all_goals (
    go_wp2
    go_ret
    exact ⟨ret_bool (by rw [HL.out]; simp [h9, h3]), rfl⟩)

set_option maxRecDepth 100000 in
set_option maxHeartbeats 3200000 in
theorem refIs_n (s : ByteArray) (w : World) :
    Calls Tryd.prog 32 #[.string s] w fun e w' => e = .returned (.bool (tenB s)) ∧ w = w' := by
  have HT : Hid (tenB s = ((s.toList == [97, 110, 100]) || (s.toList == [111, 114]) || (s.toList == [110, 111, 116]) || (s.toList == [105, 109, 112, 108, 105, 101, 115]) || (s.toList == [105, 102, 102]) || (s.toList == [115, 111, 109, 101]) || (s.toList == [97, 108, 108]) || (s.toList == [116, 114, 117, 101]) || (s.toList == [102, 97, 108, 115, 101]) || (s.toList == [100, 105, 118, 105, 100, 101, 115]))) := rfl
  go_enter Tryd.func32, Tryd.ntmps32
  go_wp2
  all_goals (
    go_ret
    exact ⟨ret_bool (by rw [HT.out] <;> simp [*]), rfl⟩)

set_option maxRecDepth 100000 in
set_option maxHeartbeats 3200000 in
theorem refIsName_n (s : ByteArray) (w : World) (hs : s.size ≤ 1099511627776) :
    Calls Tryd.prog 19 #[.string s] w fun e w' => e = .returned (.bool (nmB s)) ∧ w = w' := by
  by_cases h0 : 0 < s.size
  · have hne := ne_empty h0
    by_cases hl : s.size ≤ 24
    · go_enter Tryd.func19, Tryd.ntmps19
      go_wp2_with fail
      go_loop [3] (fun i => ∃ k : Nat, k ≤ s.size ∧ i = .int .i64 k ∧ Hid (∀ j, j < k → inRow (bt s j) = true)) (fun i => s.size - (intOf i).toNat)
      case atStart => exact ⟨0, Nat.zero_le _, rfl, fun j hj => absurd hj (by omega)⟩
      case round =>
        obtain ⟨k, hk, rfl, HJ⟩ := hrel
        by_cases hkl : k < s.size
        · have hb := bt_lt s k
          have he := bt_eq s k hkl
          go_wp2_with fail
          refine (rowed_n ((s[k]'hkl).toNat : Int) (by omega) (by omega) w).mono ?_
          rintro e w' ⟨rfl, rfl⟩
          rw [← he]
          cases hr : inRow (bt s k)
          · have HN : Hid (nmB s = false) := by
              show _ = _
              rw [Bool.eq_false_iff]
              intro h
              have := (nmB_iff.1 h).2.2.1.2.1 k hkl
              rw [hr] at this
              cases this
            clear hr HJ
            go_wp2_with fail
            go_ret
            exact ⟨ret_bool HN.out.symm, rfl⟩
          · have HE : Hid (∀ j, j < k + 1 → inRow (bt s j) = true) := by
              show ∀ _, _
              intro j hj
              by_cases e : j = k
              · rw [e]; exact hr
              · exact HJ.out j (by omega)
            clear hr HJ
            go_wp2_with fail
            exact ⟨⟨k + 1, by omega, by go_num, HE⟩, by simp [intOf]; omega⟩
        · obtain rfl : k = s.size := by omega
          have hb := bt_lt s 0
          have he := bt_eq s 0 h0
          go_wp2_with fail
          refine (letter_n ((s[0]'h0).toNat : Int) (by omega) (by omega) w).mono ?_
          rintro e w' ⟨rfl, rfl⟩
          rw [← he]
          clear he hb
          generalize hb1 : letB (bt s 0) = b1
          replace hb1 := hide hb1
          go_wp2_with fail
          refine (refIs_n s w).mono ?_
          rintro e w' ⟨rfl, rfl⟩
          have HN : Hid (nmB s = (b1 && !tenB s)) := by
            show _ = _
            rw [← hb1.out]
            unfold nmB
            rw [row_all.2 ⟨Nat.le_refl _, HJ.out, fun h => absurd h (by omega)⟩, decide_eq_true h0]
            simp only [Bool.true_and]
            show (letB (bt s 0) && _) = _
            congr 1
            unfold kd
            cases tenB s
            · rw [if_neg (by decide), if_neg (by omega)]; rfl
            · rfl
          clear HJ
          generalize tenB s = b2 at *
          cases b1 <;> cases b2
          all_goals (
            go_wp2_with fail
            go_ret
            exact ⟨ret_bool HN.out.symm, rfl⟩)
    · have HN : Hid (nmB s = false) := by
        show _ = _
        rw [Bool.eq_false_iff]
        intro h
        have := (nmB_iff.1 h).2.2.2
        unfold kd at this
        split at this
        · cases this
        · rw [if_pos (by omega)] at this; cases this
      go_enter Tryd.func19, Tryd.ntmps19
      go_wp2_with fail
      go_ret
      exact ⟨ret_bool HN.out.symm, rfl⟩
  · have HN : Hid (nmB s = false) := by
      show _ = _
      rw [Bool.eq_false_iff]
      intro h
      exact h0 (nmB_iff.1 h).1
    have hne := is_empty (show s.size = 0 from by omega)
    go_enter Tryd.func19, Tryd.ntmps19
    go_wp2_with fail
    go_ret
    exact ⟨ret_bool HN.out.symm, rfl⟩
end Go.Proofs.YtcgdhbgjmapoeaaDoor
