/-
  Layer 3: names; a short text's words; what a list of words holds.
-/
import Derived.Test.YtkgemeeadkfnhaaDoorXA
namespace Go.Proofs.YtkgemeeadkfnhaaDoor
open Go.RowKit Go.Shelf

/-- is a text a name? -/
def nmB (s : ByteArray) : Bool := decide (0 < s.size) && (decide (cls (bt s 0) = 2) && ((List.range s.size).all (fun j => inRow (bt s j)) && decide (kd s = 2)))
theorem range_all {n : Nat} {p : Nat → Bool} : (List.range n).all p = true ↔ ∀ j, j < n → p j = true := by
  simp [List.all_eq_true]
theorem row_all {s : ByteArray} : (List.range s.size).all (fun j => inRow (bt s j)) = true ↔ RowEnd s s.size := by
  rw [range_all]
  exact ⟨fun h => ⟨Nat.le_refl _, h, fun h' => absurd h' (by omega)⟩, fun h => h.2.1⟩
theorem nmB_iff {s : ByteArray} : nmB s = true ↔ 0 < s.size ∧ cls (bt s 0) = 2 ∧ RowEnd s s.size ∧ kd s = 2 := by
  unfold nmB
  rw [Bool.and_eq_true, Bool.and_eq_true, Bool.and_eq_true, row_all]
  simp only [decide_eq_true_iff]

set_option maxRecDepth 100000 in
set_option maxHeartbeats 1600000 in
theorem isName_n (s : ByteArray) (w : World) (hs : s.size ≤ 1099511627776) :
    Calls Tryd.prog 12 #[.string s] w fun e w' => e = .returned (.bool (nmB s)) ∧ w = w' := by
  by_cases h0 : 0 < s.size
  · have hne := ne_empty h0
    have hb := bt_lt s 0
    have he := bt_eq s 0 h0
    go_enter Tryd.func12, Tryd.ntmps12
    go_wp2_with fail
    refine (lookAt_n ((s[0]'h0).toNat : Int) (by omega) (by omega) w).mono ?_
    rintro e w' ⟨rfl, rfl⟩
    rw [← he]
    by_cases hc : cls (bt s 0) = 2
    · have HC := hide hc
      rw [hc]
      clear hc
      go_wp2_with fail
      refine (rowOf_n s w hs).mono ?_
      rintro e w' ⟨k, hk, rfl, rfl⟩
      by_cases hks : k = s.size
      · subst hks
        have HK := hide hk
        clear hk
        rw [extract_all]
        have hee : (s.toList == s.toList) = true := by simp
        go_wp2_with fail
        refine (kindOf_n s w hs).mono ?_
        rintro e w' ⟨rfl, rfl⟩
        have HN : Hid (nmB s = (kd s == 2)) := by
          show _ = _
          unfold nmB
          rw [row_all.2 HK.out, decide_eq_true h0, decide_eq_true HC.out]
          simp only [Bool.true_and]
          rfl
        go_wp2_with fail
        go_ret
        exact ⟨ret_bool HN.out.symm, rfl⟩
      · have HK := hide hk
        have hkl := hk.1
        have hx : ((s.extract 0 k).toList == s.toList) = false := by
          rw [Bool.eq_false_iff]
          intro h
          have h2 := congrArg ByteArray.size (toList_iff.1 h)
          rw [ByteArray.size_extract] at h2
          omega
        have HN : Hid (nmB s = false) := by
          show _ = _
          rw [Bool.eq_false_iff]
          intro h
          exact hks ((nmB_iff.1 h).2.2.1.unique HK.out).symm
        clear hk hks
        go_wp2_with fail
        go_ret
        exact ⟨ret_bool HN.out.symm, rfl⟩
    · have HN : Hid (nmB s = false) := by
        show _ = _
        rw [Bool.eq_false_iff]
        intro h
        exact hc (nmB_iff.1 h).2.1
      have hc2 : (cls (bt s 0) == 2) = false := by rw [beq_eq_false_iff_ne]; exact hc
      clear hc
      generalize cls (bt s 0) = c at *
      go_wp2_with fail
      go_ret
      exact ⟨ret_bool HN.out.symm, rfl⟩
  · have HN : Hid (nmB s = false) := by
      show _ = _
      rw [Bool.eq_false_iff]
      intro h
      exact h0 (nmB_iff.1 h).1
    have hne := is_empty (show s.size = 0 from by omega)
    go_enter Tryd.func12, Tryd.ntmps12
    go_wp2_with fail
    go_ret
    exact ⟨ret_bool HN.out.symm, rfl⟩

/-- the cells of a list of words -/
theorem flat_get {xs : List TM} {i j : Nat} (hi : i < xs.length) (hj : j < 5) : (xs.flatMap V5)[5 * i + j]? = (V5 xs[i])[j]? := by
  induction xs generalizing i with
  | nil => simp at hi
  | cons x r ih =>
    rw [List.flatMap_cons]
    cases i with
    | zero =>
      rw [Nat.mul_zero, Nat.zero_add, List.getElem?_append_left (by simp [V5]; omega)]
      rfl
    | succ i =>
      rw [List.getElem?_append_right (by simp [V5]; omega)]
      have e : 5 * (i + 1) + j - (V5 x).length = 5 * i + j := by simp [V5]; omega
      rw [e, ih (by simpa using hi)]
      rfl
theorem own_nil {W : World} {base : Nat} {v : Value} (h : W.ownsRow base 40 5 v 0 []) : ∃ a c, v = .slice a 0 c := by
  rcases h.2 with ⟨rfl, _⟩ | ⟨g, cap, cur, rfl, _⟩ <;> exact ⟨_, _, rfl⟩
theorem own_at {W : World} {base : Nat} {v : Value} {xs : List TM} (h : W.ownsRow base 40 5 v xs.length (xs.flatMap V5)) (h0 : 0 < xs.length) :
    ∃ g cap, v = .slice (some ⟨g, 0, none⟩) xs.length cap ∧ base ≤ g ∧ g < W.heap.size ∧ xs.length ≤ cap ∧ cap ≤ 9223372036854775807 ∧ (∀ i j, (hi : i < xs.length) → j < 5 → W.cell? ⟨g, 5 * i + j, none⟩ = (V5 xs[i])[j]?) := by
  obtain ⟨h1, ⟨_, h2⟩ | ⟨g, cap, cur, rfl, hb, hg, hle, hm, hsz, ht⟩⟩ := h
  · omega
  · refine ⟨g, cap, rfl, hb, (Array.getElem?_eq_some_iff.1 hg).1, hle, by unfold maxLen at hm; omega, ?_⟩
    intro i j hi hj
    rw [cell_of_row W g _ _ _ (0, 0) hg, ← flat_get hi hj, ← ht, List.getElem?_take, if_pos (by omega), Array.getElem?_toList]
theorem own_cells {W : World} {base : Nat} {e : TypeId} {v : Value} {xs : List TM} (h : W.ownsRow base e 5 v xs.length (xs.flatMap V5)) (h0 : 0 < xs.length) :
    ∃ g cap, v = .slice (some ⟨g, 0, none⟩) xs.length cap ∧ base ≤ g ∧ g < W.heap.size ∧ xs.length ≤ cap ∧ cap ≤ 9223372036854775807 ∧ (∀ i j, (hi : i < xs.length) → j < 5 → W.cell? ⟨g, i * 5 + j, none⟩ = (V5 xs[i])[j]?) := by
  obtain ⟨h1, ⟨_, h2⟩ | ⟨g, cap, cur, rfl, hb, hg, hle, hm, hsz, ht⟩⟩ := h
  · omega
  · refine ⟨g, cap, rfl, hb, (Array.getElem?_eq_some_iff.1 hg).1, hle, by unfold maxLen at hm; omega, ?_⟩
    intro i j hi hj
    rw [cell_of_row W g _ _ _ (0, 0) hg, ← flat_get hi hj, ← ht, List.getElem?_take, if_pos (by omega), Array.getElem?_toList, Nat.mul_comm]

theorem own_slice2 {W : World} {base : Nat} {e : TypeId} {size : Nat} {v : Value} {n : Nat} {xs : List Value} (h : W.ownsRow base e size v n xs) : ∃ a c, v = .slice a n c := by
  rcases h.2 with ⟨rfl, rfl⟩ | ⟨g, cap, cur, rfl, _⟩ <;> exact ⟨_, _, rfl⟩
end Go.Proofs.YtkgemeeadkfnhaaDoor
