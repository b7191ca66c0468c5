/-
  Walks: isText, value, timesPlus.
-/
import Derived.Test.YtgkacepahfjeeaaGreatDoorT3
namespace Go.Proofs.YtgkacepahfjeeaaGreatDoor
open Go.RowKit

/-- the byte at a place -/
def bt (s : ByteArray) (i : Nat) : Nat := (s.data.toList.getD i 0).toNat

theorem bt_eq (s : ByteArray) (i : Nat) (h : i < s.size) : bt s i = (s[i]'h).toNat := by
  unfold bt
  have : s.data.toList.getD i 0 = s[i]'h := by
    have h2 : i < s.data.size := h
    have e : s.data.toList[i]? = some (s.data[i]'h2) := by simp
    rw [List.getD_eq_getElem?_getD, e]
    rfl
  rw [this]

/-- has some number this text? -/
def okText (s : ByteArray) : Prop := 0 < s.size ∧ ¬ (1 < s.size ∧ bt s 0 = 48) ∧ ∀ i, i < s.size → 48 ≤ bt s i ∧ bt s i ≤ 57

theorem ne_empty {s : ByteArray} (h : 0 < s.size) : s.toList.isEmpty = false := by
  rw [ByteArray.toList_eq]
  have : 0 < s.data.toList.length := by rw [Array.length_toList]; exact h
  cases hq : s.data.toList with
  | nil => rw [hq] at this; simp at this
  | cons x r => rfl

theorem is_empty {s : ByteArray} (h : s.size = 0) : s.toList.isEmpty = true := by
  rw [ByteArray.toList_eq]
  have : s.data.toList.length = 0 := by rw [Array.length_toList]; exact h
  rw [List.eq_nil_of_length_eq_zero this]; rfl

theorem bt_lt (s : ByteArray) (i : Nat) : bt s i < 256 := UInt8.toNat_lt _

set_option maxRecDepth 100000 in
set_option maxHeartbeats 1600000 in
theorem isText_yes (s : ByteArray) (w : World) (hs : s.size ≤ 9223372036854775807) (hok : okText s) :
    Calls Tryz.prog 68 #[.string s] w fun e w' => e = .returned (.bool true) ∧ w = w' := by
  obtain ⟨h0, h1, h2⟩ := hok
  have e0 := bt_eq s 0 h0
  have H2 := hide h2
  have hne := ne_empty h0
  by_cases h11 : 1 < s.size
  · have hb0 : (((s[0]'h0).toNat : Int) == 48) = false := by
      rw [beq_eq_false_iff_ne]
      intro h
      exact h1 ⟨h11, by omega⟩
    have hd1 : decide ((1 : Int) < (s.size : Int)) = true := by simp; omega
    clear h1 h2 e0
    go_enter Tryz.func68, Tryz.ntmps68
    go_wp2
    go_loop [18] (fun i => ∃ k : Nat, k ≤ s.size ∧ i = .int .i64 k) (fun i => s.size - (intOf i).toNat)
    case atStart => exact ⟨0, Nat.zero_le _, rfl⟩
    case round =>
      obtain ⟨k, hk, rfl⟩ := hrel
      by_cases hkl : k < s.size
      · have hb := (unhide H2) k hkl
        rw [bt_eq s k hkl] at hb
        have hk1 : decide (((s[k]'hkl).toNat : Int) < 48) = false := by simp; omega
        have hk2 : decide ((57 : Int) < ((s[k]'hkl).toNat : Int)) = false := by simp; omega
        clear hb
        go_wp2
        exact ⟨⟨k + 1, by omega, by go_num⟩, by simp [intOf]; omega⟩
      · go_wp2
        go_ret
        exact ⟨rfl, rfl⟩
  · have hd1 : decide ((1 : Int) < (s.size : Int)) = false := by simp; omega
    clear h1 h2 e0
    go_enter Tryz.func68, Tryz.ntmps68
    go_wp2
    go_loop [18] (fun i => ∃ k : Nat, k ≤ s.size ∧ i = .int .i64 k) (fun i => s.size - (intOf i).toNat)
    case atStart => exact ⟨0, Nat.zero_le _, rfl⟩
    case round =>
      obtain ⟨k, hk, rfl⟩ := hrel
      by_cases hkl : k < s.size
      · have hb := (unhide H2) k hkl
        rw [bt_eq s k hkl] at hb
        have hk1 : decide (((s[k]'hkl).toNat : Int) < 48) = false := by simp; omega
        have hk2 : decide ((57 : Int) < ((s[k]'hkl).toNat : Int)) = false := by simp; omega
        clear hb
        go_wp2
        exact ⟨⟨k + 1, by omega, by go_num⟩, by simp [intOf]; omega⟩
      · go_wp2
        go_ret
        exact ⟨rfl, rfl⟩

set_option maxRecDepth 100000 in
set_option maxHeartbeats 1600000 in
theorem isText_no (s : ByteArray) (w : World) (hs : s.size ≤ 9223372036854775807) (hok : ¬ okText s) :
    Calls Tryz.prog 68 #[.string s] w fun e w' => e = .returned (.bool false) ∧ w = w' := by
  by_cases h0 : s.size = 0
  · have hne := is_empty h0
    clear hok
    go_enter Tryz.func68, Tryz.ntmps68
    go_wp2
    go_ret
    exact ⟨rfl, rfl⟩
  · have hpos : 0 < s.size := by omega
    have hne := ne_empty hpos
    have e0 := bt_eq s 0 hpos
    have HP := hide h0
    clear h0
    by_cases h1 : 1 < s.size ∧ bt s 0 = 48
    · have h11 := h1.1
      have hb0 : (((s[0]'hpos).toNat : Int) == 48) = true := by
        rw [beq_iff_eq]
        have := h1.2
        omega
      have hd1 : decide ((1 : Int) < (s.size : Int)) = true := by simp; omega
      clear hok h1 e0
      go_enter Tryz.func68, Tryz.ntmps68
      go_wp2
      go_ret
      exact ⟨rfl, rfl⟩
    · have hbad : Hid (¬ ∀ i, i < s.size → 48 ≤ bt s i ∧ bt s i ≤ 57) := fun h => hok ⟨hpos, h1, h⟩
      by_cases h11 : 1 < s.size
      all_goals
        first
        | (have hb0 : (((s[0]'hpos).toNat : Int) == 48) = false := by (rw [beq_eq_false_iff_ne]; intro h; exact h1 ⟨h11, by omega⟩)
           have hd1 : decide ((1 : Int) < (s.size : Int)) = true := by (simp; omega))
        | have hd1 : decide ((1 : Int) < (s.size : Int)) = false := by (simp; omega)
        clear hok h1 e0
        go_enter Tryz.func68, Tryz.ntmps68
        go_wp2
        go_loop [18] (fun i => ∃ k : Nat, k ≤ s.size ∧ i = .int .i64 k ∧ ∀ j, j < k → 48 ≤ bt s j ∧ bt s j ≤ 57) (fun i => s.size - (intOf i).toNat)
        case atStart => exact ⟨0, Nat.zero_le _, rfl, fun j hj => absurd hj (by omega)⟩
        case round =>
          obtain ⟨k, hk, rfl, hg⟩ := hrel
          have HG := hide hg
          clear hg
          by_cases hkl : k < s.size
          · have ek := bt_eq s k hkl
            by_cases hc1 : bt s k < 48
            · have hk1 : decide (((s[k]'hkl).toNat : Int) < 48) = true := by simp; omega
              clear ek hc1
              go_wp2
              go_ret
              exact ⟨rfl, rfl⟩
            · by_cases hc2 : 57 < bt s k
              · have hk1 : decide (((s[k]'hkl).toNat : Int) < 48) = false := by simp; omega
                have hk2 : decide ((57 : Int) < ((s[k]'hkl).toNat : Int)) = true := by simp; omega
                clear ek hc1 hc2
                go_wp2
                go_ret
                exact ⟨rfl, rfl⟩
              · have hk1 : decide (((s[k]'hkl).toNat : Int) < 48) = false := by simp; omega
                have hk2 : decide ((57 : Int) < ((s[k]'hkl).toNat : Int)) = false := by simp; omega
                have HN := hide (show 48 ≤ bt s k ∧ bt s k ≤ 57 from by omega)
                clear ek hc1 hc2
                go_wp2
                exact ⟨⟨k + 1, by omega, by go_num, fun j hj => (by by_cases e : j = k; { rw [e]; exact unhide HN }; { exact (unhide HG) j (by omega) })⟩, by simp [intOf]; omega⟩
          · exact absurd (fun i hi => (unhide HG) i (by omega)) (unhide hbad)
end Go.Proofs.YtgkacepahfjeeaaGreatDoor
