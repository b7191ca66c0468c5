/-
  Layer 3: prefixes, signs.
-/
import Derived.Test.YtkgemeeadkfnhaaDoorX3
namespace Go.Proofs.YtkgemeeadkfnhaaDoor
open Go.RowKit

theorem ba_ext {s t : ByteArray} (h : s.size = t.size) (hb : ∀ i, i < s.size → bt s i = bt t i) : s = t := by
  apply ByteArray.ext
  apply Array.ext
  · exact h
  · intro i h1 h2
    have := hb i h1
    rw [bt_eq s i h1, bt_eq t i h2] at this
    exact UInt8.toNat_inj.1 this
theorem toList_iff {s t : ByteArray} : (s.toList == t.toList) = true ↔ s = t := by
  rw [beq_iff_eq, ByteArray.toList_eq, ByteArray.toList_eq]
  constructor
  · intro h
    exact ByteArray.ext (Array.toList_inj.1 h)
  · rintro rfl; rfl
theorem toList_size {s : ByteArray} : s.toList.length = s.size := by
  rw [ByteArray.toList_eq, Array.length_toList]; rfl
theorem bt_of_toList {s : ByteArray} {l : List UInt8} (h : s.toList = l) (i : Nat) : bt s i = (l.getD i 0).toNat := by
  rw [ByteArray.toList_eq] at h
  unfold bt
  rw [h]

/-- does a text begin with another one? -/
def pfx (s p : ByteArray) : Bool := decide (p.size ≤ s.size) && ((s.extract 0 p.size).toList == p.toList)
theorem pfx_iff {s p : ByteArray} : pfx s p = true ↔ p.size ≤ s.size ∧ ∀ i, i < p.size → bt s i = bt p i := by
  unfold pfx
  rw [Bool.and_eq_true, decide_eq_true_iff, toList_iff]
  constructor
  · rintro ⟨h1, h2⟩
    refine ⟨h1, fun i hi => ?_⟩
    have := bt_extract s 0 p.size i h1 (by omega)
    rw [h2, Nat.zero_add] at this
    exact this.symm
  · rintro ⟨h1, h2⟩
    have hz : (s.extract 0 p.size).size = p.size := by rw [ByteArray.size_extract]; omega
    refine ⟨h1, ba_ext hz fun i hi => ?_⟩
    rw [hz] at hi
    rw [bt_extract s 0 p.size i h1 (by omega), Nat.zero_add]
    exact h2 i hi

set_option maxRecDepth 100000 in
set_option maxHeartbeats 1600000 in
theorem hasPrefix_in (s p : ByteArray) (w : World) (_hs : s.size ≤ 1099511627776) (_hp : p.size ≤ 1099511627776) :
    Calls Tryd.prog 42 #[.string s, .string p] w fun e w' => e = .returned (.bool (pfx s p)) ∧ w = w' := by
  by_cases h : p.size ≤ s.size
  · go_enter Tryd.func42, Tryd.ntmps42
    go_wp2
    go_ret
    exact ⟨ret_bool (by simp [pfx, h]), rfl⟩
  · go_enter Tryd.func42, Tryd.ntmps42
    go_wp2
    go_ret
    exact ⟨ret_bool (by simp [pfx, h]), rfl⟩
set_option maxRecDepth 100000 in
set_option maxHeartbeats 1600000 in
theorem hasPrefix_n (s p : ByteArray) (w : World) (hs : s.size ≤ 1099511627776) (hp : p.size ≤ 1099511627776) :
    Calls Tryd.prog 36 #[.string s, .string p] w fun e w' => e = .returned (.bool (pfx s p)) ∧ w = w' := by
  go_enter Tryd.func36, Tryd.ntmps36
  go_wp2_with fail
  refine (hasPrefix_in s p w hs hp).mono ?_
  rintro e w' ⟨rfl, rfl⟩
  go_wp2_with fail
  go_ret
  exact ⟨rfl, rfl⟩

theorem ret_str {a b : ByteArray} (h : a = b) : Ending.returned (.string a) = .returned (.string b) := by rw [h]
/-- the signs, those of two bytes first -/
def signL : List ByteArray := [⟨#[60, 61]⟩, ⟨#[62, 61]⟩, ⟨#[33, 61]⟩, ⟨#[60]⟩, ⟨#[62]⟩, ⟨#[61]⟩, ⟨#[43]⟩, ⟨#[45]⟩, ⟨#[42]⟩, ⟨#[46]⟩, ⟨#[40]⟩, ⟨#[41]⟩]
/-- the variable that holds them -/
def Sgn (w : World) : Prop := ∃ ty fr, w.heap[0]? = some (.cells #[.string ⟨#[60, 61]⟩, .string ⟨#[62, 61]⟩, .string ⟨#[33, 61]⟩, .string ⟨#[60]⟩, .string ⟨#[62]⟩, .string ⟨#[61]⟩, .string ⟨#[43]⟩, .string ⟨#[45]⟩, .string ⟨#[42]⟩, .string ⟨#[46]⟩, .string ⟨#[40]⟩, .string ⟨#[41]⟩] ty fr)
theorem Sgn.below {w w' : World} (h : Sgn w) (hb : Below w.heap.size w w') : Sgn w' := by
  obtain ⟨ty, fr, h⟩ := h
  have hlt : 0 < w.heap.size := (Array.getElem?_eq_some_iff.1 h).1
  exact ⟨ty, fr, (hb.block _ hlt).trans h⟩

theorem find_hit {α : Type} {l : List α} {f : α → Bool} {k : Nat} {p : α} (h : (l.take k).find? f = none) (hk : l[k]? = some p) (hp : f p = true) : l.find? f = some p := by
  obtain ⟨hlt, e⟩ := List.getElem?_eq_some_iff.1 hk
  have e2 : l = l.take k ++ p :: l.drop (k + 1) := by
    rw [← e, List.getElem_cons_drop, List.take_append_drop]
  rw [e2, List.find?_append, h, List.find?_cons_of_pos hp]
  rfl
theorem find_miss {α : Type} {l : List α} {f : α → Bool} {k : Nat} {p : α} (h : (l.take k).find? f = none) (hk : l[k]? = some p) (hp : f p = false) : (l.take (k + 1)).find? f = none := by
  rw [List.take_add_one, List.find?_append, h, hk]
  simp [hp]
/-- the sign that a text begins with -/
def sgOf (s : ByteArray) : ByteArray := (signL.find? (pfx s)).getD ⟨#[]⟩

theorem sgn_at0 (w : World) : Sem.run Tryd.prog (Instr.index 69 (.agg #[.string ⟨#[60, 61]⟩, .string ⟨#[62, 61]⟩, .string ⟨#[33, 61]⟩, .string ⟨#[60]⟩, .string ⟨#[62]⟩, .string ⟨#[61]⟩, .string ⟨#[43]⟩, .string ⟨#[45]⟩, .string ⟨#[42]⟩, .string ⟨#[46]⟩, .string ⟨#[40]⟩, .string ⟨#[41]⟩]) (.int .i64 0)) w = .ok (.string ⟨#[60, 61]⟩) w := by kernel_rfl
theorem sgn_at1 (w : World) : Sem.run Tryd.prog (Instr.index 69 (.agg #[.string ⟨#[60, 61]⟩, .string ⟨#[62, 61]⟩, .string ⟨#[33, 61]⟩, .string ⟨#[60]⟩, .string ⟨#[62]⟩, .string ⟨#[61]⟩, .string ⟨#[43]⟩, .string ⟨#[45]⟩, .string ⟨#[42]⟩, .string ⟨#[46]⟩, .string ⟨#[40]⟩, .string ⟨#[41]⟩]) (.int .i64 1)) w = .ok (.string ⟨#[62, 61]⟩) w := by kernel_rfl
theorem sgn_at2 (w : World) : Sem.run Tryd.prog (Instr.index 69 (.agg #[.string ⟨#[60, 61]⟩, .string ⟨#[62, 61]⟩, .string ⟨#[33, 61]⟩, .string ⟨#[60]⟩, .string ⟨#[62]⟩, .string ⟨#[61]⟩, .string ⟨#[43]⟩, .string ⟨#[45]⟩, .string ⟨#[42]⟩, .string ⟨#[46]⟩, .string ⟨#[40]⟩, .string ⟨#[41]⟩]) (.int .i64 2)) w = .ok (.string ⟨#[33, 61]⟩) w := by kernel_rfl
theorem sgn_at3 (w : World) : Sem.run Tryd.prog (Instr.index 69 (.agg #[.string ⟨#[60, 61]⟩, .string ⟨#[62, 61]⟩, .string ⟨#[33, 61]⟩, .string ⟨#[60]⟩, .string ⟨#[62]⟩, .string ⟨#[61]⟩, .string ⟨#[43]⟩, .string ⟨#[45]⟩, .string ⟨#[42]⟩, .string ⟨#[46]⟩, .string ⟨#[40]⟩, .string ⟨#[41]⟩]) (.int .i64 3)) w = .ok (.string ⟨#[60]⟩) w := by kernel_rfl
theorem sgn_at4 (w : World) : Sem.run Tryd.prog (Instr.index 69 (.agg #[.string ⟨#[60, 61]⟩, .string ⟨#[62, 61]⟩, .string ⟨#[33, 61]⟩, .string ⟨#[60]⟩, .string ⟨#[62]⟩, .string ⟨#[61]⟩, .string ⟨#[43]⟩, .string ⟨#[45]⟩, .string ⟨#[42]⟩, .string ⟨#[46]⟩, .string ⟨#[40]⟩, .string ⟨#[41]⟩]) (.int .i64 4)) w = .ok (.string ⟨#[62]⟩) w := by kernel_rfl
theorem sgn_at5 (w : World) : Sem.run Tryd.prog (Instr.index 69 (.agg #[.string ⟨#[60, 61]⟩, .string ⟨#[62, 61]⟩, .string ⟨#[33, 61]⟩, .string ⟨#[60]⟩, .string ⟨#[62]⟩, .string ⟨#[61]⟩, .string ⟨#[43]⟩, .string ⟨#[45]⟩, .string ⟨#[42]⟩, .string ⟨#[46]⟩, .string ⟨#[40]⟩, .string ⟨#[41]⟩]) (.int .i64 5)) w = .ok (.string ⟨#[61]⟩) w := by kernel_rfl
theorem sgn_at6 (w : World) : Sem.run Tryd.prog (Instr.index 69 (.agg #[.string ⟨#[60, 61]⟩, .string ⟨#[62, 61]⟩, .string ⟨#[33, 61]⟩, .string ⟨#[60]⟩, .string ⟨#[62]⟩, .string ⟨#[61]⟩, .string ⟨#[43]⟩, .string ⟨#[45]⟩, .string ⟨#[42]⟩, .string ⟨#[46]⟩, .string ⟨#[40]⟩, .string ⟨#[41]⟩]) (.int .i64 6)) w = .ok (.string ⟨#[43]⟩) w := by kernel_rfl
theorem sgn_at7 (w : World) : Sem.run Tryd.prog (Instr.index 69 (.agg #[.string ⟨#[60, 61]⟩, .string ⟨#[62, 61]⟩, .string ⟨#[33, 61]⟩, .string ⟨#[60]⟩, .string ⟨#[62]⟩, .string ⟨#[61]⟩, .string ⟨#[43]⟩, .string ⟨#[45]⟩, .string ⟨#[42]⟩, .string ⟨#[46]⟩, .string ⟨#[40]⟩, .string ⟨#[41]⟩]) (.int .i64 7)) w = .ok (.string ⟨#[45]⟩) w := by kernel_rfl
theorem sgn_at8 (w : World) : Sem.run Tryd.prog (Instr.index 69 (.agg #[.string ⟨#[60, 61]⟩, .string ⟨#[62, 61]⟩, .string ⟨#[33, 61]⟩, .string ⟨#[60]⟩, .string ⟨#[62]⟩, .string ⟨#[61]⟩, .string ⟨#[43]⟩, .string ⟨#[45]⟩, .string ⟨#[42]⟩, .string ⟨#[46]⟩, .string ⟨#[40]⟩, .string ⟨#[41]⟩]) (.int .i64 8)) w = .ok (.string ⟨#[42]⟩) w := by kernel_rfl
theorem sgn_at9 (w : World) : Sem.run Tryd.prog (Instr.index 69 (.agg #[.string ⟨#[60, 61]⟩, .string ⟨#[62, 61]⟩, .string ⟨#[33, 61]⟩, .string ⟨#[60]⟩, .string ⟨#[62]⟩, .string ⟨#[61]⟩, .string ⟨#[43]⟩, .string ⟨#[45]⟩, .string ⟨#[42]⟩, .string ⟨#[46]⟩, .string ⟨#[40]⟩, .string ⟨#[41]⟩]) (.int .i64 9)) w = .ok (.string ⟨#[46]⟩) w := by kernel_rfl
theorem sgn_at10 (w : World) : Sem.run Tryd.prog (Instr.index 69 (.agg #[.string ⟨#[60, 61]⟩, .string ⟨#[62, 61]⟩, .string ⟨#[33, 61]⟩, .string ⟨#[60]⟩, .string ⟨#[62]⟩, .string ⟨#[61]⟩, .string ⟨#[43]⟩, .string ⟨#[45]⟩, .string ⟨#[42]⟩, .string ⟨#[46]⟩, .string ⟨#[40]⟩, .string ⟨#[41]⟩]) (.int .i64 10)) w = .ok (.string ⟨#[40]⟩) w := by kernel_rfl
theorem sgn_at11 (w : World) : Sem.run Tryd.prog (Instr.index 69 (.agg #[.string ⟨#[60, 61]⟩, .string ⟨#[62, 61]⟩, .string ⟨#[33, 61]⟩, .string ⟨#[60]⟩, .string ⟨#[62]⟩, .string ⟨#[61]⟩, .string ⟨#[43]⟩, .string ⟨#[45]⟩, .string ⟨#[42]⟩, .string ⟨#[46]⟩, .string ⟨#[40]⟩, .string ⟨#[41]⟩]) (.int .i64 11)) w = .ok (.string ⟨#[41]⟩) w := by kernel_rfl
set_option maxRecDepth 100000 in
set_option maxHeartbeats 1600000 in
theorem signOf_n (s : ByteArray) (w : World) (hs : s.size ≤ 1099511627776) (h : Sgn w) :
    Calls Tryd.prog 33 #[.string s] w fun e w' => e = .returned (.string (sgOf s)) ∧ w = w' := by
  obtain ⟨ty, fr, h⟩ := h
  have c0 := cell_of_row w 0 0 _ _ fr h
  have c1 := cell_of_row w 0 1 _ _ fr h
  have c2 := cell_of_row w 0 2 _ _ fr h
  have c3 := cell_of_row w 0 3 _ _ fr h
  have c4 := cell_of_row w 0 4 _ _ fr h
  have c5 := cell_of_row w 0 5 _ _ fr h
  have c6 := cell_of_row w 0 6 _ _ fr h
  have c7 := cell_of_row w 0 7 _ _ fr h
  have c8 := cell_of_row w 0 8 _ _ fr h
  have c9 := cell_of_row w 0 9 _ _ fr h
  have c10 := cell_of_row w 0 10 _ _ fr h
  have c11 := cell_of_row w 0 11 _ _ fr h
  clear h
  go_enter Tryd.func33, Tryd.ntmps33
  go_wp2_with fail
  go_loop [6] (fun i => ∃ k : Nat, k ≤ 12 ∧ i = .int .i64 k ∧ Hid ((signL.take k).find? (pfx s) = none)) (fun i => 12 - (intOf i).toNat)
  case atStart => exact ⟨0, by decide, rfl, rfl⟩
  case round =>
    obtain ⟨k, hk, rfl, HJ⟩ := hrel
    have i0 := sgn_at0 w
    have i1 := sgn_at1 w
    have i2 := sgn_at2 w
    have i3 := sgn_at3 w
    have i4 := sgn_at4 w
    have i5 := sgn_at5 w
    have i6 := sgn_at6 w
    have i7 := sgn_at7 w
    have i8 := sgn_at8 w
    have i9 := sgn_at9 w
    have i10 := sgn_at10 w
    have i11 := sgn_at11 w
    clear c0 c1 c2 c3 c4 c5 c6 c7 c8 c9 c10 c11
    rcases (show k = 0 ∨ k = 1 ∨ k = 2 ∨ k = 3 ∨ k = 4 ∨ k = 5 ∨ k = 6 ∨ k = 7 ∨ k = 8 ∨ k = 9 ∨ k = 10 ∨ k = 11 ∨ k = 12 from by omega) with rfl | rfl | rfl | rfl | rfl | rfl | rfl | rfl | rfl | rfl | rfl | rfl | rfl
    case inr.inr.inr.inr.inr.inr.inr.inr.inr.inr.inr.inr =>
      go_wp2_with fail
      go_ret
      exact ⟨ret_str (by unfold sgOf; rw [show signL = signL.take 12 from rfl, HJ.out]; rfl), rfl⟩
    all_goals (
      go_wp2_with fail
      refine (hasPrefix_n s _ w hs ?_).mono ?_
      · decide
      rintro e w' ⟨rfl, rfl⟩)
    · cases hq : pfx s ⟨#[60, 61]⟩
      · have HN : Hid ((signL.take 1).find? (pfx s) = none) := find_miss (k := 0) HJ.out rfl hq
        clear hq HJ
        go_wp2_with fail
        exact ⟨⟨1, by decide, rfl, HN⟩, by decide⟩
      · have HN : Hid (signL.find? (pfx s) = some ⟨#[60, 61]⟩) := find_hit (k := 0) HJ.out rfl hq
        clear hq HJ
        go_wp2_with fail
        go_ret
        exact ⟨ret_str (by unfold sgOf; rw [HN.out]; rfl), rfl⟩
    · cases hq : pfx s ⟨#[62, 61]⟩
      · have HN : Hid ((signL.take 2).find? (pfx s) = none) := find_miss (k := 1) HJ.out rfl hq
        clear hq HJ
        go_wp2_with fail
        exact ⟨⟨2, by decide, rfl, HN⟩, by decide⟩
      · have HN : Hid (signL.find? (pfx s) = some ⟨#[62, 61]⟩) := find_hit (k := 1) HJ.out rfl hq
        clear hq HJ
        go_wp2_with fail
        go_ret
        exact ⟨ret_str (by unfold sgOf; rw [HN.out]; rfl), rfl⟩
    · cases hq : pfx s ⟨#[33, 61]⟩
      · have HN : Hid ((signL.take 3).find? (pfx s) = none) := find_miss (k := 2) HJ.out rfl hq
        clear hq HJ
        go_wp2_with fail
        exact ⟨⟨3, by decide, rfl, HN⟩, by decide⟩
      · have HN : Hid (signL.find? (pfx s) = some ⟨#[33, 61]⟩) := find_hit (k := 2) HJ.out rfl hq
        clear hq HJ
        go_wp2_with fail
        go_ret
        exact ⟨ret_str (by unfold sgOf; rw [HN.out]; rfl), rfl⟩
    · cases hq : pfx s ⟨#[60]⟩
      · have HN : Hid ((signL.take 4).find? (pfx s) = none) := find_miss (k := 3) HJ.out rfl hq
        clear hq HJ
        go_wp2_with fail
        exact ⟨⟨4, by decide, rfl, HN⟩, by decide⟩
      · have HN : Hid (signL.find? (pfx s) = some ⟨#[60]⟩) := find_hit (k := 3) HJ.out rfl hq
        clear hq HJ
        go_wp2_with fail
        go_ret
        exact ⟨ret_str (by unfold sgOf; rw [HN.out]; rfl), rfl⟩
    · cases hq : pfx s ⟨#[62]⟩
      · have HN : Hid ((signL.take 5).find? (pfx s) = none) := find_miss (k := 4) HJ.out rfl hq
        clear hq HJ
        go_wp2_with fail
        exact ⟨⟨5, by decide, rfl, HN⟩, by decide⟩
      · have HN : Hid (signL.find? (pfx s) = some ⟨#[62]⟩) := find_hit (k := 4) HJ.out rfl hq
        clear hq HJ
        go_wp2_with fail
        go_ret
        exact ⟨ret_str (by unfold sgOf; rw [HN.out]; rfl), rfl⟩
    · cases hq : pfx s ⟨#[61]⟩
      · have HN : Hid ((signL.take 6).find? (pfx s) = none) := find_miss (k := 5) HJ.out rfl hq
        clear hq HJ
        go_wp2_with fail
        exact ⟨⟨6, by decide, rfl, HN⟩, by decide⟩
      · have HN : Hid (signL.find? (pfx s) = some ⟨#[61]⟩) := find_hit (k := 5) HJ.out rfl hq
        clear hq HJ
        go_wp2_with fail
        go_ret
        exact ⟨ret_str (by unfold sgOf; rw [HN.out]; rfl), rfl⟩
    · cases hq : pfx s ⟨#[43]⟩
      · have HN : Hid ((signL.take 7).find? (pfx s) = none) := find_miss (k := 6) HJ.out rfl hq
        clear hq HJ
        go_wp2_with fail
        exact ⟨⟨7, by decide, rfl, HN⟩, by decide⟩
      · have HN : Hid (signL.find? (pfx s) = some ⟨#[43]⟩) := find_hit (k := 6) HJ.out rfl hq
        clear hq HJ
        go_wp2_with fail
        go_ret
        exact ⟨ret_str (by unfold sgOf; rw [HN.out]; rfl), rfl⟩
    · cases hq : pfx s ⟨#[45]⟩
      · have HN : Hid ((signL.take 8).find? (pfx s) = none) := find_miss (k := 7) HJ.out rfl hq
        clear hq HJ
        go_wp2_with fail
        exact ⟨⟨8, by decide, rfl, HN⟩, by decide⟩
      · have HN : Hid (signL.find? (pfx s) = some ⟨#[45]⟩) := find_hit (k := 7) HJ.out rfl hq
        clear hq HJ
        go_wp2_with fail
        go_ret
        exact ⟨ret_str (by unfold sgOf; rw [HN.out]; rfl), rfl⟩
    · cases hq : pfx s ⟨#[42]⟩
      · have HN : Hid ((signL.take 9).find? (pfx s) = none) := find_miss (k := 8) HJ.out rfl hq
        clear hq HJ
        go_wp2_with fail
        exact ⟨⟨9, by decide, rfl, HN⟩, by decide⟩
      · have HN : Hid (signL.find? (pfx s) = some ⟨#[42]⟩) := find_hit (k := 8) HJ.out rfl hq
        clear hq HJ
        go_wp2_with fail
        go_ret
        exact ⟨ret_str (by unfold sgOf; rw [HN.out]; rfl), rfl⟩
    · cases hq : pfx s ⟨#[46]⟩
      · have HN : Hid ((signL.take 10).find? (pfx s) = none) := find_miss (k := 9) HJ.out rfl hq
        clear hq HJ
        go_wp2_with fail
        exact ⟨⟨10, by decide, rfl, HN⟩, by decide⟩
      · have HN : Hid (signL.find? (pfx s) = some ⟨#[46]⟩) := find_hit (k := 9) HJ.out rfl hq
        clear hq HJ
        go_wp2_with fail
        go_ret
        exact ⟨ret_str (by unfold sgOf; rw [HN.out]; rfl), rfl⟩
    · cases hq : pfx s ⟨#[40]⟩
      · have HN : Hid ((signL.take 11).find? (pfx s) = none) := find_miss (k := 10) HJ.out rfl hq
        clear hq HJ
        go_wp2_with fail
        exact ⟨⟨11, by decide, rfl, HN⟩, by decide⟩
      · have HN : Hid (signL.find? (pfx s) = some ⟨#[40]⟩) := find_hit (k := 10) HJ.out rfl hq
        clear hq HJ
        go_wp2_with fail
        go_ret
        exact ⟨ret_str (by unfold sgOf; rw [HN.out]; rfl), rfl⟩
    · cases hq : pfx s ⟨#[41]⟩
      · have HN : Hid ((signL.take 12).find? (pfx s) = none) := find_miss (k := 11) HJ.out rfl hq
        clear hq HJ
        go_wp2_with fail
        exact ⟨⟨12, by decide, rfl, HN⟩, by decide⟩
      · have HN : Hid (signL.find? (pfx s) = some ⟨#[41]⟩) := find_hit (k := 11) HJ.out rfl hq
        clear hq HJ
        go_wp2_with fail
        go_ret
        exact ⟨ret_str (by unfold sgOf; rw [HN.out]; rfl), rfl⟩
end Go.Proofs.YtkgemeeadkfnhaaDoor
