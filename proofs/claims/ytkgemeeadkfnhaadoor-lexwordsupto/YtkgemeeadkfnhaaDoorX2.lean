/-
  Layer 3: kinds of rows, signs, words.
-/
import Derived.Test.YtkgemeeadkfnhaaDoorX1
namespace Go.Proofs.YtkgemeeadkfnhaaDoor
open Go.RowKit

/-- is a text one of the ten words? -/
def tenB (s : ByteArray) : Bool := (s.toList == [97, 110, 100]) || (s.toList == [111, 114]) || (s.toList == [110, 111, 116]) || (s.toList == [105, 109, 112, 108, 105, 101, 115]) || (s.toList == [105, 102, 102]) || (s.toList == [115, 111, 109, 101]) || (s.toList == [97, 108, 108]) || (s.toList == [116, 114, 117, 101]) || (s.toList == [102, 97, 108, 115, 101]) || (s.toList == [100, 105, 118, 105, 100, 101, 115])
/-- the kind of a row that begins with a letter -/
def kd (s : ByteArray) : Int := if tenB s then 3 else if 24 < s.size then 0 else 2

set_option maxRecDepth 100000 in
set_option maxHeartbeats 1600000 in
theorem kindOf_n (s : ByteArray) (w : World) (hs : s.size ≤ 1099511627776) :
    Calls Tryd.prog 21 #[.string s] w fun e w' => e = .returned (.int .i64 (kd s)) ∧ w = w' := by
  have HK : Hid (kd s = if tenB s then 3 else if 24 < s.size then 0 else 2) := rfl
  have HT : Hid (tenB s = ((s.toList == [97, 110, 100]) || (s.toList == [111, 114]) || (s.toList == [110, 111, 116]) || (s.toList == [105, 109, 112, 108, 105, 101, 115]) || (s.toList == [105, 102, 102]) || (s.toList == [115, 111, 109, 101]) || (s.toList == [97, 108, 108]) || (s.toList == [116, 114, 117, 101]) || (s.toList == [102, 97, 108, 115, 101]) || (s.toList == [100, 105, 118, 105, 100, 101, 115]))) := rfl
  cases h0 : (s.toList == [97, 110, 100])
  case true =>
    have HC : Hid (kd s = 3) := by show _ = _; rw [HK.out, HT.out, h0]; simp
    clear HK HT
    go_enter Tryd.func21, Tryd.ntmps21
    go_wp2
    go_ret
    exact ⟨ret_int HC.out.symm, rfl⟩
  cases h1 : (s.toList == [111, 114])
  case true =>
    have HC : Hid (kd s = 3) := by show _ = _; rw [HK.out, HT.out, h0, h1]; simp
    clear HK HT
    go_enter Tryd.func21, Tryd.ntmps21
    go_wp2
    go_ret
    exact ⟨ret_int HC.out.symm, rfl⟩
  cases h2 : (s.toList == [110, 111, 116])
  case true =>
    have HC : Hid (kd s = 3) := by show _ = _; rw [HK.out, HT.out, h0, h1, h2]; simp
    clear HK HT
    go_enter Tryd.func21, Tryd.ntmps21
    go_wp2
    go_ret
    exact ⟨ret_int HC.out.symm, rfl⟩
  cases h3 : (s.toList == [105, 109, 112, 108, 105, 101, 115])
  case true =>
    have HC : Hid (kd s = 3) := by show _ = _; rw [HK.out, HT.out, h0, h1, h2, h3]; simp
    clear HK HT
    go_enter Tryd.func21, Tryd.ntmps21
    go_wp2
    go_ret
    exact ⟨ret_int HC.out.symm, rfl⟩
  cases h4 : (s.toList == [105, 102, 102])
  case true =>
    have HC : Hid (kd s = 3) := by show _ = _; rw [HK.out, HT.out, h0, h1, h2, h3, h4]; simp
    clear HK HT
    go_enter Tryd.func21, Tryd.ntmps21
    go_wp2
    go_ret
    exact ⟨ret_int HC.out.symm, rfl⟩
  cases h5 : (s.toList == [115, 111, 109, 101])
  case true =>
    have HC : Hid (kd s = 3) := by show _ = _; rw [HK.out, HT.out, h0, h1, h2, h3, h4, h5]; simp
    clear HK HT
    go_enter Tryd.func21, Tryd.ntmps21
    go_wp2
    go_ret
    exact ⟨ret_int HC.out.symm, rfl⟩
  cases h6 : (s.toList == [97, 108, 108])
  case true =>
    have HC : Hid (kd s = 3) := by show _ = _; rw [HK.out, HT.out, h0, h1, h2, h3, h4, h5, h6]; simp
    clear HK HT
    go_enter Tryd.func21, Tryd.ntmps21
    go_wp2
    go_ret
    exact ⟨ret_int HC.out.symm, rfl⟩
  cases h7 : (s.toList == [116, 114, 117, 101])
  case true =>
    have HC : Hid (kd s = 3) := by show _ = _; rw [HK.out, HT.out, h0, h1, h2, h3, h4, h5, h6, h7]; simp
    clear HK HT
    go_enter Tryd.func21, Tryd.ntmps21
    go_wp2
    go_ret
    exact ⟨ret_int HC.out.symm, rfl⟩
  cases h8 : (s.toList == [102, 97, 108, 115, 101])
  case true =>
    have HC : Hid (kd s = 3) := by show _ = _; rw [HK.out, HT.out, h0, h1, h2, h3, h4, h5, h6, h7, h8]; simp
    clear HK HT
    go_enter Tryd.func21, Tryd.ntmps21
    go_wp2
    go_ret
    exact ⟨ret_int HC.out.symm, rfl⟩
  cases h9 : (s.toList == [100, 105, 118, 105, 100, 101, 115])
  case true =>
    have HC : Hid (kd s = 3) := by show _ = _; rw [HK.out, HT.out, h0, h1, h2, h3, h4, h5, h6, h7, h8, h9]; simp
    clear HK HT
    go_enter Tryd.func21, Tryd.ntmps21
    go_wp2
    go_ret
    exact ⟨ret_int HC.out.symm, rfl⟩
  have HC : Hid (kd s = if 24 < s.size then 0 else 2) := by show _ = _; rw [HK.out, HT.out, h0, h1, h2, h3, h4, h5, h6, h7, h8, h9]; simp
  clear HK HT
  by_cases hl : 24 < s.size
  · rw [if_pos hl] at HC
    go_enter Tryd.func21, Tryd.ntmps21
    go_wp2
    go_ret
    exact ⟨ret_int HC.out.symm, rfl⟩
  · rw [if_neg hl] at HC
    go_enter Tryd.func21, Tryd.ntmps21
    go_wp2
    go_ret
    exact ⟨ret_int HC.out.symm, rfl⟩
end Go.Proofs.YtkgemeeadkfnhaaDoor
