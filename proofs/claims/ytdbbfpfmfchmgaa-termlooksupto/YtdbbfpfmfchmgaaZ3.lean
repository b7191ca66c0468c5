/-
  Layer 2: division that is cut downwards.
-/
import Derived.Test.YtdbbfpfmfchmgaaZ2
namespace Go.Proofs.Ytdbbfpfmfchmgaa
open Go.RowKit

/-- q and r are the quotient, cut downwards, and what is left -/
def FD (a b q r : Int) : Prop := a = q * b + r ∧ ((0 ≤ r ∧ r < b) ∨ (b < r ∧ r ≤ 0))

theorem fd_same {s : Bool} {m n : Int} (hn : 0 < n) : FD (sg s m) (sg s n) (m / n) (sg s (m % n)) := by
  have h1 := Int.emod_add_mul_ediv m n
  have h2 := Int.emod_nonneg m (Int.ne_of_gt hn)
  have h3 := Int.emod_lt_of_pos m hn
  rw [Int.mul_comm] at h1
  cases s
  · exact ⟨by simp only [sg, Bool.false_eq_true, if_false]; omega, Or.inl ⟨by simpa [sg] using h2, by simpa [sg] using h3⟩⟩
  · refine ⟨?_, Or.inr ⟨by simp only [sg, if_true]; omega, by simp only [sg, if_true]; omega⟩⟩
    simp only [sg, if_true, Int.mul_neg]
    omega
theorem fd_zero {s1 s2 : Bool} {m n : Int} (hs : s1 ≠ s2) (hn : 0 < n) (h0 : m % n = 0) : FD (sg s1 m) (sg s2 n) (sg true (m / n)) (sg s2 (m % n)) := by
  have h1 := Int.emod_add_mul_ediv m n
  rw [Int.mul_comm, h0] at h1
  rw [h0]
  generalize m / n = k at *
  subst h1
  cases s1 <;> cases s2 <;> first | exact absurd rfl hs | (simp only [sg, if_true, if_false, Bool.false_eq_true, FD, Int.neg_mul, Int.mul_neg] at *; omega)
theorem fd_up {s1 s2 : Bool} {m n : Int} (hs : s1 ≠ s2) (hn : 0 < n) (h0 : m % n ≠ 0) : FD (sg s1 m) (sg s2 n) (sg true (m / n + 1)) (sg s2 (n - m % n)) := by
  have h1 := Int.emod_add_mul_ediv m n
  have h2 := Int.emod_nonneg m (Int.ne_of_gt hn)
  have h3 := Int.emod_lt_of_pos m hn
  rw [Int.mul_comm] at h1
  generalize m / n = k at *
  generalize m % n = j at *
  have e : (k + 1) * n = k * n + n := by rw [Int.add_mul, Int.one_mul]
  cases s1 <;> cases s2 <;> first | exact absurd rfl hs | (simp only [sg, if_true, if_false, Bool.false_eq_true, FD, Int.neg_mul, Int.mul_neg, e] at *; omega)

theorem results_c2t {P : Program} {fn : Func} {p1 p2 t3 : Tmp} {ty : TypeId} (h : fn.results = #[.cell p1 ty, .cell p2 ty, .tmp t3]) (tmps : Array Value) (w : World) (g1 g2 : Nat) (t : TypeId) (cs1 cs2 : Array Value) (fr : Nat × Nat) (d : TypeDesc)
    (hp1 : tmps.getD p1 undef = .pointer (some ⟨g1, 0, none⟩)) (hp2 : tmps.getD p2 undef = .pointer (some ⟨g2, 0, none⟩)) (hg1 : w.heap[g1]? = some (.cells cs1 t fr)) (hg2 : w.heap[g2]? = some (.cells cs2 t fr))
    (hu : P.underlying ty = some d) (hd : (match d with | .struct _ | .array _ _ => true | _ => false) = true) (hi1 : (P.info? ty).map (·.size) = some cs1.size) (hi2 : (P.info? ty).map (·.size) = some cs2.size) :
    (results fn tmps).run P w = .ok (.tuple #[.agg cs1, .agg cs2, tmps.getD t3 undef]) w := by
  have hp1' : tmps[p1]?.getD undef = .pointer (some ⟨g1, 0, none⟩) := by simpa using hp1
  have hp2' : tmps[p2]?.getD undef = .pointer (some ⟨g2, 0, none⟩) := by simpa using hp2
  simp [results, h, hp1', hp2', asAddr, run_loadVar_row w g1 t ty cs1 fr d hg1 hu hd hi1, run_loadVar_row w g2 t ty cs2 fr d hg2 hu hd hi2]

end Go.Proofs.Ytdbbfpfmfchmgaa
