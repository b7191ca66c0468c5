/-
  Walks: Add.
-/
import Derived.Test.YtofjjpkbildagaaW2
namespace Go.Proofs.Ytofjjpkbildagaa
open Go.RowKit

theorem info49 : (Try.prog.info? 59).map (fun i => (i.zero, i.size, i.bytes)) = some (some (.int .u32 0), 1, 4) := by kernel_rfl

theorem made_zero (n : Nat) : madeCells #[.int .u32 0] n = U (List.replicate n 0) := by
  apply Array.ext'
  rw [toList_madeCells_one]
  simp [U]

theorem run_mk (n : Nat) (hn : n ≤ 70368744177664) (u : World) : (Instr.makeSlice 46 (.int .i64 (n : Int)) (.int .i64 (n : Int))).run Try.prog u =
      .ok (.slice (some ⟨u.heap.size, 0, none⟩) n n) (u.alloc (.cells (U (List.replicate n 0)) 59)) := by
  obtain ⟨i0, hi, hz0, hz1, hz2⟩ := info_parts info49
  have h := run_make (P := Try.prog) u 46 59 i0 (.int .u32 0) Try.underlying46 hi hz0 .i64 .i64 (n : Int) (n : Int) (by omega) (Int.le_refl _) (by rw [hz2]; omega) (by omega)
  rw [Int.toNat_natCast] at h
  rw [← made_zero]
  simpa [hz1, Value.cells] using h

theorem run_mk' (n : Nat) (hn : n + 1 ≤ 70368744177664) (u : World) : (Instr.makeSlice 46 (.int .i64 ((n : Int) + 1)) (.int .i64 ((n : Int) + 1))).run Try.prog u =
      .ok (.slice (some ⟨u.heap.size, 0, none⟩) (n + 1) (n + 1)) (u.alloc (.cells (U (List.replicate (n + 1) 0)) 59)) := run_mk (n + 1) hn u

theorem row_alloc (w : World) (xs : List Int) : Row (w.alloc (.cells (U xs) 59)) w.heap.size xs := heap_alloc_new w _

theorem mask64 (x : Int) (h0 : 0 ≤ x) (h1 : x < 18446744073709551616) : bits .and .u64 x 4294967295 = x % 4294967296 := by
  rw [u64_and x 4294967295 h0 h1 (by decide) (by decide)]
  have e : (4294967295 : Int).toNat = 2 ^ 32 - 1 := by decide
  rw [e, Nat.and_two_pow_sub_one_eq_mod]
  omega

theorem below_set {w wr : World} (h : Below w.heap.size w wr) (k : Nat) (v : Value) : Below w.heap.size w (wr.setCell ⟨w.heap.size, k, none⟩ v) := h.setCell (Nat.le_refl _) v

theorem size_set (w : World) (a : Addr) (v : Value) : (w.setCell a v).heap.size = w.heap.size := by simp [World.setCell]

end Go.Proofs.Ytofjjpkbildagaa
