/-
 From what a law's arguments of the types []api.Int, []riddleref18.Make read as to the walks' words.
-/
import Derived.Test.YtmiannlcfommpaaRows
import Derived.Test.YtmiannlcfommpaaCno14
import Derived.ProofKit
import Derived.OpenShut
import Derived.JoinedCond
import Derived.Carry
import Derived.Lib.SmallJoins
import Derived.Deep.Slices
import Derived.Deep.Strs
namespace Go.Proofs.Ytmiannlcfommpaa.Fp
open Go.ChangeShapes Go.WideShapes Go.ChangeAt Go.RowKit Go.Joins Go.Deep Go.Proofs.Ytmiannlcfommpaa.Pd

theorem own : ownKnob Try.prog.godebug = none := by kernel_rfl
theorem cells32 : Try.prog.cellsOf 79 = 1 := by kernel_rfl
theorem cellsInt : Try.prog.cellsOf 36 = 2 := by kernel_rfl
theorem cellsB : Try.prog.cellsOf 4 = 1 := by kernel_rfl
theorem cellsM : Try.prog.cellsOf 34 = 1 := by kernel_rfl

theorem wf32 {z : Int} (h : (Lit.int .u32 z).wf = true) : 0 ≤ z ∧ z < 4294967296 := by
 have := bounds_u32 h
 omega
theorem bulk_one {H : Type} (d : DataW H) : 1 ≤ Rows.uptoBulk d := by
 cases d with
 | lit l => cases l <;> simp [Rows.uptoBulk]
 | nil => simp [Rows.uptoBulk]
 | ptr d => simp [Rows.uptoBulk]
 | slice elems spare => simp [Rows.uptoBulk]
 | agg parts => simp [Rows.uptoBulk]
 | iface t d => simp [Rows.uptoBulk]
 | map entries => simp [Rows.uptoBulk]
 | held h => simp [Rows.uptoBulk]
theorem bulk_len {H : Type} (l : List (DataW H)) : l.length ≤ Rows.uptoBulkAll l := by
 induction l with
 | nil => simp [Rows.uptoBulkAll]
 | cons x r ih => have := bulk_one x; simp only [Rows.uptoBulkAll, List.length_cons]; omega
theorem bulk_slice {H : Type} (elems spare : List (DataW H)) : elems.length ≤ Rows.uptoBulk (.slice elems spare) := by
 have h1 := bulk_len elems
 simp only [Rows.uptoBulk]
 omega
theorem bulk_bound {H : Type} {l : List (DataW H)} (hk : Rows.uptoSmall H l = true) : Rows.uptoBulkAll l ≤ 1048576 := of_decide_eq_true hk
theorem laidOut : laidOutB Try.prog = true := by kernel_rfl

theorem open_nm {H : Type} {enc : TypeId × Value → H} {W : World} {a : Option Addr} {len cap : Nat} {d : DataW H} {p : List MemPlace} (h : DataW.Trod enc Try.prog W 0 (fun _ => true) true 34 (.slice a len cap) d p) :
  (∃ xs, Rd W a len cap xs) ∧ len ≤ Rows.uptoBulk d := by
 obtain ⟨fuel, hf⟩ := h
 rcases open_ints Try.underlying34 Try.underlying79 cells32 hf with ⟨hcs, hx⟩ | ⟨x, l, c, zs, hcs, _, hl, hm, hz, hx, hcell, hwz⟩
 ·simp [Value.cells] at hcs
  obtain ⟨rfl, rfl, rfl⟩ := hcs
  exact ⟨⟨[], rfl, Nat.le_refl _, by decide, fun _ h => (by cases h), .inl ⟨rfl, rfl, rfl⟩⟩, Nat.zero_le _⟩
 ·simp [Value.cells] at hcs
  obtain ⟨rfl, rfl, rfl⟩ := hcs
  have hzl : zs.length = cap := by simpa using hz
  refine ⟨⟨zs.take len, ?_⟩, ?_⟩
  ·refine ⟨by rw [List.length_take]; omega, hl, by unfold maxLen at hm; omega, fun z hz' => wf32 (hwz z (List.mem_of_mem_take hz')), .inr ⟨_, rfl, ?_⟩⟩
   rcases Nat.eq_zero_or_pos len with h0 | h0
   ·exact .inl h0
   ·obtain ⟨b, off, rfl, hc⟩ := ints_at hcell (by omega)
    refine .inr ⟨b, off, rfl, World.block_lt_of_cell? W ⟨b, off + 0, none⟩ (hc 0 (by omega)), fun i hi => ?_⟩
    rw [lz_take, if_pos hi]
    exact hc i (by omega)
  ·simp only [Prod.mk.injEq] at hx
   obtain ⟨rfl, _⟩ := hx
   have hb := bulk_slice (H := H) (lits .u32 (zs.take len)) (lits .u32 (zs.drop len))
   have hl2 : (lits (H := H) .u32 (zs.take len)).length = len := by simp only [lits, List.length_map, List.length_take]; omega
   omega


set_option maxRecDepth 100000 in
/-- a number in cells -/
theorem open_zc {H : Type} {enc : TypeId × Value → H} {W : World} {n : Nat} {v0 v1 : Value} {x : DataW H × List MemPlace} (h : DataW.trod enc Try.prog W 0 (fun _ => true) true n 36 [v0, v1] = some x) :
  ∃ s a l c z, v0 = .bool s ∧ v1 = .slice a l c ∧ Zm W s a l c z ∧ l ≤ Rows.uptoBulk x.1 := by
 obtain ⟨y0, y1, m, rfl, _, h0, h1⟩ := trod_struct2 Try.underlying36 h
 simp [cellsB, cellsM] at h0 h1
 obtain ⟨a, len, cap, hs⟩ := slice_form Try.underlying34 h1
 obtain ⟨b, hb, -⟩ := DataW.trod_bool Try.underlying4 h0
 simp at hs hb
 subst hs hb
 obtain ⟨⟨xs, hr⟩, hk⟩ := open_nm (d := y1.1) (p := y1.2) ⟨m, by simpa [Value.cells] using h1⟩
 refine ⟨b, a, len, cap, _, rfl, rfl, ⟨_, ⟨xs, hr, rfl⟩, rfl⟩, ?_⟩
 simp only [Rows.uptoBulk, Rows.uptoBulkAll]
 omega

set_option maxRecDepth 100000 in
/-- a number -/
theorem open_zi {H : Type} {enc : TypeId × Value → H} {W : World} {base : Nat} {v : Value} {d : DataW H} {p : List MemPlace} (hv : Value.okWide Try.prog W .any base 36 v) (h : DataW.Trod enc Try.prog W 0 (fun _ => true) true 36 v d p) :
  ∃ s a len cap z, v = .agg #[.bool s, .slice a len cap] ∧ Zm W s a len cap z ∧ len ≤ Rows.uptoBulk d := by
 obtain ⟨cs, rfl, hsz⟩ := okWide_struct Try.underlying36 hv
 obtain ⟨c0, c1, rfl⟩ := array2 (hsz.trans cellsInt)
 obtain ⟨fuel, hf⟩ := h
 obtain ⟨s, a, l, c, z, rfl, rfl, hz, hl⟩ := open_zc (x := (d, p)) (by simpa [Value.cells] using hf)
 exact ⟨s, a, l, c, z, rfl, hz, hl⟩
end Go.Proofs.Ytmiannlcfommpaa.Fp
