/-
 From what a law's argument slices read as to the walks' words; the world of a witness; the table of powers of ten.
-/
import Derived.Test.YtmlephkmbkiofaaGreatDoorCards
import Derived.Test.YtmlephkmbkiofaaGreatDoorTie
import Derived.Test.YtmlephkmbkiofaaGreatDoorR05
import Derived.ProofKit
import Derived.OpenShut
import Derived.ShutString
import Derived.ChangeOld
import Derived.Deep.DeepHandedRow
import Derived.Lib.LaidTab
import Derived.Stop.LaidErr
namespace Go.Proofs.YtmlephkmbkiofaaGreatDoor
open Go.ChangeShapes Go.WideShapes Go.ChangeAt Go.RowKit

theorem own : ownKnob Tryz.prog.godebug = none := by kernel_rfl
theorem laidOut : laidOutB Tryz.prog = true := by kernel_rfl
theorem gTab : Tryz.prog.globalNamed tabName = some 0 := by kernel_rfl
theorem gTabType : (Tryz.prog.globals[0]?).map (·.type) = some 113 := by kernel_rfl
theorem cellsTab : Tryz.prog.cellsOf 113 = 20 := by kernel_rfl
theorem cells64 : Tryz.prog.cellsOf 45 = 1 := by kernel_rfl
theorem cells32 : Tryz.prog.cellsOf 42 = 1 := by kernel_rfl

/-- what the rows' list gives -/
theorem tab_of {W : World} (h : laidMetH Tryz.prog Rows.zintDivisorsRow.laid W) : Tab W := by
 have h0 : laidMet Tryz.prog Rows.zintDivisorsRow.laid W := h
 exact Lib.tabIs_of_head (rest := []) gTab gTabType Tryz.underlying113 Tryz.underlying45 cells64 cellsTab h0.tail.tail

theorem wf32 {z : Int} (h : (Lit.int .u32 z).wf = true) : 0 ≤ z ∧ z < 4294967296 := by
 have := bounds_u32 h
 omega

theorem bulk_one {H : Type} (d : DataW H) : 1 ≤ Rows.uptoBulk d := by
 cases d with
 | lit l => cases l <;> simp [Rows.uptoBulk]
 | nil => simp [Rows.uptoBulk]
 | ptr d => simp [Rows.uptoBulk]
 | slice elems spare => simp [Rows.uptoBulk]
 | agg parts => simp [Rows.uptoBulk]
 | iface t d => simp [Rows.uptoBulk]
 | map entries => simp [Rows.uptoBulk]
 | held h => simp [Rows.uptoBulk]
theorem bulk_len {H : Type} (l : List (DataW H)) : l.length ≤ Rows.uptoBulkAll l := by
 induction l with
 | nil => simp [Rows.uptoBulkAll]
 | cons x r ih => have := bulk_one x; simp only [Rows.uptoBulkAll, List.length_cons]; omega
theorem bulk_slice {H : Type} (elems spare : List (DataW H)) : elems.length ≤ Rows.uptoBulk (.slice elems spare) := by
 have h1 := bulk_len elems
 simp only [Rows.uptoBulk]
 omega
theorem bulk_bound {H : Type} {l : List (DataW H)} (hk : Rows.uptoSmall H l = true) : Rows.uptoBulkAll l ≤ 1048576 := of_decide_eq_true hk

/-- a world for the witnesses: the tables hold what their initialisers lay -/
def tabCells : DataW Unit → Array Value
 | .agg l => (l.map fun d => match d with | .lit (.int k n) => Value.int k n | _ => undef).toArray
 | _ => #[]
def laidOn (W : World) : World :=
 { W with heap := ((W.heap.modify 0 fun o => match o with | .cells _ t frozen => .cells (tabCells Rows.laid_internal_strconv_uint64pow10) t frozen | o => o).modify 2 fun o => match o with
   | .cells _ t frozen => .cells (tabCells Rows.laid_math_bits_deBruijn32tab) t frozen
   | o => o).modify 3 fun o => match o with
   | .cells _ t frozen => .cells (tabCells Rows.laid_math_bits_deBruijn64tab) t frozen
   | o => o }

/-- a slice of limbs that came in, opened: a number; as many places as its bulk at the most -/
theorem open_nm {H : Type} {enc : TypeId × Value → H} {W : World} {a : Option Addr} {len cap : Nat} {d : DataW H} {p : List MemPlace} (h : DataW.Trod enc Tryz.prog W 0 (fun _ => true) true 24 (.slice a len cap) d p) :
  (∃ xs, Rd W a len cap xs) ∧ len ≤ Rows.uptoBulk d := by
 obtain ⟨fuel, hf⟩ := h
 rcases open_ints Tryz.underlying24 Tryz.underlying42 cells32 hf with ⟨hcs, hx⟩ | ⟨x, l, c, zs, hcs, _, hl, hm, hz, hx, hcell, hwz⟩
 ·simp [Value.cells] at hcs
  obtain ⟨rfl, rfl, rfl⟩ := hcs
  exact ⟨⟨[], rfl, Nat.le_refl _, by decide, fun _ h => (by cases h), .inl ⟨rfl, rfl, rfl⟩⟩, Nat.zero_le _⟩
 ·simp [Value.cells] at hcs
  obtain ⟨rfl, rfl, rfl⟩ := hcs
  have hzl : zs.length = cap := by simpa using hz
  refine ⟨⟨zs.take len, ?_⟩, ?_⟩
  ·refine ⟨by rw [List.length_take]; omega, hl, by unfold maxLen at hm; omega, fun z hz' => wf32 (hwz z (List.mem_of_mem_take hz')), .inr ⟨_, rfl, ?_⟩⟩
   rcases Nat.eq_zero_or_pos len with h0 | h0
   ·exact .inl h0
   ·obtain ⟨b, off, rfl, hc⟩ := ints_at hcell (by omega)
    refine .inr ⟨b, off, rfl, World.block_lt_of_cell? W ⟨b, off + 0, none⟩ (hc 0 (by omega)), fun i hi => ?_⟩
    rw [lz_take, if_pos hi]
    exact hc i (by omega)
  ·simp only [Prod.mk.injEq] at hx
   obtain ⟨rfl, _⟩ := hx
   have hb := bulk_slice (H := H) (lits .u32 (zs.take len)) (lits .u32 (zs.drop len))
   have hl2 : (lits (H := H) .u32 (zs.take len)).length = len := by simp only [lits, List.length_map, List.length_take]; omega
   omega
end Go.Proofs.YtmlephkmbkiofaaGreatDoor
