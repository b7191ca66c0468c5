/-
  Walks: a number's digits (strconv.FormatUint at base 10), and what the texts take of the library by its contracts.
-/
import Derived.Test.YtdbbfpfmfchmgaaRows
import Derived.Test.YtdbbfpfmfchmgaaSh
import Derived.Test.YtdbbfpfmfchmgaaJ0
import Derived.Lib.ItoaMem
import Derived.BigCall
import Derived.BigGuard
namespace Go.Proofs.Ytdbbfpfmfchmgaa
open Go.RowKit Go.Sort

/-- the table of the powers of ten that the library lays -/
def tabName : String := Rows.termStandsRow.named.headD (default : String)
def Tab (w : World) : Prop := Lib.TabIs Try.prog w tabName .u64 Lib.pow10Tab

theorem Tab.below {w w' : World} (h : Tab w) (hb : Below w.heap.size w w') : Tab w' := by
  unfold Tab Lib.TabIs World.var? at *
  cases hg : Try.prog.globalNamed tabName with
  | none => simp [hg] at h
  | some g =>
    simp only [hg, Option.bind_some] at h ⊢
    have hlt : g < w.heap.size := by
      rcases Nat.lt_or_ge g w.heap.size with h' | h'
      · exact h'
      · rw [Array.getElem?_eq_none h'] at h; simp at h
    rw [hb.block g hlt]
    exact h

/-- the new block's bytes are a row of zeros -/
theorem holds_zero0 (w : World) (T : TypeId) (nd : Nat) (hs : nd ≤ 24) : Holds (fun (b : UInt8) => Value.int .u8 (b.toNat : Int)) (w.alloc (.cells Lib.zeros24 T)) w.heap.size 0 (Array.replicate nd (0 : UInt8)) := fun j hj => by
  have hj' : j < nd := by simpa using hj
  refine ⟨?_, World.frozen?_alloc_new _ _ _ _⟩
  rw [World.cell?_alloc_new, Lib.zeros24_at _ (by omega), getElem!_pos _ j hj]
  simp

theorem fin_put (w : World) (o : Obj) (dk : Array UInt8) (k : Nat) : Below w.heap.size w ((putRow (fun (b : UInt8) => Value.int .u8 (b.toNat : Int)) (w.alloc o) w.heap.size 0 dk).drewN k) := by
  have h1 : Below w.heap.size w (w.alloc o) := (Below.refl _ _).alloc (Nat.le_refl _) _
  have h2 : Below w.heap.size (w.alloc o) (putRow (fun (b : UInt8) => Value.int .u8 (b.toNat : Int)) (w.alloc o) w.heap.size 0 dk) := by
    refine ⟨rfl, rfl, rfl, ?_, ?_⟩
    · simp [putRow, mapBlock]
    · intro i hi
      simp only [putRow, mapBlock, Array.getElem?_modify]
      rw [if_neg (by omega)]
  exact (h1.trans h2).trans (below_drewN _ _ _)

end Go.Proofs.Ytdbbfpfmfchmgaa
