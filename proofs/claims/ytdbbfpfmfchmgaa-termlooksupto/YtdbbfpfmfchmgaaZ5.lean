/-
  Layer 2: texts; 'awake'.
-/
import Derived.Test.YtdbbfpfmfchmgaaZ3
import Derived.Test.YtdbbfpfmfchmgaaZ4
namespace Go.Proofs.Ytdbbfpfmfchmgaa
open Go.RowKit

/-- the text of a number -/
def zText (z : Int) : ByteArray := if z < 0 then ⟨#[45]⟩ ++ ⟨(Lib.decDigits (-z).toNat).toArray⟩ else ⟨(Lib.decDigits z.toNat).toArray⟩

theorem dec_bound {w : World} {a : Option Addr} {l c : Nat} {n : Int} (h : Nm w a l c n) : (Lib.decDigits n.toNat).length ≤ 10 * (l + 1) := by
  obtain ⟨zs, h1, rfl⟩ := h
  refine dec_length_le _ _ ?_ (by omega)
  have hv := (vl_bd h1.2.2.2.1 zs.length).2
  have h0 := val_nonneg h1.2.2.2.1
  have hp : ∀ k, pw k ≤ ((10 ^ (10 * k) : Nat) : Int) := by
    intro k
    induction k with
    | zero => decide
    | succ k ih =>
      rw [pw_succ, show 10 * (k + 1) = 10 * k + 10 from by omega, Nat.pow_add]
      have : (0 : Int) ≤ ((10 ^ (10 * k) : Nat) : Int) := Int.natCast_nonneg _
      rw [Int.natCast_mul]
      have e : ((10 ^ 10 : Nat) : Int) = 10000000000 := by decide
      rw [e]
      omega
  have h2 := hp (l + 1)
  have h3 : pw zs.length ≤ pw (l + 1) := pw_mono (by have := h1.1; omega)
  have hvl : val zs < pw (l + 1) := Int.lt_of_lt_of_le hv h3
  omega

/-- does a text begin with a minus? -/
def cutB (s : ByteArray) : Bool := decide (0 < s.size) && ((s.extract 0 1).toList == [45])

def cutR (s : ByteArray) : ByteArray := if cutB s then s.extract 1 s.size else s

theorem results_ct {P : Program} {fn : Func} {p1 t3 : Tmp} {ty : TypeId} (h : fn.results = #[.cell p1 ty, .tmp t3]) (tmps : Array Value) (w : World) (g1 : Nat) (t : TypeId) (cs1 : Array Value) (fr : Nat × Nat) (d : TypeDesc)
    (hp1 : tmps.getD p1 undef = .pointer (some ⟨g1, 0, none⟩)) (hg1 : w.heap[g1]? = some (.cells cs1 t fr))
    (hu : P.underlying ty = some d) (hd : (match d with | .struct _ | .array _ _ => true | _ => false) = true) (hi1 : (P.info? ty).map (·.size) = some cs1.size) :
    (results fn tmps).run P w = .ok (.tuple #[.agg cs1, tmps.getD t3 undef]) w := by
  have hp1' : tmps[p1]?.getD undef = .pointer (some ⟨g1, 0, none⟩) := by simpa using hp1
  simp [results, h, hp1', asAddr, run_loadVar_row w g1 t ty cs1 fr d hg1 hu hd hi1]

end Go.Proofs.Ytdbbfpfmfchmgaa
