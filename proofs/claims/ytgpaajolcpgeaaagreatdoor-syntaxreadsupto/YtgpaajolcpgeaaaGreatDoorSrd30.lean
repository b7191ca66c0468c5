/-
 From what a law of layer 4 lists to the walks' words; the world of a witness.
-/
import Derived.Test.YtgpaajolcpgeaaaGreatDoorSrd18
import Derived.Test.YtgpaajolcpgeaaaGreatDoorSrd13
import Derived.Test.YtgpaajolcpgeaaaGreatDoorSrd06
namespace Go.Proofs.YtgpaajolcpgeaaaGreatDoor
open Go.ChangeShapes Go.WideShapes Go.ChangeAt Go.RowKit
namespace Sx

theorem gTab4 : Tryz.prog.globalNamed tabName = some 2 := by kernel_rfl
theorem gTabType4 : (Tryz.prog.globals[2]?).map (·.type) = some 232 := by kernel_rfl
theorem cellsTab4 : Tryz.prog.cellsOf 232 = 20 := by kernel_rfl
theorem cells644 : Tryz.prog.cellsOf 167 = 1 := by kernel_rfl
/-- the variable of the kinds' words -/
def woName : String := (Rows.syntaxParseRow.named.drop 1).headD default
theorem gWo : Tryz.prog.globalNamed woName = some 0 := by kernel_rfl
theorem gWoType : (Tryz.prog.globals[0]?).map (·.type) = some 156 := by kernel_rfl
theorem cellsWo : Tryz.prog.cellsOf 156 = 23 := by kernel_rfl
/-- the words of the kinds, as they are laid -/
def woL : List (List UInt8) := [[], [], [], [45], [43], [45], [42], [116, 114, 117, 101], [102, 97, 108, 115, 101], [60], [60, 61], [61], [33, 61], [62, 61], [62], [100, 105, 118, 105, 100, 101, 115], [110, 111, 116], [97, 110, 100], [111, 114], [105, 109, 112, 108, 105, 101, 115], [105, 102, 102], [115, 111, 109, 101], [97, 108, 108]]
theorem wo_of {W : World} {rest : List (String × DataW Unit)} (h : laidMet Tryz.prog ((woName, Rows.laid_riddle_syntax_wordOf) :: rest) W) : Wo W := by
 obtain ⟨ps, ⟨g', t', cs, fuel, p, q, hg', ht', hvar, hd, _, _⟩, _⟩ := h
 obtain rfl := Option.some.inj (gWo.symm.trans hg')
 obtain rfl := Option.some.inj (gWoType.symm.trans ht')
 have hcs := cells_of_texts (zs := woL) Tryz.underlying156 Tryz.underlying9 cellsStr cellsWo hd
 unfold World.var? at hvar
 rw [gWo, Option.bind_some] at hvar
 split at hvar
 ·rename_i cs' ty fr hh
  obtain rfl := Option.some.inj hvar
  refine ⟨ty, fr, ?_⟩
  rw [hh]
  have e : cs' = (cs'.toList).toArray := by simp
  rw [e, hcs]
  rfl
 ·cases hvar
/-- what the rows' list gives -/
theorem laid4 {W : World} (h : laidMetH Tryz.prog Rows.syntaxParseRow.laid W) : Sgn W ∧ Wo W ∧ Tab W := by
 have h0 : laidMet Tryz.prog Rows.syntaxParseRow.laid W := h
 refine ⟨sgn_of (rest := [(woName, Rows.laid_riddle_syntax_wordOf)]) h0.tail.tail.tail, wo_of (rest := []) h0.tail.tail.tail.tail, ?_⟩
 exact Lib.tabIs_of_head (rest := [((Rows.syntaxParseRow.named).headD default, Rows.laid_riddle_lex_signs), (woName, Rows.laid_riddle_syntax_wordOf)]) gTab4 gTabType4 Tryz.underlying232 Tryz.underlying167 cells644 cellsTab4 h0.tail.tail
/-- a world for the witnesses: the variables hold what their initialisers lay -/
def tabCells4 : DataW Unit → Array Value
 | .agg l => (l.map fun d => match d with | .lit (.int k n) => Value.int k n | _ => undef).toArray
 | .lit (.string z) => (z.map fun b => Value.int .u8 b.toNat).toArray
 | _ => #[]
def lay4 (g : Nat) (cs : Array Value) (W : World) : World :=
 { W with heap := W.heap.modify g fun o => match o with | .cells _ t frozen => .cells cs t frozen | o => o }
def laidOn4 (W : World) : World :=
 lay4 4 (tabCells4 Rows.laid_math_bits_deBruijn32tab) (lay4 5 (tabCells4 Rows.laid_math_bits_deBruijn64tab) (lay4 2 (tabCells4 Rows.laid_internal_strconv_uint64pow10) (lay4 1 (textCells Rows.laid_riddle_lex_signs) (lay4 0 (textCells Rows.laid_riddle_syntax_wordOf) W))))
end Sx
end Go.Proofs.YtgpaajolcpgeaaaGreatDoor
