/-
 From what a law of layer 3 lists to the walks' words; the world of a witness.
-/
import Derived.Test.YtgpaajolcpgeaaaGreatDoorCards
import Derived.Test.YtgpaajolcpgeaaaGreatDoorTie
import Derived.Test.YtgpaajolcpgeaaaGreatDoorSrd07
import Derived.ProofKit
import Derived.OpenShut
import Derived.ShutString
import Derived.ChangeOld
import Derived.Deep.DeepHandedRow
import Derived.Lib.LaidTab
import Derived.Stop.LaidErr
namespace Go.Proofs.YtgpaajolcpgeaaaGreatDoor
open Go.ChangeShapes Go.WideShapes Go.ChangeAt Go.RowKit

theorem own : ownKnob Tryz.prog.godebug = none := by kernel_rfl
theorem laidOut : laidOutB Tryz.prog = true := by kernel_rfl
theorem gSgn : Tryz.prog.globalNamed "riddle/lex.signs" = some 1 := by kernel_rfl
theorem gSgnType : (Tryz.prog.globals[1]?).map (·.type) = some 199 := by kernel_rfl
theorem cellsSgn : Tryz.prog.cellsOf 199 = 12 := by kernel_rfl
theorem cellsStr : Tryz.prog.cellsOf 9 = 1 := by kernel_rfl

/-- an array of texts that reads as listed holds those texts, cell for cell -/
theorem cells_of_texts {H : Type} {enc : TypeId × Value → H} {P : Program} {w : World} {base : Nat} {sp : Nat → Bool} {held : Bool} {fuel : Nat} {t e : TypeId} {n : Nat} {cs : List Value} {zs : List (List UInt8)} {p : List MemPlace}
  (ht : P.underlying t = some (.array n e)) (he : P.underlying e = some .string) (hce : P.cellsOf e = 1) (hct : P.cellsOf t = n)
  (h : DataW.trod enc P w base sp held fuel t cs = some (.agg (zs.map fun z => .lit (.string z)), p)) : cs = zs.map fun z => Value.string ⟨z.toArray⟩ := by
 cases fuel with
 | zero => simp [DataW.trod] at h
 | succ fuel =>
  simp only [DataW.trod, ht, hce, hct, Nat.mul_one] at h
  split at h
  ·rename_i hl
   obtain ⟨xs, hm, hx⟩ := Option.map_eq_some_iff.1 h
   have hxs : xs.map (·.1) = zs.map fun z => (DataW.lit (.string z) : DataW H) := by
    have := congrArg Prod.fst hx
    simpa using this
   have hxl : xs.length = n := by simpa using Lib.mapM_length hm
   have hzl : zs.length = n := by
    have := congrArg List.length hxs
    simp at this
    omega
   apply List.ext_getElem?
   intro i
   by_cases hi : i < n
   ·obtain ⟨b, hb, hf⟩ := Lib.mapM_at hm i i (by simp [hi])
    obtain ⟨z, hc, hb2, _⟩ := DataW.trod_string he hf
    have h1 : cs[i]? = some (.string z) := by
     have := congrArg (·[0]?) hc
     simpa [List.getElem?_take, List.getElem?_drop] using this
    have h2 : (xs.map (·.1))[i]? = some (DataW.lit (.string z.data.toList) : DataW H) := by simp [hb, hb2]
    rw [hxs] at h2
    simp only [List.getElem?_map, Option.map_eq_some_iff, DataW.lit.injEq, Lit.string.injEq] at h2
    obtain ⟨z', hz', e2⟩ := h2
    rw [h1, List.getElem?_map, hz', Option.map_some, e2]
   ·rw [List.getElem?_eq_none (by omega), List.getElem?_eq_none (by simp; omega)]
  ·cases h

/-- what the rows' list gives -/
theorem sgn_of {W : World} {rest : List (String × DataW Unit)} (h : laidMet Tryz.prog (("riddle/lex.signs", Rows.laid_riddle_lex_signs) :: rest) W) : Sgn W := by
 obtain ⟨ps, ⟨g', t', cs, fuel, p, q, hg', ht', hvar, hd, _, _⟩, _⟩ := h
 obtain rfl := Option.some.inj (gSgn.symm.trans hg')
 obtain rfl := Option.some.inj (gSgnType.symm.trans ht')
 have hcs := cells_of_texts (zs := [[60, 61], [62, 61], [33, 61], [60], [62], [61], [43], [45], [42], [46], [40], [41]]) Tryz.underlying199 Tryz.underlying9 cellsStr cellsSgn hd
 unfold World.var? at hvar
 rw [gSgn, Option.bind_some] at hvar
 split at hvar
 ·rename_i cs' ty fr hh
  obtain rfl := Option.some.inj hvar
  refine ⟨ty, fr, ?_⟩
  rw [hh]
  have e : cs' = (cs'.toList).toArray := by simp
  rw [e, hcs]
  rfl
 ·cases hvar

theorem bulk_bound {H : Type} {l : List (DataW H)} (hk : Rows.uptoSmall H l = true) : Rows.uptoBulkAll l ≤ 1048576 := of_decide_eq_true hk

/-- a world for the witnesses: the variable holds what its initialiser lays -/
def textCells : DataW Unit → Array Value
 | .agg l => (l.map fun d => match d with | .lit (.string z) => Value.string ⟨z.toArray⟩ | _ => undef).toArray
 | _ => #[]
end Go.Proofs.YtgpaajolcpgeaaaGreatDoor
