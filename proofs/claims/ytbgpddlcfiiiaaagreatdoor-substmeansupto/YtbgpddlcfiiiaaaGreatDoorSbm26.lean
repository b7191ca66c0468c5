/-
 From what a law's argument slices read as to the walks' words; the world of a witness; the table of powers of ten.
-/
import Derived.Test.YtbgpddlcfiiiaaaGreatDoorCards
import Derived.Test.YtbgpddlcfiiiaaaGreatDoorTie
import Derived.Test.YtbgpddlcfiiiaaaGreatDoorSbm11
import Derived.ProofKit
import Derived.OpenShut
import Derived.ShutString
import Derived.ChangeOld
import Derived.Deep.DeepHandedRow
import Derived.Lib.LaidTab
import Derived.Stop.LaidErr
namespace Go.Proofs.YtbgpddlcfiiiaaaGreatDoor
open Go.ChangeShapes Go.WideShapes Go.ChangeAt Go.RowKit

theorem own :ownKnob Tryz.prog.godebug=none:=by kernel_rfl
theorem laidOut :laidOutB Tryz.prog=true:=by kernel_rfl
theorem gTab :Tryz.prog.globalNamed tabName=some 0:=by kernel_rfl
theorem gTabType :(Tryz.prog.globals[0]?).map (·.type)=some 253:=by kernel_rfl
theorem cellsTab :Tryz.prog.cellsOf 253=20:=by kernel_rfl
theorem cells64 :Tryz.prog.cellsOf 125=1:=by kernel_rfl
theorem tab_of {W:World}(h:laidMetH Tryz.prog Rows.substMeansRow.laid W):Tab W:=by
 have h0:laidMet Tryz.prog Rows.substMeansRow.laid W:=h
 exact Lib.tabIs_of_head (rest:=[]) gTab gTabType Tryz.underlying253 Tryz.underlying125 cells64 cellsTab h0.tail.tail

theorem bulk_bound {H:Type}{l:List (DataW H)}(hk:Rows.uptoSmall H l=true):Rows.uptoBulkAll l≤1048576:=of_decide_eq_true hk

def tabCells :DataW Unit→Array Value
 | .agg l=>(l.map fun d=>match d with| .lit (.int k n)=>Value.int k n|_=>undef).toArray
 |_=> #[]
def laidOn (W:World):World:=
 {W with heap:=((W.heap.modify 0 fun o=>match o with| .cells _ t frozen=> .cells (tabCells Rows.laid_internal_strconv_uint64pow10) t frozen|o=>o).modify 1 fun o=>match o with
   | .cells _ t frozen=> .cells (tabCells Rows.laid_math_bits_deBruijn32tab) t frozen
   |o=>o).modify 2 fun o=>match o with
   | .cells _ t frozen=> .cells (tabCells Rows.laid_math_bits_deBruijn64tab) t frozen
   |o=>o}

end Go.Proofs.YtbgpddlcfiiiaaaGreatDoor
