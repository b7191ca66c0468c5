/-
 Walks: a number's digits (strconv.FormatUint at base 10),and what the texts take of the library by its contracts.
-/
import Derived.Test.YtbgpddlcfiiiaaaGreatDoorRows
import Derived.Test.YtbgpddlcfiiiaaaGreatDoorSbm04
import Derived.Test.YtbgpddlcfiiiaaaGreatDoorSbm01
import Derived.Lib.ItoaMem
import Derived.BigCall
import Derived.BigGuard
namespace Go.Proofs.YtbgpddlcfiiiaaaGreatDoor
open Go.RowKit Go.Sort

def tabName :String:=Rows.substMeansRow.named.headD (default:String)
def Tab (w:World):Prop:=Lib.TabIs Tryz.prog w tabName .u64 Lib.pow10Tab

theorem Tab.below {w w':World}(h:Tab w)(hb:Below w.heap.size w w'):Tab w':=by
 unfold Tab Lib.TabIs World.var? at*
 cases hg:Tryz.prog.globalNamed tabName with
 |none=>simp[hg]at h
 |some g=>
  simp only[hg,Option.bind_some]at h ⊢
  have hlt:g<w.heap.size:=by
   rcases Nat.lt_or_ge g w.heap.size with h'|h'
   ·exact h'
   rw[Array.getElem?_eq_none h']at h;simp at h
  rw[hb.block g hlt]
  exact h

end Go.Proofs.YtbgpddlcfiiiaaaGreatDoor
