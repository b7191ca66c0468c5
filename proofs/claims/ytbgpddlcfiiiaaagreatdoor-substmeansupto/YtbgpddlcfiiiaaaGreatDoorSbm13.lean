/-
 Several texts in one: R1,R3,R5,R6.
-/
import Derived.Test.YtbgpddlcfiiiaaaGreatDoorSbm11
import Derived.Laws.CopyOwn
namespace Go.Proofs.YtbgpddlcfiiiaaaGreatDoor
open Go.RowKit




theorem vl_cons (x:Int)(zs:List Int)(n:Nat):vl (x::zs) (n+1)=x+4294967296*vl zs n:=by
 induction n with
 |zero=>simp[vl,lz,pw]
 |succ n ih=>
  rw[vl_succ (x::zs) (n+1),ih,vl_succ zs n,pw_succ]
  have e:lz (x::zs) (n+1)=lz zs n:=by simp[lz]
  rw[e,Int.mul_add,←Int.mul_assoc,←Int.mul_assoc,Int.mul_comm (lz zs n) 4294967296]
  omega
theorem val_cons (x:Int)(zs:List Int):val (x::zs)=x+4294967296*val zs:=by
 unfold val
 rw[List.length_cons,vl_cons]

end Go.Proofs.YtbgpddlcfiiiaaaGreatDoor
