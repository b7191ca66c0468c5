/-
 From what a law's argument of the type api.Atom reads as to the walks' words.
-/
import Derived.Test.YtbgpddlcfiiiaaaGreatDoorSbm28
import Derived.Deep.Strs
namespace Go.Proofs.YtbgpddlcfiiiaaaGreatDoor.Fv
open Go.ChangeShapes Go.WideShapes Go.ChangeAt Go.RowKit Go.Joins Go.Deep

theorem bulk_five {H:Type}(D:Nat→DataW H): ∀n,(∀i,i<n→5≤Rows.uptoBulk (D i))→5*n≤Rows.uptoBulkAll ((List.range n).map D):=by
 intro n
 induction n with
 |zero=>intro _;omega
 |succ n ih=>
  intro h
  have h1:=ih fun i hi=>h i o_m
  have h2:=h n o_m
  have e: ∀l r:List (DataW H),Rows.uptoBulkAll (l++r)=Rows.uptoBulkAll l+Rows.uptoBulkAll r:=by
   intro l r
   induction l with
   |nil=>simp[Rows.uptoBulkAll]
   |cons x l il=>simp only[List.cons_append,Rows.uptoBulkAll,il];omega
  rw[List.range_succ,List.map_append,e]
  simp only[List.map_cons,List.map_nil,Rows.uptoBulkAll]
  omega

set_option maxRecDepth 100000 in
theorem parts_bulk {H:Type}{enc:TypeId × Value→H}{W:World}{a:Option Addr}{len cap:Nat}{d:DataW H}{p:List MemPlace}(h:DataW.Trod enc Tryz.prog W 0 (fun _=>true) true 23 (.slice a len cap) d p):5*len≤Rows.uptoBulk d:=by
 obtain⟨fuel,hf⟩:=h
 rcases open_slice Tryz.underlying23 hf with⟨hcs,hx⟩|⟨a0,l0,cap0,m,n',D,Pl,hcs,hb,hle,hcap,hm,hx,hall⟩
 ·simp[Value.cells]at hcs
  obtain⟨rfl,rfl,rfl⟩:=hcs
  omega
 simp[Value.cells]at hcs
 obtain⟨rfl,rfl,rfl⟩:=hcs
 have hml:len≤m:=by
  rw[hm]
  split
  ·exact hle
  exact Nat.le_refl _
 obtain⟨rfl,-⟩:=Prod.mk.inj hx
 have h5:=bulk_five D len fun i hi=>by
  obtain⟨cs',hc,htr⟩:=hall i o_m
  rw[cellsPart]at hc
  obtain⟨_,hl3,hcell⟩:=World.cells?_some hc
  obtain⟨y0,y1,k,hy,_,g0,g1⟩:=trod_struct2 Tryz.underlying117 htr
  obtain⟨z0,z1,k2,hz,-⟩:=trod_struct2 Tryz.underlying26 g1
  rw[(Prod.mk.inj hy).1,hz]
  have b0:=bulk_one y0.1
  have b1:=bulk_one z0.1
  have b2:=bulk_one z1.1
  simp only[Rows.uptoBulk,Rows.uptoBulkAll]
  omega
 simp only[Rows.uptoBulk]
 omega

theorem cellsAtom :Tryz.prog.cellsOf 57=6:=by kernel_rfl

set_option maxRecDepth 100000 in
theorem term_bulk {H:Type}{enc:TypeId × Value→H}{W:World}{ad:Option Addr}{n cp:Nat}{s:Bool}{a:Option Addr}{l c:Nat}{d:DataW H}{p:List MemPlace}(h:DataW.Trod enc Tryz.prog W 0 (fun _=>true) true 28 (.agg #[.slice ad n cp,.bool s,.slice a l c]) d p):5*n≤Rows.uptoBulk d:=by
 obtain⟨fuel,hf⟩:=h
 obtain⟨t0,t1,n2,hx2,_,g0,-⟩:=trod_struct2 Tryz.underlying28 hf
 simp[cellsP,Value.cells]at g0
 have hT:DataW.Trod enc Tryz.prog W 0 (fun _=>true) true 23 (.slice ad n cp) t0.1 t0.2:=⟨n2,by simpa [Value.cells] using g0⟩
 have h5:=parts_bulk hT
 have e2:Rows.uptoBulk d=Rows.uptoBulk t0.1+(Rows.uptoBulk t1.1+0)+1:=by
  rw[(Prod.mk.inj hx2).1]
  simp[Rows.uptoBulk,Rows.uptoBulkAll]
 omega
end Go.Proofs.YtbgpddlcfiiiaaaGreatDoor.Fv
