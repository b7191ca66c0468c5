/-
 From what a law's argument of the type api.Atom reads as to the walks' words.
-/
import Derived.Test.YtepdckgfolkjjaaGreatDoorS37
import Derived.Deep.Strs
namespace Go.Proofs.YtepdckgfolkjjaaGreatDoor.Fv
open Go.ChangeShapes Go.WideShapes Go.ChangeAt Go.RowKit Go.Joins Go.Deep

theorem bulk_five {H : Type} (D : Nat→DataW H) : ∀ n,(∀ i,i < n→5≤Rows.uptoBulk (D i))→5 * n≤Rows.uptoBulkAll ((List.range n).map D):=by
 intro n
 induction n with
 | zero => intro _; omega
 | succ n ih =>
  intro h
  have h1:=ih fun i hi => h i (by omega)
  have h2:=h n (by omega)
  have e : ∀ l r : List (DataW H),Rows.uptoBulkAll (l ++ r) = Rows.uptoBulkAll l + Rows.uptoBulkAll r:=by
   intro l r
   induction l with
   | nil => simp [Rows.uptoBulkAll]
   | cons x l il => simp only [List.cons_append,Rows.uptoBulkAll,il]; omega
  rw [List.range_succ,List.map_append,e]
  simp only [List.map_cons,List.map_nil,Rows.uptoBulkAll]
  omega

set_option maxRecDepth 100000 in
theorem parts_bulk {H : Type} {enc : TypeId × Value→H} {W : World} {a : Option Addr} {len cap : Nat} {d : DataW H} {p : List MemPlace} (h : DataW.Trod enc Tryz.prog W 0 (fun _ => true) true 25 (.slice a len cap) d p) : 5 * len≤Rows.uptoBulk d:=by
 obtain ⟨fuel,hf⟩:=h
 rcases open_slice Tryz.underlying25 hf with ⟨hcs,hx⟩ | ⟨a0,l0,cap0,m,n',D,Pl,hcs,hb,hle,hcap,hm,hx,hall⟩
 ·simp [Value.cells] at hcs
  obtain ⟨rfl,rfl,rfl⟩:=hcs
  omega
 ·simp [Value.cells] at hcs
  obtain ⟨rfl,rfl,rfl⟩:=hcs
  have hml : len≤m:=by
   rw [hm]
   split
   ·exact hle
   ·exact Nat.le_refl _
  obtain ⟨rfl, -⟩:=Prod.mk.inj hx
  have h5:=bulk_five D len fun i hi => by
   obtain ⟨cs',hc,htr⟩:=hall i (by omega)
   rw [cellsPart] at hc
   obtain ⟨_,hl3,hcell⟩:=World.cells?_some hc
   obtain ⟨y0,y1,k,hy,_,g0,g1⟩:=trod_struct2 Tryz.underlying59 htr
   obtain ⟨z0,z1,k2,hz, -⟩:=trod_struct2 Tryz.underlying24 g1
   rw [(Prod.mk.inj hy).1,hz]
   have b0:=bulk_one y0.1
   have b1:=bulk_one z0.1
   have b2:=bulk_one z1.1
   simp only [Rows.uptoBulk,Rows.uptoBulkAll]
   omega
  simp only [Rows.uptoBulk]
  omega

theorem array6 {cs : Array Value} (h : cs.size = 6) : ∃ c0 c1 c2 c3 c4 c5,cs = #[c0,c1,c2,c3,c4,c5]:=by
 obtain ⟨l⟩:=cs
 match l,h with
 | [c0,c1,c2,c3,c4,c5],_ => exact ⟨c0,c1,c2,c3,c4,c5,rfl⟩
theorem cellsAtom : Tryz.prog.cellsOf 29 = 6:=by kernel_rfl

set_option maxRecDepth 100000 in
theorem open_atom {H : Type} {enc : TypeId × Value→H} {W : World} {base : Nat} {v : Value} {d : DataW H} {p : List MemPlace} (hv : Value.okWide Tryz.prog W .any base 29 v) (h : DataW.Trod enc Tryz.prog W 0 (fun _ => true) true 29 v d p) :
  ∃ kd sd ad ld cd ap np cp sk ak lk ck dz ps k,v = .agg #[.int .i64 kd,.bool sd,.slice ad ld cd,.slice ap np cp,.bool sk,.slice ak lk ck]∧Zm W sd ad ld cd dz∧ld≤Rows.uptoBulk d∧Pr W ap np ps (Rows.uptoBulk d)∧Zm W sk ak lk ck k∧lk≤Rows.uptoBulk d∧5 * np≤Rows.uptoBulk d:=by
 obtain ⟨cs,rfl,hsz⟩:=okWide_struct Tryz.underlying29 hv
 obtain ⟨c0,c1,c2,c3,c4,c5,rfl⟩:=array6 (hsz.trans cellsAtom)
 obtain ⟨fuel,hf⟩:=h
 obtain ⟨y0,y1,y2,n,hx,_,h0,h1,h2⟩:=trod_struct3 Tryz.underlying29 hf
 simp [cellsI,cellsInt,cellsTerm,Value.cells] at h0 h1 h2
 obtain ⟨kd,hk, -⟩:=DataW.trod_int Tryz.underlying3 h0
 obtain ⟨sd,ad,ld,cd,dz,rfl,rfl,hz,hl⟩:=open_zc h1
 obtain ⟨t0,t1,n2,hx2,_,g0,g1⟩:=trod_struct2 Tryz.underlying27 h2
 simp [cellsP,cellsInt] at g0 g1
 obtain ⟨sk,ak,lk,ck,k,rfl,rfl,hz2,hl2⟩:=open_zc g1
 obtain ⟨ap,np,cp,hs⟩:=slice_form Tryz.underlying25 g0
 simp at hs hk
 subst hs hk
 have hT : DataW.Trod enc Tryz.prog W 0 (fun _ => true) true 25 (.slice ap np cp) t0.1 t0.2:=⟨n2,by simpa [Value.cells] using g0⟩
 obtain ⟨ps,hP, -⟩:=open_parts hT
 have h5:=parts_bulk hT
 have e : Rows.uptoBulk d = Rows.uptoBulk y0.1 + (Rows.uptoBulk y1.1 + (Rows.uptoBulk y2.1 + 0)) + 1:=by
  rw [(Prod.mk.inj hx).1]
  simp [Rows.uptoBulk,Rows.uptoBulkAll]
 have e2 : Rows.uptoBulk y2.1 = Rows.uptoBulk t0.1 + (Rows.uptoBulk t1.1 + 0) + 1:=by
  rw [hx2]
  simp [Rows.uptoBulk,Rows.uptoBulkAll]
 exact ⟨kd,sd,ad,ld,cd,ap,np,cp,sk,ak,lk,ck,dz,ps,k,rfl,hz,by omega,hP.mono (by omega),hz2,by omega,by omega⟩

set_option maxRecDepth 100000 in
theorem term_bulk {H : Type} {enc : TypeId × Value→H} {W : World} {ad : Option Addr} {n cp : Nat} {s : Bool} {a : Option Addr} {l c : Nat} {d : DataW H} {p : List MemPlace} (h : DataW.Trod enc Tryz.prog W 0 (fun _ => true) true 27 (.agg #[.slice ad n cp,.bool s,.slice a l c]) d p) : 5 * n≤Rows.uptoBulk d:=by
 obtain ⟨fuel,hf⟩:=h
 obtain ⟨t0,t1,n2,hx2,_,g0, -⟩:=trod_struct2 Tryz.underlying27 hf
 simp [cellsP,Value.cells] at g0
 have hT : DataW.Trod enc Tryz.prog W 0 (fun _ => true) true 25 (.slice ad n cp) t0.1 t0.2:=⟨n2,by simpa [Value.cells] using g0⟩
 have h5:=parts_bulk hT
 have e2 : Rows.uptoBulk d = Rows.uptoBulk t0.1 + (Rows.uptoBulk t1.1 + 0) + 1:=by
  rw [(Prod.mk.inj hx2).1]
  simp [Rows.uptoBulk,Rows.uptoBulkAll]
 omega
end Go.Proofs.YtepdckgfolkjjaaGreatDoor.Fv
