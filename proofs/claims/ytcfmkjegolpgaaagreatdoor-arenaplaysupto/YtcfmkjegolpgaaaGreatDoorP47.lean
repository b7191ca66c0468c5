/-
 From what a law's arguments of the types []int,[]riddleref08.Make read as to the walks' words.
-/
import Derived.Test.YtcfmkjegolpgaaaGreatDoorP37
import Derived.Test.YtcfmkjegolpgaaaGreatDoorP43
namespace Go.Proofs.YtcfmkjegolpgaaaGreatDoor.Fv
open Go.ChangeShapes Go.WideShapes Go.ChangeAt Go.RowKit Go.Joins Go.Deep
open Nt

theorem cellsIs : Tryz.prog.cellsOf 43 = 1:=by kernel_rfl
theorem wfi {v : Int} (h : (Lit.int .i64 v).wf = true) : I64 v:=by
 unfold I64
 simp [Lit.wf,IntKind.min,IntKind.max,IntKind.bits,IntKind.signed] at h
 omega

theorem open_il {H : Type} {enc : TypeId × Value→H} {W : World} {a : Option Addr} {len cap : Nat} {d : DataW H} {p : List MemPlace} (h : DataW.Trod enc Tryz.prog W 0 (fun _ => true) true 43 (.slice a len cap) d p) :
  (∃ xs,IL W a len xs)∧len≤Rows.uptoBulk d:=by
 obtain ⟨fuel,hf⟩:=h
 rcases open_ints Tryz.underlying43 Tryz.underlying3 cellsI hf with ⟨hcs,hx⟩ | ⟨x,l,c,zs,hcs,_,hl,hm,hz,hx,hcell,hwz⟩
 ·simp [Value.cells] at hcs
  obtain ⟨rfl,rfl,rfl⟩:=hcs
  exact ⟨⟨[],rfl,.inl rfl⟩,Nat.zero_le _⟩
 simp [Value.cells] at hcs
 obtain ⟨rfl,rfl,rfl⟩:=hcs
 have hzl : zs.length = cap:=by simpa using hz
 have htl : (zs.take len).length = len:=by rw [List.length_take]; omega
 refine ⟨⟨zs.take len,htl,?_⟩,?_⟩
 ·rcases Nat.eq_zero_or_pos len with h0 | h0
  ·exact .inl h0
  obtain ⟨b,off,rfl,hc⟩:=ints_at hcell o_m
  refine .inr ⟨b,off,rfl,World.block_lt_of_cell? W ⟨b,off + 0,none⟩ (hc 0 o_m),fun i hi => ?_⟩
  have hi2 : i < len:=by omega
  have hi3 : i < zs.length:=by omega
  refine ⟨?_,?_⟩
  ·have h1:=hc i o_m
   rw [h1,List.getD_eq_getElem?_getD,List.getElem?_eq_getElem hi3,List.getElem_take]
   rfl
  exact wfi (hwz _ (List.mem_of_mem_take (List.getElem_mem hi)))
 simp only [Prod.mk.injEq] at hx
 obtain ⟨rfl,_⟩:=hx
 have hb:=bulk_slice (H:=H) (lits .i64 (zs.take len)) (lits .i64 (zs.drop len))
 have hl2 : (lits (H:=H) .i64 (zs.take len)).length = len:=by simp only [lits,List.length_map,List.length_take]; omega
 omega

set_option maxRecDepth 100000 in
theorem open_ac {H : Type} {enc : TypeId × Value→H} {W : World} {n : Nat} {c0 c1 c2 c3 c4 c5 : Value} {x : DataW H × List MemPlace} (h : DataW.trod enc Tryz.prog W 0 (fun _ => true) true n 42 [c0,c1,c2,c3,c4,c5] = some x) :
  ∃ kd sd ad ld cd ap np cp sk ak lk ck dz ps k,c0 = .int .i64 kd∧c1 = .bool sd∧c2 = .slice ad ld cd∧c3 = .slice ap np cp∧c4 = .bool sk∧c5 = .slice ak lk ck∧Zm W sd ad ld cd dz∧ld≤Rows.uptoBulk x.1∧Pr W ap np ps (Rows.uptoBulk x.1)∧Zm W sk ak lk ck k∧lk≤Rows.uptoBulk x.1∧5 * np≤Rows.uptoBulk x.1:=by
 obtain ⟨y0,y1,y2,n,hx,_,h0,h1,h2⟩:=trod_struct3 Tryz.underlying42 h
 simp [cellsI,cellsInt,cellsTerm] at h0 h1 h2
 obtain ⟨kd,hk, -⟩:=DataW.trod_int Tryz.underlying3 h0
 obtain ⟨sd,ad,ld,cd,dz,rfl,rfl,hz,hl⟩:=open_zc h1
 obtain ⟨t0,t1,n2,hx2,_,g0,g1⟩:=trod_struct2 Tryz.underlying40 h2
 simp [cellsP,cellsInt] at g0 g1
 obtain ⟨sk,ak,lk,ck,k,rfl,rfl,hz2,hl2⟩:=open_zc g1
 obtain ⟨ap,np,cp,hs⟩:=slice_form Tryz.underlying38 g0
 simp at hs hk
 subst hs hk
 have hT : DataW.Trod enc Tryz.prog W 0 (fun _ => true) true 38 (.slice ap np cp) t0.1 t0.2:=⟨n2,by simpa [Value.cells] using g0⟩
 obtain ⟨ps,hP, -⟩:=open_parts hT
 have h5:=parts_bulk hT
 have e : Rows.uptoBulk x.1 = Rows.uptoBulk y0.1 + (Rows.uptoBulk y1.1 + (Rows.uptoBulk y2.1 + 0)) + 1:=by
  rw [hx]
  simp [Rows.uptoBulk,Rows.uptoBulkAll]
 have e2 : Rows.uptoBulk y2.1 = Rows.uptoBulk t0.1 + (Rows.uptoBulk t1.1 + 0) + 1:=by
  rw [hx2]
  simp [Rows.uptoBulk,Rows.uptoBulkAll]
 exact ⟨kd,sd,ad,ld,cd,ap,np,cp,sk,ak,lk,ck,dz,ps,k,rfl,rfl,rfl,rfl,rfl,rfl,hz,by omega,hP.mono o_m,hz2,by omega,by omega⟩

end Go.Proofs.YtcfmkjegolpgaaaGreatDoor.Fv
