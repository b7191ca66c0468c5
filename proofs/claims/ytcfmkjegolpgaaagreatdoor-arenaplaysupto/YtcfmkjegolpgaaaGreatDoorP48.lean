/-
 From what a law's argument of the type []riddlelaw08.Call reads as to the walks' words.
-/
import Derived.Test.YtcfmkjegolpgaaaGreatDoorP47
import Derived.Test.YtcfmkjegolpgaaaGreatDoorP45
namespace Go.Proofs.YtcfmkjegolpgaaaGreatDoor.Fv
open Go.ChangeShapes Go.WideShapes Go.ChangeAt Go.RowKit Go.Joins Go.Deep
open Nt

theorem cellsCall : Tryz.prog.cellsOf 45 = 10:=by kernel_rfl
theorem il_none {H : Type} {enc : TypeId × Value→H} {W : World} {a : Option Addr} {len cap : Nat} {d : DataW H} {p : List MemPlace} (h : DataW.Trod enc Tryz.prog W 0 (fun _ => true) true 43 (.slice a len cap) d p) (ha : a = none) : len = 0∧cap = 0:=by
 obtain ⟨fuel,hf⟩:=h
 rcases open_slice Tryz.underlying43 hf with ⟨hcs,hx⟩ | ⟨a0,l0,cap0,m,n',D,Pl,hcs,_⟩
 ·simp [Value.cells] at hcs
  exact hcs.2
 simp [Value.cells] at hcs
 rw [ha] at hcs
 cases hcs.1
theorem trod_struct5 {H : Type} {enc : TypeId × Value→H} {P : Program} {w : World} {base : Nat} {spare : TypeId→Bool} {held : Bool} {t : TypeId} {f0 f1 f2 f3 f4 : Field} {fuel : Nat} {cs : List Value} {x : DataW H × List MemPlace} (ht : P.underlying t = some (.struct #[f0,f1,f2,f3,f4])) (h : DataW.trod enc P w base spare held fuel t cs = some x) :
  ∃ y0 y1 y2 y3 y4 n,x.1 = .agg [y0.1,y1.1,y2.1,y3.1,y4.1]∧cs.length = P.cellsOf t∧DataW.trod enc P w base spare held n f0.type ((cs.drop f0.offset).take (P.cellsOf f0.type)) = some y0∧DataW.trod enc P w base spare held n f1.type ((cs.drop f1.offset).take (P.cellsOf f1.type)) = some y1 ∧
   DataW.trod enc P w base spare held n f2.type ((cs.drop f2.offset).take (P.cellsOf f2.type)) = some y2∧DataW.trod enc P w base spare held n f3.type ((cs.drop f3.offset).take (P.cellsOf f3.type)) = some y3∧DataW.trod enc P w base spare held n f4.type ((cs.drop f4.offset).take (P.cellsOf f4.type)) = some y4:=by
 obtain ⟨xs,n,_,rfl,hl,hlen,hf⟩:=DataW.trod_struct ht h
 match xs,hlen with
 | [y0,y1,y2,y3,y4],_ => exact ⟨y0,y1,y2,y3,y4,n,by simp,hl,by simpa using hf 0 f0 rfl,by simpa using hf 1 f1 rfl,by simpa using hf 2 f2 rfl,by simpa using hf 3 f3 rfl,by simpa using hf 4 f4 rfl⟩
set_option maxRecDepth 100000 in
theorem open_cl {H : Type} {enc : TypeId × Value→H} {W : World} {base : Nat} {v : Value} {d : DataW H} {p : List MemPlace} (hv : Value.okWide Tryz.prog W .any base 22 v) (h : DataW.Trod enc Tryz.prog W 0 (fun _ => true) true 22 v d p) (hbulk : Rows.uptoBulk d≤1048576) :
  ∃ a len cap R,v = .slice a len cap∧CL W a len R (Rows.uptoBulk d)∧len≤Rows.uptoBulk d:=by
 obtain ⟨a,len,cap,rfl⟩:=okWide_slice Tryz.underlying22 hv
 refine ⟨a,len,cap,?_⟩
 obtain ⟨fuel,hf⟩:=h
 rcases open_slice Tryz.underlying22 hf with ⟨hcs,hx⟩ | ⟨a0,l0,cap0,m,n',D,Pl,hcs,hb,hle,hcap,hm,hx,hall⟩
 ·simp [Value.cells] at hcs
  obtain ⟨rfl,rfl,rfl⟩:=hcs
  exact ⟨[],rfl,⟨rfl,.inl rfl⟩,Nat.zero_le _⟩
 simp [Value.cells] at hcs
 obtain ⟨rfl,rfl,rfl⟩:=hcs
 have hml : len≤m:=by
  rw [hm]
  split
  ·exact hle
  exact Nat.le_refl _
 obtain ⟨rfl, -⟩:=Prod.mk.inj hx
 have hlen : len≤Rows.uptoBulk (DataW.slice ((List.range len).map D) ((List.range (m - len)).map fun j => D (len + j))):=by
  have:=bulk_slice ((List.range len).map D) ((List.range (m - len)).map fun j => D (len + j))
  simpa using this
 have hD : ∀ i,i < len→Rows.uptoBulk (D i)≤Rows.uptoBulk (DataW.slice ((List.range len).map D) ((List.range (m - len)).map fun j => D (len + j))):=fun i hi => by
  have:=bulk_mem (List.mem_map.2 ⟨i,List.mem_range.2 hi,rfl⟩ : D i ∈ (List.range len).map D)
  simp only [Rows.uptoBulk]
  omega
 generalize Rows.uptoBulk (DataW.slice ((List.range len).map D) ((List.range (m - len)).map fun j => D (len + j))) = bk at *
 rcases Nat.eq_zero_or_pos len with h0 | h0
 ·subst h0
  exact ⟨[],rfl,⟨rfl,.inl rfl⟩,Nat.zero_le _⟩
 obtain ⟨b0,off,spot⟩:=a0
 have hsp : spot = none:=by
  obtain ⟨cs',hc,_⟩:=hall 0 o_m
  rw [cellsCall] at hc
  obtain ⟨_,hl3,hcell⟩:=World.cells?_some hc
  match cs',hl3 with
  | [v0,v1,v2,v3,v4,v5,v6,v7,v8,v9],_ =>
   have e0:=hcell 0 o_m
   simpa [Addr.add] using World.cell?_spot e0
 subst hsp
 have hex : ∀ i,∃ q : Cl,i < len→CA W b0 (off + i * 10) q bk:=by
  intro i
  by_cases hi : i < len
  ·obtain ⟨cs',hc,htr⟩:=hall i o_m
   rw [cellsCall] at hc
   obtain ⟨_,hl3,hcell⟩:=World.cells?_some hc
   obtain ⟨y0,y1,y2,y4,y3,k,hy,_,g0,g1,g2,g4,g3⟩:=trod_struct5 Tryz.underlying45 htr
   match cs',hl3 with
   | [v0,v1,v2,v3,v4,v5,v6,v7,v8,v9],_ =>
    simp [cellsI,cellsAtom,cellsIs] at g0 g1 g2 g4 g3
    obtain ⟨kd,hk, -,hwk⟩:=DataW.trod_int Tryz.underlying3 g0
    obtain ⟨nn,hqn, -,hwn⟩:=DataW.trod_int Tryz.underlying3 g2
    obtain ⟨vv,hq, -,hwv⟩:=DataW.trod_int Tryz.underlying3 g4
    obtain ⟨al,ll,cl,hsl⟩:=slice_form Tryz.underlying43 g3
    simp at hk hqn hq hsl
    subst hk hqn hq hsl
    obtain ⟨xk,sd,ad,ld,cd,ap,np,cp,sk,ak,lk,ck,dz,ps,kz,rfl,rfl,rfl,rfl,rfl,rfl,hz,hl,hP,hz2,hl2,h5⟩:=open_ac g1
    obtain ⟨⟨ks,hks⟩,hkl⟩:=open_il (d:=y3.1) (p:=y3.2) ⟨k,by simpa [Value.cells] using g3⟩
    have hnone : al = none→ll = 0∧cl = 0:=il_none (d:=y3.1) (p:=y3.2) ⟨k,by simpa [Value.cells] using g3⟩
    have e0:=hcell 0 o_m
    have e1:=hcell 1 o_m
    have e2:=hcell 2 o_m
    have e3:=hcell 3 o_m
    have e4:=hcell 4 o_m
    have e5:=hcell 5 o_m
    have e6:=hcell 6 o_m
    have e7:=hcell 7 o_m
    have e8:=hcell 8 o_m
    have e9:=hcell 9 o_m
    rw [Addr.add_lit,Addr.add_lit] at e0 e1 e2 e3 e4 e5 e6 e7 e8 e9
    have h1:=hD i hi
    have h2 : Rows.uptoBulk (D i) = Rows.uptoBulk y0.1 + (Rows.uptoBulk y1.1 + (Rows.uptoBulk y2.1 + (Rows.uptoBulk y4.1 + (Rows.uptoBulk y3.1 + 0)))) + 1:=by
     rw [show D i = _ from hy]
     simp [Rows.uptoBulk,Rows.uptoBulkAll]
    exact ⟨⟨kd,xk,dz,ps,kz,nn,vv,ks⟩,fun _ => ⟨sd,ad,ld,cd,ap,np,cp,sk,ak,lk,ck,al,ll,cl,⟨e0,e1,e2,e3,e4,e5,e6,e7,e8,e9⟩,hz,by omega,hP.mono o_m,by omega,hz2,by omega,hks,by omega,wfi hwk,wfi hwn,wfi hwv,hnone⟩⟩
  exact ⟨⟨0,0,0,[],0,0,0,[]⟩,fun h => absurd h hi⟩
 obtain ⟨Q,hQ⟩:=Classical.skolem.1 hex
 have hb0 : b0 < W.heap.size:=by
  obtain ⟨_,_,_,_,_,_,_,_,_,_,_,_,_,_,g0,_⟩:=hQ 0 h0
  exact World.block_lt_of_cell? W _ g0.c0
 refine ⟨(List.range len).map Q,rfl,⟨by simp,.inr ⟨b0,off,rfl,hb0,fun i hi => ?_⟩⟩,hlen⟩
 have hi' : i < len:=by simpa using hi
 simpa using hQ i hi'
end Go.Proofs.YtcfmkjegolpgaaaGreatDoor.Fv
