/-
 From what a law's arguments of the types []int,[]riddleref08.Make read as to the walks' words.
-/
import Derived.Test.YtbgpddlcfiiiaaaGreatDoorSbm29
import Derived.Test.YtbgpddlcfiiiaaaGreatDoorSbm35
namespace Go.Proofs.YtbgpddlcfiiiaaaGreatDoor.Fv
open Go.ChangeShapes Go.WideShapes Go.ChangeAt Go.RowKit Go.Joins Go.Deep
open Nt

theorem cellsMake :Tryz.prog.cellsOf 73=9:=by kernel_rfl
theorem cellsIs :Tryz.prog.cellsOf 33=1:=by kernel_rfl
theorem wfi {v:Int}(h:(Lit.int .i64 v).wf=true):I64 v:=by
 unfold I64
 simp[Lit.wf,IntKind.min,IntKind.max,IntKind.bits,IntKind.signed]at h
 omega

theorem open_il {H:Type}{enc:TypeId × Value→H}{W:World}{a:Option Addr}{len cap:Nat}{d:DataW H}{p:List MemPlace}(h:DataW.Trod enc Tryz.prog W 0 (fun _=>true) true 33 (.slice a len cap) d p):
  (∃xs,IL W a len xs)∧len≤Rows.uptoBulk d:=by
 obtain⟨fuel,hf⟩:=h
 rcases open_ints Tryz.underlying33 Tryz.underlying3 cellsI hf with⟨hcs,hx⟩|⟨x,l,c,zs,hcs,_,hl,hm,hz,hx,hcell,hwz⟩
 ·simp[Value.cells]at hcs
  obtain⟨rfl,rfl,rfl⟩:=hcs
  exact⟨⟨[],rfl,.inl rfl⟩,Nat.zero_le _⟩
 simp[Value.cells]at hcs
 obtain⟨rfl,rfl,rfl⟩:=hcs
 have hzl:zs.length=cap:=by simpa using hz
 have htl:(zs.take len).length=len:=by rw[List.length_take];omega
 refine⟨⟨zs.take len,htl,?_⟩,?_⟩
 ·rcases Nat.eq_zero_or_pos len with h0|h0
  ·exact .inl h0
  obtain⟨b,off,rfl,hc⟩:=ints_at hcell o_m
  refine .inr ⟨b,off,rfl,World.block_lt_of_cell? W ⟨b,off+0,none⟩ (hc 0 o_m),fun i hi=> ?_⟩
  have hi2:i<len:=by omega
  have hi3:i<zs.length:=by omega
  refine⟨?_,?_⟩
  ·have h1:=hc i o_m
   rw[h1,List.getD_eq_getElem?_getD,List.getElem?_eq_getElem hi3,List.getElem_take]
   rfl
  exact wfi (hwz _ (List.mem_of_mem_take (List.getElem_mem hi)))
 simp only[Prod.mk.injEq]at hx
 obtain⟨rfl,_⟩:=hx
 have hb:=bulk_slice (H:=H) (lits .i64 (zs.take len)) (lits .i64 (zs.drop len))
 have hl2:(lits (H:=H) .i64 (zs.take len)).length=len:=by simp only[lits,List.length_map,List.length_take];omega
 omega

set_option maxRecDepth 100000 in
theorem open_ac {H:Type}{enc:TypeId × Value→H}{W:World}{n:Nat}{c0 c1 c2 c3 c4 c5:Value}{x:DataW H × List MemPlace}(h:DataW.trod enc Tryz.prog W 0 (fun _=>true) true n 57 [c0,c1,c2,c3,c4,c5]=some x):
  ∃kd sd ad ld cd ap np cp sk ak lk ck dz ps k,c0= .int .i64 kd∧c1= .bool sd∧c2= .slice ad ld cd∧c3= .slice ap np cp∧c4= .bool sk∧c5= .slice ak lk ck∧Zm W sd ad ld cd dz∧ld≤Rows.uptoBulk x.1∧Pr W ap np ps (Rows.uptoBulk x.1)∧Zm W sk ak lk ck k∧lk≤Rows.uptoBulk x.1∧5*np≤Rows.uptoBulk x.1:=by
 obtain⟨y0,y1,y2,n,hx,_,h0,h1,h2⟩:=trod_struct3 Tryz.underlying57 h
 simp[cellsI,cellsInt,cellsTerm]at h0 h1 h2
 obtain⟨kd,hk,-⟩:=DataW.trod_int Tryz.underlying3 h0
 obtain⟨sd,ad,ld,cd,dz,rfl,rfl,hz,hl⟩:=open_zc h1
 obtain⟨t0,t1,n2,hx2,_,g0,g1⟩:=trod_struct2 Tryz.underlying28 h2
 simp[cellsP,cellsInt]at g0 g1
 obtain⟨sk,ak,lk,ck,k,rfl,rfl,hz2,hl2⟩:=open_zc g1
 obtain⟨ap,np,cp,hs⟩:=slice_form Tryz.underlying23 g0
 simp at hs hk
 subst hs hk
 have hT:DataW.Trod enc Tryz.prog W 0 (fun _=>true) true 23 (.slice ap np cp) t0.1 t0.2:=⟨n2,by simpa [Value.cells] using g0⟩
 obtain⟨ps,hP,-⟩:=open_parts hT
 have h5:=parts_bulk hT
 have e:Rows.uptoBulk x.1=Rows.uptoBulk y0.1+(Rows.uptoBulk y1.1+(Rows.uptoBulk y2.1+0))+1:=by
  rw[hx]
  simp[Rows.uptoBulk,Rows.uptoBulkAll]
 have e2:Rows.uptoBulk y2.1=Rows.uptoBulk t0.1+(Rows.uptoBulk t1.1+0)+1:=by
  rw[hx2]
  simp[Rows.uptoBulk,Rows.uptoBulkAll]
 exact⟨kd,sd,ad,ld,cd,ap,np,cp,sk,ak,lk,ck,dz,ps,k,rfl,rfl,rfl,rfl,rfl,rfl,hz,by omega,hP.mono o_m,hz2,by omega,by omega⟩

set_option maxRecDepth 100000 in
theorem open_ml5 {H:Type}{enc:TypeId × Value→H}{W:World}{base:Nat}{v:Value}{d:DataW H}{p:List MemPlace}(hv:Value.okWide Tryz.prog W .any base 22 v)(h:DataW.Trod enc Tryz.prog W 0 (fun _=>true) true 22 v d p)(hbulk:Rows.uptoBulk d≤1048576):
  ∃a len cap R,v= .slice a len cap∧ML W a len R (Rows.uptoBulk d)∧len≤Rows.uptoBulk d∧∀m∈R,5*m.xp.length≤Rows.uptoBulk d:=by
 obtain⟨a,len,cap,rfl⟩:=okWide_slice Tryz.underlying22 hv
 refine⟨a,len,cap,?_⟩
 obtain⟨fuel,hf⟩:=h
 rcases open_slice Tryz.underlying22 hf with⟨hcs,hx⟩|⟨a0,l0,cap0,m,n',D,Pl,hcs,hb,hle,hcap,hm,hx,hall⟩
 ·simp[Value.cells]at hcs
  obtain⟨rfl,rfl,rfl⟩:=hcs
  exact⟨[],rfl,⟨rfl,.inl rfl⟩,Nat.zero_le _,fun m hm=>absurd hm List.not_mem_nil⟩
 simp[Value.cells]at hcs
 obtain⟨rfl,rfl,rfl⟩:=hcs
 have hml:len≤m:=by
  rw[hm]
  split
  ·exact hle
  exact Nat.le_refl _
 obtain⟨rfl,-⟩:=Prod.mk.inj hx
 have hlen:len≤Rows.uptoBulk (DataW.slice ((List.range len).map D) ((List.range (m-len)).map fun j=>D (len+j))):=by
  have:=bulk_slice ((List.range len).map D) ((List.range (m-len)).map fun j=>D (len+j))
  simpa using this
 have hD: ∀i,i<len→Rows.uptoBulk (D i)≤Rows.uptoBulk (DataW.slice ((List.range len).map D) ((List.range (m-len)).map fun j=>D (len+j))):=fun i hi=>by
  have:=bulk_mem (List.mem_map.2 ⟨i,List.mem_range.2 hi,rfl⟩:D i∈(List.range len).map D)
  simp only[Rows.uptoBulk]
  omega
 generalize Rows.uptoBulk (DataW.slice ((List.range len).map D) ((List.range (m-len)).map fun j=>D (len+j)))=bk at*
 rcases Nat.eq_zero_or_pos len with h0|h0
 ·subst h0
  exact⟨[],rfl,⟨rfl,.inl rfl⟩,Nat.zero_le _,fun m hm=>absurd hm List.not_mem_nil⟩
 obtain⟨b0,off,spot⟩:=a0
 have hsp:spot=none:=by
  obtain⟨cs',hc,_⟩:=hall 0 o_m
  rw[cellsMake]at hc
  obtain⟨_,hl3,hcell⟩:=World.cells?_some hc
  match cs',hl3 with
  | [v0,v1,v2,v3,v4,v5,v6,v7,v8],_=>
   have e0:=hcell 0 o_m
   simpa [Addr.add] using World.cell?_spot e0
 subst hsp
 have hex: ∀i,∃q:Mk,i<len→MA W b0 (off+i*9) q bk∧5*q.xp.length≤bk:=by
  intro i
  by_cases hi:i<len
  ·obtain⟨cs',hc,htr⟩:=hall i o_m
   rw[cellsMake]at hc
   obtain⟨_,hl3,hcell⟩:=World.cells?_some hc
   obtain⟨y0,y1,y2,y3,k,hy,_,g0,g1,g2,g3⟩:=trod_struct4 Tryz.underlying73 htr
   match cs',hl3 with
   | [v0,v1,v2,v3,v4,v5,v6,v7,v8],_=>
    simp[cellsI,cellsAtom,cellsIs]at g0 g1 g2 g3
    obtain⟨kd,hk,-,hwk⟩:=DataW.trod_int Tryz.underlying3 g0
    obtain⟨vv,hq,-,hwv⟩:=DataW.trod_int Tryz.underlying3 g2
    obtain⟨al,ll,cl,hsl⟩:=slice_form Tryz.underlying33 g3
    simp at hk hq hsl
    subst hk hq hsl
    obtain⟨xk,sd,ad,ld,cd,ap,np,cp,sk,ak,lk,ck,dz,ps,kz,rfl,rfl,rfl,rfl,rfl,rfl,hz,hl,hP,hz2,hl2,h5⟩:=open_ac g1
    obtain⟨⟨ks,hks⟩,hkl⟩:=open_il (d:=y3.1) (p:=y3.2) ⟨k,by simpa [Value.cells] using g3⟩
    have e0:=hcell 0 o_m
    have e1:=hcell 1 o_m
    have e2:=hcell 2 o_m
    have e3:=hcell 3 o_m
    have e4:=hcell 4 o_m
    have e5:=hcell 5 o_m
    have e6:=hcell 6 o_m
    have e7:=hcell 7 o_m
    have e8:=hcell 8 o_m
    rw[Addr.add_lit,Addr.add_lit]at e0 e1 e2 e3 e4 e5 e6 e7 e8
    have h1:=hD i hi
    have h2:Rows.uptoBulk (D i)=Rows.uptoBulk y0.1+(Rows.uptoBulk y1.1+(Rows.uptoBulk y2.1+(Rows.uptoBulk y3.1+0)))+1:=by
     rw[(Prod.mk.inj hy).1]
     simp[Rows.uptoBulk,Rows.uptoBulkAll]
    exact⟨⟨kd,xk,dz,ps,kz,vv,ks⟩,fun _=>⟨⟨sd,ad,ld,cd,ap,np,cp,sk,ak,lk,ck,al,ll,cl,⟨e0,e1,e2,e3,e4,e5,e6,e7,e8⟩,hz,by omega,hP.mono o_m,by omega,hz2,by omega,hks,by omega,wfi hwk,wfi hwv⟩,by have h6:ps.length=np:=hP.1;show 5*ps.length≤bk;omega⟩⟩
  exact⟨⟨0,0,0,[],0,0,[]⟩,fun h=>absurd h hi⟩
 obtain⟨Q,hQ⟩:=Classical.skolem.1 hex
 have hb0:b0<W.heap.size:=by
  obtain⟨_,_,_,_,_,_,_,_,_,_,_,_,_,_,g0,_⟩:=(hQ 0 h0).1
  exact World.block_lt_of_cell? W _ g0.c0
 refine⟨(List.range len).map Q,rfl,⟨by simp,.inr ⟨b0,off,rfl,hb0,fun i hi=> ?_⟩⟩,hlen,fun m hm=> ?_⟩
 ·have hi':i<len:=by simpa using hi
  simpa using (hQ i hi').1
 obtain⟨i,hi,rfl⟩:=List.mem_map.1 hm
 exact(hQ i (List.mem_range.1 hi)).2
end Go.Proofs.YtbgpddlcfiiiaaaGreatDoor.Fv
