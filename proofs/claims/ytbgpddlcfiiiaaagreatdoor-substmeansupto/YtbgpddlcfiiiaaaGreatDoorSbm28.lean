/-
 From what a law's arguments of the types api.Term,[]api.Value read as to the walks' words.
-/
import Derived.Test.YtbgpddlcfiiiaaaGreatDoorRows
import Derived.Test.YtbgpddlcfiiiaaaGreatDoorSbm22
import Derived.ProofKit
import Derived.OpenShut
import Derived.JoinedCond
import Derived.Carry
import Derived.Lib.SmallJoins
import Derived.Deep.Slices
set_option maxRecDepth 100000
namespace Go.Proofs.YtbgpddlcfiiiaaaGreatDoor.Fv
open Go.ChangeShapes Go.WideShapes Go.ChangeAt Go.RowKit Go.Joins Go.Deep

variable {W:World}
theorem cells32 :Tryz.prog.cellsOf 170=1:=by kernel_rfl
theorem cellsInt :Tryz.prog.cellsOf 26=2:=by kernel_rfl
theorem cellsPart :Tryz.prog.cellsOf 117=3:=by kernel_rfl
theorem cellsValue :Tryz.prog.cellsOf 40=3:=by kernel_rfl
theorem cellsTerm :Tryz.prog.cellsOf 28=3:=by kernel_rfl
theorem cellsI :Tryz.prog.cellsOf 3=1:=by kernel_rfl
theorem cellsB :Tryz.prog.cellsOf 4=1:=by kernel_rfl
theorem cellsM :Tryz.prog.cellsOf 24=1:=by kernel_rfl
theorem cellsP :Tryz.prog.cellsOf 23=1:=by kernel_rfl

theorem wf32 {z:Int}(h:(Lit.int .u32 z).wf=true):0≤z∧z<4294967296:=by
 have:=bounds_u32 h
 omega
theorem bulk_one {H:Type}(d:DataW H):1≤Rows.uptoBulk d:=by
 cases d with
 |lit l=>cases l <;> simp[Rows.uptoBulk]
 |nil=>simp[Rows.uptoBulk]
 |ptr d=>simp[Rows.uptoBulk]
 |slice elems spare=>simp[Rows.uptoBulk]
 |agg parts=>simp[Rows.uptoBulk]
 |iface t d=>simp[Rows.uptoBulk]
 |map entries=>simp[Rows.uptoBulk]
 |held h=>simp[Rows.uptoBulk]
theorem bulk_len {H:Type}(l:List (DataW H)):l.length≤Rows.uptoBulkAll l:=by
 induction l with
 |nil=>simp[Rows.uptoBulkAll]
 |cons x r ih=>have:=bulk_one x;simp only[Rows.uptoBulkAll,List.length_cons];omega
theorem bulk_slice {H:Type}(elems spare:List (DataW H)):elems.length≤Rows.uptoBulk (.slice elems spare):=by
 have h1:=bulk_len elems
 simp only[Rows.uptoBulk]
 omega
theorem bulk_mem {H:Type}{l:List (DataW H)}{d:DataW H}(h:d∈l):Rows.uptoBulk d≤Rows.uptoBulkAll l:=by
 induction l with
 |nil=>cases h
 |cons x r ih=>
  simp only[Rows.uptoBulkAll]
  rcases List.mem_cons.1 h with rfl|h
  ·omega
  have:=ih h;omega
theorem bulk_bound {H:Type}{l:List (DataW H)}(hk:Rows.uptoSmall H l=true):Rows.uptoBulkAll l≤1048576:=of_decide_eq_true hk
theorem open_nm {H:Type}{enc:TypeId × Value→H}{a:Option Addr}{len cap:Nat}{d:DataW H}{p:List MemPlace}(h:DataW.Trod enc Tryz.prog W 0 (fun _=>true) true 24 (.slice a len cap) d p):
  (∃xs,Rd W a len cap xs)∧len≤Rows.uptoBulk d:=by
 obtain⟨fuel,hf⟩:=h
 rcases open_ints Tryz.underlying24 Tryz.underlying170 cells32 hf with⟨hcs,hx⟩|⟨x,l,c,zs,hcs,_,hl,hm,hz,hx,hcell,hwz⟩
 ·simp[Value.cells]at hcs
  obtain⟨rfl,rfl,rfl⟩:=hcs
  exact⟨⟨[],rfl,Nat.le_refl _,by decide,fun _ h=>(by cases h),.inl ⟨rfl,rfl,rfl⟩⟩,Nat.zero_le _⟩
 simp[Value.cells]at hcs
 obtain⟨rfl,rfl,rfl⟩:=hcs
 have hzl:zs.length=cap:=by simpa using hz
 refine⟨⟨zs.take len,?_⟩,?_⟩
 ·refine⟨by rw[List.length_take];omega,hl,by unfold maxLen at hm;omega,fun z hz'=>wf32 (hwz z (List.mem_of_mem_take hz')),.inr ⟨_,rfl,?_⟩⟩
  rcases Nat.eq_zero_or_pos len with h0|h0
  ·exact .inl h0
  obtain⟨b,off,rfl,hc⟩:=ints_at hcell o_m
  refine .inr ⟨b,off,rfl,World.block_lt_of_cell? W ⟨b,off+0,none⟩ (hc 0 o_m),fun i hi=> ?_⟩
  rw[lz_take,if_pos hi]
  exact hc i o_m
 simp only[Prod.mk.injEq]at hx
 obtain⟨rfl,_⟩:=hx
 have hb:=bulk_slice (H:=H) (lits .u32 (zs.take len)) (lits .u32 (zs.drop len))
 have hl2:(lits (H:=H) .u32 (zs.take len)).length=len:=by simp only[lits,List.length_map,List.length_take];omega
 omega

theorem open_zc {H:Type}{enc:TypeId × Value→H}{n:Nat}{v0 v1:Value}{x:DataW H × List MemPlace}(h:DataW.trod enc Tryz.prog W 0 (fun _=>true) true n 26 [v0,v1]=some x):
  ∃s a l c z,v0= .bool s∧v1= .slice a l c∧Zm W s a l c z∧l≤Rows.uptoBulk x.1:=by
 obtain⟨y0,y1,m,rfl,_,h0,h1⟩:=trod_struct2 Tryz.underlying26 h
 simp[cellsB,cellsM]at h0 h1
 obtain⟨a,len,cap,hs⟩:=slice_form Tryz.underlying24 h1
 obtain⟨b,hb,-⟩:=DataW.trod_bool Tryz.underlying4 h0
 simp at hs hb
 subst hs hb
 obtain⟨⟨xs,hr⟩,hk⟩:=open_nm (d:=y1.1) (p:=y1.2) ⟨m,by simpa [Value.cells] using h1⟩
 refine⟨b,a,len,cap,_,rfl,rfl,⟨_,⟨xs,hr,rfl⟩,rfl⟩,?_⟩
 simp only[Rows.uptoBulk,Rows.uptoBulkAll]
 omega

theorem open_pr {H:Type}{enc:TypeId × Value→H}{T e:TypeId}{f0 f1:Field}(ht:Tryz.prog.underlying T=some (.slice e))(he:Tryz.prog.underlying e=some (.struct #[f0,f1]))(ce:Tryz.prog.cellsOf e=3)(t0:f0.type=3)(t1:f1.type=26)(o0:f0.offset=0)(o1:f1.offset=1)
  {a:Option Addr}{len cap:Nat}{d:DataW H}{p:List MemPlace}(h:DataW.Trod enc Tryz.prog W 0 (fun _=>true) true T (.slice a len cap) d p):
  ∃ps,Pr W a len ps (Rows.uptoBulk d)∧len≤Rows.uptoBulk d:=by
 obtain⟨fuel,hf⟩:=h
 rcases open_slice ht hf with⟨hcs,hx⟩|⟨a0,l0,cap0,m,n',D,Pl,hcs,hb,hle,hcap,hm,hx,hall⟩
 ·simp[Value.cells]at hcs
  obtain⟨rfl,rfl,rfl⟩:=hcs
  exact⟨[],⟨rfl,.inl rfl⟩,Nat.zero_le _⟩
 simp[Value.cells]at hcs
 obtain⟨rfl,rfl,rfl⟩:=hcs
 have hml:len≤m:=by
  rw[hm]
  split
  ·exact hle
  exact Nat.le_refl _
 obtain⟨rfl,-⟩:=Prod.mk.inj hx
 have hlen:len≤Rows.uptoBulk (DataW.slice ((List.range len).map D) ((List.range (m-len)).map fun j=>D (len+j))):=by
  have:=bulk_slice ((List.range len).map D) ((List.range (m-len)).map fun j=>D (len+j))
  simpa using this
 have hD: ∀i,i<len→Rows.uptoBulk (D i)≤Rows.uptoBulk (DataW.slice ((List.range len).map D) ((List.range (m-len)).map fun j=>D (len+j))):=fun i hi=>by
  have:=bulk_mem (List.mem_map.2 ⟨i,List.mem_range.2 hi,rfl⟩:D i∈(List.range len).map D)
  simp only[Rows.uptoBulk]
  omega
 generalize Rows.uptoBulk (DataW.slice ((List.range len).map D) ((List.range (m-len)).map fun j=>D (len+j)))=bk at*
 rcases Nat.eq_zero_or_pos len with h0|h0
 ·subst h0
  exact⟨[],⟨rfl,.inl rfl⟩,Nat.zero_le _⟩
 obtain⟨b0,off,spot⟩:=a0
 have hsp:spot=none:=by
  obtain⟨cs',hc,_⟩:=hall 0 o_m
  rw[ce]at hc
  obtain⟨_,hl3,hcell⟩:=World.cells?_some hc
  match cs',hl3 with
  | [v0,v1,v2],_=>
   have e0:=hcell 0 o_m
   simpa [Addr.add] using World.cell?_spot e0
 subst hsp
 have hex: ∀i,∃q:Int × Int,i<len→PA W b0 (off+i*3) q bk:=by
  intro i
  by_cases hi:i<len
  ·obtain⟨cs',hc,htr⟩:=hall i o_m
   rw[ce]at hc
   obtain⟨_,hl3,hcell⟩:=World.cells?_some hc
   obtain⟨y0,y1,k,hy,_,g0,g1⟩:=trod_struct2 he htr
   match cs',hl3 with
   | [v0,v1,v2],_=>
    rw[t0,o0,cellsI]at g0
    rw[t1,o1,cellsInt]at g1
    simp at g0 g1
    obtain⟨s,b,l,c,z,rfl,rfl,hz,hl⟩:=open_zc g1
    obtain⟨q,hq,-,hw⟩:=DataW.trod_int Tryz.underlying3 g0
    simp at hq
    subst hq
    have e0:=hcell 0 o_m
    have e1:=hcell 1 o_m
    have e2:=hcell 2 o_m
    rw[Addr.add_lit,Addr.add_lit]at e0 e1 e2
    refine⟨(q,z),fun _=>⟨s,b,l,c,e0,e1,e2,hz,?_,wf_i64 hw⟩⟩
    have h1:=hD i hi
    have h2:Rows.uptoBulk (D i)=Rows.uptoBulk y0.1+(Rows.uptoBulk y1.1+0)+1:=by
     rw[(Prod.mk.inj hy).1]
     simp[Rows.uptoBulk,Rows.uptoBulkAll]
    omega
  exact⟨(0,0),fun h=>absurd h hi⟩
 obtain⟨Q,hQ⟩:=Classical.skolem.1 hex
 refine⟨(List.range len).map Q,⟨by simp,.inr ⟨b0,off,rfl,?_,fun i hi=> ?_⟩⟩,hlen⟩
 ·obtain⟨_,_,_,_,c0,_⟩:=hQ 0 h0
  exact World.block_lt_of_cell? W ⟨b0,off+0*3,none⟩ c0
 have hi':i<len:=by simpa using hi
 simpa using hQ i hi'
theorem open_parts {H:Type}{enc:TypeId × Value→H}{a:Option Addr}{len cap:Nat}{d:DataW H}{p:List MemPlace}(h:DataW.Trod enc Tryz.prog W 0 (fun _=>true) true 23 (.slice a len cap) d p):
  ∃ps,Pr W a len ps (Rows.uptoBulk d)∧len≤Rows.uptoBulk d:=open_pr Tryz.underlying23 Tryz.underlying117 cellsPart rfl rfl rfl rfl h
theorem open_values {H:Type}{enc:TypeId × Value→H}{base:Nat}{v:Value}{d:DataW H}{p:List MemPlace}(h:DataW.Trod enc Tryz.prog W 0 (fun _=>true) true 29 v d p)(hv:Value.okWide Tryz.prog W .any base 29 v):
  ∃a len cap ps,v= .slice a len cap∧Pr W a len ps (Rows.uptoBulk d)∧len≤Rows.uptoBulk d∧(a=none→len=0∧cap=0):=by
 obtain⟨a,len,cap,rfl⟩:=okWide_slice Tryz.underlying29 hv
 obtain⟨ps,h1,h2⟩:=open_pr Tryz.underlying29 Tryz.underlying40 cellsValue rfl rfl rfl rfl h
 refine⟨a,len,cap,ps,rfl,h1,h2,fun e=> ?_⟩
 obtain⟨fuel,hf⟩:=h
 rcases open_slice Tryz.underlying29 hf with⟨hcs,hx⟩|⟨a0,l0,cap0,m,n',D,Pl,hcs,_⟩
 ·simp[Value.cells]at hcs
  exact⟨hcs.2.1,hcs.2.2⟩
 simp[Value.cells]at hcs
 rw[e]at hcs
 cases hcs.1
theorem open_term {H:Type}{enc:TypeId × Value→H}{base:Nat}{v:Value}{d:DataW H}{p:List MemPlace}(hv:Value.okWide Tryz.prog W .any base 28 v)(h:DataW.Trod enc Tryz.prog W 0 (fun _=>true) true 28 v d p):
  ∃ad n cp s a l c ps k,v= .agg #[.slice ad n cp,.bool s,.slice a l c]∧Pr W ad n ps (Rows.uptoBulk d)∧Zm W s a l c k∧l≤Rows.uptoBulk d∧n≤Rows.uptoBulk d:=by
 obtain⟨cs,rfl,hsz⟩:=okWide_struct Tryz.underlying28 hv
 obtain⟨c0,c1,c2,rfl⟩:=array3 (hsz.trans cellsTerm)
 obtain⟨fuel,hf⟩:=h
 obtain⟨y0,y1,n,hx,_,h0,h1⟩:=trod_struct2 Tryz.underlying28 hf
 simp[cellsP,cellsInt,Value.cells]at h0 h1
 obtain⟨s,a,l,c,z,rfl,rfl,hz,hl⟩:=open_zc h1
 obtain⟨ad,len,cap,hs⟩:=slice_form Tryz.underlying23 h0
 simp at hs
 subst hs
 obtain⟨ps,hP,hlen⟩:=open_parts (d:=y0.1) (p:=y0.2) ⟨n,by simpa [Value.cells] using h0⟩
 have e:Rows.uptoBulk d=Rows.uptoBulk y0.1+(Rows.uptoBulk y1.1+0)+1:=by
  rw[(Prod.mk.inj hx).1]
  simp[Rows.uptoBulk,Rows.uptoBulkAll]
 exact⟨ad,len,cap,s,a,l,c,ps,z,rfl,hP.mono o_m,hz,by omega,by omega⟩
end Go.Proofs.YtbgpddlcfiiiaaaGreatDoor.Fv
