/-
 Several texts in one: Fp,Fq.
-/
import Derived.Test.YtaafoppaepcaeaaGreatRows
import Derived.Test.YtaafoppaepcaeaaGreatCd16
import Derived.ProofKit
import Derived.OpenShut
import Derived.JoinedCond
import Derived.Carry
import Derived.Lib.SmallJoins
import Derived.Deep.Slices
import Derived.Deep.Strs
set_option maxRecDepth 100000
namespace Go.Proofs.YtaafoppaepcaeaaGreat.Fp
open Go.ChangeShapes Go.WideShapes Go.ChangeAt Go.RowKit Go.Joins Go.Deep Go.Proofs.YtaafoppaepcaeaaGreat.Pd

variable {W:World}{base:Nat}
theorem own :ownKnob Tryz.prog.godebug=none:=by kernel_rfl
theorem cells32 :Tryz.prog.cellsOf 60=1:=by kernel_rfl
theorem cellsInt :Tryz.prog.cellsOf 38=2:=by kernel_rfl
theorem cellsI :Tryz.prog.cellsOf 3=1:=by kernel_rfl
theorem cellsB :Tryz.prog.cellsOf 4=1:=by kernel_rfl
theorem cellsM :Tryz.prog.cellsOf 36=1:=by kernel_rfl

theorem wf32 {z:Int}(h:(Lit.int .u32 z).wf=true):0≤z∧z<4294967296:=by
 have:=bounds_u32 h
 omega
theorem bulk_one {H:Type}(d:DataW H):1≤Rows.uptoBulk d:=by
 cases d with
 |lit l=>cases l <;> simp[Rows.uptoBulk]
 |nil=>simp[Rows.uptoBulk]
 |ptr d=>simp[Rows.uptoBulk]
 |slice elems spare=>simp[Rows.uptoBulk]
 |agg parts=>simp[Rows.uptoBulk]
 |iface t d=>simp[Rows.uptoBulk]
 |map entries=>simp[Rows.uptoBulk]
 |held h=>simp[Rows.uptoBulk]
theorem bulk_len {H:Type}(l:List (DataW H)):l.length≤Rows.uptoBulkAll l:=by
 induction l with
 |nil=>simp[Rows.uptoBulkAll]
 |cons x r ih=>have:=bulk_one x;simp only[Rows.uptoBulkAll,List.length_cons];omega
theorem bulk_slice {H:Type}(elems spare:List (DataW H)):elems.length≤Rows.uptoBulk (.slice elems spare):=by
 have h1:=bulk_len elems
 simp only[Rows.uptoBulk]
 omega
theorem bulk_mem {H:Type}{l:List (DataW H)}{d:DataW H}(h:d∈l):Rows.uptoBulk d≤Rows.uptoBulkAll l:=by
 induction l with
 |nil=>cases h
 |cons x r ih=>
  simp only[Rows.uptoBulkAll]
  rcases List.mem_cons.1 h with rfl|h
  ·omega
  have:=ih h;omega
theorem bulk_bound {H:Type}{l:List (DataW H)}(hk:Rows.uptoSmall H l=true):Rows.uptoBulkAll l≤1048576:=of_decide_eq_true hk
theorem laidOut :laidOutB Tryz.prog=true:=by kernel_rfl

theorem open_nm {H:Type}{enc:TypeId × Value→H}{a:Option Addr}{len cap:Nat}{d:DataW H}{p:List MemPlace}(h:DataW.Trod enc Tryz.prog W 0 (fun _=>true) true 36 (.slice a len cap) d p):
  (∃xs,Rd W a len cap xs)∧len≤Rows.uptoBulk d:=by
 obtain⟨fuel,hf⟩:=h
 rcases open_ints Tryz.underlying36 Tryz.underlying60 cells32 hf with⟨hcs,hx⟩|⟨x,l,c,zs,hcs,_,hl,hm,hz,hx,hcell,hwz⟩
 ·simp[Value.cells]at hcs
  obtain⟨rfl,rfl,rfl⟩:=hcs
  exact⟨⟨[],rfl,Nat.le_refl _,by decide,fun _ h=>(by cases h),.inl ⟨rfl,rfl,rfl⟩⟩,Nat.zero_le _⟩
 simp[Value.cells]at hcs
 obtain⟨rfl,rfl,rfl⟩:=hcs
 have hzl:zs.length=cap:=by simpa using hz
 refine⟨⟨zs.take len,?_⟩,?_⟩
 ·refine⟨by rw[List.length_take];omega,hl,by unfold maxLen at hm;omega,fun z hz'=>wf32 (hwz z (List.mem_of_mem_take hz')),.inr ⟨_,rfl,?_⟩⟩
  rcases Nat.eq_zero_or_pos len with h0|h0
  ·exact .inl h0
  obtain⟨b,off,rfl,hc⟩:=ints_at hcell o_m
  refine .inr ⟨b,off,rfl,World.block_lt_of_cell? W ⟨b,off+0,none⟩ (hc 0 o_m),fun i hi=> ?_⟩
  rw[lz_take,if_pos hi]
  exact hc i o_m
 simp only[Prod.mk.injEq]at hx
 obtain⟨rfl,_⟩:=hx
 have hb:=bulk_slice (H:=H) (lits .u32 (zs.take len)) (lits .u32 (zs.drop len))
 have hl2:(lits (H:=H) .u32 (zs.take len)).length=len:=by simp only[lits,List.length_map,List.length_take];omega
 omega


theorem wf_i64 {v:Int}(h:(Lit.int .i64 v).wf=true): -9223372036854775808≤v∧v≤9223372036854775807:=by
 simp[Lit.wf,IntKind.min,IntKind.max,IntKind.bits,IntKind.signed]at h
 omega
theorem open_zc {H:Type}{enc:TypeId × Value→H}{n:Nat}{v0 v1:Value}{x:DataW H × List MemPlace}(h:DataW.trod enc Tryz.prog W 0 (fun _=>true) true n 38 [v0,v1]=some x):
  ∃s a l c z,v0= .bool s∧v1= .slice a l c∧Zm W s a l c z∧l≤Rows.uptoBulk x.1:=by
 obtain⟨y0,y1,m,rfl,_,h0,h1⟩:=trod_struct2 Tryz.underlying38 h
 simp[cellsB,cellsM]at h0 h1
 obtain⟨a,len,cap,hs⟩:=slice_form Tryz.underlying36 h1
 obtain⟨b,hb,-⟩:=DataW.trod_bool Tryz.underlying4 h0
 simp at hs hb
 subst hs hb
 obtain⟨⟨xs,hr⟩,hk⟩:=open_nm (d:=y1.1) (p:=y1.2) ⟨m,by simpa [Value.cells] using h1⟩
 refine⟨b,a,len,cap,_,rfl,rfl,⟨_,⟨xs,hr,rfl⟩,rfl⟩,?_⟩
 simp only[Rows.uptoBulk,Rows.uptoBulkAll]
 omega

theorem t5 {P:Program}{H:Type}{enc:TypeId × Value→H}{w:World}{spare:Nat→Bool}{held:Bool}{t:TypeId}{g0 g1 g2 g3 g4:Field}{fuel:Nat}{cs:List Value}{x:DataW H × List MemPlace}(ht:P.underlying t=some (.struct #[g0,g1,g2,g3,g4]))(h:DataW.trod enc P w base spare held fuel t cs=some x):
  ∃y0 y1 y2 y3 y4 n,x.1= .agg [y0.1,y1.1,y2.1,y3.1,y4.1]∧DataW.trod enc P w base spare held n g0.type ((cs.drop g0.offset).take (P.cellsOf g0.type))=some y0∧DataW.trod enc P w base spare held n g1.type ((cs.drop g1.offset).take (P.cellsOf g1.type))=some y1∧
   DataW.trod enc P w base spare held n g2.type ((cs.drop g2.offset).take (P.cellsOf g2.type))=some y2∧DataW.trod enc P w base spare held n g3.type ((cs.drop g3.offset).take (P.cellsOf g3.type))=some y3∧DataW.trod enc P w base spare held n g4.type ((cs.drop g4.offset).take (P.cellsOf g4.type))=some y4:=by
 obtain⟨xs,n,_,rfl,-,hlen,hf⟩:=DataW.trod_struct ht h
 match xs,hlen with
 | [y0,y1,y2,y3,y4],_=>exact⟨y0,y1,y2,y3,y4,n,by simp,by simpa using hf 0 g0 rfl,by simpa using hf 1 g1 rfl,by simpa using hf 2 g2 rfl,by simpa using hf 3 g3 rfl,by simpa using hf 4 g4 rfl⟩
theorem cellsMake :Tryz.prog.cellsOf 40=7:=by kernel_rfl
theorem open_mk {H:Type}{enc:TypeId × Value→H}{v:Value}{d:DataW H}{p:List MemPlace}(hv:Value.okWide Tryz.prog W .any base 22 v)(h:DataW.Trod enc Tryz.prog W 0 (fun _=>true) true 22 v d p)(hbulk:Rows.uptoBulk d≤1048576):
  ∃a len cap R,v= .slice a len cap∧MLs W a len R∧len≤1048576:=by
 obtain⟨a,len,cap,rfl⟩:=okWide_slice Tryz.underlying22 hv
 refine⟨a,len,cap,?_⟩
 obtain⟨fuel,hf⟩:=h
 rcases open_slice Tryz.underlying22 hf with⟨hcs,hx⟩|⟨a0,l0,cap0,m,n',D,Pl,hcs,hb,hle,hcap,hm,hx,hall⟩
 ·simp[Value.cells]at hcs
  obtain⟨rfl,rfl,rfl⟩:=hcs
  exact⟨[],rfl,⟨rfl,.inl rfl⟩,by decide⟩
 simp[Value.cells]at hcs
 obtain⟨rfl,rfl,rfl⟩:=hcs
 have hml:len≤m:=by
  rw[hm]
  split
  ·exact hle
  exact Nat.le_refl _
 obtain⟨rfl,-⟩:=Prod.mk.inj hx
 have hlen:len≤Rows.uptoBulk (DataW.slice ((List.range len).map D) ((List.range (m-len)).map fun j=>D (len+j))):=by
  have:=bulk_slice ((List.range len).map D) ((List.range (m-len)).map fun j=>D (len+j))
  simpa using this
 have hD: ∀i,i<len→Rows.uptoBulk (D i)≤Rows.uptoBulk (DataW.slice ((List.range len).map D) ((List.range (m-len)).map fun j=>D (len+j))):=fun i hi=>by
  have:=bulk_mem (List.mem_map.2 ⟨i,List.mem_range.2 hi,rfl⟩:D i∈(List.range len).map D)
  simp only[Rows.uptoBulk]
  omega
 generalize Rows.uptoBulk (DataW.slice ((List.range len).map D) ((List.range (m-len)).map fun j=>D (len+j)))=bk at*
 rcases Nat.eq_zero_or_pos len with h0|h0
 ·subst h0
  exact⟨[],rfl,⟨rfl,.inl rfl⟩,by decide⟩
 obtain⟨b0,off,spot⟩:=a0
 have hsp:spot=none:=by
  obtain⟨cs',hc,_⟩:=hall 0 o_m
  rw[cellsMake]at hc
  obtain⟨_,hl3,hcell⟩:=World.cells?_some hc
  match cs',hl3 with
  | [v0,v1,v2,v3,v4,v5,v6],_=>
   have e0:=hcell 0 o_m
   simpa [Addr.add] using World.cell?_spot e0
 subst hsp
 have hex: ∀i,∃q:MkD,i<len→∃zk zd,MKc W b0 (off+i*7) q zk zd:=by
  intro i
  by_cases hi:i<len
  ·obtain⟨cs',hc,htr⟩:=hall i o_m
   rw[cellsMake]at hc
   obtain⟨_,hl3,hcell⟩:=World.cells?_some hc
   obtain⟨y0,y1,y2,y3,y4,k,hy,g0,g1,g2,g3,g4⟩:=t5 Tryz.underlying40 htr
   match cs',hl3 with
   | [v0,v1,v2,v3,v4,v5,v6],_=>
    simp[cellsI,cellsInt]at g0 g1 g2 g3 g4
    obtain⟨kd,hk,-,hwk⟩:=DataW.trod_int Tryz.underlying3 g0
    obtain⟨va,ha,-,hwa⟩:=DataW.trod_int Tryz.underlying3 g1
    obtain⟨vb,hvb,-,hwb⟩:=DataW.trod_int Tryz.underlying3 g2
    simp at hk ha hvb
    subst hk ha hvb
    obtain⟨s1,a1,l1,c1,z1,rfl,rfl,hz1,hl1⟩:=open_zc g3
    obtain⟨s2,a2,l2,c2,z2,rfl,rfl,hz2,hl2⟩:=open_zc g4
    have e0:=hcell 0 o_m
    have e1:=hcell 1 o_m
    have e2:=hcell 2 o_m
    have e3:=hcell 3 o_m
    have e4:=hcell 4 o_m
    have e5:=hcell 5 o_m
    have e6:=hcell 6 o_m
    rw[Addr.add_lit,Addr.add_lit]at e0 e1 e2 e3 e4 e5 e6
    have h1:=hD i hi
    have h2:Rows.uptoBulk (D i)=Rows.uptoBulk y0.1+(Rows.uptoBulk y1.1+(Rows.uptoBulk y2.1+(Rows.uptoBulk y3.1+(Rows.uptoBulk y4.1+0))))+1:=by
     rw[show D i=_ from hy]
     simp[Rows.uptoBulk,Rows.uptoBulkAll]
    exact⟨⟨kd,va,vb,z1,z2⟩,fun _=>⟨⟨s1,a1,l1,c1⟩,⟨s2,a2,l2,c2⟩,⟨e0,e1,e2,e3,e4,e5,e6,hz1,by show l1≤1048576;omega,hz2,by show l2≤1048576;omega,wf_i64 hwk,wf_i64 hwa,wf_i64 hwb⟩⟩⟩
  exact⟨⟨0,0,0,0,0⟩,fun h=>absurd h hi⟩
 obtain⟨Q,hQ⟩:=Classical.skolem.1 hex
 have hb0:b0<W.heap.size:=by
  obtain⟨_,_,g0⟩:=hQ 0 h0
  exact World.block_lt_of_cell? W _ g0.c0
 refine⟨(List.range len).map Q,rfl,⟨by simp,.inr ⟨b0,off,rfl,hb0,fun i hi=> ?_⟩⟩,by omega⟩
 have hi':i<len:=by simpa using hi
 simpa using hQ i hi'

theorem t4 {P:Program}{H:Type}{enc:TypeId × Value→H}{w:World}{spare:Nat→Bool}{held:Bool}{t:TypeId}{g0 g1 g2 g3:Field}{fuel:Nat}{cs:List Value}{x:DataW H × List MemPlace}(ht:P.underlying t=some (.struct #[g0,g1,g2,g3]))(h:DataW.trod enc P w base spare held fuel t cs=some x):
  ∃y0 y1 y2 y3 n,x.1= .agg [y0.1,y1.1,y2.1,y3.1]∧DataW.trod enc P w base spare held n g0.type ((cs.drop g0.offset).take (P.cellsOf g0.type))=some y0∧DataW.trod enc P w base spare held n g1.type ((cs.drop g1.offset).take (P.cellsOf g1.type))=some y1∧
   DataW.trod enc P w base spare held n g2.type ((cs.drop g2.offset).take (P.cellsOf g2.type))=some y2∧DataW.trod enc P w base spare held n g3.type ((cs.drop g3.offset).take (P.cellsOf g3.type))=some y3:=by
 obtain⟨xs,n,_,rfl,-,hlen,hf⟩:=DataW.trod_struct ht h
 match xs,hlen with
 | [y0,y1,y2,y3],_=>exact⟨y0,y1,y2,y3,n,by simp,by simpa using hf 0 g0 rfl,by simpa using hf 1 g1 rfl,by simpa using hf 2 g2 rfl,by simpa using hf 3 g3 rfl⟩
theorem array7 {cs:Array Value}(h:cs.size=7): ∃c0 c1 c2 c3 c4 c5 c6,cs= #[c0,c1,c2,c3,c4,c5,c6]:=by
 obtain⟨l⟩:=cs
 match l,h with
 | [c0,c1,c2,c3,c4,c5,c6],_=>exact⟨c0,c1,c2,c3,c4,c5,c6,rfl⟩
theorem cellsLook :Tryz.prog.cellsOf 49=7:=by kernel_rfl
theorem open_look {H:Type}{enc:TypeId × Value→H}{v:Value}{d:DataW H}{p:List MemPlace}(hv:Value.okWide Tryz.prog W .any base 49 v)(h:DataW.Trod enc Tryz.prog W 0 (fun _=>true) true 49 v d p):
  ∃(k:Int) (za zb zc:ZV) (x y z:Int),v= .agg #[.int .i64 k,.bool za.s,.slice za.a za.l za.c,.bool zb.s,.slice zb.a zb.l zb.c,.bool zc.s,.slice zc.a zc.l zc.c]∧Iw k∧Zm W za.s za.a za.l za.c x∧za.l≤Rows.uptoBulk d∧Zm W zb.s zb.a zb.l zb.c y∧zb.l≤Rows.uptoBulk d∧Zm W zc.s zc.a zc.l zc.c z∧zc.l≤Rows.uptoBulk d:=by
 obtain⟨cs,rfl,hsz⟩:=okWide_struct Tryz.underlying49 hv
 obtain⟨c0,c1,c2,c3,c4,c5,c6,rfl⟩:=array7 (hsz.trans cellsLook)
 obtain⟨fuel,hf⟩:=h
 obtain⟨y0,y1,y2,y3,n,rfl,h0,h1,h2,h3⟩:=t4 Tryz.underlying49 hf
 simp[cellsI,cellsInt,Value.cells]at h0 h1 h2 h3
 obtain⟨i,hi,-,wi⟩:=DataW.trod_int Tryz.underlying3 h0
 simp at hi
 subst hi
 obtain⟨s1,a1,l1,e1,z1,rfl,rfl,hz1,hl1⟩:=open_zc h1
 obtain⟨s2,a2,l2,e2,z2,rfl,rfl,hz2,hl2⟩:=open_zc h2
 obtain⟨s3,a3,l3,e3,z3,rfl,rfl,hz3,hl3⟩:=open_zc h3
 refine⟨i,⟨s1,a1,l1,e1⟩,⟨s2,a2,l2,e2⟩,⟨s3,a3,l3,e3⟩,z1,z2,z3,rfl,wf_i64 wi,hz1,?_,hz2,?_,hz3,?_⟩ <;> simp only[Rows.uptoBulk,Rows.uptoBulkAll] <;> omega
end Go.Proofs.YtaafoppaepcaeaaGreat.Fp
