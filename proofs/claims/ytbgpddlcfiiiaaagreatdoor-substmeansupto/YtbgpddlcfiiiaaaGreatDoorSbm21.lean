/-
 Several texts in one: YJ,YU,YV,YVP,YA,YB,YC,YD.
-/
import Derived.Test.YtbgpddlcfiiiaaaGreatDoorSbm20
import Derived.Laws.CopyRow
import Derived.Test.YtbgpddlcfiiiaaaGreatDoorSbm12
set_option maxRecDepth 100000
set_option maxHeartbeats 6400000
namespace Go.Proofs.YtbgpddlcfiiiaaaGreatDoor
open Go.RowKit Go.Sort Go.Shelf
open Tm

variable {w w':World}{g base n cap:Nat}{L:List Raw}{v:Value}
def zr :Raw:=⟨0,false,none,0,0,0⟩
def RB (w:World)(g:Nat)(L:List Raw):Prop:=w.heap[g]? =some (.cells (flat L).toArray 117 (0,0))
theorem RB.lt (h:RB w g L):g<w.heap.size:=(Array.getElem?_eq_some_iff.1 h).1
theorem RB.below (h:RB w g L)(hb:Below w.heap.size w w'):RB w' g L:=(hb.block g h.lt).trans h
theorem RB.grown {m:Nat}(h:RB w g L)(hg:w.grownBy w' (some m))(hm:g≠m):RB w' g L:=(hg.block g h.lt (by simpa using hm)).trans h
theorem RB.cell (h:RB w g L){i c:Nat}(hi:i<L.length)(hc:c<3):w.cell? ⟨g,i*3+c,none⟩=(L[i]).enc[c]?:=by
 rw[cell_of_row w g (i*3+c) _ _ (0,0) h,←flat_get L i c hi hc]
 simp
theorem RB.c0 (h:RB w g L){i:Nat}(hi:i<L.length):w.cell? ⟨g,i*3,none⟩=some (.int .i64 (L[i]).v):=by simpa [Raw.enc] using h.cell hi (c:=0) (by decide)
theorem RB.c1 (h:RB w g L){i:Nat}(hi:i<L.length):w.cell? ⟨g,i*3+1,none⟩=some (.bool (L[i]).s):=by simpa [Raw.enc] using h.cell hi (c:=1) (by decide)
theorem RB.c2 (h:RB w g L){i:Nat}(hi:i<L.length):w.cell? ⟨g,i*3+2,none⟩=some (.slice (L[i]).a (L[i]).l (L[i]).c):=by simpa [Raw.enc] using h.cell hi (c:=2) (by decide)
theorem RB.noU (h:RB w g L):NoU w g:=by
 intro off x hx
 rw[cell_of_row w g off _ _ (0,0) h]at hx
 have hm:(Value.int .u32 x)∈flat L:=by
  have:(flat L)[off]? =some (.int .u32 x):=by simpa using hx
  exact List.mem_of_getElem? this
 obtain⟨r,_,hr⟩:=List.mem_flatMap.1 hm
 simp[Raw.enc]at hr
theorem flat_append (xs ys:List Raw):flat (xs++ys)=flat xs++flat ys:=by simp[flat]
theorem flat_take (L:List Raw): ∀k,(flat L).take (k*3)=flat (L.take k):=by
 induction L with
 |nil=>intro k;simp[flat]
 |cons x L ih=>
  intro k
  cases k with
  |zero=>simp[flat]
  |succ k=>
   have e:flat (x::L)=x.enc++flat L:=by simp[flat]
   rw[e,List.take_succ_cons,show flat (x::L.take k)=x.enc++flat (L.take k)by simp[flat],←ih k]
   have hl:x.enc.length=3:=rfl
   rw[List.take_append,List.take_of_length_le o_m,hl,show(k+1)*3-3=k*3 by omega]
theorem flat_drop (L:List Raw): ∀k,(flat L).drop (k*3)=flat (L.drop k):=by
 induction L with
 |nil=>intro k;simp[flat]
 |cons x L ih=>
  intro k
  cases k with
  |zero=>simp[flat]
  |succ k=>
   have e:flat (x::L)=x.enc++flat L:=by simp[flat]
   rw[e,List.drop_succ_cons,←ih k]
   have hl:x.enc.length=3:=rfl
   rw[List.drop_append,List.drop_eq_nil_of_le o_m,hl,show(k+1)*3-3=k*3 by omega,List.nil_append]
theorem flat_one (u:Value)(L:List Raw)(h:u∈flat L):u.oneCell'=true:=by
 obtain⟨r,_,hr⟩:=List.mem_flatMap.1 h
 exact v3_one _ _ _ _ _ u hr
theorem zero_get3 (z:Array Value)(k j:Nat)(h:j<k*z.size):(Builtin.zeroCells z k)[j]? =some z[j%z.size]!:=by
 simp[Builtin.zeroCells,h]
theorem zeroP (k:Nat):Builtin.zeroCells (Value.agg #[.int .i64 0,.bool false,.slice none 0 0]).cells k=(flat (List.replicate k zr)).toArray:=by
 apply Array.ext'
 apply List.ext_getElem?
 intro j
 by_cases hj:j<k*3
 ·have h1:(flat (List.replicate k zr))[j]? =(zr.enc)[j%3]?:=by
   have:=flat_get (List.replicate k zr) (j / 3) (j%3) (by simp;omega) (Nat.mod_lt _ (by decide))
   rw[show j / 3*3+j%3=j from by omega]at this
   rw[this]
   simp
  rw[List.toList_toArray,h1,Array.getElem?_toList,zero_get3]
  ·have hm:j%3=0∨j%3=1∨j%3=2:=by omega
   rcases hm with e|e|e <;> simp[Value.cells,e,zr,Raw.enc]
  simpa [Value.cells] using hj
 rw[List.getElem?_eq_none (by simp[Builtin.zeroCells,Value.cells];omega),List.getElem?_eq_none (by rw[List.toList_toArray,flat_length];simp;omega)]

def RS (base:Nat)(w:World)(v:Value)(n cap:Nat)(L:List Raw):Prop:=
 (v= .slice none 0 0∧n=0∧cap=0∧L= [])∨ ∃g,v= .slice (some ⟨g,0,none⟩) n cap∧base≤g∧RB w g L∧L.length=cap∧n≤cap∧cap≤maxLen

theorem RS.row (h:RS base w v n cap L): ∃ad,v= .slice ad n cap:=by
 rcases h with⟨rfl,rfl,rfl,_⟩|⟨g,rfl,_⟩
 ·exact⟨_,rfl⟩
 exact⟨_,rfl⟩

theorem RS.below (h:RS base w v n cap L)(hb:Below w.heap.size w w'):RS base w' v n cap L:=by
 rcases h with h|⟨g,h1,h2,h3,h4⟩
 ·exact .inl h
 exact .inr ⟨g,h1,h2,h3.below hb,h4⟩
theorem run_append_rs {w0:World}(h:RS w0.heap.size w v n cap L)(hb:Below w0.heap.size w0 w)(x:Raw)(a:Addr)(ha: ∀j u,(x.enc)[j]? =some u→w.cell? (a.add j)=some u)(hn:n≤1073741824)(ty:TypeId):
  ∃v' w',(Builtin.append_ #[23,23] ty #[v,.slice (some a) 1 1]).run Tryz.prog w= .ok v' w'∧∃cap' L',RS w0.heap.size w' v' (n+1) cap' L'∧L'.take (n+1)=L.take n++ [x]∧(∀y∈L',y∈L∨y=x∨y=zr)∧Below w0.heap.size w0 w'∧w.grownBy w' v.ownBlock∧(v'.ownBlock=v.ownBlock∨v'.ownBlock=some w.heap.size):=by
 obtain⟨i0,hi,hz0,hz1,hz2⟩:=info_parts infoP
 have hxl:x.enc.length=1*i0.size:=by rw[hz1];rfl
 have hx1: ∀u∈x.enc,u.oneCell'=true:=v3_one _ _ _ _ _
 have hfx:x.enc=flat [x]:=by simp[flat]
 rcases h with⟨rfl,rfl,rfl,rfl⟩|⟨g,rfl,hg,hr,hl,hnc,hcm⟩
 ·have hr:=run_append_nil (P:=Tryz.prog) w 23 ty 117 i0 _ Tryz.underlying23 hi hz0 a 1 1 x.enc hxl ha (by decide) (by decide) (by rw[hz2];decide)
  have hge:=grownCap_ge w 1 0 117
  have hcm:=grownCap_le_maxLen w 1 0 117 (by unfold maxLen;decide)
  rw[zeroP,hfx,List.append_toArray,←flat_append]at hr
  refine⟨_,_,hr,_,_,.inr ⟨_,rfl,hb.size,heap_alloc_new w.drew _,by simp;omega,hge,hcm⟩,by simp,fun y hy=> ?_,below_drew_alloc hb _,grown_drew_alloc w _ _,.inr rfl⟩
  rcases List.mem_append.1 hy with h|h
  ·exact .inr (.inl (List.mem_singleton.1 h))
  exact .inr (.inr (List.eq_of_mem_replicate h))
 by_cases hroom:n+1≤cap
 ·have hr':=run_append_room (P:=Tryz.prog) w 23 ty 117 i0 Tryz.underlying23 hi g n cap (flat L).toArray hr a 1 1 x.enc hxl ha hx1 hroom (by rw[hz1];simp[flat_length];rw[show x.enc.length=3 from rfl];omega)
  have e1:((flat L).toArray.toList.take (n*i0.size)++x.enc++(flat L).toArray.toList.drop (n*i0.size+x.enc.length))=flat (L.take n++ [x]++L.drop (n+1)):=by
   rw[hz1,show x.enc.length=3 from rfl,show n*3+3=(n+1)*3 by omega]
   dsimp only
   rw[flat_take,flat_drop,flat_append,flat_append,hfx]
  rw[e1]at hr'
  refine⟨_,_,hr',cap,L.take n++ [x]++L.drop (n+1),.inr ⟨g,rfl,hg,setRow_heap w g _ _ _ _ hr,by simp;omega,hroom,hcm⟩,?_,fun y hy=> ?_,hb.trans ⟨rfl,rfl,rfl,by simp,fun k hk=>setRow_other w g k _ o_m⟩,⟨rfl,rfl,rfl,by simp,fun k _ hk=>setRow_other w g k _ (fun e=>hk (by simp[Value.ownBlock,e]))⟩,.inl rfl⟩
  ·have e:(L.take n++ [x]).length=n+1:=by simp;omega
   rw[←e,List.take_left]
  rcases List.mem_append.1 hy with h|h
  ·rcases List.mem_append.1 h with h|h
   ·exact .inl (List.mem_of_mem_take h)
   exact .inr (.inl (List.mem_singleton.1 h))
  exact .inl (List.mem_of_mem_drop h)
 have holds: ∀j u,(flat (L.take n))[j]? =some u→w.cell? ((⟨g,0,none⟩:Addr).add j)=some u:=fun j u hu=>by
  rw[Addr.add_lit,Nat.zero_add,cell_of_row w g j _ _ (0,0) hr]
  rw[←flat_take]at hu
  rw[List.getElem?_take]at hu
  split at hu
  ·simpa using hu
  cases hu
 have hr':=run_append_grow (P:=Tryz.prog) w 23 ty 117 i0 _ Tryz.underlying23 hi hz0 ⟨g,0,none⟩ n cap (flat (L.take n)) (by rw[hz1,flat_length];simp;omega) holds a 1 1 x.enc hxl ha o_m o_m (growslice_fits o_m (by rw[hz2];omega))
 have hge:=grownCap_ge w (n+1) cap 117
 have hcm':=grownCap_le_maxLen w (n+1) cap 117 (by unfold maxLen;omega)
 rw[zeroP,hfx,List.append_toArray,List.append_toArray,←flat_append,←flat_append]at hr'
 refine⟨_,_,hr',_,_,.inr ⟨_,rfl,hb.size,heap_alloc_new w.drew _,by simp;omega,hge,hcm'⟩,?_,fun y hy=> ?_,below_drew_alloc hb _,grown_drew_alloc w _ _,.inr rfl⟩
 ·have e:(L.take n++ [x]).length=n+1:=by simp;omega
  rw[←e,List.take_left]
 rcases List.mem_append.1 hy with h|h
 ·rcases List.mem_append.1 h with h|h
  ·exact .inl (List.mem_of_mem_take h)
  exact .inr (.inl (List.mem_singleton.1 h))
 exact .inr (.inr (List.eq_of_mem_replicate h))

theorem RS.zn (h:RS base w v n cap L)(hg:w.grownBy w' v.ownBlock){s:Bool}{a:Option Addr}{l c:Nat}{z:Int}(hz:Zn w s a l c z):Zn w' s a l c z:=by
 rcases h with⟨rfl,_⟩|⟨g,rfl,_,hr,_⟩
 ·exact hz.below (gb_none hg)
 exact hz.grownU hg hr.noU
end Go.Proofs.YtbgpddlcfiiiaaaGreatDoor

namespace Go.Proofs.YtbgpddlcfiiiaaaGreatDoor.Fresh
open Go.RowKit Go.Sort Go.Shelf
open Tm

variable {F m n cp l c g base cap r B:Nat}{w w':World}{L:List Raw}{ad a:Option Addr}{s:Bool}{v:Value}{k:Int}{ps:List (Int × Int)}
theorem sortW_block {α:Type} [Inhabited α] (enc:α→List Value)(w:World)(g m:Nat)(dk:Array α)(os:Array Obj){cur:Array Value}{ty:TypeId}{fz:Nat × Nat}(h:w.heap[g]? =some (.cells cur ty fz)):
  (sortWorldK enc 3 w g 0 m dk os).heap[g]? =some (.cells (putCells id 0 (flatK enc 3 dk) cur) ty fz):=by
 have hg:g<w.heap.size:=(Array.getElem?_eq_some_iff.1 h).1
 simp only[sortWorldK,grow,putRowK,putRow,mapBlock,Sort.ahead]
 rw[Array.getElem?_append_left (by simpa using hg),Array.getElem?_modify,if_pos rfl,h]
 rfl
theorem putCells_past (d:Array Value)(cur:Array Value)(j:Nat)(h:d.size≤j):(putCells id 0 d cur)[j]? =cur[j]?:=by
 simp only[putCells,Array.getElem?_mapIdx]
 cases cur[j]? with
 |none=>rfl
 |some x=>simp only[Option.map_some];rw[if_neg o_m]

def New (F:Nat)(w:World)(L:List Raw):Prop:=∀x∈L,x.l≤x.c∧Fr F w x.a x.c
theorem New.below (h:New F w L)(hb:Below w.heap.size w w'):New F w' L:=fun x hx=>⟨(h x hx).1,(h x hx).2.below hb⟩
theorem New.grownN (h:New F w L)(hg:w.grownBy w' (some m))(hm:NR w m):New F w' L:=fun x hx=>⟨(h x hx).1,(h x hx).2.grownN hg hm⟩
theorem nr_cells {cs:Array Value}{ty:TypeId}{fz:Nat × Nat}(h:w.heap[m]? =some (.cells cs ty fz))(ht:ty≠170):NR w m:=fun xs hr=>by
 have e:=Option.some.inj (h.symm.trans hr)
 injection e with _ e2 _
 exact ht e2
theorem nr_tb {b:Nat}(h:TB w b ad n cp s a l c):NR w b:=nr_cells h (by decide)
theorem rb_tb {b:Nat}(h:RB w g L)(y:TB w b ad n cp s a l c):g≠b:=by
 rintro rfl
 have e:=Option.some.inj ((show w.heap[g]? =_ from h).symm.trans y)
 injection e with _ e2 _
 exact absurd e2 (by decide)
def NW (F:Nat)(w:World)(ad:Option Addr)(n cp:Nat)(a:Option Addr)(l c:Nat):Prop:=∃L,RS F w (.slice ad n cp) n cp L∧New F w L∧l≤c∧Fr F w a c
theorem rs_tb {n0:Nat}(h:RS base w v n cap L)(y:TB w r ad n0 cp s a l c)(hg:w.grownBy w' (some r)):RS base w' v n cap L:=by
 rcases h with h|⟨g,e,hb,hr,h⟩
 ·exact .inl h
 exact .inr ⟨g,e,hb,hr.grown hg (rb_tb hr y),h⟩
theorem NW.tb {ad0:Option Addr}{n0 cp0:Nat}{s0:Bool}{a0:Option Addr}{l0 c0:Nat}(h:NW F w ad n cp a l c)(y:TB w r ad0 n0 cp0 s0 a0 l0 c0)(hg:w.grownBy w' (some r)):NW F w' ad n cp a l c:=by
 obtain⟨L,h1,h2,h3,h4⟩:=h
 exact⟨L,rs_tb h1 y hg,h2.grownN hg (nr_tb y),h3,h4.grownN hg (nr_tb y)⟩
theorem rs_own {k:Nat}(h:RS base w v n cap L)(e:v.ownBlock=some k):base≤k∧k<w.heap.size:=by
 rcases h with⟨rfl,_⟩|⟨g,rfl,hb,hr,_⟩
 ·cases e
 cases e
 exact⟨hb,hr.lt⟩
theorem rs_kept (h:RS base w v n cap L)(hg:w.grownBy w' (some r))(hr:r<base):RS base w' v n cap L:=by
 rcases h with h|⟨g,e,hb,hrb,h⟩
 ·exact .inl h
 exact .inr ⟨g,e,hb,hrb.grown hg o_m,h⟩
theorem rb_sorted {w0:World}{rs:List Raw}{cur:Array Value}(hPQ:PQ w0 w' g rs B)(hb:w'.heap[g]? =some (.cells cur 117 (0,0)))(hd: ∀j,n*3≤j→cur[j]? =(flat L).toArray[j]?)(hn:rs.length=n):RB w' g (rs++L.drop n):=by
 have e:cur=(flat (rs++L.drop n)).toArray:=by
  apply Array.ext_getElem?
  intro j
  rw[flat_append,←flat_drop]
  by_cases hj:j<n*3
  ·have hi:j / 3<rs.length:=by omega
   have hc:=cell_of_row w' g j _ _ (0,0) hb
   obtain⟨⟨c0,c1,c2⟩,_⟩:=hPQ.2 (j / 3) hi
   have h3:=flat_get rs (j / 3) (j%3) hi (Nat.mod_lt _ (by decide))
   rw[show j / 3*3+j%3=j from by omega]at h3
   have e4:(flat rs++(flat L).drop (n*3)).toArray[j]? =(rs[j / 3]).enc[j%3]?:=by
    rw[List.getElem?_toArray,List.getElem?_append_left (by rw[flat_length];omega),h3]
   rw[e4,←hc]
   have hm:j%3=0∨j%3=1∨j%3=2:=by omega
   generalize rs[j / 3]=xr at*
   rcases hm with e|e|e
   ·have ej:j=j / 3*3:=by omega
    rw[e,ej,c0];rfl
   ·have ej:j=j / 3*3+1:=by omega
    rw[e,ej,c1];rfl
   have ej:j=j / 3*3+2:=by omega
   rw[e,ej,c2];rfl
  rw[hd j o_m]
  simp only[List.getElem?_toArray]
  rw[List.getElem?_append_right (by rw[flat_length];omega),List.getElem?_drop,flat_length,hn]
  congr 1
  omega
 rw[RB,←e]
 exact hb
theorem sort_w {w0:World}{cur:Array Value}{rs:List Raw}(hn:rs.length=n)(hok: ∀x∈rs,x.ok w0 B)(hB:B≤1099511627776)(hk:Below w0.heap.size w0 w)(hg0:w0.heap.size≤g)
  (hcur:w.heap[g]? =some (.cells cur 117 (0,0)))(hrow:cur.toList.take (n*3)=flat rs)(hd:(rs.map Raw.v).Nodup)(hnb:n≤1099511627776):
  Calls Tryz.prog 103 #[.slice (some ⟨g,0,none⟩) n cap,.func (.func 104) #[] #[]] w fun e w'=>e= .returned (.tuple #[])∧∃rs',rs'.Perm rs∧rs'.Pairwise (fun x y=>x.v<y.v)∧PQ w0 w' g rs' B∧w.grownBy w' (some g)∧∃cur',w'.heap[g]? =some (.cells cur' 117 (0,0))∧cur'.size=cur.size∧∀j,n*3≤j→cur'[j]? =cur[j]?:=by
 obtain⟨_⟩:=inhR w0 B
 have hgl:g<w.heap.size:=(Array.getElem?_eq_some_iff.1 hcur).1
 let d:Array (RawIn w0 B):=(rs.pmap (fun x h=>(⟨x,h⟩:RawIn w0 B)) hok).toArray
 have hds:d.size=n:=by simp[d,hn]
 have hdm:d.toList.map Subtype.val=rs:=by
  simp only[d,List.map_pmap]
  simp
 have hget: ∀i (h:i<rs.length),(d[i]!).1=rs[i]:=by
  intro i h
  have h':i<d.size:=by omega
  rw[getElem!_pos d i h']
  simp[d]
 have hH:HoldsK (encI (w:=w0) (B:=B)) 3 w g 0 d:=by
  intro j hj
  rw[size_flatK]at hj
  have hi:j / 3<rs.length:=by omega
  rw[get_flatK _ _ _ _ hj]
  refine⟨?_,frozen_of_row w g _ _ _ hcur⟩
  have hc:(flat rs)[j]? =some ((rs[j / 3]).enc[j%3]!):=by
   have:=flat_get rs (j / 3) (j%3) hi (Nat.mod_lt _ (by decide))
   rw[show j / 3*3+j%3=j from by omega]at this
   rw[this]
   have hl:(rs[j / 3]).enc.length=3:=rfl
   rw[List.getElem!_eq_getElem?_getD,List.getElem?_eq_getElem o_m]
   rfl
  rw[Nat.zero_add,show(d[j / 3]!)=d[j / 3]! from rfl]
  show w.cell? ⟨g,j,none⟩=some ((d[j / 3]!).1.enc[j%3]!)
  rw[hget _ hi]
  have h2:cur[j]? =some ((rs[j / 3]).enc[j%3]!):=by
   rw[←hc,←hrow,List.getElem?_take,if_pos o_m]
   simp
  exact(cell_of_row w g j _ _ (0,0) hcur).trans h2
 have eg: ∀args w,(callFunc 104 args).run Tryz.prog w= .ok (.enter 104 args) w:=enters_of Tryz.func104 k_f rfl
 have hcon:=AnyQ.slices_SortFunc Tryz.sortP 3 Tryz.isAgg117 Tryz.sizeOf117 (encI (w:=w0) (B:=B)) (fun _=>rfl) (fun x v hv=>by simp[encI,Raw.enc]at hv;rcases hv with rfl|rfl|rfl <;> rfl) ordI (swoI w0 B) 104 #[] g 0 cap d w eg (cmp_lays hB hk hg0) hH hgl o_m
 rw[hds]at hcon
 change Calls Tryz.prog 103 _ _ _ at hcon
 refine hcon.mono ?_
 rintro e w' ⟨rfl,d',m,os,hp,hs,rfl⟩
 have hsz:d'.size=n:=by rw[hp.1,hds]
 have hperm:(d'.toList.map Subtype.val).Perm rs:=by
  have:=hp.2.2
  rw[←hds]at this
  have e1:d.extract 0 d.size=d:=by simp
  have e2:d'.extract 0 d.size=d':=by rw[←hp.1];simp
  rw[e1,e2]at this
  rw[←hdm]
  exact this.map _
 refine⟨rfl,d'.toList.map Subtype.val,hperm,?_,⟨?_,?_⟩,sortW_grown _ _ _ _ _ _,_,sortW_block _ _ _ _ _ _ hcur,by simp[putCells],fun j hj=>putCells_past _ _ _ (by simp[size_flatK,hsz];omega)⟩
 ·have hnd:((d'.toList.map Subtype.val).map Raw.v).Nodup:=(hperm.map Raw.v).nodup_iff.2 hd
  rw[List.pairwise_iff_getElem]
  intro i j hi hj hij
  have hi':i<d'.size:=by simpa using hi
  have hj':j<d'.size:=by simpa using hj
  have h1:=hs i j (Nat.zero_le _) hij o_m
  rw[ltI_false,getElem!_pos d' i hi',getElem!_pos d' j hj']at h1
  have h2:=(List.pairwise_iff_getElem.1 hnd) i j (by simpa using hi) (by simpa using hj) hij
  simp only[List.getElem_map,Array.getElem_toList]at h2 ⊢
  omega
 ·exact Nat.lt_of_lt_of_le hgl (sortW_grown _ _ _ _ _ _).size
 intro i hi
 have hi':i<d'.size:=by simpa using hi
 have hK:=holdsK_sortWorldK_c (encI (w:=w0) (B:=B)) 3 w g 0 d d' m os hH hgl (by rw[hsz,hds])
 have k0:=hK.cell (i:=i) (c:=0) hi' (by decide)
 have k1:=hK.cell (i:=i) (c:=1) hi' (by decide)
 have k2:=hK.cell (i:=i) (c:=2) hi' (by decide)
 have e:(d'.toList.map Subtype.val)[i]=(d'[i]!).1:=by rw[getElem!_pos d' i hi'];simp
 rw[e]
 simp only[Nat.zero_add,Nat.add_zero]at k0 k1 k2
 exact⟨⟨k0.1,k1.1,k2.1⟩,⟨k0.2,k1.2,k2.2⟩,(d'[i]!).2⟩
theorem run_append_rb (h:RS base w v n cap L)(hb:base≤w.heap.size)(x:Raw)(a:Addr)(ha: ∀j u,(x.enc)[j]? =some u→w.cell? (a.add j)=some u)(hn:n≤1073741824)(ty:TypeId):
  ∃v' w',(Builtin.append_ #[23,23] ty #[v,.slice (some a) 1 1]).run Tryz.prog w= .ok v' w'∧∃cap' L',RS base w' v' (n+1) cap' L'∧L'.take (n+1)=L.take n++ [x]∧(∀y∈L',y∈L∨y=x∨y=zr)∧w.grownBy w' v.ownBlock∧(v'.ownBlock=v.ownBlock∨v'.ownBlock=some w.heap.size):=by
 obtain⟨i0,hi,hz0,hz1,hz2⟩:=info_parts infoP
 have hxl:x.enc.length=1*i0.size:=by rw[hz1];rfl
 have hx1: ∀u∈x.enc,u.oneCell'=true:=v3_one _ _ _ _ _
 have hfx:x.enc=flat [x]:=by simp[flat]
 rcases h with⟨rfl,rfl,rfl,rfl⟩|⟨g,rfl,hg,hr,hl,hnc,hcm⟩
 ·have hr:=run_append_nil (P:=Tryz.prog) w 23 ty 117 i0 _ Tryz.underlying23 hi hz0 a 1 1 x.enc hxl ha (by decide) (by decide) (by rw[hz2];decide)
  have hge:=grownCap_ge w 1 0 117
  have hcm:=grownCap_le_maxLen w 1 0 117 (by unfold maxLen;decide)
  rw[zeroP,hfx,List.append_toArray,←flat_append]at hr
  refine⟨_,_,hr,_,_,.inr ⟨_,rfl,hb,heap_alloc_new w.drew _,by simp;omega,hge,hcm⟩,by simp,fun y hy=> ?_,grown_drew_alloc w _ _,.inr rfl⟩
  rcases List.mem_append.1 hy with h|h
  ·exact .inr (.inl (List.mem_singleton.1 h))
  exact .inr (.inr (List.eq_of_mem_replicate h))
 by_cases hroom:n+1≤cap
 ·have hr':=run_append_room (P:=Tryz.prog) w 23 ty 117 i0 Tryz.underlying23 hi g n cap (flat L).toArray hr a 1 1 x.enc hxl ha hx1 hroom (by rw[hz1];simp[flat_length];rw[show x.enc.length=3 from rfl];omega)
  have e1:((flat L).toArray.toList.take (n*i0.size)++x.enc++(flat L).toArray.toList.drop (n*i0.size+x.enc.length))=flat (L.take n++ [x]++L.drop (n+1)):=by
   rw[hz1,show x.enc.length=3 from rfl,show n*3+3=(n+1)*3 by omega]
   dsimp only
   rw[flat_take,flat_drop,flat_append,flat_append,hfx]
  rw[e1]at hr'
  refine⟨_,_,hr',cap,L.take n++ [x]++L.drop (n+1),.inr ⟨g,rfl,hg,setRow_heap w g _ _ _ _ hr,by simp;omega,hroom,hcm⟩,?_,fun y hy=> ?_,⟨rfl,rfl,rfl,by simp,fun k _ hk=>setRow_other w g k _ (fun e=>hk (by simp[Value.ownBlock,e]))⟩,.inl rfl⟩
  ·have e:(L.take n++ [x]).length=n+1:=by simp;omega
   rw[←e,List.take_left]
  rcases List.mem_append.1 hy with h|h
  ·rcases List.mem_append.1 h with h|h
   ·exact .inl (List.mem_of_mem_take h)
   exact .inr (.inl (List.mem_singleton.1 h))
  exact .inl (List.mem_of_mem_drop h)
 have holds: ∀j u,(flat (L.take n))[j]? =some u→w.cell? ((⟨g,0,none⟩:Addr).add j)=some u:=fun j u hu=>by
  rw[Addr.add_lit,Nat.zero_add,cell_of_row w g j _ _ (0,0) hr]
  rw[←flat_take]at hu
  rw[List.getElem?_take]at hu
  split at hu
  ·simpa using hu
  cases hu
 have hr':=run_append_grow (P:=Tryz.prog) w 23 ty 117 i0 _ Tryz.underlying23 hi hz0 ⟨g,0,none⟩ n cap (flat (L.take n)) (by rw[hz1,flat_length];simp;omega) holds a 1 1 x.enc hxl ha o_m o_m (growslice_fits o_m (by rw[hz2];omega))
 have hge:=grownCap_ge w (n+1) cap 117
 have hcm':=grownCap_le_maxLen w (n+1) cap 117 (by unfold maxLen;omega)
 rw[zeroP,hfx,List.append_toArray,List.append_toArray,←flat_append,←flat_append]at hr'
 refine⟨_,_,hr',_,_,.inr ⟨_,rfl,hb,heap_alloc_new w.drew _,by simp;omega,hge,hcm'⟩,?_,fun y hy=> ?_,grown_drew_alloc w _ _,.inr rfl⟩
 ·have e:(L.take n++ [x]).length=n+1:=by simp;omega
  rw[←e,List.take_left]
 rcases List.mem_append.1 hy with h|h
 ·rcases List.mem_append.1 h with h|h
  ·exact .inl (List.mem_of_mem_take h)
  exact .inr (.inl (List.mem_singleton.1 h))
 exact .inr (.inr (List.eq_of_mem_replicate h))

theorem stand_p {f:Int→Int}(hF:F≤w.heap.size)(hG:GM F w m n f B)(hz:Go.Proofs.YtbgpddlcfiiiaaaGreatDoor.Zm w s a l c k)(hl:l≤1099511627775)(hB:B≤1099511627776)(hn:n≤1073741824):
  Calls Tryz.prog 59 #[.map (some m),.agg #[.bool s,.slice a l c]] w fun e w'=> ∃ad len cap s' a' l' c' rs,e= .returned (.agg #[.slice ad len cap,.bool s',.slice a' l' c'])∧Tr w w' ad len rs B∧len≤n∧Std (rs.map Raw.p)∧(∀v,I64 v→csum (rs.map Raw.p) v=f v)∧Kn w' ad s' a' l' c' k∧l'≤l+1∧Below w.heap.size w w'∧NW F w' ad len cap a' l' c':=by
 obtain⟨D,hown,hGF⟩:=hG
 have hGA:=hGF.old
 replace hGF:=hide hGF
 replace hF:=hide hF
 go_enter Tryz.func59,Tryz.ntmps59
 go_wp2_with(at_range;refine wpList_range_own _ rfl _ 78 rfl 3 26 tk Tryz.underlying78 _ m n D rfl ((hown.alloc _).alloc _) ?_;intro w1 hrg0 hg0 hs0)
 go_frame
 have x:=(zb_new w s a l c).below (below_alloc _ (.cells #[.slice none 0 0,.bool false,.slice none 0 0] 28))
 have y:=tb_new (w.alloc (.cells #[.bool s,.slice a l c] 26)) none 0 0 false none 0 0
 have b0:Below w.heap.size w ((w.alloc (.cells #[.bool s,.slice a l c] 26)).alloc (.cells #[.slice none 0 0,.bool false,.slice none 0 0] 28)):=below_alloc' (below_alloc _ _) _
 rw[show((w.alloc (.cells #[.bool s,.slice a l c] 26)).alloc (.cells #[.slice none 0 0,.bool false,.slice none 0 0] 28)).heap.size=w.heap.size+2 from by simp]at*
 rw[show(w.alloc (.cells #[.bool s,.slice a l c] 26)).heap.size=w.heap.size+1 from by simp]at y
 generalize (w.alloc (.cells #[.bool s,.slice a l c] 26)).alloc (.cells #[.slice none 0 0,.bool false,.slice none 0 0] 28)=wb at*
 replace x:=x.below (gb_none hg0)
 replace y:=y.below (gb_none hg0)
 replace b0:=hide (grow_step (gb_none hg0) b0)
 clear hg0
 have hpq:w.heap.size<w.heap.size+1∧w.heap.size+1<w.heap.size+2∧w.heap.size+2<w1.heap.size:=by omega
 have hsz0:=hrg0.owns.size_le
 have hml:=hide hown.lt
 clear hs0 hown
 generalize hp:w.heap.size=p at*
 replace b0:Hid (Below w.heap.size w w1):=hp▸b0
 replace hml:Hid (m<w.heap.size):=hp▸hml
 replace hF:Hid (F≤w.heap.size):=hp▸hF
 replace hp:=hide hp
 generalize p+1=q at*
 generalize p+2=r at*
 replace hpq:=hide hpq
 go_loopw [5] (fun parts wr=> ∃rs left cnt cap L,wr.ranges Tryz.prog 3 elemR m r n D left cnt∧Hid (RS w1.heap.size wr parts rs.length cap L∧L.take rs.length=rs∧New F w L)∧ZB wr p s a l c∧TB wr q none 0 0 false none 0 0∧Hid (Below w.heap.size w wr∧w1.heap.size≤wr.heap.size∧Col w f B left rs)∧rs.length+cnt≤n) (fun _ wr=>wr.rangeLeft m r)
 case atStart=>exact⟨[],_,_,0,[],hrg0,⟨.inl ⟨rfl,rfl,rfl,rfl⟩,rfl,fun x hx=>by cases hx⟩,x,y,⟨b0.out,Nat.le_refl _,col_start hGA⟩,by simpa using hsz0⟩
 case round=>
  obtain⟨rs,left,cnt,cap,L,hrg,hRL,hx,hy,hH,hcnt⟩:=hrel
  go_wp2_with(at_next;refine wpList_next_z rfl _ rfl m r n D left cnt rfl hrg (fun hl0=> ?_) (fun v s1 a1 l1 c1 w2 cnt2 hv hlk hat hrg2 hlt hgr hen=> ?_))
  ·have u0:=hx.c0
   have u1:=hx.c1
   have hB2:=hide hH.out.1
   have hC:=hide hH.out.2.2
   have hs1:=hide hH.out.2.1
   rcases hRL.out.1 with⟨hu,h0,hc0,hL0⟩|⟨g,hu,hbase,hrb,hLl,hnc,hcm⟩
   ·subst hu
    obtain rfl:rs= []:=List.eq_nil_of_length_eq_zero h0
    have hsort:Calls Tryz.prog 103 #[.slice none 0 0,.func (.func 104) #[] #[]] wr fun e w'=>e= .returned (.tuple #[])∧w'=wr:=AnyF.slices_SortFunc_none Tryz.sortP none 0 _ wr
    refine hsort.mono ?_
    rintro e w5 ⟨rfl,rfl⟩
    clear hsort
    go_wp2_with fail
    refine(norm_n (zm_of (hz.below hB2.out) (Nat.le_refl _)) o_m).mono ?_
    rintro e w6 ⟨s',ad',l',c',rfl,hz6,k6,hl6⟩
    have hql:=hy.lt
    have y6:=hy.below k6
    have y0:=y6.c0
    have y1:=y6.c1
    have y2:=y6.c2
    have f0:=y6.f 0
    have f1:=y6.f 1
    have f2:=y6.f 2
    have hwF:=hide hB2.out.size
    replace hB2:=hide (grow_step k6 hB2.out)
    replace hz6:=hide hz6
    clear k6
    go_wp2
    refine bodyPost_ret (results_cell_row rfl _ _ q 28 _ (0,0) _ rfl (tb_fin y6 none 0 0 s' ad' l' c') Tryz.underlying28 rfl k_f) rfl ?_
    have hzf:=fzn_mono (fzn_grown hz6.out (tb_set w6 q (.slice none 0 0) (.bool s') (.slice ad' l' c')) hql) (Nat.le_trans hF.out hwF.out)
    exact⟨none,0,0,s',ad',l',c',[],by simp,⟨rfl,.inl ⟨rfl,rfl⟩⟩,Nat.zero_le _,std_nil,fun u hu=>col_end hC.out hl0 u hu,⟨hzf.zn,fun g e=>by cases e⟩,hl6,below_grown hB2.out (tb_set _ _ _ _ _) (by have:=hp.out;have:=hpq.out;omega),[],.inl ⟨rfl,rfl,rfl,rfl⟩,fun x hx=>(by cases hx),zn_lc hzf,hzf.fr⟩
   subst hu
   have hwg:w.heap.size≤g:=by have:=hp.out;have:=hpq.out;omega
   refine(sort_w (B:=B) (cap:=cap) (cur:=(flat L).toArray) rfl hC.out.ok hB hB2.out hwg hrb (by rw[List.toList_toArray,flat_take,hRL.out.2.1]) hC.out.nd o_m).mono ?_
   rintro e w5 ⟨rfl,rs',hperm,hpw,hPQ,hg5,cur',hb5,hs5,hd5⟩
   have hRB:=hide (rb_sorted hPQ hb5 hd5 hperm.length_eq)
   have hNL:Hid (New F w (rs'++L.drop rs.length)):=fun x hx=>by
    rcases List.mem_append.1 hx with h|h
    ·have h':=hperm.mem_iff.1 h
     rw[←hRL.out.2.1]at h'
     exact hRL.out.2.2 x (List.mem_of_mem_take h')
    exact hRL.out.2.2 x (List.mem_of_mem_drop h)
   have hLL:Hid ((rs'++L.drop rs.length).length=cap):=(show _=_ by rw[List.length_append,hperm.length_eq,List.length_drop];omega)
   have x5:=hx.grown hg5 (by have:=hpq.out;omega)
   have y5:=hy.grown hg5 (by have:=hpq.out;omega)
   replace u0:=x5.c0
   replace u1:=x5.c1
   replace hB2:=hide (below_grown hB2.out hg5 hwg)
   have hlen:=hide hperm.length_eq
   replace hC:=hide (col_std hC.out hl0 hperm hpw)
   clear hg5 hrg hx hy hH hperm hpw hb5 hs5 hd5 hrb hRL
   go_wp2_with fail
   refine(norm_n (B:=w5.heap.size) (zm_of (hz.below hB2.out) (Nat.le_refl _)) o_m).mono ?_
   rintro e w6 ⟨s',ad',l',c',rfl,hz6,k6,hl6⟩
   replace hz6:=fzn_mono hz6 (B':=g+1) hPQ.1
   have y6:=y5.below k6
   have y0:=y6.c0
   have y1:=y6.c1
   have y2:=y6.c2
   have f0:=y6.f 0
   have f1:=y6.f 1
   have f2:=y6.f 2
   replace hB2:=hide (grow_step k6 hB2.out)
   replace hPQ:=hide (hPQ.below k6)
   replace hRB:=hide (hRB.out.below k6)
   replace hz6:=hide hz6
   clear k6 y5 x5 u0 u1
   go_wp2
   refine bodyPost_ret (results_cell_row rfl _ _ q 28 _ (0,0) _ rfl (tb_fin y6 (some ⟨g,0,none⟩) rs.length cap s' ad' l' c') Tryz.underlying28 rfl k_f) rfl ?_
   have hqg:q<g:=by have:=hpq.out;omega
   have hzf:=fzn_grown hz6.out (tb_set w6 q (.slice (some ⟨g,0,none⟩) rs.length cap) (.bool s') (.slice ad' l' c')) o_m
   have hBf:=below_grown hB2.out (tb_set w6 q (.slice (some ⟨g,0,none⟩) rs.length cap) (.bool s') (.slice ad' l' c')) (by have:=hp.out;have:=hpq.out;omega)
   have hFg:F≤g:=Nat.le_trans hF.out hwg
   exact⟨some ⟨g,0,none⟩,rs.length,cap,s',ad',l',c',rs',by simp,⟨hlen.out,.inr ⟨g,rfl,hwg,hPQ.out.grown (tb_set _ _ _ _ _) o_m⟩⟩,by omega,hC.out.1,hC.out.2,⟨hzf.zn,fun g' e=>by cases e;exact hzf⟩,hl6,hBf,rs'++L.drop rs.length,.inr ⟨g,rfl,hFg,hRB.out.grown (tb_set _ _ _ _ _) o_m,hLL.out,hnc,hcm⟩,hNL.out.below hBf,zn_lc hzf,(fzn_mono hzf (Nat.le_succ_of_le hFg)).fr⟩
  have hB2:Hid (Below w.heap.size w w2):=below_grown hH.out.1 hgr (by have:=hpq.out;have:=hp.out;omega)
  have hZ:Zn F w s1 a1 l1 c1 (f v)∧l1≤B:=by
   rcases hGF.out v hv with⟨h1,_⟩|⟨s',a',l',c',h1,h2,h3⟩
   ·rw[Maps.has_true_of_atKey hat]at h1;cases h1
   have:=(hat (.held (.bool true))).symm.trans (h1 _)
   simp at this
   obtain⟨rfl,rfl,rfl,rfl⟩:=this
   exact⟨h2,h3⟩
  obtain⟨hZ,hl1⟩:=hZ
  have hZF:=hide hZ
  replace hZ:=hZ.zn
  have hR2:=hide (rs_kept hRL.out.1 hgr hpq.out.2.2)
  have hx2:=hx.grown hgr (by have:=hpq.out;omega)
  have hy2:=hy.grown hgr (by have:=hpq.out;omega)
  have kb:=below_alloc w2 (.cells #[.bool s1,.slice a1 l1 c1] 26)
  have x3:=zb_new w2 s1 a1 l1 c1
  refine(zsign_n ((hZ.below hB2.out).below kb).zm o_m).mono ?_
  rintro e w3 ⟨rfl,k3⟩
  replace x3:=x3.below k3
  replace k3:=grow_step k3 kb
  have hrg3:=hrg2.kept (bg k3) (by simp) (by simp)
  replace hR2:=hide (hR2.out.below k3)
  replace hx2:=hx2.below k3
  replace hy2:=hy2.below k3
  replace hB2:=hide (grow_step k3 hB2.out)
  have hs3:=hide (Nat.le_trans hH.out.2.1 (Nat.le_trans hgr.size k3.size))
  have hC:=hide hH.out.2.2
  clear hH hgr hen kb k3 hx hy hrg2
  generalize w2.heap.size=qb at*
  by_cases hf:f v=0
  ·have e0:cmpI (f v) 0=0:=cmpI_eq hf
   rw[e0]
   go_wp2_with fail
   exact⟨⟨rs,_,cnt2,cap,L,hrg3,⟨hR2.out,hRL.out.2⟩,hx2,hy2,⟨hB2.out,hs3.out,col_skip hC.out hf⟩,by omega⟩,by rw[hrg3.left_eq,hrg.left_eq];exact hlt⟩
  have e0:cmpI (f v) 0≠0:=by unfold cmpI;split <;> (try split) <;> omega
  have u0:=x3.c0
  have u1:=x3.c1
  have kz:=below_alloc w3 (.cells #[.int .i64 v,.bool s1,.slice a1 l1 c1] 117)
  have happ:=hide (run_append_rb (hR2.out.below kz) (Nat.le_trans hs3.out kz.size) ⟨v,s1,a1,l1,c1,f v⟩ ⟨w3.heap.size,0,none⟩ (v3_new w3 v s1 a1 l1 c1) o_m)
  replace kz:=hide kz
  generalize cmpI (f v) 0=sgn at*
  go_wp2_with(at_builtin;refine wpList_append_run rfl _ _ 23 rfl _ _ rfl rfl _ (happ.out _) ?_;rintro v5 w4 ⟨cap5,L5,hR5,htk,hmem,hgrow,-⟩;replace hR5:=hide hR5;replace hmem:=hide hmem;replace hgrow:=hide hgrow;replace htk:=hide htk)
  have hob: ∀b,b<w1.heap.size→some b≠u5.ownBlock:=fun b hb e=>by have:=(rs_own hR2.out e.symm).1;omega
  have ka:=kz.out
  have hmw:m<w1.heap.size:=by have:=hml.out;have:=hp.out;have:=hpq.out;omega
  have hrg4:=(hrg3.kept (bg ka) (by simp) (by simp)).kept hgrow.out (hob m hmw) (hob r hpq.out.2.2)
  refine⟨⟨rs++ [⟨v,s1,a1,l1,c1,f v⟩],_,cnt2,cap5,L5,hrg4,⟨?_,?_,?_⟩,?_,?_,⟨?_,?_,?_⟩,?_⟩,by rw[hrg4.left_eq,hrg.left_eq];exact hlt⟩
  ·rw[List.length_append]
   exact hR5.out
  ·rw[List.length_append]
   show L5.take (rs.length+1)=_
   rw[htk.out,hRL.out.2.1]
  ·intro y hy
   rcases hmem.out y hy with h|rfl|rfl
   ·exact hRL.out.2.2 y h
   ·exact⟨zn_lc hZF.out,hZF.out.fr⟩
   exact⟨Nat.le_refl _,.inl ⟨rfl,rfl⟩⟩
  ·exact(hgrow.out.block p (hx2.below ka).lt (hob p (by have:=hpq.out;omega))).trans (hx2.below ka)
  ·exact(hgrow.out.block q (hy2.below ka).lt (hob q (by have:=hpq.out;omega))).trans (hy2.below ka)
  ·exact(grow_step ka hB2.out).grown hgrow.out (grow_step ka hB2.out).size (fun k e=>by have:=(rs_own hR2.out e).1;have:=hp.out;have:=hpq.out;omega)
  ·exact Nat.le_trans hs3.out (Nat.le_trans ka.size hgrow.out.size)
  ·exact col_step (x:=⟨v,s1,a1,l1,c1,f v⟩) hC.out ⟨hZ,hl1,hv⟩ rfl hf hlk
  simp only[List.length_append,List.length_cons,List.length_nil];omega

theorem fle (h:F≤w.heap.size)(hb:Below w.heap.size w w'):F≤w'.heap.size:=Nat.le_trans h hb.size
theorem tnorm_n (hF:F≤w.heap.size)(hP:Pr w ad n ps B)(hz:Go.Proofs.YtbgpddlcfiiiaaaGreatDoor.Zm w s a l c k)(hl:l≤B)(hB:B+n≤536870912):
  Calls Tryz.prog 44 #[.agg #[.slice ad n cp,.bool s,.slice a l c]] w fun e w'=> ∃ad' n' cp' s' a' l' c' rs,e= .returned (.agg #[.slice ad' n' cp',.bool s',.slice a' l' c'])∧TN w w' ad' n' s' a' l' c' rs k (B+n+1)∧n'≤n∧Std (rs.map Raw.p)∧(∀v,csum (rs.map Raw.p) v=csum ps v)∧NW F w' ad' n' cp' a' l' c':=by
 go_enter Tryz.func44,Tryz.ntmps44
 go_wp2_with fail
 have x:=(tb_new w ad n cp s a l c).below (below_alloc _ (.cells #[.slice none 0 0,.bool false,.slice none 0 0] 28))
 have y:=tb_new (w.alloc (.cells #[.slice ad n cp,.bool s,.slice a l c] 28)) none 0 0 false none 0 0
 have b0:Below w.heap.size w ((w.alloc (.cells #[.slice ad n cp,.bool s,.slice a l c] 28)).alloc (.cells #[.slice none 0 0,.bool false,.slice none 0 0] 28)):=below_alloc' (below_alloc _ _) _
 rw[show(w.alloc (.cells #[.slice ad n cp,.bool s,.slice a l c] 28)).heap.size=w.heap.size+1 from by simp]at y
 generalize (w.alloc (.cells #[.slice ad n cp,.bool s,.slice a l c] 28)).alloc (.cells #[.slice none 0 0,.bool false,.slice none 0 0] 28)=wb at*
 have hpr:w.heap.size<w.heap.size+1:=by omega
 replace hP:=hP.below b0
 replace hz:=hz.below b0
 have hFb:=hide (Nat.le_trans hF b0.size)
 generalize hp:w.heap.size=p at*
 replace hp:=hide hp
 generalize p+1=r at*
 have hrb:=Nat.le_of_lt y.lt
 go_region_held3 (fun w'=>w'.cell? ⟨p,0,none⟩=some (.slice ad n cp)∧w'.cell? ⟨p,1,none⟩=some (.bool s)∧w'.cell? ⟨p,2,none⟩=some (.slice a l c)∧Below r wb w')
  ((refine tk3 x hpr ?_;first|(refine Below.mono ?_ hrb;focus ((with_reducible repeat' first|exact Below.refl _ _|assumption|refine grow_step (by assumption) ?_|refine grow_drew ?_|refine grow_alloc ?_ _|refine grow_drewN ?_ _);done))|(refine(((Below.mono ?_ hrb).setCell (Nat.le_refl _) _).setCell (Nat.le_refl _) _).setCell (Nat.le_refl _) _;focus ((with_reducible repeat' first|exact Below.refl _ _|assumption|refine grow_step (by assumption) ?_|refine grow_drew ?_|refine grow_alloc ?_ _|refine grow_drewN ?_ _);done))))
  (first|(go_at_call 35;refine(gather1 (F:=F) (fle hFb.out gw) (by exact heap_alloc_new wb _) (Pr.below hP gw) hB).mono ?_;rintro e w1 ⟨m,rfl,hG,k1,hm⟩)|(go_at_call 59;refine(stand_p (fle hFb.out gw) hG (Go.Proofs.YtbgpddlcfiiiaaaGreatDoor.Zm.below hz gw) (by omega) (by omega) (by omega)).mono ?_;rintro e w2 ⟨ad',n',cp',s',a',l',c',rs,rfl,hT,hn',hStd,hcs,hz2,hl2,k2,hNW⟩;replace hNW:=hide hNW;have kW:=mid k2 (show Below wb.heap.size wb _ from gw);have y1':=TB.below y kW;have y':=y1'.below k2;have y0:=y'.c0;have y1:=y'.c1;have y2:=y'.c2;have y3:=y'.f 0;have y4:=y'.f 1;have y5:=y'.f 2))
 have hi1:=hP.i64
 clear hP hG
 go_wp2
 refine bodyPost_ret (results_cell_row rfl _ _ r 28 _ (0,0) _ rfl (tb_fin y' ad' n' cp' s' a' l' c') Tryz.underlying28 rfl k_f) rfl ?_
 have hTN:TN w _ ad' n' s' a' l' c' rs k (B+n+1):=tn_fin (hp.out.symm▸b0.trans (kW.mono (Nat.le_of_lt (Nat.lt_trans hpr y.lt)))) k2 (hT.mono o_m) y1' (by have:=hp.out;omega) hz2 o_m cp'
 exact⟨ad',n',cp',s',a',l',c',rs,by simp,hTN,hn',hStd,csum_all hTN.pr.i64 hi1 hcs,hNW.out.tb y' (tb_set _ _ _ _ _)⟩
theorem tadd_n {ad2:Option Addr}{n2 cp2:Nat}{s2:Bool}{a2:Option Addr}{l2 c2:Nat}{qs:List (Int × Int)}{k2:Int}(hF:F≤w.heap.size)(hP:Pr w ad n ps B)(hz:Go.Proofs.YtbgpddlcfiiiaaaGreatDoor.Zm w s a l c k)(hl:l≤B)(hP2:Pr w ad2 n2 qs B)(hz2:Go.Proofs.YtbgpddlcfiiiaaaGreatDoor.Zm w s2 a2 l2 c2 k2)(hl2:l2≤B)(hB:B+(n+n2)≤536870912):
  Calls Tryz.prog 20 #[.agg #[.slice ad n cp,.bool s,.slice a l c],.agg #[.slice ad2 n2 cp2,.bool s2,.slice a2 l2 c2]] w fun e w'=> ∃ad' n' cp' s' a' l' c' rs,e= .returned (.agg #[.slice ad' n' cp',.bool s',.slice a' l' c'])∧TN w w' ad' n' s' a' l' c' rs (k+k2) (B+(n+n2)+2)∧n'≤n+n2∧Std (rs.map Raw.p)∧(∀v,csum (rs.map Raw.p) v=csum (ps++qs) v)∧NW F w' ad' n' cp' a' l' c':=by
 go_enter Tryz.func20,Tryz.ntmps20
 go_wp2_with fail
 have x:=((tb_new w ad n cp s a l c).below (below_alloc _ (.cells #[.slice ad2 n2 cp2,.bool s2,.slice a2 l2 c2] 28))).below (below_alloc _ (.cells #[.slice none 0 0,.bool false,.slice none 0 0] 28))
 have x2:=(tb_new (w.alloc (.cells #[.slice ad n cp,.bool s,.slice a l c] 28)) ad2 n2 cp2 s2 a2 l2 c2).below (below_alloc _ (.cells #[.slice none 0 0,.bool false,.slice none 0 0] 28))
 have y:=tb_new ((w.alloc (.cells #[.slice ad n cp,.bool s,.slice a l c] 28)).alloc (.cells #[.slice ad2 n2 cp2,.bool s2,.slice a2 l2 c2] 28)) none 0 0 false none 0 0
 have b0:Below w.heap.size w (((w.alloc (.cells #[.slice ad n cp,.bool s,.slice a l c] 28)).alloc (.cells #[.slice ad2 n2 cp2,.bool s2,.slice a2 l2 c2] 28)).alloc (.cells #[.slice none 0 0,.bool false,.slice none 0 0] 28)):=below_alloc' (below_alloc' (below_alloc _ _) _) _
 rw[show(w.alloc (.cells #[.slice ad n cp,.bool s,.slice a l c] 28)).heap.size=w.heap.size+1 from by simp]at x2
 rw[show((w.alloc (.cells #[.slice ad n cp,.bool s,.slice a l c] 28)).alloc (.cells #[.slice ad2 n2 cp2,.bool s2,.slice a2 l2 c2] 28)).heap.size=w.heap.size+1+1 from by simp]at y
 generalize ((w.alloc (.cells #[.slice ad n cp,.bool s,.slice a l c] 28)).alloc (.cells #[.slice ad2 n2 cp2,.bool s2,.slice a2 l2 c2] 28)).alloc (.cells #[.slice none 0 0,.bool false,.slice none 0 0] 28)=wb at*
 have hpr:w.heap.size<w.heap.size+1+1:=by omega
 have hpr2:w.heap.size+1<w.heap.size+1+1:=by omega
 replace hP:=hP.below b0
 replace hz:=hz.below b0
 replace hP2:=hP2.below b0
 replace hz2:=hz2.below b0
 have hFb:=hide (Nat.le_trans hF b0.size)
 generalize hp:w.heap.size=p at*
 replace hp:=hide hp
 generalize p+1=p2 at*
 generalize p2+1=r at*
 have hrb:=Nat.le_of_lt y.lt
 go_region_held3 (fun w'=>w'.cell? ⟨p,0,none⟩=some (.slice ad n cp)∧w'.cell? ⟨p,1,none⟩=some (.bool s)∧w'.cell? ⟨p,2,none⟩=some (.slice a l c)∧w'.cell? ⟨p2,0,none⟩=some (.slice ad2 n2 cp2)∧w'.cell? ⟨p2,1,none⟩=some (.bool s2)∧w'.cell? ⟨p2,2,none⟩=some (.slice a2 l2 c2)∧Below r wb w')
  ((refine tk6 x x2 hpr hpr2 ?_;first|(refine Below.mono ?_ hrb;focus ((with_reducible repeat' first|exact Below.refl _ _|assumption|refine grow_step (by assumption) ?_|refine grow_drew ?_|refine grow_alloc ?_ _|refine grow_drewN ?_ _);done))|(refine(((Below.mono ?_ hrb).setCell (Nat.le_refl _) _).setCell (Nat.le_refl _) _).setCell (Nat.le_refl _) _;focus ((with_reducible repeat' first|exact Below.refl _ _|assumption|refine grow_step (by assumption) ?_|refine grow_drew ?_|refine grow_alloc ?_ _|refine grow_drewN ?_ _);done))))
  (first|(go_at_call 35;refine(gather2 (F:=F) (fle hFb.out gw) (by first|exact heap_alloc_new _ _|exact(kA.block _ (by simp)).trans (heap_alloc_new wb _)) (Pr.below hP gw) (Pr.below hP2 gw) hB).mono ?_;rintro e w1 ⟨m,rfl,hG,k1,hm⟩)|(go_at_call 37;refine(Go.Proofs.YtbgpddlcfiiiaaaGreatDoor.zadd_n (Go.Proofs.YtbgpddlcfiiiaaaGreatDoor.Zm.below hz gw) (Go.Proofs.YtbgpddlcfiiiaaaGreatDoor.Zm.below hz2 gw) (by omega) (by omega)).mono ?_;rintro e wA ⟨sA,aA,lA,cA,rfl,hzA,kA,hlA⟩)|(go_at_call 59;refine(stand_p (fle hFb.out gw) (GM.below hG gw) (Go.Proofs.YtbgpddlcfiiiaaaGreatDoor.Zm.below hzA.zm gw) (by omega) (by omega) (by omega)).mono ?_;rintro e w2 ⟨ad',n',cp',s',a',l',c',rs,rfl,hT,hn',hStd,hcs,hzR,hlR,kR,hNW⟩;replace hNW:=hide hNW;have kW:=mid kR (show Below wb.heap.size wb _ from gw);have y1':=TB.below y kW;have y':=y1'.below kR;have y0:=y'.c0;have y1:=y'.c1;have y2:=y'.c2;have y3:=y'.f 0;have y4:=y'.f 1;have y5:=y'.f 2))
 all_goals
  have hi1:=hP.i64
  have hi2:=hP2.i64
  clear hP hP2 hG hz hz2
  go_wp2
  refine bodyPost_ret (results_cell_row rfl _ _ r 28 _ (0,0) _ rfl (tb_fin y' ad' n' cp' s' a' l' c') Tryz.underlying28 rfl k_f) rfl ?_
  have hTN:TN w _ ad' n' s' a' l' c' rs (k+k2) (B+(n+n2)+2):=tn_fin (hp.out.symm▸b0.trans (kW.mono (Nat.le_of_lt (Nat.lt_trans hpr y.lt)))) kR (hT.mono o_m) y1' (by have:=hp.out;omega) hzR o_m cp'
  exact⟨ad',n',cp',s',a',l',c',rs,by simp,hTN,hn',hStd,csum_all hTN.pr.i64 (fun q hq=>(List.mem_append.1 hq).elim (hi1 q) (hi2 q)) hcs,hNW.out.tb y' (tb_set _ _ _ _ _)⟩
theorem wpList_del_z {ops:Array Oper}{rest:List Oper}{o:Oper}{a:Act}{Q:Exit→Act→World→Prop}(hg:o.guard=none)(m x:Operand)(hop:o.op=Op.call {callee:=Callee.builtin Builtin.delete,args:=#[m,x],argTypes:=#[78,3]})
  (b n B:Nat)(f:Int→Int)(v:Int)(hm:a.eval m= .map (some b))(hx:a.eval x= .int .i64 v)(h:GM F w b n f B)(hv:I64 v)
  (hK: ∀w',GM F w' b n (fun u=>if u=v then 0 else f u) B→w.grownBy w' (some b)→wpList Tryz.prog ops Q rest (a.put o.dst (.tuple #[])) w'):
  wpList Tryz.prog ops Q (o::rest) a w:=by
 refine wpList_plain hg fun K' hK'=> ?_
 obtain⟨w',hrun,r1,r2⟩:=h.del hv o.type
 unfold Oper.wp
 simp[execOp,hop,resolve,invoke,builtin,hm,hx,hrun,Result.andThen]
 exact hK' _ _ (hK w' r1 r2)
theorem twithout_n {v:Int}(hF:F≤w.heap.size)(hP:Pr w ad n ps B)(hz:Go.Proofs.YtbgpddlcfiiiaaaGreatDoor.Zm w s a l c k)(hl:l≤B)(hB:B+n≤536870912)(hv:I64 v):
  Calls Tryz.prog 150 #[.agg #[.slice ad n cp,.bool s,.slice a l c],.int .i64 v] w fun e w'=> ∃ad' n' cp' s' a' l' c' rs,e= .returned (.agg #[.slice ad' n' cp',.bool s',.slice a' l' c'])∧TN w w' ad' n' s' a' l' c' rs k (B+n+1)∧n'≤n∧Std (rs.map Raw.p)∧(∀u,csum (rs.map Raw.p) u=csum (wo v ps) u)∧NW F w' ad' n' cp' a' l' c':=by
 go_enter Tryz.func150,Tryz.ntmps150
 go_wp2_with fail
 have x:=((tb_new w ad n cp s a l c).below (below_alloc _ (.cells #[.slice none 0 0,.bool false,.slice none 0 0] 28))).below (below_alloc _ (.cells #[.slice ad n cp] 23))
 have y:=(tb_new (w.alloc (.cells #[.slice ad n cp,.bool s,.slice a l c] 28)) none 0 0 false none 0 0).below (below_alloc _ (.cells #[.slice ad n cp] 23))
 have z:=heap_alloc_new ((w.alloc (.cells #[.slice ad n cp,.bool s,.slice a l c] 28)).alloc (.cells #[.slice none 0 0,.bool false,.slice none 0 0] 28)) (.cells #[.slice ad n cp] 23)
 have b0:Below w.heap.size w (((w.alloc (.cells #[.slice ad n cp,.bool s,.slice a l c] 28)).alloc (.cells #[.slice none 0 0,.bool false,.slice none 0 0] 28)).alloc (.cells #[.slice ad n cp] 23)):=below_alloc' (below_alloc' (below_alloc _ _) _) _
 rw[show(w.alloc (.cells #[.slice ad n cp,.bool s,.slice a l c] 28)).heap.size=w.heap.size+1 from by simp]at y
 rw[show((w.alloc (.cells #[.slice ad n cp,.bool s,.slice a l c] 28)).alloc (.cells #[.slice none 0 0,.bool false,.slice none 0 0] 28)).heap.size=w.heap.size+1+1 from by simp]at z
 generalize ((w.alloc (.cells #[.slice ad n cp,.bool s,.slice a l c] 28)).alloc (.cells #[.slice none 0 0,.bool false,.slice none 0 0] 28)).alloc (.cells #[.slice ad n cp] 23)=wb at*
 have hpr:w.heap.size<w.heap.size+1:=by omega
 replace hP:=hP.below b0
 replace hz:=hz.below b0
 have hFb:=hide (Nat.le_trans hF b0.size)
 generalize hp:w.heap.size=p at*
 replace hp:=hide hp
 generalize p+1=r at*
 generalize r+1=q at*
 refine(gather1 (F:=F) hFb.out z hP hB).mono ?_
 rintro e w1 ⟨m,rfl,hG,k1,hm⟩
 have x1:=x.below k1
 have y1:=y.below k1
 have hxl:=x1.lt
 clear z
 have hpm:p≠m:=by have:=x.lt;omega
 go_wp2_with(at_delete;refine wpList_del_z rfl _ _ rfl m _ _ _ v rfl rfl hG hv ?_;intro w2 hG2 hg2;have x2:=x1.grown hg2 hpm;have u1:=x2.c1;have u2:=x2.c2)
 have k12:Below wb.heap.size wb w2:=below_grown k1 hg2 hm
 have hml:=hG.lt
 have y2:=y1.grown hg2 (by have:=y.lt;omega)
 clear hG
 refine(stand_p (fle hFb.out k12) hG2 (hz.below k12) o_m o_m o_m).mono ?_
 rintro e w3 ⟨ad',n',cp',s',a',l',c',rs,rfl,hT,hn',hStd,hcs,hzR,hlR,kR,hNW⟩
 replace hNW:=hide hNW
 have y':=y2.below kR
 have v0:=y'.c0
 have v1:=y'.c1
 have v2:=y'.c2
 have v3:=y'.f 0
 have v4:=y'.f 1
 have v5:=y'.f 2
 have hi1:=hP.i64
 have hTN:Hid (TN w _ ad' n' s' a' l' c' rs k (B+n+1)):=tn_fin (hp.out.symm▸b0.trans (k12.mono (Nat.le_of_lt (Nat.lt_trans hpr y.lt)))) kR (hT.mono o_m) y2 (by have:=hp.out;omega) hzR o_m cp'
 clear hP hz hG2 hT hg2 b0 k1 k12 kR x2 y2 x1 y1 x y u1 u2
 go_wp2
 refine bodyPost_ret (results_cell_row rfl _ _ r 28 _ (0,0) _ rfl (tb_fin y' ad' n' cp' s' a' l' c') Tryz.underlying28 rfl k_f) rfl ?_
 exact⟨ad',n',cp',s',a',l',c',rs,by simp,hTN.out,hn',hStd,csum_all hTN.out.pr.i64 (fun q hq=>hi1 q (List.mem_filter.1 hq).1) (fun u hu=>by rw[csum_wo];exact hcs u hu),hNW.out.tb y' (tb_set _ _ _ _ _)⟩
end Go.Proofs.YtbgpddlcfiiiaaaGreatDoor.Fresh

namespace Go.Proofs.YtbgpddlcfiiiaaaGreatDoor
open Go.RowKit Go.Sort Go.Shelf
open Tm

variable {w w0 w':World}{ad a ad2 a2:Option Addr}{n cp l c B n2 cp2 l2 c2 g B2 t m:Nat}{s s2:Bool}{ps qs vs:List (Int × Int)}{k k2 v:Int}{rs:List Raw}
theorem tnorm_n (hP:Pr w ad n ps B)(hz:Zm w s a l c k)(hl:l≤B)(hB:B+n≤536870912):
  Calls Tryz.prog 44 #[.agg #[.slice ad n cp,.bool s,.slice a l c]] w fun e w'=> ∃ad' n' cp' s' a' l' c' rs,e= .returned (.agg #[.slice ad' n' cp',.bool s',.slice a' l' c'])∧TN w w' ad' n' s' a' l' c' rs k (B+n+1)∧n'≤n∧Std (rs.map Raw.p)∧∀v,csum (rs.map Raw.p) v=csum ps v:=
 (Fresh.tnorm_n (Nat.zero_le _) hP hz hl hB).mono fun _ _ ⟨ad',n',cp',s',a',l',c',rs,h1,h2,h3,h4,h5,_⟩=>⟨ad',n',cp',s',a',l',c',rs,h1,h2,h3,h4,h5⟩
theorem tadd_n (hP:Pr w ad n ps B)(hz:Zm w s a l c k)(hl:l≤B)(hP2:Pr w ad2 n2 qs B)(hz2:Zm w s2 a2 l2 c2 k2)(hl2:l2≤B)(hB:B+(n+n2)≤536870912):
  Calls Tryz.prog 20 #[.agg #[.slice ad n cp,.bool s,.slice a l c],.agg #[.slice ad2 n2 cp2,.bool s2,.slice a2 l2 c2]] w fun e w'=> ∃ad' n' cp' s' a' l' c' rs,e= .returned (.agg #[.slice ad' n' cp',.bool s',.slice a' l' c'])∧TN w w' ad' n' s' a' l' c' rs (k+k2) (B+(n+n2)+2)∧n'≤n+n2∧Std (rs.map Raw.p)∧∀v,csum (rs.map Raw.p) v=csum (ps++qs) v:=
 (Fresh.tadd_n (Nat.zero_le _) hP hz hl hP2 hz2 hl2 hB).mono fun _ _ ⟨ad',n',cp',s',a',l',c',rs,h1,h2,h3,h4,h5,_⟩=>⟨ad',n',cp',s',a',l',c',rs,h1,h2,h3,h4,h5⟩
theorem twithout_n (hP:Pr w ad n ps B)(hz:Zm w s a l c k)(hl:l≤B)(hB:B+n≤536870912)(hv:I64 v):
  Calls Tryz.prog 150 #[.agg #[.slice ad n cp,.bool s,.slice a l c],.int .i64 v] w fun e w'=> ∃ad' n' cp' s' a' l' c' rs,e= .returned (.agg #[.slice ad' n' cp',.bool s',.slice a' l' c'])∧TN w w' ad' n' s' a' l' c' rs k (B+n+1)∧n'≤n∧Std (rs.map Raw.p)∧∀u,csum (rs.map Raw.p) u=csum (wo v ps) u:=
 (Fresh.twithout_n (Nat.zero_le _) hP hz hl hB hv).mono fun _ _ ⟨ad',n',cp',s',a',l',c',rs,h1,h2,h3,h4,h5,_⟩=>⟨ad',n',cp',s',a',l',c',rs,h1,h2,h3,h4,h5⟩


def SR (w0 w:World)(g:Nat)(rs:List Raw)(k:Int)(t B B2:Nat):Prop:=
 g<w.heap.size∧w0.heap.size≤g∧Below w0.heap.size w0 w∧∀j (h:j<rs.length),∃x:Raw,(w.cell? ⟨g,j*3,none⟩=some (.int .i64 x.v)∧w.cell? ⟨g,j*3+1,none⟩=some (.bool x.s)∧w.cell? ⟨g,j*3+2,none⟩=some (.slice x.a x.l x.c))∧
  (w.frozen? ⟨g,j*3+1,none⟩=false∧w.frozen? ⟨g,j*3+2,none⟩=false)∧x.v=rs[j].v∧I64 x.v∧(j<t→Fresh.Zn (g+1) w x.s x.a x.l x.c (k*rs[j].z)∧x.l≤B2)∧(t≤j→x=rs[j]∧x.ok w0 B)
theorem sr_start (h:PQ w0 w g rs B)(hg:w0.heap.size≤g)(hb:Below w0.heap.size w0 w):SR w0 w g rs k 0 B B2:=
 ⟨h.1,hg,hb,fun j hj=>⟨rs[j],(h.2 j hj).1,⟨(h.2 j hj).2.1.2.1,(h.2 j hj).2.1.2.2⟩,rfl,(h.2 j hj).2.2.2.2,fun h=>absurd h o_m,fun _=>⟨rfl,(h.2 j hj).2.2⟩⟩⟩
theorem SR.below (h:SR w0 w g rs k t B B2)(hb:Below w.heap.size w w'):SR w0 w' g rs k t B B2:=by
 obtain⟨h1,h2,h3,h4⟩:=h
 refine⟨Nat.lt_of_lt_of_le h1 hb.size,h2,grow_step hb h3,fun j hj=> ?_⟩
 obtain⟨x,⟨c0,c1,c2⟩,⟨f1,f2⟩,e,hi,h5,h6⟩:=h4 j hj
 have eb:w'.heap[g]? =w.heap[g]?:=hb.block g h1
 refine⟨x,⟨(World.cell?_of_block (a:=⟨g,j*3,none⟩) eb).trans c0,(World.cell?_of_block (a:=⟨g,j*3+1,none⟩) eb).trans c1,(World.cell?_of_block (a:=⟨g,j*3+2,none⟩) eb).trans c2⟩,⟨(World.frozen?_of_block (a:=⟨g,j*3+1,none⟩) eb).trans f1,(World.frozen?_of_block (a:=⟨g,j*3+2,none⟩) eb).trans f2⟩,e,hi,fun h=>⟨fzn_below (h5 h).1 hb,(h5 h).2⟩,h6⟩
theorem sr_step (h:SR w0 w g rs k t B B2)(ht:t<rs.length){s:Bool}{a:Option Addr}{l c:Nat}(hz:Fresh.Zn (g+1) w s a l c (k*rs[t].z))(hl:l≤B2):
  SR w0 ((w.setCell ⟨g,t*3+1,none⟩ (.bool s)).setCell ⟨g,t*3+2,none⟩ (.slice a l c)) g rs k (t+1) B B2:=by
 obtain⟨h1,h2,h3,h4⟩:=h
 have hgr:w.grownBy ((w.setCell ⟨g,t*3+1,none⟩ (.bool s)).setCell ⟨g,t*3+2,none⟩ (.slice a l c)) (some g):=gb_trans (gb_set _ _ _ _) (gb_set _ _ _ _)
 refine⟨Nat.lt_of_lt_of_le h1 hgr.size,h2,below_grown h3 hgr h2,fun j hj=> ?_⟩
 obtain⟨x,⟨c0,c1,c2⟩,⟨f1,f2⟩,e,hi,h5,h6⟩:=h4 j hj
 have hfz: ∀o,((w.setCell ⟨g,t*3+1,none⟩ (.bool s)).setCell ⟨g,t*3+2,none⟩ (.slice a l c)).frozen? ⟨g,o,none⟩=w.frozen? ⟨g,o,none⟩:=fun o=>by rw[World.frozen?_setCell,World.frozen?_setCell]
 by_cases e1:j=t
 ·subst e1
  refine⟨⟨x.v,s,a,l,c,k*rs[j].z⟩,⟨?_,?_,?_⟩,⟨(hfz _).trans f1,(hfz _).trans f2⟩,e,hi,fun _=>⟨fzn_grown hz hgr (Nat.lt_succ_self _),hl⟩,fun h=>absurd h o_m⟩
  ·rw[World.cell?_setCell_other _ _ _ _ (by simp),World.cell?_setCell_other _ _ _ _ (by simp)];exact c0
  ·rw[World.cell?_setCell_other _ _ _ _ (by simp)];exact World.cell?_setCell_same _ _ _ c1
  exact World.cell?_setCell_same _ _ _ (u:=.slice x.a x.l x.c) (by rw[World.cell?_setCell_other _ _ _ _ (by simp)];exact c2)
 have hc: ∀o,j*3≤o→o<j*3+3→((w.setCell ⟨g,t*3+1,none⟩ (.bool s)).setCell ⟨g,t*3+2,none⟩ (.slice a l c)).cell? ⟨g,o,none⟩=w.cell? ⟨g,o,none⟩:=fun o ho1 ho2=>by
  rw[World.cell?_setCell_other _ _ _ _ (by simp <;> omega),World.cell?_setCell_other _ _ _ _ (by simp <;> omega)]
 refine⟨x,⟨(hc _ o_m o_m).trans c0,(hc _ o_m o_m).trans c1,(hc _ o_m o_m).trans c2⟩,⟨(hfz _).trans f1,(hfz _).trans f2⟩,e,hi,fun h=>⟨fzn_grown (h5 o_m).1 hgr (Nat.lt_succ_self _),(h5 o_m).2⟩,fun h=>h6 o_m⟩
def SE (w:World)(g:Nat)(rs:List Raw)(k:Int)(B2:Nat):Prop:=
 g<w.heap.size∧∀j (h:j<rs.length),∃x:Raw,(w.cell? ⟨g,j*3,none⟩=some (.int .i64 x.v)∧w.cell? ⟨g,j*3+1,none⟩=some (.bool x.s)∧w.cell? ⟨g,j*3+2,none⟩=some (.slice x.a x.l x.c))∧x.v=rs[j].v∧I64 x.v∧Fresh.Zn (g+1) w x.s x.a x.l x.c (k*rs[j].z)∧x.l≤B2
theorem sr_se (h:SR w0 w g rs k t B B2)(ht:rs.length≤t):SE w g rs k B2:=by
 obtain⟨h1,h2,h3,h4⟩:=h
 refine⟨h1,fun i hi=> ?_⟩
 obtain⟨x,c,_,e,hv,h5,_⟩:=h4 i hi
 exact⟨x,c,e,hv,h5 o_m⟩
theorem SE.block (h:SE w g rs k B2)(hs:w.heap.size≤w'.heap.size)(eb:w'.heap[g]? =w.heap[g]?)(hz: ∀s a l c z,Fresh.Zn (g+1) w s a l c z→Fresh.Zn (g+1) w' s a l c z):SE w' g rs k B2:=by
 refine⟨Nat.lt_of_lt_of_le h.1 hs,fun j hj=> ?_⟩
 obtain⟨x,⟨c0,c1,c2⟩,e,hi,h5,h6⟩:=h.2 j hj
 exact⟨x,⟨(World.cell?_of_block (a:=⟨g,j*3,none⟩) eb).trans c0,(World.cell?_of_block (a:=⟨g,j*3+1,none⟩) eb).trans c1,(World.cell?_of_block (a:=⟨g,j*3+2,none⟩) eb).trans c2⟩,e,hi,hz _ _ _ _ _ h5,h6⟩
theorem SE.below (h:SE w g rs k B2)(hb:Below w.heap.size w w'):SE w' g rs k B2:=h.block hb.size (hb.block g h.1) fun _ _ _ _ _ hz=>fzn_below hz hb
theorem SE.grown (h:SE w g rs k B2)(hg:w.grownBy w' (some m))(hm:m<g):SE w' g rs k B2:=h.block hg.size (hg.block g h.1 (by simp;omega)) fun _ _ _ _ _ hz=>fzn_grown hz hg o_m
theorem se_pl (h:SE w g rs k B2):PL w g 0 (scl k (rs.map Raw.p)) B2:=by
 refine⟨h.1,fun i hi=> ?_⟩
 have hi':i<rs.length:=by simpa [scl] using hi
 obtain⟨x,⟨c0,c1,c2⟩,e,hv,h5,h6⟩:=h.2 i hi'
 have e2:(scl k (rs.map Raw.p))[i]=(rs[i].v,k*rs[i].z):=by simp[scl,Raw.p]
 rw[e2,Nat.zero_add]
 exact⟨x.s,x.a,x.l,x.c,by rw[←e];exact c0,c1,c2,h5.zn.zm,h6,by rw[←e];exact hv⟩
theorem std_scl (hk:k≠0){ps:List (Int × Int)}(h:Std ps):Std (scl k ps):=by
 refine⟨?_,fun p hp=> ?_⟩
 ·unfold scl;rw[List.pairwise_map];exact h.1
 obtain⟨q,hq,rfl⟩:=List.mem_map.1 hp
 exact Int.mul_ne_zero hk (h.2 q hq)
theorem kb_set (w:World)(b:Nat)(v1 v2:Value):w.grownBy ((w.setCell ⟨b,1,none⟩ v1).setCell ⟨b,2,none⟩ v2) (some b):=gb_trans (gb_set _ _ _ _) (gb_set _ _ _ _)
theorem tb_fin2 {b:Nat}(h:TB w b ad n cp s a l c)(s':Bool)(a':Option Addr)(l' c':Nat):
  TB ((w.setCell ⟨b,1,none⟩ (.bool s')).setCell ⟨b,2,none⟩ (.slice a' l' c')) b ad n cp s' a' l' c':=
 heap_setCell_same _ b 2 _ _ _ (heap_setCell_same w b 1 _ _ _ h)

theorem sk {wb:World}{p q u:Nat}{s1:Bool}{a1:Option Addr}{l1 c1:Nat}(x:ZB wb p s a l c)(y:TB wb q ad n cp s1 a1 l1 c1)(z:PB wb u v s2 a2 l2 c2)(hp:p≠g)(hq:q≠g)(hu:u≠g)(k:wb.grownBy w' (some g)):
  w'.cell? ⟨p,0,none⟩=some (.bool s)∧w'.cell? ⟨p,1,none⟩=some (.slice a l c)∧w'.cell? ⟨q,0,none⟩=some (.slice ad n cp)∧w'.cell? ⟨u,0,none⟩=some (.int .i64 v)∧w'.cell? ⟨u,1,none⟩=some (.bool s2)∧w'.cell? ⟨u,2,none⟩=some (.slice a2 l2 c2)∧wb.grownBy w' (some g):=by
 have x':=x.grown k hp
 have y':=y.grown k hq
 have z':PB w' u v s2 a2 l2 c2:=(k.block u z.lt (by simpa using hu)).trans z
 exact⟨x'.c0,x'.c1,y'.c0,z'.c0,z'.c1,z'.c2,k⟩

theorem tscale_n {s0:Bool}{a0:Option Addr}{l0 c0:Nat}{k0:Int}(hk:Zm w s0 a0 l0 c0 k0)(hk0:l0≤536870912)(hP:Pr w ad n ps B)(hz:Zm w s a l c k)(hl:l≤B)(hB:B+n≤536870912):
  Calls Tryz.prog 58 #[.agg #[.bool s0,.slice a0 l0 c0],.agg #[.slice ad n cp,.bool s,.slice a l c]] w fun e w'=> ∃ad' n' cp' s' a' l' c' qs,e= .returned (.agg #[.slice ad' n' cp',.bool s',.slice a' l' c'])∧TW w' ad' n' s' a' l' c' qs (k0*k) (l0+(B+n+1))∧n'≤n∧Std qs∧(∀v,csum qs v=csum (scl k0 ps) v)∧Below w.heap.size w w':=by
 go_enter Tryz.func58,Tryz.ntmps58
 go_wp2_with fail
 have x:=((zb_new w s0 a0 l0 c0).below (below_alloc _ (.cells #[.slice ad n cp,.bool s,.slice a l c] 28))).below (below_alloc _ (.cells #[.slice none 0 0,.bool false,.slice none 0 0] 28))
 have q:=(tb_new (w.alloc (.cells #[.bool s0,.slice a0 l0 c0] 26)) ad n cp s a l c).below (below_alloc _ (.cells #[.slice none 0 0,.bool false,.slice none 0 0] 28))
 have y:=tb_new ((w.alloc (.cells #[.bool s0,.slice a0 l0 c0] 26)).alloc (.cells #[.slice ad n cp,.bool s,.slice a l c] 28)) none 0 0 false none 0 0
 have b0:Below w.heap.size w (((w.alloc (.cells #[.bool s0,.slice a0 l0 c0] 26)).alloc (.cells #[.slice ad n cp,.bool s,.slice a l c] 28)).alloc (.cells #[.slice none 0 0,.bool false,.slice none 0 0] 28)):=below_alloc' (below_alloc' (below_alloc _ _) _) _
 rw[show(w.alloc (.cells #[.bool s0,.slice a0 l0 c0] 26)).heap.size=w.heap.size+1 from by simp]at q
 rw[show((w.alloc (.cells #[.bool s0,.slice a0 l0 c0] 26)).alloc (.cells #[.slice ad n cp,.bool s,.slice a l c] 28)).heap.size=w.heap.size+1+1 from by simp]at y
 generalize ((w.alloc (.cells #[.bool s0,.slice a0 l0 c0] 26)).alloc (.cells #[.slice ad n cp,.bool s,.slice a l c] 28)).alloc (.cells #[.slice none 0 0,.bool false,.slice none 0 0] 28)=wb at*
 have hpr:w.heap.size<w.heap.size+1∧w.heap.size+1<w.heap.size+1+1:=by omega
 replace hP:=hP.below b0
 replace hz:=hz.below b0
 have hkw:=hide hk
 replace hk:=hk.below b0
 generalize hp:w.heap.size=p at*
 replace b0:Hid (Below w.heap.size w wb):=hp▸b0
 replace hp:=hide hp
 generalize p+1=q0 at*
 generalize q0+1=r at*
 replace hpr:=hide hpr
 refine(zsign_n hk o_m).mono ?_
 rintro e w1 ⟨rfl,k1⟩
 have x1:=x.below k1
 have q1:=q.below k1
 have y1:=y.below k1
 replace hP:=hP.below k1
 replace hz:=hz.below k1
 replace hk:=hk.below k1
 replace b0:=hide (grow_step k1 b0.out)
 clear k1 x q y
 by_cases h0:k0=0
 ·have e0:cmpI k0 0=0:=cmpI_eq h0
  rw[e0]
  have v0:=y1.c0
  have v1:=y1.c1
  have v2:=y1.c2
  have v3:=y1.f 0
  have v4:=y1.f 1
  have v5:=y1.f 2
  go_wp2
  refine bodyPost_ret (results_cell_row rfl _ _ r 28 _ (0,0) _ rfl (tb_fin y1 none 0 0 false none 0 0) Tryz.underlying28 rfl k_f) rfl ?_
  exact⟨none,0,0,false,none,0,0,[],by simp,⟨⟨rfl,.inl rfl⟩,by rw[h0,Int.zero_mul];exact(zn_zero _).zm,Nat.zero_le _⟩,Nat.zero_le _,std_nil,fun v=>by rw[csum_scl,h0,Int.zero_mul];rfl,below_grown b0.out (tb_set _ _ _ _ _) (by have:=hp.out;have:=hpr.out;omega)⟩
 have e0:cmpI k0 0≠0:=by unfold cmpI;split <;> (try split) <;> omega
 have t0:=q1.c0
 have t1:=q1.c1
 have t2:=q1.c2
 generalize cmpI k0 0=sgn at*
 go_wp2_with fail
 refine(tnorm_n hP hz hl hB).mono ?_
 rintro e w2 ⟨ad1,n1,cp1,s1,a1,l1,c1,rs,rfl,hTN,hn1,hStd,hcs⟩
 obtain⟨wm,bm1,bm2,hT,hzn,hln⟩:=hTN
 have bm:Below w1.heap.size w1 w2:=grow_step bm2 bm1
 have hwq:w.heap.size≤q0:=by have:=hp.out;have:=hpr.out;omega
 have hqw:q0<wm.heap.size∧p<wm.heap.size∧r<wm.heap.size:=⟨(q1.below bm1).lt,(x1.below bm1).lt,(y1.below bm1).lt⟩
 have hTN:=tn_fin2 (w:=w) (grow_step bm1 b0.out) bm2 hT (q1.below bm1) hwq hzn hln cp1
 have q2:=q1.below bm
 have x3:=(x1.below bm).grown (tb_set w2 q0 (.slice ad1 n1 cp1) (.bool s1) (.slice a1 l1 c1)) (by have:=hpr.out;omega)
 have y3:=(y1.below bm).grown (tb_set w2 q0 (.slice ad1 n1 cp1) (.bool s1) (.slice a1 l1 c1)) (by have:=hpr.out;omega)
 have q3:=tb_fin q2 ad1 n1 cp1 s1 a1 l1 c1
 have d0:=q2.c0
 have d1:=q2.c1
 have d2:=q2.c2
 have d3:=q2.f 0
 have d4:=q2.f 1
 have d5:=q2.f 2
 have d6:=q3.c0
 clear hT hzn bm1 bm2 bm x1 y1 t0 t1 t2 q1 q2 b0 hk hP hz
 go_wp2_with fail
 generalize ((w2.setCell ⟨q0,0,none⟩ (.slice ad1 n1 cp1)).setCell ⟨q0,1,none⟩ (.bool s1)).setCell ⟨q0,2,none⟩ (.slice a1 l1 c1)=wc at*
 clear d0 d1 d2 d3 d4 d5 d6
 obtain⟨wn,hsz,bn1,bn2,hTr,hK,hln⟩:=hTN
 obtain⟨hrn,hTr⟩:=hTr
 rw[←hsz]at hqw
 replace hqw:=hide hqw
 clear hsz
 go_loopw [16] (fun i wr=> ∃t:Nat,t≤n1∧i= .int .i64 t∧(n1=0∨ ∃g,ad1=some ⟨g,0,none⟩∧SR wn wr g rs k0 t (B+n+1) (l0+(B+n+1)))∧ZB wr p s0 a0 l0 c0∧TB wr q0 ad1 n1 cp1 s1 a1 l1 c1∧TB wr r none 0 0 false none 0 0∧Kn wr ad1 s1 a1 l1 c1 k∧Hid (Below w.heap.size w wr)) (fun i _=>n1-(intOf i).toNat)
 case atStart=>
  refine⟨0,Nat.zero_le _,rfl,?_,x3,q3,y3,hK,grow_step bn2 bn1⟩
  rcases hTr with⟨_,h⟩|⟨g,e,hg,hPQ⟩
  ·exact .inl h
  exact .inr ⟨g,e,sr_start hPQ hg bn2⟩
 case round=>
  obtain⟨t,ht,rfl,hS,hx,hq,hy,hKr,kr⟩:=hrel
  by_cases htn:t<n1
  ·rcases hS with h|⟨g,rfl,hS⟩
   ·omega
   obtain⟨hgl,hg0,hbw,hrow⟩:=id hS
   obtain⟨xr,⟨e0,e1,e2⟩,⟨f1,f2⟩,ev,hi,-,h6⟩:=hrow t o_m
   obtain⟨hxr,hok⟩:=h6 (Nat.le_refl _)
   replace hxr:=hide hxr
   clear h6 hrow ev
   have hls:l0+xr.l≤l0+(B+n+1):=by have:=hok.2.1;omega
   have hlx:=hok.2.1
   go_wp2_with fail
   have z:=pb_new wr xr.v xr.s xr.a xr.l xr.c
   have ka:=below_alloc wr (.cells #[.int .i64 xr.v,.bool xr.s,.slice xr.a xr.l xr.c] 117)
   have hx2:=hx.below ka
   have hq2:=hq.below ka
   have hpg:p≠g:=by have:=hqw.out;omega
   have hqg:q0≠g:=by have:=hqw.out;omega
   have hug:wr.heap.size≠g:=by omega
   have hS2:=hS.below ka
   have hzx:=((hok.1.below hbw).below ka)
   have hk2:=(hkw.out.below kr.out).below ka
   replace hy:=hy.below ka
   replace hKr:=hide (And.intro (hKr.1.below ka) (fzn_below (hKr.2 g rfl) ka))
   replace kr:=hide (grow_step ka kr.out)
   clear e0 e1 e2 f1 f2 hx hq hS hbw ka
   generalize wr.alloc (.cells #[.int .i64 xr.v,.bool xr.s,.slice xr.a xr.l xr.c] 117)=wb at*
   generalize wr.heap.size=u at*
   have kd:=grow_drew (Below.refl wb.heap.size wb)
   have hd:wb.grownBy wb.drew (some g):=⟨rfl,rfl,rfl,Nat.le_refl _,fun _ _ _=>rfl⟩
   have hgw:g+1≤wb.drew.heap.size:=hS2.1
   go_region_held3 (fun w'=>w'.cell? ⟨p,0,none⟩=some (.bool s0)∧w'.cell? ⟨p,1,none⟩=some (.slice a0 l0 c0)∧w'.cell? ⟨q0,0,none⟩=some (.slice (some ⟨g,0,none⟩) n1 cp1)∧w'.cell? ⟨u,0,none⟩=some (.int .i64 xr.v)∧w'.cell? ⟨u,1,none⟩=some (.bool xr.s)∧w'.cell? ⟨u,2,none⟩=some (.slice xr.a xr.l xr.c)∧wb.grownBy w' (some g))
    ((refine sk hx2 hq2 z hpg hqg hug ?_;assumption))
    (first|(go_at_call 38;refine(Fresh.zmul_n (B:=g+1) (Fresh.zm_of (Zm.below hk2 kd) hgw) (Fresh.zm_of (Zm.below hzx.zm kd) hgw) (by omega) (by omega)).mono ?_;rintro e w3 ⟨s3,a3,l3,c3,rfl,hz3,k3,hl3⟩;have hS3:=(hS2.below kd).below k3;obtain⟨xx,⟨-,g1,g2⟩,⟨g3,g4⟩,-⟩:=hS3.2.2.2 t (by omega);have hg1:=gb_below hd k3;have hg2:wb.grownBy ((w3.setCell ⟨g,t*3+1,none⟩ (.bool s3)).setCell ⟨g,t*3+2,none⟩ (.slice a3 l3 c3)) (some g):=gb_trans (gb_trans hg1 (gb_set _ _ _ _)) (gb_set _ _ _ _)))
   have hS4:=sr_step hS3 (show t<rs.length by omega) (s:=s3) (a:=a3) (l:=l3) (c:=c3) (by have:=hxr.out;rw[←this];exact hz3) o_m
   have hx4:=hx2.grown hg2 hpg
   have hq4:=hq2.grown hg2 hqg
   have hy4:=hy.grown hg2 (by have:=hqw.out;omega)
   have hK4:=fzn_grown hKr.out.2 hg2 (Nat.lt_succ_self _)
   have kr4:=hide (below_grown kr.out hg2 (by have:=hqw.out;have:=hp.out;have:=bn1.size;omega))
   clear hg2 hg1 g1 g2 g3 g4 hS3 hz3 k3 hKr hd kd hgw hS2 hzx hk2
   go_wp2_with fail
   exact⟨⟨t+1,by omega,by go_num,.inr ⟨g,rfl,hS4⟩,hx4,hq4,hy4,⟨hK4.zn,fun g' e=>by cases e;exact hK4⟩,kr4⟩,by simp[intOf];omega⟩
  obtain rfl:t=n1:=by omega
  have m0:=hx.c0
  have m1:=hx.c1
  have m2:=hq.c1
  have m3:=hq.c2
  go_wp2_with fail
  refine(zmul_n (hkw.out.below kr.out) hKr.1.zm o_m o_m).mono ?_
  rintro e w4 ⟨s4,a4,l4,c4,rfl,hz4,k4,hl4⟩
  have q4:=hq.below k4
  have y4:=hy.below k4
  have n0:=q4.c0
  have n2:=q4.c1
  have n3:=q4.c2
  have n4:=q4.f 1
  have n5:=q4.f 2
  have o0:=y4.c0
  have o1:=y4.c1
  have o2:=y4.c2
  have o3:=y4.f 0
  have o4:=y4.f 1
  have o5:=y4.f 2
  have hrq:r≠q0:=by have:=hpr.out;omega
  have hqr:q0≠r:=by have:=hpr.out;omega
  have q5:=tb_fin2 q4 s4 a4 l4 c4
  have g5:=kb_set w4 q0 (.bool s4) (.slice a4 l4 c4)
  have y5:=y4.grown g5 hrq
  have hz5:=(hz4.grownU g5 (tb_noU q4)).grownU (tb_set _ r (.slice ad1 t cp1) (.bool s4) (.slice a4 l4 c4)) (tb_noU y5)
  have kr5:=hide (below_grown (below_grown (grow_step k4 kr.out) g5 hwq) (tb_set _ r (.slice ad1 t cp1) (.bool s4) (.slice a4 l4 c4)) (by have:=hp.out;have:=hpr.out;omega))
  have hPr:Hid (Pr (((((w4.setCell ⟨q0,1,none⟩ (.bool s4)).setCell ⟨q0,2,none⟩ (.slice a4 l4 c4)).setCell ⟨r,0,none⟩ (.slice ad1 t cp1)).setCell ⟨r,1,none⟩ (.bool s4)).setCell ⟨r,2,none⟩ (.slice a4 l4 c4)) ad1 t (scl k0 (rs.map Raw.p)) (l0+(B+n+1))):=by
   refine⟨by simpa [scl] using hrn,?_⟩
   rcases hS with h|⟨g,rfl,hS⟩
   ·exact .inl h
   have hg0:=hS.2.1
   exact .inr ⟨g,0,rfl,se_pl ((((sr_se hS o_m).below k4).grown g5 (by have:=hqw.out;omega)).grown (tb_set _ _ _ _ _) (by have:=hqw.out;omega))⟩
  clear hS k4 kr hKr hz4 hq hy hx m0 m1 m2 m3 bn1 bn2 hTr g5 q4 y4
  go_wp2
  refine bodyPost_ret (results_cell_row rfl _ _ r 28 _ (0,0) _ rfl (tb_fin y5 ad1 t cp1 s4 a4 l4 c4) Tryz.underlying28 rfl k_f) rfl ?_
  exact⟨ad1,t,cp1,s4,a4,l4,c4,scl k0 (rs.map Raw.p),by simp,⟨hPr.out,hz5.zm,by omega⟩,hn1,std_scl h0 hStd,fun v=>by rw[csum_scl,csum_scl,hcs],kr5.out⟩

theorem tn_store {wb W w2:World}{r:Nat}{ad0:Option Addr}{n0 cp0:Nat}{s0:Bool}{a0:Option Addr}{l0 c0:Nat}{ad':Option Addr}{n':Nat}{s':Bool}{a':Option Addr}{l' c':Nat}(b0:Below w.heap.size w wb)(kW:Below wb.heap.size wb W)(hT:TN W w2 ad' n' s' a' l' c' rs k B)
  (y:TB W r ad0 n0 cp0 s0 a0 l0 c0)(hr:w.heap.size≤r)(cp':Nat):
  TN w (((w2.setCell ⟨r,0,none⟩ (.slice ad' n' cp')).setCell ⟨r,1,none⟩ (.bool s')).setCell ⟨r,2,none⟩ (.slice a' l' c')) ad' n' s' a' l' c' rs k B:=by
 obtain⟨w1,h1,h2,h3,h4,h5⟩:=hT
 exact tn_fin (grow_step h1 (grow_step kW b0)) h2 h3 (y.below h1) hr h4 h5 cp'

theorem tsub_n (hP:Pr w ad n ps B)(hz:Zm w s a l c k)(hl:l≤B)(hP2:Pr w ad2 n2 qs B)(hz2:Zm w s2 a2 l2 c2 k2)(hl2:l2≤B)(hB:B+n2+3+(n+n2)≤536870912):
  Calls Tryz.prog 18 #[.agg #[.slice ad n cp,.bool s,.slice a l c],.agg #[.slice ad2 n2 cp2,.bool s2,.slice a2 l2 c2]] w fun e w'=> ∃ad' n' cp' s' a' l' c' rs,e= .returned (.agg #[.slice ad' n' cp',.bool s',.slice a' l' c'])∧TN w w' ad' n' s' a' l' c' rs (k-k2) (B+n2+3+(n+n2)+2)∧n'≤n+n2∧Std (rs.map Raw.p)∧∀v,csum (rs.map Raw.p) v=csum (ps++scl (-1) qs) v:=by
 go_enter Tryz.func18,Tryz.ntmps18
 go_wp2_with fail
 have x:=((tb_new w ad n cp s a l c).below (below_alloc _ (.cells #[.slice ad2 n2 cp2,.bool s2,.slice a2 l2 c2] 28))).below (below_alloc _ (.cells #[.slice none 0 0,.bool false,.slice none 0 0] 28))
 have x2:=(tb_new (w.alloc (.cells #[.slice ad n cp,.bool s,.slice a l c] 28)) ad2 n2 cp2 s2 a2 l2 c2).below (below_alloc _ (.cells #[.slice none 0 0,.bool false,.slice none 0 0] 28))
 have y:=tb_new ((w.alloc (.cells #[.slice ad n cp,.bool s,.slice a l c] 28)).alloc (.cells #[.slice ad2 n2 cp2,.bool s2,.slice a2 l2 c2] 28)) none 0 0 false none 0 0
 have b0:Below w.heap.size w (((w.alloc (.cells #[.slice ad n cp,.bool s,.slice a l c] 28)).alloc (.cells #[.slice ad2 n2 cp2,.bool s2,.slice a2 l2 c2] 28)).alloc (.cells #[.slice none 0 0,.bool false,.slice none 0 0] 28)):=below_alloc' (below_alloc' (below_alloc _ _) _) _
 rw[show(w.alloc (.cells #[.slice ad n cp,.bool s,.slice a l c] 28)).heap.size=w.heap.size+1 from by simp]at x2
 rw[show((w.alloc (.cells #[.slice ad n cp,.bool s,.slice a l c] 28)).alloc (.cells #[.slice ad2 n2 cp2,.bool s2,.slice a2 l2 c2] 28)).heap.size=w.heap.size+1+1 from by simp]at y
 generalize ((w.alloc (.cells #[.slice ad n cp,.bool s,.slice a l c] 28)).alloc (.cells #[.slice ad2 n2 cp2,.bool s2,.slice a2 l2 c2] 28)).alloc (.cells #[.slice none 0 0,.bool false,.slice none 0 0] 28)=wb at*
 have hpr:w.heap.size<w.heap.size+1+1:=by omega
 have hpr2:w.heap.size+1<w.heap.size+1+1:=by omega
 replace hP:=hP.below b0
 replace hz:=hz.below b0
 replace hP2:=hP2.below b0
 replace hz2:=hz2.below b0
 generalize hp:w.heap.size=p at*
 replace hp:=hide hp
 generalize p+1=p2 at*
 generalize p2+1=r at*
 have hrb:=Nat.le_of_lt y.lt
 go_region_held3 (fun w'=>w'.cell? ⟨p,0,none⟩=some (.slice ad n cp)∧w'.cell? ⟨p,1,none⟩=some (.bool s)∧w'.cell? ⟨p,2,none⟩=some (.slice a l c)∧w'.cell? ⟨p2,0,none⟩=some (.slice ad2 n2 cp2)∧w'.cell? ⟨p2,1,none⟩=some (.bool s2)∧w'.cell? ⟨p2,2,none⟩=some (.slice a2 l2 c2)∧Below r wb w')
  ((refine tk6 x x2 hpr hpr2 ?_;first|(refine Below.mono ?_ hrb;focus ((with_reducible repeat' first|exact Below.refl _ _|assumption|refine grow_step (by assumption) ?_|refine grow_drew ?_|refine grow_alloc ?_ _|refine grow_drewN ?_ _);done))|(refine(((Below.mono ?_ hrb).setCell (Nat.le_refl _) _).setCell (Nat.le_refl _) _).setCell (Nat.le_refl _) _;focus ((with_reducible repeat' first|exact Below.refl _ _|assumption|refine grow_step (by assumption) ?_|refine grow_drew ?_|refine grow_alloc ?_ _|refine grow_drewN ?_ _);done))))
  (first|(go_at_call 22;refine(zof_n (-1) (by decide) (by decide) _).mono ?_;rintro e wA ⟨sA,aA,lA,cA,rfl,hzA,kA,hlA⟩)|(go_at_call 58;refine(tscale_n hzA.zm (by omega) (Pr.below hP2 gw) (Zm.below hz2 gw) hl2 (by omega)).mono ?_;rintro e wS ⟨ad3,n3,cp3,s3,a3,l3,c3,us,rfl,hTS,hnS,hStdS,hcsS,kS⟩)|(go_at_call 20;refine(tadd_n (B:=B+n2+3) (Pr.mono (Pr.below hP gw) (by omega)) (Zm.below hz gw) (by omega) (Pr.mono hTS.1 (by omega)) hTS.2.1 (by have:=hTS.2.2;omega) (by omega)).mono ?_;rintro e w2 ⟨ad',n',cp',s',a',l',c',rs,rfl,hT,hn',hStd,hcs⟩;have kR:=hT.below;have kW:=mid kR (show Below wb.heap.size wb _ from gw);have y1':=TB.below y kW;have y':=y1'.below kR;have y0:=y'.c0;have y1:=y'.c1;have y2:=y'.c2;have y3:=y'.f 0;have y4:=y'.f 1;have y5:=y'.f 2))
 all_goals
  clear hP hP2 hz hz2
  go_wp2
  refine bodyPost_ret (results_cell_row rfl _ _ r 28 _ (0,0) _ rfl (tb_fin y' ad' n' cp' s' a' l' c') Tryz.underlying28 rfl k_f) rfl ?_
  have hTN:=(tn_store (w:=w) (hp.out.symm▸b0) kW hT y1' (by have:=hp.out;omega) cp').mono (B':=B+n2+3+(n+n2)+2) o_m
  rw[show k+ -1*k2=k-k2 by omega]at hTN
  exact⟨ad',n',cp',s',a',l',c',rs,by simp,hTN,by omega,hStd,fun v=>by rw[hcs,csum_append,csum_append,hcsS]⟩

theorem tput_n (hv:I64 v)(hP:Pr w ad n ps B)(hz:Zm w s a l c k)(hl:l≤B)(hP2:Pr w ad2 n2 qs B)(hz2:Zm w s2 a2 l2 c2 k2)(hl2:l2≤B)(hB:B+n+(B+n2+1)+(n+n2)≤536870912):
  Calls Tryz.prog 121 #[.agg #[.slice ad n cp,.bool s,.slice a l c],.int .i64 v,.agg #[.slice ad2 n2 cp2,.bool s2,.slice a2 l2 c2]] w fun e w'=> ∃ad' n' cp' s' a' l' c' rs,e= .returned (.agg #[.slice ad' n' cp',.bool s',.slice a' l' c'])∧TN w w' ad' n' s' a' l' c' rs (k+csum ps v*k2) (B+n+(B+n2+1)+(n+n2)+2)∧n'≤n+n2∧Std (rs.map Raw.p)∧∀u,csum (rs.map Raw.p) u=csum (wo v ps++scl (csum ps v) qs) u:=by
 go_enter Tryz.func121,Tryz.ntmps121
 go_wp2_with fail
 have x:=((tb_new w ad n cp s a l c).below (below_alloc _ (.cells #[.slice ad2 n2 cp2,.bool s2,.slice a2 l2 c2] 28))).below (below_alloc _ (.cells #[.slice none 0 0,.bool false,.slice none 0 0] 28))
 have x2:=(tb_new (w.alloc (.cells #[.slice ad n cp,.bool s,.slice a l c] 28)) ad2 n2 cp2 s2 a2 l2 c2).below (below_alloc _ (.cells #[.slice none 0 0,.bool false,.slice none 0 0] 28))
 have y:=tb_new ((w.alloc (.cells #[.slice ad n cp,.bool s,.slice a l c] 28)).alloc (.cells #[.slice ad2 n2 cp2,.bool s2,.slice a2 l2 c2] 28)) none 0 0 false none 0 0
 have b0:Below w.heap.size w (((w.alloc (.cells #[.slice ad n cp,.bool s,.slice a l c] 28)).alloc (.cells #[.slice ad2 n2 cp2,.bool s2,.slice a2 l2 c2] 28)).alloc (.cells #[.slice none 0 0,.bool false,.slice none 0 0] 28)):=below_alloc' (below_alloc' (below_alloc _ _) _) _
 rw[show(w.alloc (.cells #[.slice ad n cp,.bool s,.slice a l c] 28)).heap.size=w.heap.size+1 from by simp]at x2
 rw[show((w.alloc (.cells #[.slice ad n cp,.bool s,.slice a l c] 28)).alloc (.cells #[.slice ad2 n2 cp2,.bool s2,.slice a2 l2 c2] 28)).heap.size=w.heap.size+1+1 from by simp]at y
 generalize ((w.alloc (.cells #[.slice ad n cp,.bool s,.slice a l c] 28)).alloc (.cells #[.slice ad2 n2 cp2,.bool s2,.slice a2 l2 c2] 28)).alloc (.cells #[.slice none 0 0,.bool false,.slice none 0 0] 28)=wb at*
 have hpr:w.heap.size<w.heap.size+1+1:=by omega
 have hpr2:w.heap.size+1<w.heap.size+1+1:=by omega
 replace hP:=hP.below b0
 replace hz:=hz.below b0
 replace hP2:=hP2.below b0
 replace hz2:=hz2.below b0
 generalize hp:w.heap.size=p at*
 replace hp:=hide hp
 generalize p+1=p2 at*
 generalize p2+1=r at*
 have hrb:=Nat.le_of_lt y.lt
 go_region_held3 (fun w'=>w'.cell? ⟨p,0,none⟩=some (.slice ad n cp)∧w'.cell? ⟨p,1,none⟩=some (.bool s)∧w'.cell? ⟨p,2,none⟩=some (.slice a l c)∧w'.cell? ⟨p2,0,none⟩=some (.slice ad2 n2 cp2)∧w'.cell? ⟨p2,1,none⟩=some (.bool s2)∧w'.cell? ⟨p2,2,none⟩=some (.slice a2 l2 c2)∧Below r wb w')
  ((refine tk6 x x2 hpr hpr2 ?_;first|(refine Below.mono ?_ hrb;focus ((with_reducible repeat' first|exact Below.refl _ _|assumption|refine grow_step (by assumption) ?_|refine grow_drew ?_|refine grow_alloc ?_ _|refine grow_drewN ?_ _);done))|(refine(((Below.mono ?_ hrb).setCell (Nat.le_refl _) _).setCell (Nat.le_refl _) _).setCell (Nat.le_refl _) _;focus ((with_reducible repeat' first|exact Below.refl _ _|assumption|refine grow_step (by assumption) ?_|refine grow_drew ?_|refine grow_alloc ?_ _|refine grow_drewN ?_ _);done))))
  (first|(go_at_call 151;refine(tcoef_n (Pr.below hP gw) (by omega)).mono ?_;rintro e wA ⟨sA,aA,lA,cA,rfl,hzA,hlA,kA⟩)|(go_at_call 58;refine(tscale_n (Zm.below hzA.zm gw) (by omega) (Pr.below hP2 gw) (Zm.below hz2 gw) hl2 (by omega)).mono ?_;rintro e wS ⟨ad3,n3,cp3,s3,a3,l3,c3,us,rfl,hTS,hnS,hStdS,hcsS,kS⟩)|(go_at_call 150;refine(twithout_n (Pr.below hP gw) (Zm.below hz gw) hl (by omega) hv).mono ?_;rintro e wO ⟨ad4,n4,cp4,s4,a4,l4,c4,rsO,rfl,hTO,hnO,hStdO,hcsO⟩;have kO:=hTO.below;replace hTO:=hTO.tw)|(go_at_call 20;refine(tadd_n (B:=B+n+(B+n2+1)) (Pr.mono (Pr.below hTO.1 gw) (by omega)) (Zm.below hTO.2.1 gw) (by have:=hTO.2.2;omega) (Pr.mono (Pr.below hTS.1 gw) (by omega)) (Zm.below hTS.2.1 gw) (by have:=hTS.2.2;omega) (by omega)).mono ?_;rintro e w2 ⟨ad',n',cp',s',a',l',c',rs,rfl,hT,hn',hStd,hcs⟩;have kR:=hT.below;have kW:=mid kR (show Below wb.heap.size wb _ from gw);have y1':=TB.below y kW;have y':=y1'.below kR;have y0:=y'.c0;have y1:=y'.c1;have y2:=y'.c2;have y3:=y'.f 0;have y4:=y'.f 1;have y5:=y'.f 2))
 all_goals
  clear hP hP2 hz hz2
  go_wp2
  refine bodyPost_ret (results_cell_row rfl _ _ r 28 _ (0,0) _ rfl (tb_fin y' ad' n' cp' s' a' l' c') Tryz.underlying28 rfl k_f) rfl ?_
  have hTN:=(tn_store (w:=w) (hp.out.symm▸b0) kW hT y1' (by have:=hp.out;omega) cp').mono (B':=B+n+(B+n2+1)+(n+n2)+2) o_m
  exact⟨ad',n',cp',s',a',l',c',rs,by simp,hTN,by omega,hStd,fun u=>by rw[hcs,csum_append,csum_append,hcsS,hcsO]⟩

theorem fv_snoc (vs:List (Int × Int))(p:Int × Int)(u:Int):fv (vs++ [p]) u=match fv vs u with
  |some z=>some z
  |none=>if p.1=u then some p.2 else none:=by
 induction vs with
 |nil=>simp[fv]
 |cons q vs ih=>
  simp only[List.cons_append,fv]
  by_cases h:q.1=u
  ·simp[h]
  simp only[h,if_false];exact ih

def FA (w:World)(D:DataW Value)(vs:List (Int × Int))(B:Nat):Prop:=
 ∀v,I64 v→(Maps.has D (.int .i64 v)=false∧fv vs v=none)∨ ∃s a l c z,(∀zd,D.atKey (.int .i64 v) zd= .held (.agg #[.bool s,.slice a l c]))∧Zm w s a l c z∧fv vs v=some z∧l≤B
def FM (w:World)(m n:Nat)(vs:List (Int × Int))(B:Nat):Prop:=∃D,w.ownsMap Tryz.prog 3 elemR m n D∧FA w D vs B
theorem FM.below (h:FM w m n vs B)(hb:Below w.heap.size w w'):FM w' m n vs B:=by
 obtain⟨D,h1,h2⟩:=h
 refine⟨D,h1.kept (row:=none) ⟨hb.os,hb.tape,hb.output,hb.size,fun k hk _=>hb.block k hk⟩ (by simp),fun v hv=> ?_⟩
 rcases h2 v hv with h3|⟨s,a,l,c,z,h3,h4,h5⟩
 ·exact .inl h3
 exact .inr ⟨s,a,l,c,z,h3,h4.below hb,h5⟩
theorem FM.lt (h:FM w m n vs B):m<w.heap.size:=by
 obtain⟨D,h1,_⟩:=h;exact h1.lt
theorem fm_new (w:World)(B:Nat):FM (w.alloc (.map #[] 0)) w.heap.size 0 [] B:=
 ⟨_,World.ownsMap_made w _ _ _,fun _ _=> .inl ⟨rfl,rfl⟩⟩
theorem FM.mono {n':Nat}(h:FM w m n vs B)(hn:n≤n'):FM w m n' vs B:=by
 obtain⟨D,h1,h2⟩:=h
 exact⟨D,h1.mono hn,h2⟩

theorem FM.look (h:FM w m n vs B){v:Int}(hv:I64 v):
  ∃s a l c,(∃ok,(Instr.lookup 78 (.map (some m)) (.int .i64 v) true).run Tryz.prog w= .ok (.tuple #[.agg #[.bool s,.slice a l c],.bool ok]) w∧((ok=false∧fv vs v=none)∨(ok=true∧∃z,Zm w s a l c z∧fv vs v=some z∧l≤B))):=by
 obtain⟨D,h1,h2⟩:=h
 obtain⟨u,ps,hrun,hu⟩:=h1.look_ok tk Tryz.underlying78 (Tryz.zeroValue26 w) (elemR_mk _ _ _ _) (keyOf_i hv)
 obtain⟨s,a,l,c,rfl,e⟩:=elemR_inv hu
 refine⟨s,a,l,c,_,hrun,?_⟩
 rcases h2 v hv with⟨h3,h4⟩|⟨s',a',l',c',z,h3,h4,h5,h6⟩
 ·exact .inl ⟨h3,h4⟩
 rw[h3]at e
 simp at e
 obtain⟨⟨rfl,rfl,rfl,rfl⟩,_⟩:=e
 exact .inr ⟨Maps.has_true_of_atKey h3,z,h4,h5,h6⟩

theorem FM.store (h:FM w m n vs B){v:Int}(hv:I64 v)(hn:n≤1099511627776){s:Bool}{a:Option Addr}{l c:Nat}{z:Int}(hz:Zm w s a l c z)(hl:l≤B)(hf:fv vs v=none):
  ∃w',(Instr.mapUpdate 78 (.map (some m)) (.int .i64 v) (.agg #[.bool s,.slice a l c])).run Tryz.prog w= .ok () w'∧FM w' m (n+1) (vs++ [(v,z)]) B∧w.grownBy w' (some m):=by
 obtain⟨D,h1,h2⟩:=h
 obtain⟨w',hrun,h3,h4⟩:=h1.store tk Tryz.underlying78 (by unfold maxLen;omega) (keyOf_i hv) (elemR_mk s a l c)
 have hg:=h4.grown
 refine⟨w',hrun,⟨_,h3,fun u hu=> ?_⟩,hg⟩
 rw[fv_snoc]
 by_cases e:v=u
 ·subst e
  rw[hf]
  exact .inr ⟨s,a,l,c,z,fun zd=>Maps.atKey_put_same h1.isMap (isKey_i v hu) _ _,hz.grown hg (map_nocell h1),by simp,hl⟩
 have hne:(Lit.int .i64 u)≠ .int .i64 v:=fun h=>e (Eq.symm (by injection h))
 simp only[e,if_false]
 rcases h2 u hu with⟨h5,h6⟩|⟨s',a',l',c',z',h5,h6,h7,h8⟩
 ·exact .inl ⟨by rw[Maps.has_put_other hne];exact h5,by rw[h6]⟩
 exact .inr ⟨s',a',l',c',z',fun zd=>by rw[Maps.atKey_put_other hne];exact h5 zd,h6.grown hg (map_nocell h1),by rw[h7],h8⟩
theorem FM.again (h:FM w m n vs B){v z z':Int}(hf:fv vs v=some z):FM w m n (vs++ [(v,z')]) B:=by
 obtain⟨D,h1,h2⟩:=h
 refine⟨D,h1,fun u hu=> ?_⟩
 rw[fv_snoc]
 rcases h2 u hu with⟨h5,h6⟩|⟨s',a',l',c',z',h5,h6,h7,h8⟩
 ·refine .inl ⟨h5,?_⟩
  rw[h6]
  have: ¬v=u:=fun e=>by rw[e,h6]at hf;cases hf
  simp[this]
 exact .inr ⟨s',a',l',c',z',h5,h6,by rw[h7],h8⟩

theorem first_n (hP:Pr w ad n vs B)(hn2:n≤536870912):
  Calls Tryz.prog 33 #[.slice ad n cp] w fun e w'=> ∃m,e= .returned (.map (some m))∧FM w' m n vs B∧Below w.heap.size w w'∧w.heap.size≤m:=by
 have hmm:=run_makeMap (P:=Tryz.prog) 78 w
 obtain⟨hn,hP⟩:=hP
 go_enter Tryz.func33,Tryz.ntmps33
 go_wp2_with fail
 have hF0:=fm_new w B
 have b0:=below_alloc w (.map #[] 0)
 generalize w.alloc (.map #[] 0)=w1 at*
 generalize hm:w.heap.size=m at*
 replace b0:Below w.heap.size w w1:=hm▸b0
 replace hm:=hide hm
 clear hmm
 go_loopw [11] (fun j wr=> ∃t:Nat,t≤n∧j= .int .i64 t∧FM wr m t (vs.take t) B∧Below w.heap.size w wr) (fun j _=>n-(intOf j).toNat)
 case atStart=>exact⟨0,Nat.zero_le _,rfl,by simpa using hF0,b0⟩
 case round=>
  obtain⟨t,ht,rfl,hF,kr⟩:=hrel
  by_cases htn:t<n
  ·rcases hP with hP|⟨bp,op,rfl,hP⟩
   ·omega
   obtain⟨s1,a1,l1,c1,e0,e1,e2,hz,hl1,hv⟩:=(hP.below kr).2 t o_m
   have hps:Hid (vs.take (t+1)=vs.take t++ [vs[t]]):=List.take_succ_eq_append_getElem (l:=vs) (i:=t) o_m
   generalize vs[t]=pp at*
   obtain⟨pv,pz⟩:=pp
   dsimp only at*
   have ka:=below_alloc wr (.cells #[.int .i64 pv,.bool s1,.slice a1 l1 c1] 40)
   have hF2:=hF.below ka
   have hz2:=hz.below ka
   obtain⟨s2,a2,l2,c2,ok,hlook,hok⟩:=hF2.look hv
   have kb:=below_alloc (wr.alloc (.cells #[.int .i64 pv,.bool s1,.slice a1 l1 c1] 40)) (.cells #[.bool s2,.slice a2 l2 c2] 26)
   have kr2:=hide (grow_step kb (grow_step ka kr))
   replace hF2:=hF2.below kb
   replace hz2:=hz2.below kb
   rcases hok with⟨rfl,hf⟩|⟨rfl,z,hzz,hf,hlz⟩
   ·obtain⟨w3,hst,hF3,hg3⟩:=hF2.store hv o_m hz2 hl1 hf
    have kr3:=hide (below_grown kr2.out hg3 (Nat.le_of_eq hm.out))
    clear ka kb
    go_wp2_with fail
    refine⟨⟨t+1,by omega,by go_num,?_,kr3.out⟩,by simp[intOf];omega⟩
    rw[hps.out]
    exact hF3
   clear ka kb
   go_wp2_with fail
   refine⟨⟨t+1,by omega,by go_num,?_,kr2.out⟩,by simp[intOf];omega⟩
   rw[hps.out]
   exact(hF2.again hf).mono o_m
  obtain rfl:t=n:=by omega
  rw[List.take_of_length_le (Nat.le_of_eq hn)]at hF
  go_wp2
  go_ret
  exact⟨m,rfl,hF,kr,Nat.le_of_eq hm.out⟩
end Go.Proofs.YtbgpddlcfiiiaaaGreatDoor
