/-
 Several texts in one: YJ,YK,YL,YM,B2,YU,YV.
-/
import Derived.Test.YtllfelooahplhaaGreatDoorSbn22
import Derived.Laws.CopyRow
import Derived.Test.YtllfelooahplhaaGreatDoorSbn14
import Derived.Test.YtllfelooahplhaaGreatDoorSbn15
set_option maxRecDepth 100000
set_option maxHeartbeats 3200000
namespace Go.Proofs.YtllfelooahplhaaGreatDoor
open Go.RowKit Go.Sort Go.Shelf
open Tm

variable {w w':World}{g base n cap B:Nat}{L:List Raw}{v:Value}{qs ps:List (Int × Int)}{ad:Option Addr}
def zr :Raw:=⟨0,false,none,0,0,0⟩
def RB (w:World)(g:Nat)(L:List Raw):Prop:=w.heap[g]? =some (.cells (flat L).toArray 134 (0,0))
theorem RB.lt (h:RB w g L):g<w.heap.size:=(Array.getElem?_eq_some_iff.1 h).1
theorem RB.below (h:RB w g L)(hb:Below w.heap.size w w'):RB w' g L:=(hb.block g h.lt).trans h
theorem RB.grown {m:Nat}(h:RB w g L)(hg:w.grownBy w' (some m))(hm:g≠m):RB w' g L:=(hg.block g h.lt (by simpa using hm)).trans h
theorem RB.cell (h:RB w g L){i c:Nat}(hi:i<L.length)(hc:c<3):w.cell? ⟨g,i*3+c,none⟩=(L[i]).enc[c]?:=by
 rw[cell_of_row w g (i*3+c) _ _ (0,0) h,←flat_get L i c hi hc]
 simp
theorem RB.c0 (h:RB w g L){i:Nat}(hi:i<L.length):w.cell? ⟨g,i*3,none⟩=some (.int .i64 (L[i]).v):=by simpa [Raw.enc] using h.cell hi (c:=0) (by decide)
theorem RB.c1 (h:RB w g L){i:Nat}(hi:i<L.length):w.cell? ⟨g,i*3+1,none⟩=some (.bool (L[i]).s):=by simpa [Raw.enc] using h.cell hi (c:=1) (by decide)
theorem RB.c2 (h:RB w g L){i:Nat}(hi:i<L.length):w.cell? ⟨g,i*3+2,none⟩=some (.slice (L[i]).a (L[i]).l (L[i]).c):=by simpa [Raw.enc] using h.cell hi (c:=2) (by decide)
theorem RB.noU (h:RB w g L):NoU w g:=by
 intro off x hx
 rw[cell_of_row w g off _ _ (0,0) h]at hx
 have hm:(Value.int .u32 x)∈flat L:=by
  have:(flat L)[off]? =some (.int .u32 x):=by simpa using hx
  exact List.mem_of_getElem? this
 obtain⟨r,_,hr⟩:=List.mem_flatMap.1 hm
 simp[Raw.enc]at hr
theorem flat_append (xs ys:List Raw):flat (xs++ys)=flat xs++flat ys:=by simp[flat]
theorem flat_take (L:List Raw): ∀k,(flat L).take (k*3)=flat (L.take k):=by
 induction L with
 |nil=>intro k;simp[flat]
 |cons x L ih=>
  intro k
  cases k with
  |zero=>simp[flat]
  |succ k=>
   have e:flat (x::L)=x.enc++flat L:=by simp[flat]
   rw[e,List.take_succ_cons,show flat (x::L.take k)=x.enc++flat (L.take k)by simp[flat],←ih k]
   have hl:x.enc.length=3:=rfl
   rw[List.take_append,List.take_of_length_le o_m,hl,show(k+1)*3-3=k*3 by omega]
theorem flat_drop (L:List Raw): ∀k,(flat L).drop (k*3)=flat (L.drop k):=by
 induction L with
 |nil=>intro k;simp[flat]
 |cons x L ih=>
  intro k
  cases k with
  |zero=>simp[flat]
  |succ k=>
   have e:flat (x::L)=x.enc++flat L:=by simp[flat]
   rw[e,List.drop_succ_cons,←ih k]
   have hl:x.enc.length=3:=rfl
   rw[List.drop_append,List.drop_eq_nil_of_le o_m,hl,show(k+1)*3-3=k*3 by omega,List.nil_append]
theorem flat_one (u:Value)(L:List Raw)(h:u∈flat L):u.oneCell'=true:=by
 obtain⟨r,_,hr⟩:=List.mem_flatMap.1 h
 exact v3_one _ _ _ _ _ u hr
theorem zero_get3 (z:Array Value)(k j:Nat)(h:j<k*z.size):(Builtin.zeroCells z k)[j]? =some z[j%z.size]!:=by
 simp[Builtin.zeroCells,h]
theorem zeroP (k:Nat):Builtin.zeroCells (Value.agg #[.int .i64 0,.bool false,.slice none 0 0]).cells k=(flat (List.replicate k zr)).toArray:=by
 apply Array.ext'
 apply List.ext_getElem?
 intro j
 by_cases hj:j<k*3
 ·have h1:(flat (List.replicate k zr))[j]? =(zr.enc)[j%3]?:=by
   have:=flat_get (List.replicate k zr) (j / 3) (j%3) (by simp;omega) (Nat.mod_lt _ (by decide))
   rw[show j / 3*3+j%3=j from by omega]at this
   rw[this]
   simp
  rw[List.toList_toArray,h1,Array.getElem?_toList,zero_get3]
  ·have hm:j%3=0∨j%3=1∨j%3=2:=by omega
   rcases hm with e|e|e <;> simp[Value.cells,e,zr,Raw.enc]
  simpa [Value.cells] using hj
 rw[List.getElem?_eq_none (by simp[Builtin.zeroCells,Value.cells];omega),List.getElem?_eq_none (by rw[List.toList_toArray,flat_length];simp;omega)]

def RS (base:Nat)(w:World)(v:Value)(n cap:Nat)(L:List Raw):Prop:=
 (v= .slice none 0 0∧n=0∧cap=0∧L= [])∨ ∃g,v= .slice (some ⟨g,0,none⟩) n cap∧base≤g∧RB w g L∧L.length=cap∧n≤cap∧cap≤maxLen

theorem RS.row (h:RS base w v n cap L): ∃ad,v= .slice ad n cap:=by
 rcases h with⟨rfl,rfl,rfl,_⟩|⟨g,rfl,_⟩
 ·exact⟨_,rfl⟩
 exact⟨_,rfl⟩

theorem RS.below (h:RS base w v n cap L)(hb:Below w.heap.size w w'):RS base w' v n cap L:=by
 rcases h with h|⟨g,h1,h2,h3,h4⟩
 ·exact .inl h
 exact .inr ⟨g,h1,h2,h3.below hb,h4⟩
theorem run_append_rs {w0:World}(h:RS w0.heap.size w v n cap L)(hb:Below w0.heap.size w0 w)(x:Raw)(a:Addr)(ha: ∀j u,(x.enc)[j]? =some u→w.cell? (a.add j)=some u)(hn:n≤1073741824)(ty:TypeId):
  ∃v' w',(Builtin.append_ #[42,42] ty #[v,.slice (some a) 1 1]).run Tryz.prog w= .ok v' w'∧∃cap' L',RS w0.heap.size w' v' (n+1) cap' L'∧L'.take (n+1)=L.take n++ [x]∧(∀y∈L',y∈L∨y=x∨y=zr)∧Below w0.heap.size w0 w'∧w.grownBy w' v.ownBlock∧(v'.ownBlock=v.ownBlock∨v'.ownBlock=some w.heap.size):=by
 obtain⟨i0,hi,hz0,hz1,hz2⟩:=info_parts infoP
 have hxl:x.enc.length=1*i0.size:=by rw[hz1];rfl
 have hx1: ∀u∈x.enc,u.oneCell'=true:=v3_one _ _ _ _ _
 have hfx:x.enc=flat [x]:=by simp[flat]
 rcases h with⟨rfl,rfl,rfl,rfl⟩|⟨g,rfl,hg,hr,hl,hnc,hcm⟩
 ·have hr:=run_append_nil (P:=Tryz.prog) w 42 ty 134 i0 _ Tryz.underlying42 hi hz0 a 1 1 x.enc hxl ha (by decide) (by decide) (by rw[hz2];decide)
  have hge:=grownCap_ge w 1 0 134
  have hcm:=grownCap_le_maxLen w 1 0 134 (by unfold maxLen;decide)
  rw[zeroP,hfx,List.append_toArray,←flat_append]at hr
  refine⟨_,_,hr,_,_,.inr ⟨_,rfl,hb.size,heap_alloc_new w.drew _,by simp;omega,hge,hcm⟩,by simp,fun y hy=> ?_,below_drew_alloc hb _,grown_drew_alloc w _ _,.inr rfl⟩
  rcases List.mem_append.1 hy with h|h
  ·exact .inr (.inl (List.mem_singleton.1 h))
  exact .inr (.inr (List.eq_of_mem_replicate h))
 by_cases hroom:n+1≤cap
 ·have hr':=run_append_room (P:=Tryz.prog) w 42 ty 134 i0 Tryz.underlying42 hi g n cap (flat L).toArray hr a 1 1 x.enc hxl ha hx1 hroom (by rw[hz1];simp[flat_length];rw[show x.enc.length=3 from rfl];omega)
  have e1:((flat L).toArray.toList.take (n*i0.size)++x.enc++(flat L).toArray.toList.drop (n*i0.size+x.enc.length))=flat (L.take n++ [x]++L.drop (n+1)):=by
   rw[hz1,show x.enc.length=3 from rfl,show n*3+3=(n+1)*3 by omega]
   dsimp only
   rw[flat_take,flat_drop,flat_append,flat_append,hfx]
  rw[e1]at hr'
  refine⟨_,_,hr',cap,L.take n++ [x]++L.drop (n+1),.inr ⟨g,rfl,hg,setRow_heap w g _ _ _ _ hr,by simp;omega,hroom,hcm⟩,?_,fun y hy=> ?_,hb.trans ⟨rfl,rfl,rfl,by simp,fun k hk=>setRow_other w g k _ o_m⟩,⟨rfl,rfl,rfl,by simp,fun k _ hk=>setRow_other w g k _ (fun e=>hk (by simp[Value.ownBlock,e]))⟩,.inl rfl⟩
  ·have e:(L.take n++ [x]).length=n+1:=by simp;omega
   rw[←e,List.take_left]
  rcases List.mem_append.1 hy with h|h
  ·rcases List.mem_append.1 h with h|h
   ·exact .inl (List.mem_of_mem_take h)
   exact .inr (.inl (List.mem_singleton.1 h))
  exact .inl (List.mem_of_mem_drop h)
 have holds: ∀j u,(flat (L.take n))[j]? =some u→w.cell? ((⟨g,0,none⟩:Addr).add j)=some u:=fun j u hu=>by
  rw[Addr.add_lit,Nat.zero_add,cell_of_row w g j _ _ (0,0) hr]
  rw[←flat_take]at hu
  rw[List.getElem?_take]at hu
  split at hu
  ·simpa using hu
  cases hu
 have hr':=run_append_grow (P:=Tryz.prog) w 42 ty 134 i0 _ Tryz.underlying42 hi hz0 ⟨g,0,none⟩ n cap (flat (L.take n)) (by rw[hz1,flat_length];simp;omega) holds a 1 1 x.enc hxl ha o_m o_m (growslice_fits o_m (by rw[hz2];omega))
 have hge:=grownCap_ge w (n+1) cap 134
 have hcm':=grownCap_le_maxLen w (n+1) cap 134 (by unfold maxLen;omega)
 rw[zeroP,hfx,List.append_toArray,List.append_toArray,←flat_append,←flat_append]at hr'
 refine⟨_,_,hr',_,_,.inr ⟨_,rfl,hb.size,heap_alloc_new w.drew _,by simp;omega,hge,hcm'⟩,?_,fun y hy=> ?_,below_drew_alloc hb _,grown_drew_alloc w _ _,.inr rfl⟩
 ·have e:(L.take n++ [x]).length=n+1:=by simp;omega
  rw[←e,List.take_left]
 rcases List.mem_append.1 hy with h|h
 ·rcases List.mem_append.1 h with h|h
  ·exact .inl (List.mem_of_mem_take h)
  exact .inr (.inl (List.mem_singleton.1 h))
 exact .inr (.inr (List.eq_of_mem_replicate h))

theorem RS.zn (h:RS base w v n cap L)(hg:w.grownBy w' v.ownBlock){s:Bool}{a:Option Addr}{l c:Nat}{z:Int}(hz:Zn w s a l c z):Zn w' s a l c z:=by
 rcases h with⟨rfl,_⟩|⟨g,rfl,_,hr,_⟩
 ·exact hz.below (gb_none hg)
 exact hz.grownU hg hr.noU

def ins :List (Int × Int)→Int × Int→List (Int × Int)
 | [],p=> [p]
 |q::qs,p=>if q.1<p.1 then q::ins qs p else if q.1=p.1 then(q.1,q.2+p.2)::qs else p::q::qs
theorem csum_ins (qs:List (Int × Int))(p:Int × Int)(v:Int):csum (ins qs p) v=csum qs v+if p.1=v then p.2 else 0:=by
 induction qs with
 |nil=>simp[ins,csum]
 |cons q qs ih=>
  unfold ins
  split
  ·simp only[csum,ih];omega
  split
  ·rename_i h
   simp only[csum,h]
   split <;> omega
  simp only[csum];omega
theorem ins_mem {p r:Int × Int}(h:r∈ins qs p):r.1=p.1∨ ∃q∈qs,q.1=r.1:=by
 induction qs with
 |nil=>simp[ins]at h;exact .inl (by rw[h])
 |cons q qs ih=>
  unfold ins at h
  split at h
  ·rcases List.mem_cons.1 h with rfl|h
   ·exact .inr ⟨r,by simp,rfl⟩
   rcases ih h with h|⟨x,hx,e⟩
   ·exact .inl h
   exact .inr ⟨x,by simp[hx],e⟩
  split at h
  ·rcases List.mem_cons.1 h with rfl|h
   ·exact .inr ⟨q,by simp,rfl⟩
   exact .inr ⟨r,by simp[h],rfl⟩
  rcases List.mem_cons.1 h with rfl|h
  ·exact .inl rfl
  exact .inr ⟨r,h,rfl⟩
def Rise (qs:List (Int × Int)):Prop:=qs.Pairwise (fun p q=>p.1<q.1)
theorem rise_ins (h:Rise qs)(p:Int × Int):Rise (ins qs p):=by
 induction qs with
 |nil=>simp[ins,Rise]
 |cons q qs ih=>
  have h1:=List.pairwise_cons.1 h
  unfold ins
  split
  ·refine List.pairwise_cons.2 ⟨fun r hr=> ?_,ih h1.2⟩
   rcases ins_mem hr with e|⟨x,hx,e⟩
   ·omega
   have:=h1.1 x hx;omega
  split
  ·exact List.pairwise_cons.2 ⟨fun r hr=>h1.1 r hr,h1.2⟩
  refine List.pairwise_cons.2 ⟨fun r hr=> ?_,h⟩
  rcases List.mem_cons.1 hr with rfl|hr
  ·omega
  have:=h1.1 r hr;omega
theorem flat_set (L:List Raw): ∀(t:Nat) (_:t<L.length) (y:Raw),(((flat L).set (t*3) (.int .i64 y.v)).set (t*3+1) (.bool y.s)).set (t*3+2) (.slice y.a y.l y.c)=flat (L.set t y):=by
 induction L with
 |nil=>intro t ht;cases ht
 |cons x L ih=>
  intro t ht y
  have e:flat (x::L)= .int .i64 x.v:: .bool x.s:: .slice x.a x.l x.c::flat L:=by simp[flat,Raw.enc]
  cases t with
  |zero=>
   rw[e]
   simp[flat,Raw.enc]
  |succ t=>
   have e2:flat ((x::L).set (t+1) y)= .int .i64 x.v:: .bool x.s:: .slice x.a x.l x.c::flat (L.set t y):=by simp[flat,Raw.enc]
   rw[e,e2,←ih t (by simpa using ht) y,show(t+1)*3=t*3+1+1+1 by omega]
   simp
def Rok (w:World)(B:Nat)(L:List Raw):Prop:=∀x∈L,x.ok w B
theorem Rok.below (h:Rok w B L)(hb:Below w.heap.size w w'):Rok w' B L:=fun x hx=>⟨(h x hx).1.below hb,(h x hx).2⟩
theorem Rok.grownU {b:Nat}(h:Rok w B L)(hg:w.grownBy w' (some b))(hb:NoU w b):Rok w' B L:=fun x hx=>raw_grown hg hb (h x hx)
theorem zr_ok (w:World)(B:Nat):zr.ok w B:=⟨zn_zero w,Nat.zero_le _,by unfold I64;decide⟩

def lays (qs ps:List (Int × Int)):List (Int × Int):=ps.foldl ins qs
theorem csum_lays (ps:List (Int × Int)): ∀(qs:List (Int × Int)) (v:Int),csum (lays qs ps) v=csum qs v+csum ps v:=by
 induction ps with
 |nil=>intro qs v;simp[lays,csum]
 |cons p ps ih=>
  intro qs v
  have:=ih (ins qs p) v
  unfold lays at this ⊢
  rw[List.foldl_cons,this,csum_ins]
  simp only[csum]
  omega
theorem rise_lays (ps:List (Int × Int)): ∀{qs:List (Int × Int)},Rise qs→Rise (lays qs ps):=by
 induction ps with
 |nil=>intro qs h;exact h
 |cons p ps ih=>intro qs h;exact ih (rise_ins h p)
def nz (qs:List (Int × Int)):List (Int × Int):=qs.filter (fun p=>p.2≠0)
theorem csum_nz (qs:List (Int × Int))(v:Int):csum (nz qs) v=csum qs v:=by
 induction qs with
 |nil=>rfl
 |cons q qs ih=>
  unfold nz at ih ⊢
  by_cases h:q.2=0
  ·rw[List.filter_cons_of_neg (by simpa using h),ih]
   simp only[csum,h]
   split <;> omega
  rw[List.filter_cons_of_pos (by simpa using h)]
  simp only[csum,ih]
theorem std_nz (h:Rise qs):Std (nz qs):=by
 exact⟨List.Pairwise.filter _ h,fun p hp=>by simpa using (List.mem_filter.1 hp).2⟩

theorem RS.grown {o:Nat}(h:RS base w v n cap L)(hg:w.grownBy w' (some o))(ho:o<base):RS base w' v n cap L:=by
 rcases h with h|⟨g,e,hb,hr,h⟩
 ·exact .inl h
 exact .inr ⟨g,e,hb,hr.grown hg o_m,h⟩

def Pn (w:World)(ad:Option Addr)(n:Nat)(ps:List (Int × Int))(B:Nat):Prop:=
 ps.length=n∧(n=0∨ ∃b off,ad=some ⟨b,off,none⟩∧b<w.heap.size∧∀i (h:i<ps.length),∃s a l c,w.cell? ⟨b,off+i*3,none⟩=some (.int .i64 (ps[i]).1)∧w.cell? ⟨b,off+i*3+1,none⟩=some (.bool s)∧w.cell? ⟨b,off+i*3+2,none⟩=some (.slice a l c)∧Zn w s a l c (ps[i]).2∧l≤B∧I64 (ps[i]).1)
theorem Pn.pr (h:Pn w ad n ps B):Pr w ad n ps B:=by
 refine⟨h.1,?_⟩
 rcases h.2 with h2|⟨b,off,e,hlt,h2⟩
 ·exact .inl h2
 refine .inr ⟨b,off,e,hlt,fun i hi=> ?_⟩
 obtain⟨s,a,l,c,e0,e1,e2,hz,hl,hv⟩:=h2 i hi
 exact⟨s,a,l,c,e0,e1,e2,hz.zm,hl,hv⟩
theorem Pn.below (h:Pn w ad n ps B)(hb:Below w.heap.size w w'):Pn w' ad n ps B:=by
 refine⟨h.1,?_⟩
 rcases h.2 with h2|⟨b,off,e,hlt,h2⟩
 ·exact .inl h2
 refine .inr ⟨b,off,e,Nat.lt_of_lt_of_le hlt hb.size,fun i hi=> ?_⟩
 obtain⟨s,a,l,c,e0,e1,e2,hr,hl,hv⟩:=h2 i hi
 exact⟨s,a,l,c,(hb.cell (p:=⟨b,off+i*3,none⟩) hlt).trans e0,(hb.cell (p:=⟨b,off+i*3+1,none⟩) hlt).trans e1,(hb.cell (p:=⟨b,off+i*3+2,none⟩) hlt).trans e2,hr.below hb,hl,hv⟩
theorem Pn.mono {B':Nat}(h:Pn w ad n ps B)(hB:B≤B'):Pn w ad n ps B':=by
 refine⟨h.1,?_⟩
 rcases h.2 with h2|⟨b,off,e,hlt,h2⟩
 ·exact .inl h2
 refine .inr ⟨b,off,e,hlt,fun i hi=> ?_⟩
 obtain⟨s,a,l,c,e0,e1,e2,hr,hl,hv⟩:=h2 i hi
 exact⟨s,a,l,c,e0,e1,e2,hr,Nat.le_trans hl hB,hv⟩
theorem pn_nil (w:World)(ad:Option Addr)(B:Nat):Pn w ad 0 [] B:=⟨rfl,.inl rfl⟩
theorem rs_pn (h:RS base w (.slice ad n cap) n cap L)(hok:Rok w B L):Pn w ad n ((L.take n).map Raw.p) B:=by
 rcases h with⟨e,h0,_,rfl⟩|⟨g,e,hb,hr,hl,hn,_⟩
 ·subst h0;exact⟨by simp,.inl rfl⟩
 simp at e
 subst e
 refine⟨by simp;omega,.inr ⟨g,0,rfl,hr.lt,fun i hi=> ?_⟩⟩
 have hi':i<L.length:=by simp at hi;omega
 have hx:=hok L[i] (List.getElem_mem hi')
 exact⟨(L[i]).s,(L[i]).a,(L[i]).l,(L[i]).c,by simpa [Raw.p] using hr.c0 hi',by simpa using hr.c1 hi',by simpa using hr.c2 hi',by simpa [Raw.p] using hx.1,hx.2.1,by simpa [Raw.p] using hx.2.2⟩
end Go.Proofs.YtllfelooahplhaaGreatDoor

namespace Go.Proofs.YtllfelooahplhaaGreatDoor
open Go.RowKit Go.Sort Go.Shelf
open Tm At

theorem PB.below9 {w w':World}{b:Nat}{v:Int}{s:Bool}{a:Option Addr}{l c:Nat}(h:PB w b v s a l c)(hb:Below w.heap.size w w'):PB w' b v s a l c:=(hb.block b h.lt).trans h

theorem each_n {w:World}{ad:Option Addr}{n cp:Nat}{s:Bool}{a:Option Addr}{l c:Nat}{ps:List (Int × Int)}{k:Int}{B C kf:Nat}{lb:Array Value}{F:Int→Int}(eg: ∀args w,(callFunc kf args).run Tryz.prog w= .ok (.enter kf args) w)
  (hf: ∀w' s a l c z,Below w.heap.size w w'→Zm w' s a l c z→l≤B→Calls Tryz.prog kf (#[.agg #[.bool s,.slice a l c]]++lb) w' fun e w''=> ∃s' a' l' c',e= .returned (.agg #[.bool s',.slice a' l' c'])∧Zn w'' s' a' l' c' (F z)∧Below w'.heap.size w' w''∧l'≤C)
  (hP:Pr w ad n ps B)(hz:Zm w s a l c k)(hl:l≤B)(hn:n≤268435456)(hC:C≤1099511627776):
  Calls Tryz.prog 146 #[.agg #[.slice ad n cp,.bool s,.slice a l c],.func (.func kf) #[] lb] w fun e w'=> ∃ad' n' cp' s' a' l' c',e= .returned (.agg #[.slice ad' n' cp',.bool s',.slice a' l' c'])∧Pn w' ad' n' (eachP F ps) C∧Zn w' s' a' l' c' (F k)∧l'≤C∧n'≤n∧(∀b off,ad'=some ⟨b,off,none⟩→w.heap.size≤b)∧Below w.heap.size w w':=by
 go_enter Tryz.func146,Tryz.ntmps146
 go_wp2_with fail
 have x:=(tb_new w ad n cp s a l c).below (below_alloc _ (.cells #[.slice none 0 0,.bool false,.slice none 0 0] 47))
 have y:=tb_new (w.alloc (.cells #[.slice ad n cp,.bool s,.slice a l c] 47)) none 0 0 false none 0 0
 have b0:Below w.heap.size w ((w.alloc (.cells #[.slice ad n cp,.bool s,.slice a l c] 47)).alloc (.cells #[.slice none 0 0,.bool false,.slice none 0 0] 47)):=below_alloc' (below_alloc _ _) _
 rw[show(w.alloc (.cells #[.slice ad n cp,.bool s,.slice a l c] 47)).heap.size=w.heap.size+1 from by simp]at y
 generalize (w.alloc (.cells #[.slice ad n cp,.bool s,.slice a l c] 47)).alloc (.cells #[.slice none 0 0,.bool false,.slice none 0 0] 47)=wb at*
 replace hP:=hP.below b0
 replace hz:=hz.below b0
 have hf2:Hid (∀w' s a l c z,Below wb.heap.size wb w'→Zm w' s a l c z→l≤B→Calls Tryz.prog kf (#[.agg #[.bool s,.slice a l c]]++lb) w' fun e w''=> ∃s' a' l' c',e= .returned (.agg #[.bool s',.slice a' l' c'])∧Zn w'' s' a' l' c' (F z)∧Below w'.heap.size w' w''∧l'≤C):=(fun w' s a l c z h=>hf w' s a l c z (grow_step h b0))
 clear hf
 generalize hp:w.heap.size=p at*
 replace b0:Hid (Below w.heap.size w wb):=hp▸b0
 have hpr:Hid (w.heap.size=p∧p<p+1):=⟨hp,by omega⟩
 clear hp
 generalize p+1=r at*
 obtain⟨hps,hP⟩:=hP
 go_loopw [5,12] (fun v i wr=> ∃(t:Nat) (ad3:Option Addr) (n3 cap3:Nat) (L3:List Raw),t≤n∧i= .int .i64 t∧v= .slice ad3 n3 cap3∧Hid (RS wb.heap.size wr (.slice ad3 n3 cap3) n3 cap3 L3)∧Hid (Rok wr C L3)∧Hid ((L3.take n3).map Raw.p=eachP F (ps.take t))∧n3≤t∧Hid (Below wb.heap.size wb wr)) (fun _ i _=>n-(intOf i).toNat)
 case atStart=>exact⟨0,none,0,0,[],Nat.zero_le _,rfl,rfl,.inl ⟨rfl,rfl,rfl,rfl⟩,(fun x hx=>absurd hx (by simp)),(show _=_ from rfl),by omega,Below.refl _ _⟩
 case round=>
  obtain⟨t,ad3,n3,cap3,L3,ht,rfl,rfl,hR3,hok3,hea,hn3,kr⟩:=hrel
  by_cases htn:t<n
  ·rcases hP with hP|⟨bp,op,rfl,hP⟩
   ·omega
   obtain⟨s2,a2,l2,c2,e0,e1,e2,hz2,hl2,hv⟩:=(hP.below kr.out).2 t o_m
   have hstep:Hid (eachP F (ps.take (t+1))=eachP F (ps.take t)++if F (ps[t]).2=0 then []else [((ps[t]).1,F (ps[t]).2)]):=(show _=_ by rw[List.take_succ_eq_append_getElem (l:=ps) (i:=t) o_m,eachP_snoc])
   generalize ps[t]=pp at*
   obtain⟨pv,pz⟩:=pp
   dsimp only at*
   have pb:PB (wr.alloc (.cells #[.int .i64 pv,.bool s2,.slice a2 l2 c2] 134)) wr.heap.size pv s2 a2 l2 c2:=pb_new wr pv s2 a2 l2 c2
   have ka:=below_alloc wr (.cells #[.int .i64 pv,.bool s2,.slice a2 l2 c2] 134)
   have kb:=hide (grow_step ka kr.out)
   have hcall:=hide (hf2.out _ s2 a2 l2 c2 pz kb.out (hz2.below ka) hl2)
   have hR4:=hide (hR3.out.below ka)
   have hok4:=hide (hok3.out.below ka)
   clear ka
   go_wp2_with fail
   refine hcall.out.mono ?_
   rintro e w5 ⟨s5,a5,l5,c5,rfl,hz5,k5,hl5⟩
   have kc:=hide (below_alloc w5 (.cells #[.bool s5,.slice a5 l5 c5] 45))
   have cb:=zb_new w5 s5 a5 l5 c5
   have k6:=hide (grow_step kc.out (grow_step k5 kb.out))
   have hz6:=hide (hz5.below kc.out)
   have pb6:=(pb.below9 k5).below9 kc.out
   have hR6:=hide ((hR4.out.below k5).below kc.out)
   have hok6:=hide ((hok4.out.below k5).below kc.out)
   clear k5 kb hz5 pb hR4 hok4 hcall hR3 hok3
   replace cb:=hide cb
   replace pb6:=hide pb6
   go_wp2_with fail
   refine(zsign_n hz6.out.zm o_m).mono ?_
   rintro e w7 ⟨rfl,k7⟩
   have cb7:=cb.out.below k7
   have pb7:=pb6.out.below9 k7
   have hz7:=hide (hz6.out.below k7)
   have hR7:=hide (hR6.out.below k7)
   have hok7:=hide (hok6.out.below k7)
   replace k7:=hide (grow_step k7 k6.out)
   clear hz6 hR6 hok6 k6 cb pb6 kc
   generalize w5.heap.size=qc at*
   generalize wr.heap.size=qp at*
   by_cases hz0:F pz=0
   ·have hea':Hid ((L3.take n3).map Raw.p=eachP F (ps.take (t+1))):=(show _=_ by rw[hstep.out,hea.out];simp[hz0])
    rw[hz0,show cmpI 0 0=0 from rfl]
    go_wp2_with fail
    exact⟨⟨t+1,ad3,n3,cap3,L3,by omega,by go_num,rfl,hR7,hok7,hea',by omega,k7⟩,by simp[intOf];omega⟩
   have hc:cmpI (F pz) 0≠0:=by unfold cmpI;split <;> (try split) <;> omega
   generalize cmpI (F pz) 0=cz at*
   have t0:=pb7.c0
   have u0:=cb7.c0
   have u1:=cb7.c1
   have hcq:=cb7.lt
   have hpq:=pb7.lt
   have kz:=below_alloc w7 (.cells #[.int .i64 pv,.bool s5,.slice a5 l5 c5] 134)
   have happ:=hide (run_append_rs (w0:=wb) (hR7.out.below kz) (grow_step kz k7.out) ⟨pv,s5,a5,l5,c5,F pz⟩ ⟨w7.heap.size,0,none⟩ (v3_new w7 pv s5 a5 l5 c5) o_m)
   replace kz:=hide kz
   go_wp2_with(at_builtin;refine wpList_append_run rfl _ _ 42 rfl _ _ rfl rfl _ (happ.out _) ?_;rintro v5 w8 ⟨cap5,L5,hR5,htk,hmem,hb5,hg5,-⟩;obtain⟨ad5,rfl⟩:=hR5.row;replace hR5:=hide hR5;replace hmem:=hide hmem;replace hb5:=hide hb5;replace hg5:=hide hg5;replace htk:=hide htk)
   have ok5:Hid (Rok w8 C L5):=fun y hy=>by
    rcases hmem.out y hy with h|rfl|rfl
    ·exact⟨(hR7.out.below kz.out).zn hg5.out ((hok7.out y h).1.below kz.out),(hok7.out y h).2⟩
    ·exact⟨(hR7.out.below kz.out).zn hg5.out (hz7.out.below kz.out),hl5,hv⟩
    exact zr_ok _ _
   have hea':Hid ((L5.take (n3+1)).map Raw.p=eachP F (ps.take (t+1))):=(show _=_ by rw[htk.out,List.map_append,hea.out,hstep.out];simp[Raw.p,hz0])
   exact⟨⟨t+1,ad5,n3+1,cap5,L5,by omega,by go_num,rfl,hR5,ok5,hea',by omega,hb5⟩,by simp[intOf];omega⟩
  obtain rfl:t=n:=by omega
  rw[List.take_of_length_le (Nat.le_of_eq hps)]at hea
  have xr:=x.below kr.out
  have yr:=y.below kr.out
  have x1:=xr.c1
  have x2:=xr.c2
  have hcall:=hide (hf2.out wr s a l c k kr.out (hz.below kr.out) hl)
  go_wp2_with fail
  refine hcall.out.mono ?_
  rintro e w5 ⟨s5,a5,l5,c5,rfl,hz5,k5,hl5⟩
  have y5:=yr.below k5
  have y0:=y5.c0
  have y1:=y5.c1
  have y2:=y5.c2
  have y3:=y5.f 0
  have y4:=y5.f 1
  have y6:=y5.f 2
  have g:=tb_set w5 r (.slice ad3 n3 cap3) (.bool s5) (.slice a5 l5 c5)
  have hzf:=hide (hz5.grownU g (tb_noU y5))
  have hRf:=hide ((hR3.out.below k5).grown g y.lt)
  have hokf:=hide ((hok3.out.below k5).grownU g (tb_noU y5))
  have kf:=hide (below_grown (grow_step (grow_step k5 kr.out) b0.out) g (by have:=hpr.out;omega))
  clear g k5 hcall x1 x2
  go_wp2
  refine bodyPost_ret (results_cell_row rfl _ _ r 47 _ (0,0) _ rfl (tb_fin y5 ad3 n3 cap3 s5 a5 l5 c5) Tryz.underlying47 rfl k_f) rfl ?_
  have hpn:=rs_pn hRf.out hokf.out
  rw[hea.out]at hpn
  have hnew: ∀b off,ad3=some ⟨b,off,none⟩→w.heap.size≤b:=fun b off e=>by
   rcases hRf.out with⟨h1,_⟩|⟨g,h1,hg,_⟩
   ·simp at h1
    rw[h1.1]at e
    cases e
   simp at h1
   rw[h1]at e
   simp at e
   have:=b0.out.size
   omega
  exact⟨ad3,n3,cap3,s5,a5,l5,c5,by simp,hpn,hzf.out,hl5,by omega,hnew,kf.out⟩
end Go.Proofs.YtllfelooahplhaaGreatDoor

namespace Go.Proofs.YtllfelooahplhaaGreatDoor.Fresh
open Go.RowKit Go.Sort Go.Shelf
open Tm

variable {F m n cp l c g base cap r B:Nat}{w w':World}{L:List Raw}{ad a:Option Addr}{s:Bool}{v:Value}
theorem sortW_block {α:Type} [Inhabited α] (enc:α→List Value)(w:World)(g m:Nat)(dk:Array α)(os:Array Obj){cur:Array Value}{ty:TypeId}{fz:Nat × Nat}(h:w.heap[g]? =some (.cells cur ty fz)):
  (sortWorldK enc 3 w g 0 m dk os).heap[g]? =some (.cells (putCells id 0 (flatK enc 3 dk) cur) ty fz):=by
 have hg:g<w.heap.size:=(Array.getElem?_eq_some_iff.1 h).1
 simp only[sortWorldK,grow,putRowK,putRow,mapBlock,Sort.ahead]
 rw[Array.getElem?_append_left (by simpa using hg),Array.getElem?_modify,if_pos rfl,h]
 rfl
theorem putCells_past (d:Array Value)(cur:Array Value)(j:Nat)(h:d.size≤j):(putCells id 0 d cur)[j]? =cur[j]?:=by
 simp only[putCells,Array.getElem?_mapIdx]
 cases cur[j]? with
 |none=>rfl
 |some x=>simp only[Option.map_some];rw[if_neg o_m]

def New (F:Nat)(w:World)(L:List Raw):Prop:=∀x∈L,x.l≤x.c∧Fr F w x.a x.c
theorem New.below (h:New F w L)(hb:Below w.heap.size w w'):New F w' L:=fun x hx=>⟨(h x hx).1,(h x hx).2.below hb⟩
theorem New.grownN (h:New F w L)(hg:w.grownBy w' (some m))(hm:NR w m):New F w' L:=fun x hx=>⟨(h x hx).1,(h x hx).2.grownN hg hm⟩
theorem nr_cells {cs:Array Value}{ty:TypeId}{fz:Nat × Nat}(h:w.heap[m]? =some (.cells cs ty fz))(ht:ty≠200):NR w m:=fun xs hr=>by
 have e:=Option.some.inj (h.symm.trans hr)
 injection e with _ e2 _
 exact ht e2
theorem nr_tb {b:Nat}(h:TB w b ad n cp s a l c):NR w b:=nr_cells h (by decide)
theorem rb_tb {b:Nat}(h:RB w g L)(y:TB w b ad n cp s a l c):g≠b:=by
 rintro rfl
 have e:=Option.some.inj ((show w.heap[g]? =_ from h).symm.trans y)
 injection e with _ e2 _
 exact absurd e2 (by decide)
def NW (F:Nat)(w:World)(ad:Option Addr)(n cp:Nat)(a:Option Addr)(l c:Nat):Prop:=∃L,RS F w (.slice ad n cp) n cp L∧New F w L∧l≤c∧Fr F w a c
theorem rs_tb {n0:Nat}(h:RS base w v n cap L)(y:TB w r ad n0 cp s a l c)(hg:w.grownBy w' (some r)):RS base w' v n cap L:=by
 rcases h with h|⟨g,e,hb,hr,h⟩
 ·exact .inl h
 exact .inr ⟨g,e,hb,hr.grown hg (rb_tb hr y),h⟩
theorem NW.tb {ad0:Option Addr}{n0 cp0:Nat}{s0:Bool}{a0:Option Addr}{l0 c0:Nat}(h:NW F w ad n cp a l c)(y:TB w r ad0 n0 cp0 s0 a0 l0 c0)(hg:w.grownBy w' (some r)):NW F w' ad n cp a l c:=by
 obtain⟨L,h1,h2,h3,h4⟩:=h
 exact⟨L,rs_tb h1 y hg,h2.grownN hg (nr_tb y),h3,h4.grownN hg (nr_tb y)⟩
theorem rs_own {k:Nat}(h:RS base w v n cap L)(e:v.ownBlock=some k):base≤k∧k<w.heap.size:=by
 rcases h with⟨rfl,_⟩|⟨g,rfl,hb,hr,_⟩
 ·cases e
 cases e
 exact⟨hb,hr.lt⟩
theorem rs_kept (h:RS base w v n cap L)(hg:w.grownBy w' (some r))(hr:r<base):RS base w' v n cap L:=by
 rcases h with h|⟨g,e,hb,hrb,h⟩
 ·exact .inl h
 exact .inr ⟨g,e,hb,hrb.grown hg o_m,h⟩
theorem rb_sorted {w0:World}{rs:List Raw}{cur:Array Value}(hPQ:PQ w0 w' g rs B)(hb:w'.heap[g]? =some (.cells cur 134 (0,0)))(hd: ∀j,n*3≤j→cur[j]? =(flat L).toArray[j]?)(hn:rs.length=n):RB w' g (rs++L.drop n):=by
 have e:cur=(flat (rs++L.drop n)).toArray:=by
  apply Array.ext_getElem?
  intro j
  rw[flat_append,←flat_drop]
  by_cases hj:j<n*3
  ·have hi:j / 3<rs.length:=by omega
   have hc:=cell_of_row w' g j _ _ (0,0) hb
   obtain⟨⟨c0,c1,c2⟩,_⟩:=hPQ.2 (j / 3) hi
   have h3:=flat_get rs (j / 3) (j%3) hi (Nat.mod_lt _ (by decide))
   rw[show j / 3*3+j%3=j from by omega]at h3
   have e4:(flat rs++(flat L).drop (n*3)).toArray[j]? =(rs[j / 3]).enc[j%3]?:=by
    rw[List.getElem?_toArray,List.getElem?_append_left (by rw[flat_length];omega),h3]
   rw[e4,←hc]
   have hm:j%3=0∨j%3=1∨j%3=2:=by omega
   generalize rs[j / 3]=xr at*
   rcases hm with e|e|e
   ·have ej:j=j / 3*3:=by omega
    rw[e,ej,c0];rfl
   ·have ej:j=j / 3*3+1:=by omega
    rw[e,ej,c1];rfl
   have ej:j=j / 3*3+2:=by omega
   rw[e,ej,c2];rfl
  rw[hd j o_m]
  simp only[List.getElem?_toArray]
  rw[List.getElem?_append_right (by rw[flat_length];omega),List.getElem?_drop,flat_length,hn]
  congr 1
  omega
 rw[RB,←e]
 exact hb
theorem sort_w {w0:World}{cur:Array Value}{rs:List Raw}(hn:rs.length=n)(hok: ∀x∈rs,x.ok w0 B)(hB:B≤1099511627776)(hk:Below w0.heap.size w0 w)(hg0:w0.heap.size≤g)
  (hcur:w.heap[g]? =some (.cells cur 134 (0,0)))(hrow:cur.toList.take (n*3)=flat rs)(hd:(rs.map Raw.v).Nodup)(hnb:n≤1099511627776):
  Calls Tryz.prog 163 #[.slice (some ⟨g,0,none⟩) n cap,.func (.func 164) #[] #[]] w fun e w'=>e= .returned (.tuple #[])∧∃rs',rs'.Perm rs∧rs'.Pairwise (fun x y=>x.v<y.v)∧PQ w0 w' g rs' B∧w.grownBy w' (some g)∧∃cur',w'.heap[g]? =some (.cells cur' 134 (0,0))∧cur'.size=cur.size∧∀j,n*3≤j→cur'[j]? =cur[j]?:=by
 obtain⟨_⟩:=inhR w0 B
 have hgl:g<w.heap.size:=(Array.getElem?_eq_some_iff.1 hcur).1
 let d:Array (RawIn w0 B):=(rs.pmap (fun x h=>(⟨x,h⟩:RawIn w0 B)) hok).toArray
 have hds:d.size=n:=by simp[d,hn]
 have hdm:d.toList.map Subtype.val=rs:=by
  simp only[d,List.map_pmap]
  simp
 have hget: ∀i (h:i<rs.length),(d[i]!).1=rs[i]:=by
  intro i h
  have h':i<d.size:=by omega
  rw[getElem!_pos d i h']
  simp[d]
 have hH:HoldsK (encI (w:=w0) (B:=B)) 3 w g 0 d:=by
  intro j hj
  rw[size_flatK]at hj
  have hi:j / 3<rs.length:=by omega
  rw[get_flatK _ _ _ _ hj]
  refine⟨?_,frozen_of_row w g _ _ _ hcur⟩
  have hc:(flat rs)[j]? =some ((rs[j / 3]).enc[j%3]!):=by
   have:=flat_get rs (j / 3) (j%3) hi (Nat.mod_lt _ (by decide))
   rw[show j / 3*3+j%3=j from by omega]at this
   rw[this]
   have hl:(rs[j / 3]).enc.length=3:=rfl
   rw[List.getElem!_eq_getElem?_getD,List.getElem?_eq_getElem o_m]
   rfl
  rw[Nat.zero_add,show(d[j / 3]!)=d[j / 3]! from rfl]
  show w.cell? ⟨g,j,none⟩=some ((d[j / 3]!).1.enc[j%3]!)
  rw[hget _ hi]
  have h2:cur[j]? =some ((rs[j / 3]).enc[j%3]!):=by
   rw[←hc,←hrow,List.getElem?_take,if_pos o_m]
   simp
  exact(cell_of_row w g j _ _ (0,0) hcur).trans h2
 have eg: ∀args w,(callFunc 164 args).run Tryz.prog w= .ok (.enter 164 args) w:=enters_of Tryz.func164 k_f rfl
 have hcon:=AnyQ.slices_SortFunc Tryz.sortP 3 Tryz.isAgg134 Tryz.sizeOf134 (encI (w:=w0) (B:=B)) (fun _=>rfl) (fun x v hv=>by simp[encI,Raw.enc]at hv;rcases hv with rfl|rfl|rfl <;> rfl) ordI (swoI w0 B) 164 #[] g 0 cap d w eg (cmp_lays hB hk hg0) hH hgl o_m
 rw[hds]at hcon
 change Calls Tryz.prog 163 _ _ _ at hcon
 refine hcon.mono ?_
 rintro e w' ⟨rfl,d',m,os,hp,hs,rfl⟩
 have hsz:d'.size=n:=by rw[hp.1,hds]
 have hperm:(d'.toList.map Subtype.val).Perm rs:=by
  have:=hp.2.2
  rw[←hds]at this
  have e1:d.extract 0 d.size=d:=by simp
  have e2:d'.extract 0 d.size=d':=by rw[←hp.1];simp
  rw[e1,e2]at this
  rw[←hdm]
  exact this.map _
 refine⟨rfl,d'.toList.map Subtype.val,hperm,?_,⟨?_,?_⟩,sortW_grown _ _ _ _ _ _,_,sortW_block _ _ _ _ _ _ hcur,by simp[putCells],fun j hj=>putCells_past _ _ _ (by simp[size_flatK,hsz];omega)⟩
 ·have hnd:((d'.toList.map Subtype.val).map Raw.v).Nodup:=(hperm.map Raw.v).nodup_iff.2 hd
  rw[List.pairwise_iff_getElem]
  intro i j hi hj hij
  have hi':i<d'.size:=by simpa using hi
  have hj':j<d'.size:=by simpa using hj
  have h1:=hs i j (Nat.zero_le _) hij o_m
  rw[ltI_false,getElem!_pos d' i hi',getElem!_pos d' j hj']at h1
  have h2:=(List.pairwise_iff_getElem.1 hnd) i j (by simpa using hi) (by simpa using hj) hij
  simp only[List.getElem_map,Array.getElem_toList]at h2 ⊢
  omega
 ·exact Nat.lt_of_lt_of_le hgl (sortW_grown _ _ _ _ _ _).size
 intro i hi
 have hi':i<d'.size:=by simpa using hi
 have hK:=holdsK_sortWorldK_c (encI (w:=w0) (B:=B)) 3 w g 0 d d' m os hH hgl (by rw[hsz,hds])
 have k0:=hK.cell (i:=i) (c:=0) hi' (by decide)
 have k1:=hK.cell (i:=i) (c:=1) hi' (by decide)
 have k2:=hK.cell (i:=i) (c:=2) hi' (by decide)
 have e:(d'.toList.map Subtype.val)[i]=(d'[i]!).1:=by rw[getElem!_pos d' i hi'];simp
 rw[e]
 simp only[Nat.zero_add,Nat.add_zero]at k0 k1 k2
 exact⟨⟨k0.1,k1.1,k2.1⟩,⟨k0.2,k1.2,k2.2⟩,(d'[i]!).2⟩
theorem run_append_rb (h:RS base w v n cap L)(hb:base≤w.heap.size)(x:Raw)(a:Addr)(ha: ∀j u,(x.enc)[j]? =some u→w.cell? (a.add j)=some u)(hn:n≤1073741824)(ty:TypeId):
  ∃v' w',(Builtin.append_ #[42,42] ty #[v,.slice (some a) 1 1]).run Tryz.prog w= .ok v' w'∧∃cap' L',RS base w' v' (n+1) cap' L'∧L'.take (n+1)=L.take n++ [x]∧(∀y∈L',y∈L∨y=x∨y=zr)∧w.grownBy w' v.ownBlock∧(v'.ownBlock=v.ownBlock∨v'.ownBlock=some w.heap.size):=by
 obtain⟨i0,hi,hz0,hz1,hz2⟩:=info_parts infoP
 have hxl:x.enc.length=1*i0.size:=by rw[hz1];rfl
 have hx1: ∀u∈x.enc,u.oneCell'=true:=v3_one _ _ _ _ _
 have hfx:x.enc=flat [x]:=by simp[flat]
 rcases h with⟨rfl,rfl,rfl,rfl⟩|⟨g,rfl,hg,hr,hl,hnc,hcm⟩
 ·have hr:=run_append_nil (P:=Tryz.prog) w 42 ty 134 i0 _ Tryz.underlying42 hi hz0 a 1 1 x.enc hxl ha (by decide) (by decide) (by rw[hz2];decide)
  have hge:=grownCap_ge w 1 0 134
  have hcm:=grownCap_le_maxLen w 1 0 134 (by unfold maxLen;decide)
  rw[zeroP,hfx,List.append_toArray,←flat_append]at hr
  refine⟨_,_,hr,_,_,.inr ⟨_,rfl,hb,heap_alloc_new w.drew _,by simp;omega,hge,hcm⟩,by simp,fun y hy=> ?_,grown_drew_alloc w _ _,.inr rfl⟩
  rcases List.mem_append.1 hy with h|h
  ·exact .inr (.inl (List.mem_singleton.1 h))
  exact .inr (.inr (List.eq_of_mem_replicate h))
 by_cases hroom:n+1≤cap
 ·have hr':=run_append_room (P:=Tryz.prog) w 42 ty 134 i0 Tryz.underlying42 hi g n cap (flat L).toArray hr a 1 1 x.enc hxl ha hx1 hroom (by rw[hz1];simp[flat_length];rw[show x.enc.length=3 from rfl];omega)
  have e1:((flat L).toArray.toList.take (n*i0.size)++x.enc++(flat L).toArray.toList.drop (n*i0.size+x.enc.length))=flat (L.take n++ [x]++L.drop (n+1)):=by
   rw[hz1,show x.enc.length=3 from rfl,show n*3+3=(n+1)*3 by omega]
   dsimp only
   rw[flat_take,flat_drop,flat_append,flat_append,hfx]
  rw[e1]at hr'
  refine⟨_,_,hr',cap,L.take n++ [x]++L.drop (n+1),.inr ⟨g,rfl,hg,setRow_heap w g _ _ _ _ hr,by simp;omega,hroom,hcm⟩,?_,fun y hy=> ?_,⟨rfl,rfl,rfl,by simp,fun k _ hk=>setRow_other w g k _ (fun e=>hk (by simp[Value.ownBlock,e]))⟩,.inl rfl⟩
  ·have e:(L.take n++ [x]).length=n+1:=by simp;omega
   rw[←e,List.take_left]
  rcases List.mem_append.1 hy with h|h
  ·rcases List.mem_append.1 h with h|h
   ·exact .inl (List.mem_of_mem_take h)
   exact .inr (.inl (List.mem_singleton.1 h))
  exact .inl (List.mem_of_mem_drop h)
 have holds: ∀j u,(flat (L.take n))[j]? =some u→w.cell? ((⟨g,0,none⟩:Addr).add j)=some u:=fun j u hu=>by
  rw[Addr.add_lit,Nat.zero_add,cell_of_row w g j _ _ (0,0) hr]
  rw[←flat_take]at hu
  rw[List.getElem?_take]at hu
  split at hu
  ·simpa using hu
  cases hu
 have hr':=run_append_grow (P:=Tryz.prog) w 42 ty 134 i0 _ Tryz.underlying42 hi hz0 ⟨g,0,none⟩ n cap (flat (L.take n)) (by rw[hz1,flat_length];simp;omega) holds a 1 1 x.enc hxl ha o_m o_m (growslice_fits o_m (by rw[hz2];omega))
 have hge:=grownCap_ge w (n+1) cap 134
 have hcm':=grownCap_le_maxLen w (n+1) cap 134 (by unfold maxLen;omega)
 rw[zeroP,hfx,List.append_toArray,List.append_toArray,←flat_append,←flat_append]at hr'
 refine⟨_,_,hr',_,_,.inr ⟨_,rfl,hb,heap_alloc_new w.drew _,by simp;omega,hge,hcm'⟩,?_,fun y hy=> ?_,grown_drew_alloc w _ _,.inr rfl⟩
 ·have e:(L.take n++ [x]).length=n+1:=by simp;omega
  rw[←e,List.take_left]
 rcases List.mem_append.1 hy with h|h
 ·rcases List.mem_append.1 h with h|h
  ·exact .inl (List.mem_of_mem_take h)
  exact .inr (.inl (List.mem_singleton.1 h))
 exact .inr (.inr (List.eq_of_mem_replicate h))

theorem stand_p {f:Int→Int}{k:Int}(hF:F≤w.heap.size)(hG:GM F w m n f B)(hz:Go.Proofs.YtllfelooahplhaaGreatDoor.Zm w s a l c k)(hl:l≤1099511627775)(hB:B≤1099511627776)(hn:n≤1073741824):
  Calls Tryz.prog 106 #[.map (some m),.agg #[.bool s,.slice a l c]] w fun e w'=> ∃ad len cap s' a' l' c' rs,e= .returned (.agg #[.slice ad len cap,.bool s',.slice a' l' c'])∧Tr w w' ad len rs B∧len≤n∧Std (rs.map Raw.p)∧(∀v,I64 v→csum (rs.map Raw.p) v=f v)∧Kn w' ad s' a' l' c' k∧l'≤l+1∧Below w.heap.size w w'∧NW F w' ad len cap a' l' c':=by
 obtain⟨D,hown,hGF⟩:=hG
 have hGA:=hGF.old
 replace hGF:=hide hGF
 replace hF:=hide hF
 go_enter Tryz.func106,Tryz.ntmps106
 go_wp2_with(at_range;refine wpList_range_own _ rfl _ 100 rfl 3 45 tk Tryz.underlying100 _ m n D rfl ((hown.alloc _).alloc _) ?_;intro w1 hrg0 hg0 hs0)
 go_frame
 have x:=(zb_new w s a l c).below (below_alloc _ (.cells #[.slice none 0 0,.bool false,.slice none 0 0] 47))
 have y:=tb_new (w.alloc (.cells #[.bool s,.slice a l c] 45)) none 0 0 false none 0 0
 have b0:Below w.heap.size w ((w.alloc (.cells #[.bool s,.slice a l c] 45)).alloc (.cells #[.slice none 0 0,.bool false,.slice none 0 0] 47)):=below_alloc' (below_alloc _ _) _
 rw[show((w.alloc (.cells #[.bool s,.slice a l c] 45)).alloc (.cells #[.slice none 0 0,.bool false,.slice none 0 0] 47)).heap.size=w.heap.size+2 from by simp]at*
 rw[show(w.alloc (.cells #[.bool s,.slice a l c] 45)).heap.size=w.heap.size+1 from by simp]at y
 generalize (w.alloc (.cells #[.bool s,.slice a l c] 45)).alloc (.cells #[.slice none 0 0,.bool false,.slice none 0 0] 47)=wb at*
 replace x:=x.below (gb_none hg0)
 replace y:=y.below (gb_none hg0)
 replace b0:=hide (grow_step (gb_none hg0) b0)
 clear hg0
 have hpq:w.heap.size<w.heap.size+1∧w.heap.size+1<w.heap.size+2∧w.heap.size+2<w1.heap.size:=by omega
 have hsz0:=hrg0.owns.size_le
 have hml:=hide hown.lt
 clear hs0 hown
 generalize hp:w.heap.size=p at*
 replace b0:Hid (Below w.heap.size w w1):=hp▸b0
 replace hml:Hid (m<w.heap.size):=hp▸hml
 replace hF:Hid (F≤w.heap.size):=hp▸hF
 replace hp:=hide hp
 generalize p+1=q at*
 generalize p+2=r at*
 replace hpq:=hide hpq
 go_loopw [5] (fun parts wr=> ∃rs left cnt cap L,wr.ranges Tryz.prog 3 elemR m r n D left cnt∧Hid (RS w1.heap.size wr parts rs.length cap L∧L.take rs.length=rs∧New F w L)∧ZB wr p s a l c∧TB wr q none 0 0 false none 0 0∧Hid (Below w.heap.size w wr∧w1.heap.size≤wr.heap.size∧Col w f B left rs)∧rs.length+cnt≤n) (fun _ wr=>wr.rangeLeft m r)
 case atStart=>exact⟨[],_,_,0,[],hrg0,⟨.inl ⟨rfl,rfl,rfl,rfl⟩,rfl,fun x hx=>by cases hx⟩,x,y,⟨b0.out,Nat.le_refl _,col_start hGA⟩,by simpa using hsz0⟩
 case round=>
  obtain⟨rs,left,cnt,cap,L,hrg,hRL,hx,hy,hH,hcnt⟩:=hrel
  go_wp2_with(at_next;refine wpList_next_z rfl _ rfl m r n D left cnt rfl hrg (fun hl0=> ?_) (fun v s1 a1 l1 c1 w2 cnt2 hv hlk hat hrg2 hlt hgr hen=> ?_))
  ·have u0:=hx.c0
   have u1:=hx.c1
   have hB2:=hide hH.out.1
   have hC:=hide hH.out.2.2
   have hs1:=hide hH.out.2.1
   rcases hRL.out.1 with⟨hu,h0,hc0,hL0⟩|⟨g,hu,hbase,hrb,hLl,hnc,hcm⟩
   ·subst hu
    obtain rfl:rs= []:=List.eq_nil_of_length_eq_zero h0
    have hsort:Calls Tryz.prog 163 #[.slice none 0 0,.func (.func 164) #[] #[]] wr fun e w'=>e= .returned (.tuple #[])∧w'=wr:=AnyF.slices_SortFunc_none Tryz.sortP none 0 _ wr
    refine hsort.mono ?_
    rintro e w5 ⟨rfl,rfl⟩
    clear hsort
    go_wp2_with fail
    refine(norm_n (zm_of (hz.below hB2.out) (Nat.le_refl _)) o_m).mono ?_
    rintro e w6 ⟨s',ad',l',c',rfl,hz6,k6,hl6⟩
    have hql:=hy.lt
    have y6:=hy.below k6
    have y0:=y6.c0
    have y1:=y6.c1
    have y2:=y6.c2
    have f0:=y6.f 0
    have f1:=y6.f 1
    have f2:=y6.f 2
    have hwF:=hide hB2.out.size
    replace hB2:=hide (grow_step k6 hB2.out)
    replace hz6:=hide hz6
    clear k6
    go_wp2
    refine bodyPost_ret (results_cell_row rfl _ _ q 47 _ (0,0) _ rfl (tb_fin y6 none 0 0 s' ad' l' c') Tryz.underlying47 rfl k_f) rfl ?_
    have hzf:=fzn_mono (fzn_grown hz6.out (tb_set w6 q (.slice none 0 0) (.bool s') (.slice ad' l' c')) hql) (Nat.le_trans hF.out hwF.out)
    exact⟨none,0,0,s',ad',l',c',[],by simp,⟨rfl,.inl ⟨rfl,rfl⟩⟩,Nat.zero_le _,std_nil,fun u hu=>col_end hC.out hl0 u hu,⟨hzf.zn,fun g e=>by cases e⟩,hl6,below_grown hB2.out (tb_set _ _ _ _ _) (by have:=hp.out;have:=hpq.out;omega),[],.inl ⟨rfl,rfl,rfl,rfl⟩,fun x hx=>(by cases hx),zn_lc hzf,hzf.fr⟩
   subst hu
   have hwg:w.heap.size≤g:=by have:=hp.out;have:=hpq.out;omega
   refine(sort_w (B:=B) (cap:=cap) (cur:=(flat L).toArray) rfl hC.out.ok hB hB2.out hwg hrb (by rw[List.toList_toArray,flat_take,hRL.out.2.1]) hC.out.nd o_m).mono ?_
   rintro e w5 ⟨rfl,rs',hperm,hpw,hPQ,hg5,cur',hb5,hs5,hd5⟩
   have hRB:=hide (rb_sorted hPQ hb5 hd5 hperm.length_eq)
   have hNL:Hid (New F w (rs'++L.drop rs.length)):=fun x hx=>by
    rcases List.mem_append.1 hx with h|h
    ·have h':=hperm.mem_iff.1 h
     rw[←hRL.out.2.1]at h'
     exact hRL.out.2.2 x (List.mem_of_mem_take h')
    exact hRL.out.2.2 x (List.mem_of_mem_drop h)
   have hLL:Hid ((rs'++L.drop rs.length).length=cap):=(show _=_ by rw[List.length_append,hperm.length_eq,List.length_drop];omega)
   have x5:=hx.grown hg5 (by have:=hpq.out;omega)
   have y5:=hy.grown hg5 (by have:=hpq.out;omega)
   replace u0:=x5.c0
   replace u1:=x5.c1
   replace hB2:=hide (below_grown hB2.out hg5 hwg)
   have hlen:=hide hperm.length_eq
   replace hC:=hide (col_std hC.out hl0 hperm hpw)
   clear hg5 hrg hx hy hH hperm hpw hb5 hs5 hd5 hrb hRL
   go_wp2_with fail
   refine(norm_n (B:=w5.heap.size) (zm_of (hz.below hB2.out) (Nat.le_refl _)) o_m).mono ?_
   rintro e w6 ⟨s',ad',l',c',rfl,hz6,k6,hl6⟩
   replace hz6:=fzn_mono hz6 (B':=g+1) hPQ.1
   have y6:=y5.below k6
   have y0:=y6.c0
   have y1:=y6.c1
   have y2:=y6.c2
   have f0:=y6.f 0
   have f1:=y6.f 1
   have f2:=y6.f 2
   replace hB2:=hide (grow_step k6 hB2.out)
   replace hPQ:=hide (hPQ.below k6)
   replace hRB:=hide (hRB.out.below k6)
   replace hz6:=hide hz6
   clear k6 y5 x5 u0 u1
   go_wp2
   refine bodyPost_ret (results_cell_row rfl _ _ q 47 _ (0,0) _ rfl (tb_fin y6 (some ⟨g,0,none⟩) rs.length cap s' ad' l' c') Tryz.underlying47 rfl k_f) rfl ?_
   have hqg:q<g:=by have:=hpq.out;omega
   have hzf:=fzn_grown hz6.out (tb_set w6 q (.slice (some ⟨g,0,none⟩) rs.length cap) (.bool s') (.slice ad' l' c')) o_m
   have hBf:=below_grown hB2.out (tb_set w6 q (.slice (some ⟨g,0,none⟩) rs.length cap) (.bool s') (.slice ad' l' c')) (by have:=hp.out;have:=hpq.out;omega)
   have hFg:F≤g:=Nat.le_trans hF.out hwg
   exact⟨some ⟨g,0,none⟩,rs.length,cap,s',ad',l',c',rs',by simp,⟨hlen.out,.inr ⟨g,rfl,hwg,hPQ.out.grown (tb_set _ _ _ _ _) o_m⟩⟩,by omega,hC.out.1,hC.out.2,⟨hzf.zn,fun g' e=>by cases e;exact hzf⟩,hl6,hBf,rs'++L.drop rs.length,.inr ⟨g,rfl,hFg,hRB.out.grown (tb_set _ _ _ _ _) o_m,hLL.out,hnc,hcm⟩,hNL.out.below hBf,zn_lc hzf,(fzn_mono hzf (Nat.le_succ_of_le hFg)).fr⟩
  have hB2:Hid (Below w.heap.size w w2):=below_grown hH.out.1 hgr (by have:=hpq.out;have:=hp.out;omega)
  have hZ:Zn F w s1 a1 l1 c1 (f v)∧l1≤B:=by
   rcases hGF.out v hv with⟨h1,_⟩|⟨s',a',l',c',h1,h2,h3⟩
   ·rw[Maps.has_true_of_atKey hat]at h1;cases h1
   have:=(hat (.held (.bool true))).symm.trans (h1 _)
   simp at this
   obtain⟨rfl,rfl,rfl,rfl⟩:=this
   exact⟨h2,h3⟩
  obtain⟨hZ,hl1⟩:=hZ
  have hZF:=hide hZ
  replace hZ:=hZ.zn
  have hR2:=hide (rs_kept hRL.out.1 hgr hpq.out.2.2)
  have hx2:=hx.grown hgr (by have:=hpq.out;omega)
  have hy2:=hy.grown hgr (by have:=hpq.out;omega)
  have kb:=below_alloc w2 (.cells #[.bool s1,.slice a1 l1 c1] 45)
  have x3:=zb_new w2 s1 a1 l1 c1
  refine(zsign_n ((hZ.below hB2.out).below kb).zm o_m).mono ?_
  rintro e w3 ⟨rfl,k3⟩
  replace x3:=x3.below k3
  replace k3:=grow_step k3 kb
  have hrg3:=hrg2.kept (bg k3) (by simp) (by simp)
  replace hR2:=hide (hR2.out.below k3)
  replace hx2:=hx2.below k3
  replace hy2:=hy2.below k3
  replace hB2:=hide (grow_step k3 hB2.out)
  have hs3:=hide (Nat.le_trans hH.out.2.1 (Nat.le_trans hgr.size k3.size))
  have hC:=hide hH.out.2.2
  clear hH hgr hen kb k3 hx hy hrg2
  generalize w2.heap.size=qb at*
  by_cases hf:f v=0
  ·have e0:cmpI (f v) 0=0:=cmpI_eq hf
   rw[e0]
   go_wp2_with fail
   exact⟨⟨rs,_,cnt2,cap,L,hrg3,⟨hR2.out,hRL.out.2⟩,hx2,hy2,⟨hB2.out,hs3.out,col_skip hC.out hf⟩,by omega⟩,by rw[hrg3.left_eq,hrg.left_eq];exact hlt⟩
  have e0:cmpI (f v) 0≠0:=by unfold cmpI;split <;> (try split) <;> omega
  have u0:=x3.c0
  have u1:=x3.c1
  have kz:=below_alloc w3 (.cells #[.int .i64 v,.bool s1,.slice a1 l1 c1] 134)
  have happ:=hide (run_append_rb (hR2.out.below kz) (Nat.le_trans hs3.out kz.size) ⟨v,s1,a1,l1,c1,f v⟩ ⟨w3.heap.size,0,none⟩ (v3_new w3 v s1 a1 l1 c1) o_m)
  replace kz:=hide kz
  generalize cmpI (f v) 0=sgn at*
  go_wp2_with(at_builtin;refine wpList_append_run rfl _ _ 42 rfl _ _ rfl rfl _ (happ.out _) ?_;rintro v5 w4 ⟨cap5,L5,hR5,htk,hmem,hgrow,-⟩;replace hR5:=hide hR5;replace hmem:=hide hmem;replace hgrow:=hide hgrow;replace htk:=hide htk)
  have hob: ∀b,b<w1.heap.size→some b≠u5.ownBlock:=fun b hb e=>by have:=(rs_own hR2.out e.symm).1;omega
  have ka:=kz.out
  have hmw:m<w1.heap.size:=by have:=hml.out;have:=hp.out;have:=hpq.out;omega
  have hrg4:=(hrg3.kept (bg ka) (by simp) (by simp)).kept hgrow.out (hob m hmw) (hob r hpq.out.2.2)
  refine⟨⟨rs++ [⟨v,s1,a1,l1,c1,f v⟩],_,cnt2,cap5,L5,hrg4,⟨?_,?_,?_⟩,?_,?_,⟨?_,?_,?_⟩,?_⟩,by rw[hrg4.left_eq,hrg.left_eq];exact hlt⟩
  ·rw[List.length_append]
   exact hR5.out
  ·rw[List.length_append]
   show L5.take (rs.length+1)=_
   rw[htk.out,hRL.out.2.1]
  ·intro y hy
   rcases hmem.out y hy with h|rfl|rfl
   ·exact hRL.out.2.2 y h
   ·exact⟨zn_lc hZF.out,hZF.out.fr⟩
   exact⟨Nat.le_refl _,.inl ⟨rfl,rfl⟩⟩
  ·exact(hgrow.out.block p (hx2.below ka).lt (hob p (by have:=hpq.out;omega))).trans (hx2.below ka)
  ·exact(hgrow.out.block q (hy2.below ka).lt (hob q (by have:=hpq.out;omega))).trans (hy2.below ka)
  ·exact(grow_step ka hB2.out).grown hgrow.out (grow_step ka hB2.out).size (fun k e=>by have:=(rs_own hR2.out e).1;have:=hp.out;have:=hpq.out;omega)
  ·exact Nat.le_trans hs3.out (Nat.le_trans ka.size hgrow.out.size)
  ·exact col_step (x:=⟨v,s1,a1,l1,c1,f v⟩) hC.out ⟨hZ,hl1,hv⟩ rfl hf hlk
  simp only[List.length_append,List.length_cons,List.length_nil];omega

theorem fle (h:F≤w.heap.size)(hb:Below w.heap.size w w'):F≤w'.heap.size:=Nat.le_trans h hb.size
theorem tnorm_n {ps:List (Int × Int)}{k:Int}(hF:F≤w.heap.size)(hP:Pr w ad n ps B)(hz:Go.Proofs.YtllfelooahplhaaGreatDoor.Zm w s a l c k)(hl:l≤B)(hB:B+n≤536870912):
  Calls Tryz.prog 69 #[.agg #[.slice ad n cp,.bool s,.slice a l c]] w fun e w'=> ∃ad' n' cp' s' a' l' c' rs,e= .returned (.agg #[.slice ad' n' cp',.bool s',.slice a' l' c'])∧TN w w' ad' n' s' a' l' c' rs k (B+n+1)∧n'≤n∧Std (rs.map Raw.p)∧(∀v,csum (rs.map Raw.p) v=csum ps v)∧NW F w' ad' n' cp' a' l' c':=by
 go_enter Tryz.func69,Tryz.ntmps69
 go_wp2_with fail
 have x:=(tb_new w ad n cp s a l c).below (below_alloc _ (.cells #[.slice none 0 0,.bool false,.slice none 0 0] 47))
 have y:=tb_new (w.alloc (.cells #[.slice ad n cp,.bool s,.slice a l c] 47)) none 0 0 false none 0 0
 have b0:Below w.heap.size w ((w.alloc (.cells #[.slice ad n cp,.bool s,.slice a l c] 47)).alloc (.cells #[.slice none 0 0,.bool false,.slice none 0 0] 47)):=below_alloc' (below_alloc _ _) _
 rw[show(w.alloc (.cells #[.slice ad n cp,.bool s,.slice a l c] 47)).heap.size=w.heap.size+1 from by simp]at y
 generalize (w.alloc (.cells #[.slice ad n cp,.bool s,.slice a l c] 47)).alloc (.cells #[.slice none 0 0,.bool false,.slice none 0 0] 47)=wb at*
 have hpr:w.heap.size<w.heap.size+1:=by omega
 replace hP:=hP.below b0
 replace hz:=hz.below b0
 have hFb:=hide (Nat.le_trans hF b0.size)
 generalize hp:w.heap.size=p at*
 replace hp:=hide hp
 generalize p+1=r at*
 have hrb:=Nat.le_of_lt y.lt
 go_region_held3 (fun w'=>w'.cell? ⟨p,0,none⟩=some (.slice ad n cp)∧w'.cell? ⟨p,1,none⟩=some (.bool s)∧w'.cell? ⟨p,2,none⟩=some (.slice a l c)∧Below r wb w')
  ((refine tk3 x hpr ?_;first|(refine Below.mono ?_ hrb;focus ((with_reducible repeat' first|exact Below.refl _ _|assumption|refine grow_step (by assumption) ?_|refine grow_drew ?_|refine grow_alloc ?_ _|refine grow_drewN ?_ _);done))|(refine(((Below.mono ?_ hrb).setCell (Nat.le_refl _) _).setCell (Nat.le_refl _) _).setCell (Nat.le_refl _) _;focus ((with_reducible repeat' first|exact Below.refl _ _|assumption|refine grow_step (by assumption) ?_|refine grow_drew ?_|refine grow_alloc ?_ _|refine grow_drewN ?_ _);done))))
  (first|(go_at_call 62;refine(gather1 (F:=F) (fle hFb.out gw) (by exact heap_alloc_new wb _) (Pr.below hP gw) hB).mono ?_;rintro e w1 ⟨m,rfl,hG,k1,hm⟩)|(go_at_call 106;refine(stand_p (fle hFb.out gw) hG (Go.Proofs.YtllfelooahplhaaGreatDoor.Zm.below hz gw) (by omega) (by omega) (by omega)).mono ?_;rintro e w2 ⟨ad',n',cp',s',a',l',c',rs,rfl,hT,hn',hStd,hcs,hz2,hl2,k2,hNW⟩;replace hNW:=hide hNW;have kW:=mid k2 (show Below wb.heap.size wb _ from gw);have y1':=TB.below y kW;have y':=y1'.below k2;have y0:=y'.c0;have y1:=y'.c1;have y2:=y'.c2;have y3:=y'.f 0;have y4:=y'.f 1;have y5:=y'.f 2))
 have hi1:=hP.i64
 clear hP hG
 go_wp2
 refine bodyPost_ret (results_cell_row rfl _ _ r 47 _ (0,0) _ rfl (tb_fin y' ad' n' cp' s' a' l' c') Tryz.underlying47 rfl k_f) rfl ?_
 have hTN:TN w _ ad' n' s' a' l' c' rs k (B+n+1):=tn_fin (hp.out.symm▸b0.trans (kW.mono (Nat.le_of_lt (Nat.lt_trans hpr y.lt)))) k2 (hT.mono o_m) y1' (by have:=hp.out;omega) hz2 o_m cp'
 exact⟨ad',n',cp',s',a',l',c',rs,by simp,hTN,hn',hStd,csum_all hTN.pr.i64 hi1 hcs,hNW.out.tb y' (tb_set _ _ _ _ _)⟩
end Go.Proofs.YtllfelooahplhaaGreatDoor.Fresh
