/-
 Several texts in one: YJ,YK,YL,YM,B2.
-/
import Derived.Test.YtllfelooahplhaaGreatDoorSor22
import Derived.Laws.CopyRow
import Derived.Test.YtllfelooahplhaaGreatDoorSor14
import Derived.Test.YtllfelooahplhaaGreatDoorSor15
namespace Go.Proofs.YtllfelooahplhaaGreatDoor
open Go.RowKit Go.Sort Go.Shelf
open Tm

variable {w w':World}{g base n cap B:Nat}{L:List Raw}{v:Value}{qs ps:List (Int × Int)}{ad:Option Addr}
def zr :Raw:=⟨0,false,none,0,0,0⟩
def RB (w:World)(g:Nat)(L:List Raw):Prop:=w.heap[g]? =some (.cells (flat L).toArray 134 (0,0))
theorem RB.lt (h:RB w g L):g<w.heap.size:=(Array.getElem?_eq_some_iff.1 h).1
theorem RB.below (h:RB w g L)(hb:Below w.heap.size w w'):RB w' g L:=(hb.block g h.lt).trans h
theorem RB.grown {m:Nat}(h:RB w g L)(hg:w.grownBy w' (some m))(hm:g≠m):RB w' g L:=(hg.block g h.lt (by simpa using hm)).trans h
theorem RB.cell (h:RB w g L){i c:Nat}(hi:i<L.length)(hc:c<3):w.cell? ⟨g,i*3+c,none⟩=(L[i]).enc[c]?:=by
 rw[cell_of_row w g (i*3+c) _ _ (0,0) h,←flat_get L i c hi hc]
 simp
theorem RB.c0 (h:RB w g L){i:Nat}(hi:i<L.length):w.cell? ⟨g,i*3,none⟩=some (.int .i64 (L[i]).v):=by simpa [Raw.enc] using h.cell hi (c:=0) (by decide)
theorem RB.c1 (h:RB w g L){i:Nat}(hi:i<L.length):w.cell? ⟨g,i*3+1,none⟩=some (.bool (L[i]).s):=by simpa [Raw.enc] using h.cell hi (c:=1) (by decide)
theorem RB.c2 (h:RB w g L){i:Nat}(hi:i<L.length):w.cell? ⟨g,i*3+2,none⟩=some (.slice (L[i]).a (L[i]).l (L[i]).c):=by simpa [Raw.enc] using h.cell hi (c:=2) (by decide)
theorem RB.noU (h:RB w g L):NoU w g:=by
 intro off x hx
 rw[cell_of_row w g off _ _ (0,0) h]at hx
 have hm:(Value.int .u32 x)∈flat L:=by
  have:(flat L)[off]? =some (.int .u32 x):=by simpa using hx
  exact List.mem_of_getElem? this
 obtain⟨r,_,hr⟩:=List.mem_flatMap.1 hm
 simp[Raw.enc]at hr
theorem flat_append (xs ys:List Raw):flat (xs++ys)=flat xs++flat ys:=by simp[flat]
theorem flat_take (L:List Raw): ∀k,(flat L).take (k*3)=flat (L.take k):=by
 induction L with
 |nil=>intro k;simp[flat]
 |cons x L ih=>
  intro k
  cases k with
  |zero=>simp[flat]
  |succ k=>
   have e:flat (x::L)=x.enc++flat L:=by simp[flat]
   rw[e,List.take_succ_cons,show flat (x::L.take k)=x.enc++flat (L.take k)by simp[flat],←ih k]
   have hl:x.enc.length=3:=rfl
   rw[List.take_append,List.take_of_length_le o_m,hl,show(k+1)*3-3=k*3 by omega]
theorem flat_drop (L:List Raw): ∀k,(flat L).drop (k*3)=flat (L.drop k):=by
 induction L with
 |nil=>intro k;simp[flat]
 |cons x L ih=>
  intro k
  cases k with
  |zero=>simp[flat]
  |succ k=>
   have e:flat (x::L)=x.enc++flat L:=by simp[flat]
   rw[e,List.drop_succ_cons,←ih k]
   have hl:x.enc.length=3:=rfl
   rw[List.drop_append,List.drop_eq_nil_of_le o_m,hl,show(k+1)*3-3=k*3 by omega,List.nil_append]
theorem flat_one (u:Value)(L:List Raw)(h:u∈flat L):u.oneCell'=true:=by
 obtain⟨r,_,hr⟩:=List.mem_flatMap.1 h
 exact v3_one _ _ _ _ _ u hr
theorem zero_get3 (z:Array Value)(k j:Nat)(h:j<k*z.size):(Builtin.zeroCells z k)[j]? =some z[j%z.size]!:=by
 simp[Builtin.zeroCells,h]
theorem zeroP (k:Nat):Builtin.zeroCells (Value.agg #[.int .i64 0,.bool false,.slice none 0 0]).cells k=(flat (List.replicate k zr)).toArray:=by
 apply Array.ext'
 apply List.ext_getElem?
 intro j
 by_cases hj:j<k*3
 ·have h1:(flat (List.replicate k zr))[j]? =(zr.enc)[j%3]?:=by
   have:=flat_get (List.replicate k zr) (j / 3) (j%3) (by simp;omega) (Nat.mod_lt _ (by decide))
   rw[show j / 3*3+j%3=j from by omega]at this
   rw[this]
   simp
  rw[List.toList_toArray,h1,Array.getElem?_toList,zero_get3]
  ·have hm:j%3=0∨j%3=1∨j%3=2:=by omega
   rcases hm with e|e|e <;> simp[Value.cells,e,zr,Raw.enc]
  simpa [Value.cells] using hj
 rw[List.getElem?_eq_none (by simp[Builtin.zeroCells,Value.cells];omega),List.getElem?_eq_none (by rw[List.toList_toArray,flat_length];simp;omega)]

def RS (base:Nat)(w:World)(v:Value)(n cap:Nat)(L:List Raw):Prop:=
 (v= .slice none 0 0∧n=0∧cap=0∧L= [])∨ ∃g,v= .slice (some ⟨g,0,none⟩) n cap∧base≤g∧RB w g L∧L.length=cap∧n≤cap∧cap≤maxLen

theorem RS.row (h:RS base w v n cap L): ∃ad,v= .slice ad n cap:=by
 rcases h with⟨rfl,rfl,rfl,_⟩|⟨g,rfl,_⟩
 ·exact⟨_,rfl⟩
 exact⟨_,rfl⟩

theorem RS.below (h:RS base w v n cap L)(hb:Below w.heap.size w w'):RS base w' v n cap L:=by
 rcases h with h|⟨g,h1,h2,h3,h4⟩
 ·exact .inl h
 exact .inr ⟨g,h1,h2,h3.below hb,h4⟩
theorem run_append_rs {w0:World}(h:RS w0.heap.size w v n cap L)(hb:Below w0.heap.size w0 w)(x:Raw)(a:Addr)(ha: ∀j u,(x.enc)[j]? =some u→w.cell? (a.add j)=some u)(hn:n≤1073741824)(ty:TypeId):
  ∃v' w',(Builtin.append_ #[42,42] ty #[v,.slice (some a) 1 1]).run Tryz.prog w= .ok v' w'∧∃cap' L',RS w0.heap.size w' v' (n+1) cap' L'∧L'.take (n+1)=L.take n++ [x]∧(∀y∈L',y∈L∨y=x∨y=zr)∧Below w0.heap.size w0 w'∧w.grownBy w' v.ownBlock∧(v'.ownBlock=v.ownBlock∨v'.ownBlock=some w.heap.size):=by
 obtain⟨i0,hi,hz0,hz1,hz2⟩:=info_parts infoP
 have hxl:x.enc.length=1*i0.size:=by rw[hz1];rfl
 have hx1: ∀u∈x.enc,u.oneCell'=true:=v3_one _ _ _ _ _
 have hfx:x.enc=flat [x]:=by simp[flat]
 rcases h with⟨rfl,rfl,rfl,rfl⟩|⟨g,rfl,hg,hr,hl,hnc,hcm⟩
 ·have hr:=run_append_nil (P:=Tryz.prog) w 42 ty 134 i0 _ Tryz.underlying42 hi hz0 a 1 1 x.enc hxl ha (by decide) (by decide) (by rw[hz2];decide)
  have hge:=grownCap_ge w 1 0 134
  have hcm:=grownCap_le_maxLen w 1 0 134 (by unfold maxLen;decide)
  rw[zeroP,hfx,List.append_toArray,←flat_append]at hr
  refine⟨_,_,hr,_,_,.inr ⟨_,rfl,hb.size,heap_alloc_new w.drew _,by simp;omega,hge,hcm⟩,by simp,fun y hy=> ?_,below_drew_alloc hb _,grown_drew_alloc w _ _,.inr rfl⟩
  rcases List.mem_append.1 hy with h|h
  ·exact .inr (.inl (List.mem_singleton.1 h))
  exact .inr (.inr (List.eq_of_mem_replicate h))
 by_cases hroom:n+1≤cap
 ·have hr':=run_append_room (P:=Tryz.prog) w 42 ty 134 i0 Tryz.underlying42 hi g n cap (flat L).toArray hr a 1 1 x.enc hxl ha hx1 hroom (by rw[hz1];simp[flat_length];rw[show x.enc.length=3 from rfl];omega)
  have e1:((flat L).toArray.toList.take (n*i0.size)++x.enc++(flat L).toArray.toList.drop (n*i0.size+x.enc.length))=flat (L.take n++ [x]++L.drop (n+1)):=by
   rw[hz1,show x.enc.length=3 from rfl,show n*3+3=(n+1)*3 by omega]
   dsimp only
   rw[flat_take,flat_drop,flat_append,flat_append,hfx]
  rw[e1]at hr'
  refine⟨_,_,hr',cap,L.take n++ [x]++L.drop (n+1),.inr ⟨g,rfl,hg,setRow_heap w g _ _ _ _ hr,by simp;omega,hroom,hcm⟩,?_,fun y hy=> ?_,hb.trans ⟨rfl,rfl,rfl,by simp,fun k hk=>setRow_other w g k _ o_m⟩,⟨rfl,rfl,rfl,by simp,fun k _ hk=>setRow_other w g k _ (fun e=>hk (by simp[Value.ownBlock,e]))⟩,.inl rfl⟩
  ·have e:(L.take n++ [x]).length=n+1:=by simp;omega
   rw[←e,List.take_left]
  rcases List.mem_append.1 hy with h|h
  ·rcases List.mem_append.1 h with h|h
   ·exact .inl (List.mem_of_mem_take h)
   exact .inr (.inl (List.mem_singleton.1 h))
  exact .inl (List.mem_of_mem_drop h)
 have holds: ∀j u,(flat (L.take n))[j]? =some u→w.cell? ((⟨g,0,none⟩:Addr).add j)=some u:=fun j u hu=>by
  rw[Addr.add_lit,Nat.zero_add,cell_of_row w g j _ _ (0,0) hr]
  rw[←flat_take]at hu
  rw[List.getElem?_take]at hu
  split at hu
  ·simpa using hu
  cases hu
 have hr':=run_append_grow (P:=Tryz.prog) w 42 ty 134 i0 _ Tryz.underlying42 hi hz0 ⟨g,0,none⟩ n cap (flat (L.take n)) (by rw[hz1,flat_length];simp;omega) holds a 1 1 x.enc hxl ha o_m o_m (growslice_fits o_m (by rw[hz2];omega))
 have hge:=grownCap_ge w (n+1) cap 134
 have hcm':=grownCap_le_maxLen w (n+1) cap 134 (by unfold maxLen;omega)
 rw[zeroP,hfx,List.append_toArray,List.append_toArray,←flat_append,←flat_append]at hr'
 refine⟨_,_,hr',_,_,.inr ⟨_,rfl,hb.size,heap_alloc_new w.drew _,by simp;omega,hge,hcm'⟩,?_,fun y hy=> ?_,below_drew_alloc hb _,grown_drew_alloc w _ _,.inr rfl⟩
 ·have e:(L.take n++ [x]).length=n+1:=by simp;omega
  rw[←e,List.take_left]
 rcases List.mem_append.1 hy with h|h
 ·rcases List.mem_append.1 h with h|h
  ·exact .inl (List.mem_of_mem_take h)
  exact .inr (.inl (List.mem_singleton.1 h))
 exact .inr (.inr (List.eq_of_mem_replicate h))

theorem RS.zn (h:RS base w v n cap L)(hg:w.grownBy w' v.ownBlock){s:Bool}{a:Option Addr}{l c:Nat}{z:Int}(hz:Zn w s a l c z):Zn w' s a l c z:=by
 rcases h with⟨rfl,_⟩|⟨g,rfl,_,hr,_⟩
 ·exact hz.below (gb_none hg)
 exact hz.grownU hg hr.noU

def ins :List (Int × Int)→Int × Int→List (Int × Int)
 | [],p=> [p]
 |q::qs,p=>if q.1<p.1 then q::ins qs p else if q.1=p.1 then(q.1,q.2+p.2)::qs else p::q::qs
theorem csum_ins (qs:List (Int × Int))(p:Int × Int)(v:Int):csum (ins qs p) v=csum qs v+if p.1=v then p.2 else 0:=by
 induction qs with
 |nil=>simp[ins,csum]
 |cons q qs ih=>
  unfold ins
  split
  ·simp only[csum,ih];omega
  split
  ·rename_i h
   simp only[csum,h]
   split <;> omega
  simp only[csum];omega
theorem ins_mem {p r:Int × Int}(h:r∈ins qs p):r.1=p.1∨ ∃q∈qs,q.1=r.1:=by
 induction qs with
 |nil=>simp[ins]at h;exact .inl (by rw[h])
 |cons q qs ih=>
  unfold ins at h
  split at h
  ·rcases List.mem_cons.1 h with rfl|h
   ·exact .inr ⟨r,by simp,rfl⟩
   rcases ih h with h|⟨x,hx,e⟩
   ·exact .inl h
   exact .inr ⟨x,by simp[hx],e⟩
  split at h
  ·rcases List.mem_cons.1 h with rfl|h
   ·exact .inr ⟨q,by simp,rfl⟩
   exact .inr ⟨r,by simp[h],rfl⟩
  rcases List.mem_cons.1 h with rfl|h
  ·exact .inl rfl
  exact .inr ⟨r,h,rfl⟩
def Rise (qs:List (Int × Int)):Prop:=qs.Pairwise (fun p q=>p.1<q.1)
theorem rise_ins (h:Rise qs)(p:Int × Int):Rise (ins qs p):=by
 induction qs with
 |nil=>simp[ins,Rise]
 |cons q qs ih=>
  have h1:=List.pairwise_cons.1 h
  unfold ins
  split
  ·refine List.pairwise_cons.2 ⟨fun r hr=> ?_,ih h1.2⟩
   rcases ins_mem hr with e|⟨x,hx,e⟩
   ·omega
   have:=h1.1 x hx;omega
  split
  ·exact List.pairwise_cons.2 ⟨fun r hr=>h1.1 r hr,h1.2⟩
  refine List.pairwise_cons.2 ⟨fun r hr=> ?_,h⟩
  rcases List.mem_cons.1 hr with rfl|hr
  ·omega
  have:=h1.1 r hr;omega
theorem flat_set (L:List Raw): ∀(t:Nat) (_:t<L.length) (y:Raw),(((flat L).set (t*3) (.int .i64 y.v)).set (t*3+1) (.bool y.s)).set (t*3+2) (.slice y.a y.l y.c)=flat (L.set t y):=by
 induction L with
 |nil=>intro t ht;cases ht
 |cons x L ih=>
  intro t ht y
  have e:flat (x::L)= .int .i64 x.v:: .bool x.s:: .slice x.a x.l x.c::flat L:=by simp[flat,Raw.enc]
  cases t with
  |zero=>
   rw[e]
   simp[flat,Raw.enc]
  |succ t=>
   have e2:flat ((x::L).set (t+1) y)= .int .i64 x.v:: .bool x.s:: .slice x.a x.l x.c::flat (L.set t y):=by simp[flat,Raw.enc]
   rw[e,e2,←ih t (by simpa using ht) y,show(t+1)*3=t*3+1+1+1 by omega]
   simp
def Rok (w:World)(B:Nat)(L:List Raw):Prop:=∀x∈L,x.ok w B
theorem Rok.below (h:Rok w B L)(hb:Below w.heap.size w w'):Rok w' B L:=fun x hx=>⟨(h x hx).1.below hb,(h x hx).2⟩
theorem Rok.grownU {b:Nat}(h:Rok w B L)(hg:w.grownBy w' (some b))(hb:NoU w b):Rok w' B L:=fun x hx=>raw_grown hg hb (h x hx)
theorem zr_ok (w:World)(B:Nat):zr.ok w B:=⟨zn_zero w,Nat.zero_le _,by unfold I64;decide⟩

def lays (qs ps:List (Int × Int)):List (Int × Int):=ps.foldl ins qs
theorem csum_lays (ps:List (Int × Int)): ∀(qs:List (Int × Int)) (v:Int),csum (lays qs ps) v=csum qs v+csum ps v:=by
 induction ps with
 |nil=>intro qs v;simp[lays,csum]
 |cons p ps ih=>
  intro qs v
  have:=ih (ins qs p) v
  unfold lays at this ⊢
  rw[List.foldl_cons,this,csum_ins]
  simp only[csum]
  omega
theorem rise_lays (ps:List (Int × Int)): ∀{qs:List (Int × Int)},Rise qs→Rise (lays qs ps):=by
 induction ps with
 |nil=>intro qs h;exact h
 |cons p ps ih=>intro qs h;exact ih (rise_ins h p)
def nz (qs:List (Int × Int)):List (Int × Int):=qs.filter (fun p=>p.2≠0)
theorem csum_nz (qs:List (Int × Int))(v:Int):csum (nz qs) v=csum qs v:=by
 induction qs with
 |nil=>rfl
 |cons q qs ih=>
  unfold nz at ih ⊢
  by_cases h:q.2=0
  ·rw[List.filter_cons_of_neg (by simpa using h),ih]
   simp only[csum,h]
   split <;> omega
  rw[List.filter_cons_of_pos (by simpa using h)]
  simp only[csum,ih]
theorem std_nz (h:Rise qs):Std (nz qs):=by
 exact⟨List.Pairwise.filter _ h,fun p hp=>by simpa using (List.mem_filter.1 hp).2⟩

theorem RS.grown {o:Nat}(h:RS base w v n cap L)(hg:w.grownBy w' (some o))(ho:o<base):RS base w' v n cap L:=by
 rcases h with h|⟨g,e,hb,hr,h⟩
 ·exact .inl h
 exact .inr ⟨g,e,hb,hr.grown hg o_m,h⟩

def Pn (w:World)(ad:Option Addr)(n:Nat)(ps:List (Int × Int))(B:Nat):Prop:=
 ps.length=n∧(n=0∨ ∃b off,ad=some ⟨b,off,none⟩∧b<w.heap.size∧∀i (h:i<ps.length),∃s a l c,w.cell? ⟨b,off+i*3,none⟩=some (.int .i64 (ps[i]).1)∧w.cell? ⟨b,off+i*3+1,none⟩=some (.bool s)∧w.cell? ⟨b,off+i*3+2,none⟩=some (.slice a l c)∧Zn w s a l c (ps[i]).2∧l≤B∧I64 (ps[i]).1)
theorem Pn.pr (h:Pn w ad n ps B):Pr w ad n ps B:=by
 refine⟨h.1,?_⟩
 rcases h.2 with h2|⟨b,off,e,hlt,h2⟩
 ·exact .inl h2
 refine .inr ⟨b,off,e,hlt,fun i hi=> ?_⟩
 obtain⟨s,a,l,c,e0,e1,e2,hz,hl,hv⟩:=h2 i hi
 exact⟨s,a,l,c,e0,e1,e2,hz.zm,hl,hv⟩
theorem Pn.below (h:Pn w ad n ps B)(hb:Below w.heap.size w w'):Pn w' ad n ps B:=by
 refine⟨h.1,?_⟩
 rcases h.2 with h2|⟨b,off,e,hlt,h2⟩
 ·exact .inl h2
 refine .inr ⟨b,off,e,Nat.lt_of_lt_of_le hlt hb.size,fun i hi=> ?_⟩
 obtain⟨s,a,l,c,e0,e1,e2,hr,hl,hv⟩:=h2 i hi
 exact⟨s,a,l,c,(hb.cell (p:=⟨b,off+i*3,none⟩) hlt).trans e0,(hb.cell (p:=⟨b,off+i*3+1,none⟩) hlt).trans e1,(hb.cell (p:=⟨b,off+i*3+2,none⟩) hlt).trans e2,hr.below hb,hl,hv⟩
theorem Pn.mono {B':Nat}(h:Pn w ad n ps B)(hB:B≤B'):Pn w ad n ps B':=by
 refine⟨h.1,?_⟩
 rcases h.2 with h2|⟨b,off,e,hlt,h2⟩
 ·exact .inl h2
 refine .inr ⟨b,off,e,hlt,fun i hi=> ?_⟩
 obtain⟨s,a,l,c,e0,e1,e2,hr,hl,hv⟩:=h2 i hi
 exact⟨s,a,l,c,e0,e1,e2,hr,Nat.le_trans hl hB,hv⟩
theorem pn_nil (w:World)(ad:Option Addr)(B:Nat):Pn w ad 0 [] B:=⟨rfl,.inl rfl⟩
theorem rs_pn (h:RS base w (.slice ad n cap) n cap L)(hok:Rok w B L):Pn w ad n ((L.take n).map Raw.p) B:=by
 rcases h with⟨e,h0,_,rfl⟩|⟨g,e,hb,hr,hl,hn,_⟩
 ·subst h0;exact⟨by simp,.inl rfl⟩
 simp at e
 subst e
 refine⟨by simp;omega,.inr ⟨g,0,rfl,hr.lt,fun i hi=> ?_⟩⟩
 have hi':i<L.length:=by simp at hi;omega
 have hx:=hok L[i] (List.getElem_mem hi')
 exact⟨(L[i]).s,(L[i]).a,(L[i]).l,(L[i]).c,by simpa [Raw.p] using hr.c0 hi',by simpa using hr.c1 hi',by simpa using hr.c2 hi',by simpa [Raw.p] using hx.1,hx.2.1,by simpa [Raw.p] using hx.2.2⟩
end Go.Proofs.YtllfelooahplhaaGreatDoor

namespace Go.Proofs.YtllfelooahplhaaGreatDoor
open Go.RowKit Go.Sort Go.Shelf
open Tm At

theorem PB.below9 {w w':World}{b:Nat}{v:Int}{s:Bool}{a:Option Addr}{l c:Nat}(h:PB w b v s a l c)(hb:Below w.heap.size w w'):PB w' b v s a l c:=(hb.block b h.lt).trans h

set_option maxRecDepth 100000 in
set_option maxHeartbeats 3200000 in
theorem each_n {w:World}{ad:Option Addr}{n cp:Nat}{s:Bool}{a:Option Addr}{l c:Nat}{ps:List (Int × Int)}{k:Int}{B C kf:Nat}{lb:Array Value}{F:Int→Int}(eg: ∀args w,(callFunc kf args).run Tryz.prog w= .ok (.enter kf args) w)
  (hf: ∀w' s a l c z,Below w.heap.size w w'→Zm w' s a l c z→l≤B→Calls Tryz.prog kf (#[.agg #[.bool s,.slice a l c]]++lb) w' fun e w''=> ∃s' a' l' c',e= .returned (.agg #[.bool s',.slice a' l' c'])∧Zn w'' s' a' l' c' (F z)∧Below w'.heap.size w' w''∧l'≤C)
  (hP:Pr w ad n ps B)(hz:Zm w s a l c k)(hl:l≤B)(hn:n≤268435456)(hC:C≤1099511627776):
  Calls Tryz.prog 146 #[.agg #[.slice ad n cp,.bool s,.slice a l c],.func (.func kf) #[] lb] w fun e w'=> ∃ad' n' cp' s' a' l' c',e= .returned (.agg #[.slice ad' n' cp',.bool s',.slice a' l' c'])∧Pn w' ad' n' (eachP F ps) C∧Zn w' s' a' l' c' (F k)∧l'≤C∧n'≤n∧(∀b off,ad'=some ⟨b,off,none⟩→w.heap.size≤b)∧Below w.heap.size w w':=by
 go_enter Tryz.func146,Tryz.ntmps146
 go_wp2_with fail
 have x:=(tb_new w ad n cp s a l c).below (below_alloc _ (.cells #[.slice none 0 0,.bool false,.slice none 0 0] 47))
 have y:=tb_new (w.alloc (.cells #[.slice ad n cp,.bool s,.slice a l c] 47)) none 0 0 false none 0 0
 have b0:Below w.heap.size w ((w.alloc (.cells #[.slice ad n cp,.bool s,.slice a l c] 47)).alloc (.cells #[.slice none 0 0,.bool false,.slice none 0 0] 47)):=below_alloc' (below_alloc _ _) _
 rw[show(w.alloc (.cells #[.slice ad n cp,.bool s,.slice a l c] 47)).heap.size=w.heap.size+1 from by simp]at y
 generalize (w.alloc (.cells #[.slice ad n cp,.bool s,.slice a l c] 47)).alloc (.cells #[.slice none 0 0,.bool false,.slice none 0 0] 47)=wb at*
 replace hP:=hP.below b0
 replace hz:=hz.below b0
 have hf2:Hid (∀w' s a l c z,Below wb.heap.size wb w'→Zm w' s a l c z→l≤B→Calls Tryz.prog kf (#[.agg #[.bool s,.slice a l c]]++lb) w' fun e w''=> ∃s' a' l' c',e= .returned (.agg #[.bool s',.slice a' l' c'])∧Zn w'' s' a' l' c' (F z)∧Below w'.heap.size w' w''∧l'≤C):=(fun w' s a l c z h=>hf w' s a l c z (grow_step h b0))
 clear hf
 generalize hp:w.heap.size=p at*
 replace b0:Hid (Below w.heap.size w wb):=hp▸b0
 have hpr:Hid (w.heap.size=p∧p<p+1):=⟨hp,by omega⟩
 clear hp
 generalize p+1=r at*
 obtain⟨hps,hP⟩:=hP
 go_loopw [5,12] (fun v i wr=> ∃(t:Nat) (ad3:Option Addr) (n3 cap3:Nat) (L3:List Raw),t≤n∧i= .int .i64 t∧v= .slice ad3 n3 cap3∧Hid (RS wb.heap.size wr (.slice ad3 n3 cap3) n3 cap3 L3)∧Hid (Rok wr C L3)∧Hid ((L3.take n3).map Raw.p=eachP F (ps.take t))∧n3≤t∧Hid (Below wb.heap.size wb wr)) (fun _ i _=>n-(intOf i).toNat)
 case atStart=>exact⟨0,none,0,0,[],Nat.zero_le _,rfl,rfl,.inl ⟨rfl,rfl,rfl,rfl⟩,(fun x hx=>absurd hx (by simp)),(show _=_ from rfl),by omega,Below.refl _ _⟩
 case round=>
  obtain⟨t,ad3,n3,cap3,L3,ht,rfl,rfl,hR3,hok3,hea,hn3,kr⟩:=hrel
  by_cases htn:t<n
  ·rcases hP with hP|⟨bp,op,rfl,hP⟩
   ·omega
   obtain⟨s2,a2,l2,c2,e0,e1,e2,hz2,hl2,hv⟩:=(hP.below kr.out).2 t o_m
   have hstep:Hid (eachP F (ps.take (t+1))=eachP F (ps.take t)++if F (ps[t]).2=0 then []else [((ps[t]).1,F (ps[t]).2)]):=(show _=_ by rw[List.take_succ_eq_append_getElem (l:=ps) (i:=t) o_m,eachP_snoc])
   generalize ps[t]=pp at*
   obtain⟨pv,pz⟩:=pp
   dsimp only at*
   have pb:PB (wr.alloc (.cells #[.int .i64 pv,.bool s2,.slice a2 l2 c2] 134)) wr.heap.size pv s2 a2 l2 c2:=pb_new wr pv s2 a2 l2 c2
   have ka:=below_alloc wr (.cells #[.int .i64 pv,.bool s2,.slice a2 l2 c2] 134)
   have kb:=hide (grow_step ka kr.out)
   have hcall:=hide (hf2.out _ s2 a2 l2 c2 pz kb.out (hz2.below ka) hl2)
   have hR4:=hide (hR3.out.below ka)
   have hok4:=hide (hok3.out.below ka)
   clear ka
   go_wp2_with fail
   refine hcall.out.mono ?_
   rintro e w5 ⟨s5,a5,l5,c5,rfl,hz5,k5,hl5⟩
   have kc:=hide (below_alloc w5 (.cells #[.bool s5,.slice a5 l5 c5] 45))
   have cb:=zb_new w5 s5 a5 l5 c5
   have k6:=hide (grow_step kc.out (grow_step k5 kb.out))
   have hz6:=hide (hz5.below kc.out)
   have pb6:=(pb.below9 k5).below9 kc.out
   have hR6:=hide ((hR4.out.below k5).below kc.out)
   have hok6:=hide ((hok4.out.below k5).below kc.out)
   clear k5 kb hz5 pb hR4 hok4 hcall hR3 hok3
   replace cb:=hide cb
   replace pb6:=hide pb6
   go_wp2_with fail
   refine(zsign_n hz6.out.zm o_m).mono ?_
   rintro e w7 ⟨rfl,k7⟩
   have cb7:=cb.out.below k7
   have pb7:=pb6.out.below9 k7
   have hz7:=hide (hz6.out.below k7)
   have hR7:=hide (hR6.out.below k7)
   have hok7:=hide (hok6.out.below k7)
   replace k7:=hide (grow_step k7 k6.out)
   clear hz6 hR6 hok6 k6 cb pb6 kc
   generalize w5.heap.size=qc at*
   generalize wr.heap.size=qp at*
   by_cases hz0:F pz=0
   ·have hea':Hid ((L3.take n3).map Raw.p=eachP F (ps.take (t+1))):=(show _=_ by rw[hstep.out,hea.out];simp[hz0])
    rw[hz0,show cmpI 0 0=0 from rfl]
    go_wp2_with fail
    exact⟨⟨t+1,ad3,n3,cap3,L3,by omega,by go_num,rfl,hR7,hok7,hea',by omega,k7⟩,by simp[intOf];omega⟩
   have hc:cmpI (F pz) 0≠0:=by unfold cmpI;split <;> (try split) <;> omega
   generalize cmpI (F pz) 0=cz at*
   have t0:=pb7.c0
   have u0:=cb7.c0
   have u1:=cb7.c1
   have hcq:=cb7.lt
   have hpq:=pb7.lt
   have kz:=below_alloc w7 (.cells #[.int .i64 pv,.bool s5,.slice a5 l5 c5] 134)
   have happ:=hide (run_append_rs (w0:=wb) (hR7.out.below kz) (grow_step kz k7.out) ⟨pv,s5,a5,l5,c5,F pz⟩ ⟨w7.heap.size,0,none⟩ (v3_new w7 pv s5 a5 l5 c5) o_m)
   replace kz:=hide kz
   go_wp2_with(at_builtin;refine wpList_append_run rfl _ _ 42 rfl _ _ rfl rfl _ (happ.out _) ?_;rintro v5 w8 ⟨cap5,L5,hR5,htk,hmem,hb5,hg5,-⟩;obtain⟨ad5,rfl⟩:=hR5.row;replace hR5:=hide hR5;replace hmem:=hide hmem;replace hb5:=hide hb5;replace hg5:=hide hg5;replace htk:=hide htk)
   have ok5:Hid (Rok w8 C L5):=fun y hy=>by
    rcases hmem.out y hy with h|rfl|rfl
    ·exact⟨(hR7.out.below kz.out).zn hg5.out ((hok7.out y h).1.below kz.out),(hok7.out y h).2⟩
    ·exact⟨(hR7.out.below kz.out).zn hg5.out (hz7.out.below kz.out),hl5,hv⟩
    exact zr_ok _ _
   have hea':Hid ((L5.take (n3+1)).map Raw.p=eachP F (ps.take (t+1))):=(show _=_ by rw[htk.out,List.map_append,hea.out,hstep.out];simp[Raw.p,hz0])
   exact⟨⟨t+1,ad5,n3+1,cap5,L5,by omega,by go_num,rfl,hR5,ok5,hea',by omega,hb5⟩,by simp[intOf];omega⟩
  obtain rfl:t=n:=by omega
  rw[List.take_of_length_le (Nat.le_of_eq hps)]at hea
  have xr:=x.below kr.out
  have yr:=y.below kr.out
  have x1:=xr.c1
  have x2:=xr.c2
  have hcall:=hide (hf2.out wr s a l c k kr.out (hz.below kr.out) hl)
  go_wp2_with fail
  refine hcall.out.mono ?_
  rintro e w5 ⟨s5,a5,l5,c5,rfl,hz5,k5,hl5⟩
  have y5:=yr.below k5
  have y0:=y5.c0
  have y1:=y5.c1
  have y2:=y5.c2
  have y3:=y5.f 0
  have y4:=y5.f 1
  have y6:=y5.f 2
  have g:=tb_set w5 r (.slice ad3 n3 cap3) (.bool s5) (.slice a5 l5 c5)
  have hzf:=hide (hz5.grownU g (tb_noU y5))
  have hRf:=hide ((hR3.out.below k5).grown g y.lt)
  have hokf:=hide ((hok3.out.below k5).grownU g (tb_noU y5))
  have kf:=hide (below_grown (grow_step (grow_step k5 kr.out) b0.out) g (by have:=hpr.out;omega))
  clear g k5 hcall x1 x2
  go_wp2
  refine bodyPost_ret (results_cell_row rfl _ _ r 47 _ (0,0) _ rfl (tb_fin y5 ad3 n3 cap3 s5 a5 l5 c5) Tryz.underlying47 rfl k_f) rfl ?_
  have hpn:=rs_pn hRf.out hokf.out
  rw[hea.out]at hpn
  have hnew: ∀b off,ad3=some ⟨b,off,none⟩→w.heap.size≤b:=fun b off e=>by
   rcases hRf.out with⟨h1,_⟩|⟨g,h1,hg,_⟩
   ·simp at h1
    rw[h1.1]at e
    cases e
   simp at h1
   rw[h1]at e
   simp at e
   have:=b0.out.size
   omega
  exact⟨ad3,n3,cap3,s5,a5,l5,c5,by simp,hpn,hzf.out,hl5,by omega,hnew,kf.out⟩
end Go.Proofs.YtllfelooahplhaaGreatDoor
