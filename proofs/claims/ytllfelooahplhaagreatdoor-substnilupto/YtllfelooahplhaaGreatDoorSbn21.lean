/-
 Layer 5: a row of parts sorted by slices.SortFunc.
-/
import Derived.Test.YtllfelooahplhaaGreatDoorSbn19
import Derived.Lib.QuietBelow
namespace Go.Proofs.YtllfelooahplhaaGreatDoor
open Go.RowKit Go.Sort Go.Shelf
open Tm

structure Raw where
 v:Int
 s:Bool
 a:Option Addr
 l:Nat
 c:Nat
 z:Int
def Raw.enc (x:Raw):List Value:=[.int .i64 x.v,.bool x.s,.slice x.a x.l x.c]
def Raw.p (x:Raw):Int × Int:=(x.v,x.z)
def Raw.ok (w:World)(B:Nat)(x:Raw):Prop:=Zn w x.s x.a x.l x.c x.z∧x.l≤B∧I64 x.v
abbrev RawIn (w:World) (B:Nat):={x:Raw // x.ok w B}
theorem inhR (w:World)(B:Nat):Nonempty (Inhabited (RawIn w B)):=⟨⟨⟨⟨0,false,none,0,0,0⟩,zn_zero w,Nat.zero_le _,by unfold I64;decide⟩⟩⟩
def encI {w:World}{B:Nat}(x:RawIn w B):List Value:=x.1.enc
def ordI {w:World}{B:Nat}(x y:RawIn w B):Int:=ordQ x.1.p y.1.p

theorem ordQ_lt (p q:Int × Int):ordQ p q<0↔p.1<q.1∨(p.1=q.1∧p.2<q.2):=by
 unfold ordQ cmpI
 split <;> omega
theorem ltI {w:World}{B:Nat}(x y:RawIn w B):ltOf ordI x y=true↔x.1.v<y.1.v∨(x.1.v=y.1.v∧x.1.z<y.1.z):=by
 unfold ltOf ordI
 rw[decide_eq_true_eq,ordQ_lt]
 rfl
theorem ltI_false {w:World}{B:Nat}(x y:RawIn w B):ltOf ordI x y=false↔ ¬(x.1.v<y.1.v∨(x.1.v=y.1.v∧x.1.z<y.1.z)):=by
 rw[←ltI];simp
theorem swoI (w:World)(B:Nat):SWO (ltOf (ordI (w:=w) (B:=B))) where
 irrefl x:=by rw[ltI_false];omega
 trans x y z h1 h2:=by rw[ltI]at*;omega
 ntrans x y z h1 h2:=by rw[ltI_false]at*;omega

def flat (rs:List Raw):List Value:=rs.flatMap Raw.enc
theorem flat_length (rs:List Raw):(flat rs).length=rs.length*3:=by
 induction rs with
 |nil=>rfl
 |cons x rs ih=>simp only[flat,List.flatMap_cons,List.length_append,Raw.enc,List.length_cons,List.length_nil]at*;omega
theorem flat_get (rs:List Raw): ∀(i c:Nat) (h:i<rs.length),c<3→(flat rs)[i*3+c]? =(rs[i]).enc[c]?:=by
 induction rs with
 |nil=>intro i c h;cases h
 |cons x rs ih=>
  intro i c h hc
  have e:flat (x::rs)=x.enc++flat rs:=by simp[flat]
  have hl:x.enc.length=3:=rfl
  rw[e]
  cases i with
  |zero=>rw[List.getElem?_append_left o_m];simp
  |succ i=>
   rw[List.getElem?_append_right o_m,hl,show(i+1)*3+c-3=i*3+c from by omega]
   exact ih i c (by simpa using h) hc

def PQ (w0 w:World)(g:Nat)(rs:List Raw)(B:Nat):Prop:=
 g<w.heap.size∧∀i (h:i<rs.length),(w.cell? ⟨g,i*3,none⟩=some (.int .i64 rs[i].v)∧w.cell? ⟨g,i*3+1,none⟩=some (.bool rs[i].s)∧w.cell? ⟨g,i*3+2,none⟩=some (.slice rs[i].a rs[i].l rs[i].c))∧
  (w.frozen? ⟨g,i*3,none⟩=false∧w.frozen? ⟨g,i*3+1,none⟩=false∧w.frozen? ⟨g,i*3+2,none⟩=false)∧rs[i].ok w0 B

theorem sortW_grown {α:Type} [Inhabited α] (enc:α→List Value)(w:World)(g m:Nat)(dk:Array α)(os:Array Obj):w.grownBy (sortWorldK enc 3 w g 0 m dk os) (some g):=by
 refine⟨rfl,rfl,rfl,?_,fun k hk hne=> ?_⟩
 ·simp[sortWorldK,size_grow,size_putRowK,Sort.ahead]
 have hkg:k≠g:=fun e=>hne (by rw[e])
 simp only[sortWorldK,grow,putRowK,putRow,mapBlock,Sort.ahead]
 rw[Array.getElem?_append_left (by simpa using hk),Array.getElem?_modify,if_neg (fun e=>hkg e.symm)]

theorem gr_grow {W w':World}(h:Gr W w'): ∃q os',w'=grow (W.drewN q) os':=by
 obtain⟨p,hp⟩:=regrown_of_below h.b
 have hd:w'.drawn=p.d:=by rw[hp];rfl
 have:=h.d
 refine⟨p.d-W.drawn,p.os,?_⟩
 have e:redrawn W p.d=W.drewN (p.d-W.drawn):=by
  unfold redrawn World.drewN
  congr 1
  omega
 rw[hp,e]

theorem cmp_lays {w0 w:World}{B g n:Nat} [Inhabited (RawIn w0 B)] (hB:B≤1099511627776)(hk:Below w0.heap.size w0 w)(hg0:w0.heap.size≤g):
  CmpLays Tryz.prog 164 #[] (encI (w:=w0) (B:=B)) 3 ordI g 0 n w:=by
 intro m os dk _ x y
 have kW:Below w0.heap.size w0 (sortWorldK (encI (w:=w0) (B:=B)) 3 w g 0 m dk os):=below_grown hk (sortW_grown _ _ _ _ _ _) hg0
 refine(order_g (v1:=x.1.v) (v2:=y.1.v) (x.2.1.below kW).zm (y.2.1.below kW).zm (Nat.le_trans x.2.2.1 hB) (Nat.le_trans y.2.2.1 hB)).mono ?_
 rintro e w' ⟨rfl,h⟩
 exact⟨rfl,gr_grow h⟩

set_option maxRecDepth 100000 in
theorem sort_n {w0 w:World}{B g cap n:Nat}{cur:Array Value}{rs:List Raw}(hn:rs.length=n)(hok: ∀x∈rs,x.ok w0 B)(hB:B≤1099511627776)(hk:Below w0.heap.size w0 w)(hg0:w0.heap.size≤g)
  (hcur:w.heap[g]? =some (.cells cur 134 (0,0)))(hrow:cur.toList.take (n*3)=flat rs)(hd:(rs.map Raw.v).Nodup)(hnb:n≤1099511627776):
  Calls Tryz.prog 163 #[.slice (some ⟨g,0,none⟩) n cap,.func (.func 164) #[] #[]] w fun e w'=>e= .returned (.tuple #[])∧∃rs',rs'.Perm rs∧rs'.Pairwise (fun x y=>x.v<y.v)∧PQ w0 w' g rs' B∧w.grownBy w' (some g):=by
 obtain⟨_⟩:=inhR w0 B
 have hgl:g<w.heap.size:=(Array.getElem?_eq_some_iff.1 hcur).1
 let d:Array (RawIn w0 B):=(rs.pmap (fun x h=>(⟨x,h⟩:RawIn w0 B)) hok).toArray
 have hds:d.size=n:=by simp[d,hn]
 have hdm:d.toList.map Subtype.val=rs:=by
  simp only[d,List.map_pmap]
  simp
 have hget: ∀i (h:i<rs.length),(d[i]!).1=rs[i]:=by
  intro i h
  have h':i<d.size:=by omega
  rw[getElem!_pos d i h']
  simp[d]
 have hH:HoldsK (encI (w:=w0) (B:=B)) 3 w g 0 d:=by
  intro j hj
  rw[size_flatK]at hj
  have hi:j / 3<rs.length:=by omega
  rw[get_flatK _ _ _ _ hj]
  refine⟨?_,frozen_of_row w g _ _ _ hcur⟩
  have hc:(flat rs)[j]? =some ((rs[j / 3]).enc[j%3]!):=by
   have:=flat_get rs (j / 3) (j%3) hi (Nat.mod_lt _ (by decide))
   rw[show j / 3*3+j%3=j from by omega]at this
   rw[this]
   have hl:(rs[j / 3]).enc.length=3:=rfl
   rw[List.getElem!_eq_getElem?_getD,List.getElem?_eq_getElem o_m]
   rfl
  rw[Nat.zero_add,show(d[j / 3]!)=d[j / 3]! from rfl]
  show w.cell? ⟨g,j,none⟩=some ((d[j / 3]!).1.enc[j%3]!)
  rw[hget _ hi]
  have h2:cur[j]? =some ((rs[j / 3]).enc[j%3]!):=by
   rw[←hc,←hrow,List.getElem?_take,if_pos o_m]
   simp
  exact(cell_of_row w g j _ _ (0,0) hcur).trans h2
 have eg: ∀args w,(callFunc 164 args).run Tryz.prog w= .ok (.enter 164 args) w:=enters_of Tryz.func164 k_f rfl
 have hcon:=AnyQ.slices_SortFunc Tryz.sortP 3 Tryz.isAgg134 Tryz.sizeOf134 (encI (w:=w0) (B:=B)) (fun _=>rfl) (fun x v hv=>by simp[encI,Raw.enc]at hv;rcases hv with rfl|rfl|rfl <;> rfl) ordI (swoI w0 B) 164 #[] g 0 cap d w eg (cmp_lays hB hk hg0) hH hgl o_m
 rw[hds]at hcon
 change Calls Tryz.prog 163 _ _ _ at hcon
 refine hcon.mono ?_
 rintro e w' ⟨rfl,d',m,os,hp,hs,rfl⟩
 have hsz:d'.size=n:=by rw[hp.1,hds]
 have hperm:(d'.toList.map Subtype.val).Perm rs:=by
  have:=hp.2.2
  rw[←hds]at this
  have e1:d.extract 0 d.size=d:=by simp
  have e2:d'.extract 0 d.size=d':=by rw[←hp.1];simp
  rw[e1,e2]at this
  rw[←hdm]
  exact this.map _
 refine⟨rfl,d'.toList.map Subtype.val,hperm,?_,⟨?_,?_⟩,sortW_grown _ _ _ _ _ _⟩
 ·have hnd:((d'.toList.map Subtype.val).map Raw.v).Nodup:=(hperm.map Raw.v).nodup_iff.2 hd
  rw[List.pairwise_iff_getElem]
  intro i j hi hj hij
  have hi':i<d'.size:=by simpa using hi
  have hj':j<d'.size:=by simpa using hj
  have h1:=hs i j (Nat.zero_le _) hij o_m
  rw[ltI_false,getElem!_pos d' i hi',getElem!_pos d' j hj']at h1
  have h2:=(List.pairwise_iff_getElem.1 hnd) i j (by simpa using hi) (by simpa using hj) hij
  simp only[List.getElem_map,Array.getElem_toList]at h2 ⊢
  omega
 ·exact Nat.lt_of_lt_of_le hgl (sortW_grown _ _ _ _ _ _).size
 intro i hi
 have hi':i<d'.size:=by simpa using hi
 have hK:=holdsK_sortWorldK_c (encI (w:=w0) (B:=B)) 3 w g 0 d d' m os hH hgl (by rw[hsz,hds])
 have k0:=hK.cell (i:=i) (c:=0) hi' (by decide)
 have k1:=hK.cell (i:=i) (c:=1) hi' (by decide)
 have k2:=hK.cell (i:=i) (c:=2) hi' (by decide)
 have e:(d'.toList.map Subtype.val)[i]=(d'[i]!).1:=by rw[getElem!_pos d' i hi'];simp
 rw[e]
 simp only[Nat.zero_add,Nat.add_zero]at k0 k1 k2
 exact⟨⟨k0.1,k1.1,k2.1⟩,⟨k0.2,k1.2,k2.2⟩,(d'[i]!).2⟩
end Go.Proofs.YtllfelooahplhaaGreatDoor
