/-
 Layer 5: a row of parts sorted by slices.SortFunc.
-/
import Derived.Test.YtbgpddlcfiiiaaaGreatDoorSbm17
import Derived.Lib.QuietBelow
namespace Go.Proofs.YtbgpddlcfiiiaaaGreatDoor
open Go.RowKit Go.Sort Go.Shelf
open Tm

structure Raw where
 v:Int
 s:Bool
 a:Option Addr
 l:Nat
 c:Nat
 z:Int
def Raw.enc (x:Raw):List Value:=[.int .i64 x.v,.bool x.s,.slice x.a x.l x.c]
def Raw.p (x:Raw):Int × Int:=(x.v,x.z)
def Raw.ok (w:World)(B:Nat)(x:Raw):Prop:=Zn w x.s x.a x.l x.c x.z∧x.l≤B∧I64 x.v
abbrev RawIn (w:World) (B:Nat):={x:Raw // x.ok w B}
theorem inhR (w:World)(B:Nat):Nonempty (Inhabited (RawIn w B)):=⟨⟨⟨⟨0,false,none,0,0,0⟩,zn_zero w,Nat.zero_le _,by unfold I64;decide⟩⟩⟩
def encI {w:World}{B:Nat}(x:RawIn w B):List Value:=x.1.enc
def ordI {w:World}{B:Nat}(x y:RawIn w B):Int:=ordQ x.1.p y.1.p

theorem ordQ_lt (p q:Int × Int):ordQ p q<0↔p.1<q.1∨(p.1=q.1∧p.2<q.2):=by
 unfold ordQ cmpI
 split <;> omega
theorem ltI {w:World}{B:Nat}(x y:RawIn w B):ltOf ordI x y=true↔x.1.v<y.1.v∨(x.1.v=y.1.v∧x.1.z<y.1.z):=by
 unfold ltOf ordI
 rw[decide_eq_true_eq,ordQ_lt]
 rfl
theorem ltI_false {w:World}{B:Nat}(x y:RawIn w B):ltOf ordI x y=false↔ ¬(x.1.v<y.1.v∨(x.1.v=y.1.v∧x.1.z<y.1.z)):=by
 rw[←ltI];simp
theorem swoI (w:World)(B:Nat):SWO (ltOf (ordI (w:=w) (B:=B))) where
 irrefl x:=by rw[ltI_false];omega
 trans x y z h1 h2:=by rw[ltI]at*;omega
 ntrans x y z h1 h2:=by rw[ltI_false]at*;omega

def flat (rs:List Raw):List Value:=rs.flatMap Raw.enc
theorem flat_length (rs:List Raw):(flat rs).length=rs.length*3:=by
 induction rs with
 |nil=>rfl
 |cons x rs ih=>simp only[flat,List.flatMap_cons,List.length_append,Raw.enc,List.length_cons,List.length_nil]at*;omega
theorem flat_get (rs:List Raw): ∀(i c:Nat) (h:i<rs.length),c<3→(flat rs)[i*3+c]? =(rs[i]).enc[c]?:=by
 induction rs with
 |nil=>intro i c h;cases h
 |cons x rs ih=>
  intro i c h hc
  have e:flat (x::rs)=x.enc++flat rs:=by simp[flat]
  have hl:x.enc.length=3:=rfl
  rw[e]
  cases i with
  |zero=>rw[List.getElem?_append_left o_m];simp
  |succ i=>
   rw[List.getElem?_append_right o_m,hl,show(i+1)*3+c-3=i*3+c from by omega]
   exact ih i c (by simpa using h) hc

def PQ (w0 w:World)(g:Nat)(rs:List Raw)(B:Nat):Prop:=
 g<w.heap.size∧∀i (h:i<rs.length),(w.cell? ⟨g,i*3,none⟩=some (.int .i64 rs[i].v)∧w.cell? ⟨g,i*3+1,none⟩=some (.bool rs[i].s)∧w.cell? ⟨g,i*3+2,none⟩=some (.slice rs[i].a rs[i].l rs[i].c))∧
  (w.frozen? ⟨g,i*3,none⟩=false∧w.frozen? ⟨g,i*3+1,none⟩=false∧w.frozen? ⟨g,i*3+2,none⟩=false)∧rs[i].ok w0 B

theorem sortW_grown {α:Type} [Inhabited α] (enc:α→List Value)(w:World)(g m:Nat)(dk:Array α)(os:Array Obj):w.grownBy (sortWorldK enc 3 w g 0 m dk os) (some g):=by
 refine⟨rfl,rfl,rfl,?_,fun k hk hne=> ?_⟩
 ·simp[sortWorldK,size_grow,size_putRowK,Sort.ahead]
 have hkg:k≠g:=fun e=>hne (by rw[e])
 simp only[sortWorldK,grow,putRowK,putRow,mapBlock,Sort.ahead]
 rw[Array.getElem?_append_left (by simpa using hk),Array.getElem?_modify,if_neg (fun e=>hkg e.symm)]

theorem gr_grow {W w':World}(h:Gr W w'): ∃q os',w'=grow (W.drewN q) os':=by
 obtain⟨p,hp⟩:=regrown_of_below h.b
 have hd:w'.drawn=p.d:=by rw[hp];rfl
 have:=h.d
 refine⟨p.d-W.drawn,p.os,?_⟩
 have e:redrawn W p.d=W.drewN (p.d-W.drawn):=by
  unfold redrawn World.drewN
  congr 1
  omega
 rw[hp,e]

theorem cmp_lays {w0 w:World}{B g n:Nat} [Inhabited (RawIn w0 B)] (hB:B≤1099511627776)(hk:Below w0.heap.size w0 w)(hg0:w0.heap.size≤g):
  CmpLays Tryz.prog 104 #[] (encI (w:=w0) (B:=B)) 3 ordI g 0 n w:=by
 intro m os dk _ x y
 have kW:Below w0.heap.size w0 (sortWorldK (encI (w:=w0) (B:=B)) 3 w g 0 m dk os):=below_grown hk (sortW_grown _ _ _ _ _ _) hg0
 refine(order_g (v1:=x.1.v) (v2:=y.1.v) (x.2.1.below kW).zm (y.2.1.below kW).zm (Nat.le_trans x.2.2.1 hB) (Nat.le_trans y.2.2.1 hB)).mono ?_
 rintro e w' ⟨rfl,h⟩
 exact⟨rfl,gr_grow h⟩

end Go.Proofs.YtbgpddlcfiiiaaaGreatDoor
