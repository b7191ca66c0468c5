/-
 Several texts in one: U3,U4,U5.
-/
import Derived.Test.YtbgpddlcfiiiaaaGreatDoorSbm39
import Derived.Test.YtbgpddlcfiiiaaaGreatDoorSbm37
import Derived.Test.YtbgpddlcfiiiaaaGreatDoorSbm35
set_option maxRecDepth 100000
set_option maxHeartbeats 6400000
namespace Go.Proofs.YtbgpddlcfiiiaaaGreatDoor
open Go.RowKit Go.Sort Go.Shelf
open Tm At
namespace Nt
namespace Sb

def markR :Value→Option (DataW Value × List MemPlace)
 | .agg cs=>match cs.toList with
  | [.bool b]=>some (.lit (.bool b),[])
  |_=>none
 |_=>none
theorem markR_mk (b:Bool):markR (.agg #[.bool b])=some (.lit (.bool b),[]):=rfl
theorem markR_inv {v:Value}{z:DataW Value × List MemPlace}(h:markR v=some z): ∃b,v= .agg #[.bool b]∧z=(.lit (.bool b),[]):=by
 unfold markR at h
 split at h
 ·rename_i cs
  split at h
  ·rename_i b e
   refine⟨b,?_,(Option.some.inj h).symm⟩
   congr 1
   apply Array.ext'
   exact e
  cases h
 cases h
structure Lb where
 pb:Nat
 qa:Nat
 qv:Nat
 ql:Nat
 bm:Nat
def Lb.var (B:Lb)(b:Nat):Prop:=b=B.pb∨b=B.qa∨b=B.qv∨b=B.ql
structure LV (B:Lb) (pa:Nat) (v:Int) (w:World):Prop where
 hp:w.heap[B.pb]? =some (.cells #[.map (some B.bm),.slice none 0 0] 92 (0,0))
 ha:w.heap[B.qa]? =some (.cells #[.pointer (some ⟨pa,0,none⟩)] 31 (0,0))
 hv:w.heap[B.qv]? =some (.cells #[.int .i64 v] 3 (0,0))
 hl:w.heap[B.ql]? =some (.cells #[.func (.func 78) #[] #[.pointer (some ⟨B.pb,0,none⟩),.pointer (some ⟨B.qa,0,none⟩),.pointer (some ⟨B.qv,0,none⟩),.pointer (some ⟨B.ql,0,none⟩)]] 94 (0,0))
theorem LV.move {B:Lb}{pa:Nat}{v:Int}{w w':World}(h:LV B pa v w)(hm: ∀b,B.var b→b<w.heap.size→w'.heap[b]? =w.heap[b]?):LV B pa v w':=
 ⟨(hm _ (.inl rfl) (lt_of_block h.hp)).trans h.hp,(hm _ (.inr (.inl rfl)) (lt_of_block h.ha)).trans h.ha,(hm _ (.inr (.inr (.inl rfl))) (lt_of_block h.hv)).trans h.hv,(hm _ (.inr (.inr (.inr rfl))) (lt_of_block h.hl)).trans h.hl⟩
structure LS (wS:World) (B:Lb) (pa pm:Nat) (kk v:Int) (L:List Nd) (F:Nat→Prop) (w:World) (Vis:List Int) (D:DataW Value):Prop where
 k:Below wS.heap.size wS w
 a:AX wS pa pm L F
 g:Gv kk L
 b:LV B pa v w
 bb: ∀b,B.var b∨b=B.bm→wS.heap.size≤b
 nm: ¬B.var B.bm
 m:w.ownsMap Tryz.prog 3 markR B.bm Vis.length D
 d: ∀x,I64 x→Maps.has D (.int .i64 x)=decide (x∈Vis)
 j: ∀x∈Vis,okI L x∧∃b:Bool,(b=true↔Fv L v x)∧∀z,D.atKey (.int .i64 x) z= .lit (.bool b)
 c: ∀x∈Vis,∀k∈(ndI L x).kids,k∈Vis
 nd:Vis.Nodup
theorem lt_of_map {w:World}{b n:Nat}{D:DataW Value}(h:w.ownsMap Tryz.prog 3 markR b n D):b<w.heap.size:=h.lt
variable {wS w w':World}{B:Lb}{pa pm:Nat}{kk v:Int}{L:List Nd}{F:Nat→Prop}{Vis:List Int}{D:DataW Value}
theorem LS.below (h:LS wS B pa pm kk v L F w Vis D)(k:Below w.heap.size w w'):LS wS B pa pm kk v L F w' Vis D:=
 {h with
  k:=grow_step k h.k
  b:=h.b.move fun b _ hb=>k.block b hb
  m:=h.m.kept (gb_none k) (by simp)}
theorem LS.ax (h:LS wS B pa pm kk v L F w Vis D):AX w pa pm L F:=h.a.move h.k.size fun b hb=>h.k.block b (h.a.fl b hb)
theorem LS.len (h:LS wS B pa pm kk v L F w Vis D):Vis.length≤L.length:=by
 have h4:=nodup_len (N:=L.length) Vis h.nd fun x hx=>(h.j x hx).1
 omega
theorem LS.put {i:Int}{b:Bool}(h:LS wS B pa pm kk v L F w Vis D)(hi:okI L i)(hL:L.length≤1048576)(hb:b=true↔Fv L v i)(hn:i∉Vis)(hk: ∀k∈(ndI L i).kids,k∈Vis)(hm:w'.ownsMap Tryz.prog 3 markR B.bm (Vis.length+1) (D.put (.int .i64 i) (.lit (.bool b))))(hg:w.grownBy w' (some B.bm)):LS wS B pa pm kk v L F w' (i::Vis) (D.put (.int .i64 i) (.lit (.bool b))):=by
 have hI:I64 i:=by have h1:=hi.1;have h2:=hi.2;unfold I64;omega
 have hky:=isKey_i i hI
 refine⟨h.k.grown hg h.k.size fun b hb=>by cases hb;exact h.bb _ (.inr rfl),h.a,h.g,h.b.move fun b hb hl=>hg.block b hl fun e=>h.nm (Option.some.inj e▸hb),h.bb,h.nm,hm,fun x hx=> ?_,fun x hx=> ?_,fun x hx k hk'=> ?_,List.nodup_cons.2 ⟨hn,h.nd⟩⟩
 ·by_cases e:x=i
  ·subst e
   rw[Maps.has_put_same h.m.isMap hky]
   simp
  rw[Maps.has_put_other (fun e2=>e (by injection e2)),h.d x hx]
  simp[e]
 ·rcases List.mem_cons.1 hx with rfl|hx
  ·exact⟨hi,b,hb,fun z=>Maps.atKey_put_same h.m.isMap hky _ _⟩
  obtain⟨g1,y,g2,g3⟩:=h.j x hx
  have e:x≠i:=fun e=>hn (e▸hx)
  exact⟨g1,y,g2,fun z=>by rw[Maps.atKey_put_other (fun e2=>e (by injection e2))];exact g3 z⟩
 rcases List.mem_cons.1 hx with rfl|hx
 ·exact List.mem_cons_of_mem _ (hk k hk')
 exact List.mem_cons_of_mem _ (h.c x hx k hk')
def LkP (wS:World)(B:Lb)(pa pm:Nat)(kk v:Int)(L:List Nd)(F:Nat→Prop)(w:World)(Vis:List Int)(id:Int)(e:Ending)(w':World):Prop:=
 ∃(b:Bool) (Vis':List Int) (D':DataW Value),e= .returned (.bool b)∧(b=true↔Fv L v id)∧LS wS B pa pm kk v L F w' Vis' D'∧(∀x∈Vis,x∈Vis')∧id∈Vis'∧(∀x∈Vis',x∈Vis∨x≤id)∧ButF (fun b=>b=B.bm) w w'
def isP (v:Int)(p:Int × Int):Bool:=p.1==v
theorem isP_any {n:Nd}{v:Int}:n.ps.any (isP v)=true↔ ∃c,(v,c)∈n.ps:=by
 rw[List.any_eq_true]
 constructor
 ·rintro⟨⟨u,c⟩,h1,h2⟩
  obtain rfl:u=v:=by simpa [isP] using h2
  exact⟨c,h1⟩
 rintro⟨c,h⟩
 exact⟨(v,c),h,by simp[isP]⟩
theorem isPart_n {w:World}{qv:Nat}{v u:Int}{s:Bool}{a:Option Addr}{l c:Nat}(hv:w.heap[qv]? =some (.cells #[.int .i64 v] 3 (0,0))):
  Calls Tryz.prog 80 #[.agg #[.int .i64 u,.bool s,.slice a l c],.pointer (some ⟨qv,0,none⟩)] w fun e w'=>e= .returned (.bool (u==v))∧Below w.heap.size w w':=by
 have b0:=below_alloc w (.cells #[.int .i64 u,.bool s,.slice a l c] 117)
 have uv:=cell_of_row w qv 0 _ _ (0,0) hv
 have ul:=lt_of_block hv
 have k0:=hide b0
 go_enter Tryz.func80,Tryz.ntmps80
 go_wp2
 go_ret
 exact⟨rfl,k0.out⟩
end Sb
end Nt
namespace Nt
namespace Sb

structure Bl where
 bs:Nat
 bk:Nat
 ba:Nat
 bc:Nat
 bt:Nat
 bm:Nat
def Bl.var (B:Bl)(b:Nat):Prop:=b=B.bs∨b=B.bk∨b=B.ba∨b=B.bc∨b=B.bt
structure BV (B:Bl) (pa:Nat) (sv tf:Value) (w:World):Prop where
 hs:w.heap[B.bs]? =some (.cells #[sv] 94 (0,0))
 hk:w.heap[B.bk]? =some (.cells #[.map (some B.bm)] 147 (0,0))
 ha:w.heap[B.ba]? =some (.cells #[.pointer (some ⟨pa,0,none⟩)] 31 (0,0))
 hc:w.heap[B.bc]? =some (.cells #[.func (.func 83) #[] #[.pointer (some ⟨B.bs,0,none⟩),.pointer (some ⟨B.bk,0,none⟩),.pointer (some ⟨B.ba,0,none⟩),.pointer (some ⟨B.bc,0,none⟩),.pointer (some ⟨B.bt,0,none⟩)]] 148 (0,0))
 ht:w.heap[B.bt]? =some (.cells #[tf] 61 (0,0))
theorem BV.move {B:Bl}{pa:Nat}{sv tf:Value}{w w':World}(h:BV B pa sv tf w)(hm: ∀b,B.var b→b<w.heap.size→w'.heap[b]? =w.heap[b]?):BV B pa sv tf w':=
 ⟨(hm _ (.inl rfl) (lt_of_block h.hs)).trans h.hs,(hm _ (.inr (.inl rfl)) (lt_of_block h.hk)).trans h.hk,(hm _ (.inr (.inr (.inl rfl))) (lt_of_block h.ha)).trans h.ha,(hm _ (.inr (.inr (.inr (.inl rfl)))) (lt_of_block h.hc)).trans h.hc,(hm _ (.inr (.inr (.inr (.inr rfl)))) (lt_of_block h.ht)).trans h.ht⟩
theorem BV.lt {B:Bl}{pa:Nat}{sv tf:Value}{w:World}(h:BV B pa sv tf w){b:Nat}(hb:B.var b):b<w.heap.size:=by
 rcases hb with rfl|rfl|rfl|rfl|rfl
 ·exact lt_of_block h.hs
 ·exact lt_of_block h.hk
 ·exact lt_of_block h.ha
 ·exact lt_of_block h.hc
 exact lt_of_block h.ht
def Apt (wI:World)(F0:Nat→Prop)(pm bm:Nat)(w:World):Prop:=ButF (fun b=>b=pm∨F0 b∨b=bm) wI w
structure CS (w0 wI:World) (F0:Nat→Prop) (B:Bl) (pa pm:Nat) (sv tf:Value) (nn kk:Int) (L0:List Nd) (J:List Nd→Int→Int→Prop) (w:World) (s:St) (F:Nat→Prop) (Sn:List Int) (D:DataW Value):Prop where
 x:Apt wI F0 pm B.bm w
 f0: ∀b,F b→F0 b∨wI.heap.size≤b
 l0: ∃t,s.L=L0++t
 e:EA w0 w pa pm nn kk s F
 b:BV B pa sv tf w
 m:w.ownsMap Tryz.prog 3 (plainElem Tryz.prog 3) B.bm Sn.length D
 nF: ∀b,B.var b∨b=B.bm→¬F b∧b≠pm
 nm: ¬B.var B.bm
 bl:B.bm<w.heap.size
 b0:w0.heap.size≤B.bm
 d: ∀x,I64 x→Maps.has D (.int .i64 x)=decide (x∈Sn)
 j: ∀x∈Sn,okI s.L x∧∃y,(∀z,D.atKey (.int .i64 x) z= .lit (.int .i64 y))∧okI s.L y∧J s.L x y
 nd:Sn.Nodup
variable {w0 wI w w':World}{F0:Nat→Prop}{B:Bl}{pa pm:Nat}{sv tf:Value}{nn kk:Int}{L0:List Nd}{J:List Nd→Int→Int→Prop}{s:St}{F:Nat→Prop}{Sn:List Int}{D:DataW Value}
theorem CS.below (h:CS w0 wI F0 B pa pm sv tf nn kk L0 J w s F Sn D)(k:Below w.heap.size w w'):CS w0 wI F0 B pa pm sv tf nn kk L0 J w' s F Sn D:=
 {h with
  x:=ButF.trans h.x (butF_below (F:=fun _=>False) k) fun _ _ h=>h.elim
  e:=h.e.below k
  b:=h.b.move fun b _ hb=>k.block b hb
  m:=h.m.kept (gb_none k) (by simp)
  bl:=Nat.lt_of_lt_of_le h.bl k.size}
theorem CS.len (h:CS w0 wI F0 B pa pm sv tf nn kk L0 J w s F Sn D):s.L.length≤2002∧Sn.length≤2002:=by
 have h1:=h.e.g.ln
 have h2:=h.e.g.cn
 have h3:=h.e.g.n2
 have h4:=nodup_len (N:=s.L.length) Sn h.nd fun x hx=>(h.j x hx).1
 omega
theorem CS.butF {G:Nat→Prop}(h:CS w0 wI F0 B pa pm sv tf nn kk L0 J w s F Sn D)(hb:ButF G w w')(hG: ∀b,G b→b<w.heap.size→¬F b∧b≠pm∧¬B.var b∧b≠B.bm∧w0.heap.size≤b)(hGI: ∀b,G b→wI.heap.size≤b):CS w0 wI F0 B pa pm sv tf nn kk L0 J w' s F Sn D:=by
 have hA:AG w' pa pm nn kk s F:=by
  obtain⟨C,nv,bm,X,D',h1,h2,h3⟩:=h.e.g.ar
  refine{h.e.g with ar:=⟨C,nv,bm,X,D',h1.butF hb fun b hb' e=>(hG b e (h.e.g.fl b (h3 b hb'))).1 (h3 b hb'),h2,h3⟩,mb:=?_,fl:=fun b hb'=>Nat.lt_of_lt_of_le (h.e.g.fl b hb') hb.size}
  exact(hb.block _ h.e.g.mb.lt fun e=>(hG _ e h.e.g.mb.lt).2.1 rfl).trans h.e.g.mb
 refine{h with x:=ButF.trans h.x hb (fun b hl hg=>by have:=hGI b hg;omega),e:={h.e with g:=hA,k:=?_},b:=h.b.move fun b hv hl=>hb.block b hl fun e=>(hG b e hl).2.2.1 hv,m:=?_,bl:=Nat.lt_of_lt_of_le h.bl hb.size}
 ·exact h.e.k.trans ⟨hb.os,hb.tape,hb.output,hb.size,fun i hi=>hb.block i (Nat.lt_of_lt_of_le hi h.e.k.size) fun e=>by have:=(hG i e (Nat.lt_of_lt_of_le hi h.e.k.size)).2.2.2.2;omega⟩
 obtain⟨es,clock,hm,hr⟩:=h.m
 exact⟨es,clock,(hb.block _ h.bl fun e=>(hG _ e h.bl).2.2.2.1 rfl).trans hm,hr⟩
theorem CS.next {e:Ending}{r:St × Int × Int}(h:CS w0 wI F0 B pa pm sv tf nn kk L0 J w s F Sn D)(hJ:Mono kk J)(ha:AO2 w w' e pa pm nn kk F r)(hp:Kp kk s r): ∃F',CS w0 wI F0 B pa pm sv tf nn kk L0 J w' r.1 F' Sn D∧(∀b,F' b→F b∨w.heap.size≤b)∧ButF (fun b=>b=pm∨F b∨b=B.bm) w w':=by
 obtain⟨F',h1,h2⟩:=h.e.next ha hp.gv
 obtain⟨_,_,_,_,h3⟩:=ha
 refine⟨F',{h with
  x:=ButF.trans h.x h3 fun b hl hg=>hg.elim .inl fun hf=> .inr (.inl ((h.f0 b hf).resolve_right o_m))
  f0:=fun b hb=>(h2 b hb).elim (h.f0 b) fun hl=> .inr (by have:=h.x.size;omega)
  l0:=by obtain⟨t1,e1⟩:=h.l0;obtain⟨t2,e2⟩:=hp.le;exact⟨t1++t2,by rw[e2,e1,List.append_assoc]⟩
  e:=h1
  b:=h.b.move fun b hb hl=>h3.block b hl fun hf=>hf.elim (fun e=>(h.nF b (.inl hb)).2 e) fun hf=>(h.nF b (.inl hb)).1 hf
  m:=?_
  nF:=fun b hb=>⟨fun hf=>(h2 b hf).elim (h.nF b hb).1 fun hl=> ?_,(h.nF b hb).2⟩
  bl:=Nat.lt_of_lt_of_le h.bl h3.size
  j:=fun x hx=> ?_},h2,h3.mono fun b hb=>hb.imp id .inl⟩
 ·obtain⟨es,clock,hb,hr⟩:=h.m
  exact⟨es,clock,(h3.block _ h.bl fun hf=>hf.elim (h.nF _ (.inr rfl)).2 (h.nF _ (.inr rfl)).1).trans hb,hr⟩
 ·rcases hb with hb|rfl
  ·have:=h.b.lt hb
   omega
  have:=h.bl
  omega
 obtain⟨g1,y,g2,g3,g4⟩:=h.j x hx
 exact⟨hp.okI g1,y,g2,hp.okI g3,hJ _ _ _ _ h.e.v hp.gv hp.le g1 g3 g4⟩
theorem CS.put {i y:Int}(h:CS w0 wI F0 B pa pm sv tf nn kk L0 J w s F Sn D)(hi:okI s.L i)(hy:okI s.L y)(hJ:J s.L i y)(hn:i∉Sn)(hm:w'.ownsMap Tryz.prog 3 (plainElem Tryz.prog 3) B.bm (Sn.length+1) (D.put (.int .i64 i) (.lit (.int .i64 y))))(hg:w.grownBy w' (some B.bm)):CS w0 wI F0 B pa pm sv tf nn kk L0 J w' s F (i::Sn) (D.put (.int .i64 i) (.lit (.int .i64 y))):=by
 have hl:=h.len.1
 have hI:I64 i:=by have h1:=hi.1;have h2:=hi.2;unfold I64;omega
 have hbb:ButF (fun b=>b=B.bm) w w':=⟨hg.os,hg.tape,hg.output,hg.size,fun b hb hn=>hg.block b hb fun e=>hn (Option.some.inj e)⟩
 have hk:=isKey_i i hI
 have hG:AG w' pa pm nn kk s F:=by
  obtain⟨C,nv,bm,X,D',h1,h2,h3⟩:=h.e.g.ar
  refine{h.e.g with ar:=⟨C,nv,bm,X,D',h1.butF hbb fun b hb e=>(h.nF _ (.inr rfl)).1 (e▸h3 b hb),h2,h3⟩,mb:=?_,fl:=fun b hb=>Nat.lt_of_lt_of_le (h.e.g.fl b hb) hg.size}
  exact(hg.block _ h.e.g.mb.lt fun e=>(h.nF _ (.inr rfl)).2 (Option.some.inj e).symm).trans h.e.g.mb
 refine⟨ButF.trans h.x hbb (fun b hl hg=> .inr (.inr hg)),h.f0,h.l0,{h.e with g:=hG,k:=?_},h.b.move fun b hb hl=>hg.block b hl fun e=>h.nm (Option.some.inj e▸hb),hm,h.nF,h.nm,Nat.lt_of_lt_of_le h.bl hg.size,h.b0,fun x hx=> ?_,fun x hx=> ?_,List.nodup_cons.2 ⟨hn,h.nd⟩⟩
 ·exact h.e.k.grown hg h.e.k.size fun b hb=>by cases hb;exact h.b0
 ·by_cases e:x=i
  ·subst e
   rw[Maps.has_put_same h.m.isMap hk]
   simp
  rw[Maps.has_put_other (fun e2=>e (by injection e2)),h.d x hx]
  simp[e]
 rcases List.mem_cons.1 hx with rfl|hx
 ·exact⟨hi,y,fun z=>Maps.atKey_put_same h.m.isMap hk _ _,hy,hJ⟩
 obtain⟨g1,y',g2,g3,g4⟩:=h.j x hx
 have e:x≠i:=fun e=>hn (e▸hx)
 exact⟨g1,y',fun z=>by rw[Maps.atKey_put_other (fun e2=>e (by injection e2))];exact g2 z,g3,g4⟩
end Sb
end Nt
namespace Nt
namespace Sb

variable {w0 wI:World}{F0:Nat→Prop}{B:Bl}{pa pm KS:Nat}{rs cs:Array Value}{tf:Value}{nn kk:Int}{L0:List Nd}{st:Int→Bool}{J:List Nd→Int→Int→Prop}
structure Mks (w0 wI:World) (F0:Nat→Prop) (B:Bl) (pa pm KS:Nat) (rs cs:Array Value) (tf:Value) (nn kk:Int) (L0:List Nd) (G:Int→Prop) (st:Int→Bool) (J:List Nd→Int→Int→Prop) (FR:St→Int→List Int→St × Int × Int→Prop):Prop where
 sg: ∀args w,(callFunc KS args).run Tryz.prog w= .ok (.enter KS args) w
 sf: ∀w x,Apt wI F0 pm B.bm w→G x→okI L0 x→Calls Tryz.prog KS (rs++ #[.int .i64 x]++cs) w fun e w'=>e= .returned (.bool (st x))∧Below w.heap.size w w'
 gk: ∀x,G x→okI L0 x→st x=false→∀k∈(ndI L0 x).kids,G k
 jst: ∀(s:St) x,(∃t,s.L=L0++t)→Gv kk s.L→G x→okI L0 x→st x=true→J s.L x x
 mo:Mono kk J
 kp: ∀s i ks r,FR s i ks r→Gv kk s.L→okI s.L i→Kp kk s r
 er: ∀s i ks r,FR s i ks r→Gv kk s.L→okI s.L i→(∀k∈ks,okI s.L k)→ks.length=(ndI s.L i).kids.length→r.2.2≠0→r.1.er≠0
 js: ∀s i ks r,FR s i ks r→Gv kk s.L→okI s.L i→Prs (J s.L) (ndI s.L i).kids ks→(∀k∈ks,okI s.L k)→r.2.2=0→J r.1.L i r.2.1
 fn: ∀w s F i x ks ka kc,EA w0 w pa pm nn kk s F→Apt wI F0 pm B.bm w→okI L0 i→G i→st i=false→(∃t,s.L=L0++t)→NC (fun _=>True) w x (ndI s.L i) 1048576→IL w ka ks.length ks→(∀k∈ks,okI s.L k)→ks.length=(ndI s.L i).kids.length→InF (fun b=> ¬F b∧b≠pm) ka ks.length→
  Calls Tryz.prog 84 #[.pointer (some ⟨pa,0,none⟩),.agg (nE x),.slice ka ks.length kc,tf] w fun e w'=> ∃r,FR s i ks r∧AO2 w w' e pa pm nn kk F r
def CoP (w0 wI:World)(F0:Nat→Prop)(B:Bl)(pa pm KS:Nat)(rs cs:Array Value)(tf:Value)(nn kk:Int)(L0:List Nd)(st:Int→Bool)(J:List Nd→Int→Int→Prop)(FR:St→Int→List Int→St × Int × Int→Prop)(w:World)(s:St)(F:Nat→Prop)(Sn:List Int)(id:Int)(e:Ending)(w':World):Prop:=
 ∃r F' Sn' D',e= .returned (.tuple #[.int .i64 r.2.1,.int .i64 r.2.2])∧CS w0 wI F0 B pa pm (.func (.func KS) rs cs) tf nn kk L0 J w' r.1 F' Sn' D'∧Kp kk s r∧(r.2.2=0→J r.1.L id r.2.1)∧(∀x∈Sn',x∈Sn∨x≤id)∧(∀b,F' b→F b∨w.heap.size≤b)∧ButF (fun b=>b=pm∨F b∨b=B.bm) w w'∧(r.2.2≠0→r.1.er≠0)∧((ndI s.L id).kids= []→st id=false→id∉Sn→FR s id [] r)
theorem CoP.back {FR:St→Int→List Int→St × Int × Int→Prop}{wA w w':World}{s:St}{F:Nat→Prop}{Sn:List Int}{id:Int}{e:Ending}(k:Below wA.heap.size wA w)(h:CoP w0 wI F0 B pa pm KS rs cs tf nn kk L0 st J FR w s F Sn id e w'):CoP w0 wI F0 B pa pm KS rs cs tf nn kk L0 st J FR wA s F Sn id e w':=by
 obtain⟨r,F',Sn',D',h1,h2,h3,h4,h5,h6,h7,h8⟩:=h
 exact⟨r,F',Sn',D',h1,h2,h3,h4,h5,fun b hb=>(h6 b hb).imp (fun h=>h) fun h=>Nat.le_trans k.size h,ButF.trans (butF_below k) h7 fun _ _ h=>h,h8⟩
structure KL (J:List Nd→Int→Int→Prop) (B:Bl) (pm:Nat) (w6:World) (s:St) (F:Nat→Prop) (Sn:List Int) (id:Int) (wr:World) (s':St) (F':Nat→Prop) (Sn':List Int) (t:Nat) (ks:List Int) (v:Value):Prop where
 le: ∃tl,s'.L=s.L++tl
 ps:Prs (J s'.L) ((ndI s.L id).kids.take t) ks
 ok: ∀k∈ks,okI s'.L k
 r:wr.ownsRow w6.heap.size 3 1 v ks.length (ks.map (Value.int .i64))
 nF: ∀b,v.ownBlock=some b→¬F' b
 sn: ∀x∈Sn',x∈Sn∨x<id
 f: ∀b,F' b→F b∨w6.heap.size≤b
 k:ButF (fun b=>b=pm∨F b∨b=B.bm) w6 wr
 z:t=0→s'=s
 er:s.er≠0→s'.er≠0
theorem come_step {G:Int→Prop}{FR:St→Int→List Int→St × Int × Int→Prop}(hM:Mks w0 wI F0 B pa pm KS rs cs tf nn kk L0 G st J FR)(id:Int)(hI:I64 id)(ho0:okI L0 id)(hGi:G id)
  (ih: ∀(id':Int),0≤id'→id'<id→okI L0 id'→G id'→∀(w:World) (s:St) (F:Nat→Prop) (Sn:List Int) (D:DataW Value),CS w0 wI F0 B pa pm (.func (.func KS) rs cs) tf nn kk L0 J w s F Sn D→
  Calls Tryz.prog 83 #[.int .i64 id',.pointer (some ⟨B.bs,0,none⟩),.pointer (some ⟨B.bk,0,none⟩),.pointer (some ⟨B.ba,0,none⟩),.pointer (some ⟨B.bc,0,none⟩),.pointer (some ⟨B.bt,0,none⟩)] w fun e w'=>CoP w0 wI F0 B pa pm KS rs cs tf nn kk L0 st J FR w s F Sn id' e w')
  (wA:World)(s:St)(F:Nat→Prop)(Sn:List Int)(D:DataW Value)(hCA:CS w0 wI F0 B pa pm (.func (.func KS) rs cs) tf nn kk L0 J wA s F Sn D):
  Calls Tryz.prog 83 #[.int .i64 id,.pointer (some ⟨B.bs,0,none⟩),.pointer (some ⟨B.bk,0,none⟩),.pointer (some ⟨B.ba,0,none⟩),.pointer (some ⟨B.bc,0,none⟩),.pointer (some ⟨B.bt,0,none⟩)] wA fun e w'=>CoP w0 wI F0 B pa pm KS rs cs tf nn kk L0 st J FR wA s F Sn id e w':=by
 have us:=cell_of_row wA B.bs 0 _ _ (0,0) hCA.b.hs
 have hst:=hide (hM.sf wA id hCA.x hGi ho0)
 have hsg:=hM.sg
 have hoS:okI s.L id:=by
  obtain⟨t,e⟩:=hCA.l0
  rw[e]
  exact okI_app ho0
 have hnS:ndI s.L id=ndI L0 id:=by
  obtain⟨t,e⟩:=hCA.l0
  rw[e]
  exact ndI_app ho0
 have hky:=keyOf_i hI
 have hz0: ∀w:World,(zeroValue 3).run Tryz.prog w= .ok (.int .i64 0) w:=fun w=>by kernel_rfl
 rcases hsb:st id with _|_
 rotate_left
 ·rw[hsb]at hst
  have hfin:Hid (∀w1,Below wA.heap.size wA w1→CoP w0 wI F0 B pa pm KS rs cs tf nn kk L0 st J FR wA s F Sn id (.returned (.tuple #[.int .i64 id,.int .i64 0])) w1):=hide fun w1 k=>⟨(s,id,0),F,Sn,D,rfl,hCA.below k,kp_now hCA.e.v fun _=>hoS,fun _=>hM.jst s id hCA.l0 hCA.e.v hGi ho0 hsb,fun x hx=> .inl hx,fun b hb=> .inl hb,butF_below k,fun h=>absurd rfl h,fun _ h=>by rw[hsb]at h;cases h⟩
  clear ih hnS hCA
  go_enter Tryz.func83,Tryz.ntmps83
  go_wp2_with fail
  refine hst.out.mono ?_
  rintro e w1 ⟨rfl,k1⟩
  have h1:=hide (hfin.out w1 k1)
  clear hfin hst us k1
  go_wp2_with fail
  refine bodyPost_ret (results_tmp2 rfl _ _ _) rfl ?_
  exact h1.out
 rw[hsb]at hst
 replace ih:=hide ih
 replace hnS:=hide hnS
 go_enter Tryz.func83,Tryz.ntmps83
 go_wp2_with fail
 refine hst.out.mono ?_
 rintro e w ⟨rfl,kA⟩
 have hback:Hid (∀e w',CoP w0 wI F0 B pa pm KS rs cs tf nn kk L0 st J FR w s F Sn id e w'→CoP w0 wI F0 B pa pm KS rs cs tf nn kk L0 st J FR wA s F Sn id e w'):=hide fun e w' h=>h.back kA
 have hC:=hCA.below kA
 clear hst us hCA kA hsg
 have uk:=cell_of_row w B.bk 0 _ _ (0,0) hC.b.hk
 have ua:=cell_of_row w B.ba 0 _ _ (0,0) hC.b.ha
 have hmp:=hC.m
 have hmd:=hC.d id hI
 have hlen:=hC.len
 by_cases hin:id∈Sn
 ·rw[decide_eq_true hin]at hmd
  obtain⟨hok,y,hat,hoy,hJ⟩:=hC.j id hin
  have hfin:Hid (CoP w0 wI F0 B pa pm KS rs cs tf nn kk L0 st J FR w s F Sn id (.returned (.tuple #[.int .i64 y,.int .i64 0])) w):=hide ⟨(s,y,0),F,Sn,D,rfl,hC,kp_now hC.e.v fun _=>hoy,fun _=>hJ,fun x hx=> .inl hx,fun b hb=> .inl hb,⟨rfl,rfl,rfl,Nat.le_refl _,fun _ _ _=>rfl⟩,fun h=>absurd rfl h,fun _ _ h=>absurd hin h⟩
  clear ih
  go_wp2_with(at_lookup;refine wpList_lookup_own_ok_int _ rfl _ _ 147 rfl 3 3 .i64 tk Tryz.underlying147 Tryz.underlying3 (hz0 _) B.bm Sn.length D rfl hmp (.int .i64 id) (.int .i64 id) rfl hky ?_;intro cc hcc _;rw[hmd];obtain rfl:cc=y:=(by have h9:=hcc.symm.trans (hat _);injection h9 with h9;injection h9);clear hcc)
  refine bodyPost_ret (results_tmp2 rfl _ _ _) rfl ?_
  exact hback.out _ _ hfin.out
 rw[decide_eq_false hin]at hmd
 have hnode:=hide (node9_n (B:=1048576) hC.e.g.ax hC.e.v hC.e.k0 (Int.le_trans hC.e.k8 (by decide)) o_m id)
 go_wp2_with(at_lookup;refine wpList_lookup_own_ok_int _ rfl _ _ 147 rfl 3 3 .i64 tk Tryz.underlying147 Tryz.underlying3 (hz0 _) B.bm Sn.length D rfl hmp (.int .i64 id) (.int .i64 id) rfl hky ?_;intro cc _ _;rw[hmd])
 clear uk ua hmp hmd
 refine hnode.out.mono ?_
 clear hnode
 rintro e w5 (⟨hok,xr,rfl,hN,k5⟩|⟨hok,rfl,k5⟩)
 ·obtain⟨kdn,sd,ad,ld,cd,ap,np,cp,sk,ak,lk,ck,vr,kka,kkn,kkc⟩:=xr
  obtain rfl:kdn=(ndI s.L id).kind:=hN.kd
  obtain rfl:vr=(ndI s.L id).var:=hN.vr
  obtain rfl:kkn=(ndI s.L id).kids.length:=hN.kids.1.symm
  simp only[nE]
  have b6:=below_alloc w5 (.cells #[.int .i64 (ndI s.L id).kind,.bool sd,.slice ad ld cd,.slice ap np cp,.bool sk,.slice ak lk ck,.int .i64 (ndI s.L id).var,.slice kka (ndI s.L id).kids.length kkc] 69)
  have y6:NB (w5.alloc (.cells #[.int .i64 (ndI s.L id).kind,.bool sd,.slice ad ld cd,.slice ap np cp,.bool sk,.slice ak lk ck,.int .i64 (ndI s.L id).var,.slice kka (ndI s.L id).kids.length kkc] 69)) w5.heap.size (ndI s.L id).kind sd ad ld cd ap np cp sk ak lk ck (ndI s.L id).var kka (ndI s.L id).kids.length kkc:=NB.new w5 _ _ _ _ _ _ _ _ _ _ _ _ _ _ _ _
  have hC6:=hC.below (grow_step b6 k5)
  have hN6:NC (fun b=>w.heap.size≤b∧b<w5.heap.size) (w5.alloc (.cells #[.int .i64 (ndI s.L id).kind,.bool sd,.slice ad ld cd,.slice ap np cp,.bool sk,.slice ak lk ck,.int .i64 (ndI s.L id).var,.slice kka (ndI s.L id).kids.length kkc] 69)) ⟨(ndI s.L id).kind,sd,ad,ld,cd,ap,np,cp,sk,ak,lk,ck,(ndI s.L id).var,kka,(ndI s.L id).kids.length,kkc⟩ (ndI s.L id) 1048576:=hN.move b6.size (fun b _ hl=>b6.block b hl) fun b hb hl=>⟨hb,hl⟩
  have s6:(w5.alloc (.cells #[.int .i64 (ndI s.L id).kind,.bool sd,.slice ad ld cd,.slice ap np cp,.bool sk,.slice ak lk ck,.int .i64 (ndI s.L id).var,.slice kka (ndI s.L id).kids.length kkc] 69)).heap.size=w5.heap.size+1:=by simp
  have k6:=grow_step b6 k5
  have hCpm:=hC.e.g.mb.lt
  have hCF:=hC.e.g.fl
  have hCbm:=hC.bl
  have hCv: ∀b,B.var b→b<w.heap.size:=fun b hb=>hC.b.lt hb
  have hw5:=k5.size
  clear hN hC
  go_wp2_with fail
  clear b6 k5
  generalize w5.alloc (.cells #[.int .i64 (ndI s.L id).kind,.bool sd,.slice ad ld cd,.slice ap np cp,.bool sk,.slice ak lk ck,.int .i64 (ndI s.L id).var,.slice kka (ndI s.L id).kids.length kkc] 69)=w6 at*
  go_loopw [13,43] (fun v q wr=> ∃(t:Nat) (s':St) (F':Nat→Prop) (Sn':List Int) (D':DataW Value) (ks:List Int),t≤(ndI s.L id).kids.length∧q= .int .i64 t∧Hid (CS w0 wI F0 B pa pm (.func (.func KS) rs cs) tf nn kk L0 J wr s' F' Sn' D')∧Hid (KL J B pm w6 s F Sn id wr s' F' Sn' t ks v)) (fun _ q _=>(ndI s.L id).kids.length-(intOf q).toNat)
  case atStart=>exact⟨0,s,F,Sn,D,[],Nat.zero_le _,rfl,hide hC6,hide ⟨⟨[],by simp⟩,trivial,fun k hk=>absurd hk List.not_mem_nil,World.ownsRow_nil _ _ _ _,(fun b hb=>(by cases hb)),fun x hx=> .inl hx,fun b hb=> .inl hb,⟨rfl,rfl,rfl,Nat.le_refl _,fun _ _ _=>rfl⟩,fun _=>rfl,fun h=>h⟩⟩
  case round=>
   obtain⟨t,s',F',Sn',D',ks,ht,rfl,hCr,hLr⟩:=hrel
   have hpl:=hC6.e.g.mb.lt
   have hfr: ∀b,w.heap.size≤b→b<w6.heap.size→wr.heap[b]? =w6.heap[b]?:=fun b h1 h2=>hLr.out.k.block b h2 fun hf=>by
    rcases hf with rfl|hf|rfl
    ·exact absurd hCpm o_m
    ·have:=hCF b hf
     omega
    omega
   have yr:NB wr w5.heap.size (ndI s.L id).kind sd ad ld cd ap np cp sk ak lk ck (ndI s.L id).var kka (ndI s.L id).kids.length kkc:=(hfr _ hw5 o_m).trans y6
   have hNr:NC (fun b=>w.heap.size≤b∧b<w5.heap.size) wr ⟨(ndI s.L id).kind,sd,ad,ld,cd,ap,np,cp,sk,ak,lk,ck,(ndI s.L id).var,kka,(ndI s.L id).kids.length,kkc⟩ (ndI s.L id) 1048576:=hN6.move hLr.out.k.size (fun b hb hl=>hfr b hb.1 hl) fun _ hb _=>hb
   have hsw:=hLr.out.k.size
   obtain⟨a2,c2,rfl⟩:=own_form hLr.out.r
   by_cases htn:t<(ndI s.L id).kids.length
   ·rcases hNr.kids.2 with h0|⟨kb,ko,rfl,hkb,hkc⟩
    ·dsimp only at h0
     omega
    obtain⟨hcz,hIz⟩:=hkc t htn
    have hzk:(ndI s.L id).kids[t]∈(ndI s.L id).kids:=List.getElem_mem _
    have hzw:=hC6.e.v.wk id hok _ hzk
    have htk:Hid ((ndI s.L id).kids.take (t+1)=(ndI s.L id).kids.take t++ [(ndI s.L id).kids[t]]):=hide (List.take_succ_eq_append_getElem htn)
    generalize (ndI s.L id).kids[t]=z at*
    have hcall:=hide (ih.out z hzw.1 hzw.2 ⟨hzw.1,Int.lt_trans hzw.2 ho0.2⟩ (hM.gk id hGi ho0 hsb z (hnS.out▸hzk)) wr s' F' Sn' D' hCr.out)
    have uc:=cell_of_row wr B.bc 0 _ _ (0,0) hCr.out.b.hc
    clear ih hkc
    go_wp2_with fail
    refine hcall.out.mono ?_
    clear hcall
    rintro e w7 ⟨r1,F1,Sn1,D1,rfl,hC1,hK1,hJ1,hs1,hf1,hb1,hE1,-⟩
    have hwz:w.heap.size≤wr.heap.size:=by omega
    have hbw:ButF (fun b=>b=pm∨F b∨b=B.bm) w w7:=by
     have h1:ButF (fun b=>b=pm∨F b∨b=B.bm) w wr:=ButF.trans (butF_below k6) hLr.out.k fun _ _ h=>h
     refine ButF.trans h1 hb1 fun b hb hg=> ?_
     rcases hg with hg|hg|hg
     ·exact .inl hg
     ·exact .inr (.inl ((hLr.out.f b hg).resolve_right (by have:=k6.size;omega)))
     exact .inr (.inr hg)
    have herw:s.er≠0→r1.1.er≠0:=fun h=>hK1.er (hLr.out.er h)
    have hlew: ∃tl,r1.1.L=s.L++tl:=by
     obtain⟨t1,e1⟩:=hLr.out.le
     obtain⟨t2,e2⟩:=hK1.le
     exact⟨t1++t2,by rw[e2,e1,List.append_assoc]⟩
    have hff: ∀b,F1 b→F b∨w6.heap.size≤b:=fun b hb=>(hf1 b hb).elim (hLr.out.f b) fun h=> .inr o_m
    have hss: ∀x∈Sn1,x∈Sn∨x<id:=fun x hx=>(hs1 x hx).elim (hLr.out.sn x) fun h=> .inr o_m
    by_cases he:r1.2.2=0
    ·have hy:=hK1.ok he
     have hJy:=hJ1 he
     rw[he]
     have hyb:=hC1.len.1
     have hk22:(ndI s.L id).kids.length≤2002:=by have h1:=(hC6.e.v.kids hok).1;have h2:=hok.2;omega
     have hyI:I64 r1.2.1:=by have h1:=hy.1;have h2:=hy.2;unfold I64;omega
     generalize r1.2.1=y at*
     have b8:=below_alloc w7 (.cells #[.int .i64 y] 3)
     have hI8:Hid (IL (w7.alloc (.cells #[.int .i64 y] 3)) (some ⟨w7.heap.size,0,none⟩) 1 [y]):=hide (il_one (heap_alloc_new w7 _) hyI)
     have hvb: ∀b,(Value.slice a2 ks.length c2).ownBlock=some b→w6.heap.size≤b∧b<wr.heap.size∧¬F' b:=fun b hb=>⟨(hLr.out.r.lt b hb).1,(hLr.out.r.lt b hb).2,hLr.out.nF b hb⟩
     have hr7:w7.ownsRow w6.heap.size 3 1 (.slice a2 ks.length c2) ks.length (ks.map (Value.int .i64)):=by
      have hr:=hLr.out.r
      refine⟨hr.1,hr.2.imp (fun h=>h) ?_⟩
      rintro⟨g,cap,cur,e1,e2,e3,e4⟩
      have h1:=hvb g (by rw[e1];rfl)
      exact⟨g,cap,cur,e1,e2,(hb1.block g h1.2.1 fun hg=>by rcases hg with rfl|hg|rfl <;> first|omega|exact h1.2.2 hg).trans e3,e4⟩
     have hr8:=hide (own_below hr7 b8)
     have hz8:w6.heap.size≤(w7.alloc (.cells #[.int .i64 y] 3)).heap.size:=by have h1:=b8.size;have h2:=hb1.size;omega
     have hkl:ks.length≤2002:=by
      have h1:=prs_len hLr.out.ps
      rw[List.length_take]at h1
      have h2:=(hC6.e.v.kids hok).1
      have h3:=hok.2
      omega
     have hrel9:Hid (∀v' w9,World.ownsRow w9 w6.heap.size 3 1 v' (ks.length+1) ((ks++ [y]).map (Value.int .i64))→World.grownBy (w7.alloc (.cells #[.int .i64 y] 3)) w9 (Value.slice a2 ks.length c2).ownBlock→(v'.ownBlock=(Value.slice a2 ks.length c2).ownBlock∨v'.ownBlock=some (w7.alloc (.cells #[.int .i64 y] 3)).heap.size)→CS w0 wI F0 B pa pm (.func (.func KS) rs cs) tf nn kk L0 J w9 r1.1 F1 Sn1 D1∧KL J B pm w6 s F Sn id w9 r1.1 F1 Sn1 (t+1) (ks++ [y]) v'):=hide fun v' w9 ho hg ha=>by
      have hg':ButF (fun b=>(Value.slice a2 ks.length c2).ownBlock=some b) (w7.alloc (.cells #[.int .i64 y] 3)) w9:=⟨hg.os,hg.tape,hg.output,hg.size,fun b hb hn=>hg.block b hb fun e=>hn e.symm⟩
      have hnF1: ∀b,(Value.slice a2 ks.length c2).ownBlock=some b→¬F1 b:=fun b hb hf=>by
       have h1:=hvb b hb
       rcases hf1 b hf with h2|h2
       ·exact h1.2.2 h2
       omega
      refine⟨(hC1.below b8).butF hg' (fun b hb _=>⟨hnF1 b hb,?_,?_,?_,?_⟩) (fun b hb=>by have h1:=hvb b hb;have h2:=hC6.x.size;omega),⟨hlew,?_,?_,by rw[List.length_append];exact ho,fun b hb=> ?_,hss,hff,?_,fun e=>by omega,herw⟩⟩
      ·have h1:=hvb b hb;omega
      ·intro hv;have h1:=hvb b hb;have h2:=hCv b hv;omega
      ·have h1:=hvb b hb;omega
      ·have h1:=hvb b hb;have h2:=hC6.e.k.size;omega
      ·rw[htk.out]
       refine prs_snoc hJy (prs_mono (fun a ha b hb hab=> ?_) hLr.out.ps)
       have hka:okI s'.L a:=by
        obtain⟨t1,e1⟩:=hLr.out.le
        rw[e1]
        exact okI_app (hC6.e.v.wk.ok hok (List.mem_of_mem_take ha))
       exact hM.mo _ _ _ _ hCr.out.e.v hC1.e.v hK1.le hka (hLr.out.ok b hb) hab
      ·intro k hk
       rcases List.mem_append.1 hk with hk|hk
       ·exact hK1.okI (hLr.out.ok k hk)
       rw[List.mem_singleton.1 hk]
       exact hy
      ·intro hf
       rcases ha with ha|ha
       ·exact hnF1 b (ha▸hb) hf
       rw[ha]at hb
       cases hb
       have h1:=hC1.e.g.fl _ hf
       have h2:=b8.size
       omega
      have h1:ButF (fun b=>b=pm∨F b∨b=B.bm) w6 w7:=ButF.trans hLr.out.k hb1 fun b hb hg=>by
       rcases hg with hg|hg|hg
       ·exact .inl hg
       ·exact .inr (.inl ((hLr.out.f b hg).resolve_right o_m))
       exact .inr (.inr hg)
      exact ButF.trans (ButF.trans h1 (butF_below (F:=fun _=>False) b8) fun _ _ h=>h.elim) hg' fun b hb hg=>by have h1:=hvb b hg;omega
     clear hr7 b8 hLr hCr hC6 hC1 hK1 hJ1 hs1 hf1 hb1 hbw hlew herw hff hss hNr hN6 hfr
     go_wp2_with(at_builtin;refine app_ii rfl _ _ rfl w6.heap.size _ _ _ rfl hr8.out (some ⟨w7.heap.size,0,none⟩) 1 1 [y] rfl (by decide) hI8.out o_m hz8 ?_;intro v' w9 ho hg ha;have h9:=hide (hrel9.out v' w9 ho hg ha);clear ho hg ha hrel9 hr8 hI8)
     exact⟨⟨t+1,r1.1,F1,Sn1,D1,ks++ [y],by omega,by go_num,hide h9.out.1,hide h9.out.2⟩,by simp[intOf];omega⟩
    have hfin:Hid (CoP w0 wI F0 B pa pm KS rs cs tf nn kk L0 st J FR w s F Sn id (.returned (.tuple #[.int .i64 0,.int .i64 r1.2.2])) w7):=hide ⟨(r1.1,0,r1.2.2),F1,Sn1,D1,rfl,hC1,⟨hlew,hC1.e.v,fun e=>absurd e he,herw⟩,fun e=>absurd e he,fun x hx=>(hss x hx).imp (fun h=>h) (fun h=>by omega),fun b hb=>(hff b hb).imp (fun h=>h) (fun h=>by have:=k6.size;omega),hbw,fun _=>hE1 he,fun hk _ _=>by rw[hk]at htn;simp at htn⟩
    clear hLr hCr hC6 hC1 hK1 hJ1 hs1 hf1 hb1 hbw hlew herw hff hss hNr hN6 hfr
    generalize r1.2.2=er at*
    go_wp2_with fail
    first|refine bodyPost_ret (results_tmp2 rfl _ _ _) rfl ?_|(rw[Exit.noGoto_ret];refine bodyPost_ret (results_tmp2 rfl _ _ _) rfl ?_)
    exact hback.out _ _ hfin.out
   obtain rfl:t=(ndI s.L id).kids.length:=by omega
   have hps:=hLr.out.ps
   rw[List.take_length]at hps
   have hki: ∀x∈ks,I64 x:=fun x hx=>by
    have h1:=hLr.out.ok x hx
    have h2:=hCr.out.len.1
    have h3:=h1.1
    have h4:=h1.2
    unfold I64
    omega
   obtain⟨a3,c3,e3,hIk,-⟩:=row_il hLr.out.r hki
   cases e3
   obtain⟨tl,etl⟩:=hLr.out.le
   have hok':okI s'.L id:=by rw[etl];exact okI_app hok
   have hnd':ndI s'.L id=ndI s.L id:=by rw[etl];exact ndI_app hok
   have hcall:=hM.fn wr s' F' id ⟨(ndI s.L id).kind,sd,ad,ld,cd,ap,np,cp,sk,ak,lk,ck,(ndI s.L id).var,kka,(ndI s.L id).kids.length,kkc⟩ ks a2 c2 hCr.out.e hCr.out.x ho0 hGi hsb hCr.out.l0 (by rw[hnd'];exact NC.any hNr) hIk hLr.out.ok (by rw[hnd'];exact(prs_len hps).symm) (fun b off e h0=>by
    have hob:(Value.slice a2 ks.length c2).ownBlock=some b:=by rw[e];rfl
    have h1:=(hLr.out.r.lt b hob).1
    exact⟨hLr.out.nF b hob,by omega⟩)
   simp only[nE]at hcall
   replace hcall:=hide hcall
   have uf:=cell_of_row wr B.bt 0 _ _ (0,0) hCr.out.b.ht
   have ua:=cell_of_row wr B.ba 0 _ _ (0,0) hCr.out.b.ha
   have g0:=yr.c0
   have g1:=yr.c1
   have g2:=yr.c2
   have g3:=yr.c3
   have g4:=yr.c4
   have g5:=yr.c5
   have g6:=yr.c6
   have g7:=yr.c7
   clear ih hIk hki
   go_wp2_with fail
   refine hcall.out.mono ?_
   clear hcall g0 g1 g2 g3 g4 g5 g6 g7 uf ua
   rintro e w7 ⟨r,hFR,hAO⟩
   have hKr:=hM.kp s' id ks r hFR hCr.out.e.v hok'
   obtain⟨F7,hC7,hf7,hb7⟩:=hCr.out.next hM.mo hAO hKr
   have he7:=hAO.1
   subst he7
   have hbw:ButF (fun b=>b=pm∨F b∨b=B.bm) w w7:=by
    have h1:ButF (fun b=>b=pm∨F b∨b=B.bm) w wr:=ButF.trans (butF_below k6) hLr.out.k fun _ _ h=>h
    refine ButF.trans h1 hb7 fun b hb hg=> ?_
    rcases hg with hg|hg|hg
    ·exact .inl hg
    ·exact .inr (.inl ((hLr.out.f b hg).resolve_right (by have:=k6.size;omega)))
    exact .inr (.inr hg)
   have hKs:Kp kk s r:=by
    obtain⟨t2,e2⟩:=hKr.le
    exact⟨⟨tl++t2,by rw[e2,etl,List.append_assoc]⟩,hKr.gv,hKr.ok,fun h=>hKr.er (hLr.out.er h)⟩
   have hff: ∀b,F7 b→F b∨w.heap.size≤b:=fun b hb=>(hf7 b hb).elim (fun h=>(hLr.out.f b h).imp (fun h=>h) (fun h=>by have:=k6.size;omega)) fun h=> .inr (by have:=k6.size;omega)
   have hEr:r.2.2≠0→r.1.er≠0:=fun he=>hM.er s' id ks r hFR hCr.out.e.v hok' hLr.out.ok (by rw[hnd'];exact(prs_len hps).symm) he
   have hleaf:(ndI s.L id).kids= []→st id=false→id∉Sn→FR s id [] r:=fun hk _ _=>by
    have h1:=hLr.out.z (by rw[hk];rfl)
    rw[hk]at hps
    have h2:=prs_len hps
    have h3:ks= []:=List.eq_nil_of_length_eq_zero (by simpa using h2.symm)
    rw[h1,h3]at hFR
    exact hFR
   have hJr:r.2.2=0→J r.1.L id r.2.1:=fun he=>hM.js s' id ks r hFR hCr.out.e.v hok' (by rw[hnd'];exact hps) hLr.out.ok he
   by_cases he:r.2.2=0
   ·have hy:=hKr.ok he
    have hyl:=hC7.len
    have hyI:I64 r.2.1:=by have h1:=hy.1;have h2:=hy.2;unfold I64;omega
    have hid7:okI r.1.L id:=hKr.okI hok'
    have hnin:id∉Sn':=fun h=>(hLr.out.sn id h).elim hin fun h=>by omega
    have uk7:=cell_of_row w7 B.bk 0 _ _ (0,0) hC7.b.hk
    have hmp7:=hC7.m
    have hml:Sn'.length<maxLen:=by unfold maxLen;omega
    have hput:Hid (∀w8:World,w8.ownsMap Tryz.prog 3 (plainElem Tryz.prog 3) B.bm (Sn'.length+1) (D'.put (.int .i64 id) (.lit (.int .i64 r.2.1)))→w7.grownBy w8 (some B.bm)→CoP w0 wI F0 B pa pm KS rs cs tf nn kk L0 st J FR w s F Sn id (.returned (.tuple #[.int .i64 r.2.1,.int .i64 0])) w8):=hide fun w8 hm8 hg8=>by
     refine⟨r,F7,id::Sn',_,by rw[he],hC7.put hid7 hy (hJr he) hnin hm8 hg8,hKs,hJr,fun x hx=> ?_,hff,?_,hEr,hleaf⟩
     ·rcases List.mem_cons.1 hx with rfl|hx
      ·exact .inr (Int.le_refl _)
      exact(hLr.out.sn x hx).imp (fun h=>h) (fun h=>by omega)
     exact ButF.trans hbw (⟨hg8.os,hg8.tape,hg8.output,hg8.size,fun b hb hn=>hg8.block b hb fun e=>hn (Option.some.inj e)⟩:ButF (fun b=>b=B.bm) w7 w8) fun b _ hb=> .inr (.inr hb)
    rw[he]
    clear hLr hCr hC6 hC7 hKr hf7 hb7 hbw hKs hff hleaf hEr hJr hFR hAO hNr hN6 hfr hps
    generalize r.2.1=y at*
    go_wp2_with(at_mapUpdate;refine wpList_mapUpdate_own _ rfl _ _ _ 147 rfl 3 3 tk Tryz.underlying147 (plainElem Tryz.prog 3) B.bm Sn'.length D' rfl hmp7 hml _ _ (.int .i64 id) rfl rfl hky (.lit (.int .i64 y)) [] (plainElem_int Tryz.underlying3 (i64_wf hyI)) ?_;intro w8 hm8 hg8;have h8:=hide (hput.out w8 hm8 hg8);clear hm8 hg8 hput hmp7)
    refine bodyPost_ret (results_tmp2 rfl _ _ _) rfl ?_
    exact hback.out _ _ h8.out
   have hfin:Hid (CoP w0 wI F0 B pa pm KS rs cs tf nn kk L0 st J FR w s F Sn id (.returned (.tuple #[.int .i64 r.2.1,.int .i64 r.2.2])) w7):=hide ⟨r,F7,Sn',D',rfl,hC7,hKs,hJr,fun x hx=>(hLr.out.sn x hx).imp (fun h=>h) (fun h=>by omega),hff,hbw,hEr,hleaf⟩
   clear hLr hCr hC6 hC7 hKr hf7 hb7 hbw hKs hff hleaf hEr hJr hFR hAO hNr hN6 hfr hps
   generalize r.2.2=er at*
   generalize r.2.1=y at*
   go_wp2_with fail
   refine bodyPost_ret (results_tmp2 rfl _ _ _) rfl ?_
   exact hback.out _ _ hfin.out
 exact absurd hoS hok
theorem come_n {G:Int→Prop}{FR:St→Int→List Int→St × Int × Int→Prop}(hM:Mks w0 wI F0 B pa pm KS rs cs tf nn kk L0 G st J FR): ∀(N:Nat) (id:Int),id<(N:Int)→I64 id→okI L0 id→G id→∀(w:World) (s:St) (F:Nat→Prop) (Sn:List Int) (D:DataW Value),CS w0 wI F0 B pa pm (.func (.func KS) rs cs) tf nn kk L0 J w s F Sn D→
  Calls Tryz.prog 83 #[.int .i64 id,.pointer (some ⟨B.bs,0,none⟩),.pointer (some ⟨B.bk,0,none⟩),.pointer (some ⟨B.ba,0,none⟩),.pointer (some ⟨B.bc,0,none⟩),.pointer (some ⟨B.bt,0,none⟩)] w fun e w'=>CoP w0 wI F0 B pa pm KS rs cs tf nn kk L0 st J FR w s F Sn id e w'
 |0,id,hid,hI,ho,hG=>come_step hM id hI ho hG fun id' h1 h2=>by omega
 |N+1,id,hid,hI,ho,hG=>come_step hM id hI ho hG fun id' h1 h2=>come_n hM N id' o_m (by unfold I64 at*;omega)
end Sb
end Nt
end Go.Proofs.YtbgpddlcfiiiaaaGreatDoor
