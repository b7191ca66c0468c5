/-
 Several texts in one: Pe3,Pe4,Pe5,Pe6.
-/
import Derived.Test.YtaafoppaepcaeaaGreatCdT
import Derived.Test.YtaafoppaepcaeaaGreatCd21
import Derived.Sort.CutIn
set_option maxRecDepth 100000
set_option maxHeartbeats 12800000
namespace Go.Proofs.YtaafoppaepcaeaaGreat
open Go.RowKit Go.Shelf
attribute [local go_sem] Oper.semAt_some
namespace Pd

variable {W W' w:World}{n b p cc:Nat}{ca:Option Addr}
def dwn (cs:List Int):List Int:=cs.reverse.map fun c=>c-1
theorem dwn_len (cs:List Int):(dwn cs).length=cs.length:=by simp[dwn]
theorem dwn_get {cs:List Int}{k:Nat}(hk:k<cs.length)(h:k<(dwn cs).length):(dwn cs)[k]=cs[cs.length-1-k]'o_m-1:=by
 simp[dwn]
theorem bel_put {l:Nat}(o:Obj)(hn:n≤l):Below n W (W.putObj l o):=⟨rfl,rfl,rfl,by simp[World.putObj],fun b hb=>World.putObj_heap_other o_m⟩
theorem own_mv {base:Nat}{e:TypeId}{size:Nat}{v:Value}{xs:List Value}(h:W.ownsRow base e size v n xs)(hb: ∀g,v.ownBlock=some g→W'.heap[g]? =W.heap[g]?):W'.ownsRow base e size v n xs:=by
 refine⟨h.1,h.2.imp id ?_⟩
 rintro⟨g,cap,cur,rfl,h2,h3,h4⟩
 exact⟨g,cap,cur,rfl,h2,(hb g rfl).trans h3,h4⟩
theorem anyG_append {F:Fence}{P:Program}{o:Oper}{a:Act}{K:Act→World→Prop}{Q:Exit→Act→World→Prop}{ys:Nat→Option Bool}(hfn: ∀f,F.fn f)(hgd:o.guard=none)(s x:Operand)(t:TypeId)
  (ho:o.op= .call {callee:=.builtin .append,args:=#[s,x],argTypes:=#[t,t]})(v1 v2:Value)(hs:a.eval s=v1)(hx:a.eval x=v2)(G:Value→World→Prop)
  (hr: ∃v' w',(Builtin.append_ #[t,t] o.type #[v1,v2]).run P w= .ok v' w'∧G v' w')
  (h: ∀v' w',G v' w'→K (a.put o.dst v') w'):if Region.wanted o ys=true then Oper.wpIn F n P o a w K Q else K (a.put o.dst undef) w:=by
 obtain⟨v',w',hr,hG⟩:=hr
 rw[if_pos (by simp[Region.wanted,hgd])]
 refine⟨fun f _=>hfn f,?_⟩
 rw[Oper.semAt_plain F _ _ (by rw[ho];intro c e;cases e)]
 unfold execOp
 simp only[ho,resolve,invoke,builtin,Sem.run_bind,Sem.run_pure,Result.andThen_ok,List.map_toArray,List.map_cons,List.map_nil,hs,hx,hr]
 exact h v' w' hG
theorem u32_grown {w':World}{o:Option Nat}{e:TypeId}(hg:w.grownBy w' o)(ho: ∀g,o=some g→Own w g e)(he:e≠60): ∀g,Own w g 60→w'.heap[g]? =w.heap[g]?:=fun g h=>hg.block g h.lt fun e2=>by
 obtain⟨cur,h2⟩:=h
 exact(ho g e2.symm).ne h2 (fun e3=>he e3.symm) rfl
theorem u32_only {w':World}{cs:Array Value}{t:TypeId}{fr:Nat × Nat}(ho:Only b w w')(hb:w.heap[b]? =some (.cells cs t fr))(ht:t≠60): ∀g,Own w g 60→w'.heap[g]? =w.heap[g]?:=fun g h=>ho.block g (own_u32 h hb ht)
theorem u32_put {l:Nat}{r:Loop}(hl:w.heap[l]? =some (.loop r))(o:Obj): ∀g,Own w g 60→(w.putObj l o).heap[g]? =w.heap[g]?:=fun g h=>World.putObj_heap_other fun e=>by
 obtain⟨cur,h2⟩:=h
 rw[e,hl]at h2
 cases h2
structure BK (w:World) (p b:Nat) (y:ZV) (ca:Option Addr) (n cc:Nat) (r:Loop) (W:World):Prop where
 dn:W.heap[p]? =some (.cells #[.func (.func 122) #[] #[.pointer (some ⟨b,0,none⟩)]] 102 (0,0))
 bx:W.heap[p+1]? =some (.cells #[.slice ca n cc] 23 (0,0))
 yb:ZB W b y.s y.a y.l y.c
 yk:Fresh.Zn 0 W y.s y.a y.l y.c (-1)
 df:W.heap[p+2]? =some (.deferred (some []))
 lp:W.heap[p+3]? =some (.loop r)
 bel:Below w.heap.size w W
theorem BK.mv {y:ZV}{r r':Loop}(hp:w.heap.size<b∧b<p)(h:BK w p b y ca n cc r W)(hs:W.heap.size≤W'.heap.size)(hk: ∀g,g<p+4→g<W.heap.size→g≠p+3→g≠w.heap.size→W'.heap[g]? =W.heap[g]?)(hu: ∀g,Own W g 60→W'.heap[g]? =W.heap[g]?)(hl:W'.heap[p+3]? =some (.loop r'))(hb:Below w.heap.size w W'):BK w p b y ca n cc r' W':=by
 have hlt: ∀{g:Nat}{o:Obj},W.heap[g]? =some o→g<W.heap.size:=fun h=>(Array.getElem?_eq_some_iff.1 h).1
 exact⟨(hk _ o_m (hlt h.dn) o_m o_m).trans h.dn,(hk _ o_m (hlt h.bx) o_m o_m).trans h.bx,(hk _ o_m h.yb.lt o_m o_m).trans h.yb,zn_blk h.yk hs hu,(hk _ o_m (hlt h.df) o_m o_m).trans h.df,hl,hb⟩
theorem BK.below {y:ZV}{r:Loop}(hp:w.heap.size<b∧b<p)(h:BK w p b y ca n cc r W)(kb:Below W.heap.size W W'):BK w p b y ca n cc r W':=
 h.mv hp kb.size (fun g _ hg _ _=>kb.block g hg) (fun g hg=>kb.block g hg.lt) ((kb.block _ (Array.getElem?_eq_some_iff.1 h.lp).1).trans h.lp) (grow_step kb h.bel)
theorem BK.put {y:ZV}{r:Loop}(hp:w.heap.size<b∧b<p)(h:BK w p b y ca n cc r W)(r':Loop):BK w p b y ca n cc r' (W.putObj (p+3) (.loop r')):=
 h.mv hp (by simp[World.putObj]) (fun g _ _ hne _=>World.putObj_heap_other hne) (u32_put h.lp _) (World.putObj_heap_same (Array.getElem?_eq_some_iff.1 h.lp).1) (h.bel.trans (bel_put _ o_m))
theorem BK.grown {y:ZV}{r:Loop}{v:Value}(hp:w.heap.size<b∧b<p)(h:BK w p b y ca n cc r W)(hg:W.grownBy W' v.ownBlock)(hv: ∀g,v.ownBlock=some g→p+4≤g∧Own W g 38):BK w p b y ca n cc r W':=
 have hlt:=(Array.getElem?_eq_some_iff.1 h.lp).1
 h.mv hp hg.size (fun g h1 h2 _ _=>hg.block g h2 fun e=>by have:=(hv g e.symm).1;omega) (u32_grown hg (fun g e=>(hv g e).2) (by decide)) ((hg.block _ hlt fun e=>by have:=(hv _ e.symm).1;omega).trans h.lp) (below_grown h.bel hg (fun g e=>by have:=(hv g e).1;omega) o_m)
theorem BK.only {y:ZV}{r:Loop}{cs:Array Value}{fr:Nat × Nat}(hp:w.heap.size<b∧b<p)(h:BK w p b y ca n cc r W)(ho:Only w.heap.size W W')(hb:W.heap[w.heap.size]? =some (.cells cs 23 fr)):BK w p b y ca n cc r W':=
 h.mv hp (Nat.le_of_eq ho.size.symm) (fun g _ _ _ hne=>ho.block g hne) (u32_only ho hb (by decide)) ((ho.block _ o_m).trans h.lp) (h.bel.trans (ho.below (Nat.le_refl _)))
def BJ (w:World)(p b:Nat)(y:ZV)(ca:Option Addr)(n cc:Nat)(cs:List Int)(r:Loop)(k:Nat)(W:World):Prop:=
 (∃la lc q,W.heap[w.heap.size]? =some (.cells #[.slice la k lc] 23 (0,0))∧W.ownsRow (p+4) 38 2 (.slice la k lc) k (encL ZV.enc q)∧Prg W q ((dwn cs).take k))∧BK w p b y ca n cc r W
theorem below_n {cs:List Int}(hc:CL w ca n cc cs)(hn:n≤1073741823):
  Calls Tryz.prog 78 #[.slice ca n cc] w fun e w'=> ∃a c,e= .returned (.slice a n c)∧SN w' a n (dwn cs)∧Below w.heap.size w w':=by
 have eg: ∀args w,(callFunc 122 args).run Tryz.prog w= .ok (.enter 122 args) w:=enters_of Tryz.func122 k_f rfl
 refine(callsIn_wide (n:=3)).1 ?_
 refine callsIn_of_wp_marks Tryz.func78 rfl trivial ?_ rfl
 simp only[Tryz.ntmps78,List.size_toArray,List.length_cons,List.length_nil,Nat.reduceAdd,Nat.reduceSub,Array.replicate_succ,Array.replicate_zero,List.push_toArray,List.append_toArray,List.nil_append,List.cons_append]
 have b0:=below_alloc w (.cells #[.slice none 0 0] 23)
 have y0:=heap_alloc_new w (.cells #[.slice none 0 0] 23)
 gi_wp2
 refine⟨trivial,(callsIn_wide.2 (cby_g (-1) (by decide) (by decide) _)).mono ?_⟩
 generalize w.alloc (.cells #[.slice none 0 0] 23)=w0 at*
 rintro e w1 ⟨b,y,rfl,hb,hk,hyl,k1,hge⟩
 have hge2:w.heap.size<b:=Nat.lt_of_lt_of_le (Array.getElem?_eq_some_iff.1 y0).1 hge
 have y1:=(k1.block _ (Array.getElem?_eq_some_iff.1 y0).1).trans y0
 have b1:=grow_step k1 b0
 have hbp:b<w1.heap.size:=hb.lt
 have hne:w.heap.size<w1.heap.size:=(Array.getElem?_eq_some_iff.1 y1).1
 clear y0 b0 k1 hge
 gi_wp2
 have b2:=below_alloc w1 (.cells #[.func (.func 122) #[] #[.pointer (some ⟨b,0,none⟩)]] 102)
 have y2:=(b2.block _ (Array.getElem?_eq_some_iff.1 y1).1).trans y1
 have d2:=heap_alloc_new w1 (.cells #[.func (.func 122) #[] #[.pointer (some ⟨b,0,none⟩)]] 102)
 have hb2:=hb.below b2
 have hk2:=hk.below b2
 have b3:=grow_step b2 b1
 have hz2:(w1.alloc (.cells #[.func (.func 122) #[] #[.pointer (some ⟨b,0,none⟩)]] 102)).heap.size=w1.heap.size+1:=by simp
 generalize w1.alloc (.cells #[.func (.func 122) #[] #[.pointer (some ⟨b,0,none⟩)]] 102)=w2 at*
 clear y1 b1 b2 hb hk
 refine⟨trivial,(callsIn_wide.2 (backward_n _ ca n cc)).mono ?_⟩
 rintro e w5 ⟨rfl,rfl⟩
 have b4:=below_alloc w2 (.cells #[.slice ca n cc] 23)
 have y4:=(b4.block _ (Array.getElem?_eq_some_iff.1 y2).1).trans y2
 have d4:=(b4.block _ (Array.getElem?_eq_some_iff.1 d2).1).trans d2
 have x4:=heap_alloc_new w2 (.cells #[.slice ca n cc] 23)
 rw[hz2]at x4 ⊢
 have hb4:=hb2.below b4
 have hk4:=hk2.below b4
 have b5:=grow_step b4 b3
 have hz4:(w2.alloc (.cells #[.slice ca n cc] 23)).heap.size=w1.heap.size+2:=by simp[hz2]
 generalize w2.alloc (.cells #[.slice ca n cc] 23)=w4 at*
 clear y2 d2 hb2 hk2 b3 b4
 generalize w1.heap.size=p at*
 gi_wp2
 refine range_enter rfl (enters_of Tryz.func147 k_f rfl) (fun fn r hr=> ?_)
 have b8:=below_alloc' (below_alloc w4 (.deferred (some []))) (.loop r)
 have hJ0:BJ w p b y ca n cc cs r 0 ((w4.alloc (.deferred (some []))).alloc (.loop r)):=by
  refine⟨⟨none,0,[],(b8.block _ (Array.getElem?_eq_some_iff.1 y4).1).trans y4,World.ownsRow_nil _ _ _ _,by simpa using prg_nil _⟩,(b8.block _ (Array.getElem?_eq_some_iff.1 d4).1).trans d4,(b8.block _ (Array.getElem?_eq_some_iff.1 x4).1).trans x4,hb4.below b8,hk4.below b8,?_,?_,grow_step b8 b5⟩
  ·have h1:=heap_alloc_new w4 (.deferred (some []))
   rw[hz4]at h1
   exact((below_alloc _ (.loop r)).block _ (by simp[hz4])).trans h1
  have h1:=heap_alloc_new (w4.alloc (.deferred (some []))) (.loop r)
  rw[show(w4.alloc (.deferred (some []))).heap.size=p+3 by simp[hz4]]at h1
  exact h1
 rw[hz4]
 generalize (w4.alloc (.deferred (some []))).alloc (.loop r)=W0 at*
 clear y4 d4 x4 hb4 hk4 b5 b8
 have hpp:w.heap.size<b∧b<p:=⟨hge2,hbp⟩
 have hcl:=hc.len
 refine(backward1_any (cs:=cs) (B:=p+1) hn (BJ w p b y ca n cc cs r) (fun k W h=>⟨cell_of_row W (p+1) 0 _ _ (0,0) h.2.bx,hc.below h.2.bel⟩) ?_ hJ0).mono ?_
 ·rintro k W z hkn hkl hJ hz
  suffices key: ∀R:Ending→World→Prop,Hid (∀W',BJ w p b y ca n cc cs r (k+1) W'→R (.returned (.bool true)) W')→YieldAt Fence.wide (3-1-1) Tryz.prog (p+3) #[.int .i64 ((n-1-k:Nat):Int),ZV.val z] W R from key _ (hide fun W' h=>⟨rfl,h⟩)
  intro R hR
  obtain⟨⟨la,lc,q,hs,ho,hq⟩,hB⟩:=hJ
  refine round_at hr hB.lp rfl ?_
  clear hJ0
  gi_wp2
  have ba:=below_alloc W (.cells #[.bool z.s,.slice z.a z.l z.c] 38)
  have hlW:p+3<W.heap.size:=(Array.getElem?_eq_some_iff.1 hB.lp).1
  have hsW:=(Array.getElem?_eq_some_iff.1 hs).1
  have hob0: ∀g,(Value.slice la k lc).ownBlock=some g→p+4≤g∧g<W.heap.size:=fun g e=>⟨(own_blk ho g e).1,(own_blk ho g e).2.lt⟩
  have hBa:=hB.below hpp ba
  have hsa:=(ba.block _ hsW).trans hs
  have hoa:=own_below ho ba
  have hqa:=hq.below ba
  have hza:=hz.below ba
  have yz:=zb_new W z.s z.a z.l z.c
  refine⟨hBa.lp,?_⟩
  have hBc:=hBa.put hpp {r with state:=.busy}
  have hsz:(W.alloc (.cells #[.bool z.s,.slice z.a z.l z.c] 38)).heap.size≤((W.alloc (.cells #[.bool z.s,.slice z.a z.l z.c] 38)).putObj (p+3) (.loop {r with state:=.busy})).heap.size:=by simp[World.putObj]
  have hu:=u32_put hBa.lp (.loop {r with state:=.busy})
  have yc:ZB ((W.alloc (.cells #[.bool z.s,.slice z.a z.l z.c] 38)).putObj (p+3) (.loop {r with state:=.busy})) W.heap.size z.s z.a z.l z.c:=(World.putObj_heap_other o_m).trans yz
  have hzc:Zf _ z cs[n-1-k]:=⟨zn_blk hza.zn hsz hu,hza.le⟩
  have hqc:=hqa.blk hsz hu
  have hsc:=(World.putObj_heap_other (r:=p+3) (o:=.loop {r with state:=.busy}) o_m).trans hsa
  have hoc:=own_mv (W':=(W.alloc (.cells #[.bool z.s,.slice z.a z.l z.c] 38)).putObj (p+3) (.loop {r with state:=.busy})) hoa fun g e=>World.putObj_heap_other (by have:=(hob0 g e).1;omega)
  generalize (W.alloc (.cells #[.bool z.s,.slice z.a z.l z.c] 38)).putObj (p+3) (.loop {r with state:=.busy})=Wc at*
  have hsz4:p+4≤Wc.heap.size:=by have:=yc.lt;omega
  clear ba hBa hza yz hB hz hqa hsa hoa hq hs ho hsz hu hsW
  obtain⟨bz,hbz⟩: ∃bz,W.heap.size=bz:=⟨_,rfl⟩
  rw[hbz]at yc hlW hob0 ⊢
  clear hbz
  have hdk:(dwn cs).take (k+1)=(dwn cs).take k++ [cs[n-1-k]+ -1]:=by
   have hkd:k<(dwn cs).length:=by rw[dwn_len];omega
   rw[List.take_succ_eq_append_getElem hkd,dwn_get o_m]
   simp only[hcl]
   rfl
  gi_upto_region 5 with(fail)
  refine region_G (S:=(fun w'=>w'.cell? ⟨p,0,none⟩=some (.func (.func 122) #[] #[.pointer (some ⟨b,0,none⟩)])∧w'.cell? ⟨bz,0,none⟩=some (.bool z.s)∧w'.cell? ⟨bz,1,none⟩=some (.slice z.a z.l z.c))) k_f (fun _=>trivial) (by decide+kernel) (⟨cell_of_row _ p 0 _ _ (0,0) (hBc.below hpp (grow_drew (Below.refl _ _))).dn,(yc.below (grow_drew (Below.refl _ _))).c0,(yc.below (grow_drew (Below.refl _ _))).c1⟩) (fun hHeld=> ?_)
  show anyG _ _ _ _ _ _ _ 7 _ _ _
  have kW:=grow_drew (Below.refl Wc.heap.size Wc)
  have hBW:=hBc.below hpp kW
  have yW:=yc.below kW
  have hzW:=hzc.below kW
  have sW:=(kW.block _ (Array.getElem?_eq_some_iff.1 hsc).1).trans hsc
  have oW:=own_below hoc kW
  have qW:=hqc.below kW
  clear hBc yc hzc hsc hoc hqc
  generalize Wc.drew=wQ at*
  have c0W:=cell_of_row _ p 0 _ _ (0,0) hBW.dn
  have c1W:=yW.c0
  have c2W:=yW.c1
  repeat' first
   |with_reducible exact ReadyG.nil
   |(
    refine anyG_take (i:=1) (oi:=⟨some 13,_,_,_,_,_⟩) (v:=?_) rfl (by decide+kernel) (by decide+kernel) (by decide+kernel) (fun _ _ _ h=>h) (Or.inl ⟨by rfl,?_⟩) (by assumption) ?_
    rotate_left
    ·intro wq hSw;(try dsimp only at hSw);go_simp;(try with_reducible rfl)
    (try simp only[pz]))
   |(
    refine anyG_take (i:=2) (oi:=⟨some 14,_,_,_,_,_⟩) (v:=?_) rfl (by decide+kernel) (by decide+kernel) (by decide+kernel) (fun _ _ _ h=>h) (Or.inl ⟨by rfl,?_⟩) (by assumption) ?_
    rotate_left
    ·intro wq hSw;(try dsimp only at hSw);go_simp;(try with_reducible rfl)
    (try simp only[pz]))
   |(refine anyG_ready (rs:=[0,3]) ?_ ?_ ?_;decide+kernel;simp)
   |(refine anyG_ready (rs:=[3]) ?_ ?_ ?_;decide+kernel;simp)
   |(refine anyG_ready (rs:=[4]) ?_ ?_ ?_;decide+kernel;simp)
   |(refine anyG_ready (rs:=[5]) ?_ ?_ ?_;decide+kernel;simp)
   |(refine anyG_ready (rs:=[6]) ?_ ?_ ?_;decide+kernel;simp)
   |(refine anyG_ready (rs:=[0,4]) ?_ ?_ ?_;decide+kernel;simp)
   |(refine anyG_ready (rs:=[0]) ?_ ?_ ?_;decide+kernel;simp)
   |(
    first
     |(
      refine ReadyG.cons (i:=0) (o:=⟨some 12,_,_,_,_,_⟩) (by decide+kernel) rfl (fun K hK=> ?_) ?_
      have f0:=cell_of_row _ w.heap.size 0 _ _ (0,0) sW
      go_simp)
     |(
      refine ReadyG.cons (i:=3) (o:=⟨some 15,_,_,_,_,_⟩) (by decide+kernel) rfl (fun K hK=> ?_) ?_
      go_simp
      refine⟨trivial,CallsIn.inRound _ ((callsIn_wide.2 (cby1_f (z:=z) (y:=y) hBW.yb hzW.zm hBW.yk.zn.zm hzW.len o_m)).mono ?_)⟩
      rintro e w3 ⟨s2,a2,l2,c2,rfl,hz2,k3,hl2⟩
      have hy2:Zg w3 ⟨s2,a2,l2,c2⟩ _:=⟨hz2,by show l2≤_;have:=hzW.le;omega⟩
      clear hz2
      have hBW:=hBW.below hpp k3
      have sW:=(k3.block _ (Array.getElem?_eq_some_iff.1 sW).1).trans sW
      have oW:=own_below oW k3
      have qW:=qW.below k3
      have yW:=yW.below k3
      have hzW:=hzW.below k3
      try have hy2:=hy2.below k3
      try have cN:=cN.below k3
      have kW:=grow_step k3 kW
      try gi_wp2)
     |(
      refine ReadyG.cons (i:=4) (o:=⟨some 16,_,_,_,_,_⟩) (by decide+kernel) rfl (fun K hK=> ?_) ?_
      obtain⟨wL,b6,eL,eb6,cN,hb6,kL,-⟩:=al_b kW (.cells #[.bool s2,.slice a2 l2 c2] 38)
      replace cN:ZB wL b6 s2 a2 l2 c2:=cN
      have hBW:=hBW.below hpp kL
      have sW:=(kL.block _ (Array.getElem?_eq_some_iff.1 sW).1).trans sW
      have oW:=own_below oW kL
      have qW:=qW.below kL
      have yW:=yW.below kL
      have hzW:=hzW.below kL
      try have hy2:=hy2.below kL
      have kW:=grow_step kL kW
      go_simp
      rw[eL.out]
      (try simp only[eb6.out]))
     |(
      refine ReadyG.cons (i:=5) (o:=⟨some 17,_,_,_,_,_⟩) (by decide+kernel) rfl (fun K hK=> ?_) ?_
      refine anyG_append (fun _=>trivial) rfl _ _ 23 rfl _ _ rfl rfl _ (runI oW ⟨s2,a2,l2,c2⟩ b6 1 cN o_m (Nat.le_trans hsz4 kW.size) _) ?_
      rintro v7 w7 ⟨o7,g7,-⟩
      have hob:=own_blk oW
      have qW:=(qW.app (prg_one hy2)).blk g7.size (u32_grown g7 (fun g e=>(hob g e).2) (by decide))
      have hBW:=hBW.grown hpp g7 hob
      have sW:=(g7.block _ (Array.getElem?_eq_some_iff.1 sW).1 fun e=>by have:=(hob _ e.symm).1;omega).trans sW
      have yW:ZB w7 bz z.s z.a z.l z.c:=(g7.block _ yW.lt fun e=>by have:=(hob0 _ e.symm).2;omega).trans yW
      obtain⟨-,la7,lc7,rfl,-⟩:=own_any (by decide) zv_len o7
      clear hob g7 cN hy2 hzW oW kW)
     |(
      refine ReadyG.cons (i:=6) (o:=⟨none,_,_,_,_,_⟩) (by decide+kernel) rfl (fun K hK=> ?_) ?_
      have f0:=cell_of_row _ w.heap.size 0 _ _ (0,0) sW
      have f1:=frozen_of_row _ w.heap.size 0 _ _ sW
      go_simp
      have oS:=Only.set w.heap.size 0 w7 (.slice la7 (k+1) lc7)
      have hs8:=heap_setCell_same w7 w.heap.size 0 _ 23 (.slice la7 (k+1) lc7) sW
      have qW:=qW.blk (Nat.le_of_eq oS.size.symm) (u32_only oS sW (by decide))
      have hBW:=hBW.only hpp oS sW
      have yW:=yW.only oS o_m
      have o7:=own_only o7 oS (fun g e=>(own_blk o7 g e).2.ne sW (by decide))
      clear sW oS f0 f1)
    refine hK.out _ _ ?_ ?_
    ·first|with_reducible exact trivial|((try dsimp only);exact⟨cell_of_row _ p 0 _ _ (0,0) hBW.dn,yW.c0,yW.c1⟩)
    clear hK K hHeld;intro hHeld
    (try simp only[pz]))
  all_goals
   refine anyG_done ?_ ?_ _
   ·decide+kernel
   have hfin:=hBW.put hpp {r with state:=.ready,pending:=none}
   have ho9:=own_mv (W':=(w7.setCell ⟨w.heap.size,0,none⟩ (.slice la7 (k+1) lc7)).putObj (p+3) (.loop {r with state:=.ready,pending:=none})) o7 fun g e=>World.putObj_heap_other (by have:=(own_blk o7 g e).1;omega)
   have hq9:=qW.blk (w':=(w7.setCell ⟨w.heap.size,0,none⟩ (.slice la7 (k+1) lc7)).putObj (p+3) (.loop {r with state:=.ready,pending:=none})) (by simp[World.putObj]) (u32_put hBW.lp _)
   have hs9:=(World.putObj_heap_other (r:=p+3) (o:=.loop {r with state:=.ready,pending:=none}) o_m).trans hs8
   rw[←hdk]at hq9
   refine⟨hBW.lp,hR.out _ ?_⟩
   rw[lrec_again hr]at hfin ho9 hq9 hs9 ⊢
   exact⟨⟨la7,lc7,_,hs9,ho9,hq9⟩,hfin⟩
 rintro e W' ⟨hret,hJ⟩
 obtain⟨⟨la,lc,q,hs,ho,hq⟩,hB⟩:=hJ
 refine⟨hret,.inl ⟨hB.lp,?_⟩⟩
 have hJ2:=hB.put hpp {r with state:=.exhausted}
 have hsW:=(Array.getElem?_eq_some_iff.1 hB.lp).1
 have h1:=(World.putObj_heap_other (r:=p+3) (o:=.loop {r with state:=.exhausted}) o_m).trans hs
 have h2:=own_mv (W':=W'.putObj (p+3) (.loop {r with state:=.exhausted})) ho fun g e=>World.putObj_heap_other (by have:=(own_blk ho g e).1;omega)
 have h3:=hq.blk (w':=W'.putObj (p+3) (.loop {r with state:=.exhausted})) (by simp[World.putObj]) (u32_put hB.lp _)
 clear hJ0 hs ho hq hB
 generalize W'.putObj (p+3) (.loop {r with state:=.exhausted})=Wf at*
 have c0:=cell_of_row Wf w.heap.size 0 _ _ (0,0) h1
 have hdf:=hJ2.df
 have hbel:=hJ2.bel
 gi_wp2
 have hbl:p+2<Wf.heap.size:=(Array.getElem?_eq_some_iff.1 hdf).1
 have hu: ∀g,Own Wf g 60→(Wf.putObj (p+2) (.deferred none)).heap[g]? =Wf.heap[g]?:=fun g h=>World.putObj_heap_other fun e=>by
  obtain⟨cur,h2⟩:=h
  rw[e,hdf]at h2
  cases h2
 have h4:=own_mv (W':=Wf.putObj (p+2) (.deferred none)) h2 fun g e=>World.putObj_heap_other (by have:=(own_blk h2 g e).1;omega)
 have h5:=h3.blk (w':=Wf.putObj (p+2) (.deferred none)) (by simp[World.putObj]) hu
 rw[List.take_of_length_le (by rw[dwn_len];omega)]at h5
 obtain⟨a',c',e',hsn⟩:=sn_own h4 h5
 cases e'
 refine⟨by simp,.inl ⟨_,_,rfl,run_takeDeferred hdf,?_⟩⟩
 exact⟨_,results_tmp rfl _ _ _,_,⟨_,rfl⟩,hsn,hbel.trans (bel_put _ o_m)⟩
end Pd
end Go.Proofs.YtaafoppaepcaeaaGreat

namespace Go.Proofs.YtaafoppaepcaeaaGreat
open Go.RowKit Go.Sort
namespace Pd

theorem cgap_d {w:World}{z1 z2:ZV}{x1 x2:Int}(h1:Zm w z1.s z1.a z1.l z1.c x1)(h2:Zm w z2.s z2.a z2.l z2.c x2)(hl1:z1.l≤1099511627776)(hl2:z2.l≤1099511627776):
  Calls Tryz.prog 76 (#[.agg #[.bool z1.s,.slice z1.a z1.l z1.c],.agg #[.bool z2.s,.slice z2.a z2.l z2.c]]++ #[]) w fun e w'=> ∃s' a' l' c',e= .returned (.agg #[.bool s',.slice a' l' c'])∧Zn w' s' a' l' c' (-1*(x2-x1))∧Below w.heap.size w w'∧l'≤max z1.l z2.l+1:=by
 show Calls Tryz.prog 76 #[.agg #[.bool z1.s,.slice z1.a z1.l z1.c],.agg #[.bool z2.s,.slice z2.a z2.l z2.c]] w _
 refine(zsub_n h1 h2 hl1 hl2).mono ?_
 rintro e w' ⟨s',a',l',c',h1,h2,h3,h4⟩
 exact⟨s',a',l',c',h1,by rwa [show x1-x2= -1*(x2-x1)by omega]at h2,h3,h4⟩
theorem last_n {w:World}{bS LL:Nat}{D:PD}{z:ZV}{x:Int}(hS:PS w bS D)(hf:D.cs.length≤1073741823)(hz:Zm w z.s z.a z.l z.c x)(hl:z.l≤LL)(hLL:8589934592≤LL)(hLL2:LL≤17179869184):
  Calls Tryz.prog 26 #[.pointer (some ⟨bS,0,none⟩),.agg #[.bool z.s,.slice z.a z.l z.c]] w fun e w'=>Below w.heap.size w w'∧Nst w' e (mem D) x (-1) (LL+8192):=by
 have hcf: ∀(args:Array Value) (u:World),(callFunc 76 args).run Tryz.prog u= .ok (.enter 76 args) u:=enters_of Tryz.func76 k_f rfl
 have b1:=below_alloc w (.cells #[.bool z.s,.slice z.a z.l z.c] 38)
 have b2:=below_alloc (w.alloc (.cells #[.bool z.s,.slice z.a z.l z.c] 38)) (.cells #[.bool false,.slice none 0 0] 38)
 have y1:=(zb_new w z.s z.a z.l z.c).below b2
 have y2:=zb_new (w.alloc (.cells #[.bool z.s,.slice z.a z.l z.c] 38)) false none 0 0
 rw[show(w.alloc (.cells #[.bool z.s,.slice z.a z.l z.c] 38)).heap.size=w.heap.size+1 by simp]at y2
 have k0:=hide (grow_step b2 b1)
 have hz0:=hide (hz.below k0.out)
 have hup:=hS.wf.up
 have hdl:=dwn_len D.cs
 have hsg:Hid (Sg (fun u=>mem D (-1*u)) D.p ((dwn D.cs).map fun s=> -1*s)):=hide fun u h=>by
  have:=sg_down (D:=D) u fun s hs h2=>by
   obtain⟨c,hc,rfl⟩:=List.mem_map.1 hs
   exact h (1-c) (List.mem_map.2 ⟨c-1,by unfold dwn;exact List.mem_map.2 ⟨c,List.mem_reverse.2 hc,rfl⟩,by omega⟩) h2
  show mem D (-1*(u+D.p))=mem D (-1*u)
  rw[Int.neg_one_mul,Int.neg_one_mul]
  exact this
 have hupi:Hid (∀i j (hi:i<(dwn D.cs).length) (hj:j<(dwn D.cs).length),i<j→-1*(dwn D.cs)[i]< -1*(dwn D.cs)[j]):=hide fun i j hi hj hij=>by
  rw[dwn_get o_m hi,dwn_get o_m hj]
  have:=List.pairwise_iff_getElem.1 hup (D.cs.length-1-j) (D.cs.length-1-i) o_m o_m o_m
  omega
 replace hS:=hide (hS.below k0.out)
 replace y2:=hide y2
 replace y1:=hide y1
 clear b1 b2 hz hup
 go_enter Tryz.func26,Tryz.ntmps26
 go_upto_region 1 with(fail)
 generalize (w.alloc (.cells #[.bool z.s,.slice z.a z.l z.c] 38)).alloc (.cells #[.bool false,.slice none 0 0] 38)=w0 at*
 obtain⟨bx,hbx⟩: ∃bx,w.heap.size=bx:=⟨_,rfl⟩
 rw[hbx]at y1 y2 ⊢
 have hbw:Hid (w.heap.size=bx):=hide hbx
 have hbl:=y2.out.lt
 have hbl2:=y1.out.lt
 clear hbx
 refine wp_region_held_drew (S:=(fun w'=>w'.cell? ⟨bx,0,none⟩=some (.bool z.s)∧w'.cell? ⟨bx,1,none⟩=some (.slice z.a z.l z.c))) k_f (⟨(y1.out.below (grow_drew (Below.refl _ _))).c0,(y1.out.below (grow_drew (Below.refl _ _))).c1⟩) (fun hHeld=> ?_)
 show wpAnyH _ _ _ _ _ 11 _ _ _
 have kW:=grow_drew (Below.refl w0.heap.size w0)
 generalize w0.drew=wQ at*
 have c0W:=(y1.out.below kW).c0
 have c1W:=(y1.out.below kW).c1
 refine tkz 0 6 ?_
 (try simp only[pz])
 refine tkz 1 7 ?_
 (try simp only[pz])
 refine tkz 2 8 ?_
 (try simp only[pz])
 refine ryz 3 (some 9) (fun K hK=> ?_) AllReadyH.nil
 go_simp
 go_at_call 35;refine Calls.mono (cuts_n (hS.out.below kW) hf) ?_;rintro e wC ⟨ca,cc,rfl,hcl,kC,-⟩
 have kW:=grow_step kC kW
 have c0W:=(y1.out.below kW).c0
 have c1W:=(y1.out.below kW).c1
 try go_wp2_with fail
 refine hK.out _ _ ?_ ?_
 ·first|with_reducible exact trivial|((try dsimp only);exact⟨c0W,c1W⟩)
 clear hK K hHeld;intro hHeld
 (try simp only[pz])
 refine ryz 4 (some 10) (fun K hK=> ?_) AllReadyH.nil
 go_simp
 go_at_call 78;refine Calls.mono (below_n hcl hf) ?_;rintro e wD ⟨da,dc,rfl,hdn,kD⟩
 have kW:=grow_step kD kW
 have c0W:=(y1.out.below kW).c0
 have c1W:=(y1.out.below kW).c1
 try go_wp2_with fail
 refine hK.out _ _ ?_ ?_
 ·first|with_reducible exact trivial|((try dsimp only);exact⟨c0W,c1W⟩)
 clear hK K hHeld;intro hHeld
 (try simp only[pz])
 refine ryz 5 (some 11) (fun K hK=> ?_) AllReadyH.nil
 go_simp
 go_at_call 74;refine Calls.mono (cby_n (-1) (by decide) (by decide) _) ?_;rintro e wB ⟨bb,yb,rfl,hbb,hkb,hlb,kB⟩;have hdn:=hdn.below kB
 have kW:=grow_step kB kW
 have c0W:=(y1.out.below kW).c0
 have c1W:=(y1.out.below kW).c1
 try go_wp2_with fail
 refine hK.out _ _ ?_ ?_
 ·first|with_reducible exact trivial|((try dsimp only);exact⟨c0W,c1W⟩)
 clear hK K hHeld;intro hHeld
 (try simp only[pz])
 refine ryz 6 (some 12) (fun K hK=> ?_) AllReadyH.nil
 go_simp
 go_at_call 73;refine Calls.mono (nearest_n (z:=z) (y:=yb) (hS.out.below kW) hf (hz0.out.below kW) hl hLL hLL2 hbb hkb hlb (.inr rfl) hdn hf hsg.out hupi.out cgap_d hcf) ?_;rintro e wN ⟨kN,hN⟩;obtain⟨zj,bj,rfl,hF⟩:=nst_one hN
 have kW:=grow_step kN kW
 have c0W:=(y1.out.below kW).c0
 have c1W:=(y1.out.below kW).c1
 try go_wp2_with fail
 refine hK.out _ _ ?_ ?_
 ·first|with_reducible exact trivial|((try dsimp only);exact⟨c0W,c1W⟩)
 clear hK K hHeld;intro hHeld
 (try simp only[pz])
 refine tkz 7 13 ?_
 (try simp only[pz])
 refine tkz 8 14 ?_
 (try simp only[pz])
 refine ryz 9 none (fun K hK=> ?_) AllReadyH.nil
 have yrW:=y2.out.below kW
 have f0:=yrW.c0
 have f1:=yrW.c1
 have f2:=yrW.f 0
 have f3:=yrW.f 1
 have hF:=hF _ (fun _ _ _ _ _ hz=>zb_zn yrW hz zj.s zj.a zj.l zj.c)
 have hfin:=zb_fin yrW zj.s zj.a zj.l zj.c
 have yxW:=((y1.out.below kW)).only (only2 (bx+1) _ (.bool zj.s) (.slice zj.a zj.l zj.c)) o_m
 have c0W:=yxW.c0
 have c1W:=yxW.c1
 have kf:=((grow_step kW k0.out).setCell (p:=⟨bx+1,0,none⟩) (show w.heap.size≤bx+1 by have:=hbw.out;omega) (.bool zj.s)).setCell (p:=⟨bx+1,1,none⟩) (show w.heap.size≤bx+1 by have:=hbw.out;omega) (.slice zj.a zj.l zj.c)
 go_simp
 clear f0 f1 f2 f3
 refine hK.out _ _ ?_ ?_
 ·first|with_reducible exact trivial|((try dsimp only);exact⟨c0W,c1W⟩)
 clear hK K hHeld;intro hHeld
 (try simp only[pz])
 refine ryz 10 (some 5) (fun K hK=> ?_) AllReadyH.nil
 go_simp
 refine hK.out _ _ ?_ ?_
 ·first|with_reducible exact trivial|((try dsimp only);exact⟨c0W,c1W⟩)
 clear hK K hHeld;intro hHeld
 (try simp only[pz])
 refine wpAnyH_done ?_ ?_ _
 ·decide+kernel
 replace kf:=hide kf
 replace hF:=hide hF
 replace hfin:=hide hfin
 clear kW hHeld yrW yxW c0W c1W
 go_wp2
 refine bodyPost_ret (results_ct rfl _ _ (bx+1) 38 _ (0,0) _ rfl hfin.out Tryz.underlying38 rfl k_f) rfl ?_
 exact⟨kf.out,hF.out _ (by simp)⟩
end Pd
end Go.Proofs.YtaafoppaepcaeaaGreat

namespace Go.Proofs.YtaafoppaepcaeaaGreat
open Go.RowKit Go.Shelf
namespace Pd

variable {F:Nat→Prop}{w w':World}
structure PcK (W:World) (D:PD) (p:PcV) (x n:Int):Prop where
 f:Zm W p.f.s p.f.a p.f.l p.f.c x
 fl:p.f.l≤17179869184
 per:p.per=D.p
 inn: ∃m:Nat,(m:Int)=(if n<(D.p:Int)then n else D.p)∧p.il=(plL (mem D) x m).length∧NLs W p.ia p.il (plL (mem D) x m)
 cap:p.il≤p.ic∧p.ic≤9223372036854775807
 h:Zn W p.h.s p.h.a p.h.l p.h.c (n / D.p)
 hl:p.h.l≤17179869200
 r:(p.r:Int)=n%D.p
structure Kb (F:Nat→Prop) (w w':World):Prop where
 size:w.heap.size≤w'.heap.size
 block: ∀k,k<w.heap.size→¬F k→w'.heap[k]? =w.heap[k]?
theorem Kb.u32 (h:Kb F w w')(hF: ∀b,F b→¬Own w b 60): ∀g,Own w g 60→w'.heap[g]? =w.heap[g]?:=fun g hg=>h.block g hg.lt fun e=>hF g e hg
theorem Kb.zb {b:Nat}{s:Bool}{a:Option Addr}{l c:Nat}(h:Kb F w w')(y:ZB w b s a l c)(hb: ¬F b):ZB w' b s a l c:=(h.block b y.lt hb).trans y
theorem Ze.kb {w0:World}{z:ZV}{x:Int}(hz:Ze w0 w z x)(h:Kb F w w')(hF: ∀b,F b→¬Own w b 60):Ze w0 w' z x:=hz.imp id fun hz=>zn_blk hz h.size (h.u32 hF)
theorem CL.kb {ca:Option Addr}{n c:Nat}{cs:List Int}(hc:CL w ca n c cs)(h:Kb F w w')(hF: ∀b,F b→¬Own w b 60)(hb:0<n→∀g off,ca=some ⟨g,off,none⟩→¬F g):CL w' ca n c cs:=by
 refine⟨hc.len,hc.cap,?_⟩
 by_cases h0:n=0
 ·exact .inl h0
 obtain h1|⟨b,off,e,hbl,q,hq,hcell⟩:=hc.at'
 ·exact .inl h1
 have hk:=h.block b hbl (hb o_m b off e)
 exact .inr ⟨b,off,e,Nat.lt_of_lt_of_le hbl h.size,q,⟨hq.len,fun i h1 h2=>⟨zn_blk (hq.nu i h1 h2).zn h.size (h.u32 hF),(hq.nu i h1 h2).le⟩⟩,fun i hi=>⟨(World.cell?_of_block hk).trans (hcell i hi).1,(World.cell?_of_block hk).trans (hcell i hi).2⟩⟩
structure BxK (w0:World) (bS hiB loB sB:Nat) (zl zh:ZV) (W:World):Prop where
 bel:Below w0.heap.size w0 W
 s:W.heap[sB]? =some (.cells #[.pointer (some ⟨bS,0,none⟩)] 25 (0,0))
 lo:ZB W loB zl.s zl.a zl.l zl.c
 hi:ZB W hiB zh.s zh.a zh.l zh.c
def pcA (cs:List Int)(lo hi:Int):List (Int × Int):=if hi<lo then []else pcs hi cs lo
theorem pcs_end {hi f:Int}{cs:List Int}{k:Nat}(h:cs.length≤k):pcs hi (cs.drop k) f= [(f,hi+1-f)]:=by
 rw[List.drop_of_length_le h]
 rfl
theorem piece_k {bS:Nat}{D:PD}{z1 z2:ZV}{x n:Int}(hS:PS w bS D)(hf:D.cs.length≤1073741823)(hx:Zm w z1.s z1.a z1.l z1.c x)(hl1:z1.l≤17179869184)(hn:Zm w z2.s z2.a z2.l z2.c n)(hl2:z2.l≤17179869184)(h0:0≤n):
  Calls Tryz.prog 108 #[.pointer (some ⟨bS,0,none⟩),.agg #[.bool z1.s,.slice z1.a z1.l z1.c],.agg #[.bool z2.s,.slice z2.a z2.l z2.c]] w fun e w'=> ∃p:PcV,e= .returned p.val∧PcK w' D p x n∧p.f.l=z1.l∧Below w.heap.size w w':=
 (pieceOf_n hS hf hx hl1 hn hl2 h0).mono fun e w' ⟨k,p,m,e1,e2,e3,e4,e5,e10,e6,e7,e8,e9⟩=>⟨p,e1,⟨by rw[e2];exact hx.below k,by rw[e2];exact hl1,e3,⟨m,e4,e5,e6⟩,e10,e7,by omega,e9⟩,by rw[e2],k⟩
theorem yes_no {en:Ending}{A B:Prop}(h:(en= .returned (.bool true)∧A)∨(en= .returned (.bool false)∧B)): ∃b:Bool,en= .returned (.bool b)∧(b=true→A)∧(b=false→B):=by
 rcases h with⟨h1,h2⟩|⟨h1,h2⟩
 ·exact⟨true,h1,fun _=>h2,fun e=>by cases e⟩
 exact⟨false,h1,fun e=>(by cases e),fun _=>h2⟩
theorem cmpI_lt (a b:Int):(cmpI a b<0↔a<b)∧(cmpI a b≤0↔a≤b)∧(0<cmpI a b↔b<a):=by
 unfold cmpI
 split
 ·omega
 split <;> omega
theorem pieces1_any {w0:World}{bS sB loB hiB l m L:Nat}{D:PD}{zl zh:ZV}{lo hi:Int}(hS:PS w0 bS D)(hf:D.cs.length≤1073741823)(hlo:Zm w0 zl.s zl.a zl.l zl.c lo)(hll:zl.l≤L)(hL1:1073741824≤L)(hL2:L≤17179860000)(hhi:Zm w0 zh.s zh.a zh.l zh.c hi)(hhl:zh.l≤17179860000)
  (J:(Nat→Prop)→List (Int × Int)→World→Prop)(Jx:World→Prop)
  (hJ: ∀F pre W,J F pre W→BxK w0 bS hiB loB sB zl zh W∧¬F sB∧¬F loB∧¬F hiB∧∀b,F b→b<W.heap.size∧¬Own W b 60)
  (hSt: ∀F pre W W',J F pre W→Below W.heap.size W W'→J F pre W')
  (hSo: ∀F pre W W' bf,J F pre W→w.heap.size≤bf→¬F bf→(∃s a l c,ZB W bf s a l c)→Only bf W W'→J F pre W')
  (hY: ∀F pre x n p W,J F pre W→lo≤hi→(∃suf,pre++(x,n)::suf=pcs hi D.cs lo)→PcK W D p x n→p.f.l≤L→YieldAt Fence.wide (m-1) Tryz.prog l #[p.val] W fun e W'=>Kb F W W'∧((e= .returned (.bool true)∧∃F',J F' (pre++ [(x,n)]) W'∧∀b,F' b→F b∨W.heap.size≤b)∨(e= .returned (.bool false)∧Jx W')))
  (F0:Nat→Prop)(h0:J F0 [] w):
  CallsIn Fence.wide m Tryz.prog 107 #[.func (.yield l) #[] #[],.pointer (some ⟨hiB,0,none⟩),.pointer (some ⟨loB,0,none⟩),.pointer (some ⟨sB,0,none⟩)] w fun e W'=>(∃v,e= .returned v)∧((∃F,J F (pcA D.cs lo hi) W')∨Jx W'):=by
 obtain⟨hX,-,-,-,hFl⟩:=hJ _ _ _ h0
 have e0:=hX.hi.c0
 have e1:=hX.hi.c1
 have e2:=hX.lo.c0
 have e3:=hX.lo.c1
 have hcm:=hide (zcmp_n (hhi.below hX.bel) (hlo.below hX.bel) o_m o_m)
 refine callsIn_of_wp Tryz.func107 rfl trivial ?_ rfl
 simp only[Tryz.ntmps107,List.size_toArray,List.length_cons,List.length_nil,Nat.reduceAdd,Nat.reduceSub,Array.replicate_succ,Array.replicate_zero,List.push_toArray,List.append_toArray,List.nil_append,List.cons_append]
 gi_wp2
 refine⟨trivial,fun h=>absurd h (by decide),(callsIn_wide.2 hcm.out).mono ?_⟩
 clear hcm e0 e1 e2 e3
 rintro e w1 ⟨rfl,k1⟩
 have hJ1:=hSt _ _ _ _ h0 k1
 have hX1:=(hJ _ _ _ hJ1).1
 have hc1:=cmpI_lt hi lo
 generalize cmpI hi lo=v at*
 by_cases hlt:hi<lo
 ·have hv:decide (v<0)=true:=by rw[decide_eq_true_eq];exact hc1.1.2 hlt
  clear hc1
  gi_wp2
  refine bodyPost_ret (results_none rfl _ _ _) rfl ?_
  exact⟨⟨_,rfl⟩,.inl ⟨F0,by unfold pcA;rw[if_pos hlt];exact hJ1⟩⟩
 have hv:decide (v<0)=false:=by rw[decide_eq_false_iff_not];intro h;exact hlt (hc1.1.1 h)
 have hle:lo≤hi:=by omega
 have hpcA:Hid (pcA D.cs lo hi=pcs hi D.cs lo):=hide (by unfold pcA;rw[if_neg hlt])
 have a0:=hX1.lo.c0
 have a1:=hX1.lo.c1
 have s0:=cell_of_row _ sB 0 _ _ (0,0) hX1.s
 have ba:=below_alloc w1 (.cells #[.bool zl.s,.slice zl.a zl.l zl.c] 38)
 have yf:=zb_new w1 zl.s zl.a zl.l zl.c
 have hJ2:=hSt _ _ _ _ hJ1 ba
 have s1:=(ba.cell (p:=⟨sB,0,none⟩) (Array.getElem?_eq_some_iff.1 hX1.s).1).trans s0
 have hbf:w.heap.size≤w1.heap.size:=k1.size
 clear hc1
 gi_wp2
 clear a0 a1 s0
 generalize w1.alloc (.cells #[.bool zl.s,.slice zl.a zl.l zl.c] 38)=w2 at*
 generalize w1.heap.size=bf at*
 have hcu:=cuts_n (w:=w2) (hS.below (hJ _ _ _ hJ2).1.bel) hf
 refine⟨trivial,fun h=>absurd h (by decide),(callsIn_wide.2 hcu).mono ?_⟩
 rintro e w3 ⟨ca,cc,rfl,hcl,k3,hcn⟩
 have hJ3:=hSt _ _ _ _ hJ2 k3
 have yf3:=yf.below k3
 have hF3: ¬F0 bf:=fun h=>by have:=(hFl _ h).1;omega
 have hcb:0<D.cs.length→∀g off,ca=some ⟨g,off,none⟩→¬F0 g∧g≠bf:=fun h g off e=>by
  have h3:=hcn h g off e
  have h5:=yf.lt
  refine⟨fun h2=> ?_,by omega⟩
  have h4:=(hFl _ h2).1
  omega
 have hze:Ze w0 w3 zl lo:=.inl hlo
 clear hcu hJ1 hX1 k1 ba yf hJ2 s1 hX k3 hcn h0 hFl hlo
 generalize hnc:D.cs.length=nc at*
 replace hnc:=hide hnc
 gi_wp2
 gi_loopw [16] (fun v wr=> ∃(i:Nat) (F:Nat→Prop) (pre:List (Int × Int)) (q:ZV) (xi:Int),i≤nc∧v= .int .i64 i∧Hid (J F pre wr)∧Hid (pre++pcs hi (D.cs.drop i) xi=pcs hi D.cs lo)∧xi≤hi∧Hid (ZB wr bf q.s q.a q.l q.c)∧¬F bf∧Hid (Ze w0 wr q xi)∧q.l≤L∧Hid (CL wr ca nc cc D.cs)∧Hid (0<nc→∀g off,ca=some ⟨g,off,none⟩→¬F g∧g≠bf)) (fun v _=>nc-(intOf v).toNat)
 case atStart=>exact⟨0,F0,[],zl,lo,Nat.zero_le _,rfl,hide hJ3,hide rfl,hle,hide yf3,hF3,hide hze,hll,hide hcl,hide hcb⟩
 case round=>
  clear hJ3 yf3 hF3 hze hcl hcb
  obtain⟨i,F,pre,q,xi,hin,rfl,hJr,hpr,hxi,yf,hFf,hze,hql,hcl,hcb⟩:=hrel
  by_cases hi2:i<nc
  ·have hi3:i<D.cs.length:=by rw[hnc.out];exact hi2
   obtain⟨cb,off,z,rfl,hcbl,e0,e1,hz⟩:=hcl.out.get hi2 hi3
   have hdr:=List.drop_eq_getElem_cons hi3
   obtain⟨c,hc⟩: ∃c,D.cs[i]=c:=⟨_,rfl⟩
   rw[hc]at hz hdr
   replace hc:=hide hc
   have ba:=below_alloc wr (.cells #[.bool z.s,.slice z.a z.l z.c] 38)
   have yc:=zb_new wr z.s z.a z.l z.c
   have hJa:=hSt _ _ _ _ hJr.out ba
   have yfa:=yf.out.below ba
   have hza:=hz.below ba
   have hzea:=hze.out.below ba
   have hcla:=hcl.out.below ba
   have hX:=hJ _ _ _ hJa
   have hcm:=hide (zcmp_n hza.zm (hzea.zm hX.1.bel) hza.len o_m)
   have c0:=yc.c0
   have c1:=yc.c1
   have f0:=yfa.c0
   have f1:=yfa.c1
   have hzl:Hid (z.l≤1073741824):=hide hz.le
   have hbc: ¬F wr.heap.size:=fun h=>by have:=((hJ _ _ _ hJr.out).2.2.2.2 _ h).1;omega
   have hi4:(i:Int)<(nc:Int):=by omega
   have hlt1:decide ((i:Int)<(nc:Int))=true:=by rw[decide_eq_true_eq];exact hi4
   replace hdr:=hide hdr
   replace yc:=hide yc
   replace hJa:=hide hJa
   replace yfa:=hide yfa
   replace hza:=hide hza
   replace hzea:=hide hzea
   replace hcla:=hide hcla
   replace hX:=hide hX
   clear ba hJr yf hz hze hcl
   gi_wp2
   generalize wr.alloc (.cells #[.bool z.s,.slice z.a z.l z.c] 38)=wa at*
   generalize wr.heap.size=bc at*
   refine⟨trivial,fun h=>absurd h (by decide),(callsIn_wide.2 hcm.out).mono ?_⟩
   clear hcm c0 c1 f0 f1 e0 e1
   rintro e w4 ⟨rfl,k4⟩
   have hJ4:=hSt _ _ _ _ hJa.out k4
   have yf4:=yfa.out.below k4
   have yc4:=yc.out.below k4
   have hz4:=hza.out.below k4
   have hze4:=hzea.out.below k4
   have hcl4:=hcla.out.below k4
   have hX4:=hJ _ _ _ hJ4
   have hc1:=(cmpI_lt c xi).2.1
   generalize cmpI c xi=v4 at*
   clear hJa yfa yc hza hzea hcla hX k4
   by_cases h1:c≤xi
   ·have hv4:decide (v4≤0)=true:=by rw[decide_eq_true_eq];exact hc1.2 h1
    have hpr2:Hid (pre++pcs hi (D.cs.drop (i+1)) xi=pcs hi D.cs lo):=hide (by rw[←hpr.out,hdr.out,pcs_old h1])
    have hwj:IntKind.i64.wrap ((i:Int)+1)=((i+1:Nat):Int):=by rw[IntKind.wrap_i64];omega
    replace hJ4:=hide hJ4
    replace yf4:=hide yf4
    replace hze4:=hide hze4
    replace hcl4:=hide hcl4
    clear hc1 yc4 hz4 hX4
    gi_wp2
    exact⟨⟨i+1,F,pre,q,xi,by omega,rfl,hJ4,hpr2,hxi,yf4,hFf,hze4,hql,hcl4,hcb⟩,by simp[intOf];omega⟩
   have hv4:decide (v4≤0)=false:=by rw[decide_eq_false_iff_not];intro h;have:=hc1.1 h;omega
   have c0:=yc4.c0
   have c1:=yc4.c1
   have g0:=hX4.1.hi.c0
   have g1:=hX4.1.hi.c1
   have hcm:=hide (zcmp_n hz4.zm (hhi.below hX4.1.bel) hz4.len o_m)
   replace hJ4:=hide hJ4
   replace yf4:=hide yf4
   replace yc4:=hide yc4
   replace hz4:=hide hz4
   replace hze4:=hide hze4
   replace hcl4:=hide hcl4
   clear hc1 hX4
   gi_wp2
   refine⟨trivial,fun h=>absurd h (by decide),(callsIn_wide.2 hcm.out).mono ?_⟩
   clear hcm c0 c1 g0 g1
   rintro e w5 ⟨rfl,k5⟩
   have hJ5:=hSt _ _ _ _ hJ4.out k5
   have yf5:=yf4.out.below k5
   have yc5:=yc4.out.below k5
   have hz5:=hz4.out.below k5
   have hze5:=hze4.out.below k5
   have hcl5:=hcl4.out.below k5
   have s5:=(hJ _ _ _ hJ5).1.s
   have hc2:=(cmpI_lt c hi).2.2
   generalize cmpI c hi=v5 at*
   clear hJ4 yf4 yc4 hz4 hze4 hcl4 k5
   by_cases h2:hi<c
   ·have hv5:decide (0<v5)=true:=by rw[decide_eq_true_eq];exact hc2.2 h2
    have hend:Hid (pre++ [(xi,hi+1-xi)]=pcs hi D.cs lo):=hide (by rw[←hpr.out,hdr.out,pcs_far o_m o_m])
    replace hJ5:=hide hJ5
    replace yf5:=hide yf5
    replace hze5:=hide hze5
    replace s5:=hide s5
    clear hc2 yc5 hz5 hcl5
    gi_upto_region 10 with(fail)
    replace hJ5:=hJ5.out
    replace yf5:=yf5.out
    replace hze5:=hze5.out
    replace s5:=s5.out
    refine region_G (S:=(fun w'=>w'.cell? ⟨sB,0,none⟩=some (.pointer (some ⟨bS,0,none⟩))∧(w'.cell? ⟨bf,0,none⟩=some (.bool q.s)∧w'.cell? ⟨bf,1,none⟩=some (.slice q.a q.l q.c))∧(w'.cell? ⟨hiB,0,none⟩=some (.bool zh.s)∧w'.cell? ⟨hiB,1,none⟩=some (.slice zh.a zh.l zh.c)))) k_f (fun _=>trivial) (by decide+kernel) (⟨cell_of_row _ sB 0 _ _ (0,0) ((Below.block (grow_drew (Below.refl _ _)) _ (Array.getElem?_eq_some_iff.1 s5).1).trans s5),⟨(yf5.below (grow_drew (Below.refl _ _))).c0,(yf5.below (grow_drew (Below.refl _ _))).c1⟩,⟨((hJ _ _ _ hJ5).1.hi.below (grow_drew (Below.refl _ _))).c0,((hJ _ _ _ hJ5).1.hi.below (grow_drew (Below.refl _ _))).c1⟩⟩) (fun hHeld=> ?_)
    show anyG _ _ _ _ _ _ _ 10 _ _ _
    have kD:=grow_drew (Below.refl w5.heap.size w5)
    have hJW:=hSt _ _ _ _ hJ5 kD
    have sW:=(kD.block _ (Array.getElem?_eq_some_iff.1 s5).1).trans s5
    have yfW:=yf5.below kD
    have zeW:=hze5.below kD
    clear hJ5 s5 yf5 hze5 kD
    generalize w5.drew=wQ at*
    have yhW:=(hJ _ _ _ hJW).1.hi
    refine anyG_take (i:=0) (oi:=⟨some 39,_,_,_,_,_⟩) (v:=?_) rfl (by decide+kernel) (by decide+kernel) (by decide+kernel) (fun _ _ _ h=>h) (Or.inl ⟨by rfl,?_⟩) (by assumption) ?_
    rotate_left
    ·intro wq hSw;(try dsimp only at hSw);go_simp;(try with_reducible rfl)
    (try simp only[pz])
    refine anyG_take (i:=1) (oi:=⟨some 40,_,_,_,_,_⟩) (v:=?_) rfl (by decide+kernel) (by decide+kernel) (by decide+kernel) (fun _ _ _ h=>h) (Or.inl ⟨by rfl,?_⟩) (by assumption) ?_
    rotate_left
    ·intro wq hSw;(try dsimp only at hSw);go_simp;(try with_reducible rfl)
    (try simp only[pz])
    refine anyG_take (i:=2) (oi:=⟨some 41,_,_,_,_,_⟩) (v:=?_) rfl (by decide+kernel) (by decide+kernel) (by decide+kernel) (fun _ _ _ h=>h) (Or.inl ⟨by rfl,?_⟩) (by assumption) ?_
    rotate_left
    ·intro wq hSw;(try dsimp only at hSw);go_simp;(try with_reducible rfl)
    (try simp only[pz])
    refine anyG_take (i:=3) (oi:=⟨some 42,_,_,_,_,_⟩) (v:=?_) rfl (by decide+kernel) (by decide+kernel) (by decide+kernel) (fun _ _ _ h=>h) (Or.inl ⟨by rfl,?_⟩) (by assumption) ?_
    rotate_left
    ·intro wq hSw;(try dsimp only at hSw);go_simp;(try with_reducible rfl)
    (try simp only[pz])
    refine anyG_take (i:=6) (oi:=⟨some 45,_,_,_,_,_⟩) (v:=?_) rfl (by decide+kernel) (by decide+kernel) (by decide+kernel) (fun _ _ _ h=>h) (Or.inl ⟨by rfl,?_⟩) (by assumption) ?_
    rotate_left
    ·intro wq hSw;(try dsimp only at hSw);go_simp;(try with_reducible rfl)
    (try simp only[pz])
    refine anyG_ready (rs:=[4]) (by decide+kernel) (by simp) ?_
    refine ReadyG.cons (i:=4) (o:=⟨some 43,_,_,_,_,_⟩) (by decide+kernel) rfl (fun K hK=> ?_) ReadyG.nil
    go_simp
    refine⟨trivial,fun h=>absurd h (by decide),(callsIn_wide.2 (Fresh.zof_n (B:=0) 1 (by decide) (by decide) _ (Nat.zero_le _))).mono ?_⟩
    rintro e wA ⟨sA,aA,lA,cA,rfl,hzA,kA,hlA⟩
    have hJW:=hSt _ _ _ _ hJW kA
    have sW:=(kA.block _ (Array.getElem?_eq_some_iff.1 sW).1).trans sW
    have yfW:=yfW.below kA
    have zeW:=zeW.below kA
    have yhW:=(hJ _ _ _ hJW).1.hi
    try gi_wp2
    refine hK.out _ _ ?_ ?_
    ·first|with_reducible exact trivial|((try dsimp only);exact⟨cell_of_row _ sB 0 _ _ (0,0) sW,⟨yfW.c0,yfW.c1⟩,⟨yhW.c0,yhW.c1⟩⟩)
    clear hK K hHeld;intro hHeld
    (try simp only[pz])
    refine anyG_ready (rs:=[5]) (by decide+kernel) (by simp) ?_
    refine ReadyG.cons (i:=5) (o:=⟨some 44,_,_,_,_,_⟩) (by decide+kernel) rfl (fun K hK=> ?_) ReadyG.nil
    go_simp
    refine⟨trivial,fun h=>absurd h (by decide),(callsIn_wide.2 (zadd_n (hhi.below (hJ _ _ _ hJW).1.bel) hzA.zn.zm o_m o_m)).mono ?_⟩
    rintro e wB ⟨sB2,aB,lB,cB,rfl,hzB,kB,hlB⟩
    have hJW:=hSt _ _ _ _ hJW kB
    have sW:=(kB.block _ (Array.getElem?_eq_some_iff.1 sW).1).trans sW
    have yfW:=yfW.below kB
    have zeW:=zeW.below kB
    have yhW:=(hJ _ _ _ hJW).1.hi
    try gi_wp2
    refine hK.out _ _ ?_ ?_
    ·first|with_reducible exact trivial|((try dsimp only);exact⟨cell_of_row _ sB 0 _ _ (0,0) sW,⟨yfW.c0,yfW.c1⟩,⟨yhW.c0,yhW.c1⟩⟩)
    clear hK K hHeld;intro hHeld
    (try simp only[pz])
    refine anyG_ready (rs:=[7]) (by decide+kernel) (by simp) ?_
    refine ReadyG.cons (i:=7) (o:=⟨some 46,_,_,_,_,_⟩) (by decide+kernel) rfl (fun K hK=> ?_) ReadyG.nil
    go_simp
    refine⟨trivial,fun h=>absurd h (by decide),(callsIn_wide.2 (zsub_n hzB.zm (zeW.zm (hJ _ _ _ hJW).1.bel) o_m o_m)).mono ?_⟩
    rintro e wC ⟨sC,aC,lC,cC,rfl,hzC,kC,hlC⟩
    have hJW:=hSt _ _ _ _ hJW kC
    have sW:=(kC.block _ (Array.getElem?_eq_some_iff.1 sW).1).trans sW
    have yfW:=yfW.below kC
    have zeW:=zeW.below kC
    have yhW:=(hJ _ _ _ hJW).1.hi
    try gi_wp2
    refine hK.out _ _ ?_ ?_
    ·first|with_reducible exact trivial|((try dsimp only);exact⟨cell_of_row _ sB 0 _ _ (0,0) sW,⟨yfW.c0,yfW.c1⟩,⟨yhW.c0,yhW.c1⟩⟩)
    clear hK K hHeld;intro hHeld
    (try simp only[pz])
    refine anyG_ready (rs:=[8]) (by decide+kernel) (by simp) ?_
    refine ReadyG.cons (i:=8) (o:=⟨some 47,_,_,_,_,_⟩) (by decide+kernel) rfl (fun K hK=> ?_) ReadyG.nil
    go_simp
    refine⟨trivial,fun h=>absurd h (by decide),(callsIn_wide.2 (piece_k (z1:=q) (z2:=⟨sC,aC,lC,cC⟩) (hS.below (hJ _ _ _ hJW).1.bel) (by rw[hnc.out];exact hf) (zeW.zm (hJ _ _ _ hJW).1.bel) o_m hzC.zm (by show lC≤_;omega) o_m)).mono ?_⟩
    rintro e wP ⟨p,rfl,hp,hpf,kP⟩
    have hJW:=hSt _ _ _ _ hJW kP
    have sW:=(kP.block _ (Array.getElem?_eq_some_iff.1 sW).1).trans sW
    have yfW:=yfW.below kP
    have zeW:=zeW.below kP
    have yhW:=(hJ _ _ _ hJW).1.hi
    try gi_wp2
    refine hK.out _ _ ?_ ?_
    ·first|with_reducible exact trivial|((try dsimp only);exact⟨cell_of_row _ sB 0 _ _ (0,0) sW,⟨yfW.c0,yfW.c1⟩,⟨yhW.c0,yhW.c1⟩⟩)
    clear hK K hHeld;intro hHeld
    (try simp only[pz])
    refine anyG_ready (rs:=[9]) (by decide+kernel) (by simp) ?_
    refine ReadyG.cons (i:=9) (o:=⟨some 48,_,_,_,_,_⟩) (by decide+kernel) rfl (fun K hK=> ?_) ReadyG.nil
    obtain⟨fn,tmps,assign,body,hyl,hR⟩:=hY _ _ _ _ p _ hJW hle ⟨[],hend.out⟩ hp (by show p.f.l≤L;rw[hpf];exact hql)
    have hFs:=hJ _ _ _ hJW
    go_simp
    refine⟨fun h=>absurd h (by decide),hR.mono ?_⟩
    clear hR hyl
    rintro e wE ⟨hKb,hres⟩
    obtain⟨bb,rfl,hyes,hno⟩:=yes_no hres
    have sW:=(hKb.block _ (Array.getElem?_eq_some_iff.1 sW).1 hFs.2.1).trans sW
    have yhW:=hKb.zb hFs.1.hi hFs.2.2.2.1
    have yfW:=hKb.zb yfW hFf
    clear hJW zeW hp hzC
    try gi_wp2
    refine hK.out _ _ ?_ ?_
    ·first|with_reducible exact trivial|((try dsimp only);exact⟨cell_of_row _ sB 0 _ _ (0,0) sW,⟨yfW.c0,yfW.c1⟩,⟨yhW.c0,yhW.c1⟩⟩)
    clear hK K hHeld;intro hHeld
    (try simp only[pz])
    refine anyG_done ?_ ?_ _
    ·decide+kernel
    clear hHeld
    go_end0
    refine⟨⟨_,rfl⟩,?_⟩
    cases bb with
    |false=>exact .inr (hno rfl)
    |true=>
     obtain⟨F2,hJ2,hF2⟩:=hyes rfl
     refine .inl ⟨F2,?_⟩
     rw[hpcA.out,←hend.out]
     exact hJ2
   have hv5:decide (0<v5)=false:=by rw[decide_eq_false_iff_not];intro h;have:=hc2.1 h;omega
   have hcut:Hid (pre++(xi,c-xi)::pcs hi (D.cs.drop (i+1)) c=pcs hi D.cs lo):=hide (by rw[←hpr.out,hdr.out,pcs_cut o_m o_m])
   replace hJ5:=hide hJ5
   replace yf5:=hide yf5
   replace yc5:=hide yc5
   replace hz5:=hide hz5
   replace hze5:=hide hze5
   replace hcl5:=hide hcl5
   replace s5:=hide s5
   clear hc2
   gi_upto_region 7 with(fail)
   replace hJ5:=hJ5.out
   replace yf5:=yf5.out
   replace yc5:=yc5.out
   replace hz5:=hz5.out
   replace hze5:=hze5.out
   replace hcl5:=hcl5.out
   replace s5:=s5.out
   refine region_G (S:=(fun w'=>w'.cell? ⟨sB,0,none⟩=some (.pointer (some ⟨bS,0,none⟩))∧(w'.cell? ⟨bf,0,none⟩=some (.bool q.s)∧w'.cell? ⟨bf,1,none⟩=some (.slice q.a q.l q.c))∧(w'.cell? ⟨bc,0,none⟩=some (.bool z.s)∧w'.cell? ⟨bc,1,none⟩=some (.slice z.a z.l z.c)))) k_f (fun _=>trivial) (by decide+kernel) (⟨cell_of_row _ sB 0 _ _ (0,0) ((Below.block (grow_drew (Below.refl _ _)) _ (Array.getElem?_eq_some_iff.1 s5).1).trans s5),⟨(yf5.below (grow_drew (Below.refl _ _))).c0,(yf5.below (grow_drew (Below.refl _ _))).c1⟩,⟨(yc5.below (grow_drew (Below.refl _ _))).c0,(yc5.below (grow_drew (Below.refl _ _))).c1⟩⟩) (fun hHeld=> ?_)
   show anyG _ _ _ _ _ _ _ 9 _ _ _
   have kD:=grow_drew (Below.refl w5.heap.size w5)
   have hJW:=hSt _ _ _ _ hJ5 kD
   have sW:=(kD.block _ (Array.getElem?_eq_some_iff.1 s5).1).trans s5
   have yfW:=yf5.below kD
   have zeW:=hze5.below kD
   have ycW:=yc5.below kD
   have zcW:=hz5.below kD
   have clW:=hcl5.below kD
   clear hJ5 s5 yf5 hze5 yc5 hz5 hcl5 kD
   generalize w5.drew=wQ at*
   have c0W:=cell_of_row _ sB 0 _ _ (0,0) sW
   refine anyG_take (i:=0) (oi:=⟨some 28,_,_,_,_,_⟩) (v:=?_) rfl (by decide+kernel) (by decide+kernel) (by decide+kernel) (fun _ _ _ h=>h) (Or.inl ⟨by rfl,?_⟩) (by assumption) ?_
   rotate_left
   ·intro wq hSw;(try dsimp only at hSw);go_simp;(try with_reducible rfl)
   (try simp only[pz])
   refine anyG_take (i:=1) (oi:=⟨some 29,_,_,_,_,_⟩) (v:=?_) rfl (by decide+kernel) (by decide+kernel) (by decide+kernel) (fun _ _ _ h=>h) (Or.inl ⟨by rfl,?_⟩) (by assumption) ?_
   rotate_left
   ·intro wq hSw;(try dsimp only at hSw);go_simp;(try with_reducible rfl)
   (try simp only[pz])
   refine anyG_take (i:=2) (oi:=⟨some 30,_,_,_,_,_⟩) (v:=?_) rfl (by decide+kernel) (by decide+kernel) (by decide+kernel) (fun _ _ _ h=>h) (Or.inl ⟨by rfl,?_⟩) (by assumption) ?_
   rotate_left
   ·intro wq hSw;(try dsimp only at hSw);go_simp;(try with_reducible rfl)
   (try simp only[pz])
   refine anyG_take (i:=3) (oi:=⟨some 31,_,_,_,_,_⟩) (v:=?_) rfl (by decide+kernel) (by decide+kernel) (by decide+kernel) (fun _ _ _ h=>h) (Or.inl ⟨by rfl,?_⟩) (by assumption) ?_
   rotate_left
   ·intro wq hSw;(try dsimp only at hSw);go_simp;(try with_reducible rfl)
   (try simp only[pz])
   refine anyG_take (i:=4) (oi:=⟨some 32,_,_,_,_,_⟩) (v:=?_) rfl (by decide+kernel) (by decide+kernel) (by decide+kernel) (fun _ _ _ h=>h) (Or.inl ⟨by rfl,?_⟩) (by assumption) ?_
   rotate_left
   ·intro wq hSw;(try dsimp only at hSw);go_simp;(try with_reducible rfl)
   (try simp only[pz])
   refine anyG_ready (rs:=[5]) (by decide+kernel) (by simp) ?_
   refine ReadyG.cons (i:=5) (o:=⟨some 33,_,_,_,_,_⟩) (by decide+kernel) rfl (fun K hK=> ?_) ReadyG.nil
   go_simp
   refine⟨trivial,fun h=>absurd h (by decide),(callsIn_wide.2 (zsub_n zcW.zm (zeW.zm (hJ _ _ _ hJW).1.bel) zcW.len o_m)).mono ?_⟩
   rintro e wA ⟨sA,aA,lA,cA,rfl,hzA,kA,hlA⟩
   have hJW:=hSt _ _ _ _ hJW kA
   have sW:=(kA.block _ (Array.getElem?_eq_some_iff.1 sW).1).trans sW
   have yfW:=yfW.below kA
   have zeW:=zeW.below kA
   have ycW:=ycW.below kA
   have zcW:=zcW.below kA
   have clW:=clW.below kA
   try gi_wp2
   refine hK.out _ _ ?_ ?_
   ·first|with_reducible exact trivial|((try dsimp only);exact⟨cell_of_row _ sB 0 _ _ (0,0) sW,⟨yfW.c0,yfW.c1⟩,⟨ycW.c0,ycW.c1⟩⟩)
   clear hK K hHeld;intro hHeld
   (try simp only[pz])
   refine anyG_ready (rs:=[6]) (by decide+kernel) (by simp) ?_
   refine ReadyG.cons (i:=6) (o:=⟨some 34,_,_,_,_,_⟩) (by decide+kernel) rfl (fun K hK=> ?_) ReadyG.nil
   go_simp
   refine⟨trivial,fun h=>absurd h (by decide),(callsIn_wide.2 (piece_k (z1:=q) (z2:=⟨sA,aA,lA,cA⟩) (hS.below (hJ _ _ _ hJW).1.bel) (by rw[hnc.out];exact hf) (zeW.zm (hJ _ _ _ hJW).1.bel) o_m hzA.zm (by have:=zcW.le;show lA≤_;omega) o_m)).mono ?_⟩
   rintro e wB ⟨p,rfl,hp,hpf,kB⟩
   have hJW:=hSt _ _ _ _ hJW kB
   have sW:=(kB.block _ (Array.getElem?_eq_some_iff.1 sW).1).trans sW
   have yfW:=yfW.below kB
   have zeW:=zeW.below kB
   have ycW:=ycW.below kB
   have zcW:=zcW.below kB
   have clW:=clW.below kB
   try gi_wp2
   refine hK.out _ _ ?_ ?_
   ·first|with_reducible exact trivial|((try dsimp only);exact⟨cell_of_row _ sB 0 _ _ (0,0) sW,⟨yfW.c0,yfW.c1⟩,⟨ycW.c0,ycW.c1⟩⟩)
   clear hK K hHeld;intro hHeld
   (try simp only[pz])
   refine anyG_ready (rs:=[7]) (by decide+kernel) (by simp) ?_
   refine ReadyG.cons (i:=7) (o:=⟨some 35,_,_,_,_,_⟩) (by decide+kernel) rfl (fun K hK=> ?_) ReadyG.nil
   obtain⟨fn,tmps,assign,body,hyl,hR⟩:=hY _ _ _ _ p _ hJW hle ⟨_,hcut.out⟩ hp (by show p.f.l≤L;rw[hpf];exact hql)
   have hFs:=hJ _ _ _ hJW
   go_simp
   refine⟨fun h=>absurd h (by decide),hR.mono ?_⟩
   clear hR hyl
   rintro e wC ⟨hKb,hres⟩
   obtain⟨bb,rfl,hyes,hno⟩:=yes_no hres
   have hFu:=fun b hb=>(hFs.2.2.2.2 b hb).2
   have sW:=(hKb.block _ (Array.getElem?_eq_some_iff.1 sW).1 hFs.2.1).trans sW
   have hFlt:=yfW.lt
   have hFlc:=ycW.lt
   have yfW:=hKb.zb yfW hFf
   have ycW:=hKb.zb ycW hbc
   have zcW:Ze w0 wC z c:=Ze.kb (.inr zcW.zn) hKb hFu
   have clW:=clW.kb hKb hFu (fun h g off e=>(hcb.out h g off e).1)
   clear hJW zeW hp hzA
   try gi_wp2
   refine hK.out _ _ ?_ ?_
   ·first|with_reducible exact trivial|((try dsimp only);exact⟨cell_of_row _ sB 0 _ _ (0,0) sW,⟨yfW.c0,yfW.c1⟩,⟨ycW.c0,ycW.c1⟩⟩)
   clear hK K hHeld;intro hHeld
   (try simp only[pz])
   refine anyG_take (i:=8) (oi:=⟨some 36,_,_,_,_,_⟩) (v:=?_) rfl (by decide+kernel) (by decide+kernel) (by decide+kernel) (fun _ _ _ h=>h) (Or.inl ⟨by rfl,?_⟩) (by assumption) ?_
   rotate_left
   ·intro wq hSw;(try dsimp only at hSw);go_simp;(try with_reducible rfl)
   (try simp only[pz])
   refine anyG_done ?_ ?_ _
   ·decide+kernel
   clear hHeld
   replace yfW:=hide yfW
   replace ycW:=hide ycW
   replace zcW:=hide zcW
   replace clW:=hide clW
   cases bb with
   |false=>
    have hx:=hide (hno rfl)
    clear hyes hno hres hKb hFs hFu sW
    gi_wp2
    refine bodyPost_ret (results_none rfl _ _ _) rfl ?_
    exact⟨⟨_,rfl⟩,.inr hx.out⟩
   |true=>
    obtain⟨F2,hJ2,hF2⟩:=hyes rfl
    have hFf2: ¬F2 bf:=fun h=>(hF2 _ h).elim hFf (fun h=>by omega)
    have c0:=ycW.out.c0
    have c1:=ycW.out.c1
    have g0:=yfW.out.c0
    have g1:=yfW.out.c1
    have g2:=yfW.out.f 0
    have g3:=yfW.out.f 1
    have o2:=only2 bf wC (.bool z.s) (.slice z.a z.l z.c)
    have hJf:=hide (hSo _ _ _ _ _ hJ2 hbf hFf2 ⟨_,_,_,_,yfW.out⟩ (only2 bf wC (.bool z.s) (.slice z.a z.l z.c)))
    have hfin:=hide (zb_fin yfW.out z.s z.a z.l z.c)
    have hoth: ∀g,Own wC g 60→((wC.setCell ⟨bf,0,none⟩ (.bool z.s)).setCell ⟨bf,1,none⟩ (.slice z.a z.l z.c)).heap[g]? =wC.heap[g]?:=u32_only (only2 bf wC (.bool z.s) (.slice z.a z.l z.c)) yfW.out (by decide)
    have hzf:Hid (Ze w0 ((wC.setCell ⟨bf,0,none⟩ (.bool z.s)).setCell ⟨bf,1,none⟩ (.slice z.a z.l z.c)) z c):=hide (zcW.out.imp id fun h=>zn_blk h (Nat.le_of_eq (only2 bf wC (.bool z.s) (.slice z.a z.l z.c)).size.symm) hoth)
    have hkf:Kb (fun b=>b=bf) wC ((wC.setCell ⟨bf,0,none⟩ (.bool z.s)).setCell ⟨bf,1,none⟩ (.slice z.a z.l z.c)):=⟨Nat.le_of_eq (only2 bf wC (.bool z.s) (.slice z.a z.l z.c)).size.symm,fun k _ hk=>(only2 bf wC (.bool z.s) (.slice z.a z.l z.c)).block k hk⟩
    have hclf:=hide (clW.out.kb hkf (fun b hb h=>own_u32 h yfW.out (by decide) hb) (fun h g off e hg=>(hcb.out h g off e).2 hg))
    have hcbf2:Hid (0<nc→∀g off',(some ⟨cb,off,none⟩:Option Addr)=some ⟨g,off',none⟩→¬F2 g∧g≠bf):=hide fun h g off' e=>by
     cases e
     exact⟨fun h2=>(hF2 _ h2).elim (hcb.out h cb _ rfl).1 (fun h=>by omega),(hcb.out h cb _ rfl).2⟩
    have hpr2:Hid ((pre++ [(xi,c-xi)])++pcs hi (D.cs.drop (i+1)) c=pcs hi D.cs lo):=hide (by rw[List.append_assoc];exact hcut.out)
    have hwj:IntKind.i64.wrap ((i:Int)+1)=((i+1:Nat):Int):=by rw[IntKind.wrap_i64];omega
    clear hyes hno hres hKb hFs hFu sW hJ2 o2 hoth hkf yfW ycW zcW clW
    gi_wp2
    exact⟨⟨i+1,F2,pre++ [(xi,c-xi)],z,c,by omega,rfl,hJf,hpr2,by omega,hfin,hFf2,hzf,by have:=hzl.out;omega,hclf,hcbf2⟩,by simp[intOf];omega⟩
  obtain rfl:i=nc:=by omega
  have hend:Hid (pre++ [(xi,hi+1-xi)]=pcs hi D.cs lo):=hide (by rw[←hpr.out,pcs_end (by rw[hnc.out];exact Nat.le_refl _)])
  have hlt1:decide ((i:Int)<(i:Int))=false:=by simp
  have s5:=hide (hJ _ _ _ hJr.out).1.s
  clear hcl hcb
  gi_upto_region 10 with(fail)
  have hJ5:=hJr.out
  have yf5:=yf.out
  have hze5:=hze.out
  replace s5:=s5.out
  clear hJr yf hze
  refine region_G (S:=(fun w'=>w'.cell? ⟨sB,0,none⟩=some (.pointer (some ⟨bS,0,none⟩))∧(w'.cell? ⟨bf,0,none⟩=some (.bool q.s)∧w'.cell? ⟨bf,1,none⟩=some (.slice q.a q.l q.c))∧(w'.cell? ⟨hiB,0,none⟩=some (.bool zh.s)∧w'.cell? ⟨hiB,1,none⟩=some (.slice zh.a zh.l zh.c)))) k_f (fun _=>trivial) (by decide+kernel) (⟨cell_of_row _ sB 0 _ _ (0,0) ((Below.block (grow_drew (Below.refl _ _)) _ (Array.getElem?_eq_some_iff.1 s5).1).trans s5),⟨(yf5.below (grow_drew (Below.refl _ _))).c0,(yf5.below (grow_drew (Below.refl _ _))).c1⟩,⟨((hJ _ _ _ hJ5).1.hi.below (grow_drew (Below.refl _ _))).c0,((hJ _ _ _ hJ5).1.hi.below (grow_drew (Below.refl _ _))).c1⟩⟩) (fun hHeld=> ?_)
  show anyG _ _ _ _ _ _ _ 10 _ _ _
  have kD:=grow_drew (Below.refl wr.heap.size wr)
  have hJW:=hSt _ _ _ _ hJ5 kD
  have sW:=(kD.block _ (Array.getElem?_eq_some_iff.1 s5).1).trans s5
  have yfW:=yf5.below kD
  have zeW:=hze5.below kD
  clear hJ5 s5 yf5 hze5 kD
  generalize wr.drew=wQ at*
  have yhW:=(hJ _ _ _ hJW).1.hi
  refine anyG_take (i:=0) (oi:=⟨some 39,_,_,_,_,_⟩) (v:=?_) rfl (by decide+kernel) (by decide+kernel) (by decide+kernel) (fun _ _ _ h=>h) (Or.inl ⟨by rfl,?_⟩) (by assumption) ?_
  rotate_left
  ·intro wq hSw;(try dsimp only at hSw);go_simp;(try with_reducible rfl)
  (try simp only[pz])
  refine anyG_take (i:=1) (oi:=⟨some 40,_,_,_,_,_⟩) (v:=?_) rfl (by decide+kernel) (by decide+kernel) (by decide+kernel) (fun _ _ _ h=>h) (Or.inl ⟨by rfl,?_⟩) (by assumption) ?_
  rotate_left
  ·intro wq hSw;(try dsimp only at hSw);go_simp;(try with_reducible rfl)
  (try simp only[pz])
  refine anyG_take (i:=2) (oi:=⟨some 41,_,_,_,_,_⟩) (v:=?_) rfl (by decide+kernel) (by decide+kernel) (by decide+kernel) (fun _ _ _ h=>h) (Or.inl ⟨by rfl,?_⟩) (by assumption) ?_
  rotate_left
  ·intro wq hSw;(try dsimp only at hSw);go_simp;(try with_reducible rfl)
  (try simp only[pz])
  refine anyG_take (i:=3) (oi:=⟨some 42,_,_,_,_,_⟩) (v:=?_) rfl (by decide+kernel) (by decide+kernel) (by decide+kernel) (fun _ _ _ h=>h) (Or.inl ⟨by rfl,?_⟩) (by assumption) ?_
  rotate_left
  ·intro wq hSw;(try dsimp only at hSw);go_simp;(try with_reducible rfl)
  (try simp only[pz])
  refine anyG_take (i:=6) (oi:=⟨some 45,_,_,_,_,_⟩) (v:=?_) rfl (by decide+kernel) (by decide+kernel) (by decide+kernel) (fun _ _ _ h=>h) (Or.inl ⟨by rfl,?_⟩) (by assumption) ?_
  rotate_left
  ·intro wq hSw;(try dsimp only at hSw);go_simp;(try with_reducible rfl)
  (try simp only[pz])
  refine anyG_ready (rs:=[4]) (by decide+kernel) (by simp) ?_
  refine ReadyG.cons (i:=4) (o:=⟨some 43,_,_,_,_,_⟩) (by decide+kernel) rfl (fun K hK=> ?_) ReadyG.nil
  go_simp
  refine⟨trivial,fun h=>absurd h (by decide),(callsIn_wide.2 (Fresh.zof_n (B:=0) 1 (by decide) (by decide) _ (Nat.zero_le _))).mono ?_⟩
  rintro e wA ⟨sA,aA,lA,cA,rfl,hzA,kA,hlA⟩
  have hJW:=hSt _ _ _ _ hJW kA
  have sW:=(kA.block _ (Array.getElem?_eq_some_iff.1 sW).1).trans sW
  have yfW:=yfW.below kA
  have zeW:=zeW.below kA
  have yhW:=(hJ _ _ _ hJW).1.hi
  try gi_wp2
  refine hK.out _ _ ?_ ?_
  ·first|with_reducible exact trivial|((try dsimp only);exact⟨cell_of_row _ sB 0 _ _ (0,0) sW,⟨yfW.c0,yfW.c1⟩,⟨yhW.c0,yhW.c1⟩⟩)
  clear hK K hHeld;intro hHeld
  (try simp only[pz])
  refine anyG_ready (rs:=[5]) (by decide+kernel) (by simp) ?_
  refine ReadyG.cons (i:=5) (o:=⟨some 44,_,_,_,_,_⟩) (by decide+kernel) rfl (fun K hK=> ?_) ReadyG.nil
  go_simp
  refine⟨trivial,fun h=>absurd h (by decide),(callsIn_wide.2 (zadd_n (hhi.below (hJ _ _ _ hJW).1.bel) hzA.zn.zm o_m o_m)).mono ?_⟩
  rintro e wB ⟨sB2,aB,lB,cB,rfl,hzB,kB,hlB⟩
  have hJW:=hSt _ _ _ _ hJW kB
  have sW:=(kB.block _ (Array.getElem?_eq_some_iff.1 sW).1).trans sW
  have yfW:=yfW.below kB
  have zeW:=zeW.below kB
  have yhW:=(hJ _ _ _ hJW).1.hi
  try gi_wp2
  refine hK.out _ _ ?_ ?_
  ·first|with_reducible exact trivial|((try dsimp only);exact⟨cell_of_row _ sB 0 _ _ (0,0) sW,⟨yfW.c0,yfW.c1⟩,⟨yhW.c0,yhW.c1⟩⟩)
  clear hK K hHeld;intro hHeld
  (try simp only[pz])
  refine anyG_ready (rs:=[7]) (by decide+kernel) (by simp) ?_
  refine ReadyG.cons (i:=7) (o:=⟨some 46,_,_,_,_,_⟩) (by decide+kernel) rfl (fun K hK=> ?_) ReadyG.nil
  go_simp
  refine⟨trivial,fun h=>absurd h (by decide),(callsIn_wide.2 (zsub_n hzB.zm (zeW.zm (hJ _ _ _ hJW).1.bel) o_m o_m)).mono ?_⟩
  rintro e wC ⟨sC,aC,lC,cC,rfl,hzC,kC,hlC⟩
  have hJW:=hSt _ _ _ _ hJW kC
  have sW:=(kC.block _ (Array.getElem?_eq_some_iff.1 sW).1).trans sW
  have yfW:=yfW.below kC
  have zeW:=zeW.below kC
  have yhW:=(hJ _ _ _ hJW).1.hi
  try gi_wp2
  refine hK.out _ _ ?_ ?_
  ·first|with_reducible exact trivial|((try dsimp only);exact⟨cell_of_row _ sB 0 _ _ (0,0) sW,⟨yfW.c0,yfW.c1⟩,⟨yhW.c0,yhW.c1⟩⟩)
  clear hK K hHeld;intro hHeld
  (try simp only[pz])
  refine anyG_ready (rs:=[8]) (by decide+kernel) (by simp) ?_
  refine ReadyG.cons (i:=8) (o:=⟨some 47,_,_,_,_,_⟩) (by decide+kernel) rfl (fun K hK=> ?_) ReadyG.nil
  go_simp
  refine⟨trivial,fun h=>absurd h (by decide),(callsIn_wide.2 (piece_k (z1:=q) (z2:=⟨sC,aC,lC,cC⟩) (hS.below (hJ _ _ _ hJW).1.bel) (by rw[hnc.out];exact hf) (zeW.zm (hJ _ _ _ hJW).1.bel) o_m hzC.zm (by show lC≤_;omega) o_m)).mono ?_⟩
  rintro e wP ⟨p,rfl,hp,hpf,kP⟩
  have hJW:=hSt _ _ _ _ hJW kP
  have sW:=(kP.block _ (Array.getElem?_eq_some_iff.1 sW).1).trans sW
  have yfW:=yfW.below kP
  have zeW:=zeW.below kP
  have yhW:=(hJ _ _ _ hJW).1.hi
  try gi_wp2
  refine hK.out _ _ ?_ ?_
  ·first|with_reducible exact trivial|((try dsimp only);exact⟨cell_of_row _ sB 0 _ _ (0,0) sW,⟨yfW.c0,yfW.c1⟩,⟨yhW.c0,yhW.c1⟩⟩)
  clear hK K hHeld;intro hHeld
  (try simp only[pz])
  refine anyG_ready (rs:=[9]) (by decide+kernel) (by simp) ?_
  refine ReadyG.cons (i:=9) (o:=⟨some 48,_,_,_,_,_⟩) (by decide+kernel) rfl (fun K hK=> ?_) ReadyG.nil
  obtain⟨fn,tmps,assign,body,hyl,hR⟩:=hY _ _ _ _ p _ hJW hle ⟨[],hend.out⟩ hp (by show p.f.l≤L;rw[hpf];exact hql)
  have hFs:=hJ _ _ _ hJW
  go_simp
  refine⟨fun h=>absurd h (by decide),hR.mono ?_⟩
  clear hR hyl
  rintro e wE ⟨hKb,hres⟩
  obtain⟨bb,rfl,hyes,hno⟩:=yes_no hres
  have sW:=(hKb.block _ (Array.getElem?_eq_some_iff.1 sW).1 hFs.2.1).trans sW
  have yhW:=hKb.zb hFs.1.hi hFs.2.2.2.1
  have yfW:=hKb.zb yfW hFf
  clear hJW zeW hp hzC
  try gi_wp2
  refine hK.out _ _ ?_ ?_
  ·first|with_reducible exact trivial|((try dsimp only);exact⟨cell_of_row _ sB 0 _ _ (0,0) sW,⟨yfW.c0,yfW.c1⟩,⟨yhW.c0,yhW.c1⟩⟩)
  clear hK K hHeld;intro hHeld
  (try simp only[pz])
  refine anyG_done ?_ ?_ _
  ·decide+kernel
  clear hHeld
  go_end0
  refine⟨⟨_,rfl⟩,?_⟩
  cases bb with
  |false=>exact .inr (hno rfl)
  |true=>
   obtain⟨F2,hJ2,hF2⟩:=hyes rfl
   refine .inl ⟨F2,?_⟩
   rw[hpcA.out,←hend.out]
   exact hJ2
end Pd
attribute [local go_sem] Oper.semAt_some
namespace Pd

variable {w w' W W':World}{ad:Option Addr}{len cap p bS:Nat}{n x:Int}
theorem pieces_n (w:World)(bS:Nat)(zl zh:ZV):Calls Tryz.prog 63 #[.pointer (some ⟨bS,0,none⟩),.agg #[.bool zl.s,.slice zl.a zl.l zl.c],.agg #[.bool zh.s,.slice zh.a zh.l zh.c]] w fun e w'=>w'=((w.alloc (.cells #[.pointer (some ⟨bS,0,none⟩)] 25)).alloc (.cells #[.bool zl.s,.slice zl.a zl.l zl.c] 38)).alloc (.cells #[.bool zh.s,.slice zh.a zh.l zh.c] 38)∧e= .returned (.func (.func 107) #[] #[.pointer (some ⟨w.heap.size+2,0,none⟩),.pointer (some ⟨w.heap.size+1,0,none⟩),.pointer (some ⟨w.heap.size,0,none⟩)]):=by
 go_enter Tryz.func63,Tryz.ntmps63
 go_wp2
 exact bodyPost_ret (results_tmp rfl _ _ _) rfl ⟨rfl,rfl⟩
structure Ck (w w':World):Prop where
 size:w.heap.size≤w'.heap.size
 cell: ∀b off v,w.cell? ⟨b,off,none⟩=some v→w'.cell? ⟨b,off,none⟩=some v
theorem rd_kc {zs:List Int}(h:Rd w ad len cap zs)(k:Ck w w'):Rd w' ad len cap zs:=by
 obtain⟨h1,h2,h3,h4,h5⟩:=h
 refine⟨h1,h2,h3,h4,h5.imp id ?_⟩
 rintro⟨a,ha,h6⟩
 refine⟨a,ha,h6.imp id ?_⟩
 rintro⟨b,off,e,hb,hc⟩
 exact⟨b,off,e,Nat.lt_of_lt_of_le hb k.size,fun i hi=>k.cell _ _ _ (hc i hi)⟩
theorem zm_kc {s:Bool}{z:Int}(h:Zm w s ad len cap z)(k:Ck w w'):Zm w' s ad len cap z:=by
 obtain⟨n,⟨zs,h1,h2⟩,h3⟩:=h
 exact⟨n,⟨zs,rd_kc h1 k,h2⟩,h3⟩
theorem zn_kc {s:Bool}{z:Int}(h:Zn w s ad len cap z)(k:Ck w w'):Zn w' s ad len cap z:=by
 obtain⟨n,⟨zs,h1,h2⟩,h3⟩:=h
 exact⟨n,⟨zs,rd_kc h1 k,h2⟩,h3⟩
theorem nls_kc {n:Nat}{P:List Nat}(h:NLs w ad n P)(k:Ck w w'):NLs w' ad n P:=by
 refine⟨h.1,h.2.imp id ?_⟩
 rintro⟨b,e,hb,hc⟩
 exact⟨b,e,Nat.lt_of_lt_of_le hb k.size,fun i hi=>k.cell _ _ _ (hc i hi)⟩
theorem PcK.kc {D:PD}{p:PcV}(h:PcK w D p x n)(k:Ck w w'):PcK w' D p x n:=by
 obtain⟨m,h1,h2,h3⟩:=h.inn
 exact⟨zm_kc h.f k,h.fl,h.per,⟨m,h1,h2,nls_kc h3 k⟩,h.cap,zn_kc h.h k,h.hl,h.r⟩
theorem ck_below (k:Below w.heap.size w w'):Ck w w':=⟨k.size,fun b off _ h=>(k.cell (p:=⟨b,off,none⟩) (World.block_lt_of_cell? w ⟨b,off,none⟩ h)).trans h⟩
theorem ck_put {l:Nat}{r:Loop}(hl:w.heap[l]? =some (.loop r))(o:Obj):Ck w (w.putObj l o):=⟨by simp[World.putObj],fun b off v h=>by
 have hne:b≠l:=fun e=>by
  subst e
  unfold World.cell? at h
  dsimp only at h
  rw[hl]at h
  cases h
 exact(World.cell?_of_block (a:=⟨b,off,none⟩) (World.putObj_heap_other hne)).trans h⟩
theorem pcs_one {D:PD}{lo hi:Int}{pre suf:List (Int × Int)}(hw:D.cs.Pairwise (· < ·))(hle:lo≤hi)(h:pre++(x,n)::suf=pcs hi D.cs lo):1≤n∧(∀s∈D.cs,¬(x<s∧s<x+n))∧pre.length≤D.cs.length:=by
 have h1:=pcs_ok hw hle (x,n) (by rw[←h];simp)
 have h2:=congrArg List.length h
 have h3:=pcs_len hi D.cs lo
 simp only[List.length_append,List.length_cons]at h2
 exact⟨h1.2.1,h1.2.2.2,by omega⟩
theorem count_k {D:PD}{p:PcV}(hp1:1≤D.p)(hp2:D.p≤4096)(h:PcK W D p x n)(hn:0≤n)(hc: ∀s∈D.cs,¬(x<s∧s<x+n)):
  Calls Tryz.prog 65 #[p.val] W fun e w'=> ∃s a l c,e= .returned (.agg #[.bool s,.slice a l c])∧Zn w' s a l c (cntQ (mem D) (x,n):Nat)∧l≤17179869300∧Below W.heap.size W w':=by
 obtain⟨m,hm,hil,hnl⟩:=h.inn
 have hm2:m≤4096:=by split at hm <;> omega
 have hpl: ∀k∈plL (mem D) x m,k<4096:=fun k hk=>by
  have:=List.mem_range.1 (List.mem_filter.1 hk).1
  omega
 have hil2:p.il≤4096:=by rw[hil,plL_len];exact Nat.le_trans (cntm_le _ _ _) hm2
 have hhl:=h.hl
 refine(count_n hnl hil2 hpl h.h.zm o_m).mono ?_
 rintro e w' ⟨k,s,a,l,c,e1,e2,e3⟩
 refine⟨s,a,l,c,e1,?_,by omega,k⟩
 rw[hil,pc_cnt hp1 hn hc hm h.r]at e2
 exact e2
structure CK (w:World) (p:Nat) (bS:Nat) (zl zh:ZV) (r:Loop) (W:World):Prop where
 bx:BxK w bS (p+3) (p+2) (p+1) zl zh W
 res:ZB W (w.heap.size+2) false none 0 0
 df:W.heap[p+4]? =some (.deferred (some []))
 lp:W.heap[p+5]? =some (.loop r)
theorem CK.mv {zl zh:ZV}{r r':Loop}(hp:w.heap.size+2<p)(h:CK w p bS zl zh r W)(hk: ∀g,g<p+6→g<W.heap.size→g≠p+5→g≠p→W'.heap[g]? =W.heap[g]?)(hl:W'.heap[p+5]? =some (.loop r'))(hb:Below w.heap.size w W'):CK w p bS zl zh r' W':=by
 have hlt: ∀{g:Nat}{o:Obj},W.heap[g]? =some o→g<W.heap.size:=fun h=>(Array.getElem?_eq_some_iff.1 h).1
 exact⟨⟨hb,(hk _ o_m (hlt h.bx.s) o_m o_m).trans h.bx.s,(hk _ o_m h.bx.lo.lt o_m o_m).trans h.bx.lo,(hk _ o_m h.bx.hi.lt o_m o_m).trans h.bx.hi⟩,(hk _ o_m h.res.lt o_m o_m).trans h.res,(hk _ o_m (hlt h.df) o_m o_m).trans h.df,hl⟩
theorem CK.below {zl zh:ZV}{r:Loop}(hp:w.heap.size+2<p)(h:CK w p bS zl zh r W)(kb:Below W.heap.size W W'):CK w p bS zl zh r W':=
 h.mv hp (fun g _ hg _ _=>kb.block g hg) ((kb.block _ (Array.getElem?_eq_some_iff.1 h.lp).1).trans h.lp) (grow_step kb h.bx.bel)
theorem CK.put {zl zh:ZV}{r:Loop}(hp:w.heap.size+2<p)(h:CK w p bS zl zh r W)(r':Loop):CK w p bS zl zh r' (W.putObj (p+5) (.loop r')):=
 h.mv hp (fun g _ _ hne _=>World.putObj_heap_other hne) (World.putObj_heap_same (Array.getElem?_eq_some_iff.1 h.lp).1) (h.bx.bel.trans (bel_put _ o_m))
theorem CK.only {zl zh:ZV}{r:Loop}{b:Nat}(hp:w.heap.size+2<p)(h:CK w p bS zl zh r W)(ho:Only b W W')(hb:b=p∨p+6≤b):CK w p bS zl zh r W':=
 h.mv hp (fun g _ _ _ _=>ho.block g o_m) ((ho.block _ o_m).trans h.lp) (h.bx.bel.trans (ho.below o_m))
def CJ (w:World)(p:Nat)(bS:Nat)(zl zh:ZV)(r:Loop)(v:Int)(L:Nat)(W:World):Prop:=(∃z:ZV,ZB W p z.s z.a z.l z.c∧Fresh.Zn 0 W z.s z.a z.l z.c v∧z.l≤L)∧CK w p bS zl zh r W
theorem Count_n {D:PD}{zl zh:ZV}{lo hi:Int}(hS:PS w bS D)(hf:D.cs.length≤1073741823)(hlo:Zm w zl.s zl.a zl.l zl.c lo)(hll:zl.l≤17179860000)(hhi:Zm w zh.s zh.a zh.l zh.c hi)(hhl:zh.l≤17179860000):
  Calls Tryz.prog 19 #[.pointer (some ⟨bS,0,none⟩),.agg #[.bool zl.s,.slice zl.a zl.l zl.c],.agg #[.bool zh.s,.slice zh.a zh.l zh.c]] w fun e w'=> ∃z:ZV,e= .returned (.tuple #[.agg #[.bool z.s,.slice z.a z.l z.c],.int .i64 0])∧Zn w' z.s z.a z.l z.c (cntI (mem D) lo hi:Nat)∧z.l≤34359738368∧Below w.heap.size w w':=by
 refine(callsIn_wide (n:=3)).1 ?_
 refine callsIn_of_wp_marks Tryz.func19 rfl trivial ?_ rfl
 simp only[Tryz.ntmps19,List.size_toArray,List.length_cons,List.length_nil,Nat.reduceAdd,Nat.reduceSub,Array.replicate_succ,Array.replicate_zero,List.push_toArray,List.append_toArray,List.nil_append,List.cons_append]
 have b0:Below w.heap.size w (((w.alloc (.cells #[.bool zl.s,.slice zl.a zl.l zl.c] 38)).alloc (.cells #[.bool zh.s,.slice zh.a zh.l zh.c] 38)).alloc (.cells #[.bool false,.slice none 0 0] 38)):=below_alloc' (below_alloc' (below_alloc _ _) _) _
 have y0:=(zb_new w zl.s zl.a zl.l zl.c).below (below_alloc' (below_alloc (w.alloc (.cells #[.bool zl.s,.slice zl.a zl.l zl.c] 38)) (.cells #[.bool zh.s,.slice zh.a zh.l zh.c] 38)) (.cells #[.bool false,.slice none 0 0] 38))
 have y1:=(zb_new (w.alloc (.cells #[.bool zl.s,.slice zl.a zl.l zl.c] 38)) zh.s zh.a zh.l zh.c).below (below_alloc _ (.cells #[.bool false,.slice none 0 0] 38))
 have y2:=zb_new ((w.alloc (.cells #[.bool zl.s,.slice zl.a zl.l zl.c] 38)).alloc (.cells #[.bool zh.s,.slice zh.a zh.l zh.c] 38)) false none 0 0
 rw[show(w.alloc (.cells #[.bool zl.s,.slice zl.a zl.l zl.c] 38)).heap.size=w.heap.size+1 by simp]at y1
 rw[show((w.alloc (.cells #[.bool zl.s,.slice zl.a zl.l zl.c] 38)).alloc (.cells #[.bool zh.s,.slice zh.a zh.l zh.c] 38)).heap.size=w.heap.size+2 by simp]at y2
 gi_wp2
 generalize ((w.alloc (.cells #[.bool zl.s,.slice zl.a zl.l zl.c] 38)).alloc (.cells #[.bool zh.s,.slice zh.a zh.l zh.c] 38)).alloc (.cells #[.bool false,.slice none 0 0] 38)=w0 at*
 refine⟨trivial,(callsIn_wide.2 (Fresh.zof_n (B:=0) 0 (by decide) (by decide) _ (Nat.zero_le _))).mono ?_⟩
 rintro e w1 ⟨s0,a0,l0,c0,rfl,hz0,k1,hl0⟩
 have b1:=grow_step k1 b0
 have z0:=y0.below k1
 have z1:=y1.below k1
 have z2:=y2.below k1
 have hp:w.heap.size+2<w1.heap.size:=z2.lt
 have ba:=below_alloc w1 (.cells #[.bool s0,.slice a0 l0 c0] 38)
 have x0:=z0.below ba
 have x1:=z1.below ba
 have x2:=z2.below ba
 have xt:=zb_new w1 s0 a0 l0 c0
 have hzt:=hz0.below ba
 have b2:=grow_step ba b1
 have e0:=x0.c0
 have e1:=x0.c1
 have e2:=x1.c0
 have e3:=x1.c1
 have hs2:(w1.alloc (.cells #[.bool s0,.slice a0 l0 c0] 38)).heap.size=w1.heap.size+1:=by simp
 clear y0 y1 y2 z0 z1 z2 k1 b0 b1 ba hz0
 gi_wp2
 generalize w1.alloc (.cells #[.bool s0,.slice a0 l0 c0] 38)=w2 at*
 refine⟨trivial,(callsIn_wide.2 (pieces_n w2 bS zl zh)).mono ?_⟩
 clear e0 e1 e2 e3 x0 x1
 rintro e w3 ⟨rfl,rfl⟩
 generalize w1.heap.size=p at*
 rw[hs2]
 have bb:Below w2.heap.size w2 (((w2.alloc (.cells #[.pointer (some ⟨bS,0,none⟩)] 25)).alloc (.cells #[.bool zl.s,.slice zl.a zl.l zl.c] 38)).alloc (.cells #[.bool zh.s,.slice zh.a zh.l zh.c] 38)):=below_alloc' (below_alloc' (below_alloc _ _) _) _
 have s3:=((below_alloc' (below_alloc (w2.alloc (.cells #[.pointer (some ⟨bS,0,none⟩)] 25)) (.cells #[.bool zl.s,.slice zl.a zl.l zl.c] 38)) (.cells #[.bool zh.s,.slice zh.a zh.l zh.c] 38)).block w2.heap.size (by simp)).trans (heap_alloc_new w2 (.cells #[.pointer (some ⟨bS,0,none⟩)] 25))
 have x3:=(zb_new (w2.alloc (.cells #[.pointer (some ⟨bS,0,none⟩)] 25)) zl.s zl.a zl.l zl.c).below (below_alloc _ (.cells #[.bool zh.s,.slice zh.a zh.l zh.c] 38))
 have x4:=zb_new ((w2.alloc (.cells #[.pointer (some ⟨bS,0,none⟩)] 25)).alloc (.cells #[.bool zl.s,.slice zl.a zl.l zl.c] 38)) zh.s zh.a zh.l zh.c
 rw[hs2]at s3
 rw[show(w2.alloc (.cells #[.pointer (some ⟨bS,0,none⟩)] 25)).heap.size=p+2 by simp[hs2]]at x3
 rw[show((w2.alloc (.cells #[.pointer (some ⟨bS,0,none⟩)] 25)).alloc (.cells #[.bool zl.s,.slice zl.a zl.l zl.c] 38)).heap.size=p+3 by simp[hs2]]at x4
 have hs3:(((w2.alloc (.cells #[.pointer (some ⟨bS,0,none⟩)] 25)).alloc (.cells #[.bool zl.s,.slice zl.a zl.l zl.c] 38)).alloc (.cells #[.bool zh.s,.slice zh.a zh.l zh.c] 38)).heap.size=p+4:=by simp[hs2]
 have x5:=x2.below bb
 have xt5:=xt.below bb
 have hzt5:=hzt.below bb
 have b3:=grow_step bb b2
 generalize ((w2.alloc (.cells #[.pointer (some ⟨bS,0,none⟩)] 25)).alloc (.cells #[.bool zl.s,.slice zl.a zl.l zl.c] 38)).alloc (.cells #[.bool zh.s,.slice zh.a zh.l zh.c] 38)=w4 at*
 clear bb x2 xt hzt b2
 gi_wp2
 refine range_enter rfl (enters_of Tryz.func107 k_f rfl) (fun fn r hr=> ?_)
 have b8:=below_alloc' (below_alloc w4 (.deferred (some []))) (.loop r)
 have hJ0:CJ w p bS zl zh r 0 17179869400 ((w4.alloc (.deferred (some []))).alloc (.loop r)):=by
  refine⟨⟨⟨s0,a0,l0,c0⟩,xt5.below b8,hzt5.below b8,by show l0≤_;omega⟩,⟨grow_step b8 b3,(b8.block _ (Array.getElem?_eq_some_iff.1 s3).1).trans s3,x3.below b8,x4.below b8⟩,x5.below b8,?_,?_⟩
  ·have h1:=heap_alloc_new w4 (.deferred (some []))
   rw[hs3]at h1
   exact((below_alloc _ (.loop r)).block _ (by simp[hs3])).trans h1
  have h1:=heap_alloc_new (w4.alloc (.deferred (some []))) (.loop r)
  rw[show(w4.alloc (.deferred (some []))).heap.size=p+5 by simp[hs3]]at h1
  exact h1
 have hs5:((w4.alloc (.deferred (some []))).alloc (.loop r)).heap.size=p+6:=by simp[hs3]
 rw[hs3]
 generalize (w4.alloc (.deferred (some []))).alloc (.loop r)=W0 at*
 clear s3 x3 x4 x5 xt5 hzt5 b3 b8
 have hwf:=hS.wf
 refine(pieces1_any (w0:=w) (bS:=bS) (sB:=p+1) (loB:=p+2) (hiB:=p+3) (l:=p+5) (D:=D) (zl:=zl) (zh:=zh) (lo:=lo) (hi:=hi) hS hf hlo hll (by decide) (by decide) hhi hhl
  (fun F pre W=>(F=fun b=>b=p∨b=p+5)∧CJ w p bS zl zh r (cntS (mem D) pre:Nat) (17179869400+pre.length) W) (fun _=>False) ?_ ?_ ?_ ?_ (fun b=>b=p∨b=p+5) ⟨rfl,by simpa [cntS] using hJ0⟩).mono ?_
 ·rintro F pre W ⟨rfl,⟨z,hz,-,-⟩,hC⟩
  refine⟨hC.bx,by omega,by omega,by omega,?_⟩
  rintro b (rfl|rfl)
  ·exact⟨hz.lt,fun h=>own_u32 h hz (by decide) rfl⟩
  refine⟨(Array.getElem?_eq_some_iff.1 hC.lp).1,fun⟨cur,h⟩=> ?_⟩
  rw[hC.lp]at h
  cases h
 ·rintro F pre W W' ⟨rfl,⟨z,hz,hn,hl⟩,hC⟩ k
  exact⟨rfl,⟨z,hz.below k,hn.below k,hl⟩,hC.below hp k⟩
 ·rintro F pre W W' bf ⟨rfl,⟨z,hz,hn,hl⟩,hC⟩ hbf hFf ⟨s,a,l,c,hy⟩ ho
  rw[hs5]at hbf
  exact⟨rfl,⟨z,hz.only ho o_m,zn_blk hn (Nat.le_of_eq ho.size.symm) (u32_only ho hy (by decide)),hl⟩,hC.only hp ho (.inr hbf)⟩
 ·rintro F pre x n pc W ⟨rfl,⟨zt,hzb,hzn,hzl⟩,hC⟩ hle ⟨suf,hsuf⟩ hpc _
  obtain⟨hn1,hcn,hpl⟩:=pcs_one hwf.up hle hsuf
  suffices key: ∀R:Ending→World→Prop,Hid (∀W',CJ w p bS zl zh r (cntS (mem D) (pre++ [(x,n)]):Nat) (17179869400+(pre++ [(x,n)]).length) W'→Kb (fun b=>b=p∨b=p+5) W W'→R (.returned (.bool true)) W')→YieldAt Fence.wide (3-1-1) Tryz.prog (p+5) #[pc.val] W R from key _ (hide fun W' h hk=>⟨hk,.inl ⟨rfl,_,⟨rfl,h⟩,fun b hb=> .inl hb⟩⟩)
  intro R hR
  refine round_at hr hC.lp rfl ?_
  clear hJ0
  gi_wp2
  have ba:=below_alloc W (.cells #[.bool pc.f.s,.slice pc.f.a pc.f.l pc.f.c,.int .i64 pc.per,.slice pc.ia pc.il pc.ic,.bool pc.h.s,.slice pc.h.a pc.h.l pc.h.c,.int .i64 pc.r] 99)
  have yp:PB _ W.heap.size pc:=heap_alloc_new W (.cells #[.bool pc.f.s,.slice pc.f.a pc.f.l pc.f.c,.int .i64 pc.per,.slice pc.ia pc.il pc.ic,.bool pc.h.s,.slice pc.h.a pc.h.l pc.h.c,.int .i64 pc.r] 99)
  have hlW:p+5<W.heap.size:=(Array.getElem?_eq_some_iff.1 hC.lp).1
  have hCa:=hC.below hp ba
  have hba:=hzb.below ba
  have hza:=hzn.below ba
  have hpa:=hpc.kc (ck_below ba)
  refine⟨hCa.lp,?_⟩
  have hCc:=hCa.put hp {r with state:=.busy}
  have hu:=u32_put hCa.lp (.loop {r with state:=.busy})
  have hpc2:=hpa.kc (ck_put hCa.lp (.loop {r with state:=.busy}))
  have ypc:PB ((W.alloc (.cells #[.bool pc.f.s,.slice pc.f.a pc.f.l pc.f.c,.int .i64 pc.per,.slice pc.ia pc.il pc.ic,.bool pc.h.s,.slice pc.h.a pc.h.l pc.h.c,.int .i64 pc.r] 99)).putObj (p+5) (.loop {r with state:=.busy})) W.heap.size pc:=(World.putObj_heap_other o_m).trans yp
  have tyc:ZB ((W.alloc (.cells #[.bool pc.f.s,.slice pc.f.a pc.f.l pc.f.c,.int .i64 pc.per,.slice pc.ia pc.il pc.ic,.bool pc.h.s,.slice pc.h.a pc.h.l pc.h.c,.int .i64 pc.r] 99)).putObj (p+5) (.loop {r with state:=.busy})) p zt.s zt.a zt.l zt.c:=(World.putObj_heap_other o_m).trans hba
  have tzc:=zn_blk hza (w':=(W.alloc (.cells #[.bool pc.f.s,.slice pc.f.a pc.f.l pc.f.c,.int .i64 pc.per,.slice pc.ia pc.il pc.ic,.bool pc.h.s,.slice pc.h.a pc.h.l pc.h.c,.int .i64 pc.r] 99)).putObj (p+5) (.loop {r with state:=.busy})) (by simp[World.putObj]) hu
  have hkc: ∀k,k<W.heap.size→¬(k=p∨k=p+5)→((W.alloc (.cells #[.bool pc.f.s,.slice pc.f.a pc.f.l pc.f.c,.int .i64 pc.per,.slice pc.ia pc.il pc.ic,.bool pc.h.s,.slice pc.h.a pc.h.l pc.h.c,.int .i64 pc.r] 99)).putObj (p+5) (.loop {r with state:=.busy})).heap[k]? =W.heap[k]?:=fun k hk hF=>(World.putObj_heap_other fun e=>hF (.inr e)).trans (ba.block k hk)
  generalize (W.alloc (.cells #[.bool pc.f.s,.slice pc.f.a pc.f.l pc.f.c,.int .i64 pc.per,.slice pc.ia pc.il pc.ic,.bool pc.h.s,.slice pc.h.a pc.h.l pc.h.c,.int .i64 pc.r] 99)).putObj (p+5) (.loop {r with state:=.busy})=Wc at*
  have hWc:=ypc.lt
  clear ba yp hCa hba hza hpa hu hC hzb hzn hpc
  obtain⟨bp,hbp⟩: ∃bp,W.heap.size=bp:=⟨_,rfl⟩
  rw[hbp]at ypc hlW hWc ⊢
  replace hbp:=hide hbp
  replace hkc:=hide hkc
  gi_upto_region 6 with(fail)
  replace hbp:=hbp.out
  replace hkc:=hkc.out
  refine region_G (S:=(fun w'=>w'.cell? ⟨bp,0,none⟩=some (.bool pc.f.s)∧w'.cell? ⟨bp,1,none⟩=some (.slice pc.f.a pc.f.l pc.f.c)∧w'.cell? ⟨bp,2,none⟩=some (.int .i64 pc.per)∧w'.cell? ⟨bp,3,none⟩=some (.slice pc.ia pc.il pc.ic)∧w'.cell? ⟨bp,4,none⟩=some (.bool pc.h.s)∧w'.cell? ⟨bp,5,none⟩=some (.slice pc.h.a pc.h.l pc.h.c)∧w'.cell? ⟨bp,6,none⟩=some (.int .i64 pc.r))) k_f (fun _=>trivial) (by decide+kernel) ((ypc.below (grow_drew (Below.refl _ _))).all) (fun hHeld=> ?_)
  show anyG _ _ _ _ _ _ _ 5 _ _ _
  have kW:=grow_drew (Below.refl Wc.heap.size Wc)
  have hCW:=hCc.below hp kW
  have tyW:=tyc.below kW
  have tzW:=tzc.below kW
  have ypW:=ypc.below kW
  have hpW:=hpc2.kc (ck_below kW)
  clear hCc tyc tzc ypc hpc2
  generalize Wc.drew=wQ at*
  repeat' first
   |with_reducible exact ReadyG.nil
   |(
    refine anyG_take (i:=1) (oi:=⟨some 20,_,_,_,_,_⟩) (v:=?_) rfl (by decide+kernel) (by decide+kernel) (by decide+kernel) (fun _ _ _ h=>h) (Or.inl ⟨by rfl,?_⟩) (by assumption) ?_
    rotate_left
    ·intro wq hSw;(try dsimp only at hSw);go_simp;(try with_reducible rfl)
    (try simp only[pz]))
   |(refine anyG_ready (rs:=[0,2]) ?_ ?_ ?_;decide+kernel;simp)
   |(refine anyG_ready (rs:=[2]) ?_ ?_ ?_;decide+kernel;simp)
   |(refine anyG_ready (rs:=[3]) ?_ ?_ ?_;decide+kernel;simp)
   |(refine anyG_ready (rs:=[4]) ?_ ?_ ?_;decide+kernel;simp)
   |(refine anyG_ready (rs:=[0]) ?_ ?_ ?_;decide+kernel;simp)
   |(
    first
     |(
      refine ReadyG.cons (i:=0) (o:=⟨some 19,_,_,_,_,_⟩) (by decide+kernel) rfl (fun K hK=> ?_) ?_
      have f0:=tyW.c0
      have f1:=tyW.c1
      go_simp)
     |(
      refine ReadyG.cons (i:=2) (o:=⟨some 21,_,_,_,_,_⟩) (by decide+kernel) rfl (fun K hK=> ?_) ?_
      go_simp
      refine⟨trivial,CallsIn.inRound _ ((callsIn_wide.2 (count_k hwf.p1 hwf.p2 hpW o_m hcn)).mono ?_)⟩
      rintro e wA ⟨sA,aA,lA,cA,rfl,hzC,hlA,kA⟩
      have hCW:=hCW.below hp kA
      have tyW:=tyW.below kA
      have tzW:=tzW.below kA
      have ypW:=ypW.below kA
      have hpW:=hpW.kc (ck_below kA)
      have kW:=grow_step kA kW
      try gi_wp2)
     |(
      refine ReadyG.cons (i:=3) (o:=⟨some 22,_,_,_,_,_⟩) (by decide+kernel) rfl (fun K hK=> ?_) ?_
      go_simp
      refine⟨trivial,CallsIn.inRound _ ((callsIn_wide.2 (Fresh.zadd_n (B:=0) (Fresh.zm_of tzW.zn.zm (Nat.zero_le _)) (Fresh.zm_of hzC.zm (Nat.zero_le _)) o_m o_m)).mono ?_)⟩
      rintro e wB ⟨sB2,aB,lB,cB,rfl,hzB,kB,hlB⟩
      have hCW:=hCW.below hp kB
      have tyW:=tyW.below kB
      have tzW:=tzW.below kB
      have ypW:=ypW.below kB
      have hpW:=hpW.kc (ck_below kB)
      have kW:=grow_step kB kW
      try gi_wp2)
     |(
      refine ReadyG.cons (i:=4) (o:=⟨none,_,_,_,_,_⟩) (by decide+kernel) rfl (fun K hK=> ?_) ?_
      have f0:=tyW.c0
      have f1:=tyW.c1
      have f2:=tyW.f 0
      have f3:=tyW.f 1
      have o2:=only2 p wB (.bool sB2) (.slice aB lB cB)
      have hCW:=hCW.only hp o2 (.inl rfl)
      have hzB:=zn_blk hzB (Nat.le_of_eq o2.size.symm) (u32_only o2 tyW (by decide))
      have hfin:=zb_fin tyW sB2 aB lB cB
      have ypW:=ypW.only o2 o_m
      have kO:Kb (fun b=>b=p∨b=p+5) wB ((wB.setCell ⟨p,0,none⟩ (.bool sB2)).setCell ⟨p,1,none⟩ (.slice aB lB cB)):=⟨Nat.le_of_eq o2.size.symm,fun k _ hk=>o2.block k fun e=>hk (.inl e)⟩
      go_simp
      clear f0 f1 f2 f3 o2)
    refine hK.out _ _ ?_ ?_
    ·first|with_reducible exact trivial|((try dsimp only);exact ypW.all)
    clear hK K hHeld;intro hHeld
    (try simp only[pz]))
  all_goals
   refine anyG_done ?_ ?_ _
   ·decide+kernel
   have hC9:=hCW.put hp {r with state:=.ready,pending:=none}
   have hu9:=u32_put hCW.lp (.loop {r with state:=.ready,pending:=none})
   have hz9:=zn_blk hzB (by simp[World.putObj]) hu9
   have hb9:ZB (((wB.setCell ⟨p,0,none⟩ (.bool sB2)).setCell ⟨p,1,none⟩ (.slice aB lB cB)).putObj (p+5) (.loop {r with state:=.ready,pending:=none})) p sB2 aB lB cB:=(World.putObj_heap_other o_m).trans hfin
   have hk9:Kb (fun b=>b=p∨b=p+5) W (((wB.setCell ⟨p,0,none⟩ (.bool sB2)).setCell ⟨p,1,none⟩ (.slice aB lB cB)).putObj (p+5) (.loop {r with state:=.ready,pending:=none})):=by
    refine⟨?_,fun k hk hF=> ?_⟩
    ·have h1:=kO.size
     have h2:=kW.size
     simp only[World.putObj,Array.size_setIfInBounds]
     omega
    rw[World.putObj_heap_other (fun e=>hF (.inr e)),kO.block k (by have:=kW.size;omega) hF,kW.block k o_m]
    exact hkc k hk hF
   refine⟨hCW.lp,hR.out _ ?_ ?_⟩
   ·rw[lrec_again hr]at hC9 hz9 hb9 ⊢
    refine⟨⟨⟨sB2,aB,lB,cB⟩,hb9,?_,?_⟩,hC9⟩
    ·rw[cntS_snoc]
     rw[Int.natCast_add]
     exact hz9
    show lB≤_
    rw[List.length_append,List.length_singleton]
    omega
   rw[lrec_again hr]at hk9 ⊢
   exact hk9
 rintro e W' ⟨hret,⟨F,rfl,⟨zt,hzb,hzn,hzl⟩,hC⟩|hX⟩
 ·refine⟨hret,.inl ⟨hC.lp,?_⟩⟩
  have hC2:=hC.put hp {r with state:=.exhausted}
  have hzn2:=zn_blk hzn (w':=W'.putObj (p+5) (.loop {r with state:=.exhausted})) (by simp[World.putObj]) (u32_put hC.lp _)
  have hzb2:ZB (W'.putObj (p+5) (.loop {r with state:=.exhausted})) p zt.s zt.a zt.l zt.c:=(World.putObj_heap_other o_m).trans hzb
  clear hJ0 hC hzn hzb
  generalize W'.putObj (p+5) (.loop {r with state:=.exhausted})=Wf at*
  have c0:=hzb2.c0
  have c1:=hzb2.c1
  have f0:=hC2.res.c0
  have f1:=hC2.res.c1
  have f2:=hC2.res.f 0
  have f3:=hC2.res.f 1
  have o2:=only2 (w.heap.size+2) Wf (.bool zt.s) (.slice zt.a zt.l zt.c)
  have hfin:=hide (zb_fin hC2.res zt.s zt.a zt.l zt.c)
  have hdf:=hide ((o2.block _ o_m).trans hC2.df)
  have hz3:=hide (zn_blk hzn2 (Nat.le_of_eq o2.size.symm) (u32_only o2 hC2.res (by decide)))
  have hbl:=hide (hC2.bx.bel.trans (o2.below o_m))
  have hplen:Hid ((pcA D.cs lo hi).length≤1073741824):=hide (by
   unfold pcA
   split
   ·simp
   exact Nat.le_trans (pcs_len _ _ _) o_m)
  clear hC2 hzn2 hzb2 o2
  gi_wp2
  refine⟨by simp,.inl ⟨_,_,rfl,run_takeDeferred hdf.out,?_⟩⟩
  refine⟨_,results_ct rfl _ _ (w.heap.size+2) 38 _ (0,0) _ rfl ((World.putObj_heap_other o_m).trans hfin.out) Tryz.underlying38 rfl k_f,?_⟩
  have hv:(cntS (mem D) (pcA D.cs lo hi):Nat)=cntI (mem D) lo hi:=by
   unfold pcA
   split
   ·rename_i h
    rw[cntI_none _ h]
    rfl
   exact cntS_pcs _ o_m
  have hz4:=zn_blk hz3.out (w':=((Wf.setCell ⟨w.heap.size+2,0,none⟩ (.bool zt.s)).setCell ⟨w.heap.size+2,1,none⟩ (.slice zt.a zt.l zt.c)).putObj (p+4) (.deferred none)) (by simp[World.putObj]) fun g hg=>World.putObj_heap_other fun e=>by
   obtain⟨cur,h2⟩:=hg
   rw[e,hdf.out]at h2
   cases h2
  rw[hv]at hz4
  exact⟨zt,rfl,hz4.zn,by have:=hplen.out;omega,hbl.out.trans (bel_put _ o_m)⟩
 exact hX.elim
end Pd
end Go.Proofs.YtaafoppaepcaeaaGreat
