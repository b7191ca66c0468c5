/-
 Several texts in one: Y6,Y7,YT,Y8,Y9.
-/
import Derived.Test.YtbgpddlcfiiiaaaGreatDoorSbm19
import Derived.Shelf.SlSortCmp.NoneTotal
import Derived.Test.YtbgpddlcfiiiaaaGreatDoorSbm12
import Derived.Maps.AppendAt
set_option maxRecDepth 100000
set_option maxHeartbeats 1600000
namespace Go.Proofs.YtbgpddlcfiiiaaaGreatDoor
open Go.RowKit Go.Sort Go.Shelf
open Tm

variable {B len cap g B' m b n cp l c r n0 cp0 l0:Nat}{w w' w0 w2 w1:World}{s s0:Bool}{ad a ad0 a0:Option Addr}{z k:Int}{left:Lit→Bool}{rs:List Raw}{ps:List (Int × Int)}
theorem fzn_grown (h:Fresh.Zn B w s ad len cap z)(hg:w.grownBy w' (some g))(hB:g<B):Fresh.Zn B w' s ad len cap z:=by
  obtain⟨n,⟨⟨zs,h1,h2,h3⟩,h4,h5⟩,h6⟩:=h
  rcases h5 with⟨rfl,rfl⟩|⟨b,xs,rfl,hb,hr,hl⟩
  · refine⟨n,⟨⟨zs,?_,h2,h3⟩,Nat.le_trans h4 hg.size,.inl ⟨rfl,rfl⟩⟩,h6⟩
    obtain⟨g1,g2,g3,g4,g5⟩:=h1
    exact⟨g1,g2,g3,g4,.inl ⟨rfl,by omega,rfl⟩⟩
  have hne:b≠g:=by omega
  have hbl:b<w.heap.size:=Fresh.row_lt hr
  have e:w'.heap[b]? =w.heap[b]?:=hg.block b hbl (by simpa using hne)
  refine⟨n,⟨⟨zs,?_,h2,h3⟩,Nat.le_trans h4 hg.size,.inr ⟨b,xs,rfl,hb,e.trans hr,hl⟩⟩,h6⟩
  obtain⟨g1,g2,g3,g4,g5⟩:=h1
  refine⟨g1,g2,g3,g4,?_⟩
  rcases g5 with g5|⟨a,ha,g5⟩
  · exact .inl g5
  refine .inr ⟨a,ha,?_⟩
  rcases g5 with g5|⟨b',off,rfl,hlt,hc⟩
  · exact .inl g5
  cases ha
  exact .inr ⟨b,0,rfl,Nat.lt_of_lt_of_le hlt hg.size,fun i hi=>(World.cell?_of_block (a:=⟨b,0+i,none⟩) e).trans (hc i hi)⟩
theorem fzn_below (h:Fresh.Zn B w s ad len cap z)(hb:Below w.heap.size w w'):Fresh.Zn B w' s ad len cap z:=by
  obtain⟨n,⟨h1,h2,h3⟩,h4⟩:=h
  exact⟨n,⟨h1.below hb,Nat.le_trans h2 hb.size,h3.below hb⟩,h4⟩

theorem fzn_mono (h:Fresh.Zn B w s ad len cap z)(hB:B'≤B):Fresh.Zn B' w s ad len cap z:=by
  obtain⟨n,⟨h1,h2,h3⟩,h4⟩:=h
  exact⟨n,⟨h1,Nat.le_trans hB h2,h3.mono hB⟩,h4⟩
theorem fzn_zero (h:B≤w.heap.size):Fresh.Zn B w false none 0 0 0:=by
  obtain⟨n,h1,h2⟩:=zn_zero w
  exact⟨n,⟨h1,h,.inl ⟨rfl,rfl⟩⟩,h2⟩
def Kn (w:World)(ad:Option Addr)(s:Bool)(a:Option Addr)(l c:Nat)(k:Int):Prop:=Zn w s a l c k∧∀g,ad=some ⟨g,0,none⟩→Fresh.Zn (g+1) w s a l c k

def Tr (w0 w:World)(ad:Option Addr)(len:Nat)(rs:List Raw)(B:Nat):Prop:=
  rs.length=len∧((ad=none∧len=0)∨ ∃g,ad=some ⟨g,0,none⟩∧w0.heap.size≤g∧PQ w0 w g rs B)

structure Col (w:World) (f:Int→Int) (B:Nat) (left:Lit→Bool) (rs:List Raw):Prop where
  ok: ∀x∈rs,x.ok w B
  z: ∀x∈rs,x.z=f x.v∧x.z≠0∧left (.int .i64 x.v)=false
  nd:(rs.map Raw.v).Nodup
  all: ∀v,I64 v→left (.int .i64 v)=false→f v≠0→∃x∈rs,x.v=v

theorem col_start {D:DataW Value}{f:Int→Int}(h:GA w D f B):Col w f B (Maps.has D) []:=
  ⟨fun x hx=>(by cases hx),fun x hx=>(by cases hx),List.nodup_nil,fun v hv hl hf=>by
    rcases h v hv with⟨_,h2⟩|⟨s,a,l,c,h2,_⟩
    · exact absurd h2 hf
    rw[Maps.has_true_of_atKey h2]at hl;cases hl⟩
theorem sameKey_i (u v:Int):(Lit.int .i64 u).sameKey (.int .i64 v)=decide (u=v):=by
  by_cases h:u=v
  · subst h;simp[Lit.sameKey]
  rw[Maps.sameKey_ne (fun e=>h (by injection e))];simp[h]
theorem col_skip {f:Int→Int}{v:Int}(h:Col w f B left rs)(hf:f v=0):Col w f B (fun z=>left z&& !z.sameKey (.int .i64 v)) rs:=
  ⟨h.ok,fun x hx=>⟨(h.z x hx).1,(h.z x hx).2.1,by simp[(h.z x hx).2.2]⟩,h.nd,fun u hu hl hfu=>by
    by_cases e:u=v
    · subst e;exact absurd hf hfu
    rw[sameKey_i]at hl
    simp[e]at hl
    exact h.all u hu hl hfu⟩
theorem col_step {f:Int→Int}{x:Raw}(h:Col w f B left rs)(hx:x.ok w B)(hz:x.z=f x.v)(h0:x.z≠0)(hl:left (.int .i64 x.v)=true):Col w f B (fun z=>left z&& !z.sameKey (.int .i64 x.v)) (rs++ [x]):=
  ⟨fun y hy=>(List.mem_append.1 hy).elim (h.ok y) (fun e=>by rw[List.mem_singleton.1 e];exact hx),
   fun y hy=>by
    rcases List.mem_append.1 hy with e|e
    · exact⟨(h.z y e).1,(h.z y e).2.1,by simp[(h.z y e).2.2]⟩
    rw[List.mem_singleton.1 e];exact⟨hz,h0,by rw[sameKey_i];simp⟩,
   by
    rw[List.map_append,List.nodup_append]
    refine⟨h.nd,by simp,fun a ha b hb=> ?_⟩
    simp at hb
    subst hb
    rintro rfl
    obtain⟨y,hy,e⟩:=List.mem_map.1 ha
    have:=(h.z y hy).2.2
    rw[e,hl]at this
    exact Bool.noConfusion this,
   fun u hu hlu hfu=>by
    by_cases e:u=x.v
    · exact⟨x,by simp,e.symm⟩
    rw[sameKey_i]at hlu
    simp[e]at hlu
    obtain⟨y,hy,e⟩:=h.all u hu hlu hfu
    exact⟨y,by simp[hy],e⟩⟩

theorem infoP :(Tryz.prog.info? 117).map (fun i=>(i.zero,i.size,i.bytes))=some (some (.agg #[.int .i64 0,.bool false,.slice none 0 0]),3,40):=by kernel_rfl

theorem invK_i : ∀key kl,keyOf Tryz.prog 3 key=some kl→∃x:Int,key=Value.int .i64 x:=fun key kl h=>by
  obtain⟨x,rfl,_⟩:=Maps.keyOf_int_inv Tryz.underlying3 h
  exact⟨x,rfl⟩
def mkV (q:Bool × Option Addr × Nat × Nat):Value:=.agg #[.bool q.1,.slice q.2.1 q.2.2.1 q.2.2.2]
theorem invV_i : ∀v y,elemR v=some y→∃q,v=mkV q:=fun v y h=>by
  obtain⟨s,a,l,c,rfl,_⟩:=elemR_inv h
  exact⟨(s,a,l,c),rfl⟩

theorem wpList_next_z {ops:Array Oper}{rest:List Oper}{o:Oper}{a:Act}{Q:Exit→Act→World→Prop}(hg:o.guard=none)(it:Operand)(hop:o.op=Op.next it false)(b r n:Nat)(D:DataW Value)(left:Lit→Bool)(cnt:Nat)
    (hit:a.eval it= .pointer (some ⟨r,0,none⟩))(h:w.ranges Tryz.prog 3 elemR b r n D left cnt)
    (hDone:(∀kl,left kl=false)→wpList Tryz.prog ops Q rest (a.put o.dst (.tuple #[.bool false])) w)
    (hMore: ∀(v:Int) (s:Bool) (ad:Option Addr) (l c:Nat) (w':World) (cnt':Nat),I64 v→left (.int .i64 v)=true→(∀zd,D.atKey (.int .i64 v) zd= .held (.agg #[.bool s,.slice ad l c]))→w'.ranges Tryz.prog 3 elemR b r n D (fun z=>left z&& !z.sameKey (.int .i64 v)) cnt'→cnt'<cnt→
      w.grownBy w' (some r)→(Instr.entry (.pointer (some ⟨r,0,none⟩))).run Tryz.prog w'= .ok (.tuple #[.int .i64 v,.agg #[.bool s,.slice ad l c]]) w'→wpList Tryz.prog ops Q rest (a.put o.dst (.tuple #[.bool true,.int .i64 v,.agg #[.bool s,.slice ad l c]])) w'):
    wpList Tryz.prog ops Q (o::rest) a w:=by
  refine wpList_next_ranges w hg it hop 3 tk elemR (Value.int .i64) mkV invK_i invV_i b r n D left cnt hit h (fun _ hl=>hDone hl) ?_
  rintro v q kl y w' cnt' hkey hlk hv hat hrg hlt hgr hsz hen
  obtain⟨v',ev,rfl,hwf⟩:=Maps.keyOf_int_inv Tryz.underlying3 hkey
  cases ev
  obtain⟨s,ad,l,c⟩:=q
  cases hv
  exact hMore v s ad l c w' cnt' (wf_i64 hwf) hlk hat hrg hlt hgr hen

theorem bg (h:Below w.heap.size w w'):w.grownBy w' none:=⟨h.os,h.tape,h.output,h.size,fun k hk _=>h.block k hk⟩
theorem v3_new (W:World)(v:Int)(s:Bool)(a:Option Addr)(l c:Nat): ∀j u,([.int .i64 v,.bool s,.slice a l c]:List Value)[j]? =some u→(W.alloc (.cells #[.int .i64 v,.bool s,.slice a l c] 117)).cell? ((⟨W.heap.size,0,none⟩:Addr).add j)=some u:=by
  intro j u hj
  match j,hj with
  |0,hj=>simp at hj;subst hj;simp[Addr.add]
  |1,hj=>simp at hj;subst hj;simp[Addr.add]
  |2,hj=>simp at hj;subst hj;simp[Addr.add]
  |j+3,hj=>simp at hj
theorem v3_one (v:Int)(s:Bool)(a:Option Addr)(l c:Nat): ∀u∈([.int .i64 v,.bool s,.slice a l c]:List Value),u.oneCell'=true:=by
  intro u h
  simp at h
  rcases h with rfl|rfl|rfl <;> rfl

theorem col_std {f:Int→Int}{rs':List Raw}(h:Col w f B left rs)(hl: ∀kl,left kl=false)(hp:rs'.Perm rs)(hs:rs'.Pairwise (fun x y=>x.v<y.v)):Std (rs'.map Raw.p)∧∀v,I64 v→csum (rs'.map Raw.p) v=f v:=by
  have hStd:Std (rs'.map Raw.p):=by
    refine⟨?_,fun p hq=> ?_⟩
    · rw[List.pairwise_map];exact hs
    obtain⟨x,hx,rfl⟩:=List.mem_map.1 hq
    exact(h.z x (hp.mem_iff.1 hx)).2.1
  refine⟨hStd,fun v hv=> ?_⟩
  by_cases hf:f v=0
  · rw[hf]
    refine csum_none fun p hq e=> ?_
    obtain⟨x,hx,rfl⟩:=List.mem_map.1 hq
    have:=h.z x (hp.mem_iff.1 hx)
    change x.v=v at e
    rw[e,hf]at this
    exact this.2.1 this.1
  obtain⟨x,hx,e⟩:=h.all v hv (hl _) hf
  have:=std_csum_mem hStd (List.mem_map.2 ⟨x,hp.mem_iff.2 hx,rfl⟩)
  change csum (rs'.map Raw.p) x.v=x.z at this
  rw[←e,this,(h.z x hx).1]
theorem col_end {f:Int→Int}(h:Col w f B left [])(hl: ∀kl,left kl=false)(v:Int)(hv:I64 v):csum (([]:List Raw).map Raw.p) v=f v:=(col_std h hl (List.Perm.refl _) List.Pairwise.nil).2 v hv
theorem gb_set (w:World)(b i:Nat)(v:Value):w.grownBy (w.setCell ⟨b,i,none⟩ v) (some b):=⟨rfl,rfl,rfl,by simp[World.setCell],fun k _ hk=>Below.heap_setCell _ _ _ _ (fun e=>hk (by rw[e]))⟩
theorem tb_set (w:World)(b:Nat)(v0 v1 v2:Value):w.grownBy (((w.setCell ⟨b,0,none⟩ v0).setCell ⟨b,1,none⟩ v1).setCell ⟨b,2,none⟩ v2) (some b):=gb_trans (gb_trans (gb_set _ _ _ _) (gb_set _ _ _ _)) (gb_set _ _ _ _)
theorem PQ.below (h:PQ w0 w g rs B)(hb:Below w.heap.size w w'):PQ w0 w' g rs B:=
  ⟨Nat.lt_of_lt_of_le h.1 hb.size,fun i hi=>by
    have e:w'.heap[g]? =w.heap[g]?:=hb.block g h.1
    obtain⟨h1,h2,h3⟩:=h.2 i hi
    simp only[World.cell?,World.frozen?,e]at*
    exact⟨h1,h2,h3⟩⟩
theorem PQ.grown (h:PQ w0 w g rs B)(hg:w.grownBy w' (some m))(hm:g≠m):PQ w0 w' g rs B:=
  ⟨Nat.lt_of_lt_of_le h.1 hg.size,fun i hi=>by
    have e:w'.heap[g]? =w.heap[g]?:=hg.block g h.1 (by simpa using hm)
    obtain⟨h1,h2,h3⟩:=h.2 i hi
    simp only[World.cell?,World.frozen?,e]at*
    exact⟨h1,h2,h3⟩⟩

def TB (w:World)(b:Nat)(ad:Option Addr)(n cp:Nat)(s:Bool)(a:Option Addr)(l c:Nat):Prop:=w.heap[b]? =some (.cells #[.slice ad n cp,.bool s,.slice a l c] 28 (0,0))
theorem tb_new (w:World)(ad:Option Addr)(n cp:Nat)(s:Bool)(a:Option Addr)(l c:Nat):TB (w.alloc (.cells #[.slice ad n cp,.bool s,.slice a l c] 28)) w.heap.size ad n cp s a l c:=heap_alloc_new w _
theorem TB.lt (h:TB w b ad n cp s a l c):b<w.heap.size:=(Array.getElem?_eq_some_iff.1 h).1
theorem TB.c0 (h:TB w b ad n cp s a l c):w.cell? ⟨b,0,none⟩=some (.slice ad n cp):=cell_of_row w b 0 _ _ (0,0) h
theorem TB.c1 (h:TB w b ad n cp s a l c):w.cell? ⟨b,1,none⟩=some (.bool s):=cell_of_row w b 1 _ _ (0,0) h
theorem TB.c2 (h:TB w b ad n cp s a l c):w.cell? ⟨b,2,none⟩=some (.slice a l c):=cell_of_row w b 2 _ _ (0,0) h
theorem TB.f (h:TB w b ad n cp s a l c)(i:Nat):w.frozen? ⟨b,i,none⟩=false:=frozen_of_row w b i _ _ h
theorem TB.below (h:TB w b ad n cp s a l c)(hb:Below w.heap.size w w'):TB w' b ad n cp s a l c:=(hb.block b h.lt).trans h
theorem TB.grown (h:TB w b ad n cp s a l c)(hg:w.grownBy w' (some m))(hm:b≠m):TB w' b ad n cp s a l c:=(hg.block b h.lt (by simpa using hm)).trans h
theorem ZB.grown (h:ZB w b s a l c)(hg:w.grownBy w' (some m))(hm:b≠m):ZB w' b s a l c:=(hg.block b h.lt (by simpa using hm)).trans h
theorem tb_noU (h:TB w b ad n cp s a l c):NoU w b:=by
  intro off x
  rw[cell_of_row w b off _ _ (0,0) h]
  match off with
  |0=>simp
  |1=>simp
  |2=>simp
  |k+3=>simp
theorem gb_none (h:w.grownBy w' none):Below w.heap.size w w':=⟨h.os,h.tape,h.output,h.size,fun k hk=>h.block k hk (by simp)⟩
theorem tb_fin (h:TB w b ad n cp s a l c)(ad':Option Addr)(n' cp':Nat)(s':Bool)(a':Option Addr)(l' c':Nat):
    TB (((w.setCell ⟨b,0,none⟩ (.slice ad' n' cp')).setCell ⟨b,1,none⟩ (.bool s')).setCell ⟨b,2,none⟩ (.slice a' l' c')) b ad' n' cp' s' a' l' c':=
  heap_setCell_same _ b 2 _ _ _ (heap_setCell_same _ b 1 _ _ _ (heap_setCell_same w b 0 _ _ _ h))


theorem gather1 {W:World}{ty:TypeId}{fz:Nat × Nat}(hb:W.heap[b]? =some (.cells #[.slice ad n cp] ty fz))(h:Pr W ad n ps B)(hB:B+n≤536870912):
  Calls Tryz.prog 35 #[.slice (some ⟨b,0,none⟩) 1 1] W fun e w'=> ∃m,e= .returned (.map (some m))∧GM w' m n (csum ps) (B+n)∧Below W.heap.size W w'∧W.heap.size≤m:=by
 have hn:=h.1
 have:=gather_n (w:=W) (b:=b) (off:=0) (k:=1) (cap:=1) (pss:=[ps]) (B:=B) rfl (by decide) (Array.getElem?_eq_some_iff.1 hb).1 (fun j hj=>by
  obtain rfl:j=0:=by simp at hj;omega
  exact⟨ad,n,cp,cell_of_row W b 0 _ _ fz hb,h⟩) (by simp[hn];omega)
 simpa [hn] using this
def TN (w w':World)(ad:Option Addr)(n:Nat)(s:Bool)(a:Option Addr)(l c:Nat)(rs:List Raw)(k:Int)(B:Nat):Prop:=
 ∃w1,Below w.heap.size w w1∧Below w1.heap.size w1 w'∧Tr w1 w' ad n rs B∧Kn w' ad s a l c k∧l≤B
theorem TN.mono (h:TN w w' ad n s a l c rs k B)(hB:B≤B'):TN w w' ad n s a l c rs k B':=by
 obtain⟨w1,h1,h2,⟨h3,h4⟩,h5,h6⟩:=h
 refine⟨w1,h1,h2,⟨h3,?_⟩,h5,Nat.le_trans h6 hB⟩
 rcases h4 with h4|⟨g,e,hg,hlt,h4⟩
 ·exact .inl h4
 exact .inr ⟨g,e,hg,hlt,fun i hi=>⟨(h4 i hi).1,(h4 i hi).2.1,(h4 i hi).2.2.1,Nat.le_trans (h4 i hi).2.2.2.1 hB,(h4 i hi).2.2.2.2⟩⟩
theorem TN.below (h:TN w w' ad n s a l c rs k B):Below w.heap.size w w':=by
 obtain⟨w1,h1,h2,_⟩:=h;exact grow_step h2 h1
theorem TN.zn (h:TN w w' ad n s a l c rs k B):Zn w' s a l c k:=by
 obtain⟨w1,_,_,_,h1,_⟩:=h;exact h1.1
theorem TN.le (h:TN w w' ad n s a l c rs k B):l≤B:=by
 obtain⟨w1,_,_,_,_,h1⟩:=h;exact h1
theorem TN.pr (h:TN w w' ad n s a l c rs k B):Pr w' ad n (rs.map Raw.p) B:=by
 obtain⟨w1,h1,h2,⟨h3,h4⟩,_⟩:=h
 refine⟨by simpa using h3,?_⟩
 rcases h4 with⟨_,h4⟩|⟨g,e,hg,hlt,h4⟩
 ·exact .inl h4
 refine .inr ⟨g,0,e,hlt,fun i hi=> ?_⟩
 have hi':i<rs.length:=by simpa using hi
 obtain⟨⟨c0,c1,c2⟩,_,hz,hl,hv⟩:=h4 i hi'
 rw[List.getElem_map,Nat.zero_add]
 exact⟨_,_,_,_,c0,c1,c2,(hz.below h2).zm,hl,hv⟩
theorem Pr.i64 (h:Pr w ad n ps B): ∀p∈ps,I64 p.1:=by
 intro p hp
 obtain⟨h1,h2⟩:=h
 obtain⟨i,hi,rfl⟩:=List.getElem_of_mem hp
 rcases h2 with h2|⟨b,off,_,_,h2⟩
 ·omega
 obtain⟨s,a,l,c,_,_,_,_,_,hv⟩:=h2 i hi
 exact hv
theorem csum_i64 (h: ∀p∈ps,I64 p.1){v:Int}(hv: ¬I64 v):csum ps v=0:=csum_none fun p hp e=>hv (e▸h p hp)
theorem csum_all {qs:List (Int × Int)}(h1: ∀p∈ps,I64 p.1)(h2: ∀p∈qs,I64 p.1)(h: ∀v,I64 v→csum ps v=csum qs v): ∀v,csum ps v=csum qs v:=fun v=>by
 by_cases hv:I64 v
 ·exact h v hv
 rw[csum_i64 h1 hv,csum_i64 h2 hv]

theorem tk3 {wb:World}{p:Nat}(x:TB wb p ad n cp s a l c)(hp:p<r)(k:Below r wb w'):
  w'.cell? ⟨p,0,none⟩=some (.slice ad n cp)∧w'.cell? ⟨p,1,none⟩=some (.bool s)∧w'.cell? ⟨p,2,none⟩=some (.slice a l c)∧Below r wb w':=by
 have x':TB w' p ad n cp s a l c:=(k.block p hp).trans x
 exact⟨x'.c0,x'.c1,x'.c2,k⟩
theorem Tr.mono (h:Tr w0 w ad n rs B)(hB:B≤B'):Tr w0 w ad n rs B':=by
 obtain⟨h3,h4⟩:=h
 refine⟨h3,?_⟩
 rcases h4 with h4|⟨g,e,hg,hlt,h4⟩
 ·exact .inl h4
 exact .inr ⟨g,e,hg,hlt,fun i hi=>⟨(h4 i hi).1,(h4 i hi).2.1,(h4 i hi).2.2.1,Nat.le_trans (h4 i hi).2.2.2.1 hB,(h4 i hi).2.2.2.2⟩⟩
theorem mid {wb W:World}(_:Below W.heap.size W w2)(h:Below wb.heap.size wb W):Below wb.heap.size wb W:=h
theorem raw_grown {w0':World}(hg:w0.grownBy w0' (some m))(hm:NoU w0 m){x:Raw}(h:x.ok w0 B):x.ok w0' B:=⟨h.1.grownU hg hm,h.2.1,h.2.2⟩

theorem tset_below {c0:Nat}(k2:Below w1.heap.size w1 w2)(y1:TB w1 r ad0 n0 cp0 s0 a0 l0 c0)(ad':Option Addr)(n' cp':Nat)(s':Bool)(a':Option Addr)(l' c':Nat):
  Below (((w1.setCell ⟨r,0,none⟩ (.slice ad' n' cp')).setCell ⟨r,1,none⟩ (.bool s')).setCell ⟨r,2,none⟩ (.slice a' l' c')).heap.size (((w1.setCell ⟨r,0,none⟩ (.slice ad' n' cp')).setCell ⟨r,1,none⟩ (.bool s')).setCell ⟨r,2,none⟩ (.slice a' l' c')) (((w2.setCell ⟨r,0,none⟩ (.slice ad' n' cp')).setCell ⟨r,1,none⟩ (.bool s')).setCell ⟨r,2,none⟩ (.slice a' l' c')):=by
 refine⟨k2.os,k2.tape,k2.output,by simpa [World.setCell] using k2.size,fun k hk=> ?_⟩
 by_cases e:k=r
 ·subst e
  exact(tb_fin (y1.below k2) ad' n' cp' s' a' l' c').trans (tb_fin y1 ad' n' cp' s' a' l' c').symm
 have hk1:k<w1.heap.size:=by simpa [World.setCell] using hk
 have hk2:k<w2.heap.size:=Nat.lt_of_lt_of_le hk1 k2.size
 rw[(tb_set w2 r _ _ _).block k hk2 (by simpa using e),(tb_set w1 r _ _ _).block k hk1 (by simpa using e)]
 exact k2.block k hk1
theorem tn_fin2 {c0:Nat}{ad':Option Addr}{n':Nat}{s':Bool}{a':Option Addr}{l' c':Nat}(b1:Below w.heap.size w w1)(k2:Below w1.heap.size w1 w2)(hT:Tr w1 w2 ad' n' rs B)
  (y1:TB w1 r ad0 n0 cp0 s0 a0 l0 c0)(hr:w.heap.size≤r)(hz:Kn w2 ad' s' a' l' c' k)(hl:l'≤B)(cp':Nat):
  ∃w1',w1'.heap.size=w1.heap.size∧Below w.heap.size w w1'∧Below w1'.heap.size w1' (((w2.setCell ⟨r,0,none⟩ (.slice ad' n' cp')).setCell ⟨r,1,none⟩ (.bool s')).setCell ⟨r,2,none⟩ (.slice a' l' c'))∧Tr w1' (((w2.setCell ⟨r,0,none⟩ (.slice ad' n' cp')).setCell ⟨r,1,none⟩ (.bool s')).setCell ⟨r,2,none⟩ (.slice a' l' c')) ad' n' rs B∧Kn (((w2.setCell ⟨r,0,none⟩ (.slice ad' n' cp')).setCell ⟨r,1,none⟩ (.bool s')).setCell ⟨r,2,none⟩ (.slice a' l' c')) ad' s' a' l' c' k∧l'≤B:=by
 refine⟨((w1.setCell ⟨r,0,none⟩ (.slice ad' n' cp')).setCell ⟨r,1,none⟩ (.bool s')).setCell ⟨r,2,none⟩ (.slice a' l' c'),by simp[World.setCell],below_grown b1 (tb_set _ _ _ _ _) hr,tset_below k2 y1 _ _ _ _ _ _ _,?_,⟨hz.1.grownU (tb_set _ _ _ _ _) (tb_noU (y1.below k2)),fun g e=>fzn_grown (hz.2 g e) (tb_set _ _ _ _ _) (by
  rcases hT.2 with⟨h,_⟩|⟨g',e',hg',_⟩
  ·rw[h]at e;cases e
  rw[e']at e;cases e;have:=y1.lt;omega)⟩,hl⟩
 obtain⟨h3,h4⟩:=hT
 refine⟨h3,?_⟩
 rcases h4 with h4|⟨g,e,hg,h4⟩
 ·exact .inl h4
 have h5:=h4.grown (tb_set w2 r (.slice ad' n' cp') (.bool s') (.slice a' l' c')) (by have:=y1.lt;omega)
 refine .inr ⟨g,e,by simpa [World.setCell] using hg,h5.1,fun i hi=>⟨(h5.2 i hi).1,(h5.2 i hi).2.1,raw_grown (tb_set _ _ _ _ _) (tb_noU y1) (h5.2 i hi).2.2⟩⟩

theorem tn_fin {c0:Nat}{ad':Option Addr}{n':Nat}{s':Bool}{a':Option Addr}{l' c':Nat}(b1:Below w.heap.size w w1)(k2:Below w1.heap.size w1 w2)(hT:Tr w1 w2 ad' n' rs B)
  (y1:TB w1 r ad0 n0 cp0 s0 a0 l0 c0)(hr:w.heap.size≤r)(hz:Kn w2 ad' s' a' l' c' k)(hl:l'≤B)(cp':Nat):
  TN w (((w2.setCell ⟨r,0,none⟩ (.slice ad' n' cp')).setCell ⟨r,1,none⟩ (.bool s')).setCell ⟨r,2,none⟩ (.slice a' l' c')) ad' n' s' a' l' c' rs k B:=by
 obtain⟨w1',_,h⟩:=tn_fin2 b1 k2 hT y1 hr hz hl cp'
 exact⟨w1',h⟩

end Go.Proofs.YtbgpddlcfiiiaaaGreatDoor

namespace Go.Proofs.YtbgpddlcfiiiaaaGreatDoor.Fresh
open Go.RowKit
open Go.Maps (Keyed)
open Tm

variable {F cap m n len B b:Nat}{w w':World}{ad:Option Addr}{D:DataW Value}{s:Bool}{z:Int}{f:Int→Int}
def NR (w:World)(m:Nat):Prop:=∀xs,¬Row w m xs
theorem Fr.grownN (h:Fr F w ad cap)(hg:w.grownBy w' (some m))(hm:NR w m):Fr F w' ad cap:=by
 rcases h with h|⟨b,xs,h1,h2,h3,h4⟩
 ·exact .inl h
 exact .inr ⟨b,xs,h1,h2,(hg.block b (row_lt h3) (fun e=>by cases e;exact hm xs h3)).trans h3,h4⟩
theorem nr_map (h:w.ownsMap Tryz.prog 3 elemR m n D):NR w m:=by
 intro xs hr
 obtain⟨es,clock,hb,_⟩:=h
 have hr':=hb.symm.trans hr
 cases hr'
theorem zn_zm (h:Zn F w s ad len cap z):Zm F w s ad len cap z:=by
 obtain⟨n,h1,h2,_⟩:=h
 exact⟨n,h1.nm,h2⟩
theorem zn_map (h:Zn F w s ad len cap z)(hg:w.grownBy w' (some m))(hm: ∀off,w.cell? ⟨m,off,none⟩=none)(hr:NR w m):Zn F w' s ad len cap z:=by
 obtain⟨n,⟨⟨zs,g1,g2,g3⟩,h2,h3⟩,h4⟩:=h
 exact⟨n,⟨⟨zs,g1.grown hg hm,g2,g3⟩,Nat.le_trans h2 hg.size,h3.grownN hg hr⟩,h4⟩
theorem zn_lc (h:Zn F w s ad len cap z):len≤cap:=by
 obtain⟨n,⟨⟨zs,g1,_⟩,_⟩,_⟩:=h
 exact g1.2.1

def GA (F:Nat)(w:World)(D:DataW Value)(f:Int→Int)(B:Nat):Prop:=
 ∀v,I64 v→(Maps.has D (.int .i64 v)=false∧f v=0)∨ ∃s a l c,(∀zd,D.atKey (.int .i64 v) zd= .held (.agg #[.bool s,.slice a l c]))∧Zn F w s a l c (f v)∧l≤B
def GM (F:Nat)(w:World)(m n:Nat)(f:Int→Int)(B:Nat):Prop:=∃D,w.ownsMap Tryz.prog 3 elemR m n D∧GA F w D f B
theorem GA.kept (h:GA F w D f B)(hz: ∀s a l c z,Zn F w s a l c z→Zn F w' s a l c z):GA F w' D f B:=fun v hv=>by
 rcases h v hv with h1|⟨s,a,l,c,h1,h2,h3⟩
 ·exact .inl h1
 exact .inr ⟨s,a,l,c,h1,hz _ _ _ _ _ h2,h3⟩
theorem GA.old (h:GA F w D f B):Go.Proofs.YtbgpddlcfiiiaaaGreatDoor.GA w D f B:=fun v hv=>by
 rcases h v hv with h1|⟨s,a,l,c,h1,h2,h3⟩
 ·exact .inl h1
 exact .inr ⟨s,a,l,c,h1,h2.zn,h3⟩
theorem GM.below (h:GM F w m n f B)(hb:Below w.heap.size w w'):GM F w' m n f B:=by
 obtain⟨D,h1,h2⟩:=h
 exact⟨D,h1.kept (row:=none) ⟨hb.os,hb.tape,hb.output,hb.size,fun k hk _=>hb.block k hk⟩ (by simp),h2.kept fun _ _ _ _ _ hz=>fzn_below hz hb⟩
theorem GM.lt (h:GM F w m n f B):m<w.heap.size:=by
 obtain⟨D,h1,_⟩:=h;exact h1.lt
theorem gm_new (w:World)(B:Nat):GM F (w.alloc (.map #[] 0)) w.heap.size 0 (fun _=>0) B:=
 ⟨_,World.ownsMap_made w _ _ _,fun _ _=> .inl ⟨rfl,rfl⟩⟩
theorem GM.look (h:GM F w m n f B)(hF:F≤w.heap.size){v:Int}(hv:I64 v):
  ∃s a l c,(Instr.lookup 78 (.map (some m)) (.int .i64 v) false).run Tryz.prog w= .ok (.agg #[.bool s,.slice a l c]) w∧Zn F w s a l c (f v)∧l≤B:=by
 obtain⟨D,h1,h2⟩:=h
 obtain⟨u,ps,hrun,hu⟩:=h1.lookup tk Tryz.underlying78 (Tryz.zeroValue26 w) (elemR_mk _ _ _ _) (keyOf_i hv)
 obtain⟨s,a,l,c,rfl,e⟩:=elemR_inv hu
 refine⟨s,a,l,c,hrun,?_⟩
 rcases h2 v hv with⟨h3,h4⟩|⟨s',a',l',c',h3,h4,h5⟩
 ·rw[Maps.atKey_of_not_has h3]at e
  simp at e
  obtain⟨⟨rfl,rfl,rfl,rfl⟩,_⟩:=e
  rw[h4]
  exact⟨fzn_zero hF,Nat.zero_le _⟩
 rw[h3]at e
 simp at e
 obtain⟨⟨rfl,rfl,rfl,rfl⟩,_⟩:=e
 exact⟨h4,h5⟩
theorem GM.store (h:GM F w m n f B){v:Int}(hv:I64 v)(hn:n≤1099511627776){s:Bool}{a:Option Addr}{l c:Nat}{z:Int}(hz:Zn F w s a l c z){B':Nat}(hl:l≤B')(hB:B≤B'):
  ∃w',(Instr.mapUpdate 78 (.map (some m)) (.int .i64 v) (.agg #[.bool s,.slice a l c])).run Tryz.prog w= .ok () w'∧GM F w' m (n+1) (fun u=>if u=v then z else f u) B'∧w.grownBy w' (some m):=by
 obtain⟨D,h1,h2⟩:=h
 obtain⟨w',hrun,h3,h4⟩:=h1.store tk Tryz.underlying78 (by unfold maxLen;omega) (keyOf_i hv) (elemR_mk s a l c)
 have hg:=h4.grown
 refine⟨w',hrun,⟨_,h3,fun u hu=> ?_⟩,hg⟩
 by_cases e:u=v
 ·subst e
  exact .inr ⟨s,a,l,c,fun zd=>Maps.atKey_put_same h1.isMap (isKey_i u hu) _ _,by simpa using zn_map hz hg (map_nocell h1) (nr_map h1),hl⟩
 have hne:(Lit.int .i64 u)≠ .int .i64 v:=fun h=>e (by injection h)
 simp only[e,if_false]
 rcases h2 u hu with⟨h5,h6⟩|⟨s',a',l',c',h5,h6,h7⟩
 ·exact .inl ⟨by rw[Maps.has_put_other hne];exact h5,h6⟩
 exact .inr ⟨s',a',l',c',fun zd=>by rw[Maps.atKey_put_other hne];exact h5 zd,zn_map h6 hg (map_nocell h1) (nr_map h1),Nat.le_trans h7 hB⟩
theorem GM.del (h:GM F w m n f B){v:Int}(hv:I64 v)(ty:TypeId):
  ∃w',(Builtin.delete_ #[78,3] ty #[.map (some m),.int .i64 v]).run Tryz.prog w= .ok (.tuple #[]) w'∧GM F w' m n (fun u=>if u=v then 0 else f u) B∧w.grownBy w' (some m):=by
 obtain⟨D,h1,h2⟩:=h
 obtain⟨w',hrun,h3,h4⟩:=h1.drop tk Tryz.underlying78 (keyOf_i hv) ty
 have hg:=h4.grown
 refine⟨w',hrun,⟨_,h3,fun u hu=> ?_⟩,hg⟩
 by_cases e:u=v
 ·subst e
  exact .inl ⟨Maps.has_del_same,by simp⟩
 have hne:(Lit.int .i64 u)≠ .int .i64 v:=fun h=>e (by injection h)
 simp only[e,if_false]
 rcases h2 u hu with⟨h5,h6⟩|⟨s',a',l',c',h5,h6,h7⟩
 ·exact .inl ⟨by rw[Maps.has_del_other hne];exact h5,h6⟩
 exact .inr ⟨s',a',l',c',fun zd=>by rw[Maps.atKey_del_other hne];exact h5 zd,zn_map h6 hg (map_nocell h1) (nr_map h1),h7⟩
theorem gather_n {off k:Nat}{pss:List (List (Int × Int))}(hF:F≤w.heap.size)(hk:pss.length=k)(hk2:k≤2)(hbl:b<w.heap.size)
  (hL: ∀j (h:j<pss.length),∃ad n cp,w.cell? ⟨b,off+j,none⟩=some (.slice ad n cp)∧Pr w ad n pss[j] B)(hB:B+pss.flatten.length≤536870912):
  Calls Tryz.prog 35 #[.slice (some ⟨b,off,none⟩) k cap] w fun e w'=> ∃m,e= .returned (.map (some m))∧GM F w' m pss.flatten.length (csum pss.flatten) (B+pss.flatten.length)∧Below w.heap.size w w'∧w.heap.size≤m:=by
 have hmm:=run_makeMap (P:=Tryz.prog) 78 w
 go_enter Tryz.func35,Tryz.ntmps35
 go_wp2_with fail
 have hG0:=gm_new (F:=F) w B
 have b0:=below_alloc w (.map #[] 0)
 generalize w.alloc (.map #[] 0)=w1 at*
 generalize hm:w.heap.size=m at*
 replace b0:Below w.heap.size w w1:=hm▸b0
 replace hbl:b<w.heap.size:=hm▸hbl
 replace hF:Hid (F≤w.heap.size):=hm▸hF
 replace hm:=hide hm
 clear hmm
 go_loopw [11] (fun j wr=> ∃t:Nat,t≤k∧j= .int .i64 t∧GM F wr m (pss.take t).flatten.length (csum (pss.take t).flatten) (B+(pss.take t).flatten.length)∧Below w.heap.size w wr) (fun j _=>k-(intOf j).toNat)
 case atStart=>exact⟨0,Nat.zero_le _,rfl,by simpa [csum] using hG0,b0⟩
 case round=>
  obtain⟨t,ht,rfl,hG,kr⟩:=hrel
  by_cases htk:t<k
  ·obtain⟨ad,n,cp,hc,hP⟩:=hL t o_m
   replace hc:=(kr.cell (p:=⟨b,off+t,none⟩) hbl).trans hc
   have hsplit:=hide (List.take_succ_eq_append_getElem (l:=pss) (i:=t) o_m)
   have hlen:=hide (flat_len pss t o_m)
   generalize pss[t]=ps at*
   generalize hqs:(pss.take t).flatten=qs at*
   replace hqs:=hide hqs
   obtain⟨hn,hP⟩:=hP
   have hnb:n≤536870912:=by have:=hlen.out;omega
   go_wp2_with fail
   go_loopw [17] (fun i wv=> ∃s:Nat,s≤n∧i= .int .i64 s∧GM F wv m (qs++ps.take s).length (csum (qs++ps.take s)) (B+(qs++ps.take s).length)∧Below w.heap.size w wv) (fun i _=>n-(intOf i).toNat)
   case atStart=>exact⟨0,Nat.zero_le _,rfl,by simpa using hG,kr⟩
   case round=>
    obtain⟨s,hs,rfl,hG,kv⟩:=hrel
    by_cases hsn:s<n
    ·rcases hP with hP|⟨bp,op,rfl,hP⟩
     ·omega
     have hPA:=(hP.below kv).2 s o_m
     obtain⟨s1,a1,l1,c1,e0,e1,e2,hz,hl1,hv⟩:=hPA
     have hps:Hid (ps.take (s+1)=ps.take s++ [ps[s]]):=List.take_succ_eq_append_getElem (l:=ps) (i:=s) o_m
     have hle:(qs++ps.take s).length+1≤qs.length+ps.length:=by rw[List.length_append,List.length_take];omega
     replace hle:B+(qs++ps.take s).length+1≤536870912:=by have:=hlen.out;omega
     generalize ps[s]=p at*
     go_wp2_with fail
     have x:=pb_new wr p.1 s1 a1 l1 c1
     have kb:=below_alloc wr (.cells #[.int .i64 p.1,.bool s1,.slice a1 l1 c1] 117)
     have hqm:wr.heap.size≠m:=Nat.ne_of_gt hG.lt
     replace hG:=hG.below kb
     replace hz:=hz.below kb
     replace kv:=hide (grow_step kb kv)
     clear kb e0 e1 e2
     generalize wr.alloc (.cells #[.int .i64 p.1,.bool s1,.slice a1 l1 c1] 117)=wb at*
     generalize wr.heap.size=q at*
     have kd:=grow_drew (Below.refl wb.heap.size wb)
     have hGd:=hG.below kd
     replace hz:=hz.below kd
     obtain⟨s2,a2,l2,c2,hlook,hz2,hl2⟩:=hGd.look (Nat.le_trans hF.out kv.out.size) hv
     have hzF:=hide (zm_of hz (Nat.le_trans hF.out kv.out.size:F≤wb.drew.heap.size))
     have hd:wb.grownBy wb.drew (some m):=⟨rfl,rfl,rfl,Nat.le_refl _,fun _ _ _=>rfl⟩
     go_region_held3 (fun w'=>w'.cell? ⟨q,0,none⟩=some (.int .i64 p.1)∧w'.cell? ⟨q,1,none⟩=some (.bool s1)∧w'.cell? ⟨q,2,none⟩=some (.slice a1 l1 c1)∧wb.grownBy w' (some m))
      ((refine pk x hqm ?_;assumption))
      (first|(go_at_call 37;refine(zadd_n (zn_zm hz2) hzF.out (by omega) (by omega)).mono ?_;rintro e w1 ⟨s3,a3,l3,c3,rfl,hz3,k3,hl3⟩;obtain⟨w2,hst,hG2,hg2⟩:=(hGd.below k3).store hv (by omega) hz3 (B':=B+(qs++ps.take s).length+1) (by omega) (by omega);have hg1:=gb_below hd k3;replace hg2:=gb_trans hg1 hg2))
     replace kv:=hide (below_grown kv.out hg2 (Nat.le_of_eq hm.out))
     go_wp2_with fail
     refine⟨⟨s+1,by omega,by go_num,?_,kv⟩,by simp[intOf];omega⟩
     rw[hps.out,←List.append_assoc,show csum (qs++ps.take s++ [p])=fun u=>if u=p.1 then csum (qs++ps.take s) p.1+p.2 else csum (qs++ps.take s) u from funext fun u=>by
      rw[csum_snoc]
      by_cases e:u=p.1
      ·subst e;simp
      have e': ¬p.1=u:=fun h=>e h.symm
      simp[e,e']]
     simpa [Nat.add_assoc] using hG2
    obtain rfl:s=n:=by omega
    have e1:=hide (show(pss.take (t+1)).flatten=qs++ps.take s by rw[hsplit.out,List.flatten_append,List.flatten_singleton,hqs.out,List.take_of_length_le (Nat.le_of_eq hn)])
    go_wp2_with fail
    refine⟨⟨t+1,by omega,by go_num,?_,kv⟩,by simp[intOf];omega⟩
    rw[e1.out]
    exact hG
  obtain rfl:t=k:=by omega
  rw[List.take_of_length_le (Nat.le_of_eq hk)]at hG
  go_wp2
  go_ret
  exact⟨m,rfl,hG,kr,Nat.le_of_eq hm.out⟩
theorem gather1 {W:World}{cp:Nat}{ps:List (Int × Int)}{ty:TypeId}{fz:Nat × Nat}(hF:F≤W.heap.size)(hb:W.heap[b]? =some (.cells #[.slice ad n cp] ty fz))(h:Pr W ad n ps B)(hB:B+n≤536870912):
  Calls Tryz.prog 35 #[.slice (some ⟨b,0,none⟩) 1 1] W fun e w'=> ∃m,e= .returned (.map (some m))∧GM F w' m n (csum ps) (B+n)∧Below W.heap.size W w'∧W.heap.size≤m:=by
 have hn:=h.1
 have:=gather_n (F:=F) (w:=W) (b:=b) (off:=0) (k:=1) (cap:=1) (pss:=[ps]) (B:=B) hF rfl (by decide) (Array.getElem?_eq_some_iff.1 hb).1 (fun j hj=>by
  obtain rfl:j=0:=by simp at hj;omega
  exact⟨ad,n,cp,cell_of_row W b 0 _ _ fz hb,h⟩) (by simp[hn];omega)
 simpa [hn] using this
theorem gather2 {W:World}{ad2:Option Addr}{cp n2 cp2:Nat}{ps qs:List (Int × Int)}{ty:TypeId}{fz:Nat × Nat}(hF:F≤W.heap.size)(hb:W.heap[b]? =some (.cells #[.slice ad n cp,.slice ad2 n2 cp2] ty fz))(h:Pr W ad n ps B)(h2:Pr W ad2 n2 qs B)(hB:B+(n+n2)≤536870912):
  Calls Tryz.prog 35 #[.slice (some ⟨b,0,none⟩) 2 2] W fun e w'=> ∃m,e= .returned (.map (some m))∧GM F w' m (n+n2) (csum (ps++qs)) (B+(n+n2))∧Below W.heap.size W w'∧W.heap.size≤m:=by
 have hn:=h.1
 have hn2:=h2.1
 have:=gather_n (F:=F) (w:=W) (b:=b) (off:=0) (k:=2) (cap:=2) (pss:=[ps,qs]) (B:=B) hF rfl (by decide) (Array.getElem?_eq_some_iff.1 hb).1 (fun j hj=>by
  match j,hj with
  |0,_=>exact⟨ad,n,cp,cell_of_row W b 0 _ _ fz hb,h⟩
  |1,_=>exact⟨ad2,n2,cp2,cell_of_row W b 1 _ _ fz hb,h2⟩
  |j+2,hj=>simp at hj;omega) (by simp[hn,hn2];omega)
 simpa [hn,hn2] using this
end Go.Proofs.YtbgpddlcfiiiaaaGreatDoor.Fresh

namespace Go.Proofs.YtbgpddlcfiiiaaaGreatDoor
open Go.RowKit Go.Sort Go.Shelf
open Tm

variable {w' w:World}{ad a:Option Addr}{n l c B:Nat}{s:Bool}{k:Int}
theorem tk6 {wb:World}{p p2 r:Nat}{cp:Nat}{ad2:Option Addr}{n2 cp2:Nat}{s2:Bool}{a2:Option Addr}{l2 c2:Nat}(x:TB wb p ad n cp s a l c)(x2:TB wb p2 ad2 n2 cp2 s2 a2 l2 c2)(hp:p<r)(hp2:p2<r)(k:Below r wb w'):
  w'.cell? ⟨p,0,none⟩=some (.slice ad n cp)∧w'.cell? ⟨p,1,none⟩=some (.bool s)∧w'.cell? ⟨p,2,none⟩=some (.slice a l c)∧w'.cell? ⟨p2,0,none⟩=some (.slice ad2 n2 cp2)∧w'.cell? ⟨p2,1,none⟩=some (.bool s2)∧w'.cell? ⟨p2,2,none⟩=some (.slice a2 l2 c2)∧Below r wb w':=by
 have x':TB w' p ad n cp s a l c:=(k.block p hp).trans x
 have x2':TB w' p2 ad2 n2 cp2 s2 a2 l2 c2:=(k.block p2 hp2).trans x2
 exact⟨x'.c0,x'.c1,x'.c2,x2'.c0,x2'.c1,x2'.c2,k⟩


def TW (w:World)(ad:Option Addr)(n:Nat)(s:Bool)(a:Option Addr)(l c:Nat)(ps:List (Int × Int))(k:Int)(B:Nat):Prop:=Pr w ad n ps B∧Zm w s a l c k∧l≤B
theorem TN.tw {rs:List Raw}(h:TN w w' ad n s a l c rs k B):TW w' ad n s a l c (rs.map Raw.p) k B:=⟨h.pr,h.zn.zm,h.le⟩
theorem TW.below {ps:List (Int × Int)}(h:TW w ad n s a l c ps k B)(hb:Below w.heap.size w w'):TW w' ad n s a l c ps k B:=⟨h.1.below hb,h.2.1.below hb,h.2.2⟩
theorem tconst_n (hz:Zm w s a l c k)(hl:l+1≤B)(hB:B≤1099511627776):
  Calls Tryz.prog 21 #[.agg #[.bool s,.slice a l c]] w fun e w'=> ∃s' a' l' c',e= .returned (.agg #[.slice none 0 0,.bool s',.slice a' l' c'])∧TN w w' none 0 s' a' l' c' [] k B:=by
 go_enter Tryz.func21,Tryz.ntmps21
 go_wp2_with fail
 have y:=tb_new (w.alloc (.cells #[.bool s,.slice a l c] 26)) none 0 0 false none 0 0
 have b0:Below w.heap.size w ((w.alloc (.cells #[.bool s,.slice a l c] 26)).alloc (.cells #[.slice none 0 0,.bool false,.slice none 0 0] 28)):=below_alloc' (below_alloc _ _) _
 rw[show(w.alloc (.cells #[.bool s,.slice a l c] 26)).heap.size=w.heap.size+1 from by simp]at y
 generalize (w.alloc (.cells #[.bool s,.slice a l c] 26)).alloc (.cells #[.slice none 0 0,.bool false,.slice none 0 0] 28)=wb at*
 have hr:w.heap.size≤w.heap.size+1:=by omega
 generalize w.heap.size+1=r at*
 refine(norm_n (hz.below b0) o_m).mono ?_
 rintro e w2 ⟨s',a',l',c',rfl,hz2,k2,hl2⟩
 have y':=y.below k2
 have y0:=y'.c0
 have y1:=y'.c1
 have y2:=y'.c2
 have y3:=y'.f 0
 have y4:=y'.f 1
 have y5:=y'.f 2
 have hTN:=hide (tn_fin (rs:=[]) (ad':=none) (n':=0) (B:=B) (grow_step k2 b0) (Below.refl w2.heap.size w2) ⟨rfl,.inl ⟨rfl,rfl⟩⟩ y' hr ⟨hz2,fun g e=>by cases e⟩ o_m 0)
 clear b0 k2
 go_wp2
 refine bodyPost_ret (results_cell_row rfl _ _ r 28 _ (0,0) _ rfl (tb_fin y' none 0 0 s' a' l' c') Tryz.underlying28 rfl k_f) rfl ?_
 exact⟨s',a',l',c',by simp,hTN.out⟩

theorem tvar_n {v:Int}(hv:I64 v)(hB:2≤B):
  Calls Tryz.prog 19 #[.int .i64 v] w fun e w'=> ∃ad' cp' rs,e= .returned (.agg #[.slice ad' 1 cp',.bool false,.slice none 0 0])∧TN w w' ad' 1 false none 0 0 rs 0 B∧rs.map Raw.p= [(v,1)]:=by
 go_enter Tryz.func19,Tryz.ntmps19
 go_wp2_with fail
 have y:=tb_new w none 0 0 false none 0 0
 have b0:Below w.heap.size w (w.alloc (.cells #[.slice none 0 0,.bool false,.slice none 0 0] 28)):=below_alloc _ _
 generalize w.alloc (.cells #[.slice none 0 0,.bool false,.slice none 0 0] 28)=wb at*
 generalize hr:w.heap.size=r at*
 replace b0:Below w.heap.size w wb:=hr▸b0
 replace hr:=hide hr
 refine(zof_n 1 (by decide) (by decide) wb).mono ?_
 rintro e w2 ⟨s',a',l',c',rfl,hz2,k2,hl2⟩
 have x3:=pb_new w2 v s' a' l' c'
 have k3:=below_alloc w2 (.cells #[.int .i64 v,.bool s',.slice a' l' c'] 117)
 have y1':=y.below k2
 have y':=y1'.below k3
 have y0:=y'.c0
 have y1:=y'.c1
 have y2:=y'.c2
 have y3:=y'.f 0
 have y4:=y'.f 1
 have y5:=y'.f 2
 have hT:Tr w2 (w2.alloc (.cells #[.int .i64 v,.bool s',.slice a' l' c'] 117)) (some ⟨w2.heap.size,0,none⟩) 1 [⟨v,s',a',l',c',1⟩] B:=by
  refine⟨rfl,.inr ⟨_,rfl,Nat.le_refl _,x3.lt,fun i hi=> ?_⟩⟩
  obtain rfl:i=0:=by simp at hi;omega
  exact⟨⟨x3.c0,x3.c1,x3.c2⟩,⟨frozen_of_row _ _ _ _ _ x3,frozen_of_row _ _ _ _ _ x3,frozen_of_row _ _ _ _ _ x3⟩,hz2,Nat.le_trans hl2 hB,hv⟩
 have hTN:=hide (tn_fin (w:=w) (grow_step k2 b0) k3 hT y1' (Nat.le_of_eq hr.out) ⟨zn_zero _,fun g e=>by cases e;exact fzn_zero x3.lt⟩ (Nat.zero_le _) 1)
 clear b0 k2 k3 hT x3
 go_wp2
 refine bodyPost_ret (results_cell_row rfl _ _ r 28 _ (0,0) _ rfl (tb_fin y' (some ⟨w2.heap.size,0,none⟩) 1 1 false none 0 0) Tryz.underlying28 rfl k_f) rfl ?_
 exact⟨some ⟨w2.heap.size,0,none⟩,1,_,by simp,hTN.out,rfl⟩

theorem tcoef_n {cp:Nat}{ps:List (Int × Int)}{v:Int}(hP:Pr w ad n ps B)(hB:B+n≤536870912):
  Calls Tryz.prog 151 #[.agg #[.slice ad n cp,.bool s,.slice a l c],.int .i64 v] w fun e w'=> ∃s' a' l' c',e= .returned (.agg #[.bool s',.slice a' l' c'])∧Zn w' s' a' l' c' (csum ps v)∧l'≤B+n∧Below w.heap.size w w':=by
 obtain⟨hn,hP⟩:=hP
 go_enter Tryz.func151,Tryz.ntmps151
 go_wp2_with fail
 have y:=(zb_new (w.alloc (.cells #[.slice ad n cp,.bool s,.slice a l c] 28)) false none 0 0).below (below_alloc _ (.cells #[.bool false,.slice none 0 0] 26))
 have q:=zb_new ((w.alloc (.cells #[.slice ad n cp,.bool s,.slice a l c] 28)).alloc (.cells #[.bool false,.slice none 0 0] 26)) false none 0 0
 have b0:Below w.heap.size w (((w.alloc (.cells #[.slice ad n cp,.bool s,.slice a l c] 28)).alloc (.cells #[.bool false,.slice none 0 0] 26)).alloc (.cells #[.bool false,.slice none 0 0] 26)):=below_alloc' (below_alloc' (below_alloc _ _) _) _
 rw[show(w.alloc (.cells #[.slice ad n cp,.bool s,.slice a l c] 28)).heap.size=w.heap.size+1 from by simp]at y
 rw[show((w.alloc (.cells #[.slice ad n cp,.bool s,.slice a l c] 28)).alloc (.cells #[.bool false,.slice none 0 0] 26)).heap.size=w.heap.size+1+1 from by simp]at q
 generalize ((w.alloc (.cells #[.slice ad n cp,.bool s,.slice a l c] 28)).alloc (.cells #[.bool false,.slice none 0 0] 26)).alloc (.cells #[.bool false,.slice none 0 0] 26)=wb at*
 have hpr:w.heap.size≤w.heap.size+1∧w.heap.size+1<w.heap.size+1+1:=by omega
 generalize hp:w.heap.size=p at*
 replace b0:Hid (Below w.heap.size w wb):=hp▸b0
 replace hp:=hide hp
 generalize p+1=r at*
 generalize r+1=u at*
 replace hpr:=hide hpr
 go_loopw [11] (fun i wr=> ∃(t:Nat) (s1:Bool) (a1:Option Addr) (l1 c1:Nat),t≤n∧i= .int .i64 t∧ZB wr u s1 a1 l1 c1∧Zn wr s1 a1 l1 c1 (csum (ps.take t) v)∧l1≤B+t∧ZB wr r false none 0 0∧Hid (Below w.heap.size w wr)) (fun i _=>n-(intOf i).toNat)
 case atStart=>exact⟨0,false,none,0,0,Nat.zero_le _,rfl,q,by simpa [csum] using zn_zero wb,by omega,y,b0⟩
 case round=>
  obtain⟨t,s1,a1,l1,c1,ht,rfl,hq,hzs,hl1,hy,kr⟩:=hrel
  have q0:=hq.c0
  have q1:=hq.c1
  by_cases htn:t<n
  ·rcases hP with hP|⟨bp,op,rfl,hP⟩
   ·omega
   obtain⟨s2,a2,l2,c2,e0,e1,e2,hz,hl2,hv⟩:=(hP.below kr.out).2 t o_m
   have hps:Hid (ps.take (t+1)=ps.take t++ [ps[t]]):=List.take_succ_eq_append_getElem (l:=ps) (i:=t) o_m
   generalize ps[t]=pp at*
   have ka:=below_alloc wr (.cells #[.int .i64 pp.1,.bool s2,.slice a2 l2 c2] 117)
   have hq2:=hq.below ka
   have hy2:=hy.below ka
   have hul:=hq.lt
   have kr2:=hide (grow_step ka kr.out)
   have hzs2:=hzs.below ka
   have hz2:=hz.below ka
   obtain⟨pv,pz⟩:=pp
   dsimp only at*
   by_cases hvv:pv=v
   ·subst hvv
    go_wp2_with fail
    refine(zadd_n hzs2.zm hz2 o_m o_m).mono ?_
    rintro e w3 ⟨s3,a3,l3,c3,rfl,hz3,k3,hl3⟩
    replace hq2:=hq2.below k3
    have q4:=hq2.c0
    have q5:=hq2.c1
    have q6:=hq2.f 0
    have q7:=hq2.f 1
    replace hy2:=hy2.below k3
    replace kr2:=hide (grow_step k3 kr2.out)
    clear ka k3
    go_wp2_with fail
    refine⟨⟨t+1,s3,a3,l3,c3,by omega,by go_num,zb_fin hq2 s3 a3 l3 c3,?_,by omega,?_,?_⟩,by simp[intOf];omega⟩
    ·rw[hps.out,csum_snoc,if_pos rfl]
     exact zb_zn hq2 hz3 _ _ _ _
    ·exact hy2.only (only2 _ _ _ _) (by have:=hpr.out;omega)
    exact(kr2.out.setCell (by have:=hpr.out;have:=hp.out;show w.heap.size≤u;omega) _).setCell (by have:=hpr.out;have:=hp.out;show w.heap.size≤u;omega) _
   go_wp2_with fail
   refine⟨⟨t+1,s1,a1,l1,c1,by omega,by go_num,hq2,?_,by omega,hy2,kr2⟩,by simp[intOf];omega⟩
   rw[hps.out,csum_snoc,if_neg hvv,Int.add_zero]
   exact hzs2
  obtain rfl:t=n:=by omega
  rw[List.take_of_length_le (Nat.le_of_eq hn)]at hzs
  have y0:=hy.c0
  have y1:=hy.c1
  have y2:=hy.f 0
  have y3:=hy.f 1
  go_wp2
  refine bodyPost_ret (results_cell_row rfl _ _ r 26 _ (0,0) _ rfl (zb_fin hy s1 a1 l1 c1) Tryz.underlying26 rfl k_f) rfl ?_
  exact⟨s1,a1,l1,c1,by simp,zb_zn hy hzs _ _ _ _,hl1,(kr.out.setCell (by have:=hpr.out;have:=hp.out;show w.heap.size≤r;omega) _).setCell (by have:=hpr.out;have:=hp.out;show w.heap.size≤r;omega) _⟩
end Go.Proofs.YtbgpddlcfiiiaaaGreatDoor
