/-
 Several texts in one: Y6,Y7,Y8,Y9,YA,YB,YC,YD,YE,YF,YG,YH,YI,A0,BA,YT.
-/
import Derived.Test.YtllfelooahplhaaGreatDoorSbnT
import Derived.Test.YtllfelooahplhaaGreatDoorSbn21
import Derived.Shelf.SlSortCmp.NoneTotal
import Derived.Test.YtllfelooahplhaaGreatDoorSbn18
import Derived.Maps.AppendAt
import Derived.Test.YtllfelooahplhaaGreatDoorSbn12
import Derived.Test.YtllfelooahplhaaGreatDoorSbn14
set_option maxRecDepth 100000
set_option maxHeartbeats 6400000
namespace Go.Proofs.YtllfelooahplhaaGreatDoor
open Go.RowKit Go.Sort Go.Shelf
open Tm

variable {B len cap g B' base n r m b cp l c n2 cp2 p n0 cp0 l0 n' l' c' l2 B2 t:Nat}{w w' w0 W wb w2 w1:World}{s s0 s' s2:Bool}{ad a ad2 ad0 a0 ad' a' a2:Option Addr}{z v k k2:Int}{rs:List Raw}{ps qs:List (Int × Int)}
theorem fzn_grown (h:Fresh.Zn B w s ad len cap z)(hg:w.grownBy w' (some g))(hB:g<B):Fresh.Zn B w' s ad len cap z:=by
  obtain⟨n,⟨⟨zs,h1,h2,h3⟩,h4,h5⟩,h6⟩:=h
  rcases h5 with⟨rfl,rfl⟩|⟨b,xs,rfl,hb,hr,hl⟩
  · refine⟨n,⟨⟨zs,?_,h2,h3⟩,Nat.le_trans h4 hg.size,.inl ⟨rfl,rfl⟩⟩,h6⟩
    obtain⟨g1,g2,g3,g4,g5⟩:=h1
    exact⟨g1,g2,g3,g4,.inl ⟨rfl,by omega,rfl⟩⟩
  have hne:b≠g:=by omega
  have hbl:b<w.heap.size:=Fresh.row_lt hr
  have e:w'.heap[b]? =w.heap[b]?:=hg.block b hbl (by simpa using hne)
  refine⟨n,⟨⟨zs,?_,h2,h3⟩,Nat.le_trans h4 hg.size,.inr ⟨b,xs,rfl,hb,e.trans hr,hl⟩⟩,h6⟩
  obtain⟨g1,g2,g3,g4,g5⟩:=h1
  refine⟨g1,g2,g3,g4,?_⟩
  rcases g5 with g5|⟨a,ha,g5⟩
  · exact .inl g5
  refine .inr ⟨a,ha,?_⟩
  rcases g5 with g5|⟨b',off,rfl,hlt,hc⟩
  · exact .inl g5
  cases ha
  exact .inr ⟨b,0,rfl,Nat.lt_of_lt_of_le hlt hg.size,fun i hi=>(World.cell?_of_block (a:=⟨b,0+i,none⟩) e).trans (hc i hi)⟩
theorem fzn_below (h:Fresh.Zn B w s ad len cap z)(hb:Below w.heap.size w w'):Fresh.Zn B w' s ad len cap z:=by
  obtain⟨n,⟨h1,h2,h3⟩,h4⟩:=h
  exact⟨n,⟨h1.below hb,Nat.le_trans h2 hb.size,h3.below hb⟩,h4⟩

theorem fzn_mono (h:Fresh.Zn B w s ad len cap z)(hB:B'≤B):Fresh.Zn B' w s ad len cap z:=by
  obtain⟨n,⟨h1,h2,h3⟩,h4⟩:=h
  exact⟨n,⟨h1,Nat.le_trans hB h2,h3.mono hB⟩,h4⟩
theorem fzn_zero (h:B≤w.heap.size):Fresh.Zn B w false none 0 0 0:=by
  obtain⟨n,h1,h2⟩:=zn_zero w
  exact⟨n,⟨h1,h,.inl ⟨rfl,rfl⟩⟩,h2⟩
def Kn (w:World)(ad:Option Addr)(s:Bool)(a:Option Addr)(l c:Nat)(k:Int):Prop:=Zn w s a l c k∧∀g,ad=some ⟨g,0,none⟩→Fresh.Zn (g+1) w s a l c k

def Tr (w0 w:World)(ad:Option Addr)(len:Nat)(rs:List Raw)(B:Nat):Prop:=
  rs.length=len∧((ad=none∧len=0)∨ ∃g,ad=some ⟨g,0,none⟩∧w0.heap.size≤g∧PQ w0 w g rs B)

structure Col (w:World) (f:Int→Int) (B:Nat) (left:Lit→Bool) (rs:List Raw):Prop where
  ok: ∀x∈rs,x.ok w B
  z: ∀x∈rs,x.z=f x.v∧x.z≠0∧left (.int .i64 x.v)=false
  nd:(rs.map Raw.v).Nodup
  all: ∀v,I64 v→left (.int .i64 v)=false→f v≠0→∃x∈rs,x.v=v

theorem col_start {D:DataW Value}{f:Int→Int}(h:GA w D f B):Col w f B (Maps.has D) []:=
  ⟨fun x hx=>(by cases hx),fun x hx=>(by cases hx),List.nodup_nil,fun v hv hl hf=>by
    rcases h v hv with⟨_,h2⟩|⟨s,a,l,c,h2,_⟩
    · exact absurd h2 hf
    rw[Maps.has_true_of_atKey h2]at hl;cases hl⟩
theorem sameKey_i (u v:Int):(Lit.int .i64 u).sameKey (.int .i64 v)=decide (u=v):=by
  by_cases h:u=v
  · subst h;simp[Lit.sameKey]
  rw[Maps.sameKey_ne (fun e=>h (by injection e))];simp[h]
theorem col_skip {f:Int→Int}{left:Lit→Bool}(h:Col w f B left rs)(hf:f v=0):Col w f B (fun z=>left z&& !z.sameKey (.int .i64 v)) rs:=
  ⟨h.ok,fun x hx=>⟨(h.z x hx).1,(h.z x hx).2.1,by simp[(h.z x hx).2.2]⟩,h.nd,fun u hu hl hfu=>by
    by_cases e:u=v
    · subst e;exact absurd hf hfu
    rw[sameKey_i]at hl
    simp[e]at hl
    exact h.all u hu hl hfu⟩
theorem col_step {f:Int→Int}{left:Lit→Bool}{x:Raw}(h:Col w f B left rs)(hx:x.ok w B)(hz:x.z=f x.v)(h0:x.z≠0)(hl:left (.int .i64 x.v)=true):Col w f B (fun z=>left z&& !z.sameKey (.int .i64 x.v)) (rs++ [x]):=
  ⟨fun y hy=>(List.mem_append.1 hy).elim (h.ok y) (fun e=>by rw[List.mem_singleton.1 e];exact hx),
   fun y hy=>by
    rcases List.mem_append.1 hy with e|e
    · exact⟨(h.z y e).1,(h.z y e).2.1,by simp[(h.z y e).2.2]⟩
    rw[List.mem_singleton.1 e];exact⟨hz,h0,by rw[sameKey_i];simp⟩,
   by
    rw[List.map_append,List.nodup_append]
    refine⟨h.nd,by simp,fun a ha b hb=> ?_⟩
    simp at hb
    subst hb
    rintro rfl
    obtain⟨y,hy,e⟩:=List.mem_map.1 ha
    have:=(h.z y hy).2.2
    rw[e,hl]at this
    exact Bool.noConfusion this,
   fun u hu hlu hfu=>by
    by_cases e:u=x.v
    · exact⟨x,by simp,e.symm⟩
    rw[sameKey_i]at hlu
    simp[e]at hlu
    obtain⟨y,hy,e⟩:=h.all u hu hlu hfu
    exact⟨y,by simp[hy],e⟩⟩

theorem infoP :(Tryz.prog.info? 134).map (fun i=>(i.zero,i.size,i.bytes))=some (some (.agg #[.int .i64 0,.bool false,.slice none 0 0]),3,40):=by kernel_rfl

theorem invK_i : ∀key kl,keyOf Tryz.prog 3 key=some kl→∃x:Int,key=Value.int .i64 x:=fun key kl h=>by
  obtain⟨x,rfl,_⟩:=Maps.keyOf_int_inv Tryz.underlying3 h
  exact⟨x,rfl⟩
def mkV (q:Bool × Option Addr × Nat × Nat):Value:=.agg #[.bool q.1,.slice q.2.1 q.2.2.1 q.2.2.2]
theorem invV_i : ∀v y,elemR v=some y→∃q,v=mkV q:=fun v y h=>by
  obtain⟨s,a,l,c,rfl,_⟩:=elemR_inv h
  exact⟨(s,a,l,c),rfl⟩

theorem wpList_next_z {ops:Array Oper}{rest:List Oper}{o:Oper}{a:Act}{Q:Exit→Act→World→Prop}(hg:o.guard=none)(it:Operand)(hop:o.op=Op.next it false)(b r n:Nat)(D:DataW Value)(left:Lit→Bool)(cnt:Nat)
    (hit:a.eval it= .pointer (some ⟨r,0,none⟩))(h:w.ranges Tryz.prog 3 elemR b r n D left cnt)
    (hDone:(∀kl,left kl=false)→wpList Tryz.prog ops Q rest (a.put o.dst (.tuple #[.bool false])) w)
    (hMore: ∀(v:Int) (s:Bool) (ad:Option Addr) (l c:Nat) (w':World) (cnt':Nat),I64 v→left (.int .i64 v)=true→(∀zd,D.atKey (.int .i64 v) zd= .held (.agg #[.bool s,.slice ad l c]))→w'.ranges Tryz.prog 3 elemR b r n D (fun z=>left z&& !z.sameKey (.int .i64 v)) cnt'→cnt'<cnt→
      w.grownBy w' (some r)→(Instr.entry (.pointer (some ⟨r,0,none⟩))).run Tryz.prog w'= .ok (.tuple #[.int .i64 v,.agg #[.bool s,.slice ad l c]]) w'→wpList Tryz.prog ops Q rest (a.put o.dst (.tuple #[.bool true,.int .i64 v,.agg #[.bool s,.slice ad l c]])) w'):
    wpList Tryz.prog ops Q (o::rest) a w:=by
  refine wpList_next_ranges w hg it hop 3 tk elemR (Value.int .i64) mkV invK_i invV_i b r n D left cnt hit h (fun _ hl=>hDone hl) ?_
  rintro v q kl y w' cnt' hkey hlk hv hat hrg hlt hgr hsz hen
  obtain⟨v',ev,rfl,hwf⟩:=Maps.keyOf_int_inv Tryz.underlying3 hkey
  cases ev
  obtain⟨s,ad,l,c⟩:=q
  cases hv
  exact hMore v s ad l c w' cnt' (wf_i64 hwf) hlk hat hrg hlt hgr hen

theorem bg (h:Below w.heap.size w w'):w.grownBy w' none:=⟨h.os,h.tape,h.output,h.size,fun k hk _=>h.block k hk⟩
theorem row_kept {e:TypeId}{size:Nat}{v:Value}{xs:List Value}(h:w.ownsRow base e size v n xs)(hg:w.grownBy w' (some r))(hr:r<base):w'.ownsRow base e size v n xs:=by
  refine h.kept hg ?_
  cases ho:v.ownBlock with
  |none=>exact .inl rfl
  |some k=>
    refine .inr fun e=> ?_
    have:=(h.lt k ho).1
    cases e
    omega
theorem row_below {e:TypeId}{size:Nat}{v:Value}{xs:List Value}(h:w.ownsRow base e size v n xs)(hb:Below w.heap.size w w'):w'.ownsRow base e size v n xs:=
  h.kept (bg hb) (by cases v.ownBlock <;> simp)
theorem v3_new (W:World)(v:Int)(s:Bool)(a:Option Addr)(l c:Nat): ∀j u,([.int .i64 v,.bool s,.slice a l c]:List Value)[j]? =some u→(W.alloc (.cells #[.int .i64 v,.bool s,.slice a l c] 134)).cell? ((⟨W.heap.size,0,none⟩:Addr).add j)=some u:=by
  intro j u hj
  match j,hj with
  |0,hj=>simp at hj;subst hj;simp[Addr.add]
  |1,hj=>simp at hj;subst hj;simp[Addr.add]
  |2,hj=>simp at hj;subst hj;simp[Addr.add]
  |j+3,hj=>simp at hj
theorem v3_one (v:Int)(s:Bool)(a:Option Addr)(l c:Nat): ∀u∈([.int .i64 v,.bool s,.slice a l c]:List Value),u.oneCell'=true:=by
  intro u h
  simp at h
  rcases h with rfl|rfl|rfl <;> rfl

theorem col_std {f:Int→Int}{left:Lit→Bool}{rs':List Raw}(h:Col w f B left rs)(hl: ∀kl,left kl=false)(hp:rs'.Perm rs)(hs:rs'.Pairwise (fun x y=>x.v<y.v)):Std (rs'.map Raw.p)∧∀v,I64 v→csum (rs'.map Raw.p) v=f v:=by
  have hStd:Std (rs'.map Raw.p):=by
    refine⟨?_,fun p hq=> ?_⟩
    · rw[List.pairwise_map];exact hs
    obtain⟨x,hx,rfl⟩:=List.mem_map.1 hq
    exact(h.z x (hp.mem_iff.1 hx)).2.1
  refine⟨hStd,fun v hv=> ?_⟩
  by_cases hf:f v=0
  · rw[hf]
    refine csum_none fun p hq e=> ?_
    obtain⟨x,hx,rfl⟩:=List.mem_map.1 hq
    have:=h.z x (hp.mem_iff.1 hx)
    change x.v=v at e
    rw[e,hf]at this
    exact this.2.1 this.1
  obtain⟨x,hx,e⟩:=h.all v hv (hl _) hf
  have:=std_csum_mem hStd (List.mem_map.2 ⟨x,hp.mem_iff.2 hx,rfl⟩)
  change csum (rs'.map Raw.p) x.v=x.z at this
  rw[←e,this,(h.z x hx).1]
theorem col_end {f:Int→Int}{left:Lit→Bool}(h:Col w f B left [])(hl: ∀kl,left kl=false)(v:Int)(hv:I64 v):csum (([]:List Raw).map Raw.p) v=f v:=(col_std h hl (List.Perm.refl _) List.Pairwise.nil).2 v hv
theorem gb_set (w:World)(b i:Nat)(v:Value):w.grownBy (w.setCell ⟨b,i,none⟩ v) (some b):=⟨rfl,rfl,rfl,by simp[World.setCell],fun k _ hk=>Below.heap_setCell _ _ _ _ (fun e=>hk (by rw[e]))⟩
theorem tb_set (w:World)(b:Nat)(v0 v1 v2:Value):w.grownBy (((w.setCell ⟨b,0,none⟩ v0).setCell ⟨b,1,none⟩ v1).setCell ⟨b,2,none⟩ v2) (some b):=gb_trans (gb_trans (gb_set _ _ _ _) (gb_set _ _ _ _)) (gb_set _ _ _ _)
theorem PQ.below (h:PQ w0 w g rs B)(hb:Below w.heap.size w w'):PQ w0 w' g rs B:=
  ⟨Nat.lt_of_lt_of_le h.1 hb.size,fun i hi=>by
    have e:w'.heap[g]? =w.heap[g]?:=hb.block g h.1
    obtain⟨h1,h2,h3⟩:=h.2 i hi
    simp only[World.cell?,World.frozen?,e]at*
    exact⟨h1,h2,h3⟩⟩
theorem PQ.grown (h:PQ w0 w g rs B)(hg:w.grownBy w' (some m))(hm:g≠m):PQ w0 w' g rs B:=
  ⟨Nat.lt_of_lt_of_le h.1 hg.size,fun i hi=>by
    have e:w'.heap[g]? =w.heap[g]?:=hg.block g h.1 (by simpa using hm)
    obtain⟨h1,h2,h3⟩:=h.2 i hi
    simp only[World.cell?,World.frozen?,e]at*
    exact⟨h1,h2,h3⟩⟩

def TB (w:World)(b:Nat)(ad:Option Addr)(n cp:Nat)(s:Bool)(a:Option Addr)(l c:Nat):Prop:=w.heap[b]? =some (.cells #[.slice ad n cp,.bool s,.slice a l c] 47 (0,0))
theorem tb_new (w:World)(ad:Option Addr)(n cp:Nat)(s:Bool)(a:Option Addr)(l c:Nat):TB (w.alloc (.cells #[.slice ad n cp,.bool s,.slice a l c] 47)) w.heap.size ad n cp s a l c:=heap_alloc_new w _
theorem TB.lt (h:TB w b ad n cp s a l c):b<w.heap.size:=(Array.getElem?_eq_some_iff.1 h).1
theorem TB.c0 (h:TB w b ad n cp s a l c):w.cell? ⟨b,0,none⟩=some (.slice ad n cp):=cell_of_row w b 0 _ _ (0,0) h
theorem TB.c1 (h:TB w b ad n cp s a l c):w.cell? ⟨b,1,none⟩=some (.bool s):=cell_of_row w b 1 _ _ (0,0) h
theorem TB.c2 (h:TB w b ad n cp s a l c):w.cell? ⟨b,2,none⟩=some (.slice a l c):=cell_of_row w b 2 _ _ (0,0) h
theorem TB.f (h:TB w b ad n cp s a l c)(i:Nat):w.frozen? ⟨b,i,none⟩=false:=frozen_of_row w b i _ _ h
theorem TB.below (h:TB w b ad n cp s a l c)(hb:Below w.heap.size w w'):TB w' b ad n cp s a l c:=(hb.block b h.lt).trans h
theorem TB.grown (h:TB w b ad n cp s a l c)(hg:w.grownBy w' (some m))(hm:b≠m):TB w' b ad n cp s a l c:=(hg.block b h.lt (by simpa using hm)).trans h
theorem ZB.grown (h:ZB w b s a l c)(hg:w.grownBy w' (some m))(hm:b≠m):ZB w' b s a l c:=(hg.block b h.lt (by simpa using hm)).trans h
theorem tb_noU (h:TB w b ad n cp s a l c):NoU w b:=by
  intro off x
  rw[cell_of_row w b off _ _ (0,0) h]
  match off with
  |0=>simp
  |1=>simp
  |2=>simp
  |k+3=>simp
theorem gb_none (h:w.grownBy w' none):Below w.heap.size w w':=⟨h.os,h.tape,h.output,h.size,fun k hk=>h.block k hk (by simp)⟩
theorem tb_fin (h:TB w b ad n cp s a l c)(ad':Option Addr)(n' cp':Nat)(s':Bool)(a':Option Addr)(l' c':Nat):
    TB (((w.setCell ⟨b,0,none⟩ (.slice ad' n' cp')).setCell ⟨b,1,none⟩ (.bool s')).setCell ⟨b,2,none⟩ (.slice a' l' c')) b ad' n' cp' s' a' l' c':=
  heap_setCell_same _ b 2 _ _ _ (heap_setCell_same _ b 1 _ _ _ (heap_setCell_same w b 0 _ _ _ h))

theorem stand_p {f:Int→Int}(hG:GM w m n f B)(hz:Zm w s a l c k)(hl:l≤1099511627775)(hB:B≤1099511627776)(hn:n≤1073741824):
    Calls Tryz.prog 106 #[.map (some m),.agg #[.bool s,.slice a l c]] w fun e w'=> ∃ad len cap s' a' l' c' rs,e= .returned (.agg #[.slice ad len cap,.bool s',.slice a' l' c'])∧Tr w w' ad len rs B∧len≤n∧Std (rs.map Raw.p)∧(∀v,I64 v→csum (rs.map Raw.p) v=f v)∧Kn w' ad s' a' l' c' k∧l'≤l+1∧Below w.heap.size w w':=by
  obtain⟨D,hown,hGA⟩:=hG
  go_enter Tryz.func106,Tryz.ntmps106
  go_wp2_with(at_range;refine wpList_range_own _ rfl _ 100 rfl 3 45 tk Tryz.underlying100 _ m n D rfl ((hown.alloc _).alloc _) ?_;intro w1 hrg0 hg0 hs0)
  go_frame
  have x:=(zb_new w s a l c).below (below_alloc _ (.cells #[.slice none 0 0,.bool false,.slice none 0 0] 47))
  have y:=tb_new (w.alloc (.cells #[.bool s,.slice a l c] 45)) none 0 0 false none 0 0
  have b0:Below w.heap.size w ((w.alloc (.cells #[.bool s,.slice a l c] 45)).alloc (.cells #[.slice none 0 0,.bool false,.slice none 0 0] 47)):=below_alloc' (below_alloc _ _) _
  rw[show((w.alloc (.cells #[.bool s,.slice a l c] 45)).alloc (.cells #[.slice none 0 0,.bool false,.slice none 0 0] 47)).heap.size=w.heap.size+2 from by simp]at*
  rw[show(w.alloc (.cells #[.bool s,.slice a l c] 45)).heap.size=w.heap.size+1 from by simp]at y
  generalize (w.alloc (.cells #[.bool s,.slice a l c] 45)).alloc (.cells #[.slice none 0 0,.bool false,.slice none 0 0] 47)=wb at*
  replace x:=x.below (gb_none hg0)
  replace y:=y.below (gb_none hg0)
  replace b0:=hide (grow_step (gb_none hg0) b0)
  clear hg0
  have hpq:w.heap.size<w.heap.size+1∧w.heap.size+1<w.heap.size+2∧w.heap.size+2<w1.heap.size:=by omega
  have hsz0:=hrg0.owns.size_le
  have hml:=hide hown.lt
  clear hs0 hown
  generalize hp:w.heap.size=p at*
  replace b0:Hid (Below w.heap.size w w1):=hp▸b0
  replace hml:Hid (m<w.heap.size):=hp▸hml
  replace hp:=hide hp
  generalize p+1=q at*
  generalize p+2=r at*
  replace hpq:=hide hpq
  go_loopw [5] (fun parts wr=> ∃rs left cnt,wr.ranges Tryz.prog 3 elemR m r n D left cnt∧wr.ownsRow w1.heap.size 134 3 parts rs.length (flat rs)∧ZB wr p s a l c∧TB wr q none 0 0 false none 0 0∧Hid (Below w.heap.size w wr∧w1.heap.size≤wr.heap.size∧Col w f B left rs)∧rs.length+cnt≤n) (fun _ wr=>wr.rangeLeft m r)
  case atStart=>exact⟨[],_,_,hrg0,World.ownsRow_nil _ _ _ _,x,y,⟨b0.out,Nat.le_refl _,col_start hGA⟩,by simpa using hsz0⟩
  case round=>
    obtain⟨rs,left,cnt,hrg,hrow,hx,hy,hH,hcnt⟩:=hrel
    go_wp2_with(at_next;refine wpList_next_z rfl _ rfl m r n D left cnt rfl hrg (fun hl0=> ?_) (fun v s1 a1 l1 c1 w2 cnt2 hv hlk hat hrg2 hlt hgr hen=> ?_))
    · have u0:=hx.c0
      have u1:=hx.c1
      have hB2:=hide hH.out.1
      have hC:=hide hH.out.2.2
      have hs1:=hide hH.out.2.1
      rcases hrow.2 with⟨hu,h0⟩|⟨g,cap,cur,hu,hbase,hcur,hnc,hcm,hcs,htake⟩
      · subst hu
        obtain rfl:rs= []:=List.eq_nil_of_length_eq_zero h0
        have hsort:Calls Tryz.prog 163 #[.slice none 0 0,.func (.func 164) #[] #[]] wr fun e w'=>e= .returned (.tuple #[])∧w'=wr:=AnyF.slices_SortFunc_none Tryz.sortP none 0 _ wr
        refine hsort.mono ?_
        rintro e w5 ⟨rfl,rfl⟩
        clear hsort
        go_wp2_with fail
        refine(norm_n (hz.below hB2.out) o_m).mono ?_
        rintro e w6 ⟨s',ad',l',c',rfl,hz6,k6,hl6⟩
        have y6:=hy.below k6
        have y0:=y6.c0
        have y1:=y6.c1
        have y2:=y6.c2
        have f0:=y6.f 0
        have f1:=y6.f 1
        have f2:=y6.f 2
        replace hB2:=hide (grow_step k6 hB2.out)
        clear k6
        go_wp2
        refine bodyPost_ret (results_cell_row rfl _ _ q 47 _ (0,0) _ rfl (tb_fin y6 none 0 0 s' ad' l' c') Tryz.underlying47 rfl k_f) rfl ?_
        exact⟨none,0,0,s',ad',l',c',[],by simp,⟨rfl,.inl ⟨rfl,rfl⟩⟩,Nat.zero_le _,std_nil,fun u hu=>col_end hC.out hl0 u hu,⟨hz6.grownU (tb_set _ _ _ _ _) (tb_noU y6),fun g e=>by cases e⟩,hl6,below_grown hB2.out (tb_set _ _ _ _ _) (by have:=hp.out;have:=hpq.out;omega)⟩
      subst hu
      have hwg:w.heap.size≤g:=by have:=hp.out;have:=hpq.out;omega
      refine(sort_n (B:=B) (cap:=cap) rfl hC.out.ok hB hB2.out hwg hcur htake hC.out.nd o_m).mono ?_
      rintro e w5 ⟨rfl,rs',hperm,hpw,hPQ,hg5⟩
      have x5:=hx.grown hg5 (by have:=hpq.out;omega)
      have y5:=hy.grown hg5 (by have:=hpq.out;omega)
      replace u0:=x5.c0
      replace u1:=x5.c1
      replace hB2:=hide (below_grown hB2.out hg5 hwg)
      have hlen:=hide hperm.length_eq
      replace hC:=hide (col_std hC.out hl0 hperm hpw)
      clear hg5 hcur htake hcs hrg hx hy hH hperm hpw hrow
      go_wp2_with fail
      refine(Fresh.norm_n (B:=w5.heap.size) (Fresh.zm_of (hz.below hB2.out) (Nat.le_refl _)) o_m).mono ?_
      rintro e w6 ⟨s',ad',l',c',rfl,hz6,k6,hl6⟩
      replace hz6:=fzn_mono hz6 (B':=g+1) hPQ.1
      have y6:=y5.below k6
      have y0:=y6.c0
      have y1:=y6.c1
      have y2:=y6.c2
      have f0:=y6.f 0
      have f1:=y6.f 1
      have f2:=y6.f 2
      replace hB2:=hide (grow_step k6 hB2.out)
      replace hPQ:=hide (hPQ.below k6)
      clear k6 y5 x5 u0 u1
      go_wp2
      refine bodyPost_ret (results_cell_row rfl _ _ q 47 _ (0,0) _ rfl (tb_fin y6 (some ⟨g,0,none⟩) rs.length cap s' ad' l' c') Tryz.underlying47 rfl k_f) rfl ?_
      exact⟨some ⟨g,0,none⟩,rs.length,cap,s',ad',l',c',rs',by simp,⟨hlen.out,.inr ⟨g,rfl,hwg,hPQ.out.grown (tb_set _ _ _ _ _) (by have:=hpq.out;omega)⟩⟩,by omega,hC.out.1,hC.out.2,⟨hz6.zn.grownU (tb_set _ _ _ _ _) (tb_noU y6),fun g' e=>by cases e;exact fzn_grown hz6 (tb_set _ _ _ _ _) (by have:=hpq.out;omega)⟩,hl6,below_grown hB2.out (tb_set _ _ _ _ _) (by have:=hp.out;have:=hpq.out;omega)⟩
    have hB2:Hid (Below w.heap.size w w2):=below_grown hH.out.1 hgr (by have:=hpq.out;have:=hp.out;omega)
    have hZ:Zn w s1 a1 l1 c1 (f v)∧l1≤B:=by
      rcases hGA v hv with⟨h1,_⟩|⟨s',a',l',c',h1,h2,h3⟩
      · rw[Maps.has_true_of_atKey hat]at h1;cases h1
      have:=(hat (.held (.bool true))).symm.trans (h1 _)
      simp at this
      obtain⟨rfl,rfl,rfl,rfl⟩:=this
      exact⟨h2,h3⟩
    obtain⟨hZ,hl1⟩:=hZ
    have hrow2:=row_kept hrow hgr hpq.out.2.2
    have hx2:=hx.grown hgr (by have:=hpq.out;omega)
    have hy2:=hy.grown hgr (by have:=hpq.out;omega)
    have kb:=below_alloc w2 (.cells #[.bool s1,.slice a1 l1 c1] 45)
    have x3:=zb_new w2 s1 a1 l1 c1
    refine(zsign_n ((hZ.below hB2.out).below kb).zm o_m).mono ?_
    rintro e w3 ⟨rfl,k3⟩
    replace x3:=x3.below k3
    replace k3:=grow_step k3 kb
    have hrg3:=hrg2.kept (bg k3) (by simp) (by simp)
    replace hrow2:=row_below hrow2 k3
    replace hx2:=hx2.below k3
    replace hy2:=hy2.below k3
    replace hB2:=hide (grow_step k3 hB2.out)
    have hs3:=hide (Nat.le_trans hH.out.2.1 (Nat.le_trans hgr.size k3.size))
    have hC:=hide hH.out.2.2
    clear hH hgr hen kb k3 hx hy hrow hrg2
    generalize w2.heap.size=qb at*
    by_cases hf:f v=0
    · have e0:cmpI (f v) 0=0:=cmpI_eq hf
      rw[e0]
      go_wp2_with fail
      exact⟨⟨rs,_,cnt2,hrg3,hrow2,hx2,hy2,⟨hB2.out,hs3.out,col_skip hC.out hf⟩,by omega⟩,by rw[hrg3.left_eq,hrg.left_eq];exact hlt⟩
    have e0:cmpI (f v) 0≠0:=by unfold cmpI;split <;> (try split) <;> omega
    have u0:=x3.c0
    have u1:=x3.c1
    obtain⟨i0,hi,hz0,hz1,hz2⟩:=info_parts infoP
    generalize cmpI (f v) 0=sgn at*
    go_wp2_with(at_builtin;refine wpList_append_own_at _ rfl _ _ 42 rfl w1.heap.size 134 i0 _ 3 40 Tryz.underlying42 hi hz0 hz1 hz2 rfl (by decide) _ _ _ rfl (hrow2.alloc _) ⟨w3.heap.size,0,none⟩ 1 1 [.int .i64 v,.bool s1,.slice a1 l1 c1] rfl rfl (v3_new _ _ _ _ _ _) (v3_one _ _ _ _ _) (by unfold maxLen;omega) o_m (by have:=hs3.out;simp;omega) ?_;intro v' w4 hown' hgrow hnil hat')
    have hob: ∀b,b<w1.heap.size→some b≠u5.ownBlock:=fun b hb e=>by have:=(hrow2.lt b e.symm).1;omega
    have ka:=below_alloc w3 (.cells #[.int .i64 v,.bool s1,.slice a1 l1 c1] 134)
    have hmw:m<w1.heap.size:=by have:=hml.out;have:=hp.out;have:=hpq.out;omega
    have hrg4:=(hrg3.kept (bg ka) (by simp) (by simp)).kept hgrow (hob m hmw) (hob r hpq.out.2.2)
    refine⟨⟨rs++ [⟨v,s1,a1,l1,c1,f v⟩],_,cnt2,hrg4,?_,?_,?_,⟨?_,?_,?_⟩,?_⟩,by rw[hrg4.left_eq,hrg.left_eq];exact hlt⟩
    · rw[show flat (rs++ [⟨v,s1,a1,l1,c1,f v⟩])=flat rs++ [.int .i64 v,.bool s1,.slice a1 l1 c1] from by simp[flat,Raw.enc],List.length_append]
      exact hown'
    · exact(hgrow.block p (hx2.below ka).lt (hob p (by have:=hpq.out;omega))).trans (hx2.below ka)
    · exact(hgrow.block q (hy2.below ka).lt (hob q (by have:=hpq.out;omega))).trans (hy2.below ka)
    · exact(grow_step ka hB2.out).grown hgrow (grow_step ka hB2.out).size (fun k e=>by have:=(hrow2.lt k e).1;have:=hp.out;have:=hpq.out;omega)
    · exact Nat.le_trans hs3.out (Nat.le_trans ka.size hgrow.size)
    · exact col_step (x:=⟨v,s1,a1,l1,c1,f v⟩) hC.out ⟨hZ,hl1,hv⟩ rfl hf hlk
    simp only[List.length_append,List.length_cons,List.length_nil];omega

theorem gather1 {ty:TypeId}{fz:Nat × Nat}(hb:W.heap[b]? =some (.cells #[.slice ad n cp] ty fz))(h:Pr W ad n ps B)(hB:B+n≤536870912):
  Calls Tryz.prog 62 #[.slice (some ⟨b,0,none⟩) 1 1] W fun e w'=> ∃m,e= .returned (.map (some m))∧GM w' m n (csum ps) (B+n)∧Below W.heap.size W w'∧W.heap.size≤m:=by
 have hn:=h.1
 have:=gather_n (w:=W) (b:=b) (off:=0) (k:=1) (cap:=1) (pss:=[ps]) (B:=B) rfl (by decide) (Array.getElem?_eq_some_iff.1 hb).1 (fun j hj=>by
  obtain rfl:j=0:=by simp at hj;omega
  exact⟨ad,n,cp,cell_of_row W b 0 _ _ fz hb,h⟩) (by simp[hn];omega)
 simpa [hn] using this
theorem gather2 {ty:TypeId}{fz:Nat × Nat}(hb:W.heap[b]? =some (.cells #[.slice ad n cp,.slice ad2 n2 cp2] ty fz))(h:Pr W ad n ps B)(h2:Pr W ad2 n2 qs B)(hB:B+(n+n2)≤536870912):
  Calls Tryz.prog 62 #[.slice (some ⟨b,0,none⟩) 2 2] W fun e w'=> ∃m,e= .returned (.map (some m))∧GM w' m (n+n2) (csum (ps++qs)) (B+(n+n2))∧Below W.heap.size W w'∧W.heap.size≤m:=by
 have hn:=h.1
 have hn2:=h2.1
 have:=gather_n (w:=W) (b:=b) (off:=0) (k:=2) (cap:=2) (pss:=[ps,qs]) (B:=B) rfl (by decide) (Array.getElem?_eq_some_iff.1 hb).1 (fun j hj=>by
  match j,hj with
  |0,_=>exact⟨ad,n,cp,cell_of_row W b 0 _ _ fz hb,h⟩
  |1,_=>exact⟨ad2,n2,cp2,cell_of_row W b 1 _ _ fz hb,h2⟩
  |j+2,hj=>simp at hj;omega) (by simp[hn,hn2];omega)
 simpa [hn,hn2] using this

def TN (w w':World)(ad:Option Addr)(n:Nat)(s:Bool)(a:Option Addr)(l c:Nat)(rs:List Raw)(k:Int)(B:Nat):Prop:=
 ∃w1,Below w.heap.size w w1∧Below w1.heap.size w1 w'∧Tr w1 w' ad n rs B∧Kn w' ad s a l c k∧l≤B
theorem TN.mono (h:TN w w' ad n s a l c rs k B)(hB:B≤B'):TN w w' ad n s a l c rs k B':=by
 obtain⟨w1,h1,h2,⟨h3,h4⟩,h5,h6⟩:=h
 refine⟨w1,h1,h2,⟨h3,?_⟩,h5,Nat.le_trans h6 hB⟩
 rcases h4 with h4|⟨g,e,hg,hlt,h4⟩
 ·exact .inl h4
 exact .inr ⟨g,e,hg,hlt,fun i hi=>⟨(h4 i hi).1,(h4 i hi).2.1,(h4 i hi).2.2.1,Nat.le_trans (h4 i hi).2.2.2.1 hB,(h4 i hi).2.2.2.2⟩⟩
theorem TN.below (h:TN w w' ad n s a l c rs k B):Below w.heap.size w w':=by
 obtain⟨w1,h1,h2,_⟩:=h;exact grow_step h2 h1
theorem TN.zn (h:TN w w' ad n s a l c rs k B):Zn w' s a l c k:=by
 obtain⟨w1,_,_,_,h1,_⟩:=h;exact h1.1
theorem TN.le (h:TN w w' ad n s a l c rs k B):l≤B:=by
 obtain⟨w1,_,_,_,_,h1⟩:=h;exact h1
theorem TN.pr (h:TN w w' ad n s a l c rs k B):Pr w' ad n (rs.map Raw.p) B:=by
 obtain⟨w1,h1,h2,⟨h3,h4⟩,_⟩:=h
 refine⟨by simpa using h3,?_⟩
 rcases h4 with⟨_,h4⟩|⟨g,e,hg,hlt,h4⟩
 ·exact .inl h4
 refine .inr ⟨g,0,e,hlt,fun i hi=> ?_⟩
 have hi':i<rs.length:=by simpa using hi
 obtain⟨⟨c0,c1,c2⟩,_,hz,hl,hv⟩:=h4 i hi'
 rw[List.getElem_map,Nat.zero_add]
 exact⟨_,_,_,_,c0,c1,c2,(hz.below h2).zm,hl,hv⟩
theorem Pr.i64 (h:Pr w ad n ps B): ∀p∈ps,I64 p.1:=by
 intro p hp
 obtain⟨h1,h2⟩:=h
 obtain⟨i,hi,rfl⟩:=List.getElem_of_mem hp
 rcases h2 with h2|⟨b,off,_,_,h2⟩
 ·omega
 obtain⟨s,a,l,c,_,_,_,_,_,hv⟩:=h2 i hi
 exact hv
theorem csum_i64 (h: ∀p∈ps,I64 p.1){v:Int}(hv: ¬I64 v):csum ps v=0:=csum_none fun p hp e=>hv (e▸h p hp)
theorem csum_all (h1: ∀p∈ps,I64 p.1)(h2: ∀p∈qs,I64 p.1)(h: ∀v,I64 v→csum ps v=csum qs v): ∀v,csum ps v=csum qs v:=fun v=>by
 by_cases hv:I64 v
 ·exact h v hv
 rw[csum_i64 h1 hv,csum_i64 h2 hv]

theorem tk3 (x:TB wb p ad n cp s a l c)(hp:p<r)(k:Below r wb w'):
  w'.cell? ⟨p,0,none⟩=some (.slice ad n cp)∧w'.cell? ⟨p,1,none⟩=some (.bool s)∧w'.cell? ⟨p,2,none⟩=some (.slice a l c)∧Below r wb w':=by
 have x':TB w' p ad n cp s a l c:=(k.block p hp).trans x
 exact⟨x'.c0,x'.c1,x'.c2,k⟩
theorem Tr.mono (h:Tr w0 w ad n rs B)(hB:B≤B'):Tr w0 w ad n rs B':=by
 obtain⟨h3,h4⟩:=h
 refine⟨h3,?_⟩
 rcases h4 with h4|⟨g,e,hg,hlt,h4⟩
 ·exact .inl h4
 exact .inr ⟨g,e,hg,hlt,fun i hi=>⟨(h4 i hi).1,(h4 i hi).2.1,(h4 i hi).2.2.1,Nat.le_trans (h4 i hi).2.2.2.1 hB,(h4 i hi).2.2.2.2⟩⟩
theorem mid (_:Below W.heap.size W w2)(h:Below wb.heap.size wb W):Below wb.heap.size wb W:=h
theorem raw_grown {w0':World}(hg:w0.grownBy w0' (some m))(hm:NoU w0 m){x:Raw}(h:x.ok w0 B):x.ok w0' B:=⟨h.1.grownU hg hm,h.2.1,h.2.2⟩

theorem tset_below {c0:Nat}(k2:Below w1.heap.size w1 w2)(y1:TB w1 r ad0 n0 cp0 s0 a0 l0 c0)(ad':Option Addr)(n' cp':Nat)(s':Bool)(a':Option Addr)(l' c':Nat):
  Below (((w1.setCell ⟨r,0,none⟩ (.slice ad' n' cp')).setCell ⟨r,1,none⟩ (.bool s')).setCell ⟨r,2,none⟩ (.slice a' l' c')).heap.size (((w1.setCell ⟨r,0,none⟩ (.slice ad' n' cp')).setCell ⟨r,1,none⟩ (.bool s')).setCell ⟨r,2,none⟩ (.slice a' l' c')) (((w2.setCell ⟨r,0,none⟩ (.slice ad' n' cp')).setCell ⟨r,1,none⟩ (.bool s')).setCell ⟨r,2,none⟩ (.slice a' l' c')):=by
 refine⟨k2.os,k2.tape,k2.output,by simpa [World.setCell] using k2.size,fun k hk=> ?_⟩
 by_cases e:k=r
 ·subst e
  exact(tb_fin (y1.below k2) ad' n' cp' s' a' l' c').trans (tb_fin y1 ad' n' cp' s' a' l' c').symm
 have hk1:k<w1.heap.size:=by simpa [World.setCell] using hk
 have hk2:k<w2.heap.size:=Nat.lt_of_lt_of_le hk1 k2.size
 rw[(tb_set w2 r _ _ _).block k hk2 (by simpa using e),(tb_set w1 r _ _ _).block k hk1 (by simpa using e)]
 exact k2.block k hk1
theorem tn_fin2 {c0:Nat}(b1:Below w.heap.size w w1)(k2:Below w1.heap.size w1 w2)(hT:Tr w1 w2 ad' n' rs B)
  (y1:TB w1 r ad0 n0 cp0 s0 a0 l0 c0)(hr:w.heap.size≤r)(hz:Kn w2 ad' s' a' l' c' k)(hl:l'≤B)(cp':Nat):
  ∃w1',w1'.heap.size=w1.heap.size∧Below w.heap.size w w1'∧Below w1'.heap.size w1' (((w2.setCell ⟨r,0,none⟩ (.slice ad' n' cp')).setCell ⟨r,1,none⟩ (.bool s')).setCell ⟨r,2,none⟩ (.slice a' l' c'))∧Tr w1' (((w2.setCell ⟨r,0,none⟩ (.slice ad' n' cp')).setCell ⟨r,1,none⟩ (.bool s')).setCell ⟨r,2,none⟩ (.slice a' l' c')) ad' n' rs B∧Kn (((w2.setCell ⟨r,0,none⟩ (.slice ad' n' cp')).setCell ⟨r,1,none⟩ (.bool s')).setCell ⟨r,2,none⟩ (.slice a' l' c')) ad' s' a' l' c' k∧l'≤B:=by
 refine⟨((w1.setCell ⟨r,0,none⟩ (.slice ad' n' cp')).setCell ⟨r,1,none⟩ (.bool s')).setCell ⟨r,2,none⟩ (.slice a' l' c'),by simp[World.setCell],below_grown b1 (tb_set _ _ _ _ _) hr,tset_below k2 y1 _ _ _ _ _ _ _,?_,⟨hz.1.grownU (tb_set _ _ _ _ _) (tb_noU (y1.below k2)),fun g e=>fzn_grown (hz.2 g e) (tb_set _ _ _ _ _) (by
  rcases hT.2 with⟨h,_⟩|⟨g',e',hg',_⟩
  ·rw[h]at e;cases e
  rw[e']at e;cases e;have:=y1.lt;omega)⟩,hl⟩
 obtain⟨h3,h4⟩:=hT
 refine⟨h3,?_⟩
 rcases h4 with h4|⟨g,e,hg,h4⟩
 ·exact .inl h4
 have h5:=h4.grown (tb_set w2 r (.slice ad' n' cp') (.bool s') (.slice a' l' c')) (by have:=y1.lt;omega)
 refine .inr ⟨g,e,by simpa [World.setCell] using hg,h5.1,fun i hi=>⟨(h5.2 i hi).1,(h5.2 i hi).2.1,raw_grown (tb_set _ _ _ _ _) (tb_noU y1) (h5.2 i hi).2.2⟩⟩

theorem tn_fin {c0:Nat}(b1:Below w.heap.size w w1)(k2:Below w1.heap.size w1 w2)(hT:Tr w1 w2 ad' n' rs B)
  (y1:TB w1 r ad0 n0 cp0 s0 a0 l0 c0)(hr:w.heap.size≤r)(hz:Kn w2 ad' s' a' l' c' k)(hl:l'≤B)(cp':Nat):
  TN w (((w2.setCell ⟨r,0,none⟩ (.slice ad' n' cp')).setCell ⟨r,1,none⟩ (.bool s')).setCell ⟨r,2,none⟩ (.slice a' l' c')) ad' n' s' a' l' c' rs k B:=by
 obtain⟨w1',_,h⟩:=tn_fin2 b1 k2 hT y1 hr hz hl cp'
 exact⟨w1',h⟩

theorem tnorm_n (hP:Pr w ad n ps B)(hz:Zm w s a l c k)(hl:l≤B)(hB:B+n≤536870912):
  Calls Tryz.prog 69 #[.agg #[.slice ad n cp,.bool s,.slice a l c]] w fun e w'=> ∃ad' n' cp' s' a' l' c' rs,e= .returned (.agg #[.slice ad' n' cp',.bool s',.slice a' l' c'])∧TN w w' ad' n' s' a' l' c' rs k (B+n+1)∧n'≤n∧Std (rs.map Raw.p)∧∀v,csum (rs.map Raw.p) v=csum ps v:=by
 go_enter Tryz.func69,Tryz.ntmps69
 go_wp2_with fail
 have x:=(tb_new w ad n cp s a l c).below (below_alloc _ (.cells #[.slice none 0 0,.bool false,.slice none 0 0] 47))
 have y:=tb_new (w.alloc (.cells #[.slice ad n cp,.bool s,.slice a l c] 47)) none 0 0 false none 0 0
 have b0:Below w.heap.size w ((w.alloc (.cells #[.slice ad n cp,.bool s,.slice a l c] 47)).alloc (.cells #[.slice none 0 0,.bool false,.slice none 0 0] 47)):=below_alloc' (below_alloc _ _) _
 rw[show(w.alloc (.cells #[.slice ad n cp,.bool s,.slice a l c] 47)).heap.size=w.heap.size+1 from by simp]at y
 generalize (w.alloc (.cells #[.slice ad n cp,.bool s,.slice a l c] 47)).alloc (.cells #[.slice none 0 0,.bool false,.slice none 0 0] 47)=wb at*
 have hpr:w.heap.size<w.heap.size+1:=by omega
 replace hP:=hP.below b0
 replace hz:=hz.below b0
 generalize hp:w.heap.size=p at*
 replace hp:=hide hp
 generalize p+1=r at*
 have hrb:=Nat.le_of_lt y.lt
 go_region_held3 (fun w'=>w'.cell? ⟨p,0,none⟩=some (.slice ad n cp)∧w'.cell? ⟨p,1,none⟩=some (.bool s)∧w'.cell? ⟨p,2,none⟩=some (.slice a l c)∧Below r wb w')
  ((refine tk3 x hpr ?_;first|(refine Below.mono ?_ hrb;focus ((with_reducible repeat' first|exact Below.refl _ _|assumption|refine grow_step (by assumption) ?_|refine grow_drew ?_|refine grow_alloc ?_ _|refine grow_drewN ?_ _);done))|(refine(((Below.mono ?_ hrb).setCell (Nat.le_refl _) _).setCell (Nat.le_refl _) _).setCell (Nat.le_refl _) _;focus ((with_reducible repeat' first|exact Below.refl _ _|assumption|refine grow_step (by assumption) ?_|refine grow_drew ?_|refine grow_alloc ?_ _|refine grow_drewN ?_ _);done))))
  (first|(go_at_call 62;refine(gather1 (by exact heap_alloc_new wb _) (Pr.below hP gw) hB).mono ?_;rintro e w1 ⟨m,rfl,hG,k1,hm⟩)|(go_at_call 106;refine(stand_p hG (Zm.below hz gw) (by omega) (by omega) (by omega)).mono ?_;rintro e w2 ⟨ad',n',cp',s',a',l',c',rs,rfl,hT,hn',hStd,hcs,hz2,hl2,k2⟩;have kW:=mid k2 (show Below wb.heap.size wb _ from gw);have y1':=TB.below y kW;have y':=y1'.below k2;have y0:=y'.c0;have y1:=y'.c1;have y2:=y'.c2;have y3:=y'.f 0;have y4:=y'.f 1;have y5:=y'.f 2))
 have hi1:=hP.i64
 clear hP hG
 go_wp2
 refine bodyPost_ret (results_cell_row rfl _ _ r 47 _ (0,0) _ rfl (tb_fin y' ad' n' cp' s' a' l' c') Tryz.underlying47 rfl k_f) rfl ?_
 have hTN:TN w _ ad' n' s' a' l' c' rs k (B+n+1):=tn_fin (hp.out.symm▸b0.trans (kW.mono (Nat.le_of_lt (Nat.lt_trans hpr y.lt)))) k2 (hT.mono o_m) y1' (by have:=hp.out;omega) hz2 o_m cp'
 exact⟨ad',n',cp',s',a',l',c',rs,by simp,hTN,hn',hStd,csum_all hTN.pr.i64 hi1 hcs⟩

theorem tk6 {p2:Nat}{c2:Nat}(x:TB wb p ad n cp s a l c)(x2:TB wb p2 ad2 n2 cp2 s2 a2 l2 c2)(hp:p<r)(hp2:p2<r)(k:Below r wb w'):
  w'.cell? ⟨p,0,none⟩=some (.slice ad n cp)∧w'.cell? ⟨p,1,none⟩=some (.bool s)∧w'.cell? ⟨p,2,none⟩=some (.slice a l c)∧w'.cell? ⟨p2,0,none⟩=some (.slice ad2 n2 cp2)∧w'.cell? ⟨p2,1,none⟩=some (.bool s2)∧w'.cell? ⟨p2,2,none⟩=some (.slice a2 l2 c2)∧Below r wb w':=by
 have x':TB w' p ad n cp s a l c:=(k.block p hp).trans x
 have x2':TB w' p2 ad2 n2 cp2 s2 a2 l2 c2:=(k.block p2 hp2).trans x2
 exact⟨x'.c0,x'.c1,x'.c2,x2'.c0,x2'.c1,x2'.c2,k⟩

theorem tadd_n {c2:Nat}(hP:Pr w ad n ps B)(hz:Zm w s a l c k)(hl:l≤B)(hP2:Pr w ad2 n2 qs B)(hz2:Zm w s2 a2 l2 c2 k2)(hl2:l2≤B)(hB:B+(n+n2)≤536870912):
  Calls Tryz.prog 57 #[.agg #[.slice ad n cp,.bool s,.slice a l c],.agg #[.slice ad2 n2 cp2,.bool s2,.slice a2 l2 c2]] w fun e w'=> ∃ad' n' cp' s' a' l' c' rs,e= .returned (.agg #[.slice ad' n' cp',.bool s',.slice a' l' c'])∧TN w w' ad' n' s' a' l' c' rs (k+k2) (B+(n+n2)+2)∧n'≤n+n2∧Std (rs.map Raw.p)∧∀v,csum (rs.map Raw.p) v=csum (ps++qs) v:=by
 go_enter Tryz.func57,Tryz.ntmps57
 go_wp2_with fail
 have x:=((tb_new w ad n cp s a l c).below (below_alloc _ (.cells #[.slice ad2 n2 cp2,.bool s2,.slice a2 l2 c2] 47))).below (below_alloc _ (.cells #[.slice none 0 0,.bool false,.slice none 0 0] 47))
 have x2:=(tb_new (w.alloc (.cells #[.slice ad n cp,.bool s,.slice a l c] 47)) ad2 n2 cp2 s2 a2 l2 c2).below (below_alloc _ (.cells #[.slice none 0 0,.bool false,.slice none 0 0] 47))
 have y:=tb_new ((w.alloc (.cells #[.slice ad n cp,.bool s,.slice a l c] 47)).alloc (.cells #[.slice ad2 n2 cp2,.bool s2,.slice a2 l2 c2] 47)) none 0 0 false none 0 0
 have b0:Below w.heap.size w (((w.alloc (.cells #[.slice ad n cp,.bool s,.slice a l c] 47)).alloc (.cells #[.slice ad2 n2 cp2,.bool s2,.slice a2 l2 c2] 47)).alloc (.cells #[.slice none 0 0,.bool false,.slice none 0 0] 47)):=below_alloc' (below_alloc' (below_alloc _ _) _) _
 rw[show(w.alloc (.cells #[.slice ad n cp,.bool s,.slice a l c] 47)).heap.size=w.heap.size+1 from by simp]at x2
 rw[show((w.alloc (.cells #[.slice ad n cp,.bool s,.slice a l c] 47)).alloc (.cells #[.slice ad2 n2 cp2,.bool s2,.slice a2 l2 c2] 47)).heap.size=w.heap.size+1+1 from by simp]at y
 generalize ((w.alloc (.cells #[.slice ad n cp,.bool s,.slice a l c] 47)).alloc (.cells #[.slice ad2 n2 cp2,.bool s2,.slice a2 l2 c2] 47)).alloc (.cells #[.slice none 0 0,.bool false,.slice none 0 0] 47)=wb at*
 have hpr:w.heap.size<w.heap.size+1+1:=by omega
 have hpr2:w.heap.size+1<w.heap.size+1+1:=by omega
 replace hP:=hP.below b0
 replace hz:=hz.below b0
 replace hP2:=hP2.below b0
 replace hz2:=hz2.below b0
 generalize hp:w.heap.size=p at*
 replace hp:=hide hp
 generalize p+1=p2 at*
 generalize p2+1=r at*
 have hrb:=Nat.le_of_lt y.lt
 go_region_held3 (fun w'=>w'.cell? ⟨p,0,none⟩=some (.slice ad n cp)∧w'.cell? ⟨p,1,none⟩=some (.bool s)∧w'.cell? ⟨p,2,none⟩=some (.slice a l c)∧w'.cell? ⟨p2,0,none⟩=some (.slice ad2 n2 cp2)∧w'.cell? ⟨p2,1,none⟩=some (.bool s2)∧w'.cell? ⟨p2,2,none⟩=some (.slice a2 l2 c2)∧Below r wb w')
  ((refine tk6 x x2 hpr hpr2 ?_;first|(refine Below.mono ?_ hrb;focus ((with_reducible repeat' first|exact Below.refl _ _|assumption|refine grow_step (by assumption) ?_|refine grow_drew ?_|refine grow_alloc ?_ _|refine grow_drewN ?_ _);done))|(refine(((Below.mono ?_ hrb).setCell (Nat.le_refl _) _).setCell (Nat.le_refl _) _).setCell (Nat.le_refl _) _;focus ((with_reducible repeat' first|exact Below.refl _ _|assumption|refine grow_step (by assumption) ?_|refine grow_drew ?_|refine grow_alloc ?_ _|refine grow_drewN ?_ _);done))))
  (first|(go_at_call 62;refine(gather2 (by first|exact heap_alloc_new _ _|exact(kA.block _ (by simp)).trans (heap_alloc_new wb _)) (Pr.below hP gw) (Pr.below hP2 gw) hB).mono ?_;rintro e w1 ⟨m,rfl,hG,k1,hm⟩)|(go_at_call 64;refine(zadd_n (Zm.below hz gw) (Zm.below hz2 gw) (by omega) (by omega)).mono ?_;rintro e wA ⟨sA,aA,lA,cA,rfl,hzA,kA,hlA⟩)|(go_at_call 106;refine(stand_p (GM.below hG gw) (Zm.below hzA.zm gw) (by omega) (by omega) (by omega)).mono ?_;rintro e w2 ⟨ad',n',cp',s',a',l',c',rs,rfl,hT,hn',hStd,hcs,hzR,hlR,kR⟩;have kW:=mid kR (show Below wb.heap.size wb _ from gw);have y1':=TB.below y kW;have y':=y1'.below kR;have y0:=y'.c0;have y1:=y'.c1;have y2:=y'.c2;have y3:=y'.f 0;have y4:=y'.f 1;have y5:=y'.f 2))
 all_goals
  have hi1:=hP.i64
  have hi2:=hP2.i64
  clear hP hP2 hG hz hz2
  go_wp2
  refine bodyPost_ret (results_cell_row rfl _ _ r 47 _ (0,0) _ rfl (tb_fin y' ad' n' cp' s' a' l' c') Tryz.underlying47 rfl k_f) rfl ?_
  have hTN:TN w _ ad' n' s' a' l' c' rs (k+k2) (B+(n+n2)+2):=tn_fin (hp.out.symm▸b0.trans (kW.mono (Nat.le_of_lt (Nat.lt_trans hpr y.lt)))) kR (hT.mono o_m) y1' (by have:=hp.out;omega) hzR o_m cp'
  exact⟨ad',n',cp',s',a',l',c',rs,by simp,hTN,hn',hStd,csum_all hTN.pr.i64 (fun q hq=>(List.mem_append.1 hq).elim (hi1 q) (hi2 q)) hcs⟩

def TW (w:World)(ad:Option Addr)(n:Nat)(s:Bool)(a:Option Addr)(l c:Nat)(ps:List (Int × Int))(k:Int)(B:Nat):Prop:=Pr w ad n ps B∧Zm w s a l c k∧l≤B
theorem TN.tw (h:TN w w' ad n s a l c rs k B):TW w' ad n s a l c (rs.map Raw.p) k B:=⟨h.pr,h.zn.zm,h.le⟩
theorem TW.below (h:TW w ad n s a l c ps k B)(hb:Below w.heap.size w w'):TW w' ad n s a l c ps k B:=⟨h.1.below hb,h.2.1.below hb,h.2.2⟩
theorem tconst_n (hz:Zm w s a l c k)(hl:l+1≤B)(hB:B≤1099511627776):
  Calls Tryz.prog 58 #[.agg #[.bool s,.slice a l c]] w fun e w'=> ∃s' a' l' c',e= .returned (.agg #[.slice none 0 0,.bool s',.slice a' l' c'])∧TN w w' none 0 s' a' l' c' [] k B:=by
 go_enter Tryz.func58,Tryz.ntmps58
 go_wp2_with fail
 have y:=tb_new (w.alloc (.cells #[.bool s,.slice a l c] 45)) none 0 0 false none 0 0
 have b0:Below w.heap.size w ((w.alloc (.cells #[.bool s,.slice a l c] 45)).alloc (.cells #[.slice none 0 0,.bool false,.slice none 0 0] 47)):=below_alloc' (below_alloc _ _) _
 rw[show(w.alloc (.cells #[.bool s,.slice a l c] 45)).heap.size=w.heap.size+1 from by simp]at y
 generalize (w.alloc (.cells #[.bool s,.slice a l c] 45)).alloc (.cells #[.slice none 0 0,.bool false,.slice none 0 0] 47)=wb at*
 have hr:w.heap.size≤w.heap.size+1:=by omega
 generalize w.heap.size+1=r at*
 refine(norm_n (hz.below b0) o_m).mono ?_
 rintro e w2 ⟨s',a',l',c',rfl,hz2,k2,hl2⟩
 have y':=y.below k2
 have y0:=y'.c0
 have y1:=y'.c1
 have y2:=y'.c2
 have y3:=y'.f 0
 have y4:=y'.f 1
 have y5:=y'.f 2
 have hTN:=hide (tn_fin (rs:=[]) (ad':=none) (n':=0) (B:=B) (grow_step k2 b0) (Below.refl w2.heap.size w2) ⟨rfl,.inl ⟨rfl,rfl⟩⟩ y' hr ⟨hz2,fun g e=>by cases e⟩ o_m 0)
 clear b0 k2
 go_wp2
 refine bodyPost_ret (results_cell_row rfl _ _ r 47 _ (0,0) _ rfl (tb_fin y' none 0 0 s' a' l' c') Tryz.underlying47 rfl k_f) rfl ?_
 exact⟨s',a',l',c',by simp,hTN.out⟩

theorem tvar_n (hv:I64 v)(hB:2≤B):
  Calls Tryz.prog 34 #[.int .i64 v] w fun e w'=> ∃ad' cp' rs,e= .returned (.agg #[.slice ad' 1 cp',.bool false,.slice none 0 0])∧TN w w' ad' 1 false none 0 0 rs 0 B∧rs.map Raw.p= [(v,1)]:=by
 go_enter Tryz.func34,Tryz.ntmps34
 go_wp2_with fail
 have y:=tb_new w none 0 0 false none 0 0
 have b0:Below w.heap.size w (w.alloc (.cells #[.slice none 0 0,.bool false,.slice none 0 0] 47)):=below_alloc _ _
 generalize w.alloc (.cells #[.slice none 0 0,.bool false,.slice none 0 0] 47)=wb at*
 generalize hr:w.heap.size=r at*
 replace b0:Below w.heap.size w wb:=hr▸b0
 replace hr:=hide hr
 refine(zof_n 1 (by decide) (by decide) wb).mono ?_
 rintro e w2 ⟨s',a',l',c',rfl,hz2,k2,hl2⟩
 have x3:=pb_new w2 v s' a' l' c'
 have k3:=below_alloc w2 (.cells #[.int .i64 v,.bool s',.slice a' l' c'] 134)
 have y1':=y.below k2
 have y':=y1'.below k3
 have y0:=y'.c0
 have y1:=y'.c1
 have y2:=y'.c2
 have y3:=y'.f 0
 have y4:=y'.f 1
 have y5:=y'.f 2
 have hT:Tr w2 (w2.alloc (.cells #[.int .i64 v,.bool s',.slice a' l' c'] 134)) (some ⟨w2.heap.size,0,none⟩) 1 [⟨v,s',a',l',c',1⟩] B:=by
  refine⟨rfl,.inr ⟨_,rfl,Nat.le_refl _,x3.lt,fun i hi=> ?_⟩⟩
  obtain rfl:i=0:=by simp at hi;omega
  exact⟨⟨x3.c0,x3.c1,x3.c2⟩,⟨frozen_of_row _ _ _ _ _ x3,frozen_of_row _ _ _ _ _ x3,frozen_of_row _ _ _ _ _ x3⟩,hz2,Nat.le_trans hl2 hB,hv⟩
 have hTN:=hide (tn_fin (w:=w) (grow_step k2 b0) k3 hT y1' (Nat.le_of_eq hr.out) ⟨zn_zero _,fun g e=>by cases e;exact fzn_zero x3.lt⟩ (Nat.zero_le _) 1)
 clear b0 k2 k3 hT x3
 go_wp2
 refine bodyPost_ret (results_cell_row rfl _ _ r 47 _ (0,0) _ rfl (tb_fin y' (some ⟨w2.heap.size,0,none⟩) 1 1 false none 0 0) Tryz.underlying47 rfl k_f) rfl ?_
 exact⟨some ⟨w2.heap.size,0,none⟩,1,_,by simp,hTN.out,rfl⟩

theorem tcoef_n (hP:Pr w ad n ps B)(hB:B+n≤536870912):
  Calls Tryz.prog 194 #[.agg #[.slice ad n cp,.bool s,.slice a l c],.int .i64 v] w fun e w'=> ∃s' a' l' c',e= .returned (.agg #[.bool s',.slice a' l' c'])∧Zn w' s' a' l' c' (csum ps v)∧l'≤B+n∧Below w.heap.size w w':=by
 obtain⟨hn,hP⟩:=hP
 go_enter Tryz.func194,Tryz.ntmps194
 go_wp2_with fail
 have y:=(zb_new (w.alloc (.cells #[.slice ad n cp,.bool s,.slice a l c] 47)) false none 0 0).below (below_alloc _ (.cells #[.bool false,.slice none 0 0] 45))
 have q:=zb_new ((w.alloc (.cells #[.slice ad n cp,.bool s,.slice a l c] 47)).alloc (.cells #[.bool false,.slice none 0 0] 45)) false none 0 0
 have b0:Below w.heap.size w (((w.alloc (.cells #[.slice ad n cp,.bool s,.slice a l c] 47)).alloc (.cells #[.bool false,.slice none 0 0] 45)).alloc (.cells #[.bool false,.slice none 0 0] 45)):=below_alloc' (below_alloc' (below_alloc _ _) _) _
 rw[show(w.alloc (.cells #[.slice ad n cp,.bool s,.slice a l c] 47)).heap.size=w.heap.size+1 from by simp]at y
 rw[show((w.alloc (.cells #[.slice ad n cp,.bool s,.slice a l c] 47)).alloc (.cells #[.bool false,.slice none 0 0] 45)).heap.size=w.heap.size+1+1 from by simp]at q
 generalize ((w.alloc (.cells #[.slice ad n cp,.bool s,.slice a l c] 47)).alloc (.cells #[.bool false,.slice none 0 0] 45)).alloc (.cells #[.bool false,.slice none 0 0] 45)=wb at*
 have hpr:w.heap.size≤w.heap.size+1∧w.heap.size+1<w.heap.size+1+1:=by omega
 generalize hp:w.heap.size=p at*
 replace b0:Hid (Below w.heap.size w wb):=hp▸b0
 replace hp:=hide hp
 generalize p+1=r at*
 generalize r+1=u at*
 replace hpr:=hide hpr
 go_loopw [11] (fun i wr=> ∃(t:Nat) (s1:Bool) (a1:Option Addr) (l1 c1:Nat),t≤n∧i= .int .i64 t∧ZB wr u s1 a1 l1 c1∧Zn wr s1 a1 l1 c1 (csum (ps.take t) v)∧l1≤B+t∧ZB wr r false none 0 0∧Hid (Below w.heap.size w wr)) (fun i _=>n-(intOf i).toNat)
 case atStart=>exact⟨0,false,none,0,0,Nat.zero_le _,rfl,q,by simpa [csum] using zn_zero wb,by omega,y,b0⟩
 case round=>
  obtain⟨t,s1,a1,l1,c1,ht,rfl,hq,hzs,hl1,hy,kr⟩:=hrel
  have q0:=hq.c0
  have q1:=hq.c1
  by_cases htn:t<n
  ·rcases hP with hP|⟨bp,op,rfl,hP⟩
   ·omega
   obtain⟨s2,a2,l2,c2,e0,e1,e2,hz,hl2,hv⟩:=(hP.below kr.out).2 t o_m
   have hps:Hid (ps.take (t+1)=ps.take t++ [ps[t]]):=List.take_succ_eq_append_getElem (l:=ps) (i:=t) o_m
   generalize ps[t]=pp at*
   have ka:=below_alloc wr (.cells #[.int .i64 pp.1,.bool s2,.slice a2 l2 c2] 134)
   have hq2:=hq.below ka
   have hy2:=hy.below ka
   have hul:=hq.lt
   have kr2:=hide (grow_step ka kr.out)
   have hzs2:=hzs.below ka
   have hz2:=hz.below ka
   obtain⟨pv,pz⟩:=pp
   dsimp only at*
   by_cases hvv:pv=v
   ·subst hvv
    go_wp2_with fail
    refine(zadd_n hzs2.zm hz2 o_m o_m).mono ?_
    rintro e w3 ⟨s3,a3,l3,c3,rfl,hz3,k3,hl3⟩
    replace hq2:=hq2.below k3
    have q4:=hq2.c0
    have q5:=hq2.c1
    have q6:=hq2.f 0
    have q7:=hq2.f 1
    replace hy2:=hy2.below k3
    replace kr2:=hide (grow_step k3 kr2.out)
    clear ka k3
    go_wp2_with fail
    refine⟨⟨t+1,s3,a3,l3,c3,by omega,by go_num,zb_fin hq2 s3 a3 l3 c3,?_,by omega,?_,?_⟩,by simp[intOf];omega⟩
    ·rw[hps.out,csum_snoc,if_pos rfl]
     exact zb_zn hq2 hz3 _ _ _ _
    ·exact hy2.only (only2 _ _ _ _) (by have:=hpr.out;omega)
    exact(kr2.out.setCell (by have:=hpr.out;have:=hp.out;show w.heap.size≤u;omega) _).setCell (by have:=hpr.out;have:=hp.out;show w.heap.size≤u;omega) _
   go_wp2_with fail
   refine⟨⟨t+1,s1,a1,l1,c1,by omega,by go_num,hq2,?_,by omega,hy2,kr2⟩,by simp[intOf];omega⟩
   rw[hps.out,csum_snoc,if_neg hvv,Int.add_zero]
   exact hzs2
  obtain rfl:t=n:=by omega
  rw[List.take_of_length_le (Nat.le_of_eq hn)]at hzs
  have y0:=hy.c0
  have y1:=hy.c1
  have y2:=hy.f 0
  have y3:=hy.f 1
  go_wp2
  refine bodyPost_ret (results_cell_row rfl _ _ r 45 _ (0,0) _ rfl (zb_fin hy s1 a1 l1 c1) Tryz.underlying45 rfl k_f) rfl ?_
  exact⟨s1,a1,l1,c1,by simp,zb_zn hy hzs _ _ _ _,hl1,(kr.out.setCell (by have:=hpr.out;have:=hp.out;show w.heap.size≤r;omega) _).setCell (by have:=hpr.out;have:=hp.out;show w.heap.size≤r;omega) _⟩

theorem wpList_del_z {ops:Array Oper}{rest:List Oper}{o:Oper}{a:Act}{Q:Exit→Act→World→Prop}(hg:o.guard=none)(m x:Operand)(hop:o.op=Op.call {callee:=Callee.builtin Builtin.delete,args:=#[m,x],argTypes:=#[100,3]})
  (b n B:Nat)(f:Int→Int)(v:Int)(hm:a.eval m= .map (some b))(hx:a.eval x= .int .i64 v)(h:GM w b n f B)(hv:I64 v)
  (hK: ∀w',GM w' b n (fun u=>if u=v then 0 else f u) B→w.grownBy w' (some b)→wpList Tryz.prog ops Q rest (a.put o.dst (.tuple #[])) w'):
  wpList Tryz.prog ops Q (o::rest) a w:=by
 refine wpList_plain hg fun K' hK'=> ?_
 obtain⟨w',hrun,r1,r2⟩:=h.del hv o.type
 unfold Oper.wp
 simp[execOp,hop,resolve,invoke,builtin,hm,hx,hrun,Result.andThen]
 exact hK' _ _ (hK w' r1 r2)

theorem twithout_n (hP:Pr w ad n ps B)(hz:Zm w s a l c k)(hl:l≤B)(hB:B+n≤536870912)(hv:I64 v):
  Calls Tryz.prog 193 #[.agg #[.slice ad n cp,.bool s,.slice a l c],.int .i64 v] w fun e w'=> ∃ad' n' cp' s' a' l' c' rs,e= .returned (.agg #[.slice ad' n' cp',.bool s',.slice a' l' c'])∧TN w w' ad' n' s' a' l' c' rs k (B+n+1)∧n'≤n∧Std (rs.map Raw.p)∧∀u,csum (rs.map Raw.p) u=csum (wo v ps) u:=by
 go_enter Tryz.func193,Tryz.ntmps193
 go_wp2_with fail
 have x:=((tb_new w ad n cp s a l c).below (below_alloc _ (.cells #[.slice none 0 0,.bool false,.slice none 0 0] 47))).below (below_alloc _ (.cells #[.slice ad n cp] 42))
 have y:=(tb_new (w.alloc (.cells #[.slice ad n cp,.bool s,.slice a l c] 47)) none 0 0 false none 0 0).below (below_alloc _ (.cells #[.slice ad n cp] 42))
 have z:=heap_alloc_new ((w.alloc (.cells #[.slice ad n cp,.bool s,.slice a l c] 47)).alloc (.cells #[.slice none 0 0,.bool false,.slice none 0 0] 47)) (.cells #[.slice ad n cp] 42)
 have b0:Below w.heap.size w (((w.alloc (.cells #[.slice ad n cp,.bool s,.slice a l c] 47)).alloc (.cells #[.slice none 0 0,.bool false,.slice none 0 0] 47)).alloc (.cells #[.slice ad n cp] 42)):=below_alloc' (below_alloc' (below_alloc _ _) _) _
 rw[show(w.alloc (.cells #[.slice ad n cp,.bool s,.slice a l c] 47)).heap.size=w.heap.size+1 from by simp]at y
 rw[show((w.alloc (.cells #[.slice ad n cp,.bool s,.slice a l c] 47)).alloc (.cells #[.slice none 0 0,.bool false,.slice none 0 0] 47)).heap.size=w.heap.size+1+1 from by simp]at z
 generalize ((w.alloc (.cells #[.slice ad n cp,.bool s,.slice a l c] 47)).alloc (.cells #[.slice none 0 0,.bool false,.slice none 0 0] 47)).alloc (.cells #[.slice ad n cp] 42)=wb at*
 have hpr:w.heap.size<w.heap.size+1:=by omega
 replace hP:=hP.below b0
 replace hz:=hz.below b0
 generalize hp:w.heap.size=p at*
 replace hp:=hide hp
 generalize p+1=r at*
 generalize r+1=q at*
 refine(gather1 z hP hB).mono ?_
 rintro e w1 ⟨m,rfl,hG,k1,hm⟩
 have x1:=x.below k1
 have y1:=y.below k1
 have hxl:=x1.lt
 clear z
 have hpm:p≠m:=by have:=x.lt;omega
 go_wp2_with(at_delete;refine wpList_del_z rfl _ _ rfl m _ _ _ v rfl rfl hG hv ?_;intro w2 hG2 hg2;have x2:=x1.grown hg2 hpm;have u1:=x2.c1;have u2:=x2.c2)
 have k12:Below wb.heap.size wb w2:=below_grown k1 hg2 hm
 have hml:=hG.lt
 have y2:=y1.grown hg2 (by have:=y.lt;omega)
 clear hG
 refine(stand_p hG2 (hz.below k12) o_m o_m o_m).mono ?_
 rintro e w3 ⟨ad',n',cp',s',a',l',c',rs,rfl,hT,hn',hStd,hcs,hzR,hlR,kR⟩
 have y':=y2.below kR
 have v0:=y'.c0
 have v1:=y'.c1
 have v2:=y'.c2
 have v3:=y'.f 0
 have v4:=y'.f 1
 have v5:=y'.f 2
 have hi1:=hP.i64
 have hTN:Hid (TN w _ ad' n' s' a' l' c' rs k (B+n+1)):=tn_fin (hp.out.symm▸b0.trans (k12.mono (Nat.le_of_lt (Nat.lt_trans hpr y.lt)))) kR (hT.mono o_m) y2 (by have:=hp.out;omega) hzR o_m cp'
 clear hP hz hG2 hT hg2 b0 k1 k12 kR x2 y2 x1 y1 x y u1 u2
 go_wp2
 refine bodyPost_ret (results_cell_row rfl _ _ r 47 _ (0,0) _ rfl (tb_fin y' ad' n' cp' s' a' l' c') Tryz.underlying47 rfl k_f) rfl ?_
 exact⟨ad',n',cp',s',a',l',c',rs,by simp,hTN.out,hn',hStd,csum_all hTN.out.pr.i64 (fun q hq=>hi1 q (List.mem_filter.1 hq).1) (fun u hu=>by rw[csum_wo];exact hcs u hu)⟩

def SR (w0 w:World)(g:Nat)(rs:List Raw)(k:Int)(t B B2:Nat):Prop:=
 g<w.heap.size∧w0.heap.size≤g∧Below w0.heap.size w0 w∧∀j (h:j<rs.length),∃x:Raw,(w.cell? ⟨g,j*3,none⟩=some (.int .i64 x.v)∧w.cell? ⟨g,j*3+1,none⟩=some (.bool x.s)∧w.cell? ⟨g,j*3+2,none⟩=some (.slice x.a x.l x.c))∧
  (w.frozen? ⟨g,j*3+1,none⟩=false∧w.frozen? ⟨g,j*3+2,none⟩=false)∧x.v=rs[j].v∧I64 x.v∧(j<t→Fresh.Zn (g+1) w x.s x.a x.l x.c (k*rs[j].z)∧x.l≤B2)∧(t≤j→x=rs[j]∧x.ok w0 B)
theorem sr_start (h:PQ w0 w g rs B)(hg:w0.heap.size≤g)(hb:Below w0.heap.size w0 w):SR w0 w g rs k 0 B B2:=
 ⟨h.1,hg,hb,fun j hj=>⟨rs[j],(h.2 j hj).1,⟨(h.2 j hj).2.1.2.1,(h.2 j hj).2.1.2.2⟩,rfl,(h.2 j hj).2.2.2.2,fun h=>absurd h o_m,fun _=>⟨rfl,(h.2 j hj).2.2⟩⟩⟩
theorem SR.below (h:SR w0 w g rs k t B B2)(hb:Below w.heap.size w w'):SR w0 w' g rs k t B B2:=by
 obtain⟨h1,h2,h3,h4⟩:=h
 refine⟨Nat.lt_of_lt_of_le h1 hb.size,h2,grow_step hb h3,fun j hj=> ?_⟩
 obtain⟨x,⟨c0,c1,c2⟩,⟨f1,f2⟩,e,hi,h5,h6⟩:=h4 j hj
 have eb:w'.heap[g]? =w.heap[g]?:=hb.block g h1
 refine⟨x,⟨(World.cell?_of_block (a:=⟨g,j*3,none⟩) eb).trans c0,(World.cell?_of_block (a:=⟨g,j*3+1,none⟩) eb).trans c1,(World.cell?_of_block (a:=⟨g,j*3+2,none⟩) eb).trans c2⟩,⟨(World.frozen?_of_block (a:=⟨g,j*3+1,none⟩) eb).trans f1,(World.frozen?_of_block (a:=⟨g,j*3+2,none⟩) eb).trans f2⟩,e,hi,fun h=>⟨fzn_below (h5 h).1 hb,(h5 h).2⟩,h6⟩
theorem sr_step (h:SR w0 w g rs k t B B2)(ht:t<rs.length){s:Bool}{a:Option Addr}{l c:Nat}(hz:Fresh.Zn (g+1) w s a l c (k*rs[t].z))(hl:l≤B2):
  SR w0 ((w.setCell ⟨g,t*3+1,none⟩ (.bool s)).setCell ⟨g,t*3+2,none⟩ (.slice a l c)) g rs k (t+1) B B2:=by
 obtain⟨h1,h2,h3,h4⟩:=h
 have hgr:w.grownBy ((w.setCell ⟨g,t*3+1,none⟩ (.bool s)).setCell ⟨g,t*3+2,none⟩ (.slice a l c)) (some g):=gb_trans (gb_set _ _ _ _) (gb_set _ _ _ _)
 refine⟨Nat.lt_of_lt_of_le h1 hgr.size,h2,below_grown h3 hgr h2,fun j hj=> ?_⟩
 obtain⟨x,⟨c0,c1,c2⟩,⟨f1,f2⟩,e,hi,h5,h6⟩:=h4 j hj
 have hfz: ∀o,((w.setCell ⟨g,t*3+1,none⟩ (.bool s)).setCell ⟨g,t*3+2,none⟩ (.slice a l c)).frozen? ⟨g,o,none⟩=w.frozen? ⟨g,o,none⟩:=fun o=>by rw[World.frozen?_setCell,World.frozen?_setCell]
 by_cases e1:j=t
 ·subst e1
  refine⟨⟨x.v,s,a,l,c,k*rs[j].z⟩,⟨?_,?_,?_⟩,⟨(hfz _).trans f1,(hfz _).trans f2⟩,e,hi,fun _=>⟨fzn_grown hz hgr (Nat.lt_succ_self _),hl⟩,fun h=>absurd h o_m⟩
  ·rw[World.cell?_setCell_other _ _ _ _ (by simp),World.cell?_setCell_other _ _ _ _ (by simp)];exact c0
  ·rw[World.cell?_setCell_other _ _ _ _ (by simp)];exact World.cell?_setCell_same _ _ _ c1
  exact World.cell?_setCell_same _ _ _ (u:=.slice x.a x.l x.c) (by rw[World.cell?_setCell_other _ _ _ _ (by simp)];exact c2)
 have hc: ∀o,j*3≤o→o<j*3+3→((w.setCell ⟨g,t*3+1,none⟩ (.bool s)).setCell ⟨g,t*3+2,none⟩ (.slice a l c)).cell? ⟨g,o,none⟩=w.cell? ⟨g,o,none⟩:=fun o ho1 ho2=>by
  rw[World.cell?_setCell_other _ _ _ _ (by simp <;> omega),World.cell?_setCell_other _ _ _ _ (by simp <;> omega)]
 refine⟨x,⟨(hc _ o_m o_m).trans c0,(hc _ o_m o_m).trans c1,(hc _ o_m o_m).trans c2⟩,⟨(hfz _).trans f1,(hfz _).trans f2⟩,e,hi,fun h=>⟨fzn_grown (h5 o_m).1 hgr (Nat.lt_succ_self _),(h5 o_m).2⟩,fun h=>h6 o_m⟩
def SE (w:World)(g:Nat)(rs:List Raw)(k:Int)(B2:Nat):Prop:=
 g<w.heap.size∧∀j (h:j<rs.length),∃x:Raw,(w.cell? ⟨g,j*3,none⟩=some (.int .i64 x.v)∧w.cell? ⟨g,j*3+1,none⟩=some (.bool x.s)∧w.cell? ⟨g,j*3+2,none⟩=some (.slice x.a x.l x.c))∧x.v=rs[j].v∧I64 x.v∧Fresh.Zn (g+1) w x.s x.a x.l x.c (k*rs[j].z)∧x.l≤B2
theorem sr_se (h:SR w0 w g rs k t B B2)(ht:rs.length≤t):SE w g rs k B2:=by
 obtain⟨h1,h2,h3,h4⟩:=h
 refine⟨h1,fun i hi=> ?_⟩
 obtain⟨x,c,_,e,hv,h5,_⟩:=h4 i hi
 exact⟨x,c,e,hv,h5 o_m⟩
theorem SE.block (h:SE w g rs k B2)(hs:w.heap.size≤w'.heap.size)(eb:w'.heap[g]? =w.heap[g]?)(hz: ∀s a l c z,Fresh.Zn (g+1) w s a l c z→Fresh.Zn (g+1) w' s a l c z):SE w' g rs k B2:=by
 refine⟨Nat.lt_of_lt_of_le h.1 hs,fun j hj=> ?_⟩
 obtain⟨x,⟨c0,c1,c2⟩,e,hi,h5,h6⟩:=h.2 j hj
 exact⟨x,⟨(World.cell?_of_block (a:=⟨g,j*3,none⟩) eb).trans c0,(World.cell?_of_block (a:=⟨g,j*3+1,none⟩) eb).trans c1,(World.cell?_of_block (a:=⟨g,j*3+2,none⟩) eb).trans c2⟩,e,hi,hz _ _ _ _ _ h5,h6⟩
theorem SE.below (h:SE w g rs k B2)(hb:Below w.heap.size w w'):SE w' g rs k B2:=h.block hb.size (hb.block g h.1) fun _ _ _ _ _ hz=>fzn_below hz hb
theorem SE.grown (h:SE w g rs k B2)(hg:w.grownBy w' (some m))(hm:m<g):SE w' g rs k B2:=h.block hg.size (hg.block g h.1 (by simp;omega)) fun _ _ _ _ _ hz=>fzn_grown hz hg o_m
theorem se_pl (h:SE w g rs k B2):PL w g 0 (scl k (rs.map Raw.p)) B2:=by
 refine⟨h.1,fun i hi=> ?_⟩
 have hi':i<rs.length:=by simpa [scl] using hi
 obtain⟨x,⟨c0,c1,c2⟩,e,hv,h5,h6⟩:=h.2 i hi'
 have e2:(scl k (rs.map Raw.p))[i]=(rs[i].v,k*rs[i].z):=by simp[scl,Raw.p]
 rw[e2,Nat.zero_add]
 exact⟨x.s,x.a,x.l,x.c,by rw[←e];exact c0,c1,c2,h5.zn.zm,h6,by rw[←e];exact hv⟩
theorem std_scl (hk:k≠0){ps:List (Int × Int)}(h:Std ps):Std (scl k ps):=by
 refine⟨?_,fun p hp=> ?_⟩
 ·unfold scl;rw[List.pairwise_map];exact h.1
 obtain⟨q,hq,rfl⟩:=List.mem_map.1 hp
 exact Int.mul_ne_zero hk (h.2 q hq)
theorem kb_set (w:World)(b:Nat)(v1 v2:Value):w.grownBy ((w.setCell ⟨b,1,none⟩ v1).setCell ⟨b,2,none⟩ v2) (some b):=gb_trans (gb_set _ _ _ _) (gb_set _ _ _ _)
theorem tb_fin2 (h:TB w b ad n cp s a l c)(s':Bool)(a':Option Addr)(l' c':Nat):
  TB ((w.setCell ⟨b,1,none⟩ (.bool s')).setCell ⟨b,2,none⟩ (.slice a' l' c')) b ad n cp s' a' l' c':=
 heap_setCell_same _ b 2 _ _ _ (heap_setCell_same w b 1 _ _ _ h)

theorem sk {q u:Nat}{s1:Bool}{a1:Option Addr}{l1 c1:Nat}{c2:Nat}(x:ZB wb p s a l c)(y:TB wb q ad n cp s1 a1 l1 c1)(z:PB wb u v s2 a2 l2 c2)(hp:p≠g)(hq:q≠g)(hu:u≠g)(k:wb.grownBy w' (some g)):
  w'.cell? ⟨p,0,none⟩=some (.bool s)∧w'.cell? ⟨p,1,none⟩=some (.slice a l c)∧w'.cell? ⟨q,0,none⟩=some (.slice ad n cp)∧w'.cell? ⟨u,0,none⟩=some (.int .i64 v)∧w'.cell? ⟨u,1,none⟩=some (.bool s2)∧w'.cell? ⟨u,2,none⟩=some (.slice a2 l2 c2)∧wb.grownBy w' (some g):=by
 have x':=x.grown k hp
 have y':=y.grown k hq
 have z':PB w' u v s2 a2 l2 c2:=(k.block u z.lt (by simpa using hu)).trans z
 exact⟨x'.c0,x'.c1,y'.c0,z'.c0,z'.c1,z'.c2,k⟩

theorem tscale_n {c0:Nat}{k0:Int}(hk:Zm w s0 a0 l0 c0 k0)(hk0:l0≤536870912)(hP:Pr w ad n ps B)(hz:Zm w s a l c k)(hl:l≤B)(hB:B+n≤536870912):
  Calls Tryz.prog 105 #[.agg #[.bool s0,.slice a0 l0 c0],.agg #[.slice ad n cp,.bool s,.slice a l c]] w fun e w'=> ∃ad' n' cp' s' a' l' c' qs,e= .returned (.agg #[.slice ad' n' cp',.bool s',.slice a' l' c'])∧TW w' ad' n' s' a' l' c' qs (k0*k) (l0+(B+n+1))∧n'≤n∧Std qs∧(∀v,csum qs v=csum (scl k0 ps) v)∧Below w.heap.size w w':=by
 go_enter Tryz.func105,Tryz.ntmps105
 go_wp2_with fail
 have x:=((zb_new w s0 a0 l0 c0).below (below_alloc _ (.cells #[.slice ad n cp,.bool s,.slice a l c] 47))).below (below_alloc _ (.cells #[.slice none 0 0,.bool false,.slice none 0 0] 47))
 have q:=(tb_new (w.alloc (.cells #[.bool s0,.slice a0 l0 c0] 45)) ad n cp s a l c).below (below_alloc _ (.cells #[.slice none 0 0,.bool false,.slice none 0 0] 47))
 have y:=tb_new ((w.alloc (.cells #[.bool s0,.slice a0 l0 c0] 45)).alloc (.cells #[.slice ad n cp,.bool s,.slice a l c] 47)) none 0 0 false none 0 0
 have b0:Below w.heap.size w (((w.alloc (.cells #[.bool s0,.slice a0 l0 c0] 45)).alloc (.cells #[.slice ad n cp,.bool s,.slice a l c] 47)).alloc (.cells #[.slice none 0 0,.bool false,.slice none 0 0] 47)):=below_alloc' (below_alloc' (below_alloc _ _) _) _
 rw[show(w.alloc (.cells #[.bool s0,.slice a0 l0 c0] 45)).heap.size=w.heap.size+1 from by simp]at q
 rw[show((w.alloc (.cells #[.bool s0,.slice a0 l0 c0] 45)).alloc (.cells #[.slice ad n cp,.bool s,.slice a l c] 47)).heap.size=w.heap.size+1+1 from by simp]at y
 generalize ((w.alloc (.cells #[.bool s0,.slice a0 l0 c0] 45)).alloc (.cells #[.slice ad n cp,.bool s,.slice a l c] 47)).alloc (.cells #[.slice none 0 0,.bool false,.slice none 0 0] 47)=wb at*
 have hpr:w.heap.size<w.heap.size+1∧w.heap.size+1<w.heap.size+1+1:=by omega
 replace hP:=hP.below b0
 replace hz:=hz.below b0
 have hkw:=hide hk
 replace hk:=hk.below b0
 generalize hp:w.heap.size=p at*
 replace b0:Hid (Below w.heap.size w wb):=hp▸b0
 replace hp:=hide hp
 generalize p+1=q0 at*
 generalize q0+1=r at*
 replace hpr:=hide hpr
 refine(zsign_n hk o_m).mono ?_
 rintro e w1 ⟨rfl,k1⟩
 have x1:=x.below k1
 have q1:=q.below k1
 have y1:=y.below k1
 replace hP:=hP.below k1
 replace hz:=hz.below k1
 replace hk:=hk.below k1
 replace b0:=hide (grow_step k1 b0.out)
 clear k1 x q y
 by_cases h0:k0=0
 ·have e0:cmpI k0 0=0:=cmpI_eq h0
  rw[e0]
  have v0:=y1.c0
  have v1:=y1.c1
  have v2:=y1.c2
  have v3:=y1.f 0
  have v4:=y1.f 1
  have v5:=y1.f 2
  go_wp2
  refine bodyPost_ret (results_cell_row rfl _ _ r 47 _ (0,0) _ rfl (tb_fin y1 none 0 0 false none 0 0) Tryz.underlying47 rfl k_f) rfl ?_
  exact⟨none,0,0,false,none,0,0,[],by simp,⟨⟨rfl,.inl rfl⟩,by rw[h0,Int.zero_mul];exact(zn_zero _).zm,Nat.zero_le _⟩,Nat.zero_le _,std_nil,fun v=>by rw[csum_scl,h0,Int.zero_mul];rfl,below_grown b0.out (tb_set _ _ _ _ _) (by have:=hp.out;have:=hpr.out;omega)⟩
 have e0:cmpI k0 0≠0:=by unfold cmpI;split <;> (try split) <;> omega
 have t0:=q1.c0
 have t1:=q1.c1
 have t2:=q1.c2
 generalize cmpI k0 0=sgn at*
 go_wp2_with fail
 refine(tnorm_n hP hz hl hB).mono ?_
 rintro e w2 ⟨ad1,n1,cp1,s1,a1,l1,c1,rs,rfl,hTN,hn1,hStd,hcs⟩
 obtain⟨wm,bm1,bm2,hT,hzn,hln⟩:=hTN
 have bm:Below w1.heap.size w1 w2:=grow_step bm2 bm1
 have hwq:w.heap.size≤q0:=by have:=hp.out;have:=hpr.out;omega
 have hqw:q0<wm.heap.size∧p<wm.heap.size∧r<wm.heap.size:=⟨(q1.below bm1).lt,(x1.below bm1).lt,(y1.below bm1).lt⟩
 have hTN:=tn_fin2 (w:=w) (grow_step bm1 b0.out) bm2 hT (q1.below bm1) hwq hzn hln cp1
 have q2:=q1.below bm
 have x3:=(x1.below bm).grown (tb_set w2 q0 (.slice ad1 n1 cp1) (.bool s1) (.slice a1 l1 c1)) (by have:=hpr.out;omega)
 have y3:=(y1.below bm).grown (tb_set w2 q0 (.slice ad1 n1 cp1) (.bool s1) (.slice a1 l1 c1)) (by have:=hpr.out;omega)
 have q3:=tb_fin q2 ad1 n1 cp1 s1 a1 l1 c1
 have d0:=q2.c0
 have d1:=q2.c1
 have d2:=q2.c2
 have d3:=q2.f 0
 have d4:=q2.f 1
 have d5:=q2.f 2
 have d6:=q3.c0
 clear hT hzn bm1 bm2 bm x1 y1 t0 t1 t2 q1 q2 b0 hk hP hz
 go_wp2_with fail
 generalize ((w2.setCell ⟨q0,0,none⟩ (.slice ad1 n1 cp1)).setCell ⟨q0,1,none⟩ (.bool s1)).setCell ⟨q0,2,none⟩ (.slice a1 l1 c1)=wc at*
 clear d0 d1 d2 d3 d4 d5 d6
 obtain⟨wn,hsz,bn1,bn2,hTr,hK,hln⟩:=hTN
 obtain⟨hrn,hTr⟩:=hTr
 rw[←hsz]at hqw
 replace hqw:=hide hqw
 clear hsz
 go_loopw [16] (fun i wr=> ∃t:Nat,t≤n1∧i= .int .i64 t∧(n1=0∨ ∃g,ad1=some ⟨g,0,none⟩∧SR wn wr g rs k0 t (B+n+1) (l0+(B+n+1)))∧ZB wr p s0 a0 l0 c0∧TB wr q0 ad1 n1 cp1 s1 a1 l1 c1∧TB wr r none 0 0 false none 0 0∧Kn wr ad1 s1 a1 l1 c1 k∧Hid (Below w.heap.size w wr)) (fun i _=>n1-(intOf i).toNat)
 case atStart=>
  refine⟨0,Nat.zero_le _,rfl,?_,x3,q3,y3,hK,grow_step bn2 bn1⟩
  rcases hTr with⟨_,h⟩|⟨g,e,hg,hPQ⟩
  ·exact .inl h
  exact .inr ⟨g,e,sr_start hPQ hg bn2⟩
 case round=>
  obtain⟨t,ht,rfl,hS,hx,hq,hy,hKr,kr⟩:=hrel
  by_cases htn:t<n1
  ·rcases hS with h|⟨g,rfl,hS⟩
   ·omega
   obtain⟨hgl,hg0,hbw,hrow⟩:=id hS
   obtain⟨xr,⟨e0,e1,e2⟩,⟨f1,f2⟩,ev,hi,-,h6⟩:=hrow t o_m
   obtain⟨hxr,hok⟩:=h6 (Nat.le_refl _)
   replace hxr:=hide hxr
   clear h6 hrow ev
   have hls:l0+xr.l≤l0+(B+n+1):=by have:=hok.2.1;omega
   have hlx:=hok.2.1
   go_wp2_with fail
   have z:=pb_new wr xr.v xr.s xr.a xr.l xr.c
   have ka:=below_alloc wr (.cells #[.int .i64 xr.v,.bool xr.s,.slice xr.a xr.l xr.c] 134)
   have hx2:=hx.below ka
   have hq2:=hq.below ka
   have hpg:p≠g:=by have:=hqw.out;omega
   have hqg:q0≠g:=by have:=hqw.out;omega
   have hug:wr.heap.size≠g:=by omega
   have hS2:=hS.below ka
   have hzx:=((hok.1.below hbw).below ka)
   have hk2:=(hkw.out.below kr.out).below ka
   replace hy:=hy.below ka
   replace hKr:=hide (And.intro (hKr.1.below ka) (fzn_below (hKr.2 g rfl) ka))
   replace kr:=hide (grow_step ka kr.out)
   clear e0 e1 e2 f1 f2 hx hq hS hbw ka
   generalize wr.alloc (.cells #[.int .i64 xr.v,.bool xr.s,.slice xr.a xr.l xr.c] 134)=wb at*
   generalize wr.heap.size=u at*
   have kd:=grow_drew (Below.refl wb.heap.size wb)
   have hd:wb.grownBy wb.drew (some g):=⟨rfl,rfl,rfl,Nat.le_refl _,fun _ _ _=>rfl⟩
   have hgw:g+1≤wb.drew.heap.size:=hS2.1
   go_region_held3 (fun w'=>w'.cell? ⟨p,0,none⟩=some (.bool s0)∧w'.cell? ⟨p,1,none⟩=some (.slice a0 l0 c0)∧w'.cell? ⟨q0,0,none⟩=some (.slice (some ⟨g,0,none⟩) n1 cp1)∧w'.cell? ⟨u,0,none⟩=some (.int .i64 xr.v)∧w'.cell? ⟨u,1,none⟩=some (.bool xr.s)∧w'.cell? ⟨u,2,none⟩=some (.slice xr.a xr.l xr.c)∧wb.grownBy w' (some g))
    ((refine sk hx2 hq2 z hpg hqg hug ?_;assumption))
    (first|(go_at_call 65;refine(Fresh.zmul_n (B:=g+1) (Fresh.zm_of (Zm.below hk2 kd) hgw) (Fresh.zm_of (Zm.below hzx.zm kd) hgw) (by omega) (by omega)).mono ?_;rintro e w3 ⟨s3,a3,l3,c3,rfl,hz3,k3,hl3⟩;have hS3:=(hS2.below kd).below k3;obtain⟨xx,⟨-,g1,g2⟩,⟨g3,g4⟩,-⟩:=hS3.2.2.2 t (by omega);have hg1:=gb_below hd k3;have hg2:wb.grownBy ((w3.setCell ⟨g,t*3+1,none⟩ (.bool s3)).setCell ⟨g,t*3+2,none⟩ (.slice a3 l3 c3)) (some g):=gb_trans (gb_trans hg1 (gb_set _ _ _ _)) (gb_set _ _ _ _)))
   have hS4:=sr_step hS3 (show t<rs.length by omega) (s:=s3) (a:=a3) (l:=l3) (c:=c3) (by have:=hxr.out;rw[←this];exact hz3) o_m
   have hx4:=hx2.grown hg2 hpg
   have hq4:=hq2.grown hg2 hqg
   have hy4:=hy.grown hg2 (by have:=hqw.out;omega)
   have hK4:=fzn_grown hKr.out.2 hg2 (Nat.lt_succ_self _)
   have kr4:=hide (below_grown kr.out hg2 (by have:=hqw.out;have:=hp.out;have:=bn1.size;omega))
   clear hg2 hg1 g1 g2 g3 g4 hS3 hz3 k3 hKr hd kd hgw hS2 hzx hk2
   go_wp2_with fail
   exact⟨⟨t+1,by omega,by go_num,.inr ⟨g,rfl,hS4⟩,hx4,hq4,hy4,⟨hK4.zn,fun g' e=>by cases e;exact hK4⟩,kr4⟩,by simp[intOf];omega⟩
  obtain rfl:t=n1:=by omega
  have m0:=hx.c0
  have m1:=hx.c1
  have m2:=hq.c1
  have m3:=hq.c2
  go_wp2_with fail
  refine(zmul_n (hkw.out.below kr.out) hKr.1.zm o_m o_m).mono ?_
  rintro e w4 ⟨s4,a4,l4,c4,rfl,hz4,k4,hl4⟩
  have q4:=hq.below k4
  have y4:=hy.below k4
  have n0:=q4.c0
  have n2:=q4.c1
  have n3:=q4.c2
  have n4:=q4.f 1
  have n5:=q4.f 2
  have o0:=y4.c0
  have o1:=y4.c1
  have o2:=y4.c2
  have o3:=y4.f 0
  have o4:=y4.f 1
  have o5:=y4.f 2
  have hrq:r≠q0:=by have:=hpr.out;omega
  have hqr:q0≠r:=by have:=hpr.out;omega
  have q5:=tb_fin2 q4 s4 a4 l4 c4
  have g5:=kb_set w4 q0 (.bool s4) (.slice a4 l4 c4)
  have y5:=y4.grown g5 hrq
  have hz5:=(hz4.grownU g5 (tb_noU q4)).grownU (tb_set _ r (.slice ad1 t cp1) (.bool s4) (.slice a4 l4 c4)) (tb_noU y5)
  have kr5:=hide (below_grown (below_grown (grow_step k4 kr.out) g5 hwq) (tb_set _ r (.slice ad1 t cp1) (.bool s4) (.slice a4 l4 c4)) (by have:=hp.out;have:=hpr.out;omega))
  have hPr:Hid (Pr (((((w4.setCell ⟨q0,1,none⟩ (.bool s4)).setCell ⟨q0,2,none⟩ (.slice a4 l4 c4)).setCell ⟨r,0,none⟩ (.slice ad1 t cp1)).setCell ⟨r,1,none⟩ (.bool s4)).setCell ⟨r,2,none⟩ (.slice a4 l4 c4)) ad1 t (scl k0 (rs.map Raw.p)) (l0+(B+n+1))):=by
   refine⟨by simpa [scl] using hrn,?_⟩
   rcases hS with h|⟨g,rfl,hS⟩
   ·exact .inl h
   have hg0:=hS.2.1
   exact .inr ⟨g,0,rfl,se_pl ((((sr_se hS o_m).below k4).grown g5 (by have:=hqw.out;omega)).grown (tb_set _ _ _ _ _) (by have:=hqw.out;omega))⟩
  clear hS k4 kr hKr hz4 hq hy hx m0 m1 m2 m3 bn1 bn2 hTr g5 q4 y4
  go_wp2
  refine bodyPost_ret (results_cell_row rfl _ _ r 47 _ (0,0) _ rfl (tb_fin y5 ad1 t cp1 s4 a4 l4 c4) Tryz.underlying47 rfl k_f) rfl ?_
  exact⟨ad1,t,cp1,s4,a4,l4,c4,scl k0 (rs.map Raw.p),by simp,⟨hPr.out,hz5.zm,by omega⟩,hn1,std_scl h0 hStd,fun v=>by rw[csum_scl,csum_scl,hcs],kr5.out⟩

theorem tn_store {c0:Nat}(b0:Below w.heap.size w wb)(kW:Below wb.heap.size wb W)(hT:TN W w2 ad' n' s' a' l' c' rs k B)
  (y:TB W r ad0 n0 cp0 s0 a0 l0 c0)(hr:w.heap.size≤r)(cp':Nat):
  TN w (((w2.setCell ⟨r,0,none⟩ (.slice ad' n' cp')).setCell ⟨r,1,none⟩ (.bool s')).setCell ⟨r,2,none⟩ (.slice a' l' c')) ad' n' s' a' l' c' rs k B:=by
 obtain⟨w1,h1,h2,h3,h4,h5⟩:=hT
 exact tn_fin (grow_step h1 (grow_step kW b0)) h2 h3 (y.below h1) hr h4 h5 cp'

theorem tsub_n {c2:Nat}(hP:Pr w ad n ps B)(hz:Zm w s a l c k)(hl:l≤B)(hP2:Pr w ad2 n2 qs B)(hz2:Zm w s2 a2 l2 c2 k2)(hl2:l2≤B)(hB:B+n2+3+(n+n2)≤536870912):
  Calls Tryz.prog 56 #[.agg #[.slice ad n cp,.bool s,.slice a l c],.agg #[.slice ad2 n2 cp2,.bool s2,.slice a2 l2 c2]] w fun e w'=> ∃ad' n' cp' s' a' l' c' rs,e= .returned (.agg #[.slice ad' n' cp',.bool s',.slice a' l' c'])∧TN w w' ad' n' s' a' l' c' rs (k-k2) (B+n2+3+(n+n2)+2)∧n'≤n+n2∧Std (rs.map Raw.p)∧∀v,csum (rs.map Raw.p) v=csum (ps++scl (-1) qs) v:=by
 go_enter Tryz.func56,Tryz.ntmps56
 go_wp2_with fail
 have x:=((tb_new w ad n cp s a l c).below (below_alloc _ (.cells #[.slice ad2 n2 cp2,.bool s2,.slice a2 l2 c2] 47))).below (below_alloc _ (.cells #[.slice none 0 0,.bool false,.slice none 0 0] 47))
 have x2:=(tb_new (w.alloc (.cells #[.slice ad n cp,.bool s,.slice a l c] 47)) ad2 n2 cp2 s2 a2 l2 c2).below (below_alloc _ (.cells #[.slice none 0 0,.bool false,.slice none 0 0] 47))
 have y:=tb_new ((w.alloc (.cells #[.slice ad n cp,.bool s,.slice a l c] 47)).alloc (.cells #[.slice ad2 n2 cp2,.bool s2,.slice a2 l2 c2] 47)) none 0 0 false none 0 0
 have b0:Below w.heap.size w (((w.alloc (.cells #[.slice ad n cp,.bool s,.slice a l c] 47)).alloc (.cells #[.slice ad2 n2 cp2,.bool s2,.slice a2 l2 c2] 47)).alloc (.cells #[.slice none 0 0,.bool false,.slice none 0 0] 47)):=below_alloc' (below_alloc' (below_alloc _ _) _) _
 rw[show(w.alloc (.cells #[.slice ad n cp,.bool s,.slice a l c] 47)).heap.size=w.heap.size+1 from by simp]at x2
 rw[show((w.alloc (.cells #[.slice ad n cp,.bool s,.slice a l c] 47)).alloc (.cells #[.slice ad2 n2 cp2,.bool s2,.slice a2 l2 c2] 47)).heap.size=w.heap.size+1+1 from by simp]at y
 generalize ((w.alloc (.cells #[.slice ad n cp,.bool s,.slice a l c] 47)).alloc (.cells #[.slice ad2 n2 cp2,.bool s2,.slice a2 l2 c2] 47)).alloc (.cells #[.slice none 0 0,.bool false,.slice none 0 0] 47)=wb at*
 have hpr:w.heap.size<w.heap.size+1+1:=by omega
 have hpr2:w.heap.size+1<w.heap.size+1+1:=by omega
 replace hP:=hP.below b0
 replace hz:=hz.below b0
 replace hP2:=hP2.below b0
 replace hz2:=hz2.below b0
 generalize hp:w.heap.size=p at*
 replace hp:=hide hp
 generalize p+1=p2 at*
 generalize p2+1=r at*
 have hrb:=Nat.le_of_lt y.lt
 go_region_held3 (fun w'=>w'.cell? ⟨p,0,none⟩=some (.slice ad n cp)∧w'.cell? ⟨p,1,none⟩=some (.bool s)∧w'.cell? ⟨p,2,none⟩=some (.slice a l c)∧w'.cell? ⟨p2,0,none⟩=some (.slice ad2 n2 cp2)∧w'.cell? ⟨p2,1,none⟩=some (.bool s2)∧w'.cell? ⟨p2,2,none⟩=some (.slice a2 l2 c2)∧Below r wb w')
  ((refine tk6 x x2 hpr hpr2 ?_;first|(refine Below.mono ?_ hrb;focus ((with_reducible repeat' first|exact Below.refl _ _|assumption|refine grow_step (by assumption) ?_|refine grow_drew ?_|refine grow_alloc ?_ _|refine grow_drewN ?_ _);done))|(refine(((Below.mono ?_ hrb).setCell (Nat.le_refl _) _).setCell (Nat.le_refl _) _).setCell (Nat.le_refl _) _;focus ((with_reducible repeat' first|exact Below.refl _ _|assumption|refine grow_step (by assumption) ?_|refine grow_drew ?_|refine grow_alloc ?_ _|refine grow_drewN ?_ _);done))))
  (first|(go_at_call 59;refine(zof_n (-1) (by decide) (by decide) _).mono ?_;rintro e wA ⟨sA,aA,lA,cA,rfl,hzA,kA,hlA⟩)|(go_at_call 105;refine(tscale_n hzA.zm (by omega) (Pr.below hP2 gw) (Zm.below hz2 gw) hl2 (by omega)).mono ?_;rintro e wS ⟨ad3,n3,cp3,s3,a3,l3,c3,us,rfl,hTS,hnS,hStdS,hcsS,kS⟩)|(go_at_call 57;refine(tadd_n (B:=B+n2+3) (Pr.mono (Pr.below hP gw) (by omega)) (Zm.below hz gw) (by omega) (Pr.mono hTS.1 (by omega)) hTS.2.1 (by have:=hTS.2.2;omega) (by omega)).mono ?_;rintro e w2 ⟨ad',n',cp',s',a',l',c',rs,rfl,hT,hn',hStd,hcs⟩;have kR:=hT.below;have kW:=mid kR (show Below wb.heap.size wb _ from gw);have y1':=TB.below y kW;have y':=y1'.below kR;have y0:=y'.c0;have y1:=y'.c1;have y2:=y'.c2;have y3:=y'.f 0;have y4:=y'.f 1;have y5:=y'.f 2))
 all_goals
  clear hP hP2 hz hz2
  go_wp2
  refine bodyPost_ret (results_cell_row rfl _ _ r 47 _ (0,0) _ rfl (tb_fin y' ad' n' cp' s' a' l' c') Tryz.underlying47 rfl k_f) rfl ?_
  have hTN:=(tn_store (w:=w) (hp.out.symm▸b0) kW hT y1' (by have:=hp.out;omega) cp').mono (B':=B+n2+3+(n+n2)+2) o_m
  rw[show k+ -1*k2=k-k2 by omega]at hTN
  exact⟨ad',n',cp',s',a',l',c',rs,by simp,hTN,by omega,hStd,fun v=>by rw[hcs,csum_append,csum_append,hcsS]⟩

theorem tput_n {c2:Nat}(hv:I64 v)(hP:Pr w ad n ps B)(hz:Zm w s a l c k)(hl:l≤B)(hP2:Pr w ad2 n2 qs B)(hz2:Zm w s2 a2 l2 c2 k2)(hl2:l2≤B)(hB:B+n+(B+n2+1)+(n+n2)≤536870912):
  Calls Tryz.prog 170 #[.agg #[.slice ad n cp,.bool s,.slice a l c],.int .i64 v,.agg #[.slice ad2 n2 cp2,.bool s2,.slice a2 l2 c2]] w fun e w'=> ∃ad' n' cp' s' a' l' c' rs,e= .returned (.agg #[.slice ad' n' cp',.bool s',.slice a' l' c'])∧TN w w' ad' n' s' a' l' c' rs (k+csum ps v*k2) (B+n+(B+n2+1)+(n+n2)+2)∧n'≤n+n2∧Std (rs.map Raw.p)∧∀u,csum (rs.map Raw.p) u=csum (wo v ps++scl (csum ps v) qs) u:=by
 go_enter Tryz.func170,Tryz.ntmps170
 go_wp2_with fail
 have x:=((tb_new w ad n cp s a l c).below (below_alloc _ (.cells #[.slice ad2 n2 cp2,.bool s2,.slice a2 l2 c2] 47))).below (below_alloc _ (.cells #[.slice none 0 0,.bool false,.slice none 0 0] 47))
 have x2:=(tb_new (w.alloc (.cells #[.slice ad n cp,.bool s,.slice a l c] 47)) ad2 n2 cp2 s2 a2 l2 c2).below (below_alloc _ (.cells #[.slice none 0 0,.bool false,.slice none 0 0] 47))
 have y:=tb_new ((w.alloc (.cells #[.slice ad n cp,.bool s,.slice a l c] 47)).alloc (.cells #[.slice ad2 n2 cp2,.bool s2,.slice a2 l2 c2] 47)) none 0 0 false none 0 0
 have b0:Below w.heap.size w (((w.alloc (.cells #[.slice ad n cp,.bool s,.slice a l c] 47)).alloc (.cells #[.slice ad2 n2 cp2,.bool s2,.slice a2 l2 c2] 47)).alloc (.cells #[.slice none 0 0,.bool false,.slice none 0 0] 47)):=below_alloc' (below_alloc' (below_alloc _ _) _) _
 rw[show(w.alloc (.cells #[.slice ad n cp,.bool s,.slice a l c] 47)).heap.size=w.heap.size+1 from by simp]at x2
 rw[show((w.alloc (.cells #[.slice ad n cp,.bool s,.slice a l c] 47)).alloc (.cells #[.slice ad2 n2 cp2,.bool s2,.slice a2 l2 c2] 47)).heap.size=w.heap.size+1+1 from by simp]at y
 generalize ((w.alloc (.cells #[.slice ad n cp,.bool s,.slice a l c] 47)).alloc (.cells #[.slice ad2 n2 cp2,.bool s2,.slice a2 l2 c2] 47)).alloc (.cells #[.slice none 0 0,.bool false,.slice none 0 0] 47)=wb at*
 have hpr:w.heap.size<w.heap.size+1+1:=by omega
 have hpr2:w.heap.size+1<w.heap.size+1+1:=by omega
 replace hP:=hP.below b0
 replace hz:=hz.below b0
 replace hP2:=hP2.below b0
 replace hz2:=hz2.below b0
 generalize hp:w.heap.size=p at*
 replace hp:=hide hp
 generalize p+1=p2 at*
 generalize p2+1=r at*
 have hrb:=Nat.le_of_lt y.lt
 go_region_held3 (fun w'=>w'.cell? ⟨p,0,none⟩=some (.slice ad n cp)∧w'.cell? ⟨p,1,none⟩=some (.bool s)∧w'.cell? ⟨p,2,none⟩=some (.slice a l c)∧w'.cell? ⟨p2,0,none⟩=some (.slice ad2 n2 cp2)∧w'.cell? ⟨p2,1,none⟩=some (.bool s2)∧w'.cell? ⟨p2,2,none⟩=some (.slice a2 l2 c2)∧Below r wb w')
  ((refine tk6 x x2 hpr hpr2 ?_;first|(refine Below.mono ?_ hrb;focus ((with_reducible repeat' first|exact Below.refl _ _|assumption|refine grow_step (by assumption) ?_|refine grow_drew ?_|refine grow_alloc ?_ _|refine grow_drewN ?_ _);done))|(refine(((Below.mono ?_ hrb).setCell (Nat.le_refl _) _).setCell (Nat.le_refl _) _).setCell (Nat.le_refl _) _;focus ((with_reducible repeat' first|exact Below.refl _ _|assumption|refine grow_step (by assumption) ?_|refine grow_drew ?_|refine grow_alloc ?_ _|refine grow_drewN ?_ _);done))))
  (first|(go_at_call 194;refine(tcoef_n (Pr.below hP gw) (by omega)).mono ?_;rintro e wA ⟨sA,aA,lA,cA,rfl,hzA,hlA,kA⟩)|(go_at_call 105;refine(tscale_n (Zm.below hzA.zm gw) (by omega) (Pr.below hP2 gw) (Zm.below hz2 gw) hl2 (by omega)).mono ?_;rintro e wS ⟨ad3,n3,cp3,s3,a3,l3,c3,us,rfl,hTS,hnS,hStdS,hcsS,kS⟩)|(go_at_call 193;refine(twithout_n (Pr.below hP gw) (Zm.below hz gw) hl (by omega) hv).mono ?_;rintro e wO ⟨ad4,n4,cp4,s4,a4,l4,c4,rsO,rfl,hTO,hnO,hStdO,hcsO⟩;have kO:=hTO.below;replace hTO:=hTO.tw)|(go_at_call 57;refine(tadd_n (B:=B+n+(B+n2+1)) (Pr.mono (Pr.below hTO.1 gw) (by omega)) (Zm.below hTO.2.1 gw) (by have:=hTO.2.2;omega) (Pr.mono (Pr.below hTS.1 gw) (by omega)) (Zm.below hTS.2.1 gw) (by have:=hTS.2.2;omega) (by omega)).mono ?_;rintro e w2 ⟨ad',n',cp',s',a',l',c',rs,rfl,hT,hn',hStd,hcs⟩;have kR:=hT.below;have kW:=mid kR (show Below wb.heap.size wb _ from gw);have y1':=TB.below y kW;have y':=y1'.below kR;have y0:=y'.c0;have y1:=y'.c1;have y2:=y'.c2;have y3:=y'.f 0;have y4:=y'.f 1;have y5:=y'.f 2))
 all_goals
  clear hP hP2 hz hz2
  go_wp2
  refine bodyPost_ret (results_cell_row rfl _ _ r 47 _ (0,0) _ rfl (tb_fin y' ad' n' cp' s' a' l' c') Tryz.underlying47 rfl k_f) rfl ?_
  have hTN:=(tn_store (w:=w) (hp.out.symm▸b0) kW hT y1' (by have:=hp.out;omega) cp').mono (B':=B+n+(B+n2+1)+(n+n2)+2) o_m
  exact⟨ad',n',cp',s',a',l',c',rs,by simp,hTN,by omega,hStd,fun u=>by rw[hcs,csum_append,csum_append,hcsS,hcsO]⟩



def IV (w:World)(ad:Option Addr)(n:Nat)(xs:List Int):Prop:=xs.length=n∧(n=0∨ ∃g,ad=some ⟨g,0,none⟩∧g<w.heap.size∧∀i (h:i<xs.length),w.cell? ⟨g,i,none⟩=some (.int .i64 xs[i]))
theorem row_iv {v:Value}{xs:List Int}(h:w.ownsRow base 3 1 v n (xs.map (Value.int .i64))): ∃ad cap,v= .slice ad n cap∧IV w ad n xs:=by
 have hl:xs.length=n:=by simpa using h.1
 rcases h.2 with⟨rfl,rfl⟩|⟨g,cap,cur,rfl,_,hcur,_,_,_,htake⟩
 ·exact⟨none,0,rfl,hl,.inl rfl⟩
 refine⟨_,cap,rfl,hl,.inr ⟨g,rfl,(Array.getElem?_eq_some_iff.1 hcur).1,fun i hi=> ?_⟩⟩
 have e:(cur.toList.take (n*1))[i]? =some (.int .i64 xs[i]):=by rw[htake,List.getElem?_map,List.getElem?_eq_getElem hi];rfl
 rw[List.getElem?_take,if_pos o_m]at e
 exact(cell_of_row w g i _ _ (0,0) hcur).trans (by simpa using e)
theorem infoI :(Tryz.prog.info? 3).map (fun i=>(i.zero,i.size,i.bytes))=some (some (.int .i64 0),1,8):=by kernel_rfl

theorem run_parts (ad:Option Addr)(n cp:Nat)(s:Bool)(a:Option Addr)(l c:Nat)(w:World):(Instr.field 47 (.agg #[.slice ad n cp,.bool s,.slice a l c]) 0).run Tryz.prog w= .ok (.slice ad n cp) w:=by
 simp[Instr.field,run_underlying Tryz.underlying47,asAgg,part,Tryz.isAgg42]

theorem tvars_n (hP:Pr w ad n ps B)(hz:Zm w s a l c k)(hl:l≤B)(hB:B+n≤536870912):
  Calls Tryz.prog 30 #[.agg #[.slice ad n cp,.bool s,.slice a l c]] w fun e w'=> ∃ad' n' cp' qs,e= .returned (.slice ad' n' cp')∧IV w' ad' n' (qs.map Prod.fst)∧n'≤n∧Std qs∧(∀v,csum qs v=csum ps v)∧Below w.heap.size w w':=by
 go_enter Tryz.func30,Tryz.ntmps30
 go_wp2_with fail
 have b0:=below_alloc w (.cells #[.slice ad n cp,.bool s,.slice a l c] 47)
 refine(tnorm_n (hP.below b0) (hz.below b0) hl hB).mono ?_
 rintro e w1 ⟨ad1,n1,cp1,s1,a1,l1,c1,rs,rfl,hTN,hn1,hStd,hcs⟩
 have hP1:=hTN.pr
 have k1:=hide (grow_step hTN.below b0)
 obtain⟨hn,hP1⟩:=hP1
 generalize rs.map Raw.p=qs at*
 clear b0 hTN hP hz
 obtain⟨i0,hi,hz0,hz1,hz2⟩:=info_parts infoI
 have hfield:=run_parts ad1 n1 cp1 s1 a1 l1 c1 w1
 go_wp2_with fail
 go_loopw [3,10] (fun vv i wr=> ∃t:Nat,t≤n1∧i= .int .i64 t∧wr.ownsRow w1.heap.size 3 1 vv t ((qs.take t).map fun q=> .int .i64 q.1)∧Below w1.heap.size w1 wr) (fun _ i _=>n1-(intOf i).toNat)
 case atStart=>exact⟨0,Nat.zero_le _,rfl,World.ownsRow_nil _ _ _ _,Below.refl _ _⟩
 case round=>
  obtain⟨t,ht,rfl,hrow,kr⟩:=hrel
  by_cases htn:t<n1
  ·rcases hP1 with h|⟨bp,op,rfl,hP1⟩
   ·omega
   obtain⟨s2,a2,l2,c2,e0,e1,e2,-,-,hv⟩:=(hP1.below kr).2 t o_m
   have hps:Hid (qs.take (t+1)=qs.take t++ [qs[t]]):=List.take_succ_eq_append_getElem (l:=qs) (i:=t) o_m
   generalize qs[t]=pp at*
   have ka:=below_alloc wr (.cells #[.int .i64 pp.1,.bool s2,.slice a2 l2 c2] 134)
   have hbase:=hide (show w1.heap.size≤wr.heap.size from kr.size)
   go_wp2_with(at_builtin;refine wpList_append_own_at _ rfl _ _ 23 rfl w1.heap.size 3 i0 _ 1 8 Tryz.underlying23 hi hz0 hz1 hz2 rfl (by decide) _ _ _ rfl ((hrow.alloc _).alloc _) ⟨wr.heap.size+1,0,none⟩ 1 1 [.int .i64 pp.1] rfl rfl (by simpa using cell_one_new (wr.alloc (.cells #[.int .i64 pp.1,.bool s2,.slice a2 l2 c2] 134)) (.int .i64 pp.1) 3) (by simp[Value.oneCell']) (by unfold maxLen;omega) o_m (by have:=hbase.out;simp;omega) ?_;intro v' w4 hown' hgrow hnil hat')
   have kb:=below_alloc (wr.alloc (.cells #[.int .i64 pp.1,.bool s2,.slice a2 l2 c2] 134)) (.cells #[.int .i64 pp.1] 3)
   have k4:Below w1.heap.size w1 w4:=(grow_step kb (grow_step ka kr)).grown hgrow (grow_step kb (grow_step ka kr)).size (fun k e=>(hrow.lt k e).1)
   refine⟨⟨t+1,by omega,by go_num,?_,k4⟩,by simp[intOf];omega⟩
   rw[hps.out,List.map_append]
   exact hown'
  obtain rfl:t=n1:=by omega
  rw[List.take_of_length_le (Nat.le_of_eq hn),show(qs.map fun q=>Value.int .i64 q.1)=(qs.map Prod.fst).map (Value.int .i64)by rw[List.map_map];rfl]at hrow
  obtain⟨ad',cp',rfl,hIV⟩:=row_iv hrow
  clear hrow
  go_wp2
  go_ret
  exact⟨ad',t,cp',qs,rfl,hIV,hn1,hStd,hcs,grow_step kr k1.out⟩



def ordL :List (Int × Int)→List (Int × Int)→Int
 | [],[]=>0
 | [],_::_=> -1
 |_::_,[]=>1
 |p::ps,q::qs=>if ordQ p q≠0 then ordQ p q else ordL ps qs
def ordT (ps qs:List (Int × Int))(k k2:Int):Int:=if ordL ps qs≠0 then ordL ps qs else cmpI k k2

theorem ordL_drop (h1:t<ps.length)(h2:t<qs.length):ordL (ps.drop t) (qs.drop t)=if ordQ ps[t] qs[t]≠0 then ordQ ps[t] qs[t]else ordL (ps.drop (t+1)) (qs.drop (t+1)):=by
 rw[List.drop_eq_getElem_cons h1,List.drop_eq_getElem_cons h2]
 rfl
theorem ordL_left (h1:t<ps.length)(h2:qs.length≤t):ordL (ps.drop t) (qs.drop t)=1:=by
 rw[List.drop_eq_getElem_cons h1,List.drop_eq_nil_of_le h2]
 rfl
theorem ordL_right (h1:ps.length≤t)(h2:t<qs.length):ordL (ps.drop t) (qs.drop t)= -1:=by
 rw[List.drop_eq_getElem_cons h2,List.drop_eq_nil_of_le h1]
 rfl
theorem ordL_both (h1:ps.length≤t)(h2:qs.length≤t):ordL (ps.drop t) (qs.drop t)=0:=by
 rw[List.drop_eq_nil_of_le h1,List.drop_eq_nil_of_le h2]
 rfl

theorem compareF_n (hP:Pr w ad n ps B)(hP2:Pr w ad2 n2 qs B)(hn:n≤536870912)(hB:B≤1099511627776):
  Calls Tryz.prog 189 #[.slice ad n cp,.slice ad2 n2 cp2,.func (.func 164) #[] #[]] w fun e w'=>e= .returned (.int .i64 (ordL ps qs))∧Below w.heap.size w w':=by
 obtain⟨h1,hP⟩:=hP
 obtain⟨h2,hP2⟩:=hP2
 have eg: ∀args w,(callFunc 164 args).run Tryz.prog w= .ok (.enter 164 args) w:=enters_of Tryz.func164 k_f rfl
 go_enter Tryz.func189,Tryz.ntmps189
 go_wp2_with fail
 go_loopw [13] (fun i wr=> ∃t:Nat,t≤n∧i= .int .i64 t∧Hid (ordL ps qs=ordL (ps.drop t) (qs.drop t))∧t≤n2∧Below w.heap.size w wr) (fun i _=>n-(intOf i).toNat)
 case atStart=>exact⟨0,Nat.zero_le _,rfl,by show _=_;simp,Nat.zero_le _,Below.refl _ _⟩
 case round=>
  obtain⟨t,ht,rfl,hord,ht2,kr⟩:=hrel
  by_cases htn:t<n
  ·rcases hP with hP|⟨b1,o1,rfl,hP⟩
   ·omega
   obtain⟨s1,a1,l1,c1,e0,e1,e2,hz,hl1,hv⟩:=(hP.below kr).2 t o_m
   have ka:=below_alloc wr (.cells #[.int .i64 ps[t].1,.bool s1,.slice a1 l1 c1] 134)
   by_cases htn2:t<n2
   ·rcases hP2 with hP2|⟨b2,o2,rfl,hP2⟩
    ·omega
    obtain⟨s2,a2,l2,c2,e3,e4,e5,hz2,hl2,hv2⟩:=(hP2.below kr).2 t o_m
    have hb2:=hP2.1
    have hlt:b2<wr.heap.size:=Nat.lt_of_lt_of_le hb2 kr.size
    have hdrop:=hide (ordL_drop (ps:=ps) (qs:=qs) (t:=t) o_m o_m)
    generalize hpp:ps[t]=pp at*
    generalize hqq:qs[t]=qq at*
    have kb:=below_alloc (wr.alloc (.cells #[.int .i64 pp.1,.bool s1,.slice a1 l1 c1] 134)) (.cells #[.int .i64 qq.1,.bool s2,.slice a2 l2 c2] 134)
    have kab:=hide (grow_step kb ka)
    have hcall:=order_g (v1:=pp.1) (v2:=qq.1) (hz.below kab.out) (hz2.below kab.out) o_m o_m
    replace hpp:=hide hpp
    replace hqq:=hide hqq
    clear ka kb
    go_wp2_with fail
    refine hcall.mono ?_
    rintro e w3 ⟨rfl,k3⟩
    replace k3:=hide (grow_step k3.b (grow_step kab.out kr))
    clear hcall kab
    rw[show ordQ (pp.1,pp.2) (qq.1,qq.2)=ordQ pp qq from rfl]
    by_cases ho:ordQ pp qq=0
    ·have hnext:=hide (hord.out.trans (hdrop.out.trans (by rw[if_neg (by simp[ho])])))
     rw[ho]
     go_wp2_with fail
     exact⟨⟨t+1,by omega,by go_num,hnext,by omega,k3.out⟩,by simp[intOf];omega⟩
    have hval:=hide (hord.out.trans (hdrop.out.trans (by rw[if_pos ho])))
    generalize ordQ pp qq=oo at*
    go_wp2
    go_ret
    exact⟨ret_int hval.out.symm,k3.out⟩
   have hval:=hide (hord.out.trans (ordL_left (ps:=ps) (qs:=qs) (t:=t) o_m o_m))
   have kf:=hide (grow_step ka kr)
   clear ka
   go_wp2
   go_ret
   exact⟨ret_int hval.out.symm,kf.out⟩
  obtain rfl:t=n:=by omega
  by_cases htn2:t<n2
  ·have hval:=hide (hord.out.trans (ordL_right (ps:=ps) (qs:=qs) (t:=t) o_m o_m))
   go_wp2
   go_ret
   exact⟨ret_int hval.out.symm,kr⟩
  have hval:=hide (hord.out.trans (ordL_both (ps:=ps) (qs:=qs) (t:=t) o_m o_m))
  go_wp2
  go_ret
  exact⟨ret_int hval.out.symm,kr⟩

theorem Pr.tb {c0:Nat}(h:Pr w ad n ps B)(y:TB w p ad0 n0 cp0 s0 a0 l0 c0)(hg:w.grownBy w' (some p)):Pr w' ad n ps B:=by
 refine⟨h.1,?_⟩
 rcases h.2 with h2|⟨b,off,e,hb,h2⟩
 ·exact .inl h2
 by_cases h0:ps.length=0
 ·exact .inl (h.1.symm.trans h0)
 refine .inr ⟨b,off,e,Nat.lt_of_lt_of_le hb hg.size,fun i hi=> ?_⟩
 obtain⟨s,a,l,c,e0,e1,e2,hz,hl⟩:=h2 i hi
 have hne:b≠p:=by
  intro e
  subst e
  rw[cell_of_row w b _ _ _ (0,0) y]at e0
  match hk:off+i*3,e0 with
  |0,e0=>simp at e0
  |1,e0=>simp at e0
  |2,e0=>simp at e0
  |k+3,e0=>simp at e0
 have eb:w'.heap[b]? =w.heap[b]?:=hg.block b hb (by simpa using hne)
 exact⟨s,a,l,c,(World.cell?_of_block (a:=⟨b,off+i*3,none⟩) eb).trans e0,(World.cell?_of_block (a:=⟨b,off+i*3+1,none⟩) eb).trans e1,(World.cell?_of_block (a:=⟨b,off+i*3+2,none⟩) eb).trans e2,hz.grownU hg (tb_noU y),hl⟩
theorem TW.tb {c0:Nat}(h:TW w ad n s a l c ps k B)(y:TB w p ad0 n0 cp0 s0 a0 l0 c0)(hg:w.grownBy w' (some p)):TW w' ad n s a l c ps k B:=
 ⟨h.1.tb y hg,h.2.1.grownU hg (tb_noU y),h.2.2⟩

def OrdF (w W':World)(p q:Nat)(ad1:Option Addr)(n1 cp1:Nat)(s1:Bool)(a1:Option Addr)(l1 c1:Nat)(rs:List (Int × Int))(ad3:Option Addr)(n3 cp3:Nat)(s3:Bool)(a3:Option Addr)(l3 c3:Nat)(rt:List (Int × Int))(k k2:Int)(B1 B2 n n2:Nat)(ps qs:List (Int × Int)):Prop:=
 TB W' p ad1 n1 cp1 s1 a1 l1 c1∧TB W' q ad3 n3 cp3 s3 a3 l3 c3∧TW W' ad1 n1 s1 a1 l1 c1 rs k B1∧TW W' ad3 n3 s3 a3 l3 c3 rt k2 B2∧n1≤n∧n3≤n2∧Std rs∧Std rt∧(∀v,csum rs v=csum ps v)∧(∀v,csum rt v=csum qs v)∧Below w.heap.size w W'
theorem ord_end {q:Nat}{c0:Nat}{ad9:Option Addr}{n9 cp9:Nat}{s9:Bool}{a9:Option Addr}{l9 c9:Nat}{ad1:Option Addr}{n1 cp1:Nat}{s1:Bool}{a1:Option Addr}{l1 c1:Nat}{rs:List (Int × Int)}{ad3:Option Addr}{n3 cp3:Nat}{s3:Bool}{a3:Option Addr}{l3 c3:Nat}{rt:List (Int × Int)}{B1:Nat}
  (x:TB W p ad0 n0 cp0 s0 a0 l0 c0)(y:TB W q ad9 n9 cp9 s9 a9 l9 c9)(t1:TW W ad1 n1 s1 a1 l1 c1 rs k B1)(t3:TW W ad3 n3 s3 a3 l3 c3 rt k2 B2)(kb:Below w.heap.size w W)(hpq:p≠q)(h1:w.heap.size≤p)(h2:w.heap.size≤q)(hn1:n1≤n)(hn3:n3≤n2)(hS1:Std rs)(hS3:Std rt)(hc1: ∀v,csum rs v=csum ps v)(hc3: ∀v,csum rt v=csum qs v):
  OrdF w ((((((W.setCell ⟨p,0,none⟩ (.slice ad1 n1 cp1)).setCell ⟨p,1,none⟩ (.bool s1)).setCell ⟨p,2,none⟩ (.slice a1 l1 c1)).setCell ⟨q,0,none⟩ (.slice ad3 n3 cp3)).setCell ⟨q,1,none⟩ (.bool s3)).setCell ⟨q,2,none⟩ (.slice a3 l3 c3)) p q ad1 n1 cp1 s1 a1 l1 c1 rs ad3 n3 cp3 s3 a3 l3 c3 rt k k2 B1 B2 n n2 ps qs:=by
 have g1:=tb_set W p (.slice ad1 n1 cp1) (.bool s1) (.slice a1 l1 c1)
 have x':=tb_fin x ad1 n1 cp1 s1 a1 l1 c1
 have y1:=y.grown g1 (Ne.symm hpq)
 have g2:=tb_set (((W.setCell ⟨p,0,none⟩ (.slice ad1 n1 cp1)).setCell ⟨p,1,none⟩ (.bool s1)).setCell ⟨p,2,none⟩ (.slice a1 l1 c1)) q (.slice ad3 n3 cp3) (.bool s3) (.slice a3 l3 c3)
 exact⟨x'.grown g2 hpq,tb_fin y1 ad3 n3 cp3 s3 a3 l3 c3,(t1.tb x g1).tb y1 g2,(t3.tb x g1).tb y1 g2,hn1,hn3,hS1,hS3,hc1,hc3,below_grown (below_grown kb g1 h1) g2 h2⟩
theorem torder_n {c2:Nat}(hP:Pr w ad n ps B)(hz:Zm w s a l c k)(hl:l≤B)(hP2:Pr w ad2 n2 qs B)(hz2:Zm w s2 a2 l2 c2 k2)(hl2:l2≤B)(hB:B+n≤268435456)(hB2:B+n2≤268435456):
  Calls Tryz.prog 177 #[.agg #[.slice ad n cp,.bool s,.slice a l c],.agg #[.slice ad2 n2 cp2,.bool s2,.slice a2 l2 c2]] w fun e w'=> ∃ps' qs',e= .returned (.int .i64 (ordT ps' qs' k k2))∧Std ps'∧Std qs'∧(∀v,csum ps' v=csum ps v)∧(∀v,csum qs' v=csum qs v)∧Below w.heap.size w w':=by
 go_enter Tryz.func177,Tryz.ntmps177
 go_wp2_with fail
 have x:=(tb_new w ad n cp s a l c).below (below_alloc _ (.cells #[.slice ad2 n2 cp2,.bool s2,.slice a2 l2 c2] 47))
 have y:=tb_new (w.alloc (.cells #[.slice ad n cp,.bool s,.slice a l c] 47)) ad2 n2 cp2 s2 a2 l2 c2
 have b0:Below w.heap.size w ((w.alloc (.cells #[.slice ad n cp,.bool s,.slice a l c] 47)).alloc (.cells #[.slice ad2 n2 cp2,.bool s2,.slice a2 l2 c2] 47)):=below_alloc' (below_alloc _ _) _
 rw[show(w.alloc (.cells #[.slice ad n cp,.bool s,.slice a l c] 47)).heap.size=w.heap.size+1 from by simp]at y
 generalize (w.alloc (.cells #[.slice ad n cp,.bool s,.slice a l c] 47)).alloc (.cells #[.slice ad2 n2 cp2,.bool s2,.slice a2 l2 c2] 47)=wb at*
 have hpr:w.heap.size<w.heap.size+1:=by omega
 replace hP:=hP.below b0
 replace hz:=hz.below b0
 replace hP2:=hP2.below b0
 replace hz2:=hz2.below b0
 generalize hp:w.heap.size=p at*
 replace b0:Hid (Below w.heap.size w wb):=hp▸b0
 replace hp:=hide hp
 generalize p+1=q at*
 have hpq:p≠q:=by omega
 have hqp:q≠p:=by omega
 have x0:=x.c0
 have x1:=x.c1
 have x2:=x.c2
 have y0:=y.c0
 have y1:=y.c1
 have y2:=y.c2
 refine Code.wp_mono (Q:=fun e a' W'=>e= .normal∧∃ad1 n1 cp1 s1 a1 l1 c1 rs ad3 n3 cp3 s3 a3 l3 c3 rt,a'=⟨#[.agg #[.slice ad n cp,.bool s,.slice a l c],.agg #[.slice ad2 n2 cp2,.bool s2,.slice a2 l2 c2],.pointer (some ⟨p,0,none⟩),.pointer (some ⟨q,0,none⟩),.int .i64 0,undef,.agg #[.slice ad n cp,.bool s,.slice a l c],.agg #[.slice ad1 n1 cp1,.bool s1,.slice a1 l1 c1],.agg #[.slice ad2 n2 cp2,.bool s2,.slice a2 l2 c2],.agg #[.slice ad3 n3 cp3,.bool s3,.slice a3 l3 c3],undef,undef,undef,undef,undef,undef,undef,undef,undef,undef,undef,undef,undef],[]⟩∧OrdF w W' p q ad1 n1 cp1 s1 a1 l1 c1 rs ad3 n3 cp3 s3 a3 l3 c3 rt k k2 (B+n+1) (B+n2+1) n n2 ps qs) ?_ ?_
 ·rintro e a' W' ⟨rfl,ad1,n1,cp1,s1,a1,l1,c1,rs,ad3,n3,cp3,s3,a3,l3,c3,rt,rfl,hF⟩
  obtain⟨hx,hy,ht1,ht3,hn1,hn3,hS1,hS3,hc1,hc3,kF⟩:=id hF
  have f0:=hx.c0
  have f1:=hx.c1
  have f2:=hx.c2
  have g0:=hy.c0
  have g1:=hy.c1
  have g2:=hy.c2
  replace kF:=hide kF
  clear hF x0 x1 x2 y0 y1 y2 b0
  go_wp2_with fail
  refine(compareF_n (B:=B+n+n2+1) (ht1.1.mono o_m) (ht3.1.mono o_m) o_m o_m).mono ?_
  rintro e w5 ⟨rfl,k5⟩
  have f3:=(hx.below k5).c1
  have f4:=(hx.below k5).c2
  have g3:=(hy.below k5).c1
  have g4:=(hy.below k5).c2
  by_cases ho:ordL rs rt=0
  ·have hval:=hide (show ordT rs rt k k2=cmpI k k2 by simp[ordT,ho])
   rw[ho]
   replace ht1:=hide (ht1.below k5)
   replace ht3:=hide (ht3.below k5)
   replace k5:=hide (grow_step k5 kF.out)
   clear f0 f1 f2 g0 g1 g2
   go_wp2_with fail
   refine(zcmp_n ht1.out.2.1 ht3.out.2.1 (by have:=ht1.out.2.2;omega) (by have:=ht3.out.2.2;omega)).mono ?_
   rintro e w6 ⟨rfl,k6⟩
   replace k6:=hide (grow_step k6 k5.out)
   clear k5
   go_wp2
   go_ret
   exact⟨rs,rt,ret_int hval.out.symm,hS1,hS3,hc1,hc3,k6.out⟩
  have hval:=hide (show ordT rs rt k k2=ordL rs rt by simp[ordT,ho])
  replace k5:=hide (grow_step k5 kF.out)
  clear f0 f1 f2 g0 g1 g2 f3 f4 g3 g4
  generalize ordL rs rt=oo at*
  go_wp2
  go_ret
  exact⟨rs,rt,ret_int hval.out.symm,hS1,hS3,hc1,hc3,k5.out⟩
 refine wp_region_held_drew (S:=fun _=>True) k_f trivial (fun hHeld=> ?_)
 show wpAnyH _ _ _ _ _ 6 _ _ _
 refine wpAnyH_ready (rs:=[0,2]) k_f (by simp) ?_
 refine AllReadyH.cons (o:=⟨some 6,_,_,_,_,_⟩) rfl (fun K hK=> ?_) ?_
 ·go_simp
  refine hK.out _ _ ?_ ?_
  ·(try dsimp only);(try trivial)
  clear hK K hHeld;intro hHeld
  (try simp only[pz])
  refine wpAnyH_ready (rs:=[1,2]) k_f (by simp) ?_
  refine AllReadyH.cons (o:=⟨some 7,_,_,_,_,_⟩) rfl (fun K hK=> ?_) ?_
  ·go_simp
   go_at_call 69;refine(tnorm_n (Pr.below hP gw) (Zm.below hz gw) hl o_m).mono ?_;rintro e wA ⟨ad1,n1,cp1,s1,a1,l1,c1,rs,rfl,hTA,hn1,hS1,hc1⟩;have kA:=hTA.below;have tA:=hTA.tw;have kkA:Below wb.heap.size wb wA:=gw;have xA:=x.below kkA;have yA:=y.below kkA;have xA0:=xA.c0;have xAf0:=xA.f 0;have xA1:=xA.c1;have xAf1:=xA.f 1;have xA2:=xA.c2;have xAf2:=xA.f 2;have yA0:=yA.c0;have yAf0:=yA.f 0;have yA1:=yA.c1;have yAf1:=yA.f 1;have yA2:=yA.c2;have yAf2:=yA.f 2
   (try go_wp2_with fail)
   refine hK.out _ _ ?_ ?_
   ·(try dsimp only);(try trivial)
   clear hK K hHeld;intro hHeld
   (try simp only[pz])
   refine ryz 2 (some 8) (fun K hK=> ?_) ?_
   ·go_simp
    refine hK.out _ _ ?_ ?_
    ·(try dsimp only);(try trivial)
    clear hK K hHeld;intro hHeld
    (try simp only[pz])
    refine ryz 3 (some 9) (fun K hK=> ?_) ?_
    ·go_simp
     go_at_call 69;refine(tnorm_n (Pr.below hP2 gw) (Zm.below hz2 gw) hl2 o_m).mono ?_;rintro e wB ⟨ad3,n3,cp3,s3,a3,l3,c3,rt,rfl,hTB,hn3,hS3,hc3⟩;have kB:=hTB.below;have tB:=hTB.tw;have kkB:Below wb.heap.size wb wB:=gw;have xB:=x.below kkB;have yB:=y.below kkB;have xB0:=xB.c0;have xBf0:=xB.f 0;have xB1:=xB.c1;have xBf1:=xB.f 1;have xB2:=xB.c2;have xBf2:=xB.f 2;have yB0:=yB.c0;have yBf0:=yB.f 0;have yB1:=yB.c1;have yBf1:=yB.f 1;have yB2:=yB.c2;have yBf2:=yB.f 2
     (try go_wp2_with fail)
     refine hK.out _ _ ?_ ?_
     ·(try dsimp only);(try trivial)
     clear hK K hHeld;intro hHeld
     (try simp only[pz])
     refine ryz 4 none (fun K hK=> ?_) ?_
     ·go_simp
      refine hK.out _ _ ?_ ?_
      ·(try dsimp only);(try trivial)
      clear hK K hHeld;intro hHeld
      (try simp only[pz])
      refine ryz 5 none (fun K hK=> ?_) ?_
      ·go_simp
       refine hK.out _ _ ?_ ?_
       ·(try dsimp only);(try trivial)
       clear hK K hHeld;intro hHeld
       (try simp only[pz])
       refine wpAnyH_done k_f ?_ _
       (refine⟨rfl,ad1,n1,cp1,s1,a1,l1,c1,rs.map Raw.p,ad3,n3,cp3,s3,a3,l3,c3,rt.map Raw.p,rfl,?_⟩;first|exact ord_end xB yB (tA.below kB) tB (grow_step kkB b0.out) hpq (by have:=hp.out;omega) (by have:=hp.out;omega) hn1 hn3 hS1 hS3 hc1 hc3|exact ord_end xA yA tA (tB.below kA) (grow_step kkA b0.out) hpq (by have:=hp.out;omega) (by have:=hp.out;omega) hn1 hn3 hS1 hS3 hc1 hc3|exact ord_end' xB yB (tA.below kB) tB (grow_step kkB b0.out) hpq (by have:=hp.out;omega) (by have:=hp.out;omega) hn1 hn3 hS1 hS3 hc1 hc3|exact ord_end' xA yA tA (tB.below kA) (grow_step kkA b0.out) hpq (by have:=hp.out;omega) (by have:=hp.out;omega) hn1 hn3 hS1 hS3 hc1 hc3)
      exact AllReadyH.nil
     exact AllReadyH.nil
    exact AllReadyH.nil
   exact AllReadyH.nil
  refine AllReadyH.cons (o:=⟨some 8,_,_,_,_,_⟩) rfl (fun K hK=> ?_) ?_
  ·go_simp
   refine hK.out _ _ ?_ ?_
   ·(try dsimp only);(try trivial)
   clear hK K hHeld;intro hHeld
   (try simp only[pz])
   refine ryz 1 (some 7) (fun K hK=> ?_) ?_
   ·go_simp
    go_at_call 69;refine(tnorm_n (Pr.below hP gw) (Zm.below hz gw) hl o_m).mono ?_;rintro e wA ⟨ad1,n1,cp1,s1,a1,l1,c1,rs,rfl,hTA,hn1,hS1,hc1⟩;have kA:=hTA.below;have tA:=hTA.tw;have kkA:Below wb.heap.size wb wA:=gw;have xA:=x.below kkA;have yA:=y.below kkA;have xA0:=xA.c0;have xAf0:=xA.f 0;have xA1:=xA.c1;have xAf1:=xA.f 1;have xA2:=xA.c2;have xAf2:=xA.f 2;have yA0:=yA.c0;have yAf0:=yA.f 0;have yA1:=yA.c1;have yAf1:=yA.f 1;have yA2:=yA.c2;have yAf2:=yA.f 2
    (try go_wp2_with fail)
    refine hK.out _ _ ?_ ?_
    ·(try dsimp only);(try trivial)
    clear hK K hHeld;intro hHeld
    (try simp only[pz])
    refine ryz 3 (some 9) (fun K hK=> ?_) ?_
    ·go_simp
     go_at_call 69;refine(tnorm_n (Pr.below hP2 gw) (Zm.below hz2 gw) hl2 o_m).mono ?_;rintro e wB ⟨ad3,n3,cp3,s3,a3,l3,c3,rt,rfl,hTB,hn3,hS3,hc3⟩;have kB:=hTB.below;have tB:=hTB.tw;have kkB:Below wb.heap.size wb wB:=gw;have xB:=x.below kkB;have yB:=y.below kkB;have xB0:=xB.c0;have xBf0:=xB.f 0;have xB1:=xB.c1;have xBf1:=xB.f 1;have xB2:=xB.c2;have xBf2:=xB.f 2;have yB0:=yB.c0;have yBf0:=yB.f 0;have yB1:=yB.c1;have yBf1:=yB.f 1;have yB2:=yB.c2;have yBf2:=yB.f 2
     (try go_wp2_with fail)
     refine hK.out _ _ ?_ ?_
     ·(try dsimp only);(try trivial)
     clear hK K hHeld;intro hHeld
     (try simp only[pz])
     refine ryz 4 none (fun K hK=> ?_) ?_
     ·go_simp
      refine hK.out _ _ ?_ ?_
      ·(try dsimp only);(try trivial)
      clear hK K hHeld;intro hHeld
      (try simp only[pz])
      refine ryz 5 none (fun K hK=> ?_) ?_
      ·go_simp
       refine hK.out _ _ ?_ ?_
       ·(try dsimp only);(try trivial)
       clear hK K hHeld;intro hHeld
       (try simp only[pz])
       refine wpAnyH_done k_f ?_ _
       (refine⟨rfl,ad1,n1,cp1,s1,a1,l1,c1,rs.map Raw.p,ad3,n3,cp3,s3,a3,l3,c3,rt.map Raw.p,rfl,?_⟩;first|exact ord_end xB yB (tA.below kB) tB (grow_step kkB b0.out) hpq (by have:=hp.out;omega) (by have:=hp.out;omega) hn1 hn3 hS1 hS3 hc1 hc3|exact ord_end xA yA tA (tB.below kA) (grow_step kkA b0.out) hpq (by have:=hp.out;omega) (by have:=hp.out;omega) hn1 hn3 hS1 hS3 hc1 hc3|exact ord_end' xB yB (tA.below kB) tB (grow_step kkB b0.out) hpq (by have:=hp.out;omega) (by have:=hp.out;omega) hn1 hn3 hS1 hS3 hc1 hc3|exact ord_end' xA yA tA (tB.below kA) (grow_step kkA b0.out) hpq (by have:=hp.out;omega) (by have:=hp.out;omega) hn1 hn3 hS1 hS3 hc1 hc3)
      exact AllReadyH.nil
     exact AllReadyH.nil
    exact AllReadyH.nil
   exact AllReadyH.nil
  exact AllReadyH.nil
 refine AllReadyH.cons (o:=⟨some 8,_,_,_,_,_⟩) rfl (fun K hK=> ?_) ?_
 ·go_simp
  refine hK.out _ _ ?_ ?_
  ·(try dsimp only);(try trivial)
  clear hK K hHeld;intro hHeld
  (try simp only[pz])
  refine ryz 0 (some 6) (fun K hK=> ?_) ?_
  ·go_simp
   refine hK.out _ _ ?_ ?_
   ·(try dsimp only);(try trivial)
   clear hK K hHeld;intro hHeld
   (try simp only[pz])
   refine ryz 1 (some 7) (fun K hK=> ?_) ?_
   ·go_simp
    go_at_call 69;refine(tnorm_n (Pr.below hP gw) (Zm.below hz gw) hl o_m).mono ?_;rintro e wA ⟨ad1,n1,cp1,s1,a1,l1,c1,rs,rfl,hTA,hn1,hS1,hc1⟩;have kA:=hTA.below;have tA:=hTA.tw;have kkA:Below wb.heap.size wb wA:=gw;have xA:=x.below kkA;have yA:=y.below kkA;have xA0:=xA.c0;have xAf0:=xA.f 0;have xA1:=xA.c1;have xAf1:=xA.f 1;have xA2:=xA.c2;have xAf2:=xA.f 2;have yA0:=yA.c0;have yAf0:=yA.f 0;have yA1:=yA.c1;have yAf1:=yA.f 1;have yA2:=yA.c2;have yAf2:=yA.f 2
    (try go_wp2_with fail)
    refine hK.out _ _ ?_ ?_
    ·(try dsimp only);(try trivial)
    clear hK K hHeld;intro hHeld
    (try simp only[pz])
    refine ryz 3 (some 9) (fun K hK=> ?_) ?_
    ·go_simp
     go_at_call 69;refine(tnorm_n (Pr.below hP2 gw) (Zm.below hz2 gw) hl2 o_m).mono ?_;rintro e wB ⟨ad3,n3,cp3,s3,a3,l3,c3,rt,rfl,hTB,hn3,hS3,hc3⟩;have kB:=hTB.below;have tB:=hTB.tw;have kkB:Below wb.heap.size wb wB:=gw;have xB:=x.below kkB;have yB:=y.below kkB;have xB0:=xB.c0;have xBf0:=xB.f 0;have xB1:=xB.c1;have xBf1:=xB.f 1;have xB2:=xB.c2;have xBf2:=xB.f 2;have yB0:=yB.c0;have yBf0:=yB.f 0;have yB1:=yB.c1;have yBf1:=yB.f 1;have yB2:=yB.c2;have yBf2:=yB.f 2
     (try go_wp2_with fail)
     refine hK.out _ _ ?_ ?_
     ·(try dsimp only);(try trivial)
     clear hK K hHeld;intro hHeld
     (try simp only[pz])
     refine ryz 4 none (fun K hK=> ?_) ?_
     ·go_simp
      refine hK.out _ _ ?_ ?_
      ·(try dsimp only);(try trivial)
      clear hK K hHeld;intro hHeld
      (try simp only[pz])
      refine ryz 5 none (fun K hK=> ?_) ?_
      ·go_simp
       refine hK.out _ _ ?_ ?_
       ·(try dsimp only);(try trivial)
       clear hK K hHeld;intro hHeld
       (try simp only[pz])
       refine wpAnyH_done k_f ?_ _
       (refine⟨rfl,ad1,n1,cp1,s1,a1,l1,c1,rs.map Raw.p,ad3,n3,cp3,s3,a3,l3,c3,rt.map Raw.p,rfl,?_⟩;first|exact ord_end xB yB (tA.below kB) tB (grow_step kkB b0.out) hpq (by have:=hp.out;omega) (by have:=hp.out;omega) hn1 hn3 hS1 hS3 hc1 hc3|exact ord_end xA yA tA (tB.below kA) (grow_step kkA b0.out) hpq (by have:=hp.out;omega) (by have:=hp.out;omega) hn1 hn3 hS1 hS3 hc1 hc3|exact ord_end' xB yB (tA.below kB) tB (grow_step kkB b0.out) hpq (by have:=hp.out;omega) (by have:=hp.out;omega) hn1 hn3 hS1 hS3 hc1 hc3|exact ord_end' xA yA tA (tB.below kA) (grow_step kkA b0.out) hpq (by have:=hp.out;omega) (by have:=hp.out;omega) hn1 hn3 hS1 hS3 hc1 hc3)
      exact AllReadyH.nil
     exact AllReadyH.nil
    exact AllReadyH.nil
   exact AllReadyH.nil
  exact AllReadyH.nil
 exact AllReadyH.nil
end Go.Proofs.YtllfelooahplhaaGreatDoor

namespace Go.Proofs.YtllfelooahplhaaGreatDoor.At
open Tm

variable {qs us:List (Int × Int)}{d D k kind:Int}{g:Nat}
def eachP (F:Int→Int)(qs:List (Int × Int)):List (Int × Int):=(qs.map fun q=>(q.1,F q.2)).filter fun q=>decide (q.2≠0)
def gcdL (g:Nat)(qs:List (Int × Int)):Nat:=qs.foldl (fun g q=>Nat.gcd g q.2.natAbs) g

theorem eachP_cons (F:Int→Int)(q:Int × Int)(qs:List (Int × Int)):eachP F (q::qs)=if F q.2=0 then eachP F qs else(q.1,F q.2)::eachP F qs:=by
 unfold eachP
 by_cases h:F q.2=0 <;> simp[h]
theorem eachP_snoc (F:Int→Int)(qs:List (Int × Int))(q:Int × Int):eachP F (qs++ [q])=eachP F qs++if F q.2=0 then []else [(q.1,F q.2)]:=by
 unfold eachP
 by_cases h:F q.2=0 <;> simp[h]
theorem eachP_mem {F:Int→Int}{p:Int × Int}(h:p∈eachP F qs): ∃q∈qs,p=(q.1,F q.2)∧F q.2≠0:=by
 unfold eachP at h
 obtain⟨h1,h2⟩:=List.mem_filter.1 h
 obtain⟨q,hq,rfl⟩:=List.mem_map.1 h1
 exact⟨q,hq,rfl,by simpa using h2⟩
theorem eachP_std {F:Int→Int}(h:Std qs):Std (eachP F qs):=by
 refine⟨?_,fun p hp=> ?_⟩
 ·unfold eachP
  refine List.Pairwise.filter _ ?_
  rw[List.pairwise_map]
  exact h.1
 obtain⟨q,_,rfl,h0⟩:=eachP_mem hp
 exact h0
theorem eachP_ne {F:Int→Int}(h: ∀q∈qs,F q.2≠0):eachP F qs=qs.map fun q=>(q.1,F q.2):=by
 unfold eachP
 refine List.filter_eq_self.2 fun p hp=> ?_
 obtain⟨q,hq,rfl⟩:=List.mem_map.1 hp
 simpa using h q hq
theorem eachP_id {F:Int→Int}(h:Std qs)(hF: ∀q∈qs,F q.2=q.2):eachP F qs=qs:=by
 rw[eachP_ne fun q hq=>by rw[hF q hq];exact h.2 q hq]
 conv=>rhs;rw[←List.map_id qs]
 exact List.map_congr_left fun q hq=>by rw[hF q hq];rfl
theorem eachP_eachP (F H:Int→Int)(h0:H 0=0)(qs:List (Int × Int)):eachP H (eachP F qs)=eachP (fun x=>H (F x)) qs:=by
 induction qs with
 |nil=>rfl
 |cons q qs ih=>
  rw[eachP_cons,eachP_cons]
  by_cases h:F q.2=0
  ·rw[if_pos h,if_pos (by show H (F q.2)=0;rw[h,h0]),ih]
  rw[if_neg h,eachP_cons,ih]
theorem eachP_nil {F:Int→Int}(h:eachP F qs= []): ∀q∈qs,F q.2=0:=fun q hq=>by
 apply Classical.byContradiction
 intro h0
 have:(q.1,F q.2)∈eachP F qs:=List.mem_filter.2 ⟨List.mem_map.2 ⟨q,hq,rfl⟩,by simpa using h0⟩
 rw[h]at this
 cases this
theorem gcdL_dvd (g:Nat)(qs:List (Int × Int)):gcdL g qs∣g∧∀q∈qs,((gcdL g qs:Nat):Int)∣q.2:=by
 induction qs generalizing g with
 |nil=>exact⟨Nat.dvd_refl _,fun q hq=>by cases hq⟩
 |cons p qs ih=>
  obtain⟨h1,h2⟩:=ih (Nat.gcd g p.2.natAbs)
  refine⟨Nat.dvd_trans h1 (Nat.gcd_dvd_left _ _),fun q hq=> ?_⟩
  rcases List.mem_cons.1 hq with rfl|hq
  ·exact Int.dvd_natAbs.1 (Int.natCast_dvd_natCast.2 (Nat.dvd_trans h1 (Nat.gcd_dvd_right _ _)))
  exact h2 q hq
theorem dvd_gcdL {d:Nat}(h:d∣g)(hq: ∀q∈qs,(d:Int)∣q.2):d∣gcdL g qs:=by
 induction qs generalizing g with
 |nil=>exact h
 |cons p qs ih=>exact ih (Nat.dvd_gcd h (Int.natCast_dvd_natCast.1 (Int.dvd_natAbs.2 (hq p (by simp))))) fun q hq'=>hq q (by simp[hq'])
theorem gcdL_pos (h:0<g∨ ∃q∈qs,q.2≠0):0<gcdL g qs:=by
 apply Nat.pos_of_ne_zero
 intro h0
 obtain⟨h1,h2⟩:=gcdL_dvd g qs
 rw[h0]at h1 h2
 rcases h with h|⟨q,hq,h⟩
 ·have:=Nat.eq_zero_of_zero_dvd h1;omega
 exact h (Int.zero_dvd.1 (h2 q hq))
theorem gcdL_eq {g':Nat}{rs:List (Int × Int)}(h: ∀d:Nat,(d∣g∧∀q∈qs,(d:Int)∣q.2)↔(d∣g'∧∀q∈rs,(d:Int)∣q.2)):gcdL g qs=gcdL g' rs:=by
 have h1:=(h _).1 (gcdL_dvd g qs)
 have h2:=(h _).2 (gcdL_dvd g' rs)
 exact Nat.dvd_antisymm (dvd_gcdL h1.1 h1.2) (dvd_gcdL h2.1 h2.2)
theorem gcdL_div {G:Nat}(hG:gcdL g qs=G)(h0:0<G):gcdL (g / G) (eachP (fun x=>x / G) qs)=1:=by
 obtain⟨h1,h2⟩:=gcdL_dvd g qs
 rw[hG]at h1 h2
 obtain⟨a1,a2⟩:=gcdL_dvd (g / G) (eachP (fun x=>x / G) qs)
 generalize gcdL (g / G) (eachP (fun x=>x / G) qs)=m at*
 have:G*m∣G:=by
  rw[←hG]
  rw[hG]
  refine Nat.dvd_trans (dvd_gcdL (g:=g) (qs:=qs) ?_ fun q hq=> ?_) (by rw[hG];exact Nat.dvd_refl _)
  ·obtain⟨c,hc⟩:=h1
   obtain⟨e,he⟩:=a1
   rw[hc,Nat.mul_div_cancel_left _ h0]at he
   rw[hc,he]
   exact⟨e,by rw[Nat.mul_assoc]⟩
  obtain⟨c,hc⟩:=h2 q hq
  have hG0:(G:Int)≠0:=by omega
  by_cases hc0:c=0
  ·rw[hc,hc0,Int.mul_zero];exact Int.dvd_zero _
  have hm:(q.1,q.2 / G)∈eachP (fun x=>x / (G:Int)) qs:=List.mem_filter.2 ⟨List.mem_map.2 ⟨q,hq,rfl⟩,by rw[hc,Int.mul_ediv_cancel_left _ hG0];simpa using hc0⟩
  obtain⟨e,he⟩:=a2 _ hm
  simp only at he
  rw[hc,Int.mul_ediv_cancel_left _ hG0]at he
  rw[hc,he]
  exact⟨e,by rw[Int.natCast_mul,Int.mul_assoc]⟩
 have h3:=Nat.le_of_dvd h0 this
 have:m∣1:=by
  obtain⟨e,he⟩:=this
  have:G*1=G*(m*e):=by rw[Nat.mul_one,←Nat.mul_assoc];exact he
  exact⟨e,Nat.eq_of_mul_eq_mul_left h0 this⟩
 exact Nat.dvd_one.1 this
structure Atm where
 kind:Int
 d:Int
 ps:List (Int × Int)
 k:Int
def tru (is:Prop) [Decidable is]:Atm:=⟨if is then 1 else 0,0,[],0⟩
def lessF (qs:List (Int × Int))(k:Int):Atm:=
 if qs= []then tru (0<k)else⟨2,0,eachP (fun x=>x / (gcdL 0 qs:Nat)) qs,(k-1) / (gcdL 0 qs:Nat)+1⟩
def oppP (d:Int)(qs:List (Int × Int)):List (Int × Int):=eachP (fun x=>x%d) (eachP (fun x=> -x) qs)
def fstF (kind d:Int)(us:List (Int × Int))(k:Int):Atm:=
 if ordT (oppP d us) us ((-k)%d) k<0 then⟨kind,d,oppP d us,(-k)%d⟩else⟨kind,d,us,k⟩
def divG (kind:Int)(D:Nat)(ts:List (Int × Int))(k:Int):Atm:=
 if ¬((gcdL D ts:Nat):Int)∣k then⟨if kind=3 then 0 else 1,0,[],0⟩
 else if(D:Int) / (gcdL D ts:Nat)=1 then⟨if kind=3 then 1 else 0,0,[],0⟩
 else fstF kind ((D:Int) / (gcdL D ts:Nat)) (eachP (fun x=>x / (gcdL D ts:Nat)) ts) (k / (gcdL D ts:Nat))
def divF (kind d:Int)(qs:List (Int × Int))(k:Int):Atm:=divG kind d.natAbs (eachP (fun x=>x%(d.natAbs:Int)) qs) (k%(d.natAbs:Int))
def formA (kind d:Int)(qs:List (Int × Int))(k:Int):Atm ⊕ Int:=
 if kind=0∨kind=1 then .inl ⟨kind,0,[],0⟩
 else if kind=2 then .inl (lessF qs k)
 else if kind=3∨kind=4 then(if d=0 then .inr 11 else .inl (divF kind d qs k))
 else .inr 1

def Sat (a:Atm)(f:Int→Int):Prop:=
 a.kind=1∨(a.kind=2∧0<a.k+ev a.ps f)∨(a.kind=3∧a.d∣a.k+ev a.ps f)∨(a.kind=4∧¬a.d∣a.k+ev a.ps f)

theorem dvd_congr {x y:Int}(h:d∣x-y):d∣x↔d∣y:=by
 constructor
 ·intro hx
  have:=Int.dvd_sub hx h
  rwa [show x-(x-y)=y by omega]at this
 intro hy
 have:=Int.dvd_add h hy
 rwa [show x-y+y=x by omega]at this
theorem dvd_emod (d x:Int):d∣x%d-x:=⟨-(x / d),by have:=Int.mul_ediv_add_emod x d;rw[Int.mul_neg];omega⟩
theorem cmpI_neg (a b:Int):cmpI b a= -cmpI a b:=by unfold cmpI;split <;> split <;> (try split) <;> omega
theorem ordQ_neg (p q:Int × Int):ordQ q p= -ordQ p q:=by
 unfold ordQ
 rw[cmpI_neg p.1 q.1,cmpI_neg p.2 q.2]
 by_cases h:cmpI p.1 q.1=0 <;> simp[h]
theorem ordL_neg : ∀ps qs:List (Int × Int),ordL qs ps= -ordL ps qs
 | [],[]=>rfl
 | [],_::_=>rfl
 |_::_,[]=>rfl
 |p::ps,q::qs=>by
  simp only[ordL]
  rw[ordQ_neg p q,ordL_neg ps qs]
  by_cases h:ordQ p q=0 <;> simp[h]
theorem ordT_neg (ps qs:List (Int × Int))(k k2:Int):ordT qs ps k2 k= -ordT ps qs k k2:=by
 unfold ordT
 rw[ordL_neg ps qs,cmpI_neg k k2]
 by_cases h:ordL ps qs=0 <;> simp[h]

structure Dsh (D:Int) (us:List (Int × Int)) (k:Int):Prop where
 two:2≤D
 std:Std us
 some:us≠ []
 rng: ∀q∈us,0<q.2∧q.2<D
 kr:0≤k∧k<D
 one:gcdL D.natAbs us=1
theorem opp_eq (D:Int)(us:List (Int × Int)):oppP D us=eachP (fun x=>(-x)%D) us:=eachP_eachP _ _ (by simp) us
theorem neg_emod {x:Int}(h1:0<x)(h2:x<D):(-x)%D=D-x:=by
 rw[←Int.add_emod_right,Int.emod_eq_of_lt o_m o_m]
 omega
theorem Dsh.opp (h:Dsh D us k):Dsh D (oppP D us) ((-k)%D)∧oppP D (oppP D us)=us∧(-((-k)%D))%D=k:=by
 have hF: ∀q∈us,(-q.2)%D=D-q.2:=fun q hq=>neg_emod (h.rng q hq).1 (h.rng q hq).2
 have hne: ∀q∈us,(-q.2)%D≠0:=fun q hq=>by rw[hF q hq];have:=h.rng q hq;omega
 have hD:=h.two
 have e1:oppP D us=us.map fun q=>(q.1,(-q.2)%D):=by rw[opp_eq,eachP_ne hne]
 refine⟨⟨h.two,by rw[opp_eq];exact eachP_std h.std,by rw[e1];simpa using h.some,fun q hq=> ?_,⟨Int.emod_nonneg _ o_m,Int.emod_lt_of_pos _ o_m⟩,?_⟩,?_,?_⟩
 ·rw[e1]at hq
  obtain⟨p,hp,rfl⟩:=List.mem_map.1 hq
  simp only
  rw[hF p hp]
  have:=h.rng p hp
  omega
 ·rw[←h.one]
  refine gcdL_eq fun d=> ?_
  have hd: ∀p∈us,(d:Int)∣D→((d:Int)∣(-p.2)%D↔(d:Int)∣p.2):=fun p hp hdD=>by
   rw[dvd_congr (Int.dvd_trans hdD (dvd_emod D (-p.2))),Int.dvd_neg]
  constructor
  ·rintro⟨h1,h2⟩
   have hdD:(d:Int)∣D:=Int.dvd_natAbs.1 (Int.natCast_dvd_natCast.2 h1)
   exact⟨h1,fun p hp=>(hd p hp hdD).1 (h2 (p.1,(-p.2)%D) (by rw[e1];exact List.mem_map.2 ⟨p,hp,rfl⟩))⟩
  rintro⟨h1,h2⟩
  have hdD:(d:Int)∣D:=Int.dvd_natAbs.1 (Int.natCast_dvd_natCast.2 h1)
  refine⟨h1,fun q hq=> ?_⟩
  rw[e1]at hq
  obtain⟨p,hp,rfl⟩:=List.mem_map.1 hq
  exact(hd p hp hdD).2 (h2 p hp)
 ·rw[opp_eq D us,opp_eq,eachP_eachP _ _ (by simp)]
  refine eachP_id h.std fun q hq=> ?_
  have hr:=h.rng q hq
  show(-((-q.2)%D))%D=q.2
  rw[hF q hq,neg_emod o_m o_m]
  omega
 by_cases h0:k=0
 ·subst h0;simp
 have:=h.kr
 rw[neg_emod (x:=k) o_m o_m,neg_emod o_m o_m]
 omega
def Fit (a:Atm):Prop:=
 ((a.kind=0∨a.kind=1)∧a.d=0∧a.ps= []∧a.k=0)∨(a.kind=2∧a.d=0∧Std a.ps∧a.ps≠ []∧gcdL 0 a.ps=1)∨
 ((a.kind=3∨a.kind=4)∧Dsh a.d a.ps a.k∧¬ordT (oppP a.d a.ps) a.ps ((-a.k)%a.d) a.k<0)
theorem fstF_fit (h:Dsh D us k)(hk:kind=3∨kind=4):Fit (fstF kind D us k):=by
 unfold fstF
 split
 ·rename_i ho
  obtain⟨h1,h2,h3⟩:=h.opp
  refine .inr (.inr ⟨hk,h1,?_⟩)
  simp only
  rw[h2,h3,ordT_neg (oppP D us) us]
  omega
 rename_i ho
 exact .inr (.inr ⟨hk,h,ho⟩)
theorem tru_fit (is:Prop) [Decidable is]:Fit (tru is):=.inl ⟨by unfold tru;split <;> simp,rfl,rfl,rfl⟩
theorem std_some (hS:Std qs)(h:qs≠ []): ∃q∈qs,q.2≠0:=by
 cases qs with
 |nil=>exact absurd rfl h
 |cons q qs=>exact⟨q,by simp,hS.2 q (by simp)⟩
theorem lessF_fit (hS:Std qs)(k:Int):Fit (lessF qs k):=by
 unfold lessF
 split
 ·exact tru_fit _
 rename_i h
 obtain⟨q,hq,h0⟩:=std_some hS h
 have hpos:0<gcdL 0 qs:=gcdL_pos (.inr ⟨q,hq,h0⟩)
 obtain⟨-,hd⟩:=gcdL_dvd 0 qs
 have h1:=gcdL_div (g:=0) (qs:=qs) rfl hpos
 rw[Nat.zero_div]at h1
 refine .inr (.inl ⟨rfl,rfl,eachP_std (F:=fun x=>x / ((gcdL 0 qs:Nat):Int)) hS,fun hn=>h0 ?_,h1⟩)
 have:q.2 / ((gcdL 0 qs:Nat):Int)=0:=eachP_nil (F:=fun x=>x / ((gcdL 0 qs:Nat):Int)) hn q hq
 have h2:=Int.mul_ediv_cancel' (hd q hq)
 rw[this,Int.mul_zero]at h2
 exact h2.symm
theorem divG_fit {D:Nat}(h0:0<D){ts:List (Int × Int)}{k:Int}(hS:Std ts)(hr: ∀q∈ts,0<q.2∧q.2<(D:Int))(hk0:0≤k∧k<(D:Int))(hk:kind=3∨kind=4):Fit (divG kind D ts k):=by
 obtain⟨h1,h2⟩:=gcdL_dvd D ts
 have hpos:0<gcdL D ts:=gcdL_pos (.inl h0)
 have hG:=gcdL_div (g:=D) (qs:=ts) rfl hpos
 unfold divG
 split
 ·exact .inl ⟨by rcases hk with rfl|rfl <;> simp,rfl,rfl,rfl⟩
 rename_i hg
 split
 ·exact .inl ⟨by rcases hk with rfl|rfl <;> simp,rfl,rfl,rfl⟩
 rename_i h3
 refine fstF_fit ?_ hk
 have hgs:gcdL D ts=D→ts= []:=fun e=>by
  cases ts with
  |nil=>rfl
  |cons q ts=>
   have hq:=h2 q (by simp)
   rw[e]at hq
   have:=hr q (by simp)
   have:=Int.le_of_dvd this.1 hq
   omega
 have hne:ts≠ []:=fun e=>by
  subst e
  apply h3
  show(D:Int) / (D:Int)=1
  exact Int.ediv_self o_m
 generalize gcdL D ts=g at*
 obtain⟨e,he⟩:=h1
 have hD:(D:Int)=g*e:=by rw[he];simp
 have hgi:(g:Int)≠0:=by omega
 have hDe:(D:Int) / g=e:=by rw[hD,Int.mul_ediv_cancel_left _ hgi]
 have hDn:D / g=e:=by rw[he,Nat.mul_div_cancel_left _ hpos]
 rw[hDe]at h3 ⊢
 rw[hDn]at hG
 have he0:0<e:=Nat.pos_of_ne_zero fun h=>by subst h;simp at he;omega
 have hgk:=Classical.not_not.1 hg
 have hq: ∀q∈ts,(g:Int)*(q.2 / g)=q.2:=fun q hq=>Int.mul_ediv_cancel' (h2 q hq)
 have hlt: ∀x:Int,(g:Int)*x<g*e→x<e:=fun x hx=>Int.lt_of_mul_lt_mul_left hx o_m
 have hpx: ∀x:Int,0<(g:Int)*x→0<x:=fun x hx=>Int.pos_of_mul_pos_right hx o_m
 refine⟨by omega,eachP_std hS,fun hn=> ?_,fun q hqm=> ?_,?_,by simpa using hG⟩
 ·obtain⟨q,hqm,hq0⟩:=std_some hS hne
  have:q.2 / (g:Int)=0:=eachP_nil hn q hqm
  have h4:=hq q hqm
  rw[this,Int.mul_zero]at h4
  exact hq0 h4.symm
 ·obtain⟨p,hp,rfl,_⟩:=eachP_mem hqm
  have h5:=hq p hp
  have h6:=hr p hp
  rw[←h5,hD]at h6
  exact⟨hpx _ h6.1,hlt _ h6.2⟩
 have h5:=Int.mul_ediv_cancel' hgk
 rw[←h5,hD]at hk0
 exact⟨Int.ediv_nonneg (by rw[h5]at hk0;exact hk0.1) o_m,hlt _ hk0.2⟩
theorem divF_fit (h0:d≠0){qs:List (Int × Int)}(hS:Std qs)(k:Int)(hk:kind=3∨kind=4):Fit (divF kind d qs k):=by
 unfold divF
 have hD:(0:Int)<d.natAbs:=by omega
 refine divG_fit o_m (eachP_std hS) (fun q hq=> ?_) ⟨Int.emod_nonneg _ o_m,Int.emod_lt_of_pos _ hD⟩ hk
 obtain⟨p,_,rfl,hn⟩:=eachP_mem hq
 have h1:=Int.emod_nonneg p.2 (by omega:(d.natAbs:Int)≠0)
 have h2:=Int.emod_lt_of_pos p.2 hD
 simp only at hn ⊢
 omega
theorem formA_fit {a:Atm}(hS:Std qs)(h:formA kind d qs k= .inl a):Fit a:=by
 unfold formA at h
 by_cases h1:kind=0∨kind=1
 ·rw[if_pos h1]at h
  cases h
  exact .inl ⟨h1,rfl,rfl,rfl⟩
 rw[if_neg h1]at h
 by_cases h2:kind=2
 ·rw[if_pos h2]at h
  cases h
  exact lessF_fit hS k
 rw[if_neg h2]at h
 by_cases h3:kind=3∨kind=4
 ·rw[if_pos h3]at h
  by_cases h4:d=0
  ·rw[if_pos h4]at h;cases h
  rw[if_neg h4]at h
  cases h
  exact divF_fit h4 hS k h3
 rw[if_neg h3]at h;cases h
theorem div_one (h:Std qs):eachP (fun x=>x / ((1:Nat):Int)) qs=qs:=eachP_id h fun q _=>by simp
theorem Fit.std {a:Atm}(h:Fit a):Std a.ps:=by
 rcases h with⟨_,_,h,_⟩|⟨_,_,h,_⟩|⟨_,h,_⟩
 ·rw[h];exact std_nil
 ·exact h
 exact h.std
theorem Fit.again {a:Atm}(h:Fit a):formA a.kind a.d a.ps a.k= .inl a:=by
 obtain⟨kind,d,ps,k⟩:=a
 unfold formA
 rcases h with⟨h1,h2,h3,h4⟩|⟨h1,h2,h3,h4,h5⟩|⟨h1,h2,h3⟩
 ·simp only at h1 h2 h3 h4
  subst h2 h3 h4
  rw[if_pos h1]
 ·simp only at h1 h2 h3 h4 h5
  subst h1 h2
  rw[if_neg (by simp),if_pos rfl]
  unfold lessF
  rw[if_neg h4,h5,div_one h3]
  simp
 simp only at h1 h2 h3
 have hD:=h2.two
 rw[if_neg (by rcases h1 with rfl|rfl <;> simp),if_neg (by rcases h1 with rfl|rfl <;> simp),if_pos h1,if_neg (by show ¬d=0;omega)]
 have hDn:(d.natAbs:Int)=d:=by omega
 unfold divF
 rw[hDn,eachP_id h2.std (fun q hq=>Int.emod_eq_of_lt (by have:=h2.rng q hq;omega) (h2.rng q hq).2),Int.emod_eq_of_lt h2.kr.1 h2.kr.2]
 unfold divG
 rw[h2.one,if_neg (by simp[Int.one_dvd]),hDn]
 simp only[Int.natCast_one,Int.ediv_one]
 rw[if_neg o_m,show eachP (fun x=>x) ps=ps from eachP_id h2.std fun q _=>rfl]
 unfold fstF
 rw[if_neg h3]

theorem nodup_len : ∀{l m:List Int},l.Nodup→(∀x∈l,x∈m)→l.length≤m.length
 | [],_,_,_=>Nat.zero_le _
 |x::l,m,h,hs=>by
  obtain⟨h1,h2⟩:=List.nodup_cons.1 h
  have hx:=hs x (by simp)
  have h3:=nodup_len (l:=l) (m:=m.erase x) h2 fun y hy=>by
   have hy':=hs y (by simp[hy])
   exact(List.mem_erase_of_ne (fun(e:y=x)=>h1 (e▸hy))).2 hy'
  rw[List.length_erase_of_mem hx]at h3
  have hm:0<m.length:=List.length_pos_of_mem hx
  simp only[List.length_cons]
  omega
theorem std_len {ps:List (Int × Int)}(hS:Std qs)(hc: ∀v,csum qs v=csum ps v):qs.length≤ps.length:=by
 have h:=nodup_len (l:=qs.map Prod.fst) (m:=ps.map Prod.fst) (List.pairwise_map.2 (hS.1.imp fun h=>by omega)) fun x hx=>by
  obtain⟨q,hq,rfl⟩:=List.mem_map.1 hx
  have h0:csum ps q.1≠0:=by rw[←hc,std_csum_mem hS hq];exact hS.2 q hq
  obtain⟨p,hp,e⟩:=csum_mem h0
  exact List.mem_map.2 ⟨p,hp,e⟩
 simpa using h
def Prt (rs qs:List (Int × Int)):Prop:=rs.length≤qs.length∧∀v,csum rs v≠0→csum qs v≠0
theorem prt_nil (qs:List (Int × Int)):Prt [] qs:=⟨Nat.zero_le _,fun _ h=>absurd rfl h⟩
theorem prt_refl (qs:List (Int × Int)):Prt qs qs:=⟨Nat.le_refl _,fun _ h=>h⟩
theorem prt_each {F:Int→Int}(hS:Std qs):Prt (eachP F qs) qs:=by
 refine⟨?_,fun v h=> ?_⟩
 ·unfold eachP
  exact Nat.le_trans (List.length_filter_le _ _) (by simp)
 obtain⟨p,hp,rfl⟩:=csum_mem h
 obtain⟨q,hq,e,-⟩:=eachP_mem hp
 rw[e]
 show csum qs q.1≠0
 rw[std_csum_mem hS hq]
 exact hS.2 q hq
theorem Prt.trans {rs ts:List (Int × Int)}(h1:Prt rs qs)(h2:Prt qs ts):Prt rs ts:=⟨Nat.le_trans h1.1 h2.1,fun v h=>h2.2 v (h1.2 v h)⟩
theorem prt_opp (hS:Std qs):Prt (oppP d qs) qs:=(prt_each (eachP_std hS)).trans (prt_each hS)
theorem fstF_prt (hS:Std us):Prt (fstF kind d us k).ps us:=by
 unfold fstF
 split
 ·exact prt_opp hS
 exact prt_refl us
theorem divG_prt {D:Nat}{ts:List (Int × Int)}(hS:Std ts):Prt (divG kind D ts k).ps ts:=by
 unfold divG
 split
 ·exact prt_nil _
 split
 ·exact prt_nil _
 exact(fstF_prt (eachP_std hS)).trans (prt_each hS)
theorem lessF_prt (hS:Std qs):Prt (lessF qs k).ps qs:=by
 unfold lessF
 split
 ·exact prt_nil _
 exact prt_each (F:=fun x=>x / ((gcdL 0 qs:Nat):Int)) hS
theorem formA_prt {a:Atm}(hS:Std qs)(h:formA kind d qs k= .inl a):Prt a.ps qs:=by
 unfold formA at h
 by_cases h1:kind=0∨kind=1
 ·rw[if_pos h1]at h
  cases h
  exact prt_nil _
 rw[if_neg h1]at h
 by_cases h2:kind=2
 ·rw[if_pos h2]at h
  cases h
  exact lessF_prt hS
 rw[if_neg h2]at h
 by_cases h3:kind=3∨kind=4
 ·rw[if_pos h3]at h
  by_cases h4:d=0
  ·rw[if_pos h4]at h;cases h
  rw[if_neg h4]at h
  cases h
  exact(divG_prt (eachP_std hS)).trans (prt_each hS)
 rw[if_neg h3]at h;cases h
theorem Fit.form {a:Atm}(h:Fit a)(qs:List (Int × Int))(k:Int): ∃f,formA a.kind a.d qs k= .inl f:=by
 unfold formA
 rcases h with⟨h1,_⟩|⟨h1,_⟩|⟨h1,h2,_⟩
 ·rw[if_pos h1];exact⟨_,rfl⟩
 ·rw[if_neg o_m,if_pos h1];exact⟨_,rfl⟩
 have:=h2.two
 rw[if_neg o_m,if_neg o_m,if_pos h1,if_neg o_m];exact⟨_,rfl⟩
end Go.Proofs.YtllfelooahplhaaGreatDoor.At

namespace Go.Proofs.YtllfelooahplhaaGreatDoor.Fresh
open Go.RowKit
open Go.Maps (Keyed)
open Tm

variable {F cap m n len B:Nat}{w w':World}{ad:Option Addr}{s:Bool}{z:Int}
def NR (w:World)(m:Nat):Prop:=∀xs,¬Row w m xs
theorem Fr.grownN (h:Fr F w ad cap)(hg:w.grownBy w' (some m))(hm:NR w m):Fr F w' ad cap:=by
 rcases h with h|⟨b,xs,h1,h2,h3,h4⟩
 ·exact .inl h
 exact .inr ⟨b,xs,h1,h2,(hg.block b (row_lt h3) (fun e=>by cases e;exact hm xs h3)).trans h3,h4⟩
theorem nr_map {D:DataW Value}(h:w.ownsMap Tryz.prog 3 elemR m n D):NR w m:=by
 intro xs hr
 obtain⟨es,clock,hb,_⟩:=h
 have hr':=hb.symm.trans hr
 cases hr'
theorem zn_zm (h:Zn F w s ad len cap z):Zm F w s ad len cap z:=by
 obtain⟨n,h1,h2,_⟩:=h
 exact⟨n,h1.nm,h2⟩
theorem zn_map (h:Zn F w s ad len cap z)(hg:w.grownBy w' (some m))(hm: ∀off,w.cell? ⟨m,off,none⟩=none)(hr:NR w m):Zn F w' s ad len cap z:=by
 obtain⟨n,⟨⟨zs,g1,g2,g3⟩,h2,h3⟩,h4⟩:=h
 exact⟨n,⟨⟨zs,g1.grown hg hm,g2,g3⟩,Nat.le_trans h2 hg.size,h3.grownN hg hr⟩,h4⟩
theorem zn_lc (h:Zn F w s ad len cap z):len≤cap:=by
 obtain⟨n,⟨⟨zs,g1,_⟩,_⟩,_⟩:=h
 exact g1.2.1

def GA (F:Nat)(w:World)(D:DataW Value)(f:Int→Int)(B:Nat):Prop:=
 ∀v,I64 v→(Maps.has D (.int .i64 v)=false∧f v=0)∨ ∃s a l c,(∀zd,D.atKey (.int .i64 v) zd= .held (.agg #[.bool s,.slice a l c]))∧Zn F w s a l c (f v)∧l≤B
def GM (F:Nat)(w:World)(m n:Nat)(f:Int→Int)(B:Nat):Prop:=∃D,w.ownsMap Tryz.prog 3 elemR m n D∧GA F w D f B
theorem GA.kept {D:DataW Value}{f:Int→Int}(h:GA F w D f B)(hz: ∀s a l c z,Zn F w s a l c z→Zn F w' s a l c z):GA F w' D f B:=fun v hv=>by
 rcases h v hv with h1|⟨s,a,l,c,h1,h2,h3⟩
 ·exact .inl h1
 exact .inr ⟨s,a,l,c,h1,hz _ _ _ _ _ h2,h3⟩
theorem GA.old {D:DataW Value}{f:Int→Int}(h:GA F w D f B):Go.Proofs.YtllfelooahplhaaGreatDoor.GA w D f B:=fun v hv=>by
 rcases h v hv with h1|⟨s,a,l,c,h1,h2,h3⟩
 ·exact .inl h1
 exact .inr ⟨s,a,l,c,h1,h2.zn,h3⟩
theorem GM.below {f:Int→Int}(h:GM F w m n f B)(hb:Below w.heap.size w w'):GM F w' m n f B:=by
 obtain⟨D,h1,h2⟩:=h
 exact⟨D,h1.kept (row:=none) ⟨hb.os,hb.tape,hb.output,hb.size,fun k hk _=>hb.block k hk⟩ (by simp),h2.kept fun _ _ _ _ _ hz=>fzn_below hz hb⟩
theorem GM.lt {f:Int→Int}(h:GM F w m n f B):m<w.heap.size:=by
 obtain⟨D,h1,_⟩:=h;exact h1.lt
theorem gm_new (w:World)(B:Nat):GM F (w.alloc (.map #[] 0)) w.heap.size 0 (fun _=>0) B:=
 ⟨_,World.ownsMap_made w _ _ _,fun _ _=> .inl ⟨rfl,rfl⟩⟩
theorem GM.look {f:Int→Int}(h:GM F w m n f B)(hF:F≤w.heap.size){v:Int}(hv:I64 v):
  ∃s a l c,(Instr.lookup 100 (.map (some m)) (.int .i64 v) false).run Tryz.prog w= .ok (.agg #[.bool s,.slice a l c]) w∧Zn F w s a l c (f v)∧l≤B:=by
 obtain⟨D,h1,h2⟩:=h
 obtain⟨u,ps,hrun,hu⟩:=h1.lookup tk Tryz.underlying100 (Tryz.zeroValue45 w) (elemR_mk _ _ _ _) (keyOf_i hv)
 obtain⟨s,a,l,c,rfl,e⟩:=elemR_inv hu
 refine⟨s,a,l,c,hrun,?_⟩
 rcases h2 v hv with⟨h3,h4⟩|⟨s',a',l',c',h3,h4,h5⟩
 ·rw[Maps.atKey_of_not_has h3]at e
  simp at e
  obtain⟨⟨rfl,rfl,rfl,rfl⟩,_⟩:=e
  rw[h4]
  exact⟨fzn_zero hF,Nat.zero_le _⟩
 rw[h3]at e
 simp at e
 obtain⟨⟨rfl,rfl,rfl,rfl⟩,_⟩:=e
 exact⟨h4,h5⟩
theorem GM.store {f:Int→Int}(h:GM F w m n f B){v:Int}(hv:I64 v)(hn:n≤1099511627776){s:Bool}{a:Option Addr}{l c:Nat}{z:Int}(hz:Zn F w s a l c z){B':Nat}(hl:l≤B')(hB:B≤B'):
  ∃w',(Instr.mapUpdate 100 (.map (some m)) (.int .i64 v) (.agg #[.bool s,.slice a l c])).run Tryz.prog w= .ok () w'∧GM F w' m (n+1) (fun u=>if u=v then z else f u) B'∧w.grownBy w' (some m):=by
 obtain⟨D,h1,h2⟩:=h
 obtain⟨w',hrun,h3,h4⟩:=h1.store tk Tryz.underlying100 (by unfold maxLen;omega) (keyOf_i hv) (elemR_mk s a l c)
 have hg:=h4.grown
 refine⟨w',hrun,⟨_,h3,fun u hu=> ?_⟩,hg⟩
 by_cases e:u=v
 ·subst e
  exact .inr ⟨s,a,l,c,fun zd=>Maps.atKey_put_same h1.isMap (isKey_i u hu) _ _,by simpa using zn_map hz hg (map_nocell h1) (nr_map h1),hl⟩
 have hne:(Lit.int .i64 u)≠ .int .i64 v:=fun h=>e (by injection h)
 simp only[e,if_false]
 rcases h2 u hu with⟨h5,h6⟩|⟨s',a',l',c',h5,h6,h7⟩
 ·exact .inl ⟨by rw[Maps.has_put_other hne];exact h5,h6⟩
 exact .inr ⟨s',a',l',c',fun zd=>by rw[Maps.atKey_put_other hne];exact h5 zd,zn_map h6 hg (map_nocell h1) (nr_map h1),Nat.le_trans h7 hB⟩
theorem gather_n {b off k:Nat}{pss:List (List (Int × Int))}(hF:F≤w.heap.size)(hk:pss.length=k)(hk2:k≤2)(hbl:b<w.heap.size)
  (hL: ∀j (h:j<pss.length),∃ad n cp,w.cell? ⟨b,off+j,none⟩=some (.slice ad n cp)∧Pr w ad n pss[j] B)(hB:B+pss.flatten.length≤536870912):
  Calls Tryz.prog 62 #[.slice (some ⟨b,off,none⟩) k cap] w fun e w'=> ∃m,e= .returned (.map (some m))∧GM F w' m pss.flatten.length (csum pss.flatten) (B+pss.flatten.length)∧Below w.heap.size w w'∧w.heap.size≤m:=by
 have hmm:=run_makeMap (P:=Tryz.prog) 100 w
 go_enter Tryz.func62,Tryz.ntmps62
 go_wp2_with fail
 have hG0:=gm_new (F:=F) w B
 have b0:=below_alloc w (.map #[] 0)
 generalize w.alloc (.map #[] 0)=w1 at*
 generalize hm:w.heap.size=m at*
 replace b0:Below w.heap.size w w1:=hm▸b0
 replace hbl:b<w.heap.size:=hm▸hbl
 replace hF:Hid (F≤w.heap.size):=hm▸hF
 replace hm:=hide hm
 clear hmm
 go_loopw [11] (fun j wr=> ∃t:Nat,t≤k∧j= .int .i64 t∧GM F wr m (pss.take t).flatten.length (csum (pss.take t).flatten) (B+(pss.take t).flatten.length)∧Below w.heap.size w wr) (fun j _=>k-(intOf j).toNat)
 case atStart=>exact⟨0,Nat.zero_le _,rfl,by simpa [csum] using hG0,b0⟩
 case round=>
  obtain⟨t,ht,rfl,hG,kr⟩:=hrel
  by_cases htk:t<k
  ·obtain⟨ad,n,cp,hc,hP⟩:=hL t o_m
   replace hc:=(kr.cell (p:=⟨b,off+t,none⟩) hbl).trans hc
   have hsplit:=hide (List.take_succ_eq_append_getElem (l:=pss) (i:=t) o_m)
   have hlen:=hide (flat_len pss t o_m)
   generalize pss[t]=ps at*
   generalize hqs:(pss.take t).flatten=qs at*
   replace hqs:=hide hqs
   obtain⟨hn,hP⟩:=hP
   have hnb:n≤536870912:=by have:=hlen.out;omega
   go_wp2_with fail
   go_loopw [17] (fun i wv=> ∃s:Nat,s≤n∧i= .int .i64 s∧GM F wv m (qs++ps.take s).length (csum (qs++ps.take s)) (B+(qs++ps.take s).length)∧Below w.heap.size w wv) (fun i _=>n-(intOf i).toNat)
   case atStart=>exact⟨0,Nat.zero_le _,rfl,by simpa using hG,kr⟩
   case round=>
    obtain⟨s,hs,rfl,hG,kv⟩:=hrel
    by_cases hsn:s<n
    ·rcases hP with hP|⟨bp,op,rfl,hP⟩
     ·omega
     have hPA:=(hP.below kv).2 s o_m
     obtain⟨s1,a1,l1,c1,e0,e1,e2,hz,hl1,hv⟩:=hPA
     have hps:Hid (ps.take (s+1)=ps.take s++ [ps[s]]):=List.take_succ_eq_append_getElem (l:=ps) (i:=s) o_m
     have hle:(qs++ps.take s).length+1≤qs.length+ps.length:=by rw[List.length_append,List.length_take];omega
     replace hle:B+(qs++ps.take s).length+1≤536870912:=by have:=hlen.out;omega
     generalize ps[s]=p at*
     go_wp2_with fail
     have x:=pb_new wr p.1 s1 a1 l1 c1
     have kb:=below_alloc wr (.cells #[.int .i64 p.1,.bool s1,.slice a1 l1 c1] 134)
     have hqm:wr.heap.size≠m:=Nat.ne_of_gt hG.lt
     replace hG:=hG.below kb
     replace hz:=hz.below kb
     replace kv:=hide (grow_step kb kv)
     clear kb e0 e1 e2
     generalize wr.alloc (.cells #[.int .i64 p.1,.bool s1,.slice a1 l1 c1] 134)=wb at*
     generalize wr.heap.size=q at*
     have kd:=grow_drew (Below.refl wb.heap.size wb)
     have hGd:=hG.below kd
     replace hz:=hz.below kd
     obtain⟨s2,a2,l2,c2,hlook,hz2,hl2⟩:=hGd.look (Nat.le_trans hF.out kv.out.size) hv
     have hzF:=hide (zm_of hz (Nat.le_trans hF.out kv.out.size:F≤wb.drew.heap.size))
     have hd:wb.grownBy wb.drew (some m):=⟨rfl,rfl,rfl,Nat.le_refl _,fun _ _ _=>rfl⟩
     go_region_held3 (fun w'=>w'.cell? ⟨q,0,none⟩=some (.int .i64 p.1)∧w'.cell? ⟨q,1,none⟩=some (.bool s1)∧w'.cell? ⟨q,2,none⟩=some (.slice a1 l1 c1)∧wb.grownBy w' (some m))
      ((refine pk x hqm ?_;assumption))
      (first|(go_at_call 64;refine(zadd_n (zn_zm hz2) hzF.out (by omega) (by omega)).mono ?_;rintro e w1 ⟨s3,a3,l3,c3,rfl,hz3,k3,hl3⟩;obtain⟨w2,hst,hG2,hg2⟩:=(hGd.below k3).store hv (by omega) hz3 (B':=B+(qs++ps.take s).length+1) (by omega) (by omega);have hg1:=gb_below hd k3;replace hg2:=gb_trans hg1 hg2))
     replace kv:=hide (below_grown kv.out hg2 (Nat.le_of_eq hm.out))
     go_wp2_with fail
     refine⟨⟨s+1,by omega,by go_num,?_,kv⟩,by simp[intOf];omega⟩
     rw[hps.out,←List.append_assoc,show csum (qs++ps.take s++ [p])=fun u=>if u=p.1 then csum (qs++ps.take s) p.1+p.2 else csum (qs++ps.take s) u from funext fun u=>by
      rw[csum_snoc]
      by_cases e:u=p.1
      ·subst e;simp
      have e': ¬p.1=u:=fun h=>e h.symm
      simp[e,e']]
     simpa [Nat.add_assoc] using hG2
    obtain rfl:s=n:=by omega
    have e1:=hide (show(pss.take (t+1)).flatten=qs++ps.take s by rw[hsplit.out,List.flatten_append,List.flatten_singleton,hqs.out,List.take_of_length_le (Nat.le_of_eq hn)])
    go_wp2_with fail
    refine⟨⟨t+1,by omega,by go_num,?_,kv⟩,by simp[intOf];omega⟩
    rw[e1.out]
    exact hG
  obtain rfl:t=k:=by omega
  rw[List.take_of_length_le (Nat.le_of_eq hk)]at hG
  go_wp2
  go_ret
  exact⟨m,rfl,hG,kr,Nat.le_of_eq hm.out⟩
theorem gather1 {W:World}{b:Nat}{cp:Nat}{ps:List (Int × Int)}{ty:TypeId}{fz:Nat × Nat}(hF:F≤W.heap.size)(hb:W.heap[b]? =some (.cells #[.slice ad n cp] ty fz))(h:Pr W ad n ps B)(hB:B+n≤536870912):
  Calls Tryz.prog 62 #[.slice (some ⟨b,0,none⟩) 1 1] W fun e w'=> ∃m,e= .returned (.map (some m))∧GM F w' m n (csum ps) (B+n)∧Below W.heap.size W w'∧W.heap.size≤m:=by
 have hn:=h.1
 have:=gather_n (F:=F) (w:=W) (b:=b) (off:=0) (k:=1) (cap:=1) (pss:=[ps]) (B:=B) hF rfl (by decide) (Array.getElem?_eq_some_iff.1 hb).1 (fun j hj=>by
  obtain rfl:j=0:=by simp at hj;omega
  exact⟨ad,n,cp,cell_of_row W b 0 _ _ fz hb,h⟩) (by simp[hn];omega)
 simpa [hn] using this
end Go.Proofs.YtllfelooahplhaaGreatDoor.Fresh
