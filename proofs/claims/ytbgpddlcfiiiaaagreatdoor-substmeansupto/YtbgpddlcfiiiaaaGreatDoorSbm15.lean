/-
 Several texts in one: Y1,Y3,B1.
-/
import Derived.Test.YtbgpddlcfiiiaaaGreatDoorSbm12
import Derived.Maps.RangeWalk
import Derived.Deep.LoopGhost
set_option maxRecDepth 100000
set_option maxHeartbeats 1600000
namespace Go.Proofs.YtbgpddlcfiiiaaaGreatDoor
open Go.RowKit
open Go.Maps (Keyed)
open Tm

variable {v:Int}{w w':World}{ad a:Option Addr}{len cap m n B b off l c:Nat}{s:Bool}{f:Int→Int}{ps:List (Int × Int)}
def I64 (v:Int):Prop:=-9223372036854775808≤v∧v≤9223372036854775807
theorem i64_wf (h:I64 v):(Lit.int .i64 v).wf=true:=by
 unfold I64 at h
 simp[Lit.wf,IntKind.min,IntKind.max,IntKind.bits,IntKind.signed]
 omega
theorem wf_i64 (h:(Lit.int .i64 v).wf=true):I64 v:=by
 simp[Lit.wf,IntKind.min,IntKind.max,IntKind.bits,IntKind.signed]at h
 unfold I64
 omega

def elemR :Value→Option (DataW Value × List MemPlace)
 | .agg cs=>match cs.toList with
  | [.bool s,.slice a l c]=>some (.held (.agg #[.bool s,.slice a l c]),[])
  |_=>none
 |_=>none
theorem elemR_mk (s:Bool)(a:Option Addr)(l c:Nat):elemR (.agg #[.bool s,.slice a l c])=some (.held (.agg #[.bool s,.slice a l c]),[]):=rfl
theorem elemR_inv {v:Value}{y:DataW Value × List MemPlace}(h:elemR v=some y): ∃s a l c,v= .agg #[.bool s,.slice a l c]∧y=(.held (.agg #[.bool s,.slice a l c]),[]):=by
 unfold elemR at h
 split at h
 ·rename_i cs
  split at h
  ·rename_i s a l c e
   obtain⟨xs⟩:=cs
   simp only at e
   subst e
   exact⟨s,a,l,c,rfl,(Option.some.inj h).symm⟩
  cases h
 cases h

theorem tk :Keyed Tryz.prog 3:=Maps.int_keyed Tryz.underlying3
theorem keyOf_i (h:I64 v):keyOf Tryz.prog 3 (.int .i64 v)=some (.int .i64 v):=Maps.keyOf_int_mk Tryz.underlying3 (i64_wf h)
theorem isKey_i (v:Int)(h:I64 v):WideAt.IsKeyLit (.int .i64 v):=tk.key (keyOf_i h)

theorem Rd.grown {zs:List Int}(h:Rd w ad len cap zs)(hg:w.grownBy w' (Option.some m))(hm: ∀off,w.cell? ⟨m,off,none⟩=none):Rd w' ad len cap zs:=by
 obtain⟨h1,h2,h3,h4,h5⟩:=h
 refine⟨h1,h2,h3,h4,?_⟩
 rcases h5 with h5|⟨a,ha,h5⟩
 ·exact .inl h5
 refine .inr ⟨a,ha,?_⟩
 rcases h5 with h5|⟨b,off,rfl,hlt,hc⟩
 ·exact .inl h5
 by_cases h0:len=0
 ·exact .inl h0
 have hne:b≠m:=by
  intro e
  subst e
  have:=hc 0 o_m
  rw[hm]at this
  cases this
 refine .inr ⟨b,off,rfl,Nat.lt_of_lt_of_le hlt hg.size,fun i hi=> ?_⟩
 rw[World.cell?_of_block (a:=⟨b,off+i,none⟩) (hg.block b hlt (by simpa using hne))]
 exact hc i hi
theorem Zn.grown {z:Int}(h:Zn w s ad len cap z)(hg:w.grownBy w' (some m))(hm: ∀off,w.cell? ⟨m,off,none⟩=none):Zn w' s ad len cap z:=by
 obtain⟨n,⟨zs,h1,h2,h3⟩,h4⟩:=h
 exact⟨n,⟨zs,h1.grown hg hm,h2,h3⟩,h4⟩
theorem Zm.grown {z:Int}(h:Zm w s ad len cap z)(hg:w.grownBy w' (some m))(hm: ∀off,w.cell? ⟨m,off,none⟩=none):Zm w' s ad len cap z:=by
 obtain⟨n,⟨zs,h1,h3⟩,h4⟩:=h
 exact⟨n,⟨zs,h1.grown hg hm,h3⟩,h4⟩
theorem map_nocell {D:DataW Value}(h:w.ownsMap Tryz.prog 3 elemR m n D)(off:Nat):w.cell? ⟨m,off,none⟩=none:=by
 obtain⟨es,clock,hb,_⟩:=h
 simp[World.cell?,hb]

def GA (w:World)(D:DataW Value)(f:Int→Int)(B:Nat):Prop:=
 ∀v,I64 v→(Maps.has D (.int .i64 v)=false∧f v=0)∨ ∃s a l c,(∀zd,D.atKey (.int .i64 v) zd= .held (.agg #[.bool s,.slice a l c]))∧Zn w s a l c (f v)∧l≤B
def GM (w:World)(m n:Nat)(f:Int→Int)(B:Nat):Prop:=∃D,w.ownsMap Tryz.prog 3 elemR m n D∧GA w D f B

theorem GA.kept {D:DataW Value}(h:GA w D f B)(hz: ∀s a l c z,Zn w s a l c z→Zn w' s a l c z):GA w' D f B:=fun v hv=>by
 rcases h v hv with h1|⟨s,a,l,c,h1,h2,h3⟩
 ·exact .inl h1
 exact .inr ⟨s,a,l,c,h1,hz _ _ _ _ _ h2,h3⟩
theorem GM.below (h:GM w m n f B)(hb:Below w.heap.size w w'):GM w' m n f B:=by
 obtain⟨D,h1,h2⟩:=h
 exact⟨D,h1.kept (row:=none) ⟨hb.os,hb.tape,hb.output,hb.size,fun k hk _=>hb.block k hk⟩ (by simp),h2.kept fun _ _ _ _ _ hz=>hz.below hb⟩
theorem GM.lt (h:GM w m n f B):m<w.heap.size:=by
 obtain⟨D,h1,_⟩:=h;exact h1.lt
theorem gm_new (w:World)(B:Nat):GM (w.alloc (.map #[] 0)) w.heap.size 0 (fun _=>0) B:=
 ⟨_,World.ownsMap_made w _ _ _,fun _ _=> .inl ⟨rfl,rfl⟩⟩
theorem zn_zero (w:World):Zn w false none 0 0 0:=⟨0,⟨[],⟨rfl,by decide,by decide,fun z hz=>(by cases hz),Or.inl ⟨rfl,rfl,rfl⟩⟩,canon_nil,rfl⟩,rfl,fun h=>by cases h⟩

theorem GM.look (h:GM w m n f B){v:Int}(hv:I64 v):
  ∃s a l c,(Instr.lookup 78 (.map (some m)) (.int .i64 v) false).run Tryz.prog w= .ok (.agg #[.bool s,.slice a l c]) w∧Zn w s a l c (f v)∧l≤B:=by
 obtain⟨D,h1,h2⟩:=h
 obtain⟨u,ps,hrun,hu⟩:=h1.lookup tk Tryz.underlying78 (Tryz.zeroValue26 w) (elemR_mk _ _ _ _) (keyOf_i hv)
 obtain⟨s,a,l,c,rfl,e⟩:=elemR_inv hu
 refine⟨s,a,l,c,hrun,?_⟩
 rcases h2 v hv with⟨h3,h4⟩|⟨s',a',l',c',h3,h4,h5⟩
 ·rw[Maps.atKey_of_not_has h3]at e
  simp at e
  obtain⟨⟨rfl,rfl,rfl,rfl⟩,_⟩:=e
  rw[h4]
  exact⟨zn_zero w,Nat.zero_le _⟩
 rw[h3]at e
 simp at e
 obtain⟨⟨rfl,rfl,rfl,rfl⟩,_⟩:=e
 exact⟨h4,h5⟩

theorem GM.store (h:GM w m n f B){v:Int}(hv:I64 v)(hn:n≤1099511627776){s:Bool}{a:Option Addr}{l c:Nat}{z:Int}(hz:Zn w s a l c z){B':Nat}(hl:l≤B')(hB:B≤B'):
  ∃w',(Instr.mapUpdate 78 (.map (some m)) (.int .i64 v) (.agg #[.bool s,.slice a l c])).run Tryz.prog w= .ok () w'∧GM w' m (n+1) (fun u=>if u=v then z else f u) B'∧w.grownBy w' (some m):=by
 obtain⟨D,h1,h2⟩:=h
 obtain⟨w',hrun,h3,h4⟩:=h1.store tk Tryz.underlying78 (by unfold maxLen;omega) (keyOf_i hv) (elemR_mk s a l c)
 have hg:=h4.grown
 refine⟨w',hrun,⟨_,h3,fun u hu=> ?_⟩,hg⟩
 by_cases e:u=v
 ·subst e
  exact .inr ⟨s,a,l,c,fun zd=>Maps.atKey_put_same h1.isMap (isKey_i u hu) _ _,by simpa using hz.grown hg (map_nocell h1),hl⟩
 have hne:(Lit.int .i64 u)≠ .int .i64 v:=fun h=>e (by injection h)
 simp only[e,if_false]
 rcases h2 u hu with⟨h5,h6⟩|⟨s',a',l',c',h5,h6,h7⟩
 ·exact .inl ⟨by rw[Maps.has_put_other hne];exact h5,h6⟩
 exact .inr ⟨s',a',l',c',fun zd=>by rw[Maps.atKey_put_other hne];exact h5 zd,h6.grown hg (map_nocell h1),Nat.le_trans h7 hB⟩

def PA (w:World)(b off:Nat)(p:Int × Int)(B:Nat):Prop:=
 ∃s a l c,w.cell? ⟨b,off,none⟩=some (.int .i64 p.1)∧w.cell? ⟨b,off+1,none⟩=some (.bool s)∧w.cell? ⟨b,off+2,none⟩=some (.slice a l c)∧Zm w s a l c p.2∧l≤B∧I64 p.1
def PL (w:World)(b off:Nat)(ps:List (Int × Int))(B:Nat):Prop:=b<w.heap.size∧∀i (h:i<ps.length),PA w b (off+i*3) ps[i] B
def Pr (w:World)(ad:Option Addr)(n:Nat)(ps:List (Int × Int))(B:Nat):Prop:=ps.length=n∧(n=0∨ ∃b off,ad=some ⟨b,off,none⟩∧PL w b off ps B)

theorem PA.below {p:Int × Int}(h:PA w b off p B)(hb:Below w.heap.size w w')(hlt:b<w.heap.size):PA w' b off p B:=by
 obtain⟨s,a,l,c,h1,h2,h3,h4,h5⟩:=h
 exact⟨s,a,l,c,(hb.cell (p:=⟨b,off,none⟩) hlt).trans h1,(hb.cell (p:=⟨b,off+1,none⟩) hlt).trans h2,(hb.cell (p:=⟨b,off+2,none⟩) hlt).trans h3,h4.below hb,h5⟩
theorem PL.below (h:PL w b off ps B)(hb:Below w.heap.size w w'):PL w' b off ps B:=
 ⟨Nat.lt_of_lt_of_le h.1 hb.size,fun i hi=>(h.2 i hi).below hb h.1⟩
theorem Pr.below (h:Pr w ad n ps B)(hb:Below w.heap.size w w'):Pr w' ad n ps B:=by
 obtain⟨h1,h2⟩:=h
 refine⟨h1,?_⟩
 rcases h2 with h2|⟨b,off,h2,h3⟩
 ·exact .inl h2
 exact .inr ⟨b,off,h2,h3.below hb⟩
theorem Pr.mono {B':Nat}(h:Pr w ad n ps B)(hB:B≤B'):Pr w ad n ps B':=by
 obtain⟨h1,h2⟩:=h
 refine⟨h1,?_⟩
 rcases h2 with h2|⟨b,off,h2,h3,h4⟩
 ·exact .inl h2
 refine .inr ⟨b,off,h2,h3,fun i hi=> ?_⟩
 obtain⟨s,a,l,c,g1,g2,g3,g4,g5,g6⟩:=h4 i hi
 exact⟨s,a,l,c,g1,g2,g3,g4,Nat.le_trans g5 hB,g6⟩

theorem below_grown {w0:World}(h:Below w0.heap.size w0 w)(hg:w.grownBy w' (some m))(hm:w0.heap.size≤m):Below w0.heap.size w0 w':=
 h.grown hg h.size (fun k e=>by cases e;exact hm)

theorem flat_len (pss:List (List (Int × Int)))(t:Nat)(h:t<pss.length):(pss.take t).flatten.length+pss[t].length≤pss.flatten.length:=by
 have e:pss.flatten=(pss.take t).flatten++(pss.drop t).flatten:=by rw[←List.flatten_append,List.take_append_drop]
 rw[e,List.length_append,List.drop_eq_getElem_cons h,List.flatten_cons,List.length_append]
 omega
def PB (w:World)(b:Nat)(v:Int)(s:Bool)(a:Option Addr)(l c:Nat):Prop:=w.heap[b]? =some (.cells #[.int .i64 v,.bool s,.slice a l c] 117 (0,0))
theorem pb_new (w:World)(v:Int)(s:Bool)(a:Option Addr)(l c:Nat):PB (w.alloc (.cells #[.int .i64 v,.bool s,.slice a l c] 117)) w.heap.size v s a l c:=heap_alloc_new w _
theorem PB.lt (h:PB w b v s a l c):b<w.heap.size:=(Array.getElem?_eq_some_iff.1 h).1
theorem PB.c0 (h:PB w b v s a l c):w.cell? ⟨b,0,none⟩=some (.int .i64 v):=cell_of_row w b 0 _ _ (0,0) h
theorem PB.c1 (h:PB w b v s a l c):w.cell? ⟨b,1,none⟩=some (.bool s):=cell_of_row w b 1 _ _ (0,0) h
theorem PB.c2 (h:PB w b v s a l c):w.cell? ⟨b,2,none⟩=some (.slice a l c):=cell_of_row w b 2 _ _ (0,0) h
theorem pk {wb:World}{q:Nat}(x:PB wb q v s a l c)(hq:q≠m)(k:wb.grownBy w' (some m)):
  w'.cell? ⟨q,0,none⟩=some (.int .i64 v)∧w'.cell? ⟨q,1,none⟩=some (.bool s)∧w'.cell? ⟨q,2,none⟩=some (.slice a l c)∧wb.grownBy w' (some m):=by
 have x':PB w' q v s a l c:=(k.block q x.lt (by simpa using hq)).trans x
 exact⟨x'.c0,x'.c1,x'.c2,k⟩
theorem gb_below {wb w1 w2:World}(h:wb.grownBy w1 (some m))(k:Below w1.heap.size w1 w2):wb.grownBy w2 (some m):=
 ⟨k.os.trans h.os,k.tape.trans h.tape,k.output.trans h.output,Nat.le_trans h.size k.size,fun i hi hne=>(k.block i (Nat.lt_of_lt_of_le hi h.size)).trans (h.block i hi hne)⟩
theorem gb_trans {a b c:World}(h:a.grownBy b (some m))(k:b.grownBy c (some m)):a.grownBy c (some m):=
 ⟨k.os.trans h.os,k.tape.trans h.tape,k.output.trans h.output,Nat.le_trans h.size k.size,fun i hi hne=>(k.block i (Nat.lt_of_lt_of_le hi h.size) hne).trans (h.block i hi hne)⟩

theorem gather_n {k:Nat}{pss:List (List (Int × Int))}(hk:pss.length=k)(hk2:k≤2)(hbl:b<w.heap.size)
  (hL: ∀j (h:j<pss.length),∃ad n cp,w.cell? ⟨b,off+j,none⟩=some (.slice ad n cp)∧Pr w ad n pss[j] B)(hB:B+pss.flatten.length≤536870912):
  Calls Tryz.prog 35 #[.slice (some ⟨b,off,none⟩) k cap] w fun e w'=> ∃m,e= .returned (.map (some m))∧GM w' m pss.flatten.length (csum pss.flatten) (B+pss.flatten.length)∧Below w.heap.size w w'∧w.heap.size≤m:=by
 have hmm:=run_makeMap (P:=Tryz.prog) 78 w
 go_enter Tryz.func35,Tryz.ntmps35
 go_wp2_with fail
 have hG0:=gm_new w B
 have b0:=below_alloc w (.map #[] 0)
 generalize w.alloc (.map #[] 0)=w1 at*
 generalize hm:w.heap.size=m at*
 replace b0:Below w.heap.size w w1:=hm▸b0
 replace hbl:b<w.heap.size:=hm▸hbl
 replace hm:=hide hm
 clear hmm
 go_loopw [11] (fun j wr=> ∃t:Nat,t≤k∧j= .int .i64 t∧GM wr m (pss.take t).flatten.length (csum (pss.take t).flatten) (B+(pss.take t).flatten.length)∧Below w.heap.size w wr) (fun j _=>k-(intOf j).toNat)
 case atStart=>exact⟨0,Nat.zero_le _,rfl,by simpa [csum] using hG0,b0⟩
 case round=>
  obtain⟨t,ht,rfl,hG,kr⟩:=hrel
  by_cases htk:t<k
  ·obtain⟨ad,n,cp,hc,hP⟩:=hL t o_m
   replace hc:=(kr.cell (p:=⟨b,off+t,none⟩) hbl).trans hc
   have hsplit:=hide (List.take_succ_eq_append_getElem (l:=pss) (i:=t) o_m)
   have hlen:=hide (flat_len pss t o_m)
   generalize pss[t]=ps at*
   generalize hqs:(pss.take t).flatten=qs at*
   replace hqs:=hide hqs
   obtain⟨hn,hP⟩:=hP
   have hnb:n≤536870912:=by have:=hlen.out;omega
   go_wp2_with fail
   go_loopw [17] (fun i wv=> ∃s:Nat,s≤n∧i= .int .i64 s∧GM wv m (qs++ps.take s).length (csum (qs++ps.take s)) (B+(qs++ps.take s).length)∧Below w.heap.size w wv) (fun i _=>n-(intOf i).toNat)
   case atStart=>exact⟨0,Nat.zero_le _,rfl,by simpa using hG,kr⟩
   case round=>
    obtain⟨s,hs,rfl,hG,kv⟩:=hrel
    by_cases hsn:s<n
    ·rcases hP with hP|⟨bp,op,rfl,hP⟩
     ·omega
     have hPA:=(hP.below kv).2 s o_m
     obtain⟨s1,a1,l1,c1,e0,e1,e2,hz,hl1,hv⟩:=hPA
     have hps:Hid (ps.take (s+1)=ps.take s++ [ps[s]]):=List.take_succ_eq_append_getElem (l:=ps) (i:=s) o_m
     have hle:(qs++ps.take s).length+1≤qs.length+ps.length:=by rw[List.length_append,List.length_take];omega
     replace hle:B+(qs++ps.take s).length+1≤536870912:=by have:=hlen.out;omega
     generalize ps[s]=p at*
     go_wp2_with fail
     have x:=pb_new wr p.1 s1 a1 l1 c1
     have kb:=below_alloc wr (.cells #[.int .i64 p.1,.bool s1,.slice a1 l1 c1] 117)
     have hqm:wr.heap.size≠m:=Nat.ne_of_gt hG.lt
     replace hG:=hG.below kb
     replace hz:=hz.below kb
     replace kv:=hide (grow_step kb kv)
     clear kb e0 e1 e2
     generalize wr.alloc (.cells #[.int .i64 p.1,.bool s1,.slice a1 l1 c1] 117)=wb at*
     generalize wr.heap.size=q at*
     have kd:=grow_drew (Below.refl wb.heap.size wb)
     have hGd:=hG.below kd
     replace hz:=hz.below kd
     obtain⟨s2,a2,l2,c2,hlook,hz2,hl2⟩:=hGd.look hv
     have hd:wb.grownBy wb.drew (some m):=⟨rfl,rfl,rfl,Nat.le_refl _,fun _ _ _=>rfl⟩
     go_region_held3 (fun w'=>w'.cell? ⟨q,0,none⟩=some (.int .i64 p.1)∧w'.cell? ⟨q,1,none⟩=some (.bool s1)∧w'.cell? ⟨q,2,none⟩=some (.slice a1 l1 c1)∧wb.grownBy w' (some m))
      ((refine pk x hqm ?_;assumption))
      (first|(go_at_call 37;refine(zadd_n hz2.zm hz (by omega) (by omega)).mono ?_;rintro e w1 ⟨s3,a3,l3,c3,rfl,hz3,k3,hl3⟩;obtain⟨w2,hst,hG2,hg2⟩:=(hGd.below k3).store hv (by omega) hz3 (B':=B+(qs++ps.take s).length+1) (by omega) (by omega);have hg1:=gb_below hd k3;replace hg2:=gb_trans hg1 hg2))
     replace kv:=hide (below_grown kv.out hg2 (Nat.le_of_eq hm.out))
     go_wp2_with fail
     refine⟨⟨s+1,by omega,by go_num,?_,kv⟩,by simp[intOf];omega⟩
     rw[hps.out,←List.append_assoc,show csum (qs++ps.take s++ [p])=fun u=>if u=p.1 then csum (qs++ps.take s) p.1+p.2 else csum (qs++ps.take s) u from funext fun u=>by
      rw[csum_snoc]
      by_cases e:u=p.1
      ·subst e;simp
      have e': ¬p.1=u:=fun h=>e h.symm
      simp[e,e']]
     simpa [Nat.add_assoc] using hG2
    obtain rfl:s=n:=by omega
    have e1:=hide (show(pss.take (t+1)).flatten=qs++ps.take s by rw[hsplit.out,List.flatten_append,List.flatten_singleton,hqs.out,List.take_of_length_le (Nat.le_of_eq hn)])
    go_wp2_with fail
    refine⟨⟨t+1,by omega,by go_num,?_,kv⟩,by simp[intOf];omega⟩
    rw[e1.out]
    exact hG
  obtain rfl:t=k:=by omega
  rw[List.take_of_length_le (Nat.le_of_eq hk)]at hG
  go_wp2
  go_ret
  exact⟨m,rfl,hG,kr,Nat.le_of_eq hm.out⟩
end Go.Proofs.YtbgpddlcfiiiaaaGreatDoor

namespace Go.Proofs.YtbgpddlcfiiiaaaGreatDoor
open Go.RowKit Go.Sort Go.Shelf
open Tm

variable {s1 s2:Bool}{a1 a2:Option Addr}{l1 c1 l2 c2:Nat}{z1 z2:Int}{w:World}
theorem fd_div {a b q r:Int}(h:FD a b q r)(hb:0<b):q=a / b∧r=a%b:=by
 obtain⟨h1,h2⟩:=h
 rcases h2 with⟨h3,h4⟩|⟨h3,h4⟩
 ·subst h1
  rw[Int.add_comm,Int.add_mul_ediv_right _ _ o_m,Int.ediv_eq_zero_of_lt h3 h4,Int.add_mul_emod_self_right,Int.emod_eq_of_lt h3 h4]
  exact⟨by omega,rfl⟩
 omega
theorem quotient_n (h1:Zm w s1 a1 l1 c1 z1)(h2:Zm w s2 a2 l2 c2 z2)(hl1:l1≤1099511627776)(hl2:l2≤1099511627776)(hz:0<z2):
  Calls Tryz.prog 127 #[.agg #[.bool s1,.slice a1 l1 c1],.agg #[.bool s2,.slice a2 l2 c2]] w fun e w'=> ∃s a l c,e= .returned (.agg #[.bool s,.slice a l c])∧Zn w' s a l c (z1 / z2)∧Below w.heap.size w w'∧l≤l1+3:=by
 go_enter Tryz.func127,Tryz.ntmps127
 go_wp2_with fail
 have y:=zb_new ((w.alloc (.cells #[.bool s1,.slice a1 l1 c1] 26)).alloc (.cells #[.bool s2,.slice a2 l2 c2] 26)) false none 0 0
 have b0:Below w.heap.size w (((w.alloc (.cells #[.bool s1,.slice a1 l1 c1] 26)).alloc (.cells #[.bool s2,.slice a2 l2 c2] 26)).alloc (.cells #[.bool false,.slice none 0 0] 26)):=below_alloc' (below_alloc' (below_alloc _ _) _) _
 rw[show((w.alloc (.cells #[.bool s1,.slice a1 l1 c1] 26)).alloc (.cells #[.bool s2,.slice a2 l2 c2] 26)).heap.size=w.heap.size+1+1 from by simp]at y
 generalize ((w.alloc (.cells #[.bool s1,.slice a1 l1 c1] 26)).alloc (.cells #[.bool s2,.slice a2 l2 c2] 26)).alloc (.cells #[.bool false,.slice none 0 0] 26)=wb at*
 have hr:w.heap.size≤w.heap.size+1+1:=by omega
 generalize w.heap.size+1+1=r at*
 refine(zdivmod_n (h1.below b0) (h2.below b0) hl1 hl2 o_m).mono ?_
 rintro e w1 ⟨sq,aq,lq,cq,sr,ar,lr,cr,qv,rv,rfl,hzq,hzr,hFD,k1,hlq,hlr⟩
 have hval:qv=z1 / z2∧rv=z1%z2:=fd_div hFD hz
 obtain⟨rfl,rfl⟩:=hval
 have kk:=hide (grow_step k1 b0)
 have y1:=y.below k1
 clear k1 b0 y h1 h2
 have ka:=below_alloc w1 (.cells #[.bool sq,.slice aq lq cq] 26)
 have kb:=below_alloc (w1.alloc (.cells #[.bool sq,.slice aq lq cq] 26)) (.cells #[.bool sr,.slice ar lr cr] 26)
 have kc:=grow_step kb ka
 have y2:=y1.below kc
 have y3:=y2.c0
 have y4:=y2.c1
 have y5:=y2.f 0
 have y6:=y2.f 1
 have hz9:=hide (zb_zn y2 (hzq.below kc) sq aq lq cq)
 have hk9:=hide (((grow_step kc kk.out).setCell (p:=⟨r,0,none⟩) hr (.bool sq)).setCell (p:=⟨r,1,none⟩) hr (.slice aq lq cq))
 clear ka kb kc
 go_wp2
 refine bodyPost_ret (results_cell_row rfl _ _ r 26 _ (0,0) _ rfl (zb_fin y2 sq aq lq cq) Tryz.underlying26 rfl k_f) rfl ?_
 exact⟨sq,aq,lq,cq,by simp,hz9.out,hk9.out,by omega⟩
theorem remainder_n (h1:Zm w s1 a1 l1 c1 z1)(h2:Zm w s2 a2 l2 c2 z2)(hl1:l1≤1099511627776)(hl2:l2≤1099511627776)(hz:0<z2):
  Calls Tryz.prog 117 #[.agg #[.bool s1,.slice a1 l1 c1],.agg #[.bool s2,.slice a2 l2 c2]] w fun e w'=> ∃s a l c,e= .returned (.agg #[.bool s,.slice a l c])∧Zn w' s a l c (z1%z2)∧Below w.heap.size w w'∧l≤l2:=by
 go_enter Tryz.func117,Tryz.ntmps117
 go_wp2_with fail
 have y:=zb_new ((w.alloc (.cells #[.bool s1,.slice a1 l1 c1] 26)).alloc (.cells #[.bool s2,.slice a2 l2 c2] 26)) false none 0 0
 have b0:Below w.heap.size w (((w.alloc (.cells #[.bool s1,.slice a1 l1 c1] 26)).alloc (.cells #[.bool s2,.slice a2 l2 c2] 26)).alloc (.cells #[.bool false,.slice none 0 0] 26)):=below_alloc' (below_alloc' (below_alloc _ _) _) _
 rw[show((w.alloc (.cells #[.bool s1,.slice a1 l1 c1] 26)).alloc (.cells #[.bool s2,.slice a2 l2 c2] 26)).heap.size=w.heap.size+1+1 from by simp]at y
 generalize ((w.alloc (.cells #[.bool s1,.slice a1 l1 c1] 26)).alloc (.cells #[.bool s2,.slice a2 l2 c2] 26)).alloc (.cells #[.bool false,.slice none 0 0] 26)=wb at*
 have hr:w.heap.size≤w.heap.size+1+1:=by omega
 generalize w.heap.size+1+1=r at*
 refine(zdivmod_n (h1.below b0) (h2.below b0) hl1 hl2 o_m).mono ?_
 rintro e w1 ⟨sq,aq,lq,cq,sr,ar,lr,cr,qv,rv,rfl,hzq,hzr,hFD,k1,hlq,hlr⟩
 have hval:qv=z1 / z2∧rv=z1%z2:=fd_div hFD hz
 obtain⟨rfl,rfl⟩:=hval
 have kk:=hide (grow_step k1 b0)
 have y1:=y.below k1
 clear k1 b0 y h1 h2
 have ka:=below_alloc w1 (.cells #[.bool sq,.slice aq lq cq] 26)
 have kb:=below_alloc (w1.alloc (.cells #[.bool sq,.slice aq lq cq] 26)) (.cells #[.bool sr,.slice ar lr cr] 26)
 have kc:=grow_step kb ka
 have y2:=y1.below kc
 have y3:=y2.c0
 have y4:=y2.c1
 have y5:=y2.f 0
 have y6:=y2.f 1
 have hz9:=hide (zb_zn y2 (hzr.below kc) sr ar lr cr)
 have hk9:=hide (((grow_step kc kk.out).setCell (p:=⟨r,0,none⟩) hr (.bool sr)).setCell (p:=⟨r,1,none⟩) hr (.slice ar lr cr))
 clear ka kb kc
 go_wp2
 refine bodyPost_ret (results_cell_row rfl _ _ r 26 _ (0,0) _ rfl (zb_fin y2 sr ar lr cr) Tryz.underlying26 rfl k_f) rfl ?_
 exact⟨sr,ar,lr,cr,by simp,hz9.out,hk9.out,by omega⟩
theorem divides_n (h1:Zm w s1 a1 l1 c1 z1)(h2:Zm w s2 a2 l2 c2 z2)(hl1:l1≤1099511627776)(hl2:l2≤1099511627776)(hz:0<z1):
  Calls Tryz.prog 77 #[.agg #[.bool s1,.slice a1 l1 c1],.agg #[.bool s2,.slice a2 l2 c2]] w fun e w'=>e= .returned (.bool (decide (z1∣z2)))∧Below w.heap.size w w':=by
 go_enter Tryz.func77,Tryz.ntmps77
 go_wp2_with fail
 have b0:Below w.heap.size w ((w.alloc (.cells #[.bool s1,.slice a1 l1 c1] 26)).alloc (.cells #[.bool s2,.slice a2 l2 c2] 26)):=below_alloc' (below_alloc _ _) _
 refine(remainder_n (h2.below b0) (h1.below b0) hl2 hl1 hz).mono ?_
 rintro e w1 ⟨s,a,l,c,rfl,hr,k1,hl⟩
 have kk:=hide (grow_step k1 b0)
 clear k1 b0
 go_wp2_with fail
 refine(zsign_n hr.zm o_m).mono ?_
 rintro e w2 ⟨rfl,k2⟩
 have kk2:=hide (grow_step k2 kk.out)
 clear k2 kk
 have hiff:(cmpI (z2%z1) 0=0)↔z1∣z2:=by
  rw[Int.dvd_iff_emod_eq_zero]
  unfold cmpI
  split <;> (try split) <;> omega
 have hd:Hid (decide (z1∣z2)=decide (cmpI (z2%z1) 0=0)):=(show _=_ from decide_eq_decide.2 hiff.symm)
 generalize cmpI (z2%z1) 0=cz at*
 go_wp2
 go_ret
 exact⟨ret_bool hd.out.symm,kk2.out⟩
theorem truth_n {b:Bool}:
  Calls Tryz.prog 125 #[.bool b] w fun e w'=>e= .returned (.agg #[.int .i64 (if b then 1 else 0),.bool false,.slice none 0 0,.slice none 0 0,.bool false,.slice none 0 0])∧Below w.heap.size w w':=by
 go_enter Tryz.func125,Tryz.ntmps125
 have kb: ∀v,Hid (Below w.heap.size w (w.alloc (.cells #[.int .i64 v,.bool false,.slice none 0 0,.slice none 0 0,.bool false,.slice none 0 0] 57))):=fun _=>below_alloc w _
 have hn: ∀v,Hid ((w.alloc (.cells #[.int .i64 v,.bool false,.slice none 0 0,.slice none 0 0,.bool false,.slice none 0 0] 57)).heap[w.heap.size]? =some (.cells #[.int .i64 v,.bool false,.slice none 0 0,.slice none 0 0,.bool false,.slice none 0 0] 57 (0,0))):=fun _=>heap_alloc_new w _
 replace hn:=hide hn
 replace kb:=hide kb
 cases b
 ·go_wp2
  refine bodyPost_ret (results_cell_row rfl _ _ w.heap.size 57 _ (0,0) _ rfl (hn.out 0).out Tryz.underlying57 rfl k_f) rfl ?_
  exact⟨by simp,(kb.out 0).out⟩
 go_wp2
 refine bodyPost_ret (results_cell_row rfl _ _ w.heap.size 57 _ (0,0) _ rfl (hn.out 1).out Tryz.underlying57 rfl k_f) rfl ?_
 exact⟨by simp,(kb.out 1).out⟩
end Go.Proofs.YtbgpddlcfiiiaaaGreatDoor
