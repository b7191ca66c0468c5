/-
 Layer 8: text: what a node is,as a text.
-/
import Derived.Test.YtbgpddlcfiiiaaaGreatDoorSbmT
import Derived.Test.YtbgpddlcfiiiaaaGreatDoorSbm16
import Derived.Test.YtbgpddlcfiiiaaaGreatDoorSbm22
import Derived.Lib.SlBytesRow
import Derived.Lib.FrozenHead
import Derived.Lib.SmallJoins
namespace Go.Proofs.YtbgpddlcfiiiaaaGreatDoor
open Go.RowKit Go.Sort Go.Shelf
namespace Nt

def NB (w:World)(r:Nat)(kd:Int)(s:Bool)(a:Option Addr)(l c:Nat)(ad:Option Addr)(n cp:Nat)(t:Bool)(b:Option Addr)(m d:Nat)(vr:Int)(ka:Option Addr)(kn kc:Nat):Prop:=
 w.heap[r]? =some (.cells #[.int .i64 kd,.bool s,.slice a l c,.slice ad n cp,.bool t,.slice b m d,.int .i64 vr,.slice ka kn kc] 69 (0,0))
namespace NB
variable {w w':World}{r:Nat}{kd:Int}{s:Bool}{a:Option Addr}{l c:Nat}{ad:Option Addr}{n cp:Nat}{t:Bool}{b:Option Addr}{m d:Nat}{vr:Int}{ka:Option Addr}{kn kc:Nat}
theorem lt (h:NB w r kd s a l c ad n cp t b m d vr ka kn kc):r<w.heap.size:=(Array.getElem?_eq_some_iff.1 h).1
theorem c0 (h:NB w r kd s a l c ad n cp t b m d vr ka kn kc):w.cell? ⟨r,0,none⟩=some (.int .i64 kd):=cell_of_row w r 0 _ _ (0,0) h
theorem c1 (h:NB w r kd s a l c ad n cp t b m d vr ka kn kc):w.cell? ⟨r,1,none⟩=some (.bool s):=cell_of_row w r 1 _ _ (0,0) h
theorem c2 (h:NB w r kd s a l c ad n cp t b m d vr ka kn kc):w.cell? ⟨r,2,none⟩=some (.slice a l c):=cell_of_row w r 2 _ _ (0,0) h
theorem c3 (h:NB w r kd s a l c ad n cp t b m d vr ka kn kc):w.cell? ⟨r,3,none⟩=some (.slice ad n cp):=cell_of_row w r 3 _ _ (0,0) h
theorem c4 (h:NB w r kd s a l c ad n cp t b m d vr ka kn kc):w.cell? ⟨r,4,none⟩=some (.bool t):=cell_of_row w r 4 _ _ (0,0) h
theorem c5 (h:NB w r kd s a l c ad n cp t b m d vr ka kn kc):w.cell? ⟨r,5,none⟩=some (.slice b m d):=cell_of_row w r 5 _ _ (0,0) h
theorem c6 (h:NB w r kd s a l c ad n cp t b m d vr ka kn kc):w.cell? ⟨r,6,none⟩=some (.int .i64 vr):=cell_of_row w r 6 _ _ (0,0) h
theorem c7 (h:NB w r kd s a l c ad n cp t b m d vr ka kn kc):w.cell? ⟨r,7,none⟩=some (.slice ka kn kc):=cell_of_row w r 7 _ _ (0,0) h
theorem f (h:NB w r kd s a l c ad n cp t b m d vr ka kn kc)(i:Nat):w.frozen? ⟨r,i,none⟩=false:=frozen_of_row w r i _ _ h
theorem below (h:NB w r kd s a l c ad n cp t b m d vr ka kn kc)(hb:Below w.heap.size w w'):NB w' r kd s a l c ad n cp t b m d vr ka kn kc:=(hb.block r h.lt).trans h
theorem new (w:World)(kd:Int)(s:Bool)(a:Option Addr)(l c:Nat)(ad:Option Addr)(n cp:Nat)(t:Bool)(b:Option Addr)(m d:Nat)(vr:Int)(ka:Option Addr)(kn kc:Nat):NB (w.alloc (.cells #[.int .i64 kd,.bool s,.slice a l c,.slice ad n cp,.bool t,.slice b m d,.int .i64 vr,.slice ka kn kc] 69)) w.heap.size kd s a l c ad n cp t b m d vr ka kn kc:=heap_alloc_new w _
end NB
def IL (w:World)(ad:Option Addr)(n:Nat)(l:List Int):Prop:=
 l.length=n∧(n=0∨ ∃b off,ad=some ⟨b,off,none⟩∧b<w.heap.size∧∀i (h:i<l.length),w.cell? ⟨b,off+i,none⟩=some (.int .i64 l[i])∧I64 l[i])
theorem IL.below {w w':World}{ad:Option Addr}{n:Nat}{l:List Int}(h:IL w ad n l)(hb:Below w.heap.size w w'):IL w' ad n l:=by
 obtain⟨h1,h2⟩:=h
 refine⟨h1,?_⟩
 rcases h2 with h2|⟨b,off,h2,h3,h4⟩
 ·exact .inl h2
 exact .inr ⟨b,off,h2,Nat.lt_of_lt_of_le h3 hb.size,fun i hi=>⟨(hb.cell (p:=⟨b,off+i,none⟩) h3).trans (h4 i hi).1,(h4 i hi).2⟩⟩

theorem run_byte {w0 wr:World}{v:Value}{l:List UInt8}(c:UInt8)(ty:TypeId)(k0:Below w0.heap.size w0 wr)(hb:Buf w0.heap.size wr v l)(hl:l.length≤70368744177664):
  ∃v' w',(Builtin.append_ #[129,129] ty #[v,.slice (some ⟨wr.heap.size,0,none⟩) 1 1]).run Tryz.prog (wr.alloc (.cells #[.int .u8 c.toNat] 5))= .ok v' w'∧(Buf w0.heap.size w' v' (l++ [c])∧Below w0.heap.size w0 w'∧Lib.OthersKept 5 none wr w'):=by
 obtain⟨i0,hi,hz0,hz1,hz2⟩:=info_parts infoB
 have hbs:=k0.size
 obtain⟨v',w4,hr,hown',hgrow,-⟩:=run_append_own_at (P:=Tryz.prog) (wr.alloc (.cells #[.int .u8 c.toNat] 5)) w0.heap.size 129 ty 5 i0 _ 1 1 Tryz.underlying129 hi hz0 hz1 hz2 rfl (by decide) v l.length _ (hb.alloc _) ⟨wr.heap.size,0,none⟩ 1 1 [.int .u8 c.toNat] rfl (by simpa using cell_one_new wr (.int .u8 c.toNat) 5) (by simp[Value.oneCell']) (by unfold maxLen;omega) o_m (by simp;omega)
 have k4:Below w0.heap.size w0 w4:=(grow_step (below_alloc wr (.cells #[.int .u8 c.toNat] 5)) k0).grown hgrow (by simp;omega) (fun k e=>(World.ownsRow.lt hb k e).1)
 exact⟨v',w4,hr,buf_snoc hown' rfl,k4,buf_kept hgrow (Lib.ownsRow_kind hb)⟩
theorem wpList_byte {ops:Array Oper}{rest:List Oper}{o:Oper}{a:Act}{Q:Exit→Act→World→Prop}{wr:World}(hgd:o.guard=none)(s x:Operand)
  (ho:o.op= .call {callee:=.builtin .append,args:=#[s,x],argTypes:=#[129,129]})(w0:World)(v:Value)(l:List UInt8)(c:UInt8)
  (cv:Value)(hcv:cv= .int .u8 c.toNat)(hs:a.eval s=v)(hx:a.eval x= .slice (some ⟨wr.heap.size,0,none⟩) 1 1)(k0:Below w0.heap.size w0 wr)(hb:Buf w0.heap.size wr v l)(hl:l.length≤70368744177664)
  (h: ∀v' w',Hid (Buf w0.heap.size w' v' (l++ [c]))→Hid (Below w0.heap.size w0 w')→wpList Tryz.prog ops Q rest (a.put o.dst v') w'):
  wpList Tryz.prog ops Q (o::rest) a (wr.alloc (.cells #[cv] 5)):=by
 subst hcv
 refine wpList_plain hgd fun K hK=> ?_
 obtain⟨v',w',hr,h2,h3,-⟩:=run_byte c o.type k0 hb hl
 unfold Oper.wp execOp
 simp only[ho,resolve,invoke,builtin,Sem.run_bind,Sem.run_pure,Result.andThen_ok,List.map_toArray,List.map_cons,List.map_nil,hs,hx,hr]
 exact hK _ _ (h v' w' h2 h3)
theorem buf_string {B:Nat}{w:World}{v:Value}{l:List UInt8}(h:Buf B w v l)(h0:0<l.length):(convert 129 9 v).run Tryz.prog w= .ok (.string ⟨l.toArray⟩) w:=by
 obtain⟨g,cap,rfl⟩:=Joins.ownsRow_form h h0
 have hc:=(World.ownsRowF_of h).cells (g:=g) rfl
 have hs:l.length=(⟨l.toArray⟩:ByteArray).size:=(size_list l).symm
 rw[hs]
 refine Lib.run_convert_whole w 129 5 9 Tryz.underlying129 Tryz.underlying5 Tryz.underlying9 g 0 ⟨l.toArray⟩ (fun i hi=> ?_) cap
 have h1:=hc i (.int .u8 (l[i]'(by rw[hs];exact hi)).toNat) (by
  unfold Lib.byteCells
  rw[List.getElem?_map,List.getElem?_eq_getElem (by rw[hs];exact hi)]
  rfl)
 have h2:((⟨g,0,none⟩:Addr).add i)=⟨g,0+i,none⟩:=by
  unfold Addr.add
  split
  ·next h=>subst h;rfl
  rfl
 rw[h2]at h1
 exact h1
theorem anyH_app {P:Program}{w:World}{o:Oper}{a:Act}{K:Act→World→Prop}{Q:Exit→Act→World→Prop}{ys:Nat→Option Bool}(hgd:o.guard=none)(s x:Operand)(t:TypeId)
  (ho:o.op= .call {callee:=.builtin .append,args:=#[s,x],argTypes:=#[t,t]})(v1 v2:Value)(hs:a.eval s=v1)(hx:a.eval x=v2)(F:Value→World→Prop)
  (hr: ∃v' w',(Builtin.append_ #[t,t] o.type #[v1,v2]).run P w= .ok v' w'∧F v' w')
  (h: ∀v' w',F v' w'→K (a.put o.dst v') w'):if Region.wanted o ys=true then Oper.wp P o a w K Q else K (a.put o.dst undef) w:=by
 obtain⟨v',w',hr,hF⟩:=hr
 rw[if_pos (by simp[Region.wanted,hgd])]
 unfold Oper.wp execOp
 simp only[ho,resolve,invoke,builtin,Sem.run_bind,Sem.run_pure,Result.andThen_ok,List.map_toArray,List.map_cons,List.map_nil,hs,hx,hr]
 exact h v' w' hF
theorem nb_S {wb w':World}{p:Nat}{kd:Int}{s:Bool}{a:Option Addr}{l c:Nat}{ad:Option Addr}{n cp:Nat}{t:Bool}{b:Option Addr}{m d:Nat}{vr:Int}{ka:Option Addr}{kn kc:Nat}(y:NB wb p kd s a l c ad n cp t b m d vr ka kn kc)(k:Below wb.heap.size wb w'):
  w'.cell? ⟨p,1,none⟩=some (.bool s)∧w'.cell? ⟨p,2,none⟩=some (.slice a l c)∧w'.cell? ⟨p,4,none⟩=some (.bool t)∧w'.cell? ⟨p,5,none⟩=some (.slice b m d)∧w'.cell? ⟨p,6,none⟩=some (.int .i64 vr)∧Below wb.heap.size wb w':=
 ⟨(y.below k).c1,(y.below k).c2,(y.below k).c4,(y.below k).c5,(y.below k).c6,k⟩
theorem itoa_length {i:Int}(h:I64 i):(Lib.itoa i).length≤20:=by
 unfold Lib.itoa
 have h1:=h.1
 have h2:=h.2
 split
 ·have:=dec_length_le 19 i.natAbs o_m (by decide)
  simp
  omega
 have:=dec_length_le 19 i.toNat o_m (by decide)
 omega
theorem canon_limbs {xs:List Int}(h:Canon xs):xs.map Int.toNat=limbs (val xs).toNat:=by
 induction xs with
 |nil=>
  rw[limbs_def]
  rw[dif_pos (by rfl)]
  rfl
 |cons x l ih=>
  have hx:=h.1 x (by simp)
  have hl:Limbs l:=fun z hz=>h.1 z (by simp[hz])
  have hcl:Canon l:=by
   refine⟨hl,fun hp=> ?_⟩
   have h2:=h.2 (by simp)
   have e:lz (x::l) ((x::l).length-1)=lz l (l.length-1):=by
    unfold lz
    cases l with
    |nil=>simp at hp
    |cons y r=>simp[List.getD]
   rwa [e]at h2
  have hv:=val_cons x l
  have hn0:val (x::l)≠0:=fun e=>by
   have:=(canon_zero h).1 e
   cases this
  have hl0:=val_nonneg hl
  have hn1:(val (x::l)).toNat≠0:=by omega
  rw[limbs_def]
  rw[dif_neg hn1,List.map_cons,ih hcl]
  congr 1
  ·omega
  congr 1
  omega
theorem zn_text {w:World}{s:Bool}{a:Option Addr}{l c:Nat}{z:Int}(h:Zn w s a l c z): ∃xs,Rd w a l c xs∧(if s then [45]else [])++lmT (xs.map Int.toNat)=intT z:=by
 obtain⟨n,⟨xs,h1,h2,rfl⟩,rfl,h3⟩:=h
 refine⟨xs,h1,?_⟩
 have h0:=val_nonneg h2.1
 rw[canon_limbs h2]
 unfold intT sg
 cases s with
 |true=>
  have:=h3 rfl
  simp only[if_true]
  rw[if_pos o_m]
  congr 3
  omega
 |false=>
  simp only[Bool.false_eq_true,if_false]
  rw[if_neg o_m]
  congr 3
  omega
def PB (w:World)(q:Nat)(v:Int)(s:Bool)(a:Option Addr)(l c:Nat):Prop:=w.heap[q]? =some (.cells #[.int .i64 v,.bool s,.slice a l c] 117 (0,0))
namespace PB
variable {w w':World}{q:Nat}{v:Int}{s:Bool}{a:Option Addr}{l c:Nat}
theorem lt (h:PB w q v s a l c):q<w.heap.size:=(Array.getElem?_eq_some_iff.1 h).1
theorem c0 (h:PB w q v s a l c):w.cell? ⟨q,0,none⟩=some (.int .i64 v):=cell_of_row w q 0 _ _ (0,0) h
theorem c1 (h:PB w q v s a l c):w.cell? ⟨q,1,none⟩=some (.bool s):=cell_of_row w q 1 _ _ (0,0) h
theorem c2 (h:PB w q v s a l c):w.cell? ⟨q,2,none⟩=some (.slice a l c):=cell_of_row w q 2 _ _ (0,0) h
theorem below (h:PB w q v s a l c)(hb:Below w.heap.size w w'):PB w' q v s a l c:=(hb.block q h.lt).trans h
theorem ok (h:PB w q v s a l c)(o:Lib.OthersKept 5 none w w'):PB w' q v s a l c:=o q _ h (by simp) (fun c fz e=>by injection e with e1 e2 e3;exact absurd e2 (by decide))
end PB
theorem pb_S {wb w':World}{q:Nat}{v:Int}{s:Bool}{a:Option Addr}{l c:Nat}(h:PB w' q v s a l c)(k:Below wb.heap.size wb w'):w'.cell? ⟨q,0,none⟩=some (.int .i64 v)∧PB w' q v s a l c∧Below wb.heap.size wb w':=⟨h.c0,h,k⟩
theorem intT_length {w:World}{s:Bool}{a:Option Addr}{l c:Nat}{z:Int}(h:Zn w s a l c z):(intT z).length≤11*l+1:=by
 obtain⟨xs,h1,h2⟩:=zn_text h
 have h3:=lmT_length (xs.map Int.toNat) (fun x hx=>by
  obtain⟨y,hy,rfl⟩:=List.mem_map.1 hx
  have:=h1.2.2.2.1 y hy
  omega)
 rw[List.length_map,h1.1]at h3
 rw[←h2,List.length_append]
 split
 ·simp
  omega
 simp
 omega
theorem kdT_snoc (l:List Int)(i:Int):kdT (l++ [i])=kdT l++110::Lib.itoa i:=by simp[kdT]
theorem psT_snoc (l:List (Int × Int))(q:Int × Int):psT (l++ [q])=psT l++112::(Lib.itoa q.1++intT q.2):=by simp[psT]
theorem psT_length {w:World}{ap:Option Addr}{np:Nat}{ps:List (Int × Int)}{B:Nat}(h:Pn w ap np ps B)(t:Nat)(ht:t≤np):(psT (ps.take t)).length≤t*(11*B+22):=by
 have h1:=h.1
 induction t with
 |zero=>simp[psT]
 |succ t ih=>
  have h2:=ih o_m
  rcases h.2 with h|⟨bp,op,rfl,hbp,hP2⟩
  ·omega
  obtain⟨s2,a2,l2,c2,e0,e1,e2,hz2,hl2,hv2⟩:=hP2 t o_m
  have h3:=itoa_length hv2
  have h4:=intT_length hz2
  rw[List.take_succ_eq_append_getElem (l:=ps) (i:=t) o_m,psT_snoc,List.length_append,List.length_cons,List.length_append,Nat.succ_mul]
  omega

theorem kdT_length {w:World}{ka:Option Addr}{kn:Nat}{kids:List Int}(h:IL w ka kn kids)(t:Nat)(ht:t≤kn):(kdT (kids.take t)).length≤t*21:=by
 have h1:=h.1
 induction t with
 |zero=>simp[kdT]
 |succ t ih=>
  have h2:=ih o_m
  rcases h.2 with h|⟨bp,op,rfl,hbp,hP2⟩
  ·omega
  have h3:=itoa_length (hP2 t o_m).2
  rw[List.take_succ_eq_append_getElem (l:=kids) (i:=t) o_m,kdT_snoc,List.length_append,List.length_cons,Nat.succ_mul]
  omega

set_option maxRecDepth 100000 in
set_option maxHeartbeats 1600000 in
theorem text_n {w:World}{kd:Int}{sd:Bool}{ad:Option Addr}{ld cd:Nat}{ap:Option Addr}{np cp:Nat}{sk:Bool}{ak:Option Addr}{lk ck:Nat}{vr:Int}{ka:Option Addr}{kn kc:Nat}{d k:Int}{ps:List (Int × Int)}{kids:List Int}{B:Nat}
  (hd:Zn w sd ad ld cd d)(hld:ld≤B)(hP:Pn w ap np ps B)(hk:Zn w sk ak lk ck k)(hlk:lk≤B)(hK:IL w ka kn kids)(hkd:I64 kd)(hvr:I64 vr)(hn:np≤1048576)(hkn:kn≤1048576)(hB:B≤2097152)(htab:Tab w):
  Calls Tryz.prog 27 #[.agg #[.int .i64 kd,.bool sd,.slice ad ld cd,.slice ap np cp,.bool sk,.slice ak lk ck,.int .i64 vr,.slice ka kn kc]] w fun e w'=>e= .returned (.string ⟨(txt ⟨kd,d,ps,k,vr,kids⟩).toArray⟩)∧Below w.heap.size w w':=by
 go_enter Tryz.func27,Tryz.ntmps27
 have y:=NB.new w kd sd ad ld cd ap np cp sk ak lk ck vr ka kn kc
 have b0:=below_alloc w (.cells #[.int .i64 kd,.bool sd,.slice ad ld cd,.slice ap np cp,.bool sk,.slice ak lk ck,.int .i64 vr,.slice ka kn kc] 69)
 have u0:=y.c0
 go_wp2_with fail
 clear u0
 generalize w.alloc (.cells #[.int .i64 kd,.bool sd,.slice ad ld cd,.slice ap np cp,.bool sk,.slice ak lk ck,.int .i64 vr,.slice ka kn kc] 69)=wb at*
 generalize hp:w.heap.size=p at*
 replace b0:Hid (Below w.heap.size w wb):=hp▸b0
 replace hd:=hd.below b0.out
 replace hP:=hP.below b0.out
 replace hk:=hk.below b0.out
 replace hK:=hK.below b0.out
 replace htab:=htab.below b0.out
 clear hp
 refine(appInt_n (Below.refl _ _) (buf_nil _ _) hkd (by simp) htab).mono ?_
 rintro e w1 ⟨v1,rfl,hb1,k1,-⟩
 rw[List.nil_append]at hb1
 have hl1:=itoa_length hkd
 obtain⟨xd,hxd,hxt⟩:=zn_text hd
 have hdl:=intT_length hd
 replace hxd:=hide hxd
 replace hxt:=hide hxt
 generalize hLg1:Lib.itoa kd=L1 at*
 replace hLg1:=hide hLg1
 go_wp2_with fail
 refine wp_region_held_drew (S:=(fun w'=>w'.cell? ⟨p,1,none⟩=some (.bool sd)∧w'.cell? ⟨p,2,none⟩=some (.slice ad ld cd)∧w'.cell? ⟨p,4,none⟩=some (.bool sk)∧w'.cell? ⟨p,5,none⟩=some (.slice ak lk ck)∧w'.cell? ⟨p,6,none⟩=some (.int .i64 vr)∧Below wb.heap.size wb w')) k_f (nb_S y (grow_drew k1)) (fun hHeld=> ?_)
 show wpAnyH _ _ _ _ _ 7 _ _ _
 refine tkz 0 11 ?_
 (try simp only[pz])
 refine tkz 3 14 ?_
 (try simp only[pz])
 refine tkz 4 15 ?_
 (try simp only[pz])
 refine ryz 1 (some 12) (fun K hK=> ?_) AllReadyH.nil
 go_simp
 refine hK.out _ _ ?_ ?_
 ·(try dsimp only);exact nb_S y (grow_alloc (grow_drew k1) _)
 clear hK K hHeld;intro hHeld
 (try simp only[pz])
 refine ryz 2 (some 13) (fun K hK=> ?_) AllReadyH.nil
 refine anyH_app rfl _ _ 129 rfl _ _ rfl rfl _ (run_byte (w0:=wb) (l:=L1) 100 _ (grow_drew k1) hb1 o_m) ?_
 rintro v2 w2 ⟨hb2,k2,o2⟩
 refine hK.out _ _ ?_ ?_
 ·(try dsimp only);exact nb_S y k2
 clear hK K hHeld;intro hHeld
 (try simp only[pz])
 refine ryz 5 (some 16) (fun K hK=> ?_) AllReadyH.nil
 go_simp
 refine Calls.mono (appendInt_n k2 hb2 hxd.out o_m (by simp;omega) htab) ?_
 rintro e w3 ⟨v3,rfl,hb3,k3,-⟩
 rw[hxt.out]at hb3
 replace k3:=k2.trans k3
 (try go_wp2_with fail)
 refine hK.out _ _ ?_ ?_
 ·(try dsimp only);exact nb_S y k3
 clear hK K hHeld;intro hHeld
 (try simp only[pz])
 refine ryz 6 (some 3) (fun K hK=> ?_) AllReadyH.nil
 go_simp
 refine hK.out _ _ ?_ ?_
 ·(try dsimp only);exact nb_S y k3
 clear hK K hHeld;intro hHeld
 (try simp only[pz])
 refine wpAnyH_done k_f ?_ _
 replace k3:=hide k3
 replace hb3:=hide hb3
 clear hHeld k1 hb1 hb2 k2 o2
 have u3:=(y.below k3.out).c3
 go_wp2_with fail
 clear u3
 have hL3:(L1++ [100]++intT d).length≤23068694:=by simp;omega
 generalize hLg3:L1++ [100]++intT d=L3 at*
 replace hLg3:=hide hLg3
 clear hxt hxd hdl hl1
 go_loopw [3,21] (fun vv i wr=> ∃t:Nat,t≤np∧i= .int .i64 t∧Hid (Buf wb.heap.size wr vv (L3++psT (ps.take t)))∧Hid (Below wb.heap.size wb wr)) (fun _ i _=>np-(intOf i).toNat)
 case atStart=>exact⟨0,Nat.zero_le _,rfl,(by show Buf _ _ _ _;simpa [psT] using hb3.out),k3⟩
 case round=>
  obtain⟨t,ht,rfl,hrow,kr⟩:=hrel
  have hps:=hP.1
  by_cases htn:t<np
  ·have hlen:Hid ((L3++psT (ps.take t)).length≤24236017254999):=hide (by
    have h1:=psT_length hP t o_m
    have h2:t*(11*B+22)≤1048576*(11*2097152+22):=Nat.mul_le_mul o_m o_m
    rw[List.length_append]
    omega)
   rcases hP.2 with h|⟨bp,op,rfl,hbp,hP2⟩
   ·omega
   obtain⟨s2,a2,l2,c2,e0,e1,e2,hz2,hl2,hv2⟩:=hP2 t o_m
   obtain⟨x2,hx2,hxt2⟩:=zn_text hz2
   have hdl2:=intT_length hz2
   replace e0:=((kr.out).cell (p:=⟨bp,op+t*3,none⟩) hbp).trans e0
   replace e1:=((kr.out).cell (p:=⟨bp,op+t*3+1,none⟩) hbp).trans e1
   replace e2:=((kr.out).cell (p:=⟨bp,op+t*3+2,none⟩) hbp).trans e2
   have htk:Hid (psT (ps.take (t+1))=psT (ps.take t)++112::(Lib.itoa (ps[t]).1++intT (ps[t]).2)):=hide (by
    rw[List.take_succ_eq_append_getElem (l:=ps) (i:=t) o_m,psT_snoc])
   have hil:=itoa_length hv2
   clear hP2
   generalize ps[t]=pp at*
   generalize hLg:L3++psT (ps.take t)=Lt at*
   replace hLg:=hide hLg
   replace hx2:=hide hx2
   replace hxt2:=hide hxt2
   replace hz2:=hide hz2
   have hq:PB (wr.alloc (.cells #[.int .i64 pp.1,.bool s2,.slice a2 l2 c2] 117)) wr.heap.size pp.1 s2 a2 l2 c2:=heap_alloc_new wr (.cells #[.int .i64 pp.1,.bool s2,.slice a2 l2 c2] 117)
   have kq:=grow_alloc kr.out (.cells #[.int .i64 pp.1,.bool s2,.slice a2 l2 c2] 117)
   have hbq:=hrow.out.alloc (.cells #[.int .i64 pp.1,.bool s2,.slice a2 l2 c2] 117)
   replace hq:=hide hq
   replace kq:=hide kq
   replace hbq:=hide hbq
   have hl2x:=hlen.out
   go_wp2_with fail
   clear e0 e1 e2
   replace hq:=hq.out
   replace kq:=kq.out
   replace hbq:=hbq.out
   generalize wr.alloc (.cells #[.int .i64 pp.1,.bool s2,.slice a2 l2 c2] 117)=wq at*
   generalize wr.heap.size=q at*
   refine wp_region_held_drew (S:=(fun w'=>w'.cell? ⟨q,0,none⟩=some (.int .i64 pp.1)∧PB w' q pp.1 s2 a2 l2 c2∧Below wb.heap.size wb w')) k_f (pb_S hq (grow_drew kq)) (fun hHeld=> ?_)
   show wpAnyH _ _ _ _ _ 7 _ _ _
   refine tkz 0 25 ?_
   (try simp only[pz])
   refine tkz 3 28 ?_
   (try simp only[pz])
   refine tkz 4 29 ?_
   (try simp only[pz])
   refine ryz 1 (some 26) (fun K hK=> ?_) AllReadyH.nil
   go_simp
   refine hK.out _ _ ?_ ?_
   ·(try dsimp only);exact pb_S (hq.below (grow_alloc (grow_drew (Below.refl _ _)) _)) (grow_alloc (grow_drew kq) _)
   clear hK K hHeld;intro hHeld
   (try simp only[pz])
   refine ryz 2 (some 27) (fun K hK=> ?_) AllReadyH.nil
   refine anyH_app rfl _ _ 129 rfl _ _ rfl rfl _ (run_byte (w0:=wb) (l:=Lt) 112 _ (grow_drew kq) hbq o_m) ?_
   rintro v2 w2 ⟨hb2,k2,o2⟩
   have hq2:=hq.ok o2
   refine hK.out _ _ ?_ ?_
   ·(try dsimp only);exact pb_S hq2 k2
   clear hK K hHeld;intro hHeld
   (try simp only[pz])
   refine ryz 5 (some 30) (fun K hK=> ?_) AllReadyH.nil
   go_simp
   refine Calls.mono (appInt_n k2 hb2 hv2 (by simp;omega) htab) ?_
   rintro e w4 ⟨v4,rfl,hb4,k4,o4⟩
   have k3:=k2.trans k4
   have hq3:=hq2.ok o4
   (try go_wp2_with fail)
   refine hK.out _ _ ?_ ?_
   ·(try dsimp only);exact pb_S hq3 k3
   clear hK K hHeld;intro hHeld
   (try simp only[pz])
   refine ryz 6 (some 3) (fun K hK=> ?_) AllReadyH.nil
   go_simp
   refine hK.out _ _ ?_ ?_
   ·(try dsimp only);exact pb_S hq3 k3
   clear hK K hHeld;intro hHeld
   (try simp only[pz])
   refine wpAnyH_done k_f ?_ _
   have u1:=hq3.c1
   have u2:=hq3.c2
   replace k3:=hide k3
   replace hb4:=hide hb4
   clear hHeld hb2 k2 o2 hq2 hq3 hq kq hbq k4 o4
   go_wp2_with fail
   clear u1 u2
   refine(appendInt_n k3.out hb4.out hx2.out o_m (by simp;omega) htab).mono ?_
   rintro e w5 ⟨v5,rfl,hb5,k5,-⟩
   rw[hxt2.out]at hb5
   have hfin:Hid (Buf wb.heap.size w5 v5 (L3++psT (ps.take (t+1)))):=hide (by
    rw[htk.out,←List.append_assoc,hLg.out]
    simpa using hb5)
   have kfin:=hide (k3.out.trans k5)
   clear hb5 k5 hb4 k3
   go_wp2
   exact⟨⟨t+1,by omega,by go_num,hfin,kfin⟩,by simp[intOf];omega⟩
  obtain rfl:t=np:=by omega
  have hlen:Hid ((L3++psT ps).length≤24236017254999):=hide (by
   have h1:=psT_length hP t (Nat.le_refl _)
   have h2:t*(11*B+22)≤1048576*(11*2097152+22):=Nat.mul_le_mul o_m o_m
   rw[List.take_of_length_le (Nat.le_of_eq hps)]at h1
   rw[List.length_append]
   omega)
  rw[List.take_of_length_le (Nat.le_of_eq hps)]at hrow
  clear hP hb3 k3
  generalize hLg4:L3++psT ps=L4 at*
  replace hLg4:=hide hLg4
  have hl4:=hlen.out
  obtain⟨xk,hxk,hxt⟩:=zn_text hk
  have hdl:=intT_length hk
  replace hxk:=hide hxk
  replace hxt:=hide hxt
  replace hrow:=hrow.out
  replace kr:=kr.out
  go_wp2_with fail
  refine wp_region_held_drew (S:=(fun w'=>w'.cell? ⟨p,1,none⟩=some (.bool sd)∧w'.cell? ⟨p,2,none⟩=some (.slice ad ld cd)∧w'.cell? ⟨p,4,none⟩=some (.bool sk)∧w'.cell? ⟨p,5,none⟩=some (.slice ak lk ck)∧w'.cell? ⟨p,6,none⟩=some (.int .i64 vr)∧Below wb.heap.size wb w')) k_f (nb_S y (grow_drew kr)) (fun hHeld=> ?_)
  show wpAnyH _ _ _ _ _ 8 _ _ _
  refine tkz 0 36 ?_
  (try simp only[pz])
  refine tkz 3 39 ?_
  (try simp only[pz])
  refine tkz 4 40 ?_
  (try simp only[pz])
  refine tkz 5 41 ?_
  (try simp only[pz])
  refine ryz 1 (some 37) (fun K hK=> ?_) AllReadyH.nil
  go_simp
  refine hK.out _ _ ?_ ?_
  ·(try dsimp only);exact nb_S y (grow_alloc (grow_drew kr) _)
  clear hK K hHeld;intro hHeld
  (try simp only[pz])
  refine ryz 2 (some 38) (fun K hK=> ?_) AllReadyH.nil
  refine anyH_app rfl _ _ 129 rfl _ _ rfl rfl _ (run_byte (w0:=wb) (l:=L4) 107 _ (grow_drew kr) hrow o_m) ?_
  rintro v2 w2 ⟨hb2,k2,o2⟩
  refine hK.out _ _ ?_ ?_
  ·(try dsimp only);exact nb_S y k2
  clear hK K hHeld;intro hHeld
  (try simp only[pz])
  refine ryz 6 (some 42) (fun K hK=> ?_) AllReadyH.nil
  go_simp
  refine Calls.mono (appendInt_n k2 hb2 hxk.out o_m (by simp;omega) htab) ?_
  rintro e w5 ⟨v5,rfl,hb5,k3,-⟩
  rw[hxt.out]at hb5
  replace k3:=k2.trans k3
  (try go_wp2_with fail)
  refine hK.out _ _ ?_ ?_
  ·(try dsimp only);exact nb_S y k3
  clear hK K hHeld;intro hHeld
  (try simp only[pz])
  refine ryz 7 (some 3) (fun K hK=> ?_) AllReadyH.nil
  go_simp
  refine hK.out _ _ ?_ ?_
  ·(try dsimp only);exact nb_S y k3
  clear hK K hHeld;intro hHeld
  (try simp only[pz])
  refine wpAnyH_done k_f ?_ _
  clear hHeld hrow hb2 k2 o2 hxk hxt kr
  have hL5:(L4++ [107]++intT k).length≤24236063392359:=by simp;omega
  generalize hLg5:L4++ [107]++intT k=L5 at*
  replace hLg5:=hide hLg5
  have hil:=itoa_length hvr
  go_wp2_with fail
  refine wp_region_held_drew (S:=(fun w'=>w'.cell? ⟨p,1,none⟩=some (.bool sd)∧w'.cell? ⟨p,2,none⟩=some (.slice ad ld cd)∧w'.cell? ⟨p,4,none⟩=some (.bool sk)∧w'.cell? ⟨p,5,none⟩=some (.slice ak lk ck)∧w'.cell? ⟨p,6,none⟩=some (.int .i64 vr)∧Below wb.heap.size wb w')) k_f (nb_S y (grow_drew k3)) (fun hHeld=> ?_)
  show wpAnyH _ _ _ _ _ 7 _ _ _
  refine tkz 0 43 ?_
  (try simp only[pz])
  refine tkz 3 46 ?_
  (try simp only[pz])
  refine tkz 4 47 ?_
  (try simp only[pz])
  refine ryz 1 (some 44) (fun K hK=> ?_) AllReadyH.nil
  go_simp
  refine hK.out _ _ ?_ ?_
  ·(try dsimp only);exact nb_S y (grow_alloc (grow_drew k3) _)
  clear hK K hHeld;intro hHeld
  (try simp only[pz])
  refine ryz 2 (some 45) (fun K hK=> ?_) AllReadyH.nil
  refine anyH_app rfl _ _ 129 rfl _ _ rfl rfl _ (run_byte (w0:=wb) (l:=L5) 118 _ (grow_drew k3) hb5 o_m) ?_
  rintro v2 w2 ⟨hb2,k2,o2⟩
  refine hK.out _ _ ?_ ?_
  ·(try dsimp only);exact nb_S y k2
  clear hK K hHeld;intro hHeld
  (try simp only[pz])
  refine ryz 5 (some 48) (fun K hK=> ?_) AllReadyH.nil
  go_simp
  refine Calls.mono (appInt_n k2 hb2 hvr (by simp;omega) htab) ?_
  rintro e w6 ⟨v6,rfl,hb6,k6,-⟩
  replace k6:=k2.trans k6
  (try go_wp2_with fail)
  refine hK.out _ _ ?_ ?_
  ·(try dsimp only);exact nb_S y k6
  clear hK K hHeld;intro hHeld
  (try simp only[pz])
  refine ryz 6 (some 3) (fun K hK=> ?_) AllReadyH.nil
  go_simp
  refine hK.out _ _ ?_ ?_
  ·(try dsimp only);exact nb_S y k6
  clear hK K hHeld;intro hHeld
  (try simp only[pz])
  refine wpAnyH_done k_f ?_ _
  clear hHeld hb5 hb2 k2 o2 k3
  have hL6:(L5++ [118]++Lib.itoa vr).length≤24236063392380:=by simp;omega
  generalize hLg6:L5++ [118]++Lib.itoa vr=L6 at*
  replace hLg6:=hide hLg6
  have u7:=(y.below k6).c7
  replace hb6:=hide hb6
  replace k6:=hide k6
  go_wp2_with fail
  clear u7
  go_loopw [3,52] (fun vv i wr=> ∃t:Nat,t≤kn∧i= .int .i64 t∧Hid (Buf wb.heap.size wr vv (L6++kdT (kids.take t)))∧Hid (Below wb.heap.size wb wr)) (fun _ i _=>kn-(intOf i).toNat)
  case atStart=>exact⟨0,Nat.zero_le _,rfl,(by show Buf _ _ _ _;simpa [kdT] using hb6.out),k6⟩
  case round=>
   obtain⟨t7,ht7,rfl,hrow7,kr7⟩:=hrel
   have hks:=hK.1
   by_cases htn7:t7<kn
   ·have hlen7:Hid ((L6++kdT (kids.take t7)).length≤24236085412476):=hide (by
     have h1:=kdT_length hK t7 o_m
     rw[List.length_append]
     omega)
    rcases hK.2 with h|⟨bp,op,rfl,hbp,hK2⟩
    ·omega
    obtain⟨e0,hv2⟩:=hK2 t7 o_m
    replace e0:=((kr7.out).cell (p:=⟨bp,op+t7,none⟩) hbp).trans e0
    have htk:Hid (kdT (kids.take (t7+1))=kdT (kids.take t7)++110::Lib.itoa kids[t7]):=hide (by
     rw[List.take_succ_eq_append_getElem (l:=kids) (i:=t7) o_m,kdT_snoc])
    have hil7:=itoa_length hv2
    clear hK2
    generalize kids[t7]=kk at*
    generalize hLg7:L6++kdT (kids.take t7)=Lt at*
    replace hLg7:=hide hLg7
    have hl7:=hlen7.out
    go_wp2_with(at_builtin;refine wpList_byte rfl _ _ rfl wb u3 Lt 110 _ rfl rfl rfl kr7.out hrow7.out o_m ?_;intro v8 w8 hb8 k8)
    refine(appInt_n k8.out hb8.out hv2 (by simp;omega) htab).mono ?_
    rintro e w9 ⟨v9,rfl,hb9,k9,-⟩
    have hfin:Hid (Buf wb.heap.size w9 v9 (L6++kdT (kids.take (t7+1)))):=hide (by
     rw[htk.out,←List.append_assoc,hLg7.out]
     simpa using hb9)
    have kfin:=hide (k8.out.trans k9)
    clear hb9 k9 hb8 k8
    go_wp2
    exact⟨⟨t7+1,by omega,by go_num,hfin,kfin⟩,by simp[intOf];omega⟩
   obtain rfl:t7=kn:=by omega
   rw[List.take_of_length_le (Nat.le_of_eq hks)]at hrow7
   replace hrow7:=hrow7.out
   have hstr:=buf_string hrow7 (by rw[←hLg6.out];simp;omega)
   have hfin:Hid ((⟨(L6++kdT kids).toArray⟩:ByteArray)=⟨(txt ⟨kd,d,ps,k,vr,kids⟩).toArray⟩):=hide (by
    rw[←hLg6.out,←hLg5.out,←hLg4.out,←hLg3.out,←hLg1.out]
    simp[txt])
   rw[hfin.out]at hstr
   go_wp2
   go_ret
   exact⟨rfl,grow_step kr7.out b0.out⟩
end Nt
end Go.Proofs.YtbgpddlcfiiiaaaGreatDoor
