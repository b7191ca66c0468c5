/-
 Several texts in one: E8,E9,EA,EB,EC,J2,J3,J4,J5,J6.
-/
import Derived.Test.YtbgpddlcfiiiaaaGreatDoorSbmT
import Derived.Test.YtbgpddlcfiiiaaaGreatDoorSbm33
import Derived.Maps.OwnSet
import Derived.Maps.Views
import Derived.Test.YtbgpddlcfiiiaaaGreatDoorSbm25
import Derived.Test.YtbgpddlcfiiiaaaGreatDoorSbm22
import Derived.Test.YtbgpddlcfiiiaaaGreatDoorSbm02
import Derived.Lib.QuietBelow
set_option maxRecDepth 100000
set_option maxHeartbeats 6400000
namespace Go.Proofs.YtbgpddlcfiiiaaaGreatDoor
open Go.RowKit Go.Sort Go.Shelf
open Tm
namespace Nt

variable {F G C:Nat→Prop}{w w':World}{B n pa pm bm:Nat}{ad:Option Addr}{ps:List (Int × Int)}{L:List Nd}{nv:Value}{D:DataW Value}
structure ButF (F:Nat→Prop) (w w':World):Prop where
  os:w'.os=w.os
  tape:w'.tape=w.tape
  output:w'.output=w.output
  size:w.heap.size≤w'.heap.size
  block: ∀i,i<w.heap.size→¬F i→w'.heap[i]? =w.heap[i]?
theorem butF_below (h:Below w.heap.size w w'):ButF F w w':=⟨h.os,h.tape,h.output,h.size,fun i hi _=>h.block i hi⟩
theorem ButF.mono (h:ButF F w w')(hF: ∀b,F b→G b):ButF G w w':=⟨h.os,h.tape,h.output,h.size,fun i hi hn=>h.block i hi fun hf=>hn (hF i hf)⟩
theorem ButF.trans {w1 w2:World}(h:ButF F w w1)(k:ButF G w1 w2)(hG: ∀b,b<w.heap.size→G b→F b):ButF F w w2:=
  ⟨k.os.trans h.os,k.tape.trans h.tape,k.output.trans h.output,Nat.le_trans h.size k.size,fun i hi hn=>(k.block i (Nat.lt_of_lt_of_le hi h.size) fun hg=>hn (hG i hi hg)).trans (h.block i hi hn)⟩
theorem ButF.below (h:ButF F w w')(hF: ∀b,F b→B≤b)(hs:B≤w.heap.size):Below B w w':=
  ⟨h.os,h.tape,h.output,h.size,fun i hi=>h.block i (Nat.lt_of_lt_of_le hi hs) fun hf=>by have:=hF i hf;omega⟩

def InF (F:Nat→Prop)(a:Option Addr)(l:Nat):Prop:=∀b off,a=some ⟨b,off,none⟩→0<l→F b
def PnF (F:Nat→Prop)(w:World)(ad:Option Addr)(n:Nat)(ps:List (Int × Int))(B:Nat):Prop:=
  ps.length=n∧(n=0∨ ∃b off,ad=some ⟨b,off,none⟩∧F b∧b<w.heap.size∧∀i (h:i<ps.length),∃s a l c,w.cell? ⟨b,off+i*3,none⟩=some (.int .i64 (ps[i]).1)∧w.cell? ⟨b,off+i*3+1,none⟩=some (.bool s)∧w.cell? ⟨b,off+i*3+2,none⟩=some (.slice a l c)∧Zn w s a l c (ps[i]).2∧InF F a l∧l≤B∧I64 (ps[i]).1)
theorem PnF.pn (h:PnF F w ad n ps B):Pn w ad n ps B:=by
  obtain⟨h1,h2⟩:=h
  refine⟨h1,?_⟩
  rcases h2 with h2|⟨b,off,e,_,hl,h2⟩
  · exact .inl h2
  refine .inr ⟨b,off,e,hl,fun i hi=> ?_⟩
  obtain⟨s,a,l,c,e0,e1,e2,hz,_,hr⟩:=h2 i hi
  exact⟨s,a,l,c,e0,e1,e2,hz,hr⟩
theorem PnF.move (h:PnF F w ad n ps B)(hs:w.heap.size≤w'.heap.size)(hm: ∀b,F b→b<w.heap.size→w'.heap[b]? =w.heap[b]?)(hG: ∀b,F b→b<w.heap.size→G b):PnF G w' ad n ps B:=by
  obtain⟨h1,h2⟩:=h
  refine⟨h1,?_⟩
  rcases h2 with h2|⟨b,off,e,hb,hl,h2⟩
  · exact .inl h2
  refine .inr ⟨b,off,e,hG b hb hl,by omega,fun i hi=> ?_⟩
  obtain⟨s,a,l,c,e0,e1,e2,hz,hn,hr⟩:=h2 i hi
  exact⟨s,a,l,c,(cell_heap (hm b hb hl) _).trans e0,(cell_heap (hm b hb hl) _).trans e1,(cell_heap (hm b hb hl) _).trans e2,zn_move hz hs fun b' off' e' h0=>hm b' (hn b' off' e' h0) (zn_lt hz e' h0),(fun b' off' e' h0=>hG b' (hn b' off' e' h0) (zn_lt hz e' h0)),hr⟩
theorem PnN.pnF {b0:Nat}(h:PnN b0 w ad n ps B):PnF (fun b=>b0≤b) w ad n ps B:=h
theorem il_lt {a:Option Addr}{l:List Int}(h:IL w a n l){b off:Nat}(e:a=some ⟨b,off,none⟩)(h0:0<n):b<w.heap.size:=by
  rcases h.2 with h2|⟨b',off',e',hb,_⟩
  · omega
  rw[e]at e';cases e';exact hb

structure NR where
  kd:Int
  sd:Bool
  ad:Option Addr
  ld:Nat
  cd:Nat
  ap:Option Addr
  np:Nat
  cp:Nat
  sk:Bool
  ak:Option Addr
  lk:Nat
  ck:Nat
  vr:Int
  ka:Option Addr
  kn:Nat
  kc:Nat
def NR.enc (x:NR):List Value:=[.int .i64 x.kd,.bool x.sd,.slice x.ad x.ld x.cd,.slice x.ap x.np x.cp,.bool x.sk,.slice x.ak x.lk x.ck,.int .i64 x.vr,.slice x.ka x.kn x.kc]
structure NC (F:Nat→Prop) (w:World) (x:NR) (n:Nd) (B:Nat):Prop where
  kd:x.kd=n.kind
  ikd:I64 n.kind
  zd:Zn w x.sd x.ad x.ld x.cd n.d
  fd:InF F x.ad x.ld
  hld:x.ld≤B
  pn:PnF F w x.ap x.np n.ps B
  hnp:x.np≤1048576
  zk:Zn w x.sk x.ak x.lk x.ck n.k
  fk:InF F x.ak x.lk
  hlk:x.lk≤B
  vr:x.vr=n.var
  ivr:I64 n.var
  kids:IL w x.ka x.kn n.kids
  fc:InF F x.ka x.kn
  hkn:x.kn≤1048576
theorem NC.move {x:NR}{n:Nd}(h:NC F w x n B)(hs:w.heap.size≤w'.heap.size)(hm: ∀b,F b→b<w.heap.size→w'.heap[b]? =w.heap[b]?)(hG: ∀b,F b→b<w.heap.size→G b):NC G w' x n B:=
  ⟨h.kd,h.ikd,zn_move h.zd hs fun b off e h0=>hm b (h.fd b off e h0) (zn_lt h.zd e h0),fun b off e h0=>hG b (h.fd b off e h0) (zn_lt h.zd e h0),h.hld,h.pn.move hs hm hG,h.hnp,
   zn_move h.zk hs fun b off e h0=>hm b (h.fk b off e h0) (zn_lt h.zk e h0),fun b off e h0=>hG b (h.fk b off e h0) (zn_lt h.zk e h0),h.hlk,h.vr,h.ivr,il_move h.kids hs fun b off e h0=>hm b (h.fc b off e h0) (il_lt h.kids e h0),fun b off e h0=>hG b (h.fc b off e h0) (il_lt h.kids e h0),h.hkn⟩
def MapIs (D:DataW Value)(L:List Nd):Prop:=
  (∀i (h:i<L.length) z,D.atKey (.string (txt L[i])) z= .lit (.int .i64 i))∧∀t,(∀n∈L,txt n≠t)→∀z,D.atKey (.string t) z=z
structure AS (w:World) (pa pm:Nat) (L:List Nd) (C:Nat→Prop) (B:Nat) (nv:Value) (bm:Nat) (X:List NR) (D:DataW Value):Prop where
  blk:w.heap[pa]? =some (.cells #[.pointer (some ⟨pm,0,none⟩),nv,.map (some bm)] 67 (0,0))
  len:X.length=L.length
  row:w.ownsRow 0 69 8 nv L.length (X.flatMap NR.enc)
  nodes: ∀i (h:i<L.length),NC C w (X[i]'o_m) L[i] B
  map:w.ownsMap Tryz.prog 9 (plainElem Tryz.prog 3) bm L.length D
  is:MapIs D L
  cl: ∀b,C b→b<w.heap.size
  ca: ¬C pa
  cm: ¬C bm
  cv: ∀g,nv.ownBlock=some g→¬C g
def FF (pa bm:Nat)(nv:Value)(C:Nat→Prop)(b:Nat):Prop:=b=pa∨b=bm∨nv.ownBlock=some b∨C b
theorem AS.pal {X:List NR}(h:AS w pa pm L C B nv bm X D):pa<w.heap.size:=(Array.getElem?_eq_some_iff.1 h.blk).1
theorem AS.fl {X:List NR}(h:AS w pa pm L C B nv bm X D){b:Nat}(hb:FF pa bm nv C b):b<w.heap.size:=by
  rcases hb with rfl|rfl|hb|hb
  · exact h.pal
  · exact h.map.lt
  · exact(World.ownsRow.lt h.row b hb).2
  exact h.cl b hb
theorem AS.ab {X:List NR}(h:AS w pa pm L C B nv bm X D):pa≠bm:=by
  rintro rfl
  obtain⟨es,clock,hb,_⟩:=h.map
  rw[h.blk]at hb
  cases hb
theorem AS.av {X:List NR}(h:AS w pa pm L C B nv bm X D):nv.ownBlock≠some pa:=by
  intro e
  obtain⟨c,fz,hk⟩:=Lib.ownsRow_kind h.row pa e
  rw[h.blk]at hk
  injection hk with hk
  injection hk with h1 h2
  exact absurd h2 (by decide)
theorem AS.bv {X:List NR}(h:AS w pa pm L C B nv bm X D):nv.ownBlock≠some bm:=by
  intro e
  obtain⟨c,fz,hk⟩:=Lib.ownsRow_kind h.row bm e
  obtain⟨es,clock,hb,_⟩:=h.map
  rw[hb]at hk
  cases hk
theorem AS.move {X:List NR}(h:AS w pa pm L C B nv bm X D)(hs:w.heap.size≤w'.heap.size)(hm: ∀b,FF pa bm nv C b→w'.heap[b]? =w.heap[b]?):AS w' pa pm L C B nv bm X D:=by
  refine⟨(hm pa (.inl rfl)).trans h.blk,h.len,?_,fun i hi=>(h.nodes i hi).move hs (fun b hb _=>hm b (.inr (.inr (.inr hb)))) (fun b hb _=>hb),?_,h.is,fun b hb=>Nat.lt_of_lt_of_le (h.cl b hb) hs,h.ca,h.cm,h.cv⟩
  · obtain⟨h1,h2⟩:=h.row
    refine⟨h1,?_⟩
    rcases h2 with h2|⟨g,cap,cur,e1,e2,e3,e4⟩
    · exact .inl h2
    exact .inr ⟨g,cap,cur,e1,e2,(hm g (.inr (.inr (.inl (by rw[e1];rfl))))).trans e3,e4⟩
  obtain⟨es,clock,hb,F',hs',hD⟩:=h.map
  exact⟨es,clock,(hm bm (.inr (.inl rfl))).trans hb,F',hs',hD⟩
theorem AS.below {X:List NR}(h:AS w pa pm L C B nv bm X D)(hb:Below w.heap.size w w'):AS w' pa pm L C B nv bm X D:=
  h.move hb.size fun b hf=>hb.block b (h.fl hf)
theorem AS.butF {X:List NR}(h:AS w pa pm L C B nv bm X D)(hb:ButF G w w')(hG: ∀b,FF pa bm nv C b→¬G b):AS w' pa pm L C B nv bm X D:=
  h.move hb.size fun b hf=>hb.block b (h.fl hf) (hG b hf)

theorem ks :Go.Maps.Keyed Tryz.prog 9:=Maps.string_keyed Tryz.underlying9
theorem mapIs_put {n:Nd}(h:MapIs D L)(hm:Maps.IsMap D)(hn:n∉L):MapIs (D.put (.string (txt n)) (.lit (.int .i64 (L.length:Int)))) (L++ [n]):=by
  constructor
  · intro i hi z
    rw[List.length_append,List.length_singleton]at hi
    by_cases e:i<L.length
    · rw[List.getElem_append_left e,Maps.atKey_put_other (fun e2=>hn (by
        have:=txt_inj (Lit.string.inj e2)
        rw[←this]
        exact List.getElem_mem e))]
      exact h.1 i e z
    obtain rfl:i=L.length:=by omega
    rw[List.getElem_append_right (Nat.le_refl _)]
    simp only[Nat.sub_self,List.getElem_cons_zero]
    exact Maps.atKey_put_same (k:=.string (txt n)) hm trivial _ _
  intro t ht z
  rw[Maps.atKey_put_other (fun e=>ht n (by simp) (Lit.string.inj e).symm)]
  exact h.2 t (fun m hm=>ht m (by simp[hm])) z
theorem as_lay {w3 w4 w5 w6:World}{s0 s1:Nat}{v':Value}{X:List NR}{x:NR}{n:Nd}(h:AS w3 pa pm L C B nv bm X D)(hs1:s1≤w3.heap.size)(hfa: ∀b,FF pa bm nv C b→b<s0)
    (hx:NC (fun b=>s0≤b∧b<s1) w3 x n B)(hn:n∉L)(hown:w4.ownsRow 0 69 8 v' (L.length+1) (X.flatMap NR.enc++x.enc))(hg:w3.grownBy w4 nv.ownBlock)(hat:v'.ownBlock=nv.ownBlock∨v'.ownBlock=some w3.heap.size)
    (h5:w5=w4.setCell ⟨pa,1,none⟩ v')(hmap:w6.ownsMap Tryz.prog 9 (plainElem Tryz.prog 3) bm (L.length+1) (D.put (.string (txt n)) (.lit (.int .i64 (L.length:Int)))))(hg6:w5.grownBy w6 (some bm))(_hsl:s0≤s1):
    AS w6 pa pm (L++ [n]) (fun b=>C b∨(s0≤b∧b<s1)) B v' bm (X++ [x]) (D.put (.string (txt n)) (.lit (.int .i64 (L.length:Int))))∧ButF (FF pa bm nv C) w3 w6:=by
  have hpa:=h.pal
  have hab:=h.ab
  have hsz4:w3.heap.size≤w4.heap.size:=hg.size
  have hsz5:w5.heap.size=w4.heap.size:=by rw[h5];simp[World.setCell]
  have hsz6:w5.heap.size≤w6.heap.size:=hg6.size
  have hpav:v'.ownBlock≠some pa:=by
    rcases hat with e|e
    · rw[e];exact h.av
    rw[e];intro e2;injection e2 with e2;omega
  have hbmv:v'.ownBlock≠some bm:=by
    have:=h.map.lt
    rcases hat with e|e
    · rw[e];exact h.bv
    rw[e];intro e2;injection e2 with e2;omega
  have hoth: ∀b,b<w3.heap.size→nv.ownBlock≠some b→b≠pa→b≠bm→w6.heap[b]? =w3.heap[b]?:=fun b hb h1 h2 h3=>by
    rw[hg6.block b o_m (by simpa using h3),h5,heap_setCell_other _ _ _ _ h2]
    exact hg.block b hb (fun e=>h1 e.symm)
  constructor
  · refine⟨?_,by simp[h.len],?_,?_,?_,mapIs_put h.is h.map.isMap hn,?_,?_,?_,?_⟩
    · rw[hg6.block pa o_m (by simpa using hab),h5]
      exact heap_setCell_same w4 pa 1 _ _ _ ((hg.block pa hpa (fun e=>h.av e.symm)).trans h.blk)
    · rw[List.length_append,List.length_singleton,List.flatMap_append,List.flatMap_singleton]
      have r5:w5.ownsRow 0 69 8 v' (L.length+1) (X.flatMap NR.enc++x.enc):=by
        rw[h5]
        exact ownsRow_setCell_other hown hpav v'
      exact r5.kept hg6 (.inr hbmv)
    · intro i hi
      rw[List.length_append,List.length_singleton]at hi
      by_cases e:i<L.length
      · rw[List.getElem_append_left e,List.getElem_append_left (by have:=h.len;omega)]
        refine(h.nodes i e).move o_m (fun b hb hl=>hoth b hl (fun e=>h.cv b e hb) (fun e=>h.ca (e▸hb)) (fun e=>h.cm (e▸hb))) fun b hb _=> .inl hb
      obtain rfl:i=L.length:=by omega
      have hxl:=h.len
      have e1:(X++ [x])[L.length]'(by simp;omega)=x:=by
        rw[List.getElem_append_right o_m]
        simp[hxl]
      have e2:(L++ [n])[L.length]'(by simp)=n:=by
        rw[List.getElem_append_right (Nat.le_refl _)]
        simp
      rw[e1,e2]
      refine hx.move o_m (fun b hb hl=>hoth b hl (fun e=>by have:=hfa b (.inr (.inr (.inl e)));omega) (fun e=>by have:=hfa b (.inl e);omega) (fun e=>by have:=hfa b (.inr (.inl e));omega)) fun b hb _=> .inr hb
    · rw[List.length_append,List.length_singleton]
      exact hmap
    · rintro b (hb|hb)
      · have:=h.cl b hb;omega
      omega
    · rintro(hb|hb)
      · exact h.ca hb
      have:=hfa pa (.inl rfl);omega
    · rintro(hb|hb)
      · exact h.cm hb
      have:=hfa bm (.inr (.inl rfl));omega
    intro g hgv
    rintro(hb|hb)
    · rcases hat with e|e
      · exact h.cv g (e▸hgv) hb
      rw[e]at hgv;injection hgv with hgv;have:=h.cl g hb;omega
    rcases hat with e|e
    · have:=hfa g (.inr (.inr (.inl (e▸hgv))));omega
    rw[e]at hgv;injection hgv with hgv;omega
  refine⟨?_,?_,?_,by omega,fun b hb hf=>hoth b hb (fun e=>hf (.inr (.inr (.inl e)))) (fun e=>hf (.inl e)) fun e=>hf (.inr (.inl e))⟩
  · rw[hg6.os,h5];exact hg.os
  · rw[hg6.tape,h5];exact hg.tape
  rw[hg6.output,h5];exact hg.output
end Nt
namespace Nt

theorem infoN :(Tryz.prog.info? 69).map (fun i=>(i.zero,i.size,i.bytes))=some (some (.agg #[.int .i64 0,.bool false,.slice none 0 0,.slice none 0 0,.bool false,.slice none 0 0,.int .i64 0,.slice none 0 0]),8,128):=by kernel_rfl
theorem enc_new (w:World)(x:NR): ∀j u,(x.enc)[j]? =some u→(w.alloc (.cells x.enc.toArray 69)).cell? ((⟨w.heap.size,0,none⟩:Addr).add j)=some u:=by
 intro j u hj
 rw[Addr.add_lit,Nat.zero_add]
 exact(cell_of_row _ w.heap.size j _ _ (0,0) (heap_alloc_new w _)).trans (by simpa using hj)
theorem enc_one (x:NR): ∀u∈x.enc,u.oneCell'=true:=by
 intro u hu
 simp[NR.enc]at hu
 rcases hu with rfl|rfl|rfl|rfl|rfl|rfl|rfl|rfl <;> rfl
theorem run_node {w:World}{nv:Value}{n:Nat}{xs:List Value}(x:NR)(ty:TypeId)(h:w.ownsRow 0 69 8 nv n xs)(hn:n≤1048576):
  ∃v' w',(Builtin.append_ #[65,65] ty #[nv,.slice (some ⟨w.heap.size,0,none⟩) 1 1]).run Tryz.prog (w.alloc (.cells x.enc.toArray 69))= .ok v' w'∧(w'.ownsRow 0 69 8 v' (n+1) (xs++x.enc)∧(w.alloc (.cells x.enc.toArray 69)).grownBy w' nv.ownBlock∧(v'.ownBlock=nv.ownBlock∨v'.ownBlock=some (w.alloc (.cells x.enc.toArray 69)).heap.size)):=by
 obtain⟨i0,hi,hz0,hz1,hz2⟩:=info_parts infoN
 obtain⟨v',w4,hr,hown',hgrow,-,hat⟩:=run_append_own_at (P:=Tryz.prog) (w.alloc (.cells x.enc.toArray 69)) 0 65 ty 69 i0 _ 8 128 Tryz.underlying65 hi hz0 hz1 hz2 rfl (by decide) nv n _ (h.alloc _) ⟨w.heap.size,0,none⟩ 1 1 x.enc rfl (enc_new w x) (enc_one x) (by unfold maxLen;omega) o_m (Nat.zero_le _)
 exact⟨v',w4,hr,hown',hgrow,hat⟩
def LA (w w':World)(e:Ending)(pa pm:Nat)(L:List Nd)(C:Nat→Prop)(B:Nat)(nv:Value)(bm:Nat)(n:Nd):Prop:=
 e= .returned (.int .i64 (L.length:Int))∧∃C' nv' X' D',AS w' pa pm (L++ [n]) C' B nv' bm X' D'∧(∀b,FF pa bm nv' C' b→FF pa bm nv C b∨w.heap.size≤b)∧ButF (FF pa bm nv C) w w'
theorem lay_S {w':World}{p:Nat}{kd:Int}{s:Bool}{a:Option Addr}{l c:Nat}{ad:Option Addr}{n cp:Nat}{t:Bool}{b:Option Addr}{m d:Nat}{vr:Int}{ka:Option Addr}{kn kc:Nat}(y:NB w' p kd s a l c ad n cp t b m d vr ka kn kc):
  w'.cell? ⟨p,0,none⟩=some (.int .i64 kd)∧w'.cell? ⟨p,1,none⟩=some (.bool s)∧w'.cell? ⟨p,2,none⟩=some (.slice a l c)∧w'.cell? ⟨p,3,none⟩=some (.slice ad n cp)∧w'.cell? ⟨p,4,none⟩=some (.bool t)∧w'.cell? ⟨p,5,none⟩=some (.slice b m d)∧w'.cell? ⟨p,6,none⟩=some (.int .i64 vr)∧w'.cell? ⟨p,7,none⟩=some (.slice ka kn kc):=
 ⟨y.c0,y.c1,y.c2,y.c3,y.c4,y.c5,y.c6,y.c7⟩

theorem lay_n {w:World}{pa pm:Nat}{L:List Nd}{C:Nat→Prop}{nv:Value}{bm:Nat}{X:List NR}{D:DataW Value}{kd:Int}{sd:Bool}{ad:Option Addr}{ld cd:Nat}{ap:Option Addr}{np cp:Nat}{sk:Bool}{ak:Option Addr}{lk ck:Nat}{vr:Int}{ka:Option Addr}{kn kc:Nat}{d k:Int}{ps:List (Int × Int)}{kids:List Int}{B:Nat}
  (hA:AS w pa pm L C B nv bm X D)(hd:Zn w sd ad ld cd d)(hld:ld≤B)(hP:Pn w ap np ps B)(hk:Zn w sk ak lk ck k)(hlk:lk≤B)(hI:IL w ka kn kids)(hkd:I64 kd)(hvr:I64 vr)(hn:np≤1048576)(hkn:kn≤1048576)(hB:B≤2097152)(hL:L.length≤1048576)(hnew:(⟨kd,d,ps,k,vr,kids⟩:Nd)∉L)(htl:(txt ⟨kd,d,ps,k,vr,kids⟩).length≤maxLen):
  Calls Tryz.prog 26 #[.pointer (some ⟨pa,0,none⟩),.agg #[.int .i64 kd,.bool sd,.slice ad ld cd,.slice ap np cp,.bool sk,.slice ak lk ck,.int .i64 vr,.slice ka kn kc],.string ⟨(txt ⟨kd,d,ps,k,vr,kids⟩).toArray⟩] w fun e w'=>LA w w' e pa pm L C B nv bm ⟨kd,d,ps,k,vr,kids⟩:=by
 have b0:=below_alloc w (.cells #[.int .i64 kd,.bool sd,.slice ad ld cd,.slice ap np cp,.bool sk,.slice ak lk ck,.int .i64 vr,.slice ka kn kc] 69)
 have y:=NB.new w kd sd ad ld cd ap np cp sk ak lk ck vr ka kn kc
 have hA1:=hA.below b0
 have hfl: ∀b,FF pa bm nv C b→b<w.heap.size:=fun b hb=>hA.fl hb
 go_enter Tryz.func26,Tryz.ntmps26
 have u1:(w.alloc (.cells #[.int .i64 kd,.bool sd,.slice ad ld cd,.slice ap np cp,.bool sk,.slice ak lk ck,.int .i64 vr,.slice ka kn kc] 69)).cell? ⟨pa,1,none⟩=some nv:=cell_of_row _ pa 1 _ _ (0,0) hA1.blk
 obtain⟨av,cv,rfl⟩: ∃a c,nv= .slice a L.length c:=by
  rcases Joins.ownsRow_forms hA.row with⟨h1,h2⟩|⟨g,cap,h1⟩
  ·exact⟨none,0,by rw[h1,h2]⟩
  exact⟨_,cap,h1⟩
 go_wp2_with fail
 clear u1
 replace hd:=hd.below b0
 replace hP:=hP.below b0
 replace hk:=hk.below b0
 replace hI:=hI.below b0
 have hpw:Hid (w.heap.size=w.heap.size):=hide rfl
 generalize w.alloc (.cells #[.int .i64 kd,.bool sd,.slice ad ld cd,.slice ap np cp,.bool sk,.slice ak lk ck,.int .i64 vr,.slice ka kn kc] 69)=wb at*
 generalize hp:w.heap.size=p at*
 have hpa:pa≠p:=by have:=hfl pa (.inl rfl);omega
 replace b0:Hid (Below w.heap.size w wb):=hp▸b0
 refine wp_region_held_drew (S:=(fun w'=>w'.cell? ⟨p,0,none⟩=some (.int .i64 kd)∧w'.cell? ⟨p,1,none⟩=some (.bool sd)∧w'.cell? ⟨p,2,none⟩=some (.slice ad ld cd)∧w'.cell? ⟨p,3,none⟩=some (.slice ap np cp)∧w'.cell? ⟨p,4,none⟩=some (.bool sk)∧w'.cell? ⟨p,5,none⟩=some (.slice ak lk ck)∧w'.cell? ⟨p,6,none⟩=some (.int .i64 vr)∧w'.cell? ⟨p,7,none⟩=some (.slice ka kn kc))) k_f (lay_S y) (fun hHeld=> ?_)
 show wpAnyH _ _ _ _ _ 12 _ _ _
 have kW:=grow_drew (Below.refl wb.heap.size wb)
 replace y:=y.below kW
 replace hA1:=hA1.below kW
 replace hd:=hd.below kW
 replace hP:=hP.below kW
 replace hk:=hk.below kW
 replace hI:=hI.below kW
 replace kW:=grow_step kW b0.out
 generalize wb.drew=wQ at*
 refine tkz 0 13 ?_
 (try simp only[pz])
 refine tkz 1 14 ?_
 (try simp only[pz])
 refine tkz 2 15 ?_
 (try simp only[pz])
 refine tkz 3 16 ?_
 (try simp only[pz])
 refine tkz 5 18 ?_
 (try simp only[pz])
 repeat' first
  |with_reducible exact AllReadyH.nil
  |(refine wpAnyH_ready (rs:=[4,6]) ?_ ?_ ?_;decide+kernel;simp)
  |(refine wpAnyH_ready (rs:=[6]) ?_ ?_ ?_;decide+kernel;simp)
  |(refine wpAnyH_ready (rs:=[7]) ?_ ?_ ?_;decide+kernel;simp)
  |(refine wpAnyH_ready (rs:=[8]) ?_ ?_ ?_;decide+kernel;simp)
  |(refine wpAnyH_ready (rs:=[9]) ?_ ?_ ?_;decide+kernel;simp)
  |(refine wpAnyH_ready (rs:=[10]) ?_ ?_ ?_;decide+kernel;simp)
  |(refine wpAnyH_ready (rs:=[11]) ?_ ?_ ?_;decide+kernel;simp)
  |(refine wpAnyH_ready (rs:=[4,7]) ?_ ?_ ?_;decide+kernel;simp)
  |(refine wpAnyH_ready (rs:=[4]) ?_ ?_ ?_;decide+kernel;simp)
  |(
   first
    |(
     refine AllReadyH.cons (i:=4) (o:=⟨some 17,_,_,_,_,_⟩) rfl (fun K hK=> ?_) ?_
     first|have u1:=cell_of_row _ pa 1 _ _ (0,0) hA7.blk|have u1:=cell_of_row _ pa 1 _ _ (0,0) hA1.blk
     go_simp
     clear u1)
    |(
     refine AllReadyH.cons (i:=6) (o:=⟨some 19,_,_,_,_,_⟩) rfl (fun K hK=> ?_) ?_
     go_simp
     refine Calls.mono (copied_n hd hld hP hk hlk hI hn hkn hB) ?_
     rintro e w2 ⟨ad1,cd1,ap1,cp1,ak1,ck1,ka1,kc1,rfl,hz1,hn1,hp1,hz2,hn2,hk1,hn3,k2⟩
     have hsw:=kW.size
     have y:=y.below k2
     have hA1:=hA1.below k2
     have kW:=grow_step k2 kW
     have hs2:=k2.size
     try go_wp2_with fail)
    |(
     refine AllReadyH.cons (i:=7) (o:=⟨some 20,_,_,_,_,_⟩) rfl (fun K hK=> ?_) ?_
     have hA7:=hA1.below (below_alloc w2 (.cells #[.int .i64 kd,.bool sd,.slice ad1 ld cd1,.slice ap1 np cp1,.bool sk,.slice ak1 lk ck1,.int .i64 vr,.slice ka1 kn kc1] 69))
     go_simp)
    |(
     refine AllReadyH.cons (i:=8) (o:=⟨some 21,_,_,_,_,_⟩) rfl (fun K hK=> ?_) ?_
     clear hA7
     refine anyH_app rfl _ _ 65 rfl _ _ rfl rfl _ (run_node (⟨kd,sd,ad1,ld,cd1,ap1,np,cp1,sk,ak1,lk,ck1,vr,ka1,kn,kc1⟩:NR) _ hA1.row hL) ?_
     rintro v' w4 ⟨hown,hgrow,hat⟩
     obtain⟨gv,kv,rfl⟩:=Joins.ownsRow_form hown o_m
     have hA3:=hA1.below (below_alloc w2 (.cells (NR.enc ⟨kd,sd,ad1,ld,cd1,ap1,np,cp1,sk,ak1,lk,ck1,vr,ka1,kn,kc1⟩).toArray 69))
     have y3:=y.below (below_alloc w2 (.cells (NR.enc ⟨kd,sd,ad1,ld,cd1,ap1,np,cp1,sk,ak1,lk,ck1,vr,ka1,kn,kc1⟩).toArray 69))
     have y4:NB w4 p kd sd ad ld cd ap np cp sk ak lk ck vr ka kn kc:=(hgrow.block p y3.lt (fun e=>by have:=hfl p (.inr (.inr (.inl e.symm)));omega)).trans y3)
    |(
     refine AllReadyH.cons (i:=9) (o:=⟨some 22,_,_,_,_,_⟩) rfl (fun K hK=> ?_) ?_
     go_simp)
    |(
     refine AllReadyH.cons (i:=10) (o:=⟨some 23,_,_,_,_,_⟩) rfl (fun K hK=> ?_) ?_
     go_simp)
    |(
     refine AllReadyH.cons (i:=11) (o:=⟨none,_,_,_,_,_⟩) rfl (fun K hK=> ?_) ?_
     have hb4:=(hgrow.block pa hA3.pal (fun e=>hA3.av e.symm)).trans hA3.blk
     have f0:=cell_of_row _ pa 1 _ _ (0,0) hb4
     have f1:=frozen_of_row w4 pa 1 _ _ hb4
     go_simp
     have y5:NB (w4.setCell ⟨pa,1,none⟩ (.slice (some ⟨gv,0,none⟩) (L.length+1) kv)) p kd sd ad ld cd ap np cp sk ak lk ck vr ka kn kc:=(heap_setCell_other _ _ _ _ hpa.symm).trans y4)
   refine hK.out _ _ ?_ ?_
   ·(try dsimp only);with_reducible first|exact lay_S y5|exact lay_S y4|exact lay_S y|exact lay_S (y.below (below_alloc _ _))
   clear hK K hHeld;intro hHeld
   (try simp only[pz]))
 all_goals
  refine wpAnyH_done k_f ?_ _
  have hb5:(w4.setCell ⟨pa,1,none⟩ (.slice (some ⟨gv,0,none⟩) (L.length+1) kv)).heap[pa]? =some (.cells #[.pointer (some ⟨pm,0,none⟩),.slice (some ⟨gv,0,none⟩) (L.length+1) kv,.map (some bm)] 67 (0,0)):=heap_setCell_same w4 pa 1 _ _ _ hb4
  have u2:=cell_of_row _ pa 2 _ _ (0,0) hb5
  have hm4:=hA3.map.kept hgrow (fun e=>hA3.bv e.symm)
  have hm5:=hide (hm4.setCell (a:=⟨pa,1,none⟩) hA3.ab.symm (.slice (some ⟨gv,0,none⟩) (L.length+1) kv))
  have hx:NC (fun b=>p≤b∧b<w2.heap.size) (w2.alloc (.cells (NR.enc ⟨kd,sd,ad1,ld,cd1,ap1,np,cp1,sk,ak1,lk,ck1,vr,ka1,kn,kc1⟩).toArray 69)) ⟨kd,sd,ad1,ld,cd1,ap1,np,cp1,sk,ak1,lk,ck1,vr,ka1,kn,kc1⟩ ⟨kd,d,ps,k,vr,kids⟩ B:=by
   have hNC:NC (fun b=>wQ.heap.size≤b) w2 ⟨kd,sd,ad1,ld,cd1,ap1,np,cp1,sk,ak1,lk,ck1,vr,ka1,kn,kc1⟩ ⟨kd,d,ps,k,vr,kids⟩ B:=⟨rfl,hkd,hz1,hn1,hld,hp1.pnF,hn,hz2,hn2,hlk,rfl,hvr,hk1,hn3,hkn⟩
   exact hNC.move (by simp) (fun b _ hb=>(below_alloc w2 _).block b hb) fun b h1 h2=>⟨by omega,h2⟩
  replace hx:=hide hx
  have hgl:Hid (L.length<maxLen):=hide (by unfold maxLen;omega)
  have kE:=hide (grow_alloc kW (.cells (NR.enc ⟨kd,sd,ad1,ld,cd1,ap1,np,cp1,sk,ak1,lk,ck1,vr,ka1,kn,kc1⟩).toArray 69))
  have hA3':=hide hA3
  have hown':=hide hown
  have hgrow':=hide hgrow
  clear hHeld y y3 y4 y5 hb4 f0 f1 hm4 hA1 hown hgrow hA3 hb5 hz1 hn1 hp1 hz2 hn2 hk1 hn3 k2 hd hP hk hI
  go_wp2_with(at_mapUpdate;go_loud(refine wpList_mapUpdate_own _ rfl _ _ _ 64 rfl 9 3 ks Tryz.underlying64 (plainElem Tryz.prog 3) bm L.length D rfl hm5.out hgl.out _ _ (.string (txt ⟨kd,d,ps,k,vr,kids⟩)) rfl rfl (Go.WideMaps.keyOf_string_mk Tryz.underlying9 (by rw[size_list];exact htl)) (.lit (.int .i64 (L.length:Int))) [] (plainElem_int Tryz.underlying3 (i64_wf (by unfold I64;omega))) ?_;intro w6 hm6 hg6))
  obtain⟨hF1,hF2⟩:=as_lay (s0:=p) (s1:=w2.heap.size) hA3'.out (by simp) hfl hx.out hnew hown'.out hgrow'.out hat rfl hm6 hg6 o_m
  replace hF1:=hide hF1
  have hF3:Hid (ButF (FF pa bm (.slice av L.length cv) C) w w6):=hide (ButF.trans (butF_below kE.out) hF2 fun b _ h=>h)
  clear hm6 hg6 hF2 hA3' hown' hgrow' hx hm5 u2
  go_wp2
  go_ret
  refine⟨rfl,_,_,_,_,hF1.out,?_,hF3.out⟩
  rintro b (hb|hb|hb|hb|hb)
  ·exact .inl (.inl hb)
  ·exact .inl (.inr (.inl hb))
  ·rcases hat with e|e
   ·exact .inl (.inr (.inr (.inl (e▸hb))))
   rw[e]at hb
   injection hb with hb
   exact .inr (by simp at hb;omega)
  ·exact .inl (.inr (.inr (.inr hb)))
  exact .inr o_m
end Nt
namespace Nt

variable {w:World}{b B:Nat}{ad:Option Addr}{ps:List (Int × Int)}
def mstep (nn kk c e:Int)(zs:List Int):Int × Int × Int:=
 if e≠0 then(e,c,e)else if(zs.any fun z=>decide (kk<(lim z:Int)))=true then(71,c,71)else if nn-c<1 then(70,c,70)else(0,c+1,0)
theorem nodeM_n {nn kk c e:Int}{m cp:Nat}{L:List (Bool × List Int)}{zs:List Int}(h:MB w b nn kk c e)(hL:NL w ad m L B)(hz: ∀kk:Int,L.any (isl kk)=zs.any fun z=>decide (kk<(lim z:Int)))(hB:B≤4194304)(hm:m≤4194304)(hc:0≤c)(hcn:c≤nn)(hn:nn≤2000)(he:0≤e)(he2:e<256):
  Calls Tryz.prog 101 #[.pointer (some ⟨b,0,none⟩),.slice ad m cp] w fun x w'=>x= .returned (.int .i64 (mstep nn kk c e zs).1)∧MB w' b nn kk (mstep nn kk c e zs).2.1 (mstep nn kk c e zs).2.2∧But b w w':=by
 by_cases h0:e=0
 ·subst h0
  refine(node_n h hL hB hm hc hcn hn).mono ?_
  rintro x w' ⟨rfl,h1,h2⟩
  have e:mstep nn kk c 0 zs=if L.any (isl kk)=true then(71,c,71)else if nn-c<1 then(70,c,70)else(0,c+1,0):=by
   unfold mstep
   rw[if_neg (by decide),←hz kk]
  rw[e]
  by_cases h3:L.any (isl kk)=true
  ·simp only[if_pos h3]at h1 ⊢
   exact⟨trivial,h1,h2⟩
  by_cases h4:nn-c<1
  ·simp only[if_neg h3,if_pos h4]at h1 ⊢
   exact⟨trivial,h1,h2⟩
  simp only[if_neg h3,if_neg h4]at h1 ⊢
  exact⟨trivial,h1,h2⟩
 refine(node_over h hL hB hm hc o_m o_m he2).mono ?_
 rintro x w' ⟨rfl,h1⟩
 unfold mstep
 rw[if_pos h0]
 exact⟨rfl,h.below h1,Go.Proofs.YtbgpddlcfiiiaaaGreatDoor.Below.but h1 b⟩
theorem zn_but {w':World}{s:Bool}{a:Option Addr}{l c:Nat}{z:Int}(h:Zn w s a l c z)(hi:IntB w b)(g:But b w w'):Zn w' s a l c z:=by
 obtain⟨n,⟨xs,hr,hc,hv⟩,h2⟩:=h
 exact⟨n,⟨xs,hr.but hi g,hc,hv⟩,h2⟩
theorem pn_but {w':World}{n:Nat}(h:Pn w ad n ps B)(hi:IntB w b)(g:But b w w'):Pn w' ad n ps B:=by
 obtain⟨h1,h2⟩:=h
 refine⟨h1,?_⟩
 rcases h2 with h2|⟨b',off,e,hl,h2⟩
 ·exact .inl h2
 by_cases h0:n=0
 ·exact .inl h0
 have hne:b'≠b:=by
  rintro rfl
  obtain⟨s,a,l,c,e0,e1,_⟩:=h2 0 o_m
  obtain⟨z,hz⟩:=hi _ _ e1
  cases hz
 refine .inr ⟨b',off,e,Nat.lt_of_lt_of_le hl g.size,fun i hi'=> ?_⟩
 obtain⟨s,a,l,c,e0,e1,e2,hz,hr⟩:=h2 i hi'
 have hm:=g.block b' hl hne
 exact⟨s,a,l,c,(cell_heap hm _).trans e0,(cell_heap hm _).trans e1,(cell_heap hm _).trans e2,zn_but hz hi g,hr⟩
theorem txt_length {kd:Int}{sd:Bool}{ld cd:Nat}{ap:Option Addr}{np:Nat}{sk:Bool}{ak:Option Addr}{lk ck:Nat}{vr:Int}{ka:Option Addr}{kn:Nat}{d k:Int}{kids:List Int}(hd:Zn w sd ad ld cd d)(hld:ld≤B)(hP:Pn w ap np ps B)(hk:Zn w sk ak lk ck k)(hlk:lk≤B)(hI:IL w ka kn kids)(hkd:I64 kd)(hvr:I64 vr)(hn:np≤1048576)(hkn:kn≤1048576)(hB:B≤2097152):(txt ⟨kd,d,ps,k,vr,kids⟩).length≤maxLen:=by
 have h1:=itoa_length hkd
 have h2:=itoa_length hvr
 have h3:=intT_length hd
 have h4:=intT_length hk
 have h5:=psT_length hP np (Nat.le_refl _)
 have h6:=kdT_length hI kn (Nat.le_refl _)
 rw[List.take_of_length_le (Nat.le_of_eq hP.1)]at h5
 rw[List.take_of_length_le (Nat.le_of_eq hI.1)]at h6
 have h7:np*(11*B+22)≤1048576*(11*2097152+22):=Nat.mul_le_mul o_m o_m
 unfold txt maxLen
 simp only[List.length_append,List.length_cons]
 omega
def MD (w w':World)(e:Ending)(pa pm:Nat)(L:List Nd)(C:Nat→Prop)(B:Nat)(nv:Value)(bm:Nat)(nn kk c er:Int)(n:Nd):Prop:=
 (∃i:Nat,L[i]? =some n∧e= .returned (.tuple #[.int .i64 (i:Int),.int .i64 0])∧Below w.heap.size w w')∨
 (n∉L∧(mstep nn kk c er (n.d::n.k::n.ps.map Prod.snd)).1≠0∧e= .returned (.tuple #[.int .i64 0,.int .i64 (mstep nn kk c er (n.d::n.k::n.ps.map Prod.snd)).1])∧MB w' pm nn kk (mstep nn kk c er (n.d::n.k::n.ps.map Prod.snd)).2.1 (mstep nn kk c er (n.d::n.k::n.ps.map Prod.snd)).2.2∧But pm w w')∨
 (n∉L∧(mstep nn kk c er (n.d::n.k::n.ps.map Prod.snd)).1=0∧e= .returned (.tuple #[.int .i64 (L.length:Int),.int .i64 0])∧MB w' pm nn kk (mstep nn kk c er (n.d::n.k::n.ps.map Prod.snd)).2.1 (mstep nn kk c er (n.d::n.k::n.ps.map Prod.snd)).2.2∧
  ∃C' nv' X' D',AS w' pa pm (L++ [n]) C' B nv' bm X' D'∧(∀b,FF pa bm nv' C' b→FF pa bm nv C b∨w.heap.size≤b)∧ButF (fun b=>b=pm∨FF pa bm nv C b) w w')

theorem made_n {pa pm:Nat}{L:List Nd}{C:Nat→Prop}{nv:Value}{bm:Nat}{X:List NR}{D:DataW Value}{nn kk c er:Int}{kd:Int}{sd:Bool}{ld cd:Nat}{ap:Option Addr}{np cp:Nat}{sk:Bool}{ak:Option Addr}{lk ck:Nat}{vr:Int}{ka:Option Addr}{kn kc:Nat}{d k:Int}{kids:List Int}
  (hA:AS w pa pm L C B nv bm X D)(hM:MB w pm nn kk c er)(hpm: ¬FF pa bm nv C pm)(hc:0≤c)(hcn:c≤nn)(hnn:nn≤2000)(he:0≤er)(he2:er<256)(hd:Zn w sd ad ld cd d)(hld:ld≤B)(hP:Pn w ap np ps B)(hk:Zn w sk ak lk ck k)(hlk:lk≤B)(hI:IL w ka kn kids)(hkp:InF (fun b=>b≠pm) ka kn)(hkd:I64 kd)(hvr:I64 vr)(hn:np≤1048576)(hkn:kn≤1048576)(hB:B≤2097152)(hL:L.length≤1048576)(htab:Tab w):
  Calls Tryz.prog 57 #[.pointer (some ⟨pa,0,none⟩),.agg #[.int .i64 kd,.bool sd,.slice ad ld cd,.slice ap np cp,.bool sk,.slice ak lk ck,.int .i64 vr,.slice ka kn kc]] w fun e w'=>MD w w' e pa pm L C B nv bm nn kk c er ⟨kd,d,ps,k,vr,kids⟩:=by
 have b0:=below_alloc w (.cells #[.int .i64 kd,.bool sd,.slice ad ld cd,.slice ap np cp,.bool sk,.slice ak lk ck,.int .i64 vr,.slice ka kn kc] 69)
 have y:=NB.new w kd sd ad ld cd ap np cp sk ak lk ck vr ka kn kc
 go_enter Tryz.func57,Tryz.ntmps57
 have u0:=y.c0
 have u1:=y.c1
 have u2:=y.c2
 have u3:=y.c3
 have u4:=y.c4
 have u5:=y.c5
 have u6:=y.c6
 have u7:=y.c7
 go_wp2_with fail
 clear u0 u1 u2 u3 u4 u5 u6 u7
 have hA1:=hA.below b0
 have hM1:=hM.below b0
 replace hd:=hd.below b0
 replace hP:=hP.below b0
 replace hk:=hk.below b0
 replace hI:=hI.below b0
 replace htab:=htab.below b0
 generalize w.alloc (.cells #[.int .i64 kd,.bool sd,.slice ad ld cd,.slice ap np cp,.bool sk,.slice ak lk ck,.int .i64 vr,.slice ka kn kc] 69)=wb at*
 generalize hp:w.heap.size=p at*
 replace b0:Hid (Below w.heap.size w wb):=hp▸b0
 refine(text_n hd hld hP hk hlk hI hkd hvr hn hkn hB htab).mono ?_
 rintro e w1 ⟨rfl,k1⟩
 have htl:(txt ⟨kd,d,ps,k,vr,kids⟩).length≤maxLen:=txt_length hd hld hP hk hlk hI hkd hvr hn hkn hB
 replace y:=y.below k1
 replace hA1:=hA1.below k1
 replace hM1:=hM1.below k1
 replace hd:=hd.below k1
 replace hP:=hP.below k1
 replace hk:=hk.below k1
 replace hI:=hI.below k1
 replace b0:=hide (grow_step k1 b0.out)
 clear k1 htab
 have u2:w1.cell? ⟨pa,2,none⟩=some (.map (some bm)):=cell_of_row _ pa 2 _ _ (0,0) hA1.blk
 have hz0:Sem.run Tryz.prog (zeroValue 3) w1= .ok (.int .i64 0) w1:=by kernel_rfl
 have hkey:=WideMaps.keyOf_string_mk (P:=Tryz.prog) (k:=9) (s:=⟨(txt ⟨kd,d,ps,k,vr,kids⟩).toArray⟩) Tryz.underlying9 (by rw[size_list];exact htl)
 by_cases hin:(⟨kd,d,ps,k,vr,kids⟩:Nd)∈L
 ·obtain⟨i,hi,hie⟩:=List.getElem_of_mem hin
  have hat0:=hA1.is.1 i hi
  rw[hie]at hat0
  have hh:=Maps.has_true_of_atKey hat0
  go_wp2_with(at_lookup;refine wpList_lookup_own_ok_int _ rfl _ _ 64 rfl 9 3 .i64 ks Tryz.underlying64 Tryz.underlying3 hz0 bm L.length D rfl hA1.map (.string ⟨(txt ⟨kd,d,ps,k,vr,kids⟩).toArray⟩) (.string (txt ⟨kd,d,ps,k,vr,kids⟩)) rfl hkey ?_;intro cc hat hwc;rw[hh])
  obtain rfl:cc=(i:Int):=by
   have h9:=hat.symm.trans (hat0 _)
   injection h9 with h9
   injection h9
  go_wp2
  refine bodyPost_ret (results_tmp2 rfl _ _ _) rfl ?_
  exact .inl ⟨i,by rw[List.getElem?_eq_getElem hi,hie],rfl,hp▸b0.out⟩
 have hh:Maps.has D (.string (txt ⟨kd,d,ps,k,vr,kids⟩))=false:=Maps.has_false_of_atKey (hA1.is.2 _ fun m hm e=>hin (txt_inj e▸hm))
 go_wp2_with(at_lookup;refine wpList_lookup_own_ok_int _ rfl _ _ 64 rfl 9 3 .i64 ks Tryz.underlying64 Tryz.underlying3 hz0 bm L.length D rfl hA1.map (.string ⟨(txt ⟨kd,d,ps,k,vr,kids⟩).toArray⟩) (.string (txt ⟨kd,d,ps,k,vr,kids⟩)) rfl hkey ?_;intro cc hat hwc;rw[hh])
 clear u2 hz0 hat hwc
 have hfl: ∀b,FF pa bm nv C b→b<w.heap.size:=fun b hb=>hA.fl hb
 have hpp:pm≠p:=by have:=hM.lt;omega
 clear hA hM hh
 refine wp_region_held_drew (S:=(fun w'=>w'.cell? ⟨pa,0,none⟩=some (.pointer (some ⟨pm,0,none⟩))∧w'.cell? ⟨p,0,none⟩=some (.int .i64 kd)∧w'.cell? ⟨p,1,none⟩=some (.bool sd)∧w'.cell? ⟨p,2,none⟩=some (.slice ad ld cd)∧w'.cell? ⟨p,3,none⟩=some (.slice ap np cp)∧w'.cell? ⟨p,4,none⟩=some (.bool sk)∧w'.cell? ⟨p,5,none⟩=some (.slice ak lk ck)∧w'.cell? ⟨p,6,none⟩=some (.int .i64 vr)∧w'.cell? ⟨p,7,none⟩=some (.slice ka kn kc))) k_f (⟨cell_of_row _ pa 0 _ _ (0,0) hA1.blk,lay_S y⟩) (fun hHeld=> ?_)
 show wpAnyH _ _ _ _ _ 8 _ _ _
 refine tkz 0 23 ?_
 (try simp only[pz])
 refine tkz 1 24 ?_
 (try simp only[pz])
 refine tkz 2 25 ?_
 (try simp only[pz])
 refine tkz 3 26 ?_
 (try simp only[pz])
 refine tkz 4 27 ?_
 (try simp only[pz])
 refine ryz 5 (some 28) (fun K hK=> ?_) AllReadyH.nil
 go_simp
 refine Calls.mono (numbers_n (w:=w1.drew) hd hld hP hk hlk hn) ?_
 rintro e w2 ⟨a2,c2,L2,rfl,hN2,hz2,k2⟩
 replace k2:=grow_step k2 (grow_drew (Below.refl _ _))
 have y:=y.below k2
 have hA1:=hA1.below k2
 have hM1:=hM1.below k2
 (try go_wp2_with fail)
 refine hK.out _ _ ?_ ?_
 ·(try dsimp only);exact⟨cell_of_row _ pa 0 _ _ (0,0) hA1.blk,lay_S y⟩
 clear hK K hHeld;intro hHeld
 (try simp only[pz])
 refine ryz 6 (some 29) (fun K hK=> ?_) AllReadyH.nil
 go_simp
 refine Calls.mono (nodeM_n hM1 hN2 hz2 o_m o_m hc hcn hnn he he2) ?_
 rintro e w3 ⟨rfl,hM3,k3⟩
 have hpmA: ∀b,FF pa bm nv C b→b≠pm:=fun b hb e=>hpm (e▸hb)
 have hA3:AS w3 pa pm L C B nv bm X D:=hA1.move k3.size fun b hb=>k3.block b (hA1.fl hb) (hpmA b hb)
 have y3:NB w3 p kd sd ad ld cd ap np cp sk ak lk ck vr ka kn kc:=(k3.block p y.lt hpp.symm).trans y
 (try go_wp2_with fail)
 refine hK.out _ _ ?_ ?_
 ·(try dsimp only);exact⟨cell_of_row _ pa 0 _ _ (0,0) hA3.blk,lay_S y3⟩
 clear hK K hHeld;intro hHeld
 (try simp only[pz])
 refine ryz 7 (some 9) (fun K hK=> ?_) AllReadyH.nil
 go_simp
 refine hK.out _ _ ?_ ?_
 ·(try dsimp only);exact⟨cell_of_row _ pa 0 _ _ (0,0) hA3.blk,lay_S y3⟩
 clear hK K hHeld;intro hHeld
 (try simp only[pz])
 refine wpAnyH_done k_f ?_ _
 have hib:=hM1.intB
 have kW:=grow_step k2 b0.out
 have hBut:But pm w w3:=(Go.Proofs.YtbgpddlcfiiiaaaGreatDoor.Below.but kW pm).trans k3
 replace hd:=zn_but (hd.below k2) hib k3
 replace hP:=pn_but (hP.below k2) hib k3
 replace hk:=zn_but (hk.below k2) hib k3
 have hI2:=hI.below k2
 replace hI:IL w3 ka kn kids:=il_move hI2 k3.size fun b off e h0=>k3.block b (il_lt hI2 e h0) (hkp b off e h0)
 have hs3:=hide (Nat.le_trans kW.size k3.size)
 have hB2:=hide hBut
 clear hHeld hBut hI2 kW k2 k3 hA1 hM1 y hib hN2 hz2 b0
 generalize hms:mstep nn kk c er (d::k::ps.map Prod.snd)=M at*
 by_cases hM0:M.1=0
 ·have u0:=y3.c0
  have u1:=y3.c1
  have u2:=y3.c2
  have u3:=y3.c3
  have u4:=y3.c4
  have u5:=y3.c5
  have u6:=y3.c6
  have u7:=y3.c7
  go_wp2_with fail
  clear u0 u1 u2 u3 u4 u5 u6 u7
  refine(lay_n hA3 hd hld hP hk hlk hI hkd hvr hn hkn hB hL hin htl).mono ?_
  rintro e w4 ⟨rfl,C',nv',X',D',hA4,hF4,hB4⟩
  have hM4:MB w4 pm nn kk M.2.1 M.2.2:=(hB4.block pm hM3.lt hpm).trans hM3
  have hB5:Hid (ButF (fun b=>b=pm∨FF pa bm nv C b) w w4):=hide (ButF.trans (F:=fun b=>b=pm∨FF pa bm nv C b) ⟨hB2.out.os,hB2.out.tape,hB2.out.output,hB2.out.size,fun i hi hn=>hB2.out.block i hi fun e=>hn (.inl e)⟩ hB4 fun b _ h=> .inr h)
  replace hA4:=hide hA4
  replace hM4:=hide hM4
  have hF5:Hid (∀b,FF pa bm nv' C' b→FF pa bm nv C b∨w.heap.size≤b):=hide fun b hb=>(hF4 b hb).imp id fun h=>Nat.le_trans hs3.out h
  clear hB4 hF4 hA3 hM3 y3
  go_wp2
  refine bodyPost_ret (results_tmp2 rfl _ _ _) rfl ?_
  refine .inr (.inr ⟨hin,?_,rfl,?_,C',nv',X',D',hA4.out,hF5.out,hB5.out⟩)
  ·rw[hms]
   exact hM0
  rw[hms]
  exact hM4.out
 go_wp2
 refine bodyPost_ret (results_tmp2 rfl _ _ _) rfl ?_
 refine .inr (.inl ⟨hin,?_,?_,?_,hB2.out⟩)
 ·rw[hms]
  exact hM0
 ·rw[hms]
  rfl
 rw[hms]
 exact hM3
end Nt
end Go.Proofs.YtbgpddlcfiiiaaaGreatDoor

namespace Go.Proofs.YtbgpddlcfiiiaaaGreatDoor
open Go.RowKit Go.Sort Go.Shelf
open Tm At
namespace Nt

variable {w:World}{pa pm B bm:Nat}{L:List Nd}{C:Nat→Prop}{nv:Value}{X:List NR}{D:DataW Value}
theorem len8_n (hA:AS w pa pm L C B nv bm X D):
  Calls Tryz.prog 112 #[.pointer (some ⟨pa,0,none⟩)] w fun e w'=>e= .returned (.int .i64 (L.length:Int))∧w'=w:=by
 have u1:w.cell? ⟨pa,1,none⟩=some nv:=cell_of_row _ pa 1 _ _ (0,0) hA.blk
 obtain⟨av,cv,rfl⟩: ∃a c,nv= .slice a L.length c:=by
  rcases Joins.ownsRow_forms hA.row with⟨h1,h2⟩|⟨g,cap,h1⟩
  ·exact⟨none,0,by rw[h1,h2]⟩
  exact⟨_,cap,h1⟩
 clear hA
 go_enter Tryz.func112,Tryz.ntmps112
 go_wp2
 go_ret
 exact⟨rfl,rfl⟩
theorem lacks_n (hA:AS w pa pm L C B nv bm X D)(id:Int):
  Calls Tryz.prog 69 #[.pointer (some ⟨pa,0,none⟩),.int .i64 id] w fun e w'=>e= .returned (.bool (decide (id<0∨(L.length:Int)≤id)))∧w'=w:=by
 by_cases h:id<0
 ·go_enter Tryz.func69,Tryz.ntmps69
  go_wp2_with fail
  go_ret
  refine⟨?_,rfl⟩
  rw[decide_eq_true (Or.inl h)]
  rfl
 go_enter Tryz.func69,Tryz.ntmps69
 go_wp2_with(go_at_call 112;refine(len8_n hA).mono ?_;rintro e w1 ⟨rfl,rfl⟩)
 go_ret
 refine⟨?_,rfl⟩
 have e:decide (id<0∨(L.length:Int)≤id)=decide ((L.length:Int)≤id):=by
  apply decide_eq_decide.2
  omega
 rw[e]
 rfl
theorem fit_kind {f:Atm}(h:Fit f):0≤f.kind∧f.kind≤4:=by
 rcases h with⟨h|h,_⟩|⟨h,_⟩|⟨h|h,_⟩ <;> omega
theorem gb6 (w:World)(p:Nat)(x0 x1 x2 x3 x4 x5:Value):w.grownBy ((((((w.setCell ⟨p,0,none⟩ x0).setCell ⟨p,1,none⟩ x1).setCell ⟨p,2,none⟩ x2).setCell ⟨p,3,none⟩ x3).setCell ⟨p,4,none⟩ x4).setCell ⟨p,5,none⟩ x5) (some p):=
 gb_trans (gb_trans (gb_trans (gb_trans (gb_trans (gb_set w p 0 x0) (gb_set _ p 1 x1)) (gb_set _ p 2 x2)) (gb_set _ p 3 x3)) (gb_set _ p 4 x4)) (gb_set _ p 5 x5)
theorem md_back {w2 w':World}{e:Ending}{nn kk c er:Int}{n:Nd}(h:MD w2 w' e pa pm L C B nv bm nn kk c er n)(hb:Below w.heap.size w w2):MD w w' e pa pm L C B nv bm nn kk c er n:=by
 rcases h with⟨i,h1,h2,h3⟩|⟨h1,h2,h3,h4,h5⟩|⟨h1,h2,h3,h4,C',nv',X',D',h5,h6,h7⟩
 ·exact .inl ⟨i,h1,h2,grow_step h3 hb⟩
 ·exact .inr (.inl ⟨h1,h2,h3,h4,(Go.Proofs.YtbgpddlcfiiiaaaGreatDoor.Below.but hb pm).trans h5⟩)
 exact .inr (.inr ⟨h1,h2,h3,h4,C',nv',X',D',h5,fun b hb'=>(h6 b hb').imp id fun h=>Nat.le_trans hb.size h,ButF.trans (butF_below hb) h7 fun _ _ h=>h⟩)
def AM (w w':World)(e:Ending)(pa pm:Nat)(L:List Nd)(C:Nat→Prop)(B:Nat)(nv:Value)(bm:Nat)(nn kk c er:Int)(f:Atm ⊕ Int):Prop:=match f with
 | .inr x=>e= .returned (.tuple #[.int .i64 0,.int .i64 x])∧Below w.heap.size w w'
 | .inl f=>MD w w' e pa pm L C B nv bm nn kk c er ⟨f.kind,f.d,f.ps,f.k,0,[]⟩

theorem atom8_n {nn kk c er:Int}{kd:Int}{sd:Bool}{ad:Option Addr}{ld cd:Nat}{ap:Option Addr}{np cp:Nat}{sk:Bool}{ak:Option Addr}{lk ck:Nat}{d k:Int}{ps:List (Int × Int)}
  (hA:AS w pa pm L C 2097152 nv bm X D)(hM:MB w pm nn kk c er)(hpm: ¬FF pa bm nv C pm)(hc:0≤c)(hcn:c≤nn)(hnn:nn≤2000)(he:0≤er)(he2:er<256)(hd:Zm w sd ad ld cd d)(hld:ld≤B)(hP:Pr w ap np ps B)(hk:Zm w sk ak lk ck k)(hlk:lk≤B)(hn:np≤209716)(hB:B≤1500000)(hL:L.length≤1048576)(htab:Tab w):
  Calls Tryz.prog 17 #[.pointer (some ⟨pa,0,none⟩),.agg #[.int .i64 kd,.bool sd,.slice ad ld cd,.slice ap np cp,.bool sk,.slice ak lk ck]] w fun e w'=>AM w w' e pa pm L C 2097152 nv bm nn kk c er (formA kd d (nz (lays [] ps)) k):=by
 have b0:=below_alloc w (.cells #[.int .i64 kd,.bool sd,.slice ad ld cd,.slice ap np cp,.bool sk,.slice ak lk ck] 57)
 have x:=AB.new w kd sd ad ld cd ap np cp sk ak lk ck
 have u0:=x.c0
 have u1:=x.c1
 have u2:=x.c2
 have u3:=x.c3
 have u4:=x.c4
 have u5:=x.c5
 go_enter Tryz.func17,Tryz.ntmps17
 go_wp2_with fail
 clear u0 u1 u2 u3 u4 u5
 have hA1:=hA.below b0
 have hM1:=hM.below b0
 have hfl: ∀b,FF pa bm nv C b→b<w.heap.size:=fun b hb=>hA.fl hb
 have hml:=hM.lt
 replace hd:=hd.below b0
 replace hP:=hP.below b0
 replace hk:=hk.below b0
 have htw:=htab
 replace htab:=htab.below b0
 generalize w.alloc (.cells #[.int .i64 kd,.bool sd,.slice ad ld cd,.slice ap np cp,.bool sk,.slice ak lk ck] 57)=wb at*
 generalize hp:w.heap.size=p at*
 replace b0:Hid (Below w.heap.size w wb):=hp▸b0
 have hps:=hP.1
 have hxl:=x.lt
 refine(anorm_n hd hld hP hk hlk o_m o_m).mono ?_
 rintro e w1 ⟨qs,hS,hcs,hAN,k1⟩
 have hql:=std_len hS hcs
 obtain rfl:=lays_eq hS hcs
 replace x:=x.below k1
 replace hA1:=hA1.below k1
 replace hM1:=hM1.below k1
 replace htab:=htab.below k1
 replace b0:=hide (grow_step k1 b0.out)
 have hwb:=k1.size
 clear k1 hd hP hk hcs
 have g0:=x.c0
 have g1:=x.c1
 have g2:=x.c2
 have g3:=x.c3
 have g4:=x.c4
 have g5:=x.c5
 have h0:=x.f 0
 have h1:=x.f 1
 have h2:=x.f 2
 have h3:=x.f 3
 have h4:=x.f 4
 have h5:=x.f 5
 cases hf:formA kd d (nz (lays [] ps)) k with
 |inr er2=>
  rw[hf]at hAN
  have he9:_=_:=hAN
  subst he9
  have her:er2=11∨er2=1:=formA_er hf
  have kB:Hid (Below w.heap.size w ((((((w1.setCell ⟨p,0,none⟩ (.int .i64 0)).setCell ⟨p,1,none⟩ (.bool false)).setCell ⟨p,2,none⟩ (.slice none 0 0)).setCell ⟨p,3,none⟩ (.slice none 0 0)).setCell ⟨p,4,none⟩ (.bool false)).setCell ⟨p,5,none⟩ (.slice none 0 0))):=hide ((((((b0.out.setCell (p:=⟨p,0,none⟩) (Nat.le_of_eq hp) _).setCell (p:=⟨p,1,none⟩) (Nat.le_of_eq hp) _).setCell (p:=⟨p,2,none⟩) (Nat.le_of_eq hp) _).setCell (p:=⟨p,3,none⟩) (Nat.le_of_eq hp) _).setCell (p:=⟨p,4,none⟩) (Nat.le_of_eq hp) _).setCell (p:=⟨p,5,none⟩) (Nat.le_of_eq hp) _)
  clear hA hA1 hM hM1 htab htw x
  rcases her with rfl|rfl
  ·go_wp2
   refine bodyPost_ret (results_tmp2 rfl _ _ _) rfl ?_
   rw[hf]
   exact⟨rfl,kB.out⟩
  go_wp2
  refine bodyPost_ret (results_tmp2 rfl _ _ _) rfl ?_
  rw[hf]
  exact⟨rfl,kB.out⟩
 |inl f=>
  rw[hf]at hAN
  have hfit:=formA_fit hS hf
  have hprt:=(formA_prt hS hf).1
  have hkd:=fit_kind hfit
  obtain⟨fk,fd,fps,fkk⟩:=f
  obtain⟨sd1,ad1,ld1,cd1,ap1,np1,cp1,sk1,ak1,lk1,ck1,rfl,hz1,hlz1,hPn1,hnp1,hk1,hlk1,hfr⟩:=hAN
  dsimp only at hz1 hPn1 hk1 hprt hkd
  have hnp2:np1≤1048576:=by
   have h9:fps.length=np1:=hPn1.1
   have h8:fps.length≤(nz (lays [] ps)).length:=hprt
   omega
  have hU:NoU w1 p:=ab_noU x
  have gg:=gb6 w1 p (.int .i64 fk) (.bool sd1) (.slice ad1 ld1 cd1) (.slice ap1 np1 cp1) (.bool sk1) (.slice ak1 lk1 ck1)
  have hz2:=hide (hz1.grownU gg hU)
  have hk2:=hide (hk1.grownU gg hU)
  have hP2:=hide ((hPn1.away (fun b off e=>by have:=hfr b off e;omega) gg hU).mono (show _≤2097152 by omega))
  have hA2:=hide (hA1.move gg.size fun b hb=>gg.block b (hA1.fl hb) (by have:=hfl b hb;simp;omega))
  have hM2:Hid (MB ((((((w1.setCell ⟨p,0,none⟩ (.int .i64 fk)).setCell ⟨p,1,none⟩ (.bool sd1)).setCell ⟨p,2,none⟩ (.slice ad1 ld1 cd1)).setCell ⟨p,3,none⟩ (.slice ap1 np1 cp1)).setCell ⟨p,4,none⟩ (.bool sk1)).setCell ⟨p,5,none⟩ (.slice ak1 lk1 ck1)) pm nn kk c er):=hide ((gg.block pm hM1.lt (by simp;omega)).trans hM1)
  have x2:Hid (AB ((((((w1.setCell ⟨p,0,none⟩ (.int .i64 fk)).setCell ⟨p,1,none⟩ (.bool sd1)).setCell ⟨p,2,none⟩ (.slice ad1 ld1 cd1)).setCell ⟨p,3,none⟩ (.slice ap1 np1 cp1)).setCell ⟨p,4,none⟩ (.bool sk1)).setCell ⟨p,5,none⟩ (.slice ak1 lk1 ck1)) p fk sd1 ad1 ld1 cd1 ap1 np1 cp1 sk1 ak1 lk1 ck1):=hide (ab_fin x _ _ _ _ _ _ _ _ _ _ _ _)
  have kB:Hid (Below w.heap.size w ((((((w1.setCell ⟨p,0,none⟩ (.int .i64 fk)).setCell ⟨p,1,none⟩ (.bool sd1)).setCell ⟨p,2,none⟩ (.slice ad1 ld1 cd1)).setCell ⟨p,3,none⟩ (.slice ap1 np1 cp1)).setCell ⟨p,4,none⟩ (.bool sk1)).setCell ⟨p,5,none⟩ (.slice ak1 lk1 ck1))):=hide ((((((b0.out.setCell (p:=⟨p,0,none⟩) (Nat.le_of_eq hp) _).setCell (p:=⟨p,1,none⟩) (Nat.le_of_eq hp) _).setCell (p:=⟨p,2,none⟩) (Nat.le_of_eq hp) _).setCell (p:=⟨p,3,none⟩) (Nat.le_of_eq hp) _).setCell (p:=⟨p,4,none⟩) (Nat.le_of_eq hp) _).setCell (p:=⟨p,5,none⟩) (Nat.le_of_eq hp) _)
  have hT2:=hide (htw.below kB.out)
  clear hz1 hk1 hPn1 hA1 hM1 htab gg hfr
  iterate 14 (first|go_skip|go_guarded|go_step|go_upon|go_simp)
  clear g0 g1 g2 g3 g4 g5 h0 h1 h2 h3 h4 h5 x hU
  generalize (((((w1.setCell ⟨p,0,none⟩ (.int .i64 fk)).setCell ⟨p,1,none⟩ (.bool sd1)).setCell ⟨p,2,none⟩ (.slice ad1 ld1 cd1)).setCell ⟨p,3,none⟩ (.slice ap1 np1 cp1)).setCell ⟨p,4,none⟩ (.bool sk1)).setCell ⟨p,5,none⟩ (.slice ak1 lk1 ck1)=w2 at*
  have g0:=x2.out.c0
  have g1:=x2.out.c1
  have g2:=x2.out.c2
  have g3:=x2.out.c3
  have g4:=x2.out.c4
  have g5:=x2.out.c5
  go_wp2_with fail
  clear g0 g1 g2 g3 g4 g5
  refine(made_n (kids:=[]) (ka:=none) (kn:=0) (kc:=0) (vr:=0) hA2.out hM2.out hpm hc hcn hnn he he2 hz2.out o_m hP2.out hk2.out o_m ⟨rfl,.inl rfl⟩ (fun _ _ e _=>by cases e) (by unfold I64;omega) (by unfold I64;decide) o_m o_m o_m hL hT2.out).mono ?_
  rintro e w3 hMD
  have hMD2:=hide (md_back hMD kB.out)
  obtain⟨ra,rb,rfl⟩: ∃ra rb:Int,e= .returned (.tuple #[.int .i64 ra,.int .i64 rb]):=by
   rcases hMD with⟨i,_,h2,_⟩|⟨_,_,h3,_⟩|⟨_,_,h3,_⟩
   ·exact⟨_,_,h2⟩
   ·exact⟨_,_,h3⟩
   exact⟨_,_,h3⟩
  clear hMD
  go_wp2
  refine bodyPost_ret (results_tmp2 rfl _ _ _) rfl ?_
  rw[hf]
  exact hMD2.out
end Nt
namespace Nt

theorem binds_n {w:World}(kd:Int):Calls Tryz.prog 70 #[.int .i64 kd] w fun e w'=>e= .returned (.bool (decide (kd=7∨kd=8)))∧w'=w:=by
 by_cases h:kd=7
 ·subst h
  go_enter Tryz.func70,Tryz.ntmps70
  go_wp2
  go_ret
  exact⟨rfl,rfl⟩
 by_cases h8:kd=8
 ·subst h8
  go_enter Tryz.func70,Tryz.ntmps70
  go_wp2
  go_ret
  exact⟨rfl,rfl⟩
 go_enter Tryz.func70,Tryz.ntmps70
 go_wp2
 go_ret
 refine⟨?_,rfl⟩
 rw[decide_eq_false o_m]
 simp[h,h8]
def BI (w w':World)(e:Ending)(pa pm:Nat)(L:List Nd)(C:Nat→Prop)(B:Nat)(nv:Value)(bm:Nat)(nn kk c er kd v kid:Int):Prop:=
 if ¬(kd=7∨kd=8)then e= .returned (.tuple #[.int .i64 0,.int .i64 1])∧w'=w
 else if kid<0∨(L.length:Int)≤kid then e= .returned (.tuple #[.int .i64 0,.int .i64 80])∧w'=w
 else MD w w' e pa pm L C B nv bm nn kk c er ⟨kd,0,[],0,v,[kid]⟩

theorem bind8_n {w:World}{pa pm:Nat}{L:List Nd}{C:Nat→Prop}{nv:Value}{bm:Nat}{X:List NR}{D:DataW Value}{nn kk c er:Int}{kd v kid:Int}
  (hA:AS w pa pm L C 2097152 nv bm X D)(hM:MB w pm nn kk c er)(hpm: ¬FF pa bm nv C pm)(hc:0≤c)(hcn:c≤nn)(hnn:nn≤2000)(he:0≤er)(he2:er<256)(hv:I64 v)(hkid:I64 kid)(hL:L.length≤1048576)(htab:Tab w):
  Calls Tryz.prog 31 #[.pointer (some ⟨pa,0,none⟩),.int .i64 kd,.int .i64 v,.int .i64 kid] w fun e w'=>BI w w' e pa pm L C 2097152 nv bm nn kk c er kd v kid:=by
 go_enter Tryz.func31,Tryz.ntmps31
 by_cases hb:kd=7∨kd=8
 ·by_cases hl:kid<0∨(L.length:Int)≤kid
  ·go_wp2_with(first|(go_at_call 70;refine(binds_n kd).mono ?_;rintro e w1 ⟨rfl,rfl⟩;rw[decide_eq_true hb])|(go_at_call 69;refine(lacks_n hA kid).mono ?_;rintro e w1 ⟨rfl,rfl⟩;rw[decide_eq_true hl]))
   refine bodyPost_ret (results_tmp2 rfl _ _ _) rfl ?_
   unfold BI
   rw[if_neg (fun h=>h hb),if_pos hl]
   exact⟨rfl,rfl⟩
  go_wp2_with(first|(go_at_call 70;refine(binds_n kd).mono ?_;rintro e w1 ⟨rfl,rfl⟩;rw[decide_eq_true hb])|(go_at_call 69;refine(lacks_n hA kid).mono ?_;rintro e w1 ⟨rfl,rfl⟩;rw[decide_eq_false hl]))
  have ka:=below_alloc w1 (.cells #[.int .i64 kid] 3)
  have hcell:(w1.alloc (.cells #[.int .i64 kid] 3)).cell? ⟨w1.heap.size,0,none⟩=some (.int .i64 kid):=cell_of_row _ w1.heap.size 0 _ _ (0,0) (heap_alloc_new w1 _)
  have hI:IL (w1.alloc (.cells #[.int .i64 kid] 3)) (some ⟨w1.heap.size,0,none⟩) 1 [kid]:=⟨rfl,.inr ⟨w1.heap.size,0,rfl,by simp,fun i hi=>by
   obtain rfl:i=0:=by simp at hi;omega
   exact⟨hcell,hkid⟩⟩⟩
  have hml:=hM.lt
  have hml2:InF (fun b=>b≠pm) (some ⟨w1.heap.size,0,none⟩) 1:=fun b off e _=>by cases e;omega
  have hmade:=made_n (kids:=[kid]) (kc:=1) (kd:=kd) (sd:=false) (ad:=none) (ld:=0) (cd:=0) (ap:=none) (np:=0) (cp:=0) (sk:=false) (ak:=none) (lk:=0) (ck:=0) (d:=0) (k:=0) (ps:=[]) (vr:=v) (hA.below ka) (hM.below ka) hpm hc hcn hnn he he2 (zn_zero _) o_m (pn_nil _ _ _) (zn_zero _) o_m hI hml2 (by unfold I64;omega) hv o_m o_m o_m hL (htab.below ka)
  replace hmade:=hide hmade
  go_wp2_with fail
  refine hmade.out.mono ?_
  rintro e w3 hMD
  have hMD2:=hide (md_back hMD ka)
  obtain⟨ra,rb,rfl⟩: ∃ra rb:Int,e= .returned (.tuple #[.int .i64 ra,.int .i64 rb]):=by
   rcases hMD with⟨i,_,h2,_⟩|⟨_,_,h3,_⟩|⟨_,_,h3,_⟩
   ·exact⟨_,_,h2⟩
   ·exact⟨_,_,h3⟩
   exact⟨_,_,h3⟩
  clear hMD hmade
  go_wp2
  refine bodyPost_ret (results_tmp2 rfl _ _ _) rfl ?_
  unfold BI
  rw[if_neg (fun h=>h hb),if_neg hl]
  exact hMD2.out
 go_wp2_with(go_at_call 70;refine(binds_n kd).mono ?_;rintro e w1 ⟨rfl,rfl⟩;rw[decide_eq_false hb])
 refine bodyPost_ret (results_tmp2 rfl _ _ _) rfl ?_
 unfold BI
 rw[if_pos hb]
 exact⟨rfl,rfl⟩
end Nt
namespace Nt

variable {w:World}{s t:Bool}{a:Option Addr}{l c b:Nat}
def neg1 (ps:List (Int × Int)):Bool:=match ps with
 | []=>false
 |p::_=>decide (p.2<0)
def tz (t:Bool)(z:Int):Int:=if t then -z else z
def tP (t:Bool)(ps:List (Int × Int)):List (Int × Int):=ps.map fun p=>(p.1,tz t p.2)
def lnP (ps:List (Int × Int)):List (Int × Int):=tP (neg1 ps) ps
def mE (id:Int)(x:NR):Array Value:=#[.int .i64 id,.int .i64 x.kd,.bool x.sd,.slice x.ad x.ld x.cd,.slice x.ap x.np x.cp,.bool x.sk,.slice x.ak x.lk x.ck,.int .i64 x.vr,.slice x.ka x.kn x.kc]
theorem zn_neg {z:Int}(h:Zn w s a l c z):s=decide (z<0):=by
 obtain⟨n,h1,h2,h3⟩:=h
 have h0:=h1.nm.nonneg
 cases s with
 |false=>simp[sg]at h2;rw[eq_comm,decide_eq_false_iff_not];omega
 |true=>simp[sg]at h2;rw[eq_comm,decide_eq_true_eq];have:=h3 rfl;omega
theorem zm_turn {z:Int}(t:Bool)(h:Zm w s a l c z):Zm w (!(s==t)) a l c (tz t z):=by
 obtain⟨n,h1,rfl⟩:=h
 refine⟨n,h1,?_⟩
 cases s <;> cases t <;> simp[sg,tz]

theorem falls_g {id:Int}{x:NR}{ps:List (Int × Int)}{B:Nat}(hP:Pn w x.ap x.np ps B)(h0:ps≠ []):
  Calls Tryz.prog 212 #[.agg (mE id x)] w fun e w'=>e= .returned (.bool (neg1 ps))∧Gr w w':=by
 obtain⟨kd,sd,ad,ld,cd,ap,np,cp,sk,ak,lk,ck,vr,ka,kn,kc⟩:=x
 dsimp only at hP
 have hg:=gr_alloc w (.cells (mE id ⟨kd,sd,ad,ld,cd,ap,np,cp,sk,ak,lk,ck,vr,ka,kn,kc⟩) 233)
 have hl:=List.length_pos_iff.2 h0
 have hn:=hP.1
 rcases hP.2 with h2|⟨b,off,rfl,hb,h2⟩
 ·omega
 obtain⟨s,a,l,c,e0,e1,e2,hz,-,-⟩:=h2 0 hl
 have hs:neg1 ps=s:=by
  rw[zn_neg hz]
  cases ps with
  |nil=>exact absurd rfl h0
  |cons p t=>rfl
 rw[hs]
 simp only[Nat.zero_mul,Nat.add_zero]at e1
 replace e1:=(hg.b.cell (p:=⟨b,off+1,none⟩) hb).trans e1
 replace hg:=hide hg
 clear hz e0 e2 h2 hs
 simp only[mE]at*
 go_enter Tryz.func212,Tryz.ntmps212
 go_wp2_with fail
 go_ret
 exact⟨rfl,hg.out⟩

theorem turned_g :
  Calls Tryz.prog 233 #[.agg #[.bool s,.slice a l c],.bool t] w fun e w'=>e= .returned (.agg #[.bool (!(s==t)),.slice a l c])∧Gr w w':=by
 have hg:=hide ((gr_alloc w (.cells #[.bool s,.slice a l c] 26)).trans (gr_alloc _ (.cells #[.bool (!(s==t)),.slice a l c] 26)))
 have y:=zb_new (w.alloc (.cells #[.bool s,.slice a l c] 26)) (!(s==t)) a l c
 rw[show(w.alloc (.cells #[.bool s,.slice a l c] 26)).heap.size=w.heap.size+1 from by simp]at y
 go_enter Tryz.func233,Tryz.ntmps233
 go_wp2_with fail
 refine bodyPost_ret (results_cell_row rfl _ _ (w.heap.size+1) 26 _ (0,0) _ rfl y Tryz.underlying26 rfl k_f) rfl ?_
 exact⟨rfl,hg.out⟩

def BB (w:World)(b:Nat)(t:Bool):Prop:=w.heap[b]? =some (.cells #[.bool t] 4 (0,0))
theorem BB.lt (h:BB w b t):b<w.heap.size:=lt_of_block h
theorem BB.c0 (h:BB w b t):w.cell? ⟨b,0,none⟩=some (.bool t):=cell_of_row w b 0 _ _ (0,0) h
theorem BB.below {w':World}(h:BB w b t)(k:Below w.heap.size w w'):BB w' b t:=(k.block b h.lt).trans h

theorem gr_step {w0 w1 w2:World}(k:Gr w1 w2)(h:Gr w0 w1):Gr w0 w2:=h.trans k
theorem gr_drew {w0:World}(h:Gr w0 w):Gr w0 w.drew:=h.trans (gr_drewN w 1)
theorem cline_g {v1 v2:Int}{s1 s2:Bool}{a1 a2:Option Addr}{l1 c1 l2 c2:Nat}{z1 z2:Int}{bx bb:Nat}{t1 t2:Bool}(hx:BB w bx t1)(hy:BB w bb t2)(h1:Zm w s1 a1 l1 c1 z1)(h2:Zm w s2 a2 l2 c2 z2)(hl1:l1≤1099511627776)(hl2:l2≤1099511627776):
  Calls Tryz.prog 232 #[.agg #[.int .i64 v1,.bool s1,.slice a1 l1 c1],.agg #[.int .i64 v2,.bool s2,.slice a2 l2 c2],.pointer (some ⟨bx,0,none⟩),.pointer (some ⟨bb,0,none⟩)] w fun e w'=>e= .returned (.int .i64 (ordQ (v1,tz t1 z1) (v2,tz t2 z2)))∧Gr w w':=by
 go_enter Tryz.func232,Tryz.ntmps232
 go_wp2_with fail
 have x:=(pb_new w v1 s1 a1 l1 c1)
 have x2:=pb_new (w.alloc (.cells #[.int .i64 v1,.bool s1,.slice a1 l1 c1] 117)) v2 s2 a2 l2 c2
 have b1:=below_alloc (w.alloc (.cells #[.int .i64 v1,.bool s1,.slice a1 l1 c1] 117)) (.cells #[.int .i64 v2,.bool s2,.slice a2 l2 c2] 117)
 replace x:PB _ _ _ _ _ _ _:=(b1.block _ x.lt).trans x
 have b0:=hide ((gr_alloc w (.cells #[.int .i64 v1,.bool s1,.slice a1 l1 c1] 117)).trans (gr_alloc _ (.cells #[.int .i64 v2,.bool s2,.slice a2 l2 c2] 117)))
 rw[show(w.alloc (.cells #[.int .i64 v1,.bool s1,.slice a1 l1 c1] 117)).heap.size=w.heap.size+1 from by simp]at x2
 replace h1:=h1.below b0.out.b
 replace h2:=h2.below b0.out.b
 replace hx:=hx.below b0.out.b
 replace hy:=hy.below b0.out.b
 clear b1
 generalize (w.alloc (.cells #[.int .i64 v1,.bool s1,.slice a1 l1 c1] 117)).alloc (.cells #[.int .i64 v2,.bool s2,.slice a2 l2 c2] 117)=wb at*
 generalize hp:w.heap.size=p at*
 replace hp:=hide hp
 generalize p+1=q at*
 have u0:=x.c0
 have y0:=x2.c0
 refine(compare_g (x:=v1) (y:=v2)).mono ?_
 rintro e w1 ⟨rfl,rfl⟩
 by_cases he:cmpI v1 v2=0
 ·have e0:=hide (show ordQ (v1,tz t1 z1) (v2,tz t2 z2)=cmpI (tz t1 z1) (tz t2 z2)by simp[ordQ,he])
  rw[he]
  have hS:Hid (∀w',Gr w1 w'→w'.cell? ⟨p,1,none⟩=some (.bool s1)∧w'.cell? ⟨p,2,none⟩=some (.slice a1 l1 c1)∧w'.cell? ⟨q,1,none⟩=some (.bool s2)∧w'.cell? ⟨q,2,none⟩=some (.slice a2 l2 c2)∧w'.cell? ⟨bx,0,none⟩=some (.bool t1)∧w'.cell? ⟨bb,0,none⟩=some (.bool t2)∧Gr w1 w'):=hide fun w' k=>⟨(k.b.cell (p:=⟨p,1,none⟩) x.lt).trans x.c1,(k.b.cell (p:=⟨p,2,none⟩) x.lt).trans x.c2,(k.b.cell (p:=⟨q,1,none⟩) x2.lt).trans x2.c1,(k.b.cell (p:=⟨q,2,none⟩) x2.lt).trans x2.c2,(k.b.cell (p:=⟨bx,0,none⟩) hx.lt).trans hx.c0,(k.b.cell (p:=⟨bb,0,none⟩) hy.lt).trans hy.c0,k⟩
  clear x x2 hx hy u0 y0
  go_wp2_with fail
  go_region_held3 (fun w'=>w'.cell? ⟨p,1,none⟩=some (.bool s1)∧w'.cell? ⟨p,2,none⟩=some (.slice a1 l1 c1)∧w'.cell? ⟨q,1,none⟩=some (.bool s2)∧w'.cell? ⟨q,2,none⟩=some (.slice a2 l2 c2)∧w'.cell? ⟨bx,0,none⟩=some (.bool t1)∧w'.cell? ⟨bb,0,none⟩=some (.bool t2)∧Gr w1 w')
   ((refine hS.out _ ?_;(repeat' (first|with_reducible exact Gr.refl _|with_reducible assumption|with_reducible refine gr_step (by with_reducible assumption) ?_|with_reducible refine gr_drew ?_|with_reducible refine gr_drewM ?_ _))))
   (first|(go_at_call 233;refine Calls.mono turned_g ?_;rintro e w3 ⟨rfl,hg3⟩)|(go_at_call 133;refine Calls.mono (zcmp_g (zm_turn t1 (h1.below (Gr.b (by(repeat' (first|with_reducible exact Gr.refl _|with_reducible assumption|with_reducible refine gr_step (by with_reducible assumption) ?_|with_reducible refine gr_drew ?_|with_reducible refine gr_drewM ?_ _)))))) (zm_turn t2 (h2.below (Gr.b (by(repeat' (first|with_reducible exact Gr.refl _|with_reducible assumption|with_reducible refine gr_step (by with_reducible assumption) ?_|with_reducible refine gr_drew ?_|with_reducible refine gr_drewM ?_ _)))))) hl1 hl2) ?_;rintro e w4 ⟨rfl,hg4⟩))
  rename_i hH
  have kf:=hide (b0.out.trans hH.2.2.2.2.2.2)
  clear hH hS h1 h2
  go_wp2
  go_ret
  exact⟨ret_int e0.out.symm,kf.out⟩
 have e0:=hide (show ordQ (v1,tz t1 z1) (v2,tz t2 z2)=cmpI v1 v2 by simp[ordQ,he])
 generalize cmpI v1 v2=oo at*
 clear x x2 hx hy u0 y0 h1 h2
 go_wp2
 go_ret
 exact⟨ret_int e0.out.symm,b0.out⟩

theorem compareL_g {ad:Option Addr}{n cp:Nat}{ps:List (Int × Int)}{ad2:Option Addr}{n2 cp2:Nat}{qs:List (Int × Int)}{B bx bb:Nat}{t1 t2:Bool}(hx:BB w bx t1)(hy:BB w bb t2)(hP:Pr w ad n ps B)(hP2:Pr w ad2 n2 qs B)(hn:n≤536870912)(hB:B≤1099511627776):
  Calls Tryz.prog 163 #[.slice ad n cp,.slice ad2 n2 cp2,.func (.func 232) #[] #[.pointer (some ⟨bx,0,none⟩),.pointer (some ⟨bb,0,none⟩)]] w fun e w'=>e= .returned (.int .i64 (ordL (tP t1 ps) (tP t2 qs)))∧Gr w w':=by
 obtain⟨h1,hP⟩:=hP
 obtain⟨h2,hP2⟩:=hP2
 have hl1:(tP t1 ps).length=n:=by unfold tP;rw[List.length_map,h1]
 have hl2:(tP t2 qs).length=n2:=by unfold tP;rw[List.length_map,h2]
 have eg: ∀args w,(callFunc 232 args).run Tryz.prog w= .ok (.enter 232 args) w:=enters_of Tryz.func232 k_f rfl
 go_enter Tryz.func163,Tryz.ntmps163
 go_wp2_with fail
 go_loopw [13] (fun i wr=> ∃t:Nat,t≤n∧i= .int .i64 t∧Hid (ordL (tP t1 ps) (tP t2 qs)=ordL ((tP t1 ps).drop t) ((tP t2 qs).drop t))∧t≤n2∧Hid (Gr w wr)) (fun i _=>n-(intOf i).toNat)
 case atStart=>exact⟨0,Nat.zero_le _,rfl,by show _=_;simp,Nat.zero_le _,hide (Gr.refl _)⟩
 case round=>
  obtain⟨t,ht,rfl,hord,ht2,kr⟩:=hrel
  by_cases htn:t<n
  ·rcases hP with hP|⟨b1,o1,rfl,hP⟩
   ·omega
   obtain⟨s1,a1,l1,c1,e0,e1,e2,hz,hl1',hv⟩:=(hP.below kr.out.b).2 t o_m
   have ka:=gr_alloc wr (.cells #[.int .i64 ps[t].1,.bool s1,.slice a1 l1 c1] 117)
   by_cases htn2:t<n2
   ·rcases hP2 with hP2|⟨b2,o2,rfl,hP2⟩
    ·omega
    obtain⟨s2,a2,l2,c2,e3,e4,e5,hz2,hl2',hv2⟩:=(hP2.below kr.out.b).2 t o_m
    have hb2:=hP2.1
    have hlt:b2<wr.heap.size:=Nat.lt_of_lt_of_le hb2 kr.out.b.size
    have hdrop:=hide (ordL_drop (ps:=tP t1 ps) (qs:=tP t2 qs) (t:=t) o_m o_m)
    rw[show(tP t1 ps)[t]'o_m=(ps[t].1,tz t1 ps[t].2)by simp[tP],show(tP t2 qs)[t]'o_m=(qs[t].1,tz t2 qs[t].2)by simp[tP]]at hdrop
    generalize hpp:ps[t]=pp at*
    generalize hqq:qs[t]=qq at*
    have kb:=gr_alloc (wr.alloc (.cells #[.int .i64 pp.1,.bool s1,.slice a1 l1 c1] 117)) (.cells #[.int .i64 qq.1,.bool s2,.slice a2 l2 c2] 117)
    have kab:=hide (ka.trans kb)
    have hcall:=cline_g (v1:=pp.1) (v2:=qq.1) (hx.below (kr.out.trans kab.out).b) (hy.below (kr.out.trans kab.out).b) (hz.below kab.out.b) (hz2.below kab.out.b) o_m o_m
    replace hpp:=hide hpp
    replace hqq:=hide hqq
    clear ka kb
    go_wp2_with fail
    refine hcall.mono ?_
    rintro e w3 ⟨rfl,k3⟩
    replace k3:=hide (kr.out.trans (kab.out.trans k3))
    clear hcall kab
    by_cases ho:ordQ (pp.1,tz t1 pp.2) (qq.1,tz t2 qq.2)=0
    ·have hnext:=hide (hord.out.trans (hdrop.out.trans (by rw[if_neg (by simp[ho])])))
     rw[ho]
     go_wp2_with fail
     exact⟨⟨t+1,by omega,by go_num,hnext,by omega,k3⟩,by simp[intOf];omega⟩
    have hval:=hide (hord.out.trans (hdrop.out.trans (by rw[if_pos ho])))
    generalize ordQ (pp.1,tz t1 pp.2) (qq.1,tz t2 qq.2)=oo at*
    go_wp2
    go_ret
    exact⟨ret_int hval.out.symm,k3.out⟩
   have hval:=hide (hord.out.trans (ordL_left (ps:=tP t1 ps) (qs:=tP t2 qs) (t:=t) o_m o_m))
   have kf:=hide (kr.out.trans ka)
   clear ka
   go_wp2
   go_ret
   exact⟨ret_int hval.out.symm,kf.out⟩
  obtain rfl:t=n:=by omega
  by_cases htn2:t<n2
  ·have hval:=hide (hord.out.trans (ordL_right (ps:=tP t1 ps) (qs:=tP t2 qs) (t:=t) o_m o_m))
   go_wp2
   go_ret
   exact⟨ret_int hval.out.symm,kr.out⟩
  have hval:=hide (hord.out.trans (ordL_both (ps:=tP t1 ps) (qs:=tP t2 qs) (t:=t) o_m o_m))
  go_wp2
  go_ret
  exact⟨ret_int hval.out.symm,kr.out⟩
end Nt
namespace Nt

variable {w:World}{b:Nat}{i:Int}{x:NR}{t:Bool}
def M9B (w:World)(b:Nat)(i:Int)(x:NR):Prop:=w.heap[b]? =some (.cells (mE i x) 233 (0,0))
theorem M9B.lt (h:M9B w b i x):b<w.heap.size:=lt_of_block h
theorem M9B.below {w':World}(h:M9B w b i x)(k:Below w.heap.size w w'):M9B w' b i x:=(k.block b h.lt).trans h
theorem M9B.c (h:M9B w b i x)(j:Nat):w.cell? ⟨b,j,none⟩=(mE i x)[j]?:=cell_of_row w b j _ _ (0,0) h
theorem BB.set (h:BB w b t)(t':Bool):BB (w.setCell ⟨b,0,none⟩ (.bool t')) b t':=heap_setCell_same w b 0 _ _ _ h
theorem BB.set_ne {c:Nat}(h:BB w b t)(hne:b≠c)(v:Value):BB (w.setCell ⟨c,0,none⟩ v) b t:=((gb_set w c 0 v).block b h.lt (fun e=>hne (Option.some.inj e))).trans h
theorem BB.f (h:BB w b t):w.frozen? ⟨b,0,none⟩=false:=frozen_of_row w b 0 _ _ h
theorem gr_set {w':World}(h:Gr w w'){b:Nat}(hb:w.heap.size≤b)(v:Value):Gr w (w'.setCell ⟨b,0,none⟩ v):=⟨h.b.setCell (p:=⟨b,0,none⟩) hb v,h.d⟩

theorem al_b {v:World}(k:Gr v w): ∃wL,Hid (w.alloc (.cells #[.bool false] 4)=wL)∧BB wL w.heap.size false∧v.heap.size≤w.heap.size∧Below w.heap.size w wL∧Gr v wL:=⟨_,rfl,heap_alloc_new _ _,k.b.size,(gr_alloc _ _).b,k.trans (gr_alloc _ _)⟩

theorem lines_g {j:Int}{y:NR}{ps qs:List (Int × Int)}{B:Nat}(hP:Pn w x.ap x.np ps B)(h0:ps≠ [])(hP2:Pn w y.ap y.np qs B)(h02:qs≠ [])(hn:x.np≤536870912)(hB:B≤1099511627776):
  Calls Tryz.prog 211 #[.agg (mE i x),.agg (mE j y)] w fun e w'=>e= .returned (.int .i64 (ordL (lnP ps) (lnP qs)))∧Gr w w':=by
 have b0:=(gr_alloc w (.cells (mE i x) 233)).trans (gr_alloc _ (.cells (mE j y) 233))
 have zx:M9B _ w.heap.size i x:=M9B.below (heap_alloc_new w (.cells (mE i x) 233)) (below_alloc _ (.cells (mE j y) 233))
 have zy:M9B ((w.alloc (.cells (mE i x) 233)).alloc (.cells (mE j y) 233)) (w.alloc (.cells (mE i x) 233)).heap.size j y:=heap_alloc_new _ _
 rw[show(w.alloc (.cells (mE i x) 233)).heap.size=w.heap.size+1 from by simp]at zy
 have hF1:Hid (∀w',Gr ((w.alloc (.cells (mE i x) 233)).alloc (.cells (mE j y) 233)) w'→Calls Tryz.prog 212 #[.agg (mE i x)] w' fun e w''=>e= .returned (.bool (neg1 ps))∧Gr w' w''):=hide fun w' k=>falls_g (hP.below (b0.trans k).b) h0
 have hF2:Hid (∀w',Gr ((w.alloc (.cells (mE i x) 233)).alloc (.cells (mE j y) 233)) w'→Calls Tryz.prog 212 #[.agg (mE j y)] w' fun e w''=>e= .returned (.bool (neg1 qs))∧Gr w' w''):=hide fun w' k=>falls_g (hP2.below (b0.trans k).b) h02
 have hC:Hid (∀w' bx bb,Gr ((w.alloc (.cells (mE i x) 233)).alloc (.cells (mE j y) 233)) w'→BB w' bx (neg1 ps)→BB w' bb (neg1 qs)→Calls Tryz.prog 163 #[.slice x.ap x.np x.cp,.slice y.ap y.np y.cp,.func (.func 232) #[] #[.pointer (some ⟨bx,0,none⟩),.pointer (some ⟨bb,0,none⟩)]] w' fun e w''=>e= .returned (.int .i64 (ordL (lnP ps) (lnP qs)))∧Gr w' w''):=hide fun w' bx bb k z1 z2=>compareL_g z1 z2 (hP.below (b0.trans k).b).pr (hP2.below (b0.trans k).b).pr hn hB
 replace b0:=hide b0
 clear hP hP2
 obtain⟨kd1,sd1,ad1,ld1,cd1,ap1,np1,cp1,sk1,ak1,lk1,ck1,vr1,ka1,kn1,kc1⟩:=x
 obtain⟨kd2,sd2,ad2,ld2,cd2,ap2,np2,cp2,sk2,ak2,lk2,ck2,vr2,ka2,kn2,kc2⟩:=y
 simp only[mE]at*
 go_enter Tryz.func211,Tryz.ntmps211
 go_wp2_with fail
 generalize (w.alloc (.cells #[.int .i64 i,.int .i64 kd1,.bool sd1,.slice ad1 ld1 cd1,.slice ap1 np1 cp1,.bool sk1,.slice ak1 lk1 ck1,.int .i64 vr1,.slice ka1 kn1 kc1] 233)).alloc (.cells #[.int .i64 j,.int .i64 kd2,.bool sd2,.slice ad2 ld2 cd2,.slice ap2 np2 cp2,.bool sk2,.slice ak2 lk2 ck2,.int .i64 vr2,.slice ka2 kn2 kc2] 233)=wB0 at*
 generalize w.heap.size=p at*
 generalize p+1=q at*
 have hS:Hid (∀w',Gr wB0 w'→w'.cell? ⟨p,0,none⟩=some (.int .i64 i)∧w'.cell? ⟨p,1,none⟩=some (.int .i64 kd1)∧w'.cell? ⟨p,2,none⟩=some (.bool sd1)∧w'.cell? ⟨p,3,none⟩=some (.slice ad1 ld1 cd1)∧w'.cell? ⟨p,4,none⟩=some (.slice ap1 np1 cp1)∧w'.cell? ⟨p,5,none⟩=some (.bool sk1)∧w'.cell? ⟨p,6,none⟩=some (.slice ak1 lk1 ck1)∧w'.cell? ⟨p,7,none⟩=some (.int .i64 vr1)∧w'.cell? ⟨p,8,none⟩=some (.slice ka1 kn1 kc1)∧w'.cell? ⟨q,0,none⟩=some (.int .i64 j)∧w'.cell? ⟨q,1,none⟩=some (.int .i64 kd2)∧w'.cell? ⟨q,2,none⟩=some (.bool sd2)∧w'.cell? ⟨q,3,none⟩=some (.slice ad2 ld2 cd2)∧w'.cell? ⟨q,4,none⟩=some (.slice ap2 np2 cp2)∧w'.cell? ⟨q,5,none⟩=some (.bool sk2)∧w'.cell? ⟨q,6,none⟩=some (.slice ak2 lk2 ck2)∧w'.cell? ⟨q,7,none⟩=some (.int .i64 vr2)∧w'.cell? ⟨q,8,none⟩=some (.slice ka2 kn2 kc2)):=hide fun w' k=>⟨(k.b.cell (p:=⟨p,0,none⟩) zx.lt).trans (zx.c 0),(k.b.cell (p:=⟨p,1,none⟩) zx.lt).trans (zx.c 1),(k.b.cell (p:=⟨p,2,none⟩) zx.lt).trans (zx.c 2),(k.b.cell (p:=⟨p,3,none⟩) zx.lt).trans (zx.c 3),(k.b.cell (p:=⟨p,4,none⟩) zx.lt).trans (zx.c 4),(k.b.cell (p:=⟨p,5,none⟩) zx.lt).trans (zx.c 5),(k.b.cell (p:=⟨p,6,none⟩) zx.lt).trans (zx.c 6),(k.b.cell (p:=⟨p,7,none⟩) zx.lt).trans (zx.c 7),(k.b.cell (p:=⟨p,8,none⟩) zx.lt).trans (zx.c 8),(k.b.cell (p:=⟨q,0,none⟩) zy.lt).trans (zy.c 0),(k.b.cell (p:=⟨q,1,none⟩) zy.lt).trans (zy.c 1),(k.b.cell (p:=⟨q,2,none⟩) zy.lt).trans (zy.c 2),(k.b.cell (p:=⟨q,3,none⟩) zy.lt).trans (zy.c 3),(k.b.cell (p:=⟨q,4,none⟩) zy.lt).trans (zy.c 4),(k.b.cell (p:=⟨q,5,none⟩) zy.lt).trans (zy.c 5),(k.b.cell (p:=⟨q,6,none⟩) zy.lt).trans (zy.c 6),(k.b.cell (p:=⟨q,7,none⟩) zy.lt).trans (zy.c 7),(k.b.cell (p:=⟨q,8,none⟩) zy.lt).trans (zy.c 8)⟩
 refine Code.wp_mono (Q:=fun e a' W'=>e= .normal∧∃bx bb,a'=⟨List.toArray ((.agg #[.int .i64 i,.int .i64 kd1,.bool sd1,.slice ad1 ld1 cd1,.slice ap1 np1 cp1,.bool sk1,.slice ak1 lk1 ck1,.int .i64 vr1,.slice ka1 kn1 kc1]:Value)::(.agg #[.int .i64 j,.int .i64 kd2,.bool sd2,.slice ad2 ld2 cd2,.slice ap2 np2 cp2,.bool sk2,.slice ak2 lk2 ck2,.int .i64 vr2,.slice ka2 kn2 kc2]:Value)::(.pointer (some ⟨p,0,none⟩):Value)::(.pointer (some ⟨q,0,none⟩):Value)::(.int .i64 0:Value)::(.pointer (some ⟨bx,0,none⟩):Value)::(.pointer (some ⟨bb,0,none⟩):Value)::(.agg #[.int .i64 i,.int .i64 kd1,.bool sd1,.slice ad1 ld1 cd1,.slice ap1 np1 cp1,.bool sk1,.slice ak1 lk1 ck1,.int .i64 vr1,.slice ka1 kn1 kc1]:Value)::(.bool (neg1 ps):Value)::(.agg #[.int .i64 j,.int .i64 kd2,.bool sd2,.slice ad2 ld2 cd2,.slice ap2 np2 cp2,.bool sk2,.slice ak2 lk2 ck2,.int .i64 vr2,.slice ka2 kn2 kc2]:Value)::(.bool (neg1 qs):Value)::undef::undef::undef::undef::undef::undef::undef::undef::undef::undef:: []),[]⟩∧BB W' bx (neg1 ps)∧BB W' bb (neg1 qs)∧Gr wB0 W') ?_ ?_
 ·rintro e a' W' ⟨rfl,bx,bb,rfl,z1,z2,k⟩
  have hcc:=hide (hC.out W' bx bb k z1 z2)
  obtain⟨u0,u1,u2,u3,u4,u5,u6,u7,u8,v0,v1,v2,v3,v4,v5,v6,v7,v8⟩:=hS.out W' k
  have kk:=hide (b0.out.trans k)
  clear hS hC hF1 hF2 z1 z2 k b0
  go_wp2_with fail
  refine hcc.out.mono ?_
  rintro e w9 ⟨rfl,k9⟩
  replace kk:=hide (kk.out.trans k9)
  clear hcc k9
  go_wp2
  go_ret
  exact⟨rfl,kk.out⟩
 clear hC
 refine wp_region_held_drew (S:=fun w'=>w'.cell? ⟨p,0,none⟩=some (.int .i64 i)∧w'.cell? ⟨p,1,none⟩=some (.int .i64 kd1)∧w'.cell? ⟨p,2,none⟩=some (.bool sd1)∧w'.cell? ⟨p,3,none⟩=some (.slice ad1 ld1 cd1)∧w'.cell? ⟨p,4,none⟩=some (.slice ap1 np1 cp1)∧w'.cell? ⟨p,5,none⟩=some (.bool sk1)∧w'.cell? ⟨p,6,none⟩=some (.slice ak1 lk1 ck1)∧w'.cell? ⟨p,7,none⟩=some (.int .i64 vr1)∧w'.cell? ⟨p,8,none⟩=some (.slice ka1 kn1 kc1)∧w'.cell? ⟨q,0,none⟩=some (.int .i64 j)∧w'.cell? ⟨q,1,none⟩=some (.int .i64 kd2)∧w'.cell? ⟨q,2,none⟩=some (.bool sd2)∧w'.cell? ⟨q,3,none⟩=some (.slice ad2 ld2 cd2)∧w'.cell? ⟨q,4,none⟩=some (.slice ap2 np2 cp2)∧w'.cell? ⟨q,5,none⟩=some (.bool sk2)∧w'.cell? ⟨q,6,none⟩=some (.slice ak2 lk2 ck2)∧w'.cell? ⟨q,7,none⟩=some (.int .i64 vr2)∧w'.cell? ⟨q,8,none⟩=some (.slice ka2 kn2 kc2)) k_f (hS.out _ (gr_drew (Gr.refl _))) (fun hHeld=> ?_)
 show wpAnyH _ _ _ _ _ 8 _ _ _
 have kW:=gr_drew (Gr.refl wB0)
 generalize wB0.drew=wQ at*
 refine wpAnyH_take (i:=0) (oi:=⟨some 7,_,_,_,_,_⟩) (v:=?_) rfl k_f k_f k_f (fun _ _ _ h=>(by cases h.1)) (Or.inl ⟨by rfl,?_⟩) (by assumption) ?_
 rotate_left
 ·intro wq hSw;(try dsimp only at hSw);go_simp;(try with_reducible rfl)
 (try simp only[pz])
 refine wpAnyH_take (i:=2) (oi:=⟨some 9,_,_,_,_,_⟩) (v:=?_) rfl k_f k_f k_f (fun _ _ _ h=>(by cases h.1)) (Or.inl ⟨by rfl,?_⟩) (by assumption) ?_
 rotate_left
 ·intro wq hSw;(try dsimp only at hSw);go_simp;(try with_reducible rfl)
 (try simp only[pz])
 repeat' first
  |with_reducible exact AllReadyH.nil
  |(refine wpAnyH_done ?_ ?_ _;decide+kernel;exact⟨rfl,_,_,rfl,zX,zY,kW⟩)
  |(refine wpAnyH_ready (rs:=[1,4,5]) ?_ ?_ ?_;decide+kernel;simp)
  |(refine wpAnyH_ready (rs:=[3,4,5]) ?_ ?_ ?_;decide+kernel;simp)
  |(refine wpAnyH_ready (rs:=[4,5]) ?_ ?_ ?_;decide+kernel;simp)
  |(refine wpAnyH_ready (rs:=[5]) ?_ ?_ ?_;decide+kernel;simp)
  |(refine wpAnyH_ready (rs:=[6]) ?_ ?_ ?_;decide+kernel;simp)
  |(refine wpAnyH_ready (rs:=[7]) ?_ ?_ ?_;decide+kernel;simp)
  |(refine wpAnyH_ready (rs:=[4]) ?_ ?_ ?_;decide+kernel;simp)
  |(refine wpAnyH_ready (rs:=[3,5]) ?_ ?_ ?_;decide+kernel;simp)
  |(refine wpAnyH_ready (rs:=[3]) ?_ ?_ ?_;decide+kernel;simp)
  |(refine wpAnyH_ready (rs:=[3,4]) ?_ ?_ ?_;decide+kernel;simp)
  |(refine wpAnyH_ready (rs:=[1,5]) ?_ ?_ ?_;decide+kernel;simp)
  |(refine wpAnyH_ready (rs:=[1]) ?_ ?_ ?_;decide+kernel;simp)
  |(refine wpAnyH_ready (rs:=[1,4]) ?_ ?_ ?_;decide+kernel;simp)
  |(
   first
    |(
     refine AllReadyH.cons (i:=1) (o:=⟨some 8,_,_,_,_,_⟩) rfl (fun K hK=> ?_) ?_
     go_simp
     refine Calls.mono (hF1.out _ kW) ?_
     rintro e wC ⟨rfl,kC⟩
     try have zX:=zX.below kC.b
     try have zY:=zY.below kC.b
     have kW:=kW.trans kC
     try go_wp2_with fail)
    |(
     refine AllReadyH.cons (i:=3) (o:=⟨some 10,_,_,_,_,_⟩) rfl (fun K hK=> ?_) ?_
     go_simp
     refine Calls.mono (hF2.out _ kW) ?_
     rintro e wC ⟨rfl,kC⟩
     try have zX:=zX.below kC.b
     try have zY:=zY.below kC.b
     have kW:=kW.trans kC
     try go_wp2_with fail)
    |(
     refine AllReadyH.cons (i:=4) (o:=⟨some 5,_,_,_,_,_⟩) rfl (fun K hK=> ?_) ?_
     try have hne:=Nat.ne_of_gt zY.lt
     obtain⟨wL,eL,zX,hbX,kL,kW⟩:=al_b kW
     try have zY:=zY.below kL
     go_simp
     rw[eL.out])
    |(
     refine AllReadyH.cons (i:=5) (o:=⟨some 6,_,_,_,_,_⟩) rfl (fun K hK=> ?_) ?_
     try have hne:=Nat.ne_of_lt zX.lt
     obtain⟨wL,eL,zY,hbY,kL,kW⟩:=al_b kW
     try have zX:=zX.below kL
     go_simp
     rw[eL.out])
    |(
     refine AllReadyH.cons (i:=6) (o:=⟨none,_,_,_,_,_⟩) rfl (fun K hK=> ?_) ?_
     have f0:=zX.c0
     have f1:=zX.f
     go_simp
     have zY:=zY.set_ne hne.symm (.bool (neg1 ps))
     have zX:=zX.set (neg1 ps)
     have kW:=gr_set kW hbX (.bool (neg1 ps)))
    |(
     refine AllReadyH.cons (i:=7) (o:=⟨none,_,_,_,_,_⟩) rfl (fun K hK=> ?_) ?_
     have f0:=zY.c0
     have f1:=zY.f
     go_simp
     have zX:=zX.set_ne hne (.bool (neg1 qs))
     have zY:=zY.set (neg1 qs)
     have kW:=gr_set kW hbY (.bool (neg1 qs)))
   refine hK.out _ _ ?_ ?_
   ·(try dsimp only);exact hS.out _ kW
   clear hK K hHeld;intro hHeld
   (try simp only[pz]))
end Nt
namespace Nt

variable {w:World}{b K:Nat}{kd dual idle rul:Int}
def LwB (w:World)(b:Nat)(kd dual idle rul:Int)(K:Nat):Prop:=w.heap[b]? =some (.cells #[.int .i64 kd,.int .i64 dual,.int .i64 idle,.int .i64 rul,.func (.func K) #[] #[]] 200 (0,0))
theorem LwB.lt (h:LwB w b kd dual idle rul K):b<w.heap.size:=lt_of_block h
theorem LwB.below {w':World}(h:LwB w b kd dual idle rul K)(k:Below w.heap.size w w'):LwB w' b kd dual idle rul K:=(k.block b h.lt).trans h
theorem LwB.c0 (h:LwB w b kd dual idle rul K):w.cell? ⟨b,0,none⟩=some (.int .i64 kd):=cell_of_row w b 0 _ _ (0,0) h
theorem LwB.c1 (h:LwB w b kd dual idle rul K):w.cell? ⟨b,1,none⟩=some (.int .i64 dual):=cell_of_row w b 1 _ _ (0,0) h
theorem LwB.c2 (h:LwB w b kd dual idle rul K):w.cell? ⟨b,2,none⟩=some (.int .i64 idle):=cell_of_row w b 2 _ _ (0,0) h
theorem LwB.c3 (h:LwB w b kd dual idle rul K):w.cell? ⟨b,3,none⟩=some (.int .i64 rul):=cell_of_row w b 3 _ _ (0,0) h
theorem LwB.c4 (h:LwB w b kd dual idle rul K):w.cell? ⟨b,4,none⟩=some (.func (.func K) #[] #[]):=cell_of_row w b 4 _ _ (0,0) h

theorem falling_g {s1 s2:Bool}{a1 a2:Option Addr}{l1 c1 l2 c2:Nat}{z1 z2:Int}(h1:Zm w s1 a1 l1 c1 z1)(h2:Zm w s2 a2 l2 c2 z2)(hl1:l1≤1099511627776)(hl2:l2≤1099511627776):
  Calls Tryz.prog 149 #[.agg #[.bool s1,.slice a1 l1 c1],.agg #[.bool s2,.slice a2 l2 c2]] w fun e w'=>e= .returned (.int .i64 (cmpI (-1*z1) (-1*z2)))∧Gr w w':=by
 have e0:cmpI (-1*z1) (-1*z2)=cmpI z2 z1:=by unfold cmpI;repeat' split;all_goals omega
 rw[e0]
 have b0:=(gr_alloc w (.cells #[.bool s1,.slice a1 l1 c1] 26)).trans (gr_alloc _ (.cells #[.bool s2,.slice a2 l2 c2] 26))
 have hc:=hide (zcmp_g (h2.below b0.b) (h1.below b0.b) hl2 hl1)
 replace b0:=hide b0
 clear h1 h2
 go_enter Tryz.func149,Tryz.ntmps149
 go_wp2_with fail
 refine hc.out.mono ?_
 rintro e w1 ⟨rfl,k1⟩
 replace b0:=hide (b0.out.trans k1)
 clear hc k1
 go_wp2
 go_ret
 exact⟨rfl,b0.out⟩
def OrdC (K:Nat)(sg:Int):Prop:=(∀args w,(callFunc K args).run Tryz.prog w= .ok (.enter K args) w)∧∀{s1 s2:Bool}{a1 a2:Option Addr}{l1 c1 l2 c2:Nat}{z1 z2:Int}{w:World},Zm w s1 a1 l1 c1 z1→Zm w s2 a2 l2 c2 z2→l1≤1099511627776→l2≤1099511627776→Calls Tryz.prog K #[.agg #[.bool s1,.slice a1 l1 c1],.agg #[.bool s2,.slice a2 l2 c2]] w fun e w'=>e= .returned (.int .i64 (cmpI (sg*z1) (sg*z2)))∧Gr w w'
theorem ordC_and :OrdC 133 1:=⟨enters_of Tryz.func133 k_f rfl,fun h1 h2 l1 l2=>by
 rw[Int.one_mul,Int.one_mul]
 exact zcmp_g h1 h2 l1 l2⟩
theorem ordC_or :OrdC 149 (-1):=⟨enters_of Tryz.func149 k_f rfl,falling_g⟩
def ordS (sg:Int)(ps:List (Int × Int))(k:Int)(qs:List (Int × Int))(m:Int):Int:=
 if ordL (lnP ps) (lnP qs)≠0 then ordL (lnP ps) (lnP qs)else if neg1 ps≠neg1 qs then cmpI (ps.headD (0,0)).2 (qs.headD (0,0)).2 else cmpI (sg*k) (sg*m)

theorem stay1 {sg:Int}(hK:OrdC K sg){w:World}{i j:Int}{x y:NR}{ps qs:List (Int × Int)}{k m:Int}{B bl:Nat}{kd dual idle rul:Int}(hL:LwB w bl kd dual idle rul K)(hP:Pn w x.ap x.np ps B)(h0:ps≠ [])(hk:Zn w x.sk x.ak x.lk x.ck k)(hP2:Pn w y.ap y.np qs B)(h02:qs≠ [])(hm:Zn w y.sk y.ak y.lk y.ck m)(hn:x.np≤536870912)(hB:B≤1099511627776)(hl1:x.lk≤B)(hl2:y.lk≤B):
  Calls Tryz.prog 210 #[.agg (mE i x),.agg (mE j y),.pointer (some ⟨bl,0,none⟩)] w fun e w'=>e= .returned (.int .i64 (ordS sg ps k qs m))∧Gr w w':=by
 have b0:=(gr_alloc w (.cells (mE i x) 233)).trans (gr_alloc _ (.cells (mE j y) 233))
 have zx:M9B _ w.heap.size i x:=M9B.below (heap_alloc_new w (.cells (mE i x) 233)) (below_alloc _ (.cells (mE j y) 233))
 have zy:M9B ((w.alloc (.cells (mE i x) 233)).alloc (.cells (mE j y) 233)) (w.alloc (.cells (mE i x) 233)).heap.size j y:=heap_alloc_new _ _
 rw[show(w.alloc (.cells (mE i x) 233)).heap.size=w.heap.size+1 from by simp]at zy
 have hl0:=List.length_pos_iff.2 h0
 have hl02:=List.length_pos_iff.2 h02
 obtain⟨b1,o1,hap,hb1,sx,ax,lx,cx,e1,e2,hzx,hlx⟩: ∃b off,x.ap=some ⟨b,off,none⟩∧b<w.heap.size∧∃s a l c,w.cell? ⟨b,off+1,none⟩=some (.bool s)∧w.cell? ⟨b,off+2,none⟩=some (.slice a l c)∧Zn w s a l c (ps.headD (0,0)).2∧l≤B:=by
  rcases hP.2 with h2|⟨b,off,e,hb,h2⟩
  ·have:=hP.1;omega
  obtain⟨s,a,l,c,-,e1,e2,hz,hl,-⟩:=h2 0 hl0
  simp only[Nat.zero_mul,Nat.add_zero]at e1 e2
  refine⟨b,off,e,hb,s,a,l,c,e1,e2,?_,hl⟩
  cases ps with
  |nil=>exact absurd rfl h0
  |cons p t=>exact hz
 obtain⟨b2,o2,hap2,hb2,sy,ay,ly,cy,f1,f2,hzy,hly⟩: ∃b off,y.ap=some ⟨b,off,none⟩∧b<w.heap.size∧∃s a l c,w.cell? ⟨b,off+1,none⟩=some (.bool s)∧w.cell? ⟨b,off+2,none⟩=some (.slice a l c)∧Zn w s a l c (qs.headD (0,0)).2∧l≤B:=by
  rcases hP2.2 with h2|⟨b,off,e,hb,h2⟩
  ·have:=hP2.1;omega
  obtain⟨s,a,l,c,-,e1,e2,hz,hl,-⟩:=h2 0 hl02
  simp only[Nat.zero_mul,Nat.add_zero]at e1 e2
  refine⟨b,off,e,hb,s,a,l,c,e1,e2,?_,hl⟩
  cases qs with
  |nil=>exact absurd rfl h02
  |cons p t=>exact hz
 have hnx:0<x.np:=by have:=hP.1;omega
 have hny:0<y.np:=by have:=hP2.1;omega
 have hlin:=hide (lines_g (i:=i) (j:=j) (hP.below b0.b) h0 (hP2.below b0.b) h02 hn hB)
 have hF1:Hid (∀w',Gr ((w.alloc (.cells (mE i x) 233)).alloc (.cells (mE j y) 233)) w'→Calls Tryz.prog 212 #[.agg (mE i x)] w' fun e w''=>e= .returned (.bool (neg1 ps))∧Gr w' w''):=hide fun w' k=>falls_g (hP.below (b0.trans k).b) h0
 have hF2:Hid (∀w',Gr ((w.alloc (.cells (mE i x) 233)).alloc (.cells (mE j y) 233)) w'→Calls Tryz.prog 212 #[.agg (mE j y)] w' fun e w''=>e= .returned (.bool (neg1 qs))∧Gr w' w''):=hide fun w' k=>falls_g (hP2.below (b0.trans k).b) h02
 have hZ:Hid (∀w',Gr ((w.alloc (.cells (mE i x) 233)).alloc (.cells (mE j y) 233)) w'→Calls Tryz.prog 133 #[.agg #[.bool sx,.slice ax lx cx],.agg #[.bool sy,.slice ay ly cy]] w' fun e w''=>e= .returned (.int .i64 (cmpI (ps.headD (0,0)).2 (qs.headD (0,0)).2))∧Gr w' w''):=hide fun w' k=>zcmp_g (hzx.below (b0.trans k).b).zm (hzy.below (b0.trans k).b).zm o_m o_m
 have hO:Hid (∀w',Gr ((w.alloc (.cells (mE i x) 233)).alloc (.cells (mE j y) 233)) w'→Calls Tryz.prog K #[.agg #[.bool x.sk,.slice x.ak x.lk x.ck],.agg #[.bool y.sk,.slice y.ak y.lk y.ck]] w' fun e w''=>e= .returned (.int .i64 (cmpI (sg*k) (sg*m)))∧Gr w' w''):=hide fun w' kw=>hK.2 (hk.below (b0.trans kw).b).zm (hm.below (b0.trans kw).b).zm o_m o_m
 replace e1:=(b0.b.cell (p:=⟨b1,_,none⟩) hb1).trans e1
 replace e2:=(b0.b.cell (p:=⟨b1,_,none⟩) hb1).trans e2
 replace f1:=(b0.b.cell (p:=⟨b2,_,none⟩) hb2).trans f1
 replace f2:=(b0.b.cell (p:=⟨b2,_,none⟩) hb2).trans f2
 replace hb1:=Nat.lt_of_lt_of_le hb1 b0.b.size
 replace hb2:=Nat.lt_of_lt_of_le hb2 b0.b.size
 have zl:=hL.below b0.b
 replace b0:=hide b0
 have hres:Hid (ordS sg ps k qs m=if ordL (lnP ps) (lnP qs)≠0 then ordL (lnP ps) (lnP qs)else if neg1 ps≠neg1 qs then cmpI (ps.headD (0,0)).2 (qs.headD (0,0)).2 else cmpI (sg*k) (sg*m)):=hide rfl
 clear hP hP2 hk hm hzx hzy hL hl0 hl02 hl1 hl2 hlx hly hn hB
 obtain⟨kd1,sd1,ad1,ld1,cd1,ap1,np1,cp1,sk1,ak1,lk1,ck1,vr1,ka1,kn1,kc1⟩:=x
 obtain⟨kd2,sd2,ad2,ld2,cd2,ap2,np2,cp2,sk2,ak2,lk2,ck2,vr2,ka2,kn2,kc2⟩:=y
 dsimp only at hap hap2 hnx hny
 subst hap hap2
 simp only[mE]at*
 go_enter Tryz.func210,Tryz.ntmps210
 go_wp2_with fail
 generalize (w.alloc (.cells #[.int .i64 i,.int .i64 kd1,.bool sd1,.slice ad1 ld1 cd1,.slice (some ⟨b1,o1,none⟩) np1 cp1,.bool sk1,.slice ak1 lk1 ck1,.int .i64 vr1,.slice ka1 kn1 kc1] 233)).alloc (.cells #[.int .i64 j,.int .i64 kd2,.bool sd2,.slice ad2 ld2 cd2,.slice (some ⟨b2,o2,none⟩) np2 cp2,.bool sk2,.slice ak2 lk2 ck2,.int .i64 vr2,.slice ka2 kn2 kc2] 233)=wB0 at*
 generalize w.heap.size=p at*
 generalize p+1=q at*
 refine hlin.out.mono ?_
 rintro e w1 ⟨rfl,k1⟩
 have hS:Hid (∀w',Gr w1 w'→w'.cell? ⟨p,0,none⟩=some (.int .i64 i)∧w'.cell? ⟨p,1,none⟩=some (.int .i64 kd1)∧w'.cell? ⟨p,2,none⟩=some (.bool sd1)∧w'.cell? ⟨p,3,none⟩=some (.slice ad1 ld1 cd1)∧w'.cell? ⟨p,4,none⟩=some (.slice (some ⟨b1,o1,none⟩) np1 cp1)∧w'.cell? ⟨p,5,none⟩=some (.bool sk1)∧w'.cell? ⟨p,6,none⟩=some (.slice ak1 lk1 ck1)∧w'.cell? ⟨p,7,none⟩=some (.int .i64 vr1)∧w'.cell? ⟨p,8,none⟩=some (.slice ka1 kn1 kc1)∧w'.cell? ⟨q,0,none⟩=some (.int .i64 j)∧w'.cell? ⟨q,1,none⟩=some (.int .i64 kd2)∧w'.cell? ⟨q,2,none⟩=some (.bool sd2)∧w'.cell? ⟨q,3,none⟩=some (.slice ad2 ld2 cd2)∧w'.cell? ⟨q,4,none⟩=some (.slice (some ⟨b2,o2,none⟩) np2 cp2)∧w'.cell? ⟨q,5,none⟩=some (.bool sk2)∧w'.cell? ⟨q,6,none⟩=some (.slice ak2 lk2 ck2)∧w'.cell? ⟨q,7,none⟩=some (.int .i64 vr2)∧w'.cell? ⟨q,8,none⟩=some (.slice ka2 kn2 kc2)∧w'.cell? ⟨b1,o1+1,none⟩=some (.bool sx)∧w'.cell? ⟨b1,o1+2,none⟩=some (.slice ax lx cx)∧w'.cell? ⟨b2,o2+1,none⟩=some (.bool sy)∧w'.cell? ⟨b2,o2+2,none⟩=some (.slice ay ly cy)∧Gr w1 w'):=hide fun w' k'=>by
  have k:=k1.trans k'
  exact⟨(k.b.cell (p:=⟨p,0,none⟩) zx.lt).trans (zx.c 0),(k.b.cell (p:=⟨p,1,none⟩) zx.lt).trans (zx.c 1),(k.b.cell (p:=⟨p,2,none⟩) zx.lt).trans (zx.c 2),(k.b.cell (p:=⟨p,3,none⟩) zx.lt).trans (zx.c 3),(k.b.cell (p:=⟨p,4,none⟩) zx.lt).trans (zx.c 4),(k.b.cell (p:=⟨p,5,none⟩) zx.lt).trans (zx.c 5),(k.b.cell (p:=⟨p,6,none⟩) zx.lt).trans (zx.c 6),(k.b.cell (p:=⟨p,7,none⟩) zx.lt).trans (zx.c 7),(k.b.cell (p:=⟨p,8,none⟩) zx.lt).trans (zx.c 8),(k.b.cell (p:=⟨q,0,none⟩) zy.lt).trans (zy.c 0),(k.b.cell (p:=⟨q,1,none⟩) zy.lt).trans (zy.c 1),(k.b.cell (p:=⟨q,2,none⟩) zy.lt).trans (zy.c 2),(k.b.cell (p:=⟨q,3,none⟩) zy.lt).trans (zy.c 3),(k.b.cell (p:=⟨q,4,none⟩) zy.lt).trans (zy.c 4),(k.b.cell (p:=⟨q,5,none⟩) zy.lt).trans (zy.c 5),(k.b.cell (p:=⟨q,6,none⟩) zy.lt).trans (zy.c 6),(k.b.cell (p:=⟨q,7,none⟩) zy.lt).trans (zy.c 7),(k.b.cell (p:=⟨q,8,none⟩) zy.lt).trans (zy.c 8),(k.b.cell (p:=⟨b1,o1+1,none⟩) hb1).trans e1,(k.b.cell (p:=⟨b1,o1+2,none⟩) hb1).trans e2,(k.b.cell (p:=⟨b2,o2+1,none⟩) hb2).trans f1,(k.b.cell (p:=⟨b2,o2+2,none⟩) hb2).trans f2,k'⟩
 have ku:=(hS.out w1 (Gr.refl _))
 obtain⟨u0,u1,u2,u3,u4,u5,u6,u7,u8,v0,v1,v2,v3,v4,v5,v6,v7,v8,e1,e2,f1,f2,kw⟩:=ku
 replace zl:=zl.below k1.b
 clear hlin
 by_cases ho:ordL (lnP ps) (lnP qs)=0
 ·rw[ho]
  rw[if_neg (fun h=>h ho)]at hres
  go_wp2_with fail
  go_region_held3 (fun w'=>w'.cell? ⟨p,0,none⟩=some (.int .i64 i)∧w'.cell? ⟨p,1,none⟩=some (.int .i64 kd1)∧w'.cell? ⟨p,2,none⟩=some (.bool sd1)∧w'.cell? ⟨p,3,none⟩=some (.slice ad1 ld1 cd1)∧w'.cell? ⟨p,4,none⟩=some (.slice (some ⟨b1,o1,none⟩) np1 cp1)∧w'.cell? ⟨p,5,none⟩=some (.bool sk1)∧w'.cell? ⟨p,6,none⟩=some (.slice ak1 lk1 ck1)∧w'.cell? ⟨p,7,none⟩=some (.int .i64 vr1)∧w'.cell? ⟨p,8,none⟩=some (.slice ka1 kn1 kc1)∧w'.cell? ⟨q,0,none⟩=some (.int .i64 j)∧w'.cell? ⟨q,1,none⟩=some (.int .i64 kd2)∧w'.cell? ⟨q,2,none⟩=some (.bool sd2)∧w'.cell? ⟨q,3,none⟩=some (.slice ad2 ld2 cd2)∧w'.cell? ⟨q,4,none⟩=some (.slice (some ⟨b2,o2,none⟩) np2 cp2)∧w'.cell? ⟨q,5,none⟩=some (.bool sk2)∧w'.cell? ⟨q,6,none⟩=some (.slice ak2 lk2 ck2)∧w'.cell? ⟨q,7,none⟩=some (.int .i64 vr2)∧w'.cell? ⟨q,8,none⟩=some (.slice ka2 kn2 kc2)∧w'.cell? ⟨b1,o1+1,none⟩=some (.bool sx)∧w'.cell? ⟨b1,o1+2,none⟩=some (.slice ax lx cx)∧w'.cell? ⟨b2,o2+1,none⟩=some (.bool sy)∧w'.cell? ⟨b2,o2+2,none⟩=some (.slice ay ly cy)∧Gr w1 w') ((refine hS.out _ ?_;(repeat' (first|with_reducible exact Gr.refl _|with_reducible assumption|with_reducible refine gr_step (by with_reducible assumption) ?_|with_reducible refine gr_drew ?_|with_reducible refine gr_drewM ?_ _))))
   (first|(go_at_call 212;with_reducible refine Calls.mono (hF1.out _ (by(repeat' (first|with_reducible exact Gr.refl _|with_reducible assumption|with_reducible refine gr_step (by with_reducible assumption) ?_|with_reducible refine gr_drew ?_|with_reducible refine gr_drewM ?_ _)))) ?_;rintro e w3 ⟨rfl,hg3⟩)|(go_at_call 212;with_reducible refine Calls.mono (hF2.out _ (by(repeat' (first|with_reducible exact Gr.refl _|with_reducible assumption|with_reducible refine gr_step (by with_reducible assumption) ?_|with_reducible refine gr_drew ?_|with_reducible refine gr_drewM ?_ _)))) ?_;rintro e w4 ⟨rfl,hg4⟩))
  rename_i hH
  clear u0 u1 u2 u3 u4 u5 u6 u7 u8 v0 v1 v2 v3 v4 v5 v6 v7 v8 e1 e2 f1 f2 kw
  obtain⟨u0,u1,u2,u3,u4,u5,u6,u7,u8,v0,v1,v2,v3,v4,v5,v6,v7,v8,e1,e2,f1,f2,kw⟩:=hH
  replace zl:=zl.below kw.b
  have kk:=hide (k1.trans kw)
  clear hF1 hF2 hg3 hg4
  by_cases hneg:neg1 ps=neg1 qs
  ·have hb:(!(neg1 ps==neg1 qs))=false:=by rw[hneg];simp
   rw[if_neg (fun h=>h hneg)]at hres
   have l4:=zl.c4
   have eg:=hK.1
   generalize cmpI (sg*k) (sg*m)=oq at*
   clear hZ hS
   generalize neg1 ps=g1 at*
   generalize neg1 qs=g2 at*
   rw[hb]
   go_wp2_with fail
   refine(hO.out _ kk.out).mono ?_
   rintro e w5 ⟨rfl,k5⟩
   replace kk:=hide (b0.out.trans (kk.out.trans k5))
   clear hO k5 u0 u1 u2 u3 u4 u5 u6 u7 u8 v0 v1 v2 v3 v4 v5 v6 v7 v8 e1 e2 f1 f2 kw l4 zl eg
   go_wp2
   go_ret
   exact⟨ret_int hres.out.symm,kk.out⟩
  have hb:(!(neg1 ps==neg1 qs))=true:=by simpa using hneg
  rw[if_pos hneg]at hres
  generalize neg1 ps=g1 at*
  generalize neg1 qs=g2 at*
  generalize cmpI (ps.headD (0,0)).2 (qs.headD (0,0)).2=oq at*
  rw[hb]
  have hS2:Hid (∀w',Gr _ w'→w'.cell? ⟨p,0,none⟩=some (.int .i64 i)∧w'.cell? ⟨p,1,none⟩=some (.int .i64 kd1)∧w'.cell? ⟨p,2,none⟩=some (.bool sd1)∧w'.cell? ⟨p,3,none⟩=some (.slice ad1 ld1 cd1)∧w'.cell? ⟨p,4,none⟩=some (.slice (some ⟨b1,o1,none⟩) np1 cp1)∧w'.cell? ⟨p,5,none⟩=some (.bool sk1)∧w'.cell? ⟨p,6,none⟩=some (.slice ak1 lk1 ck1)∧w'.cell? ⟨p,7,none⟩=some (.int .i64 vr1)∧w'.cell? ⟨p,8,none⟩=some (.slice ka1 kn1 kc1)∧w'.cell? ⟨q,0,none⟩=some (.int .i64 j)∧w'.cell? ⟨q,1,none⟩=some (.int .i64 kd2)∧w'.cell? ⟨q,2,none⟩=some (.bool sd2)∧w'.cell? ⟨q,3,none⟩=some (.slice ad2 ld2 cd2)∧w'.cell? ⟨q,4,none⟩=some (.slice (some ⟨b2,o2,none⟩) np2 cp2)∧w'.cell? ⟨q,5,none⟩=some (.bool sk2)∧w'.cell? ⟨q,6,none⟩=some (.slice ak2 lk2 ck2)∧w'.cell? ⟨q,7,none⟩=some (.int .i64 vr2)∧w'.cell? ⟨q,8,none⟩=some (.slice ka2 kn2 kc2)∧w'.cell? ⟨b1,o1+1,none⟩=some (.bool sx)∧w'.cell? ⟨b1,o1+2,none⟩=some (.slice ax lx cx)∧w'.cell? ⟨b2,o2+1,none⟩=some (.bool sy)∧w'.cell? ⟨b2,o2+2,none⟩=some (.slice ay ly cy)∧Gr w1 w'):=hide fun w' k=>hS.out w' (kw.trans k)
  clear hO zl u0 u1 u2 u3 u4 u5 u6 u7 u8 v0 v1 v2 v3 v4 v5 v6 v7 v8 e1 e2 f1 f2 kw hS
  go_wp2_with fail
  go_region_held3 (fun w'=>w'.cell? ⟨p,0,none⟩=some (.int .i64 i)∧w'.cell? ⟨p,1,none⟩=some (.int .i64 kd1)∧w'.cell? ⟨p,2,none⟩=some (.bool sd1)∧w'.cell? ⟨p,3,none⟩=some (.slice ad1 ld1 cd1)∧w'.cell? ⟨p,4,none⟩=some (.slice (some ⟨b1,o1,none⟩) np1 cp1)∧w'.cell? ⟨p,5,none⟩=some (.bool sk1)∧w'.cell? ⟨p,6,none⟩=some (.slice ak1 lk1 ck1)∧w'.cell? ⟨p,7,none⟩=some (.int .i64 vr1)∧w'.cell? ⟨p,8,none⟩=some (.slice ka1 kn1 kc1)∧w'.cell? ⟨q,0,none⟩=some (.int .i64 j)∧w'.cell? ⟨q,1,none⟩=some (.int .i64 kd2)∧w'.cell? ⟨q,2,none⟩=some (.bool sd2)∧w'.cell? ⟨q,3,none⟩=some (.slice ad2 ld2 cd2)∧w'.cell? ⟨q,4,none⟩=some (.slice (some ⟨b2,o2,none⟩) np2 cp2)∧w'.cell? ⟨q,5,none⟩=some (.bool sk2)∧w'.cell? ⟨q,6,none⟩=some (.slice ak2 lk2 ck2)∧w'.cell? ⟨q,7,none⟩=some (.int .i64 vr2)∧w'.cell? ⟨q,8,none⟩=some (.slice ka2 kn2 kc2)∧w'.cell? ⟨b1,o1+1,none⟩=some (.bool sx)∧w'.cell? ⟨b1,o1+2,none⟩=some (.slice ax lx cx)∧w'.cell? ⟨b2,o2+1,none⟩=some (.bool sy)∧w'.cell? ⟨b2,o2+2,none⟩=some (.slice ay ly cy)∧Gr w1 w') ((refine hS2.out _ ?_;(repeat' (first|with_reducible exact Gr.refl _|with_reducible assumption|with_reducible refine gr_step (by with_reducible assumption) ?_|with_reducible refine gr_drew ?_|with_reducible refine gr_drewM ?_ _))))
   (first|(go_at_call 133;refine Calls.mono (hZ.out _ (kk.out.trans (by(repeat' (first|with_reducible exact Gr.refl _|with_reducible assumption|with_reducible refine gr_step (by with_reducible assumption) ?_|with_reducible refine gr_drew ?_|with_reducible refine gr_drewM ?_ _))))) ?_;rintro e w5 ⟨rfl,hg5⟩))
  rename_i hH
  have kf:=hide (b0.out.trans (k1.trans hH.2.2.2.2.2.2.2.2.2.2.2.2.2.2.2.2.2.2.2.2.2.2))
  clear hH hS2 hZ kk
  go_wp2
  go_ret
  exact⟨ret_int hres.out.symm,kf.out⟩
 have ho2:(ordL (lnP ps) (lnP qs) !=0)=true:=by simpa using ho
 rw[if_pos ho]at hres
 generalize ordL (lnP ps) (lnP qs)=oo at*
 have kk:=hide (b0.out.trans k1)
 clear hF1 hF2 hZ hO hS u0 u1 u2 u3 u4 u5 u6 u7 u8 v0 v1 v2 v3 v4 v5 v6 v7 v8 e1 e2 f1 f2 kw zl
 go_wp2
 go_ret
 exact⟨ret_int hres.out.symm,kk.out⟩
end Nt
namespace Nt

variable {F G:Nat→Prop}{w:World}{i j:Int}{x y:NR}{n m:Nd}{B:Nat}
def ordD (n m:Nd):Int:=if cmpI n.d m.d≠0 then cmpI n.d m.d else if ordL (lnP n.ps) (lnP m.ps)≠0 then ordL (lnP n.ps) (lnP m.ps)else cmpI n.k m.k
theorem divs_g (hx:NC F w x n B)(h0:n.ps≠ [])(hy:NC G w y m B)(h02:m.ps≠ [])(hB:B≤2097152):
  Calls Tryz.prog 217 #[.agg (mE i x),.agg (mE j y)] w fun e w'=>e= .returned (.int .i64 (ordD n m))∧Gr w w':=by
 have b0:=(gr_alloc w (.cells (mE i x) 233)).trans (gr_alloc _ (.cells (mE j y) 233))
 have zx:M9B _ w.heap.size i x:=M9B.below (heap_alloc_new w (.cells (mE i x) 233)) (below_alloc _ (.cells (mE j y) 233))
 have zy:M9B ((w.alloc (.cells (mE i x) 233)).alloc (.cells (mE j y) 233)) (w.alloc (.cells (mE i x) 233)).heap.size j y:=heap_alloc_new _ _
 rw[show(w.alloc (.cells (mE i x) 233)).heap.size=w.heap.size+1 from by simp]at zy
 have hn:=hx.hnp
 have hlin:Hid (∀w',Gr ((w.alloc (.cells (mE i x) 233)).alloc (.cells (mE j y) 233)) w'→Calls Tryz.prog 211 #[.agg (mE i x),.agg (mE j y)] w' fun e w''=>e= .returned (.int .i64 (ordL (lnP n.ps) (lnP m.ps)))∧Gr w' w''):=hide fun w' k=>lines_g (hx.pn.pn.below (b0.trans k).b) h0 (hy.pn.pn.below (b0.trans k).b) h02 o_m o_m
 have hZd:=hide (zcmp_g (hx.zd.below b0.b).zm (hy.zd.below b0.b).zm (by have:=hx.hld;omega) (by have:=hy.hld;omega))
 have hZk:Hid (∀w',Gr ((w.alloc (.cells (mE i x) 233)).alloc (.cells (mE j y) 233)) w'→Calls Tryz.prog 133 #[.agg #[.bool x.sk,.slice x.ak x.lk x.ck],.agg #[.bool y.sk,.slice y.ak y.lk y.ck]] w' fun e w''=>e= .returned (.int .i64 (cmpI n.k m.k))∧Gr w' w''):=hide fun w' k=>zcmp_g (hx.zk.below (b0.trans k).b).zm (hy.zk.below (b0.trans k).b).zm (by have:=hx.hlk;omega) (by have:=hy.hlk;omega)
 replace b0:=hide b0
 have hres:Hid (ordD n m=if cmpI n.d m.d≠0 then cmpI n.d m.d else if ordL (lnP n.ps) (lnP m.ps)≠0 then ordL (lnP n.ps) (lnP m.ps)else cmpI n.k m.k):=hide rfl
 clear hn
 clear hx hy
 obtain⟨kd1,sd1,ad1,ld1,cd1,ap1,np1,cp1,sk1,ak1,lk1,ck1,vr1,ka1,kn1,kc1⟩:=x
 obtain⟨kd2,sd2,ad2,ld2,cd2,ap2,np2,cp2,sk2,ak2,lk2,ck2,vr2,ka2,kn2,kc2⟩:=y
 simp only[mE]at*
 go_enter Tryz.func217,Tryz.ntmps217
 go_wp2_with fail
 generalize (w.alloc (.cells #[.int .i64 i,.int .i64 kd1,.bool sd1,.slice ad1 ld1 cd1,.slice ap1 np1 cp1,.bool sk1,.slice ak1 lk1 ck1,.int .i64 vr1,.slice ka1 kn1 kc1] 233)).alloc (.cells #[.int .i64 j,.int .i64 kd2,.bool sd2,.slice ad2 ld2 cd2,.slice ap2 np2 cp2,.bool sk2,.slice ak2 lk2 ck2,.int .i64 vr2,.slice ka2 kn2 kc2] 233)=wB0 at*
 generalize w.heap.size=p at*
 generalize p+1=q at*
 have u0:=zx.c 0
 have u1:=zx.c 1
 have u2:=zx.c 2
 have u3:=zx.c 3
 have u4:=zx.c 4
 have u5:=zx.c 5
 have u6:=zx.c 6
 have u7:=zx.c 7
 have u8:=zx.c 8
 have v0:=zy.c 0
 have v1:=zy.c 1
 have v2:=zy.c 2
 have v3:=zy.c 3
 have v4:=zy.c 4
 have v5:=zy.c 5
 have v6:=zy.c 6
 have v7:=zy.c 7
 have v8:=zy.c 8
 generalize cmpI n.d m.d=od at*
 generalize ordL (lnP n.ps) (lnP m.ps)=ol at*
 generalize cmpI n.k m.k=ok at*
 refine hZd.out.mono ?_
 rintro e w1 ⟨rfl,k1⟩
 have hS:Hid (∀w',Gr wB0 w'→w'.cell? ⟨p,0,none⟩=some (.int .i64 i)∧w'.cell? ⟨p,1,none⟩=some (.int .i64 kd1)∧w'.cell? ⟨p,2,none⟩=some (.bool sd1)∧w'.cell? ⟨p,3,none⟩=some (.slice ad1 ld1 cd1)∧w'.cell? ⟨p,4,none⟩=some (.slice ap1 np1 cp1)∧w'.cell? ⟨p,5,none⟩=some (.bool sk1)∧w'.cell? ⟨p,6,none⟩=some (.slice ak1 lk1 ck1)∧w'.cell? ⟨p,7,none⟩=some (.int .i64 vr1)∧w'.cell? ⟨p,8,none⟩=some (.slice ka1 kn1 kc1)∧w'.cell? ⟨q,0,none⟩=some (.int .i64 j)∧w'.cell? ⟨q,1,none⟩=some (.int .i64 kd2)∧w'.cell? ⟨q,2,none⟩=some (.bool sd2)∧w'.cell? ⟨q,3,none⟩=some (.slice ad2 ld2 cd2)∧w'.cell? ⟨q,4,none⟩=some (.slice ap2 np2 cp2)∧w'.cell? ⟨q,5,none⟩=some (.bool sk2)∧w'.cell? ⟨q,6,none⟩=some (.slice ak2 lk2 ck2)∧w'.cell? ⟨q,7,none⟩=some (.int .i64 vr2)∧w'.cell? ⟨q,8,none⟩=some (.slice ka2 kn2 kc2)):=hide fun w' k=>⟨(k.b.cell (p:=⟨p,0,none⟩) zx.lt).trans (zx.c 0),(k.b.cell (p:=⟨p,1,none⟩) zx.lt).trans (zx.c 1),(k.b.cell (p:=⟨p,2,none⟩) zx.lt).trans (zx.c 2),(k.b.cell (p:=⟨p,3,none⟩) zx.lt).trans (zx.c 3),(k.b.cell (p:=⟨p,4,none⟩) zx.lt).trans (zx.c 4),(k.b.cell (p:=⟨p,5,none⟩) zx.lt).trans (zx.c 5),(k.b.cell (p:=⟨p,6,none⟩) zx.lt).trans (zx.c 6),(k.b.cell (p:=⟨p,7,none⟩) zx.lt).trans (zx.c 7),(k.b.cell (p:=⟨p,8,none⟩) zx.lt).trans (zx.c 8),(k.b.cell (p:=⟨q,0,none⟩) zy.lt).trans (zy.c 0),(k.b.cell (p:=⟨q,1,none⟩) zy.lt).trans (zy.c 1),(k.b.cell (p:=⟨q,2,none⟩) zy.lt).trans (zy.c 2),(k.b.cell (p:=⟨q,3,none⟩) zy.lt).trans (zy.c 3),(k.b.cell (p:=⟨q,4,none⟩) zy.lt).trans (zy.c 4),(k.b.cell (p:=⟨q,5,none⟩) zy.lt).trans (zy.c 5),(k.b.cell (p:=⟨q,6,none⟩) zy.lt).trans (zy.c 6),(k.b.cell (p:=⟨q,7,none⟩) zy.lt).trans (zy.c 7),(k.b.cell (p:=⟨q,8,none⟩) zy.lt).trans (zy.c 8)⟩
 clear hZd u0 u1 u2 u3 u4 u5 u6 u7 u8 v0 v1 v2 v3 v4 v5 v6 v7 v8
 by_cases h1:od=0
 ·rw[if_neg (fun h=>h h1)]at hres
  subst h1
  obtain⟨u0,u1,u2,u3,u4,u5,u6,u7,u8,v0,v1,v2,v3,v4,v5,v6,v7,v8⟩:=hS.out w1 k1
  go_wp2_with fail
  refine(hlin.out _ k1).mono ?_
  rintro e w2 ⟨rfl,k2⟩
  replace k2:=k1.trans k2
  clear u0 u1 u2 u3 u4 u5 u6 u7 u8 v0 v1 v2 v3 v4 v5 v6 v7 v8
  by_cases h2:ol=0
  ·rw[if_neg (fun h=>h h2)]at hres
   subst h2
   obtain⟨u0,u1,u2,u3,u4,u5,u6,u7,u8,v0,v1,v2,v3,v4,v5,v6,v7,v8⟩:=hS.out w2 k2
   go_wp2_with fail
   refine(hZk.out _ k2).mono ?_
   rintro e w3 ⟨rfl,k3⟩
   replace k3:=hide (b0.out.trans (k2.trans k3))
   clear u0 u1 u2 u3 u4 u5 u6 u7 u8 v0 v1 v2 v3 v4 v5 v6 v7 v8 hS hZk hlin k1 k2
   go_wp2
   go_ret
   exact⟨ret_int hres.out.symm,k3.out⟩
  rw[if_pos h2]at hres
  replace k2:=hide (b0.out.trans k2)
  clear hS hZk hlin k1
  go_wp2
  go_ret
  exact⟨ret_int hres.out.symm,k2.out⟩
 rw[if_pos h1]at hres
 replace k1:=hide (b0.out.trans k1)
 clear hS hZk hlin
 go_wp2
 go_ret
 exact⟨ret_int hres.out.symm,k1.out⟩

theorem kinds_g (hx:NC F w x n B)(hy:NC G w y m B):
  Calls Tryz.prog 218 #[.agg (mE i x),.agg (mE j y)] w fun e w'=>e= .returned (.bool (!(n.kind==m.kind)))∧Gr w w':=by
 have b0:=(gr_alloc w (.cells (mE i x) 233)).trans (gr_alloc _ (.cells (mE j y) 233))
 have zx:M9B _ w.heap.size i x:=M9B.below (heap_alloc_new w (.cells (mE i x) 233)) (below_alloc _ (.cells (mE j y) 233))
 have zy:M9B ((w.alloc (.cells (mE i x) 233)).alloc (.cells (mE j y) 233)) (w.alloc (.cells (mE i x) 233)).heap.size j y:=heap_alloc_new _ _
 rw[show(w.alloc (.cells (mE i x) 233)).heap.size=w.heap.size+1 from by simp]at zy
 have hk1:=hx.kd
 have hk2:=hy.kd
 replace b0:=hide b0
 clear hx hy
 obtain⟨kd1,sd1,ad1,ld1,cd1,ap1,np1,cp1,sk1,ak1,lk1,ck1,vr1,ka1,kn1,kc1⟩:=x
 obtain⟨kd2,sd2,ad2,ld2,cd2,ap2,np2,cp2,sk2,ak2,lk2,ck2,vr2,ka2,kn2,kc2⟩:=y
 simp only[mE]at*
 go_enter Tryz.func218,Tryz.ntmps218
 have u0:=zx.c 0
 have u1:=zx.c 1
 have u2:=zx.c 2
 have u3:=zx.c 3
 have u4:=zx.c 4
 have u5:=zx.c 5
 have u6:=zx.c 6
 have u7:=zx.c 7
 have u8:=zx.c 8
 have v0:=zy.c 0
 have v1:=zy.c 1
 have v2:=zy.c 2
 have v3:=zy.c 3
 have v4:=zy.c 4
 have v5:=zy.c 5
 have v6:=zy.c 6
 have v7:=zy.c 7
 have v8:=zy.c 8
 go_wp2_with fail
 subst hk1 hk2
 go_ret
 exact⟨rfl,b0.out⟩

theorem stay2_g (hx:NC F w x n B)(h0:n.ps≠ [])(hy:NC G w y m B)(h02:m.ps≠ [])(hB:B≤2097152):
  Calls Tryz.prog 214 #[.agg (mE i x),.agg (mE j y)] w fun e w'=>e= .returned (.bool (neg1 n.ps==neg1 m.ps&&ordL (lnP n.ps) (lnP m.ps)==0))∧Gr w w':=by
 have b0:=(gr_alloc w (.cells (mE i x) 233)).trans (gr_alloc _ (.cells (mE j y) 233))
 have zx:M9B _ w.heap.size i x:=M9B.below (heap_alloc_new w (.cells (mE i x) 233)) (below_alloc _ (.cells (mE j y) 233))
 have zy:M9B ((w.alloc (.cells (mE i x) 233)).alloc (.cells (mE j y) 233)) (w.alloc (.cells (mE i x) 233)).heap.size j y:=heap_alloc_new _ _
 rw[show(w.alloc (.cells (mE i x) 233)).heap.size=w.heap.size+1 from by simp]at zy
 have hn:=hx.hnp
 have hlin:Hid (∀w',Gr ((w.alloc (.cells (mE i x) 233)).alloc (.cells (mE j y) 233)) w'→Calls Tryz.prog 211 #[.agg (mE i x),.agg (mE j y)] w' fun e w''=>e= .returned (.int .i64 (ordL (lnP n.ps) (lnP m.ps)))∧Gr w' w''):=hide fun w' k=>lines_g (hx.pn.pn.below (b0.trans k).b) h0 (hy.pn.pn.below (b0.trans k).b) h02 o_m o_m
 have hF1:Hid (∀w',Gr ((w.alloc (.cells (mE i x) 233)).alloc (.cells (mE j y) 233)) w'→Calls Tryz.prog 212 #[.agg (mE i x)] w' fun e w''=>e= .returned (.bool (neg1 n.ps))∧Gr w' w''):=hide fun w' k=>falls_g (hx.pn.pn.below (b0.trans k).b) h0
 have hF2:Hid (∀w',Gr ((w.alloc (.cells (mE i x) 233)).alloc (.cells (mE j y) 233)) w'→Calls Tryz.prog 212 #[.agg (mE j y)] w' fun e w''=>e= .returned (.bool (neg1 m.ps))∧Gr w' w''):=hide fun w' k=>falls_g (hy.pn.pn.below (b0.trans k).b) h02
 replace b0:=hide b0
 clear hn
 generalize hrb:(neg1 n.ps==neg1 m.ps&&ordL (lnP n.ps) (lnP m.ps)==0)=rb
 replace hrb:=hide hrb
 clear hx hy
 obtain⟨kd1,sd1,ad1,ld1,cd1,ap1,np1,cp1,sk1,ak1,lk1,ck1,vr1,ka1,kn1,kc1⟩:=x
 obtain⟨kd2,sd2,ad2,ld2,cd2,ap2,np2,cp2,sk2,ak2,lk2,ck2,vr2,ka2,kn2,kc2⟩:=y
 simp only[mE]at*
 go_enter Tryz.func214,Tryz.ntmps214
 go_wp2_with fail
 generalize (w.alloc (.cells #[.int .i64 i,.int .i64 kd1,.bool sd1,.slice ad1 ld1 cd1,.slice ap1 np1 cp1,.bool sk1,.slice ak1 lk1 ck1,.int .i64 vr1,.slice ka1 kn1 kc1] 233)).alloc (.cells #[.int .i64 j,.int .i64 kd2,.bool sd2,.slice ad2 ld2 cd2,.slice ap2 np2 cp2,.bool sk2,.slice ak2 lk2 ck2,.int .i64 vr2,.slice ka2 kn2 kc2] 233)=wB0 at*
 generalize w.heap.size=p at*
 generalize p+1=q at*
 have hS:Hid (∀w',Gr wB0 w'→w'.cell? ⟨p,0,none⟩=some (.int .i64 i)∧w'.cell? ⟨p,1,none⟩=some (.int .i64 kd1)∧w'.cell? ⟨p,2,none⟩=some (.bool sd1)∧w'.cell? ⟨p,3,none⟩=some (.slice ad1 ld1 cd1)∧w'.cell? ⟨p,4,none⟩=some (.slice ap1 np1 cp1)∧w'.cell? ⟨p,5,none⟩=some (.bool sk1)∧w'.cell? ⟨p,6,none⟩=some (.slice ak1 lk1 ck1)∧w'.cell? ⟨p,7,none⟩=some (.int .i64 vr1)∧w'.cell? ⟨p,8,none⟩=some (.slice ka1 kn1 kc1)∧w'.cell? ⟨q,0,none⟩=some (.int .i64 j)∧w'.cell? ⟨q,1,none⟩=some (.int .i64 kd2)∧w'.cell? ⟨q,2,none⟩=some (.bool sd2)∧w'.cell? ⟨q,3,none⟩=some (.slice ad2 ld2 cd2)∧w'.cell? ⟨q,4,none⟩=some (.slice ap2 np2 cp2)∧w'.cell? ⟨q,5,none⟩=some (.bool sk2)∧w'.cell? ⟨q,6,none⟩=some (.slice ak2 lk2 ck2)∧w'.cell? ⟨q,7,none⟩=some (.int .i64 vr2)∧w'.cell? ⟨q,8,none⟩=some (.slice ka2 kn2 kc2)∧Gr wB0 w'):=hide fun w' k=>⟨(k.b.cell (p:=⟨p,0,none⟩) zx.lt).trans (zx.c 0),(k.b.cell (p:=⟨p,1,none⟩) zx.lt).trans (zx.c 1),(k.b.cell (p:=⟨p,2,none⟩) zx.lt).trans (zx.c 2),(k.b.cell (p:=⟨p,3,none⟩) zx.lt).trans (zx.c 3),(k.b.cell (p:=⟨p,4,none⟩) zx.lt).trans (zx.c 4),(k.b.cell (p:=⟨p,5,none⟩) zx.lt).trans (zx.c 5),(k.b.cell (p:=⟨p,6,none⟩) zx.lt).trans (zx.c 6),(k.b.cell (p:=⟨p,7,none⟩) zx.lt).trans (zx.c 7),(k.b.cell (p:=⟨p,8,none⟩) zx.lt).trans (zx.c 8),(k.b.cell (p:=⟨q,0,none⟩) zy.lt).trans (zy.c 0),(k.b.cell (p:=⟨q,1,none⟩) zy.lt).trans (zy.c 1),(k.b.cell (p:=⟨q,2,none⟩) zy.lt).trans (zy.c 2),(k.b.cell (p:=⟨q,3,none⟩) zy.lt).trans (zy.c 3),(k.b.cell (p:=⟨q,4,none⟩) zy.lt).trans (zy.c 4),(k.b.cell (p:=⟨q,5,none⟩) zy.lt).trans (zy.c 5),(k.b.cell (p:=⟨q,6,none⟩) zy.lt).trans (zy.c 6),(k.b.cell (p:=⟨q,7,none⟩) zy.lt).trans (zy.c 7),(k.b.cell (p:=⟨q,8,none⟩) zy.lt).trans (zy.c 8),k⟩
 clear zx zy
 generalize ordL (lnP n.ps) (lnP m.ps)=ol at*
 generalize neg1 n.ps=g1 at*
 generalize neg1 m.ps=g2 at*
 by_cases hg:g1=g2
 ·have hb:(g1==g2)=true:=by simpa using hg
  have hrb2:Hid ((ol==0)=rb):=hide (by rw[←hrb.out,hb];rfl)
  refine wp_region_held_drew (S:=fun w'=>w'.cell? ⟨p,0,none⟩=some (.int .i64 i)∧w'.cell? ⟨p,1,none⟩=some (.int .i64 kd1)∧w'.cell? ⟨p,2,none⟩=some (.bool sd1)∧w'.cell? ⟨p,3,none⟩=some (.slice ad1 ld1 cd1)∧w'.cell? ⟨p,4,none⟩=some (.slice ap1 np1 cp1)∧w'.cell? ⟨p,5,none⟩=some (.bool sk1)∧w'.cell? ⟨p,6,none⟩=some (.slice ak1 lk1 ck1)∧w'.cell? ⟨p,7,none⟩=some (.int .i64 vr1)∧w'.cell? ⟨p,8,none⟩=some (.slice ka1 kn1 kc1)∧w'.cell? ⟨q,0,none⟩=some (.int .i64 j)∧w'.cell? ⟨q,1,none⟩=some (.int .i64 kd2)∧w'.cell? ⟨q,2,none⟩=some (.bool sd2)∧w'.cell? ⟨q,3,none⟩=some (.slice ad2 ld2 cd2)∧w'.cell? ⟨q,4,none⟩=some (.slice ap2 np2 cp2)∧w'.cell? ⟨q,5,none⟩=some (.bool sk2)∧w'.cell? ⟨q,6,none⟩=some (.slice ak2 lk2 ck2)∧w'.cell? ⟨q,7,none⟩=some (.int .i64 vr2)∧w'.cell? ⟨q,8,none⟩=some (.slice ka2 kn2 kc2)∧Gr wB0 w') k_f (hS.out _ (gr_drew (Gr.refl _))) (fun hHeld=> ?_)
  show wpAnyH _ _ _ _ _ 12 _ _ _
  refine tkz 0 5 ?_
  (try simp only[pz])
  refine tkz 2 7 ?_
  (try simp only[pz])
  refine ryz 1 (some 6) (fun K hK=> ?_) AllReadyH.nil
  go_simp
  refine Calls.mono (hF1.out _ (gr_drew (Gr.refl _))) ?_
  rintro e w3 ⟨rfl,hg3⟩
  have k3:=(gr_drew (Gr.refl wB0)).trans hg3
  (try go_wp2_with fail)
  refine hK.out _ _ ?_ ?_
  ·(try dsimp only);exact hS.out _ k3
  clear hK K hHeld;intro hHeld
  (try simp only[pz])
  refine ryz 3 (some 8) (fun K hK=> ?_) AllReadyH.nil
  go_simp
  refine Calls.mono (hF2.out _ k3) ?_
  rintro e w4 ⟨rfl,hg4⟩
  have k4:=k3.trans hg4
  (try go_wp2_with fail)
  refine hK.out _ _ ?_ ?_
  ·(try dsimp only);exact hS.out _ k4
  clear hK K hHeld;intro hHeld
  (try simp only[pz])
  refine tkz 4 9 ?_
  (try simp only[pz])
  (try rw[hb])
  refine tkz 5 10 ?_
  (try simp only[pz])
  refine tkz 6 11 ?_
  (try simp only[pz])
  refine tkz 7 12 ?_
  (try simp only[pz])
  refine ryz 8 (some 13) (fun K hK=> ?_) AllReadyH.nil
  go_simp
  refine Calls.mono (hlin.out _ k4) ?_
  rintro e w5 ⟨rfl,hg5⟩
  have k4:=k4.trans hg5
  (try go_wp2_with fail)
  refine hK.out _ _ ?_ ?_
  ·(try dsimp only);exact hS.out _ k4
  clear hK K hHeld;intro hHeld
  (try simp only[pz])
  refine tkz 9 14 ?_
  (try simp only[pz])
  refine tkz 10 15 ?_
  (try simp only[pz])
  refine ryz 11 (some 4) (fun K hK=> ?_) AllReadyH.nil
  go_simp
  refine hK.out _ _ ?_ ?_
  ·(try dsimp only);exact hS.out _ k4
  clear hK K hHeld;intro hHeld
  (try simp only[pz])
  refine wpAnyH_done k_f ?_ _
  have kf:=hide (b0.out.trans k4)
  clear hHeld hS hF1 hF2 hlin k3 k4 hg3 hg4 hg5
  go_wp2
  go_ret
  exact⟨ret_bool hrb2.out,kf.out⟩
 have hb:(g1==g2)=false:=by simpa using hg
 have hrb2:Hid (false=rb):=hide (by rw[←hrb.out,hb];rfl)
 refine wp_region_held_drew (S:=fun w'=>w'.cell? ⟨p,0,none⟩=some (.int .i64 i)∧w'.cell? ⟨p,1,none⟩=some (.int .i64 kd1)∧w'.cell? ⟨p,2,none⟩=some (.bool sd1)∧w'.cell? ⟨p,3,none⟩=some (.slice ad1 ld1 cd1)∧w'.cell? ⟨p,4,none⟩=some (.slice ap1 np1 cp1)∧w'.cell? ⟨p,5,none⟩=some (.bool sk1)∧w'.cell? ⟨p,6,none⟩=some (.slice ak1 lk1 ck1)∧w'.cell? ⟨p,7,none⟩=some (.int .i64 vr1)∧w'.cell? ⟨p,8,none⟩=some (.slice ka1 kn1 kc1)∧w'.cell? ⟨q,0,none⟩=some (.int .i64 j)∧w'.cell? ⟨q,1,none⟩=some (.int .i64 kd2)∧w'.cell? ⟨q,2,none⟩=some (.bool sd2)∧w'.cell? ⟨q,3,none⟩=some (.slice ad2 ld2 cd2)∧w'.cell? ⟨q,4,none⟩=some (.slice ap2 np2 cp2)∧w'.cell? ⟨q,5,none⟩=some (.bool sk2)∧w'.cell? ⟨q,6,none⟩=some (.slice ak2 lk2 ck2)∧w'.cell? ⟨q,7,none⟩=some (.int .i64 vr2)∧w'.cell? ⟨q,8,none⟩=some (.slice ka2 kn2 kc2)∧Gr wB0 w') k_f (hS.out _ (gr_drew (Gr.refl _))) (fun hHeld=> ?_)
 show wpAnyH _ _ _ _ _ 12 _ _ _
 refine tkz 0 5 ?_
 (try simp only[pz])
 refine tkz 2 7 ?_
 (try simp only[pz])
 refine ryz 1 (some 6) (fun K hK=> ?_) AllReadyH.nil
 go_simp
 refine Calls.mono (hF1.out _ (gr_drew (Gr.refl _))) ?_
 rintro e w3 ⟨rfl,hg3⟩
 have k3:=(gr_drew (Gr.refl wB0)).trans hg3
 (try go_wp2_with fail)
 refine hK.out _ _ ?_ ?_
 ·(try dsimp only);exact hS.out _ k3
 clear hK K hHeld;intro hHeld
 (try simp only[pz])
 refine ryz 3 (some 8) (fun K hK=> ?_) AllReadyH.nil
 go_simp
 refine Calls.mono (hF2.out _ k3) ?_
 rintro e w4 ⟨rfl,hg4⟩
 have k4:=k3.trans hg4
 (try go_wp2_with fail)
 refine hK.out _ _ ?_ ?_
 ·(try dsimp only);exact hS.out _ k4
 clear hK K hHeld;intro hHeld
 (try simp only[pz])
 refine tkz 4 9 ?_
 (try simp only[pz])
 (try rw[hb])
 refine tkz 5 10 ?_
 (try simp only[pz])
 refine wpAnyH_take (i:=6) (oi:=⟨some 11,_,_,_,_,_⟩) (v:=undef) rfl k_f k_f k_f (fun _ _ _ h=>h) (Or.inr ⟨by rfl,rfl⟩) (by assumption) ?_
 (try simp only[pz])
 refine wpAnyH_take (i:=7) (oi:=⟨some 12,_,_,_,_,_⟩) (v:=undef) rfl k_f k_f k_f (fun _ _ _ h=>h) (Or.inr ⟨by rfl,rfl⟩) (by assumption) ?_
 (try simp only[pz])
 refine wpAnyH_take (i:=8) (oi:=⟨some 13,_,_,_,_,_⟩) (v:=undef) rfl k_f k_f k_f (fun _ _ _ h=>h) (Or.inr ⟨by rfl,rfl⟩) (by assumption) ?_
 (try simp only[pz])
 refine wpAnyH_take (i:=9) (oi:=⟨some 14,_,_,_,_,_⟩) (v:=undef) rfl k_f k_f k_f (fun _ _ _ h=>h) (Or.inr ⟨by rfl,rfl⟩) (by assumption) ?_
 (try simp only[pz])
 refine tkz 10 15 ?_
 (try simp only[pz])
 refine ryz 11 (some 4) (fun K hK=> ?_) AllReadyH.nil
 go_simp
 refine hK.out _ _ ?_ ?_
 ·(try dsimp only);exact hS.out _ k4
 clear hK K hHeld;intro hHeld
 (try simp only[pz])
 refine wpAnyH_done k_f ?_ _
 have kf:=hide (b0.out.trans k4)
 clear hHeld hS hF1 hF2 hlin k3 k4 hg3 hg4
 go_wp2
 go_ret
 exact⟨ret_bool hrb2.out,kf.out⟩
end Nt
namespace Nt

structure Mr where
 id:Int
 x:NR
 n:Nd
def Mr.enc (m:Mr):List Value:=(mE m.id m.x).toList
def Mr.ok (w:World)(B:Nat)(m:Mr):Prop:=NC (fun _=>True) w m.x m.n B∧m.n.ps≠ []
theorem NC.below {F:Nat→Prop}{w w':World}{x:NR}{n:Nd}{B:Nat}(h:NC F w x n B)(k:Below w.heap.size w w'):NC F w' x n B:=h.move k.size (fun b _ hl=>k.block b hl) (fun _ hb _=>hb)
abbrev MrI (rs:List Mr):={m:Mr // m∈rs}
def encM {rs:List Mr}(m:MrI rs):List Value:=m.1.enc
def flat9 (rs:List Mr):List Value:=rs.flatMap Mr.enc
theorem enc9_len (m:Mr):m.enc.length=9:=rfl
theorem flat9_length (rs:List Mr):(flat9 rs).length=rs.length*9:=by
 induction rs with
 |nil=>rfl
 |cons m rs ih=>
  have h:(flat9 (m::rs)).length=9+(flat9 rs).length:=by simp[flat9,enc9_len]
  rw[h,ih,List.length_cons]
  omega
theorem flat9_get (rs:List Mr): ∀(i c:Nat) (h:i<rs.length),c<9→(flat9 rs)[i*9+c]? =(rs[i]).enc[c]?:=by
 induction rs with
 |nil=>intro i c h;cases h
 |cons m rs ih=>
  intro i c h hc
  have e:flat9 (m::rs)=m.enc++flat9 rs:=by simp[flat9]
  have hl:=enc9_len m
  rw[e]
  cases i with
  |zero=>rw[List.getElem?_append_left o_m];simp
  |succ i=>
   rw[List.getElem?_append_right o_m,hl,show(i+1)*9+c-9=i*9+c from by omega]
   exact ih i c (by simpa using h) hc
theorem sortW9_grown {α:Type} [Inhabited α] (enc:α→List Value)(w:World)(g m:Nat)(dk:Array α)(os:Array Obj):w.grownBy (sortWorldK enc 9 w g 0 m dk os) (some g):=by
 refine⟨rfl,rfl,rfl,?_,fun k hk hne=> ?_⟩
 ·simp[sortWorldK,size_grow,size_putRowK,Sort.ahead]
 have hkg:k≠g:=fun e=>hne (by rw[e])
 simp only[sortWorldK,grow,putRowK,putRow,mapBlock,Sort.ahead]
 rw[Array.getElem?_append_left (by simpa using hk),Array.getElem?_modify,if_neg (fun e=>hkg e.symm)]
theorem sortW9_block {α:Type} [Inhabited α] (enc:α→List Value)(w:World)(g m:Nat)(dk:Array α)(os:Array Obj){cur:Array Value}{t:TypeId}(h:w.heap[g]? =some (.cells cur t (0,0))): ∃cur',(sortWorldK enc 9 w g 0 m dk os).heap[g]? =some (.cells cur' t (0,0))∧cur'.size=cur.size:=by
 have hg:g<w.heap.size:=lt_of_block h
 simp only[sortWorldK,grow,putRowK,putRow,mapBlock,Sort.ahead]
 rw[Array.getElem?_append_left (by simpa using hg),Array.getElem?_modify,if_pos rfl,h]
 exact⟨_,rfl,by simp[putCells]⟩
theorem inhM {rs:List Mr}{m:Mr}(h:m∈rs):Nonempty (Inhabited (MrI rs)):=⟨⟨⟨m,h⟩⟩⟩
theorem cmp9_lays {w:World}{rs:List Mr}{g n K:Nat}{cb:Array Value}{ord:Mr→Mr→Int} [Inhabited (MrI rs)]
  (hcmp: ∀w' (x y:Mr),x∈rs→y∈rs→w.grownBy w' (some g)→Calls Tryz.prog K (#[.agg (mE x.id x.x),.agg (mE y.id y.x)]++cb) w' fun e w''=>e= .returned (.int .i64 (ord x y))∧Gr w' w''):
  CmpLays Tryz.prog K cb (encM (rs:=rs)) 9 (fun x y=>ord x.1 y.1) g 0 n w:=by
 intro m os dk _ x y
 refine(hcmp _ x.1 y.1 x.2 y.2 (sortW9_grown _ _ _ _ _ _)).mono ?_
 rintro e w' ⟨rfl,h⟩
 exact⟨rfl,gr_grow h⟩

theorem sort9_n {w:World}{g cap n K:Nat}{cb cur:Array Value}{rs:List Mr}{ord:Mr→Mr→Int}(hn:rs.length=n)(h0:rs≠ [])
  (hcur:w.heap[g]? =some (.cells cur 233 (0,0)))(hrow:cur.toList.take (n*9)=flat9 rs)(hnb:n≤1099511627776)
  (eg: ∀args w,(callFunc K args).run Tryz.prog w= .ok (.enter K args) w)(hswo:SWO (ltOf (fun(x y:MrI rs)=>ord x.1 y.1)))
  (hcmp: ∀w' (x y:Mr),x∈rs→y∈rs→w.grownBy w' (some g)→Calls Tryz.prog K (#[.agg (mE x.id x.x),.agg (mE y.id y.x)]++cb) w' fun e w''=>e= .returned (.int .i64 (ord x y))∧Gr w' w''):
  Calls Tryz.prog 209 #[.slice (some ⟨g,0,none⟩) n cap,.func (.func K) #[] cb] w fun e w'=>e= .returned (.tuple #[])∧∃rs' cur',rs'.Perm rs∧rs'.Pairwise (fun x y=> ¬ord y x<0)∧w'.heap[g]? =some (.cells cur' 233 (0,0))∧cur'.size=cur.size∧cur'.toList.take (n*9)=flat9 rs'∧w.grownBy w' (some g):=by
 obtain⟨_⟩:Nonempty (Inhabited (MrI rs)):=by
  obtain⟨m,hm⟩:=List.exists_mem_of_ne_nil rs h0
  exact inhM hm
 have hgl:g<w.heap.size:=lt_of_block hcur
 let d:Array (MrI rs):=(rs.pmap (fun x h=>(⟨x,h⟩:MrI rs)) fun _ h=>h).toArray
 have hds:d.size=n:=by simp[d,hn]
 have hdm:d.toList.map Subtype.val=rs:=by
  simp only[d,List.map_pmap]
  simp
 have hget: ∀i (h:i<rs.length),(d[i]!).1=rs[i]:=by
  intro i h
  have h':i<d.size:=by omega
  rw[getElem!_pos d i h']
  simp[d]
 have hH:HoldsK (encM (rs:=rs)) 9 w g 0 d:=by
  intro j hj
  rw[size_flatK]at hj
  have hi:j / 9<rs.length:=by omega
  rw[get_flatK _ _ _ _ hj]
  refine⟨?_,frozen_of_row w g _ _ _ hcur⟩
  have hc:(flat9 rs)[j]? =some ((rs[j / 9]).enc[j%9]!):=by
   have:=flat9_get rs (j / 9) (j%9) hi (Nat.mod_lt _ (by decide))
   rw[show j / 9*9+j%9=j from by omega]at this
   rw[this]
   have hl:=enc9_len rs[j / 9]
   rw[List.getElem!_eq_getElem?_getD,List.getElem?_eq_getElem o_m]
   rfl
  rw[Nat.zero_add,show(d[j / 9]!)=d[j / 9]! from rfl]
  show w.cell? ⟨g,j,none⟩=some ((d[j / 9]!).1.enc[j%9]!)
  rw[hget _ hi]
  have h2:cur[j]? =some ((rs[j / 9]).enc[j%9]!):=by
   rw[←hc,←hrow,List.getElem?_take,if_pos o_m]
   simp
  exact(cell_of_row w g j _ _ (0,0) hcur).trans h2
 have hcon:=AnyQ.slices_SortFunc Tryz.sortM 9 Tryz.isAgg233 Tryz.sizeOf233 (encM (rs:=rs)) (fun _=>rfl) (fun x v hv=>by simp[encM,Mr.enc,mE]at hv;rcases hv with rfl|rfl|rfl|rfl|rfl|rfl|rfl|rfl|rfl <;> rfl) (fun x y=>ord x.1 y.1) hswo K cb g 0 cap d w eg (cmp9_lays hcmp) hH hgl o_m
 rw[hds]at hcon
 change Calls Tryz.prog 209 _ _ _ at hcon
 refine hcon.mono ?_
 rintro e w' ⟨rfl,d',m,os,hp,hs,rfl⟩
 have hsz:d'.size=n:=by rw[hp.1,hds]
 have hperm:(d'.toList.map Subtype.val).Perm rs:=by
  have:=hp.2.2
  rw[←hds]at this
  have e1:d.extract 0 d.size=d:=by simp
  have e2:d'.extract 0 d.size=d':=by rw[←hp.1];simp
  rw[e1,e2]at this
  have h2:=this.map Subtype.val
  rw[hdm]at h2
  exact h2
 obtain⟨cur',hc1,hc2⟩:=sortW9_block (encM (rs:=rs)) w g m d' os hcur
 refine⟨rfl,d'.toList.map Subtype.val,cur',hperm,?_,hc1,hc2,?_,sortW9_grown _ _ _ _ _ _⟩
 ·rw[List.pairwise_iff_getElem]
  intro i j hi hj hij
  have hi':i<d'.size:=by simpa using hi
  have hj':j<d'.size:=by simpa using hj
  have h1:=hs i j (Nat.zero_le _) hij o_m
  unfold ltOf at h1
  rw[decide_eq_false_iff_not,getElem!_pos d' i hi',getElem!_pos d' j hj']at h1
  simpa using h1
 have hK:=holdsK_sortWorldK_c (encM (rs:=rs)) 9 w g 0 d d' m os hH hgl (by rw[hsz,hds])
 have hl:(flat9 (d'.toList.map Subtype.val)).length=n*9:=by rw[flat9_length];simp[hsz]
 have hcl:n*9≤cur'.size:=by
  have h9:=congrArg List.length hrow
  rw[flat9_length,hn,List.length_take]at h9
  simp at h9
  omega
 apply List.ext_getElem?
 intro j
 by_cases hj:j<n*9
 ·rw[List.getElem?_take,if_pos hj]
  have hi:j / 9<d'.size:=by omega
  have k0:=(hK.cell (i:=j / 9) (c:=j%9) hi (Nat.mod_lt _ (by decide))).1
  rw[Nat.zero_add,show j / 9*9+j%9=j by omega,cell_of_row _ g j _ _ (0,0) hc1]at k0
  have h2:=flat9_get (d'.toList.map Subtype.val) (j / 9) (j%9) (by simpa using hi) (Nat.mod_lt _ (by decide))
  rw[show j / 9*9+j%9=j by omega]at h2
  rw[h2]
  have e:(d'.toList.map Subtype.val)[j / 9]'(by simpa using hi)=(d'[j / 9]!).1:=by rw[getElem!_pos d' (j / 9) hi];simp
  rw[e]
  have hl9:=enc9_len (d'[j / 9]!).1
  rw[Array.getElem?_toList,k0,List.getElem?_eq_getElem (show j%9<(d'[j / 9]!).1.enc.length by omega)]
  congr 1
  show(encM (d'[j / 9]!))[j%9]! =_
  rw[List.getElem!_eq_getElem?_getD]
  unfold encM
  rw[List.getElem?_eq_getElem o_m]
  rfl
 rw[List.getElem?_take,if_neg hj,List.getElem?_eq_none o_m]
end Nt
end Go.Proofs.YtbgpddlcfiiiaaaGreatDoor
