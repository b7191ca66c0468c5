/-
 Several texts in one: E6,EO,EU.
-/
import Derived.Test.YtbgpddlcfiiiaaaGreatDoorSbm31
import Derived.Laws.OwnMore
import Derived.Test.YtbgpddlcfiiiaaaGreatDoorSbm22
set_option maxRecDepth 100000
set_option maxHeartbeats 1600000
namespace Go.Proofs.YtbgpddlcfiiiaaaGreatDoor
open Go.RowKit Go.Sort Go.Shelf
open Tm
namespace Nt

variable {w w' wb wr:World}{b a ad ka:Option Addr}{l c g B base n r cp m d kn kc:Nat}{s t:Bool}{rs:List Raw}{ps:List (Int × Int)}{kd vr:Int}
theorem cell_heap {b:Nat}(h:w'.heap[b]? =w.heap[b]?)(o:Nat):w'.cell? ⟨b,o,none⟩=w.cell? ⟨b,o,none⟩:=by
 unfold World.cell?
 simp only[h]
theorem rd_move {xs:List Int}(hr:Rd w a l c xs)(hs:w.heap.size≤w'.heap.size)(h: ∀b off,a=some ⟨b,off,none⟩→0<l→w'.heap[b]? =w.heap[b]?):Rd w' a l c xs:=by
 obtain⟨h1,h2,h3,h4,h5⟩:=hr
 refine⟨h1,h2,h3,h4,?_⟩
 rcases h5 with h5|⟨ax,rfl,h5⟩
 ·exact .inl h5
 refine .inr ⟨ax,rfl,?_⟩
 rcases h5 with h5|⟨b,off,rfl,hb,h5⟩
 ·exact .inl h5
 refine .inr ⟨b,off,rfl,by omega,fun i hi=> ?_⟩
 rw[cell_heap (h b off rfl o_m)]
 exact h5 i hi
theorem rd_lt {xs:List Int}(hr:Rd w a l c xs){b off:Nat}(e1:a=some ⟨b,off,none⟩)(h0:0<l):b<w.heap.size:=by
 rcases hr.2.2.2.2 with⟨e2,_⟩|⟨ax,e2,h5⟩
 ·rw[e1]at e2;cases e2
 rcases h5 with h5|⟨b',off',rfl,hb',_⟩
 ·omega
 rw[e1]at e2;cases e2;exact hb'
theorem zn_lt {z:Int}(hz:Zn w s a l c z){b off:Nat}(e1:a=some ⟨b,off,none⟩)(h0:0<l):b<w.heap.size:=by
 obtain⟨n,⟨xs,hr,_⟩,_⟩:=hz
 exact rd_lt hr e1 h0
theorem zn_move {z:Int}(hz:Zn w s a l c z)(hs:w.heap.size≤w'.heap.size)(h: ∀b off,a=some ⟨b,off,none⟩→0<l→w'.heap[b]? =w.heap[b]?):Zn w' s a l c z:=by
 obtain⟨n,⟨xs,hr,hc,hv⟩,h2⟩:=hz
 exact⟨n,⟨xs,rd_move hr hs h,hc,hv⟩,h2⟩
def Cps (wb wr:World)(g B t:Nat)(rs:List Raw):Prop:=∀i (h:i<rs.length),(rs[i]).l≤B∧I64 (rs[i]).v∧if i<t then Zn wr (rs[i]).s (rs[i]).a (rs[i]).l (rs[i]).c (rs[i]).z∧New (g+1) (rs[i]).a (rs[i]).l else Zn wb (rs[i]).s (rs[i]).a (rs[i]).l (rs[i]).c (rs[i]).z
theorem cps_set {t j:Nat}(h:Cps wb wr g B t rs)(hg:wr.grownBy w' (some g))(y:Raw)(hj:j=t)(hy:Zn w' y.s y.a y.l y.c y.z)(hn:New (g+1) y.a y.l)(hl:y.l≤B)(hv:I64 y.v):Cps wb w' g B (t+1) (rs.set j y):=by
 subst hj
 intro i hi
 rw[List.length_set]at hi
 by_cases e:i=j
 ·subst e
  rw[List.getElem_set_self]
  refine⟨hl,hv,?_⟩
  rw[if_pos o_m]
  exact⟨hy,hn⟩
 rw[List.getElem_set_ne (Ne.symm e)]
 obtain⟨h1,h2,h3⟩:=h i hi
 refine⟨h1,h2,?_⟩
 by_cases hlt:i<j
 ·rw[if_pos hlt]at h3
  rw[if_pos o_m]
  refine⟨zn_move h3.1 hg.size fun b off e1 h0=> ?_,h3.2⟩
  have hb:=h3.2 b off e1 h0
  have hbl:b<wr.heap.size:=by
   obtain⟨n,⟨xs,hr,_⟩,_⟩:=h3.1
   rcases hr.2.2.2.2 with⟨e2,_⟩|⟨ax,e2,h5⟩
   ·rw[e1]at e2;cases e2
   rcases h5 with h5|⟨b',off',rfl,hb',_⟩
   ·omega
   rw[e1]at e2;cases e2;exact hb'
  exact hg.block b hbl (by simp;omega)
 rw[if_neg hlt]at h3
 rw[if_neg o_m]
 exact h3
theorem own_below {W W':World}{e:TypeId}{size:Nat}{v:Value}{xs:List Value}(h:W.ownsRow base e size v n xs)(hb:Below W.heap.size W W'):W'.ownsRow base e size v n xs:=by
 obtain⟨h1,h2⟩:=h
 refine⟨h1,?_⟩
 rcases h2 with h2|⟨g,cap,cur,e1,e2,e3,e4⟩
 ·exact .inl h2
 exact .inr ⟨g,cap,cur,e1,e2,(hb.block g (Array.getElem?_eq_some_iff.1 e3).1).trans e3,e4⟩
theorem own_cell {W:World}{e:TypeId}{size cap:Nat}{xs:List Value}(h:W.ownsRow base e size (.slice (some ⟨g,0,none⟩) n cap) n xs){j:Nat}{u:Value}(hj:xs[j]? =some u):W.cell? ⟨g,j,none⟩=some u:=by
 have h1:=(World.ownsRowF_of h).cells (g:=g) rfl j u hj
 rw[Addr.add_lit,Nat.zero_add]at h1
 exact h1
theorem heap_two (j i:Nat)(u v:Value){b:Nat}(h:b≠g):((w.setCell ⟨g,j,none⟩ u).setCell ⟨g,i,none⟩ v).heap[b]? =w.heap[b]? :=
 (heap_setCell_other _ ⟨g,i,none⟩ b v h).trans (heap_setCell_other w ⟨g,j,none⟩ b u h)
theorem map_set_p (L:List Raw)(t:Nat)(h:t<L.length)(s:Bool)(a:Option Addr)(l c:Nat):(L.set t ⟨(L[t]).v,s,a,l,c,(L[t]).z⟩).map Raw.p=L.map Raw.p:=by
 apply List.ext_getElem (by simp)
 intro i h1 h2
 rw[List.getElem_map,List.getElem_map]
 by_cases e:i=t
 ·subst e
  rw[List.getElem_set_self]
  rfl
 rw[List.getElem_set_ne (Ne.symm e)]
theorem cps_below {t:Nat}(h:Cps wb wr g B t rs)(hb:Below wr.heap.size wr w'):Cps wb w' g B t rs:=by
 intro i hi
 obtain⟨h1,h2,h3⟩:=h i hi
 refine⟨h1,h2,?_⟩
 split at h3
 ·next h=>rw[if_pos h];exact⟨h3.1.below hb,h3.2⟩
 next h=>rw[if_neg h];exact h3
theorem flat_set2 (L:List Raw)(t:Nat)(h:t<L.length)(s:Bool)(a:Option Addr)(l c:Nat)(z:Int):((flat L).set (t*3+1) (.bool s)).set (t*3+2) (.slice a l c)=flat (L.set t ⟨(L[t]).v,s,a,l,c,z⟩):=by
 rw[←flat_set L t h ⟨(L[t]).v,s,a,l,c,z⟩]
 have hg:=flat_get L t 0 h (by decide)
 have e:(flat L).set (t*3) (.int .i64 (L[t]).v)=flat L:=by
  apply List.ext_getElem?
  intro i
  by_cases hi:i=t*3
  ·subst hi
   have hlt:t*3<(flat L).length:=by rw[flat_length];omega
   rw[List.getElem?_set_self hlt]
   simpa [Raw.enc] using hg.symm
  rw[List.getElem?_set_ne (Ne.symm hi)]
 rw[e]

def PnN (b0:Nat)(w:World)(ad:Option Addr)(n:Nat)(ps:List (Int × Int))(B:Nat):Prop:=
 ps.length=n∧(n=0∨ ∃b off,ad=some ⟨b,off,none⟩∧b0≤b∧b<w.heap.size∧∀i (h:i<ps.length),∃s a l c,w.cell? ⟨b,off+i*3,none⟩=some (.int .i64 (ps[i]).1)∧w.cell? ⟨b,off+i*3+1,none⟩=some (.bool s)∧w.cell? ⟨b,off+i*3+2,none⟩=some (.slice a l c)∧Zn w s a l c (ps[i]).2∧New b0 a l∧l≤B∧I64 (ps[i]).1)
theorem PnN.move {b0:Nat}(h:PnN b0 w ad n ps B)(hs:w.heap.size≤w'.heap.size)(hm: ∀b,b0≤b→b<w.heap.size→w'.heap[b]? =w.heap[b]?):PnN b0 w' ad n ps B:=by
 obtain⟨h1,h2⟩:=h
 refine⟨h1,?_⟩
 rcases h2 with h2|⟨b,off,e,hb,hl,h2⟩
 ·exact .inl h2
 refine .inr ⟨b,off,e,hb,by omega,fun i hi=> ?_⟩
 obtain⟨s,a,l,c,e0,e1,e2,hz,hn,hr⟩:=h2 i hi
 refine⟨s,a,l,c,(cell_heap (hm b hb hl) _).trans e0,(cell_heap (hm b hb hl) _).trans e1,(cell_heap (hm b hb hl) _).trans e2,zn_move hz hs fun b' off' e' h0=>hm b' (hn b' off' e' h0) (zn_lt hz e' h0),hn,hr⟩
theorem PnN.le {b0 b1:Nat}(h:PnN b0 w ad n ps B)(hb:b1≤b0):PnN b1 w ad n ps B:=by
 obtain⟨h1,h2⟩:=h
 refine⟨h1,?_⟩
 rcases h2 with h2|⟨b,off,e,hb',hl,h2⟩
 ·exact .inl h2
 refine .inr ⟨b,off,e,by omega,hl,fun i hi=> ?_⟩
 obtain⟨s,a,l,c,e0,e1,e2,hz,hn,hr⟩:=h2 i hi
 exact⟨s,a,l,c,e0,e1,e2,hz,(fun b' off' e' h0=>by have:=hn b' off' e' h0;omega),hr⟩
theorem cps_pn {cap:Nat}{q:Nat}(hc:Cps wb wr g B n rs)(hr:wr.ownsRow q 117 3 (.slice (some ⟨g,0,none⟩) n cap) n (flat rs)):PnN q wr (some ⟨g,0,none⟩) n (rs.map Raw.p) B:=by
 have hl:rs.length=n:=by have:=hr.1;rw[flat_length]at this;omega
 have hg:=World.ownsRow.lt hr g rfl
 refine⟨by simpa using hl,.inr ⟨g,0,rfl,hg.1,hg.2,fun i hi=> ?_⟩⟩
 rw[List.length_map]at hi
 obtain⟨h1,h2,h3⟩:=hc i hi
 rw[if_pos o_m]at h3
 rw[List.getElem_map]
 refine⟨_,_,_,_,?_,?_,?_,h3.1,(fun b off e h0=>by have:=h3.2 b off e h0;omega),h1,h2⟩
 ·rw[Nat.zero_add]
  exact own_cell hr (by simpa [Raw.enc,Raw.p] using flat_get rs i 0 hi (by decide))
 ·rw[Nat.zero_add]
  exact own_cell hr (by simpa [Raw.enc] using flat_get rs i 1 hi (by decide))
 rw[Nat.zero_add]
 exact own_cell hr (by simpa [Raw.enc] using flat_get rs i 2 hi (by decide))
theorem NB.set0 (h:NB w r kd s a l c ad n cp t b m d vr ka kn kc)(kd':Int):NB (w.setCell ⟨r,0,none⟩ (.int .i64 kd')) r kd' s a l c ad n cp t b m d vr ka kn kc:=
 heap_setCell_same w r 0 _ _ _ h
theorem NB.set6 (h:NB w r kd s a l c ad n cp t b m d vr ka kn kc)(vr':Int):NB (w.setCell ⟨r,6,none⟩ (.int .i64 vr')) r kd s a l c ad n cp t b m d vr' ka kn kc:=
 heap_setCell_same w r 6 _ _ _ h
theorem NB.set12 (h:NB w r kd s a l c ad n cp t b m d vr ka kn kc)(s':Bool)(a':Option Addr)(l' c':Nat):NB ((w.setCell ⟨r,1,none⟩ (.bool s')).setCell ⟨r,2,none⟩ (.slice a' l' c')) r kd s' a' l' c' ad n cp t b m d vr ka kn kc:=
 heap_setCell_same _ r 2 _ _ _ (heap_setCell_same w r 1 _ _ _ h)
theorem NB.set345 (h:NB w r kd s a l c ad n cp t b m d vr ka kn kc)(ad':Option Addr)(n' cp':Nat)(t':Bool)(b':Option Addr)(m' d':Nat):NB (((w.setCell ⟨r,3,none⟩ (.slice ad' n' cp')).setCell ⟨r,4,none⟩ (.bool t')).setCell ⟨r,5,none⟩ (.slice b' m' d')) r kd s a l c ad' n' cp' t' b' m' d' vr ka kn kc:=
 heap_setCell_same _ r 5 _ _ _ (heap_setCell_same _ r 4 _ _ _ (heap_setCell_same w r 3 _ _ _ h))
theorem NB.set7 (h:NB w r kd s a l c ad n cp t b m d vr ka kn kc)(ka':Option Addr)(kn' kc':Nat):NB (w.setCell ⟨r,7,none⟩ (.slice ka' kn' kc')) r kd s a l c ad n cp t b m d vr ka' kn' kc':=
 heap_setCell_same w r 7 _ _ _ h
theorem heap_three (j i k:Nat)(u v x:Value){b:Nat}(h:b≠g):(((w.setCell ⟨g,j,none⟩ u).setCell ⟨g,i,none⟩ v).setCell ⟨g,k,none⟩ x).heap[b]? =w.heap[b]? :=
 (heap_setCell_other _ ⟨g,k,none⟩ b x h).trans (heap_two j i u v h)
theorem nb_fin {kd0:Int}{s0:Bool}{a0:Option Addr}{l0 c0:Nat}{ad0:Option Addr}{n0 cp0:Nat}{t0:Bool}{b0:Option Addr}{m0 d0:Nat}{vr0:Int}{ka0:Option Addr}{kn0 kc0:Nat}(h:NB w r kd0 s0 a0 l0 c0 ad0 n0 cp0 t0 b0 m0 d0 vr0 ka0 kn0 kc0)(kd:Int)(s:Bool)(a:Option Addr)(l c:Nat)(ad:Option Addr)(n cp:Nat)(t:Bool)(b:Option Addr)(m d:Nat)(vr:Int)(ka:Option Addr)(kn kc:Nat):
  ((((((((w.setCell ⟨r,0,none⟩ (.int .i64 kd)).setCell ⟨r,1,none⟩ (.bool s)).setCell ⟨r,2,none⟩ (.slice a l c)).setCell ⟨r,3,none⟩ (.slice ad n cp)).setCell ⟨r,4,none⟩ (.bool t)).setCell ⟨r,5,none⟩ (.slice b m d)).setCell ⟨r,6,none⟩ (.int .i64 vr)).setCell ⟨r,7,none⟩ (.slice ka kn kc)).heap[r]? =some (.cells #[.int .i64 kd,.bool s,.slice a l c,.slice ad n cp,.bool t,.slice b m d,.int .i64 vr,.slice ka kn kc] 69 (0,0)):=
 (((((h.set0 kd).set12 s a l c).set345 ad n cp t b m d).set6 vr).set7 ka kn kc)
theorem heap_eight {b:Nat}(h:b≠g)(x0 x1 x2 x3 x4 x5 x6 x7:Value):((((((((w.setCell ⟨g,0,none⟩ x0).setCell ⟨g,1,none⟩ x1).setCell ⟨g,2,none⟩ x2).setCell ⟨g,3,none⟩ x3).setCell ⟨g,4,none⟩ x4).setCell ⟨g,5,none⟩ x5).setCell ⟨g,6,none⟩ x6).setCell ⟨g,7,none⟩ x7).heap[b]? =w.heap[b]? :=
 (heap_two 6 7 x6 x7 h).trans ((heap_three 3 4 5 x3 x4 x5 h).trans (heap_three 0 1 2 x0 x1 x2 h))
def CO (w w':World)(e:Ending)(kd:Int)(sd:Bool)(ld np:Nat)(sk:Bool)(lk:Nat)(vr:Int)(kn:Nat)(d:Int)(ps:List (Int × Int))(k:Int)(kids:List Int)(B:Nat):Prop:=
 ∃ad cd ap cp ak ck ka kc,e= .returned (.agg #[.int .i64 kd,.bool sd,.slice ad ld cd,.slice ap np cp,.bool sk,.slice ak lk ck,.int .i64 vr,.slice ka kn kc])∧Zn w' sd ad ld cd d∧New w.heap.size ad ld∧PnN w.heap.size w' ap np ps B∧Zn w' sk ak lk ck k∧New w.heap.size ak lk∧IL w' ka kn kids∧New w.heap.size ka kn∧Below w.heap.size w w'

theorem row_il {v:Value}{l:List Int}(h:w.ownsRow base 3 1 v n (l.map (Value.int .i64)))(hx: ∀x∈l,I64 x): ∃a c,v= .slice a n c∧IL w a n l∧New base a n:=by
 have hl:l.length=n:=by simpa using h.1
 rcases h.2 with⟨rfl,rfl⟩|⟨g,cap,cur,rfl,hg,hcur,h1,h2,h3,htake⟩
 ·exact⟨none,0,rfl,⟨hl,.inl rfl⟩,fun _ _ e=>by cases e⟩
 refine⟨_,cap,rfl,⟨hl,.inr ⟨g,0,rfl,(Array.getElem?_eq_some_iff.1 hcur).1,fun i hi=>⟨?_,hx _ (List.getElem_mem hi)⟩⟩⟩,fun b off e _=>by cases e;exact hg⟩
 have e:(cur.toList.take (n*1))[i]? =some (.int .i64 l[i]):=by rw[htake,List.getElem?_map,List.getElem?_eq_getElem hi];rfl
 rw[List.getElem?_take,if_pos o_m]at e
 rw[Nat.zero_add]
 exact(cell_of_row w g i _ _ (0,0) hcur).trans (by simpa using e)
def CI (w w':World)(e:Ending)(n:Nat)(l:List Int):Prop:=∃a c,e= .returned (.slice a n c)∧IL w' a n l∧New w.heap.size a n∧Below w.heap.size w w'
theorem cloneI_n {kids:List Int}(hK:IL w ka kn kids)(hkn:kn≤4294967296):
  Calls Tryz.prog 96 #[.slice ka kn kc] w fun e w'=>CI w w' e kn kids:=by
 obtain⟨h1,h2⟩:=hK
 by_cases h0:kn=0
 ·subst h0
  obtain rfl:kids= []:=List.eq_nil_of_length_eq_zero h1
  cases ka with
  |none=>
   refine(Tryz.slices_Clone_int_nil 0 kc w).mono ?_
   rintro e w' ⟨rfl,rfl⟩
   exact⟨none,0,rfl,⟨rfl,.inl rfl⟩,(fun _ _ e=>by cases e),Below.refl _ _⟩
  |some a=>
   refine(Tryz.slices_Clone_int_zero a kc w).mono ?_
   rintro e w' ⟨v,rfl,hown,-,hb⟩
   obtain⟨a',c',rfl,h3,h4⟩:=row_il (l:=[]) hown (fun x hx=>by cases hx)
   exact⟨a',c',rfl,h3,h4,hb⟩
 rcases h2 with h2|⟨b,off,rfl,hb,h2⟩
 ·exact absurd h2 h0
 refine(Tryz.slices_Clone_int b off kn kc kids w o_m o_m (fun j hj=> ?_)).mono ?_
 ·rw[(h2 j hj).1,List.getD_eq_getElem?_getD,List.getElem?_eq_getElem hj]
  rfl
 rintro e w' ⟨v,rfl,hown,-,hbl⟩
 rw[List.take_of_length_le (Nat.le_of_eq h1)]at hown
 obtain⟨a',c',rfl,h3,h4⟩:=row_il hown (fun x hx=>by
  obtain⟨i,hi,rfl⟩:=List.getElem_of_mem hx
  exact(h2 i hi).2)
 exact⟨a',c',rfl,h3,h4,hbl⟩
theorem il_move {l:List Int}(h:IL w a n l)(hs:w.heap.size≤w'.heap.size)(hm: ∀b off,a=some ⟨b,off,none⟩→0<n→w'.heap[b]? =w.heap[b]?):IL w' a n l:=by
 obtain⟨h1,h2⟩:=h
 refine⟨h1,?_⟩
 by_cases h0:n=0
 ·exact .inl h0
 rcases h2 with h2|⟨b,off,e,hb,h2⟩
 ·exact .inl h2
 exact .inr ⟨b,off,e,by omega,fun i hi=>⟨(cell_heap (hm b off e o_m) _).trans (h2 i hi).1,(h2 i hi).2⟩⟩

theorem copied_n {sd:Bool}{ld cd:Nat}{ap:Option Addr}{np:Nat}{sk:Bool}{ak:Option Addr}{lk ck:Nat}{d k:Int}{kids:List Int}
  (hd:Zn w sd ad ld cd d)(hld:ld≤B)(hP:Pn w ap np ps B)(hk:Zn w sk ak lk ck k)(hlk:lk≤B)(hK:IL w ka kn kids)(hn:np≤1048576)(hkn:kn≤1048576)(hB:B≤2097152):
  Calls Tryz.prog 65 #[.agg #[.int .i64 kd,.bool sd,.slice ad ld cd,.slice ap np cp,.bool sk,.slice ak lk ck,.int .i64 vr,.slice ka kn kc]] w fun e w'=>CO w w' e kd sd ld np sk lk vr kn d ps k kids B:=by
 go_enter Tryz.func65,Tryz.ntmps65
 have y:=(NB.new w kd sd ad ld cd ap np cp sk ak lk ck vr ka kn kc).below (below_alloc _ (.cells #[.int .i64 0,.bool false,.slice none 0 0,.slice none 0 0,.bool false,.slice none 0 0,.int .i64 0,.slice none 0 0] 69))
 have y2:=NB.new (w.alloc (.cells #[.int .i64 kd,.bool sd,.slice ad ld cd,.slice ap np cp,.bool sk,.slice ak lk ck,.int .i64 vr,.slice ka kn kc] 69)) 0 false none 0 0 none 0 0 false none 0 0 0 none 0 0
 have b0:Below w.heap.size w ((w.alloc (.cells #[.int .i64 kd,.bool sd,.slice ad ld cd,.slice ap np cp,.bool sk,.slice ak lk ck,.int .i64 vr,.slice ka kn kc] 69)).alloc (.cells #[.int .i64 0,.bool false,.slice none 0 0,.slice none 0 0,.bool false,.slice none 0 0,.int .i64 0,.slice none 0 0] 69)):=below_alloc' (below_alloc _ _) _
 rw[show(w.alloc (.cells #[.int .i64 kd,.bool sd,.slice ad ld cd,.slice ap np cp,.bool sk,.slice ak lk ck,.int .i64 vr,.slice ka kn kc] 69)).heap.size=w.heap.size+1 from by simp]at y2
 have u3:=y.c3
 go_wp2_with fail
 clear u3
 generalize (w.alloc (.cells #[.int .i64 kd,.bool sd,.slice ad ld cd,.slice ap np cp,.bool sk,.slice ak lk ck,.int .i64 vr,.slice ka kn kc] 69)).alloc (.cells #[.int .i64 0,.bool false,.slice none 0 0,.slice none 0 0,.bool false,.slice none 0 0,.int .i64 0,.slice none 0 0] 69)=wb at*
 replace hP:=hP.below b0
 have hsz:=y2.lt
 have hb0:=b0
 generalize hp:w.heap.size=p at*
 replace b0:Hid (Below w.heap.size w wb):=hp▸b0
 clear hb0
 have hps:=hP.1
 refine(cloneP_n hP o_m).mono ?_
 rintro e w1 ⟨v,rs,rfl,hown,hmap,hok,k1⟩
 have hrl:rs.length=np:=by rw[←hps,←hmap,List.length_map]
 obtain⟨ax,cap,g,rfl,hax,hgb⟩: ∃ax cap g,v= .slice ax np cap∧(0<np→ax=some ⟨g,0,none⟩)∧(0<np→wb.heap.size≤g):=by
  rcases Joins.ownsRow_forms hown with⟨rfl,rfl⟩|⟨g,cap,rfl⟩
  ·exact⟨none,0,0,rfl,(fun h=>absurd h o_m),fun h=>absurd h o_m⟩
  exact⟨_,cap,g,rfl,(fun _=>rfl),fun _=>(World.ownsRow.lt hown g rfl).1⟩
 have hcp0:Cps wb w1 g B 0 rs:=fun i hi=>⟨(hok _ (List.getElem_mem hi)).2.1,(hok _ (List.getElem_mem hi)).2.2,by rw[if_neg o_m];exact(hok _ (List.getElem_mem hi)).1⟩
 go_wp2_with fail
 go_loopw [11] (fun i wr=> ∃(t:Nat) (rt:List Raw),t≤np∧i= .int .i64 t∧rt.length=np∧Hid (wr.ownsRow wb.heap.size 117 3 (.slice ax np cap) np (flat rt))∧Hid (rt.map Raw.p=ps)∧Hid (Cps wb wr g B t rt)∧Hid (Below wb.heap.size wb wr)) (fun i _=>np-(intOf i).toNat)
 case atStart=>exact⟨0,rs,Nat.zero_le _,rfl,hrl,hown,hmap,hcp0,k1⟩
 case round=>
  obtain⟨t,rt,ht,rfl,hrt,hrow,hmp,hcp,kr⟩:=hrel
  by_cases htn:t<np
  ·obtain rfl:=hax o_m
   replace hgb:=hgb o_m
   obtain⟨q1,q2,q3⟩:=hcp.out t o_m
   rw[if_neg o_m]at q3
   have e1:=own_cell hrow.out (j:=t*3+1) (u:=.bool (rt[t]).s) (by simpa [Raw.enc] using flat_get rt t 1 o_m (by decide))
   have e2:=own_cell hrow.out (j:=t*3+2) (u:=.slice (rt[t]).a (rt[t]).l (rt[t]).c) (by simpa [Raw.enc] using flat_get rt t 2 o_m (by decide))
   have hfs:=fun(s:Bool) (a:Option Addr) (l c:Nat) (z:Int)=>flat_set2 rt t o_m s a l c z
   have hmx:Hid (∀s a l c,(rt.set t ⟨(rt[t]).v,s,a,l,c,(rt[t]).z⟩).map Raw.p=ps):=hide fun s a l c=>(map_set_p rt t o_m s a l c).trans hmp.out
   generalize hx:rt[t]=x at*
   replace hfs:=hide hfs
   replace q3:=hide (q3.below kr.out)
   go_wp2_with fail
   refine(copiedInt_n q3.out o_m).mono ?_
   rintro e w2 ⟨a',c',rfl,hz2,hn2,k2⟩
   have r2:=own_below hrow.out k2
   have hlt2:t*3+2<(flat rt).length:=by rw[flat_length];omega
   have f1:=own_cell r2 (j:=t*3+1) (List.getElem?_eq_getElem o_m)
   have f2:=own_cell r2 (j:=t*3+2) (List.getElem?_eq_getElem hlt2)
   have f3:=r2.frozenAt (t*3+1)
   have f4:=r2.frozenAt (t*3+2)
   obtain⟨r3,g3⟩:=r2.stored (t*3+1) (.bool x.s)
   obtain⟨r4,g4⟩:=r3.stored (t*3+2) (.slice a' x.l c')
   rw[hfs.out x.s a' x.l c' x.z]at r4
   have gg:w2.grownBy ((w2.setCell ⟨g,t*3+1,none⟩ (.bool x.s)).setCell ⟨g,t*3+2,none⟩ (.slice a' x.l c')) (some g):=gb_trans g3 g4
   have hgl:=(World.ownsRow.lt hrow.out g rfl).2
   have hz4:Zn ((w2.setCell ⟨g,t*3+1,none⟩ (.bool x.s)).setCell ⟨g,t*3+2,none⟩ (.slice a' x.l c')) x.s a' x.l c' x.z:=zn_move hz2 gg.size fun b off e1 h0=>by
    have hb:=hn2 b off e1 h0
    exact heap_two _ _ _ _ o_m
   have hc4:=hide (cps_set (cps_below hcp.out k2) gg ⟨x.v,x.s,a',x.l,c',x.z⟩ rfl hz4 (fun b off e1 h0=>by have:=hn2 b off e1 h0;omega) q1 q2)
   have k4:=hide (((grow_step k2 kr.out).setCell (p:=⟨g,t*3+1,none⟩) hgb (.bool x.s)).setCell (p:=⟨g,t*3+2,none⟩) hgb (.slice a' x.l c'))
   have hm4:=hide (hmx.out x.s a' x.l c')
   replace r4:=hide r4
   clear hz4 hz2 hn2 k2 r2 r3 g3 g4 gg hcp kr hrow hmx hfs q3 e1 e2
   go_wp2
   exact⟨⟨t+1,_,by omega,by go_num,by simp;omega,r4,hm4,hc4,k4⟩,by simp[intOf];omega⟩
  obtain rfl:t=np:=by omega
  have hPN:PnN wb.heap.size wr ax t ps B:=by
   by_cases h0:0<t
   ·obtain rfl:=hax h0
    rw[←hmp.out]
    exact cps_pn hcp.out hrow.out
   obtain rfl:t=0:=by omega
   exact⟨hps,.inl rfl⟩
  have yr:=y.below kr.out
  have yr2:=y2.below kr.out
  have kw:=hide (grow_step kr.out b0.out)
  have hqr:=kr.out.size
  clear hcp hrow hmp hcp0 hown hok hmap hrt hrl hax hgb hP kr k1 y y2 b0
  generalize wb.heap.size=q at*
  have u1:=yr.c1
  have u2:=yr.c2
  go_wp2_with fail
  clear u1 u2
  refine(copiedInt_n (hd.below kw.out) o_m).mono ?_
  rintro e w3 ⟨a1,c1,rfl,hz3,hn3,k3⟩
  have hp3:PnN q w3 ax t ps B:=hPN.move k3.size fun b _ hb=>k3.block b hb
  have y3:=yr.below k3
  have y32:=yr2.below k3
  replace kw:=hide (grow_step k3 kw.out)
  have hz4:=hide (zn_move (w':=(w3.setCell ⟨p,1,none⟩ (.bool sd)).setCell ⟨p,2,none⟩ (.slice a1 ld c1)) hz3 (by simp[World.setCell]) fun b off e1 h0=>heap_two _ _ _ _ (by have:=hn3 b off e1 h0;omega))
  have hp4:=hide (hp3.move (w':=(w3.setCell ⟨p,1,none⟩ (.bool sd)).setCell ⟨p,2,none⟩ (.slice a1 ld c1)) (by simp[World.setCell]) fun b hb _=>heap_two _ _ _ _ o_m)
  have y4:=hide (y3.set12 sd a1 ld c1)
  have y42:Hid (NB ((w3.setCell ⟨p,1,none⟩ (.bool sd)).setCell ⟨p,2,none⟩ (.slice a1 ld c1)) (p+1) 0 false none 0 0 none 0 0 false none 0 0 0 none 0 0):=hide ((heap_two _ _ _ _ o_m).trans y32)
  have kw4:=hide ((kw.out.setCell (p:=⟨p,1,none⟩) (Nat.le_of_eq hp) (.bool sd)).setCell (p:=⟨p,2,none⟩) (Nat.le_of_eq hp) (.slice a1 ld c1))
  have hs4:Hid (w3.heap.size≤((w3.setCell ⟨p,1,none⟩ (.bool sd)).setCell ⟨p,2,none⟩ (.slice a1 ld c1)).heap.size):=hide (by simp[World.setCell])
  have hn4:Hid (New q a1 ld):=hide fun b off e1 h0=>by have:=hn3 b off e1 h0;omega
  have hq4:Hid (q≤w3.heap.size):=hide (by have:=k3.size;omega)
  have f1:=y3.c1
  have f2:=y3.c2
  have f3:=y3.f 1
  have f4:=y3.f 2
  have u4:=y4.out.c4
  have u5:=y4.out.c5
  clear hz3 hp3 y3 y32 kw k3 yr yr2 hn3 hPN
  go_wp2_with fail
  clear f1 f2 f3 f4 u4 u5
  generalize (w3.setCell ⟨p,1,none⟩ (.bool sd)).setCell ⟨p,2,none⟩ (.slice a1 ld c1)=w4 at*
  refine(copiedInt_n (hk.below kw4.out) o_m).mono ?_
  rintro e w5 ⟨a2,c2,rfl,hz5,hn5,k5⟩
  have hq5:q≤w5.heap.size:=by have:=k5.size;have:=hs4.out;have:=hq4.out;omega
  have hn5':Hid (New q a2 lk):=hide fun b off e1 h0=>by have:=hn5 b off e1 h0;have:=hs4.out;have:=hq4.out;omega
  have hz4':=hz4.out.below k5
  have hp5:PnN q w5 ax t ps B:=hp4.out.move k5.size fun b _ hb=>k5.block b hb
  have y5:=y4.out.below k5
  have y52:=y42.out.below k5
  have kw5:=grow_step k5 kw4.out
  clear hz4 hp4 y4 y42 kw4 hs4 hq4 k5 hn5
  have hz6:=hide (zn_move (w':=((w5.setCell ⟨p,3,none⟩ (.slice ax t cap)).setCell ⟨p,4,none⟩ (.bool sk)).setCell ⟨p,5,none⟩ (.slice a2 lk c2)) hz4' (by simp[World.setCell]) fun b off e1 h0=>heap_three _ _ _ _ _ _ (by have:=hn4.out b off e1 h0;omega))
  have hz7:=hide (zn_move (w':=((w5.setCell ⟨p,3,none⟩ (.slice ax t cap)).setCell ⟨p,4,none⟩ (.bool sk)).setCell ⟨p,5,none⟩ (.slice a2 lk c2)) hz5 (by simp[World.setCell]) fun b off e1 h0=>heap_three _ _ _ _ _ _ (by have:=hn5'.out b off e1 h0;omega))
  have hp6:=hide (hp5.move (w':=((w5.setCell ⟨p,3,none⟩ (.slice ax t cap)).setCell ⟨p,4,none⟩ (.bool sk)).setCell ⟨p,5,none⟩ (.slice a2 lk c2)) (by simp[World.setCell]) fun b hb _=>heap_three _ _ _ _ _ _ o_m)
  have y6:=hide (y5.set345 ax t cap sk a2 lk c2)
  have y62:Hid (NB (((w5.setCell ⟨p,3,none⟩ (.slice ax t cap)).setCell ⟨p,4,none⟩ (.bool sk)).setCell ⟨p,5,none⟩ (.slice a2 lk c2)) (p+1) 0 false none 0 0 none 0 0 false none 0 0 0 none 0 0):=hide ((heap_three _ _ _ _ _ _ o_m).trans y52)
  have kw6:=hide (((kw5.setCell (p:=⟨p,3,none⟩) (Nat.le_of_eq hp) (.slice ax t cap)).setCell (p:=⟨p,4,none⟩) (Nat.le_of_eq hp) (.bool sk)).setCell (p:=⟨p,5,none⟩) (Nat.le_of_eq hp) (.slice a2 lk c2))
  have hs6:Hid (q≤(((w5.setCell ⟨p,3,none⟩ (.slice ax t cap)).setCell ⟨p,4,none⟩ (.bool sk)).setCell ⟨p,5,none⟩ (.slice a2 lk c2)).heap.size):=hide (by simpa [World.setCell] using hq5)
  have f1:=y5.c3
  have f2:=y5.c4
  have f3:=y5.c5
  have f4:=y5.f 3
  have f5:=y5.f 4
  have f6:=y5.f 5
  have u7:=y6.out.c7
  clear hz4' hz5 hp5 y5 y52 kw5
  go_wp2_with fail
  clear f1 f2 f3 f4 f5 f6 u7
  generalize ((w5.setCell ⟨p,3,none⟩ (.slice ax t cap)).setCell ⟨p,4,none⟩ (.bool sk)).setCell ⟨p,5,none⟩ (.slice a2 lk c2)=w6 at*
  refine(cloneI_n (hK.below kw6.out) o_m).mono ?_
  rintro e w7 ⟨a3,c3,rfl,hK7,hn7,k7⟩
  have hn7':Hid (New q a3 kn):=hide fun b off e1 h0=>by have:=hn7 b off e1 h0;have:=hs6.out;omega
  have hz7a:=hz6.out.below k7
  have hz7b:=hz7.out.below k7
  have hp7:PnN q w7 ax t ps B:=hp6.out.move k7.size fun b _ hb=>k7.block b hb
  have y7:=y6.out.below k7
  have y72:=y62.out.below k7
  have kw7:=grow_step k7 kw6.out
  have hq7:q≤w7.heap.size:=by have:=k7.size;have:=hs6.out;omega
  clear hz6 hz7 hp6 y6 y62 kw6 hs6 k7 hn7
  have hz8a:=hide (zn_move (w':=w7.setCell ⟨p,7,none⟩ (.slice a3 kn c3)) hz7a (by simp[World.setCell]) fun b off e1 h0=>heap_setCell_other _ _ _ _ (by have:=hn4.out b off e1 h0;show b≠p;omega))
  have hz8b:=hide (zn_move (w':=w7.setCell ⟨p,7,none⟩ (.slice a3 kn c3)) hz7b (by simp[World.setCell]) fun b off e1 h0=>heap_setCell_other _ _ _ _ (by have:=hn5'.out b off e1 h0;show b≠p;omega))
  have hp8:=hide (hp7.move (w':=w7.setCell ⟨p,7,none⟩ (.slice a3 kn c3)) (by simp[World.setCell]) fun b hb _=>heap_setCell_other _ _ _ _ (by show b≠p;omega))
  have hK8:=hide (il_move (w':=w7.setCell ⟨p,7,none⟩ (.slice a3 kn c3)) hK7 (by simp[World.setCell]) fun b off e1 h0=>heap_setCell_other _ _ _ _ (by have:=hn7'.out b off e1 h0;show b≠p;omega))
  have y8:=hide (y7.set7 a3 kn c3)
  have y82:Hid (NB (w7.setCell ⟨p,7,none⟩ (.slice a3 kn c3)) (p+1) 0 false none 0 0 none 0 0 false none 0 0 0 none 0 0):=hide ((heap_setCell_other _ _ _ _ (by show p+1≠p;omega)).trans y72)
  have kw8:=hide (kw7.setCell (p:=⟨p,7,none⟩) (Nat.le_of_eq hp) (.slice a3 kn c3))
  have f1:=y7.c7
  have f2:=y7.f 7
  clear hz7a hz7b hp7 hK7 y7 y72 kw7
  iterate 10 (first|go_skip|go_guarded|go_step|go_upon|go_simp)
  clear f1 f2
  generalize w7.setCell ⟨p,7,none⟩ (.slice a3 kn c3)=w8 at*
  have u0:=y8.out.c0
  have u1:=y8.out.c1
  have u2:=y8.out.c2
  have u3:=y8.out.c3
  have u4':=y8.out.c4
  have u5:=y8.out.c5
  have u6:=y8.out.c6
  have u7:=y8.out.c7
  iterate 6 (first|go_skip|go_guarded|go_step|go_upon|go_simp)
  clear u0 u1 u2 u3 u4' u5 u6 u7
  have g0:=y82.out.c0
  have f0:=y82.out.f 0
  have g1:=y82.out.c1
  have f1:=y82.out.f 1
  have g2:=y82.out.c2
  have f2:=y82.out.f 2
  have g3:=y82.out.c3
  have f3:=y82.out.f 3
  have g4:=y82.out.c4
  have f4:=y82.out.f 4
  have g5:=y82.out.c5
  have f5:=y82.out.f 5
  have g6:=y82.out.c6
  have f6:=y82.out.f 6
  have g7:=y82.out.c7
  have f7:=y82.out.f 7
  iterate 6 (first|go_skip|go_guarded|go_step|go_upon|go_simp)
  clear g0 g1 g2 g3 g4 g5 g6 g7 f0 f1 f2 f3 f4 f5 f6 f7
  have hfin:=hide (nb_fin y82.out kd sd a1 ld c1 ax t cap sk a2 lk c2 vr a3 kn c3)
  have h8:Hid (∀b,b≠p+1→((((((((w8.setCell ⟨p+1,0,none⟩ (.int .i64 kd)).setCell ⟨p+1,1,none⟩ (.bool sd)).setCell ⟨p+1,2,none⟩ (.slice a1 ld c1)).setCell ⟨p+1,3,none⟩ (.slice ax t cap)).setCell ⟨p+1,4,none⟩ (.bool sk)).setCell ⟨p+1,5,none⟩ (.slice a2 lk c2)).setCell ⟨p+1,6,none⟩ (.int .i64 vr)).setCell ⟨p+1,7,none⟩ (.slice a3 kn c3)).heap[b]? =w8.heap[b]?):=hide fun b hb=>heap_eight hb _ _ _ _ _ _ _ _
  have hs8:Hid (w8.heap.size≤((((((((w8.setCell ⟨p+1,0,none⟩ (.int .i64 kd)).setCell ⟨p+1,1,none⟩ (.bool sd)).setCell ⟨p+1,2,none⟩ (.slice a1 ld c1)).setCell ⟨p+1,3,none⟩ (.slice ax t cap)).setCell ⟨p+1,4,none⟩ (.bool sk)).setCell ⟨p+1,5,none⟩ (.slice a2 lk c2)).setCell ⟨p+1,6,none⟩ (.int .i64 vr)).setCell ⟨p+1,7,none⟩ (.slice a3 kn c3)).heap.size):=hide (by simp[World.setCell])
  have kz:=hide ((((((((kw8.out.setCell (p:=⟨p+1,0,none⟩) (show w.heap.size≤p+1 by omega) (.int .i64 kd)).setCell (p:=⟨p+1,1,none⟩) (show w.heap.size≤p+1 by omega) (.bool sd)).setCell (p:=⟨p+1,2,none⟩) (show w.heap.size≤p+1 by omega) (.slice a1 ld c1)).setCell (p:=⟨p+1,3,none⟩) (show w.heap.size≤p+1 by omega) (.slice ax t cap)).setCell (p:=⟨p+1,4,none⟩) (show w.heap.size≤p+1 by omega) (.bool sk)).setCell (p:=⟨p+1,5,none⟩) (show w.heap.size≤p+1 by omega) (.slice a2 lk c2)).setCell (p:=⟨p+1,6,none⟩) (show w.heap.size≤p+1 by omega) (.int .i64 vr)).setCell (p:=⟨p+1,7,none⟩) (show w.heap.size≤p+1 by omega) (.slice a3 kn c3))
  generalize (((((((w8.setCell ⟨p+1,0,none⟩ (.int .i64 kd)).setCell ⟨p+1,1,none⟩ (.bool sd)).setCell ⟨p+1,2,none⟩ (.slice a1 ld c1)).setCell ⟨p+1,3,none⟩ (.slice ax t cap)).setCell ⟨p+1,4,none⟩ (.bool sk)).setCell ⟨p+1,5,none⟩ (.slice a2 lk c2)).setCell ⟨p+1,6,none⟩ (.int .i64 vr)).setCell ⟨p+1,7,none⟩ (.slice a3 kn c3)=w9 at*
  go_wp2
  refine bodyPost_ret (results_cell_row rfl _ _ (p+1) 69 _ (0,0) _ rfl hfin.out Tryz.underlying69 rfl k_f) rfl ?_
  refine⟨a1,c1,ax,cap,a2,c2,a3,c3,by simp,zn_move hz8a.out hs8.out fun b off e1 h0=>h8.out b (by have:=hn4.out b off e1 h0;omega),fun b off e1 h0=>by have:=hn4.out b off e1 h0;omega,?_,zn_move hz8b.out hs8.out fun b off e1 h0=>h8.out b (by have:=hn5'.out b off e1 h0;omega),fun b off e1 h0=>by have:=hn5'.out b off e1 h0;omega,il_move hK8.out hs8.out fun b off e1 h0=>h8.out b (by have:=hn7'.out b off e1 h0;omega),fun b off e1 h0=>by have:=hn7'.out b off e1 h0;omega,kz.out⟩
  exact PnN.le (hp8.out.move hs8.out fun b hb _=>h8.out b o_m) o_m
end Nt
end Go.Proofs.YtbgpddlcfiiiaaaGreatDoor

namespace Go.Proofs.YtbgpddlcfiiiaaaGreatDoor
open Go.RowKit Go.Sort Go.Shelf
open Tm At
namespace Nt

def pick (c n:Int):Int:=(if c<0 then -(c+1)else c)%n
theorem pick_lt (c:Int){n:Int}(h:0<n):0≤pick c n∧pick c n<n:=⟨Int.emod_nonneg _ o_m,Int.emod_lt_of_pos _ h⟩
def whatI (k:Int):Int:=if pick k 16<9 then 0 else if pick k 16<12 then 1 else if pick k 16<14 then 2 else pick k 16-11
theorem whatI_cases (k:Int):whatI k=0∨whatI k=1∨whatI k=2∨whatI k=3∨whatI k=4:=by
 have h:=pick_lt k (n:=16) (by decide)
 unfold whatI
 split
 ·simp
 split
 ·simp
 split
 ·simp
 omega
def ofK (ids:List Int)(k:Int):Int:=ids.getD (pick k ids.length).toNat 0
def ofI (ks ids:List Int):List Int:=if(ks.take 5).map (ofK ids)= []then [ids.getLastD 0]else(ks.take 5).map (ofK ids)
theorem ofI_mem {ks ids:List Int}(h:ids≠ []){x:Int}(hx:x∈ofI ks ids):x∈ids:=by
 have hl:=List.length_pos_iff.2 h
 unfold ofI at hx
 split at hx
 ·obtain rfl:=List.mem_singleton.1 hx
  rw[List.getLastD_eq_getLast?,List.getLast?_eq_some_getLast h]
  exact List.getLast_mem h
 obtain⟨k,_,rfl⟩:=List.mem_map.1 hx
 have h2:=pick_lt k (n:=(ids.length:Int)) o_m
 unfold ofK
 rw[List.getD_eq_getElem?_getD,List.getElem?_eq_getElem (show(pick k ids.length).toNat<ids.length by omega)]
 exact List.getElem_mem _
theorem ofI_ne {ks ids:List Int}:ofI ks ids≠ []:=by
 unfold ofI
 split
 ·simp
 assumption
theorem ofI_len {ks ids:List Int}:(ofI ks ids).length≤5:=by
 unfold ofI
 split
 ·simp
 simp;omega

theorem pick_n {w:World}{c n:Int}(hc:I64 c)(hn:0<n):Calls Tryz.prog 8 #[.int .i64 c,.int .i64 n] w fun e w'=>e= .returned (.int .i64 (pick c n))∧w'=w:=by
 go_enter Tryz.func8,Tryz.ntmps8
 unfold I64 at hc
 by_cases h:c<0
 ·go_wp2
  go_ret
  refine⟨?_,rfl⟩
  unfold pick
  rw[if_pos h,←Int.tmod_eq_emod_of_nonneg (a:=-(c+1)) o_m,Int.neg_tmod]
  rfl
 go_wp2
 go_ret
 refine⟨?_,rfl⟩
 unfold pick
 rw[if_neg o_m]
 rfl

def mkv (kd xk:Int)(sd:Bool)(ad:Option Addr)(ld cd:Nat)(ap:Option Addr)(np cp:Nat)(sk:Bool)(ak:Option Addr)(lk ck:Nat)(v:Int)(ka:Option Addr)(kn kc:Nat):Value:=.agg #[.int .i64 kd,.int .i64 xk,.bool sd,.slice ad ld cd,.slice ap np cp,.bool sk,.slice ak lk ck,.int .i64 v,.slice ka kn kc]

theorem what_n {w:World}{kd xk:Int}{sd:Bool}{ad:Option Addr}{ld cd:Nat}{ap:Option Addr}{np cp:Nat}{sk:Bool}{ak:Option Addr}{lk ck:Nat}{v:Int}{ka:Option Addr}{kn kc:Nat}(hk:I64 kd):Calls Tryz.prog 29 #[mkv kd xk sd ad ld cd ap np cp sk ak lk ck v ka kn kc] w fun e w'=>e= .returned (.int .i64 (whatI kd))∧Below w.heap.size w w':=by
 unfold mkv
 go_enter Tryz.func29,Tryz.ntmps29
 have b0:=below_alloc w (.cells #[.int .i64 kd,.int .i64 xk,.bool sd,.slice ad ld cd,.slice ap np cp,.bool sk,.slice ak lk ck,.int .i64 v,.slice ka kn kc] 73)
 go_wp2_with fail
 refine(pick_n hk (by decide)).mono ?_
 rintro e w1 ⟨rfl,rfl⟩
 have hp:=pick_lt kd (n:=16) (by decide)
 have hw:whatI kd=if pick kd 16<9 then 0 else if pick kd 16<12 then 1 else if pick kd 16<14 then 2 else pick kd 16-11:=rfl
 replace hw:=hide hw
 generalize pick kd 16=q at*
 by_cases h1:q<9
 ·go_wp2
  go_ret
  exact⟨by rw[hw.out,if_pos o_m];rfl,b0⟩
 by_cases h2:q<12
 ·go_wp2
  go_ret
  exact⟨by rw[hw.out,if_neg o_m,if_pos o_m];rfl,b0⟩
 by_cases h3:q<14
 ·go_wp2
  go_ret
  exact⟨by rw[hw.out,if_neg o_m,if_neg o_m,if_pos o_m];rfl,b0⟩
 go_wp2
 go_ret
 exact⟨by rw[hw.out,if_neg o_m,if_neg o_m,if_neg o_m];rfl,b0⟩

theorem var_n {w:World}{kd xk:Int}{sd:Bool}{ad:Option Addr}{ld cd:Nat}{ap:Option Addr}{np cp:Nat}{sk:Bool}{ak:Option Addr}{lk ck:Nat}{v:Int}{ka:Option Addr}{kn kc:Nat}(hk:I64 v):Calls Tryz.prog 32 #[mkv kd xk sd ad ld cd ap np cp sk ak lk ck v ka kn kc] w fun e w'=>e= .returned (.int .i64 (pick v 4))∧Below w.heap.size w w':=by
 unfold mkv
 go_enter Tryz.func32,Tryz.ntmps32
 have b0:=below_alloc w (.cells #[.int .i64 kd,.int .i64 xk,.bool sd,.slice ad ld cd,.slice ap np cp,.bool sk,.slice ak lk ck,.int .i64 v,.slice ka kn kc] 73)
 go_wp2_with fail
 refine(pick_n hk (by decide)).mono ?_
 rintro e w1 ⟨rfl,rfl⟩
 go_wp2
 go_ret
 exact⟨rfl,b0⟩

end Nt
namespace Nt

theorem own_slice {w:World}{base:Nat}{ty:TypeId}{st n:Nat}{v:Value}{l:List Value}(h:w.ownsRow base ty st v n l): ∃a c,v= .slice a n c:=by
 rcases h.2 with⟨rfl,rfl⟩|⟨g,cap,cur,rfl,_⟩
 ·exact⟨none,0,rfl⟩
 exact⟨_,cap,rfl⟩
def QB (w:World)(r:Nat)(kd xk:Int)(sd:Bool)(ad:Option Addr)(ld cd:Nat)(ap:Option Addr)(np cp:Nat)(sk:Bool)(ak:Option Addr)(lk ck:Nat)(v:Int)(ka:Option Addr)(kn kc:Nat):Prop:=
 w.heap[r]? =some (.cells #[.int .i64 kd,.int .i64 xk,.bool sd,.slice ad ld cd,.slice ap np cp,.bool sk,.slice ak lk ck,.int .i64 v,.slice ka kn kc] 73 (0,0))

theorem of_n {w:World}{kd xk:Int}{sd:Bool}{ad:Option Addr}{ld cd:Nat}{ap:Option Addr}{np cp:Nat}{sk:Bool}{ak:Option Addr}{lk ck:Nat}{v:Int}{ka:Option Addr}{kn kc:Nat}{ks ids:List Int}{ia:Option Addr}{ic:Nat}(hI:IL w ka kn ks)(hkn:kn≤1048576)(hN:IL w ia ids.length ids)(h0:ids≠ [])(hl:ids.length≤1000):Calls Tryz.prog 28 #[mkv kd xk sd ad ld cd ap np cp sk ak lk ck v ka kn kc,.slice ia ids.length ic] w fun e w'=>CI w w' e (ofI ks ids).length (ofI ks ids):=by
 unfold mkv
 have b0:=below_alloc w (.cells #[.int .i64 kd,.int .i64 xk,.bool sd,.slice ad ld cd,.slice ap np cp,.bool sk,.slice ak lk ck,.int .i64 v,.slice ka kn kc] 73)
 have y:QB (w.alloc (.cells #[.int .i64 kd,.int .i64 xk,.bool sd,.slice ad ld cd,.slice ap np cp,.bool sk,.slice ak lk ck,.int .i64 v,.slice ka kn kc] 73)) w.heap.size kd xk sd ad ld cd ap np cp sk ak lk ck v ka kn kc:=heap_alloc_new w _
 go_enter Tryz.func28,Tryz.ntmps28
 go_wp2_with fail
 obtain⟨i0,hi,hz0,hz1,hz2⟩:=info_parts infoI
 replace hI:=hI.below b0
 replace hN:=hN.below b0
 have hk:=hI.1
 have hn0:=List.length_pos_iff.2 h0
 generalize w.alloc (.cells #[.int .i64 kd,.int .i64 xk,.bool sd,.slice ad ld cd,.slice ap np cp,.bool sk,.slice ak lk ck,.int .i64 v,.slice ka kn kc] 73)=wb at*
 generalize hp:w.heap.size=p at*
 replace b0:Hid (Below w.heap.size w wb):=hp▸b0
 have hpl:p<wb.heap.size:=(Array.getElem?_eq_some_iff.1 y).1
 go_loopw [5,6] (fun vv i wr=> ∃t:Nat,t≤kn∧t≤5∧i= .int .i64 t∧Hid (wr.ownsRow wb.heap.size 3 1 vv t (((ks.take t).map (ofK ids)).map (Value.int .i64)))∧Hid (Below wb.heap.size wb wr)) (fun _ i _=>5-(intOf i).toNat)
 case atStart=>exact⟨0,Nat.zero_le _,Nat.zero_le _,rfl,World.ownsRow_nil _ _ _ _,Below.refl _ _⟩
 case round=>
  obtain⟨t,ht,ht5,rfl,hrow,kr⟩:=hrel
  have y8:wr.cell? ⟨p,8,none⟩=some (.slice ka kn kc):=cell_of_row wr p 8 _ _ (0,0) ((kr.out.block p hpl).trans y)
  by_cases htn:t<kn∧t<5
  ·rcases(hI.below kr.out).2 with h|⟨b1,o1,rfl,hb1,h1⟩
   ·omega
   rcases(hN.below kr.out).2 with h|⟨b2,o2,rfl,hb2,h2⟩
   ·omega
   obtain⟨e1,i1⟩:=h1 t o_m
   have hpk:=pick_lt ks[t] (n:=(ids.length:Int)) o_m
   obtain⟨e2,i2⟩:=h2 (pick ks[t] ids.length).toNat o_m
   have hof:Hid (ids[(pick ks[t] ids.length).toNat]=ofK ids ks[t]):=hide (by unfold ofK;rw[List.getD_eq_getElem?_getD,List.getElem?_eq_getElem o_m];rfl)
   rw[hof.out]at e2
   have hps:Hid (ks.take (t+1)=ks.take t++ [ks[t]]):=hide (List.take_succ_eq_append_getElem o_m)
   obtain⟨q,hq⟩: ∃q:Nat,pick ks[t] ids.length=(q:Int):=⟨(pick ks[t] ids.length).toNat,by omega⟩
   have hpick:=hide (pick_n (w:=wr) i1 (n:=(ids.length:Int)) o_m)
   rw[hq]at hpick e2 hpk
   simp only[Int.toNat_natCast]at e2
   clear hof i2 i1
   generalize ks[t]=kt at*
   clear h1 h2
   have hbase:=hide kr.out.size
   go_wp2_with fail
   refine hpick.out.mono ?_
   rintro e w1 ⟨rfl,rfl⟩
   go_wp2_with(at_builtin;refine wpList_append_own_at _ rfl _ _ 33 rfl wb.heap.size 3 i0 _ 1 8 Tryz.underlying33 hi hz0 hz1 hz2 rfl (by decide) _ _ _ rfl (hrow.out.alloc _) ⟨w1.heap.size,0,none⟩ 1 1 [.int .i64 (ofK ids kt)] rfl rfl (by simpa using cell_one_new w1 (.int .i64 (ofK ids kt)) 3) (by simp[Value.oneCell']) (by unfold maxLen;omega) o_m (by have:=hbase.out;simp;omega) ?_;intro v' w4 hown' hgrow hnil hat')
   have ka4:=below_alloc w1 (.cells #[.int .i64 (ofK ids kt)] 3)
   have k4:Below wb.heap.size wb w4:=(grow_step ka4 kr.out).grown hgrow (grow_step ka4 kr.out).size (fun k e=>(hrow.out.lt k e).1)
   refine⟨⟨t+1,by omega,by omega,by go_num,hide ?_,hide k4⟩,by simp[intOf];omega⟩
   rw[hps.out,List.map_append,List.map_append]
   exact hown'
  have htk:ks.take t=ks.take 5:=by
   by_cases h5:t=5
   ·rw[h5]
   rw[List.take_of_length_le o_m,List.take_of_length_le o_m]
  have hx: ∀x∈ofI ks ids,I64 x:=fun x hx=>by
   have hm:=ofI_mem h0 hx
   rcases hN.2 with h|⟨b2,o2,rfl,hb2,h2⟩
   ·omega
   obtain⟨i,hi,rfl⟩:=List.getElem_of_mem hm
   exact(h2 i hi).2
  obtain⟨a5,c5,rfl⟩:=own_slice hrow.out
  by_cases ht0:t=0
  ·subst ht0
   have hks:(ks.take 5).map (ofK ids)= []:=by rw[←htk];rfl
   have hof:ofI ks ids= [ids.getLastD 0]:=by unfold ofI;rw[if_pos hks]
   rcases(hN.below kr.out).2 with h|⟨b2,o2,rfl,hb2,h2⟩
   ·omega
   obtain⟨e2,-⟩:=h2 (ids.length-1) o_m
   have hlast:ids[ids.length-1]'o_m=ids.getLastD 0:=by
    rw[List.getLastD_eq_getLast?,List.getLast?_eq_some_getLast h0,List.getLast_eq_getElem]
    rfl
   rw[hlast]at e2
   have hbase:=hide kr.out.size
   have hlen:((ids.length:Int)-1)=((ids.length-1:Nat):Int):=by omega
   replace hx:=hide hx
   replace hof:=hide hof
   generalize ids.getLastD 0=zl at*
   obtain⟨nl,hnl⟩: ∃nl:Nat,ids.length=nl+1:=⟨ids.length-1,by omega⟩
   rw[hnl]at e2 hlen
   simp only[Nat.add_sub_cancel]at e2
   clear h2 hlast htk hks hN hI
   rw[hnl]
   go_wp2_with(at_builtin;refine wpList_append_own_at _ rfl _ _ 33 rfl wb.heap.size 3 i0 _ 1 8 Tryz.underlying33 hi hz0 hz1 hz2 rfl (by decide) _ _ _ rfl (hrow.out.alloc _) ⟨wr.heap.size,0,none⟩ 1 1 [.int .i64 zl] rfl rfl (by simpa using cell_one_new wr (.int .i64 zl) 3) (by simp[Value.oneCell']) (by unfold maxLen;omega) o_m (by have:=hbase.out;simp;omega) ?_;intro v' w4 hown' hgrow hnil hat')
   have ka4:=below_alloc wr (.cells #[.int .i64 zl] 3)
   have k4:Below wb.heap.size wb w4:=(grow_step ka4 kr.out).grown hgrow (grow_step ka4 kr.out).size (fun k e=>(hrow.out.lt k e).1)
   have hrow4:w4.ownsRow wb.heap.size 3 1 v' 1 ((ofI ks ids).map (Value.int .i64)):=by rw[hof.out];exact hown'
   obtain⟨a9,c9,rfl,hI9,hn9⟩:=row_il hrow4 hx.out
   have hfin:Hid (CI w w4 (.returned (.slice a9 1 c9)) (ofI ks ids).length (ofI ks ids)):=hide ⟨a9,c9,by rw[hof.out];rfl,by rw[hof.out]at hI9 ⊢;exact hI9,by rw[hof.out];exact fun b off e h=>Nat.le_trans b0.out.size (hn9 b off e h),grow_step k4 b0.out⟩
   clear hown' hgrow hnil hat' hrow4 hI9 hn9 k4 hrow
   go_wp2
   go_ret
   exact hfin.out
  have hof:ofI ks ids=(ks.take t).map (ofK ids):=by
   unfold ofI
   rw[←htk,if_neg]
   intro h
   have h2:((ks.take t).map (ofK ids)).length=0:=by rw[h];rfl
   rw[List.length_map,List.length_take]at h2
   omega
  have hlt:(ofI ks ids).length=t:=by rw[hof];simp;omega
  have hrow4:wr.ownsRow wb.heap.size 3 1 (.slice a5 t c5) t ((ofI ks ids).map (Value.int .i64)):=by rw[hof];exact hrow.out
  obtain⟨a9,c9,e9,hI9,hn9⟩:=row_il hrow4 hx
  cases e9
  have hfin:Hid (CI w wr (.returned (.slice a5 t c5)) (ofI ks ids).length (ofI ks ids)):=hide ⟨a5,c5,by rw[hlt],by rw[hlt];exact hI9,by rw[hlt];exact fun b off e h=>Nat.le_trans b0.out.size (hn9 b off e h),grow_step kr.out b0.out⟩
  clear hrow4 hI9 hn9 hrow hof hlt htk hx hN hI
  go_wp2
  all_goals
   go_ret
   exact hfin.out
end Nt
end Go.Proofs.YtbgpddlcfiiiaaaGreatDoor
