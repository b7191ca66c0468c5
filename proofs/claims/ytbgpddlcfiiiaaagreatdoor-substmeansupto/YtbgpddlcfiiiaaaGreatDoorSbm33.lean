/-
 Layer 8: numbers: what the meter looks at.
-/
import Derived.Test.YtbgpddlcfiiiaaaGreatDoorSbm32
import Derived.Test.YtbgpddlcfiiiaaaGreatDoorSbm25
import Derived.Test.YtbgpddlcfiiiaaaGreatDoorSbm08
namespace Go.Proofs.YtbgpddlcfiiiaaaGreatDoor
open Go.RowKit Go.Sort Go.Shelf
open Tm
namespace Nt

def lim (z:Int):Nat:=(limbs z.natAbs).length
def NO (w w':World)(e:Ending)(m:Nat)(zs:List Int)(B:Nat):Prop:=
 ∃a c L,e= .returned (.slice a m c)∧NL w' a m L B∧(∀kk:Int,L.any (isl kk)=zs.any fun z=>decide (kk<(lim z:Int)))∧Below w.heap.size w w'
theorem zn_lim {w:World}{s:Bool}{a:Option Addr}{l c:Nat}{z:Int}(h:Zn w s a l c z): ∃xs,Rd w a l c xs∧∀kk:Int,isl kk (s,xs)=decide (kk<(lim z:Int)):=by
 obtain⟨n,⟨xs,h1,h2,rfl⟩,rfl,h3⟩:=h
 refine⟨xs,h1,fun kk=> ?_⟩
 have e1:lim (sg s (val xs))=xs.length:=by
  have h0:=val_nonneg h2.1
  have e:=canon_limbs h2
  unfold lim
  rw[show(sg s (val xs)).natAbs=(val xs).toNat by cases s <;> simp[sg] <;> omega,←e,List.length_map]
 have e2:tl xs xs.length=xs.length:=by
  rw[←trim_length]
  rw[canon_inj (canon_trim h2.1) h2 (val_trim xs)]
 unfold isl
 rw[e1]
 simp only[e2]
theorem row_nl {w0 w:World}{base n B:Nat}{v:Value}{N:List Raw}(h:w.ownsRow base 26 2 v n (N.flatMap encN))(hn:N.length=n)(hb:Below w0.heap.size w0 w)(hok: ∀x∈N,Zn w0 x.s x.a x.l x.c x.z∧x.l≤B):
  ∃a c L,v= .slice a n c∧NL w a n L B∧∀kk:Int,L.any (isl kk)=(N.map Raw.z).any fun z=>decide (kk<(lim z:Int)):=by
 have hex: ∀x:Raw,∃xs,x∈N→Rd w0 x.a x.l x.c xs∧∀kk:Int,isl kk (x.s,xs)=decide (kk<(lim x.z:Int)):=fun x=>by
  by_cases hx:x∈N
  ·obtain⟨xs,h1,h2⟩:=zn_lim (hok x hx).1
   exact⟨xs,fun _=>⟨h1,h2⟩⟩
  exact⟨[],fun h=>absurd h hx⟩
 obtain⟨Q,hQ⟩:=Classical.skolem.1 hex
 have hany: ∀(M:List Raw),(∀x∈M,x∈N)→∀kk:Int,(M.map fun x=>(x.s,Q x)).any (isl kk)=(M.map Raw.z).any fun z=>decide (kk<(lim z:Int)):=by
  intro M
  induction M with
  |nil=>intro _ _;rfl
  |cons x M ih=>
   intro hM kk
   rw[List.map_cons,List.any_cons,List.map_cons,List.any_cons,ih (fun y hy=>hM y (by simp[hy])) kk,(hQ x (hM x (by simp))).2 kk]
 rcases h.2 with⟨rfl,rfl⟩|⟨g,cap,cur,rfl,hg,hcur,hsz,hcap,hm,htake⟩
 ·exact⟨none,0,N.map fun x=>(x.s,Q x),rfl,⟨by simpa using hn,.inl rfl⟩,hany N fun _ h=>h⟩
 refine⟨_,cap,N.map fun x=>(x.s,Q x),rfl,⟨by simpa using hn,.inr ⟨g,0,rfl,fun i hi=> ?_⟩⟩,hany N fun _ h=>h⟩
 rw[List.length_map]at hi
 have hc: ∀c,c<2→w.cell? ⟨g,0+i*2+c,none⟩=(encN (N[i]))[c]?:=fun c hc=>by
  have e:(cur.toList.take (n*2))[i*2+c]? =(encN (N[i]))[c]?:=by rw[htake,flatN_get N i c hi hc]
  rw[List.getElem?_take,if_pos o_m]at e
  rw[cell_of_row w g _ _ _ (0,0) hcur,Nat.zero_add]
  simpa using e
 refine⟨(N[i]).a,(N[i]).l,(N[i]).c,?_,?_,?_,(hok _ (List.getElem_mem hi)).2⟩
 ·simpa [encN] using hc 0 (by decide)
 ·simpa [encN] using hc 1 (by decide)
 rw[List.getElem_map]
 exact((hQ _ (List.getElem_mem hi)).1).below hb

set_option maxRecDepth 100000 in
set_option maxHeartbeats 1600000 in
theorem numbers_n {w:World}{kd:Int}{sd:Bool}{ad:Option Addr}{ld cd:Nat}{ap:Option Addr}{np cp:Nat}{sk:Bool}{ak:Option Addr}{lk ck:Nat}{vr:Int}{ka:Option Addr}{kn kc:Nat}{d k:Int}{ps:List (Int × Int)}{B:Nat}
  (hd:Zn w sd ad ld cd d)(hld:ld≤B)(hP:Pn w ap np ps B)(hk:Zn w sk ak lk ck k)(hlk:lk≤B)(hn:np≤1048576):
  Calls Tryz.prog 102 #[.agg #[.int .i64 kd,.bool sd,.slice ad ld cd,.slice ap np cp,.bool sk,.slice ak lk ck,.int .i64 vr,.slice ka kn kc]] w fun e w'=>NO w w' e (2+np) (d::k::ps.map Prod.snd) B:=by
 go_enter Tryz.func102,Tryz.ntmps102
 have y:=NB.new w kd sd ad ld cd ap np cp sk ak lk ck vr ka kn kc
 have u1:=y.c1
 have u2:=y.c2
 have u3:=y.c3
 have u4:=y.c4
 have u5:=y.c5
 go_wp2_with fail
 clear u1 u2 u3 u4 u5 y
 have b0:Below w.heap.size w ((w.alloc (.cells #[.int .i64 kd,.bool sd,.slice ad ld cd,.slice ap np cp,.bool sk,.slice ak lk ck,.int .i64 vr,.slice ka kn kc] 69)).alloc (.cells #[.bool sd,.slice ad ld cd,.bool sk,.slice ak lk ck] 26)):=below_alloc' (below_alloc _ _) _
 have hrow0:Hid (((w.alloc (.cells #[.int .i64 kd,.bool sd,.slice ad ld cd,.slice ap np cp,.bool sk,.slice ak lk ck,.int .i64 vr,.slice ka kn kc] 69)).alloc (.cells #[.bool sd,.slice ad ld cd,.bool sk,.slice ak lk ck] 26)).ownsRow w.heap.size 26 2 (.slice (some ⟨w.heap.size+1,0,none⟩) 2 2) 2 (([⟨0,sd,ad,ld,cd,d⟩,⟨0,sk,ak,lk,ck,k⟩]:List Raw).flatMap encN)):=hide (by
  have h:=World.ownsRow_lit (base:=w.heap.size) (e:=26) (size:=2) (w.alloc (.cells #[.int .i64 kd,.bool sd,.slice ad ld cd,.slice ap np cp,.bool sk,.slice ak lk ck,.int .i64 vr,.slice ka kn kc] 69)) #[.bool sd,.slice ad ld cd,.bool sk,.slice ak lk ck] 2 (by simp) (by unfold maxLen;decide) (by simp)
  simpa [encN] using h)
 generalize (w.alloc (.cells #[.int .i64 kd,.bool sd,.slice ad ld cd,.slice ap np cp,.bool sk,.slice ak lk ck,.int .i64 vr,.slice ka kn kc] 69)).alloc (.cells #[.bool sd,.slice ad ld cd,.bool sk,.slice ak lk ck] 26)=wb at*
 obtain⟨i0,hi,iz0,iz1,iz2⟩:=info_parts info2
 have hps:=hP.1
 have hok0: ∀x∈([⟨0,sd,ad,ld,cd,d⟩,⟨0,sk,ak,lk,ck,k⟩]:List Raw),Zn w x.s x.a x.l x.c x.z∧x.l≤B:=by
  intro x hx
  simp at hx
  rcases hx with rfl|rfl
  ·exact⟨hd,hld⟩
  exact⟨hk,hlk⟩
 go_loopw [3,16] (fun vv i wr=> ∃(t:Nat) (N:List Raw),t≤np∧i= .int .i64 t∧N.length=2+t∧Hid (wr.ownsRow w.heap.size 26 2 vv (2+t) (N.flatMap encN))∧Hid (∀x∈N,Zn w x.s x.a x.l x.c x.z∧x.l≤B)∧Hid (N.map Raw.z=d::k::(ps.take t).map Prod.snd)∧Hid (Below w.heap.size w wr)) (fun _ i _=>np-(intOf i).toNat)
 case atStart=>exact⟨0,_,Nat.zero_le _,rfl,rfl,hrow0,hok0,(show _=_ by simp),b0⟩
 case round=>
  obtain⟨t,N,ht,rfl,hN,hrow,hok,hNz,kr⟩:=hrel
  by_cases htn:t<np
  ·rcases hP.2 with h|⟨bp,op,rfl,hbp,hP2⟩
   ·omega
   obtain⟨s2,a2,l2,c2,e0,e1,e2,hz2,hl2,hv2⟩:=hP2 t o_m
   replace e0:=((kr.out).cell (p:=⟨bp,op+t*3,none⟩) hbp).trans e0
   replace e1:=((kr.out).cell (p:=⟨bp,op+t*3+1,none⟩) hbp).trans e1
   replace e2:=((kr.out).cell (p:=⟨bp,op+t*3+2,none⟩) hbp).trans e2
   have hps':Hid (ps.take (t+1)=ps.take t++ [ps[t]]):=List.take_succ_eq_append_getElem (l:=ps) (i:=t) o_m
   clear hP2
   generalize ps[t]=pp at*
   have hbase:=hide kr.out.size
   replace hz2:=hide hz2
   have ka1:=below_alloc wr (.cells #[.int .i64 pp.1,.bool s2,.slice a2 l2 c2] 117)
   have ka2:=below_alloc (wr.alloc (.cells #[.int .i64 pp.1,.bool s2,.slice a2 l2 c2] 117)) (.cells #[.bool s2,.slice a2 l2 c2] 26)
   have kab:=hide (grow_step ka2 (grow_step ka1 kr.out))
   clear ka1 ka2
   go_wp2_with(at_builtin;refine wpList_append_own_at _ rfl _ _ 166 rfl w.heap.size 26 i0 _ 2 32 Tryz.underlying166 hi iz0 iz1 iz2 rfl (by decide) _ _ _ rfl ((hrow.out.alloc _).alloc _) ⟨wr.heap.size+1,0,none⟩ 1 1 [.bool s2,.slice a2 l2 c2] rfl rfl (by simpa using two_new (wr.alloc (.cells #[.int .i64 pp.1,.bool s2,.slice a2 l2 c2] 117)) s2 a2 l2 c2) (two_one _ _ _ _) (by unfold maxLen;omega) o_m (by have:=hbase.out;simp;omega) ?_;intro v' w4 hown' hgrow hnil hat')
   have k4:Hid (Below w.heap.size w w4):=hide (kab.out.grown hgrow kab.out.size (fun k e=>(World.ownsRow.lt hrow.out k e).1))
   refine⟨⟨t+1,N++ [⟨pp.1,s2,a2,l2,c2,pp.2⟩],by omega,by go_num,by simp;omega,?_,?_,?_,k4⟩,by simp[intOf];omega⟩
   ·refine hide ?_
    rw[List.flatMap_append]
    exact hown'
   ·exact fun x hx=>(List.mem_append.1 hx).elim (hok.out x) (fun h=>by rw[List.mem_singleton.1 h];exact⟨hz2.out,hl2⟩)
   show _=_
   rw[List.map_append,hNz.out,hps'.out,List.map_append]
   rfl
  obtain rfl:t=np:=by omega
  rw[List.take_of_length_le (Nat.le_of_eq hps)]at hNz
  obtain⟨a',c',L,rfl,h1,h2⟩:=row_nl hrow.out hN kr.out hok.out
  rw[hNz.out]at h2
  replace h2:=hide h2
  replace h1:=hide h1
  go_wp2
  go_ret
  exact⟨a',c',L,rfl,h1.out,h2.out,kr.out⟩
end Nt
end Go.Proofs.YtbgpddlcfiiiaaaGreatDoor
