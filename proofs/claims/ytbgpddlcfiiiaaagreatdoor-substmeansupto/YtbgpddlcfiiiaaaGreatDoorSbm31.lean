/-
 Several texts in one: E4,E5.
-/
import Derived.Test.YtbgpddlcfiiiaaaGreatDoorSbmT
import Derived.Test.YtbgpddlcfiiiaaaGreatDoorSbm30
import Derived.Lib.SliceRun
import Derived.Lib.Walk
set_option maxRecDepth 100000
set_option maxHeartbeats 1600000
namespace Go.Proofs.YtbgpddlcfiiiaaaGreatDoor
open Go.RowKit Go.Sort Go.Shelf
namespace Nt

theorem infoU :(Tryz.prog.info? 170).map (fun i=>(i.zero,i.size,i.bytes))=some (some (.int .u32 0),1,4):=by kernel_rfl
def New (b0:Nat)(a:Option Addr)(l:Nat):Prop:=∀b off,a=some ⟨b,off,none⟩→0<l→b0≤b

theorem row_rd {w:World}{base n:Nat}{v:Value}{xs:List Int}(h:w.ownsRow base 170 1 v n (xs.map (Value.int .u32)))(hx:Limbs xs): ∃a c,v= .slice a n c∧Rd w a n c xs∧New base a n:=by
 have hl:xs.length=n:=by simpa using h.1
 rcases h.2 with⟨rfl,rfl⟩|⟨g,cap,cur,rfl,hg,hcur,h1,h2,h3,htake⟩
 ·exact⟨none,0,rfl,⟨hl,Nat.le_refl _,by decide,hx,.inl ⟨rfl,rfl,rfl⟩⟩,fun _ _ e=>by cases e⟩
 refine⟨_,cap,rfl,⟨hl,h1,by unfold maxLen at h2;omega,hx,.inr ⟨_,rfl,.inr ⟨g,0,rfl,(Array.getElem?_eq_some_iff.1 hcur).1,fun i hi=> ?_⟩⟩⟩,fun b off e _=>by cases e;exact hg⟩
 have e:(cur.toList.take (n*1))[i]? =some (.int .u32 (lz xs i)):=by
  rw[htake,List.getElem?_map,List.getElem?_eq_getElem o_m]
  unfold lz
  rw[List.getD_eq_getElem?_getD,List.getElem?_eq_getElem o_m]
  rfl
 rw[List.getElem?_take,if_pos o_m]at e
 rw[Nat.zero_add]
 exact(cell_of_row w g i _ _ (0,0) hcur).trans (by simpa using e)

theorem clone32_n {w:World}{a:Option Addr}{l c:Nat}{xs:List Int}(hr:Rd w a l c xs)(hl:l≤4194304):
  Calls Tryz.prog 145 #[.slice a l c] w fun e w'=> ∃a' c',e= .returned (.slice a' l c')∧Rd w' a' l c' xs∧New w.heap.size a' l∧Below w.heap.size w w':=by
 have q22: ∀(w:World) (a:Option Addr) (n c n' c':Nat),(binOp .eql 24 (.slice a n c) (.slice none n' c')).run Tryz.prog w= .ok (.bool a.isNone) w:=fun w a n c n' c'=>Lib.run_eql_slice_nil w _ _ a n c n' c' Tryz.underlying24
 obtain⟨i0,hi,hz0,hz1,hz2⟩:=info_parts infoU
 obtain⟨h1,h2,h3,h4,h5⟩:=hr
 rcases h5 with⟨rfl,rfl,rfl⟩|⟨ax,rfl,h5⟩
 ·go_enter Tryz.func145,Tryz.ntmps145
  go_wp2
  go_ret
  exact⟨none,0,rfl,⟨h1,h2,h3,h4,.inl ⟨rfl,rfl,rfl⟩⟩,(fun _ _ e=>by cases e),Below.refl _ _⟩
 go_enter Tryz.func145,Tryz.ntmps145
 have A:Hid (∀j u,(xs.map (Value.int .u32))[j]? =some u→(w.alloc (.cells #[] 170)).cell? (ax.add j)=some u):=hide fun j u hj=>by
  have hjn:j<xs.length:=by
   have:=(List.getElem?_eq_some_iff.1 hj).1
   simpa using this
  rcases h5 with h5|⟨b,off,rfl,hb,h5⟩
  ·omega
  rw[Addr.add_lit]
  refine Lib.cell?_alloc_some _ ?_
  rw[h5 j o_m,←hj,List.getElem?_map,List.getElem?_eq_getElem hjn]
  unfold lz
  rw[List.getD_eq_getElem?_getD,List.getElem?_eq_getElem hjn]
  rfl
 clear h5
 go_wp2_with(at_builtin;refine wpList_append_own _ rfl _ _ 24 rfl w.heap.size 170 i0 (.int .u32 0) 1 4 Tryz.underlying24 hi hz0 hz1 hz2 rfl (by decide) _ _ _ rfl (World.ownsRow_made w #[] 0 (Nat.le_refl _) (Nat.zero_le _) rfl) ax l c (xs.map (Value.int .u32)) rfl (by simp;omega) A.out (by intro u hu;obtain⟨x,_,rfl⟩:=List.mem_map.1 hu;rfl) (by unfold maxLen;omega) o_m (by simp) ?_;intro v' w1 hown hgrow hnil)
 have hb:Hid (Below w.heap.size w w1):=((Below.refl _ w).alloc (Nat.le_refl _) _).grown hgrow (by simp) (by intro k hk;have e:some w.heap.size=some k:=hk;cases e;exact Nat.le_refl _)
 obtain⟨a',c',rfl,h6,h7⟩:=row_rd (base:=w.heap.size) (n:=l) (v:=v') (xs:=xs) (by simpa using hown) h4
 clear hown hgrow hnil
 go_wp2
 go_ret
 exact⟨a',c',rfl,h6,h7,hb.out⟩
theorem copiedInt_n {w:World}{s:Bool}{a:Option Addr}{l c:Nat}{z:Int}(hz:Zn w s a l c z)(hl:l≤4194304):
  Calls Tryz.prog 108 #[.agg #[.bool s,.slice a l c]] w fun e w'=> ∃a' c',e= .returned (.agg #[.bool s,.slice a' l c'])∧Zn w' s a' l c' z∧New w.heap.size a' l∧Below w.heap.size w w':=by
 obtain⟨n,⟨xs,hr,hc,hv⟩,h2,h3⟩:=hz
 go_enter Tryz.func108,Tryz.ntmps108
 go_wp2_with fail
 have y:=(zb_new w s a l c).below (below_alloc _ (.cells #[.bool false,.slice none 0 0] 26))
 have y2:=zb_new (w.alloc (.cells #[.bool s,.slice a l c] 26)) false none 0 0
 have b0:Below w.heap.size w ((w.alloc (.cells #[.bool s,.slice a l c] 26)).alloc (.cells #[.bool false,.slice none 0 0] 26)):=below_alloc' (below_alloc _ _) _
 rw[show(w.alloc (.cells #[.bool s,.slice a l c] 26)).heap.size=w.heap.size+1 from by simp]at y2
 generalize (w.alloc (.cells #[.bool s,.slice a l c] 26)).alloc (.cells #[.bool false,.slice none 0 0] 26)=wb at*
 have hr':=hr.below b0
 have hpl:w.heap.size≤w.heap.size:=Nat.le_refl _
 have hlt:=y2.lt
 have hB:Hid (Below w.heap.size w wb):=hide b0
 generalize hp:w.heap.size=p at*
 refine wp_region_held_drew (S:=(fun w'=>w'.cell? ⟨p,0,none⟩=some (.bool s)∧w'.cell? ⟨p,1,none⟩=some (.slice a l c))) k_f (⟨y.c0,y.c1⟩) (fun hHeld=> ?_)
 show wpAnyH _ _ _ _ _ 7 _ _ _
 refine tkz 0 3 ?_
 (try simp only[pz])
 refine tkz 1 4 ?_
 (try simp only[pz])
 refine tkz 2 5 ?_
 (try simp only[pz])
 refine tkz 3 6 ?_
 (try simp only[pz])
 refine ryz 4 (some 7) (fun K hK=> ?_) AllReadyH.nil
 go_simp
 refine Calls.mono (clone32_n (w:=wb.drew) hr' hl) ?_
 rintro e w1 ⟨a',c',rfl,hr1,hn1,k1⟩
 replace k1:=grow_step k1 (grow_drew (Below.refl _ _))
 have y1:ZB w1 p s a l c:=y.below k1
 have y3:ZB w1 (p+1) false none 0 0:=y2.below k1
 (try go_wp2_with fail)
 refine hK.out _ _ ?_ ?_
 ·(try dsimp only);exact⟨y1.c0,y1.c1⟩
 clear hK K hHeld;intro hHeld
 (try simp only[pz])
 refine ryz 5 (some 8) (fun K hK=> ?_) AllReadyH.nil
 go_simp
 refine hK.out _ _ ?_ ?_
 ·(try dsimp only);exact⟨y1.c0,y1.c1⟩
 clear hK K hHeld;intro hHeld
 (try simp only[pz])
 refine ryz 6 none (fun K hK=> ?_) AllReadyH.nil
 have k2:Below (p+1) wb ((w1.setCell ⟨p+1,0,none⟩ (.bool s)).setCell ⟨p+1,1,none⟩ (.slice a' l c')):=((k1.mono (Nat.le_of_lt hlt)).setCell (p:=⟨p+1,0,none⟩) (Nat.le_refl _) (.bool s)).setCell (p:=⟨p+1,1,none⟩) (Nat.le_refl _) (.slice a' l c')
 have y9:ZB ((w1.setCell ⟨p+1,0,none⟩ (.bool s)).setCell ⟨p+1,1,none⟩ (.slice a' l c')) p s a l c:=(k2.block p o_m).trans y
 have f0:=y3.c0
 have f1:=y3.c1
 have g0:=y3.f 0
 have g1:=y3.f 1
 go_simp
 refine hK.out _ _ ?_ ?_
 ·(try dsimp only);exact⟨y9.c0,y9.c1⟩
 clear hK K hHeld;intro hHeld
 (try simp only[pz])
 refine wpAnyH_done k_f ?_ _
 have hz1:Zn w1 s a' l c' z:=⟨n,⟨xs,hr1,hc,hv⟩,h2,h3⟩
 have hz9:=hide (zb_zn y3 hz1 s a' l c')
 have hk9:Hid (Below p w ((w1.setCell ⟨p+1,0,none⟩ (.bool s)).setCell ⟨p+1,1,none⟩ (.slice a' l c'))):=hide (b0.trans (k2.mono (Nat.le_succ p)))
 clear hHeld f0 f1 g0 g1 y9 k2
 go_wp2
 refine bodyPost_ret (results_cell_row rfl _ _ (p+1) 26 _ (0,0) _ rfl (zb_fin y3 s a' l c') Tryz.underlying26 rfl k_f) rfl ?_
 exact⟨a',c',by simp,hz9.out,fun b off e h=>Nat.le_trans (by have:=b0.size;simp;omega) (hn1 b off e h),hp.symm▸hk9.out⟩
end Nt
end Go.Proofs.YtbgpddlcfiiiaaaGreatDoor

namespace Go.Proofs.YtbgpddlcfiiiaaaGreatDoor
open Go.RowKit Go.Sort Go.Shelf
open Tm
namespace Nt

theorem pn_raw {w:World}{b off:Nat}{ps:List (Int × Int)}{B:Nat}(h: ∀i (h:i<ps.length),∃s a l c,w.cell? ⟨b,off+i*3,none⟩=some (.int .i64 (ps[i]).1)∧w.cell? ⟨b,off+i*3+1,none⟩=some (.bool s)∧w.cell? ⟨b,off+i*3+2,none⟩=some (.slice a l c)∧Zn w s a l c (ps[i]).2∧l≤B∧I64 (ps[i]).1):
  ∃rs:List Raw,rs.map Raw.p=ps∧(∀x∈rs,x.ok w B)∧∀j u,(flat rs)[j]? =some u→w.cell? ⟨b,off+j,none⟩=some u:=by
 have hex: ∀i,∃x:Raw,(hi:i<ps.length)→x.p=ps[i]∧x.ok w B∧w.cell? ⟨b,off+i*3,none⟩=some (.int .i64 x.v)∧w.cell? ⟨b,off+i*3+1,none⟩=some (.bool x.s)∧w.cell? ⟨b,off+i*3+2,none⟩=some (.slice x.a x.l x.c):=by
  intro i
  by_cases hi:i<ps.length
  ·obtain⟨s,a,l,c,h0,h1,h2,h3,h4,h5⟩:=h i hi
   exact⟨⟨ps[i].1,s,a,l,c,ps[i].2⟩,fun _=>⟨rfl,⟨h3,h4,h5⟩,h0,h1,h2⟩⟩
  exact⟨⟨0,false,none,0,0,0⟩,fun h=>absurd h hi⟩
 obtain⟨Q,hQ⟩:=Classical.skolem.1 hex
 refine⟨(List.range ps.length).map Q,?_,?_,?_⟩
 ·apply List.ext_getElem (by simp)
  intro i h1 h2
  simp only[List.getElem_map,List.getElem_range]
  exact(hQ i (by simpa using h2)).1
 ·intro x hx
  obtain⟨i,hi,rfl⟩:=List.mem_map.1 hx
  exact(hQ i (List.mem_range.1 hi)).2.1
 intro j u hu
 have hlen:=flat_length ((List.range ps.length).map Q)
 have hj:j<(flat ((List.range ps.length).map Q)).length:=(List.getElem?_eq_some_iff.1 hu).1
 simp only[List.length_map,List.length_range]at hlen
 have hi:j / 3<((List.range ps.length).map Q).length:=by simp;omega
 have hg:=flat_get ((List.range ps.length).map Q) (j / 3) (j%3) hi (Nat.mod_lt _ (by decide))
 rw[show j / 3*3+j%3=j from by omega,hu]at hg
 simp only[List.getElem_map,List.getElem_range]at hg
 obtain⟨_,_,h0,h1,h2⟩:=hQ (j / 3) (by simpa using hi)
 have hm:j%3=0∨j%3=1∨j%3=2:=by omega
 rcases hm with e|e|e
 ·rw[e]at hg
  simp[Raw.enc]at hg
  subst hg
  rw[show off+j=off+j / 3*3 from by omega]
  exact h0
 ·rw[e]at hg
  simp[Raw.enc]at hg
  subst hg
  rw[show off+j=off+j / 3*3+1 from by omega]
  exact h1
 rw[e]at hg
 simp[Raw.enc]at hg
 subst hg
 rw[show off+j=off+j / 3*3+2 from by omega]
 exact h2

def CPt (w w':World)(e:Ending)(n:Nat)(ps:List (Int × Int))(B:Nat):Prop:=∃v rs,e= .returned v∧w'.ownsRow w.heap.size 117 3 v n (flat rs)∧rs.map Raw.p=ps∧(∀x∈rs,x.ok w B)∧Below w.heap.size w w'

theorem cloneP_n {w:World}{ad:Option Addr}{n cp:Nat}{ps:List (Int × Int)}{B:Nat}(hP:Pn w ad n ps B)(hn:n≤4194304):
  Calls Tryz.prog 107 #[.slice ad n cp] w fun e w'=>CPt w w' e n ps B:=by
 have q22: ∀(w:World) (a:Option Addr) (n c n' c':Nat),(binOp .eql 23 (.slice a n c) (.slice none n' c')).run Tryz.prog w= .ok (.bool a.isNone) w:=fun w a n c n' c'=>Lib.run_eql_slice_nil w _ _ a n c n' c' Tryz.underlying23
 obtain⟨i0,hi,hz0,hz1,hz2⟩:=info_parts infoP
 obtain⟨h1,h2⟩:=hP
 cases ad with
 |none=>
  obtain rfl:n=0:=by
   rcases h2 with h|⟨b,off,e,_⟩
   ·exact h
   cases e
  obtain rfl:ps= []:=List.eq_nil_of_length_eq_zero h1
  go_enter Tryz.func107,Tryz.ntmps107
  go_wp2
  go_ret
  exact⟨.slice none 0 0,[],rfl,⟨rfl,.inl ⟨rfl,rfl⟩⟩,rfl,(fun x hx=>by cases hx),Below.refl _ _⟩
 |some ax=>
  obtain⟨rs,g1,g2,g3⟩: ∃rs:List Raw,rs.map Raw.p=ps∧(∀x∈rs,x.ok w B)∧∀j u,(flat rs)[j]? =some u→(w.alloc (.cells #[] 117)).cell? (ax.add j)=some u:=by
   rcases h2 with h|⟨b,off,e,hb,h3⟩
   ·subst h
    obtain rfl:ps= []:=List.eq_nil_of_length_eq_zero h1
    exact⟨[],rfl,(fun x hx=>by cases hx),fun j u hj=>by simp[flat]at hj⟩
   cases e
   obtain⟨rs,g1,g2,g3⟩:=pn_raw h3
   refine⟨rs,g1,g2,fun j u hj=> ?_⟩
   rw[Addr.add_lit]
   exact Lib.cell?_alloc_some _ (g3 j u hj)
  have hlr:rs.length=n:=by rw[←h1,←g1,List.length_map]
  have g3':Hid _:=hide g3
  clear g3 h2
  go_enter Tryz.func107,Tryz.ntmps107
  go_wp2_with(at_builtin;refine wpList_append_own _ rfl _ _ 23 rfl w.heap.size 117 i0 _ 3 40 Tryz.underlying23 hi hz0 hz1 hz2 rfl (by decide) _ _ _ rfl (World.ownsRow_made w #[] 0 (Nat.le_refl _) (Nat.zero_le _) rfl) ax n cp (flat rs) rfl (by rw[flat_length,hlr]) g3'.out (fun u hu=>flat_one u rs hu) (by unfold maxLen;omega) o_m (by simp) ?_;intro v' w1 hown hgrow hnil)
  have hb:Hid (Below w.heap.size w w1):=((Below.refl _ w).alloc (Nat.le_refl _) _).grown hgrow (by simp) (by intro k hk;have e:some w.heap.size=some k:=hk;cases e;exact Nat.le_refl _)
  have hown':Hid (w1.ownsRow w.heap.size 117 3 v' n (flat rs)):=hide (by simpa using hown)
  clear hown hgrow hnil
  go_wp2
  go_ret
  exact⟨v',rs,rfl,hown'.out,g1,g2,hb.out⟩
end Nt
end Go.Proofs.YtbgpddlcfiiiaaaGreatDoor
