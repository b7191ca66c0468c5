/-
 Several texts in one: J3,J4.
-/
import Derived.Test.YtllfelooahplhaaGreatDoorSimT
import Derived.Test.YtllfelooahplhaaGreatDoorSim39
set_option maxRecDepth 100000
set_option maxHeartbeats 6400000
namespace Go.Proofs.YtllfelooahplhaaGreatDoor
open Go.RowKit Go.Sort Go.Shelf
open Tm At
namespace Nt

def M9B (w:World)(b:Nat)(i:Int)(x:NR):Prop:=w.heap[b]? =some (.cells (mE i x) 155 (0,0))
theorem M9B.lt {w:World}{b:Nat}{i:Int}{x:NR}(h:M9B w b i x):b<w.heap.size:=lt_of_block h
theorem M9B.below {w w':World}{b:Nat}{i:Int}{x:NR}(h:M9B w b i x)(k:Below w.heap.size w w'):M9B w' b i x:=(k.block b h.lt).trans h
theorem M9B.c {w:World}{b:Nat}{i:Int}{x:NR}(h:M9B w b i x)(j:Nat):w.cell? ⟨b,j,none⟩=(mE i x)[j]?:=cell_of_row w b j _ _ (0,0) h
theorem BB.set {w:World}{b:Nat}{t:Bool}(h:BB w b t)(t':Bool):BB (w.setCell ⟨b,0,none⟩ (.bool t')) b t':=heap_setCell_same w b 0 _ _ _ h
theorem BB.set_ne {w:World}{b c:Nat}{t:Bool}(h:BB w b t)(hne:b≠c)(v:Value):BB (w.setCell ⟨c,0,none⟩ v) b t:=((gb_set w c 0 v).block b h.lt (fun e=>hne (Option.some.inj e))).trans h
theorem BB.f {w:World}{b:Nat}{t:Bool}(h:BB w b t):w.frozen? ⟨b,0,none⟩=false:=frozen_of_row w b 0 _ _ h
theorem gr_set {w w':World}(h:Gr w w'){b:Nat}(hb:w.heap.size≤b)(v:Value):Gr w (w'.setCell ⟨b,0,none⟩ v):=⟨h.b.setCell (p:=⟨b,0,none⟩) hb v,h.d⟩

theorem lines_g {w:World}{i j:Int}{x y:NR}{ps qs:List (Int × Int)}{B:Nat}(hP:Pn w x.ap x.np ps B)(h0:ps≠ [])(hP2:Pn w y.ap y.np qs B)(h02:qs≠ [])(hn:x.np≤536870912)(hB:B≤1099511627776):
  Calls Tryz.prog 153 #[.agg (mE i x),.agg (mE j y)] w fun e w'=>e= .returned (.int .i64 (ordL (lnP ps) (lnP qs)))∧Gr w w':=by
 have b0:=(gr_alloc w (.cells (mE i x) 155)).trans (gr_alloc _ (.cells (mE j y) 155))
 have zx:M9B _ w.heap.size i x:=M9B.below (heap_alloc_new w (.cells (mE i x) 155)) (below_alloc _ (.cells (mE j y) 155))
 have zy:M9B ((w.alloc (.cells (mE i x) 155)).alloc (.cells (mE j y) 155)) (w.alloc (.cells (mE i x) 155)).heap.size j y:=heap_alloc_new _ _
 rw[show(w.alloc (.cells (mE i x) 155)).heap.size=w.heap.size+1 from by simp]at zy
 have hF1:Hid (∀w',Gr ((w.alloc (.cells (mE i x) 155)).alloc (.cells (mE j y) 155)) w'→Calls Tryz.prog 154 #[.agg (mE i x)] w' fun e w''=>e= .returned (.bool (neg1 ps))∧Gr w' w''):=hide fun w' k=>falls_g (hP.below (b0.trans k).b) h0
 have hF2:Hid (∀w',Gr ((w.alloc (.cells (mE i x) 155)).alloc (.cells (mE j y) 155)) w'→Calls Tryz.prog 154 #[.agg (mE j y)] w' fun e w''=>e= .returned (.bool (neg1 qs))∧Gr w' w''):=hide fun w' k=>falls_g (hP2.below (b0.trans k).b) h02
 have hC:Hid (∀w' bx bb,Gr ((w.alloc (.cells (mE i x) 155)).alloc (.cells (mE j y) 155)) w'→BB w' bx (neg1 ps)→BB w' bb (neg1 qs)→Calls Tryz.prog 189 #[.slice x.ap x.np x.cp,.slice y.ap y.np y.cp,.func (.func 190) #[] #[.pointer (some ⟨bx,0,none⟩),.pointer (some ⟨bb,0,none⟩)]] w' fun e w''=>e= .returned (.int .i64 (ordL (lnP ps) (lnP qs)))∧Gr w' w''):=hide fun w' bx bb k z1 z2=>compareL_g z1 z2 (hP.below (b0.trans k).b).pr (hP2.below (b0.trans k).b).pr hn hB
 replace b0:=hide b0
 clear hP hP2
 obtain⟨kd1,sd1,ad1,ld1,cd1,ap1,np1,cp1,sk1,ak1,lk1,ck1,vr1,ka1,kn1,kc1⟩:=x
 obtain⟨kd2,sd2,ad2,ld2,cd2,ap2,np2,cp2,sk2,ak2,lk2,ck2,vr2,ka2,kn2,kc2⟩:=y
 simp only[mE]at*
 go_enter Tryz.func153,Tryz.ntmps153
 go_wp2_with fail
 generalize (w.alloc (.cells #[.int .i64 i,.int .i64 kd1,.bool sd1,.slice ad1 ld1 cd1,.slice ap1 np1 cp1,.bool sk1,.slice ak1 lk1 ck1,.int .i64 vr1,.slice ka1 kn1 kc1] 155)).alloc (.cells #[.int .i64 j,.int .i64 kd2,.bool sd2,.slice ad2 ld2 cd2,.slice ap2 np2 cp2,.bool sk2,.slice ak2 lk2 ck2,.int .i64 vr2,.slice ka2 kn2 kc2] 155)=wB0 at*
 generalize w.heap.size=p at*
 generalize p+1=q at*
 have hS:Hid (∀w',Gr wB0 w'→w'.cell? ⟨p,0,none⟩=some (.int .i64 i)∧w'.cell? ⟨p,1,none⟩=some (.int .i64 kd1)∧w'.cell? ⟨p,2,none⟩=some (.bool sd1)∧w'.cell? ⟨p,3,none⟩=some (.slice ad1 ld1 cd1)∧w'.cell? ⟨p,4,none⟩=some (.slice ap1 np1 cp1)∧w'.cell? ⟨p,5,none⟩=some (.bool sk1)∧w'.cell? ⟨p,6,none⟩=some (.slice ak1 lk1 ck1)∧w'.cell? ⟨p,7,none⟩=some (.int .i64 vr1)∧w'.cell? ⟨p,8,none⟩=some (.slice ka1 kn1 kc1)∧w'.cell? ⟨q,0,none⟩=some (.int .i64 j)∧w'.cell? ⟨q,1,none⟩=some (.int .i64 kd2)∧w'.cell? ⟨q,2,none⟩=some (.bool sd2)∧w'.cell? ⟨q,3,none⟩=some (.slice ad2 ld2 cd2)∧w'.cell? ⟨q,4,none⟩=some (.slice ap2 np2 cp2)∧w'.cell? ⟨q,5,none⟩=some (.bool sk2)∧w'.cell? ⟨q,6,none⟩=some (.slice ak2 lk2 ck2)∧w'.cell? ⟨q,7,none⟩=some (.int .i64 vr2)∧w'.cell? ⟨q,8,none⟩=some (.slice ka2 kn2 kc2)):=hide fun w' k=>⟨(k.b.cell (p:=⟨p,0,none⟩) zx.lt).trans (zx.c 0),(k.b.cell (p:=⟨p,1,none⟩) zx.lt).trans (zx.c 1),(k.b.cell (p:=⟨p,2,none⟩) zx.lt).trans (zx.c 2),(k.b.cell (p:=⟨p,3,none⟩) zx.lt).trans (zx.c 3),(k.b.cell (p:=⟨p,4,none⟩) zx.lt).trans (zx.c 4),(k.b.cell (p:=⟨p,5,none⟩) zx.lt).trans (zx.c 5),(k.b.cell (p:=⟨p,6,none⟩) zx.lt).trans (zx.c 6),(k.b.cell (p:=⟨p,7,none⟩) zx.lt).trans (zx.c 7),(k.b.cell (p:=⟨p,8,none⟩) zx.lt).trans (zx.c 8),(k.b.cell (p:=⟨q,0,none⟩) zy.lt).trans (zy.c 0),(k.b.cell (p:=⟨q,1,none⟩) zy.lt).trans (zy.c 1),(k.b.cell (p:=⟨q,2,none⟩) zy.lt).trans (zy.c 2),(k.b.cell (p:=⟨q,3,none⟩) zy.lt).trans (zy.c 3),(k.b.cell (p:=⟨q,4,none⟩) zy.lt).trans (zy.c 4),(k.b.cell (p:=⟨q,5,none⟩) zy.lt).trans (zy.c 5),(k.b.cell (p:=⟨q,6,none⟩) zy.lt).trans (zy.c 6),(k.b.cell (p:=⟨q,7,none⟩) zy.lt).trans (zy.c 7),(k.b.cell (p:=⟨q,8,none⟩) zy.lt).trans (zy.c 8)⟩
 refine Code.wp_mono (Q:=fun e a' W'=>e= .normal∧∃bx bb,a'=⟨List.toArray ((.agg #[.int .i64 i,.int .i64 kd1,.bool sd1,.slice ad1 ld1 cd1,.slice ap1 np1 cp1,.bool sk1,.slice ak1 lk1 ck1,.int .i64 vr1,.slice ka1 kn1 kc1]:Value)::(.agg #[.int .i64 j,.int .i64 kd2,.bool sd2,.slice ad2 ld2 cd2,.slice ap2 np2 cp2,.bool sk2,.slice ak2 lk2 ck2,.int .i64 vr2,.slice ka2 kn2 kc2]:Value)::(.pointer (some ⟨p,0,none⟩):Value)::(.pointer (some ⟨q,0,none⟩):Value)::(.int .i64 0:Value)::(.pointer (some ⟨bx,0,none⟩):Value)::(.pointer (some ⟨bb,0,none⟩):Value)::(.agg #[.int .i64 i,.int .i64 kd1,.bool sd1,.slice ad1 ld1 cd1,.slice ap1 np1 cp1,.bool sk1,.slice ak1 lk1 ck1,.int .i64 vr1,.slice ka1 kn1 kc1]:Value)::(.bool (neg1 ps):Value)::(.agg #[.int .i64 j,.int .i64 kd2,.bool sd2,.slice ad2 ld2 cd2,.slice ap2 np2 cp2,.bool sk2,.slice ak2 lk2 ck2,.int .i64 vr2,.slice ka2 kn2 kc2]:Value)::(.bool (neg1 qs):Value)::undef::undef::undef::undef::undef::undef::undef::undef::undef::undef:: []),[]⟩∧BB W' bx (neg1 ps)∧BB W' bb (neg1 qs)∧Gr wB0 W') ?_ ?_
 ·rintro e a' W' ⟨rfl,bx,bb,rfl,z1,z2,k⟩
  have hcc:=hide (hC.out W' bx bb k z1 z2)
  obtain⟨u0,u1,u2,u3,u4,u5,u6,u7,u8,v0,v1,v2,v3,v4,v5,v6,v7,v8⟩:=hS.out W' k
  have kk:=hide (b0.out.trans k)
  clear hS hC hF1 hF2 z1 z2 k b0
  go_wp2_with fail
  refine hcc.out.mono ?_
  rintro e w9 ⟨rfl,k9⟩
  replace kk:=hide (kk.out.trans k9)
  clear hcc k9
  go_wp2
  go_ret
  exact⟨rfl,kk.out⟩
 clear hC
 refine wp_region_held_drew (S:=fun w'=>w'.cell? ⟨p,0,none⟩=some (.int .i64 i)∧w'.cell? ⟨p,1,none⟩=some (.int .i64 kd1)∧w'.cell? ⟨p,2,none⟩=some (.bool sd1)∧w'.cell? ⟨p,3,none⟩=some (.slice ad1 ld1 cd1)∧w'.cell? ⟨p,4,none⟩=some (.slice ap1 np1 cp1)∧w'.cell? ⟨p,5,none⟩=some (.bool sk1)∧w'.cell? ⟨p,6,none⟩=some (.slice ak1 lk1 ck1)∧w'.cell? ⟨p,7,none⟩=some (.int .i64 vr1)∧w'.cell? ⟨p,8,none⟩=some (.slice ka1 kn1 kc1)∧w'.cell? ⟨q,0,none⟩=some (.int .i64 j)∧w'.cell? ⟨q,1,none⟩=some (.int .i64 kd2)∧w'.cell? ⟨q,2,none⟩=some (.bool sd2)∧w'.cell? ⟨q,3,none⟩=some (.slice ad2 ld2 cd2)∧w'.cell? ⟨q,4,none⟩=some (.slice ap2 np2 cp2)∧w'.cell? ⟨q,5,none⟩=some (.bool sk2)∧w'.cell? ⟨q,6,none⟩=some (.slice ak2 lk2 ck2)∧w'.cell? ⟨q,7,none⟩=some (.int .i64 vr2)∧w'.cell? ⟨q,8,none⟩=some (.slice ka2 kn2 kc2)) k_f (hS.out _ (gr_drew (Gr.refl _))) (fun hHeld=> ?_)
 show wpAnyH _ _ _ _ _ 8 _ _ _
 have kW:=gr_drew (Gr.refl wB0)
 generalize wB0.drew=wQ at*
 refine wpAnyH_take (i:=0) (oi:=⟨some 7,_,_,_,_,_⟩) (v:=?_) rfl k_f k_f k_f (fun _ _ _ h=>(by cases h.1)) (Or.inl ⟨by rfl,?_⟩) (by assumption) ?_
 rotate_left
 ·intro wq hSw;(try dsimp only at hSw);go_simp;(try with_reducible rfl)
 (try simp only[pz])
 refine wpAnyH_take (i:=2) (oi:=⟨some 9,_,_,_,_,_⟩) (v:=?_) rfl k_f k_f k_f (fun _ _ _ h=>(by cases h.1)) (Or.inl ⟨by rfl,?_⟩) (by assumption) ?_
 rotate_left
 ·intro wq hSw;(try dsimp only at hSw);go_simp;(try with_reducible rfl)
 (try simp only[pz])
 refine wpAnyH_ready (rs:=[1,4,5]) k_f (by simp) ?_
 refine AllReadyH.cons (o:=⟨some 8,_,_,_,_,_⟩) rfl (fun K hK=> ?_) ?_
 ·go_simp
  refine Calls.mono (hF1.out _ kW) ?_
  rintro e wA ⟨rfl,kA⟩
  have kW:=kW.trans kA
  (try go_wp2_with fail)
  refine hK.out _ _ ?_ ?_
  ·(try dsimp only);exact hS.out _ kW
  clear hK K hHeld;intro hHeld
  (try simp only[pz])
  refine wpAnyH_ready (rs:=[3,4,5]) k_f (by simp) ?_
  refine AllReadyH.cons (o:=⟨some 10,_,_,_,_,_⟩) rfl (fun K hK=> ?_) ?_
  ·go_simp
   refine Calls.mono (hF2.out _ kW) ?_
   rintro e wB ⟨rfl,kB⟩
   have kW:=kW.trans kB
   (try go_wp2_with fail)
   refine hK.out _ _ ?_ ?_
   ·(try dsimp only);exact hS.out _ kW
   clear hK K hHeld;intro hHeld
   (try simp only[pz])
   refine wpAnyH_ready (rs:=[4,5]) k_f (by simp) ?_
   refine AllReadyH.cons (o:=⟨some 5,_,_,_,_,_⟩) rfl (fun K hK=> ?_) ?_
   ·have kL:=gr_alloc (wB) (.cells #[.bool false] 4)
    have zX:BB ((wB).alloc (.cells #[.bool false] 4)) (wB).heap.size false:=heap_alloc_new _ _
    have hbX:wB0.heap.size≤(wB).heap.size:=kW.b.size
    have kW:=kW.trans kL
    go_simp
    refine hK.out _ _ ?_ ?_
    ·(try dsimp only);exact hS.out _ kW
    clear hK K hHeld;intro hHeld
    (try simp only[pz])
    generalize (wB).alloc (.cells #[.bool false] 4)=wLX at*
    refine ryz 5 (some 6) (fun K hK=> ?_) ?_
    ·have kL:=gr_alloc (wLX) (.cells #[.bool false] 4)
     have hne:(wB).heap.size≠(wLX).heap.size:=by have h9:=zX.lt;omega
     have zX:=zX.below kL.b
     have zY:BB ((wLX).alloc (.cells #[.bool false] 4)) (wLX).heap.size false:=heap_alloc_new _ _
     have hbY:wB0.heap.size≤(wLX).heap.size:=kW.b.size
     have kW:=kW.trans kL
     go_simp
     refine hK.out _ _ ?_ ?_
     ·(try dsimp only);exact hS.out _ kW
     clear hK K hHeld;intro hHeld
     (try simp only[pz])
     generalize (wLX).alloc (.cells #[.bool false] 4)=wLY at*
     refine ryz 6 none (fun K hK=> ?_) ?_
     ·have f0:=zX.c0
      have f1:=zX.f
      go_simp
      have zY:=zY.set_ne hne.symm (.bool (neg1 ps))
      have zX:=zX.set (neg1 ps)
      have kW:=gr_set kW hbX (.bool (neg1 ps))
      refine hK.out _ _ ?_ ?_
      ·(try dsimp only);exact hS.out _ kW
      clear hK K hHeld;intro hHeld
      (try simp only[pz])
      refine ryz 7 none (fun K hK=> ?_) ?_
      ·have f0:=zY.c0
       have f1:=zY.f
       go_simp
       have zX:=zX.set_ne hne (.bool (neg1 qs))
       have zY:=zY.set (neg1 qs)
       have kW:=gr_set kW hbY (.bool (neg1 qs))
       refine hK.out _ _ ?_ ?_
       ·(try dsimp only);exact hS.out _ kW
       clear hK K hHeld;intro hHeld
       (try simp only[pz])
       refine wpAnyH_done k_f ?_ _
       exact⟨rfl,_,_,rfl,zX,zY,kW⟩
      exact AllReadyH.nil
     exact AllReadyH.nil
    exact AllReadyH.nil
   refine AllReadyH.cons (o:=⟨some 6,_,_,_,_,_⟩) rfl (fun K hK=> ?_) ?_
   ·have kL:=gr_alloc (wB) (.cells #[.bool false] 4)
    have zY:BB ((wB).alloc (.cells #[.bool false] 4)) (wB).heap.size false:=heap_alloc_new _ _
    have hbY:wB0.heap.size≤(wB).heap.size:=kW.b.size
    have kW:=kW.trans kL
    go_simp
    refine hK.out _ _ ?_ ?_
    ·(try dsimp only);exact hS.out _ kW
    clear hK K hHeld;intro hHeld
    (try simp only[pz])
    generalize (wB).alloc (.cells #[.bool false] 4)=wLY at*
    refine ryz 4 (some 5) (fun K hK=> ?_) ?_
    ·have kL:=gr_alloc (wLY) (.cells #[.bool false] 4)
     have hne:(wLY).heap.size≠(wB).heap.size:=by have h9:=zY.lt;omega
     have zY:=zY.below kL.b
     have zX:BB ((wLY).alloc (.cells #[.bool false] 4)) (wLY).heap.size false:=heap_alloc_new _ _
     have hbX:wB0.heap.size≤(wLY).heap.size:=kW.b.size
     have kW:=kW.trans kL
     go_simp
     refine hK.out _ _ ?_ ?_
     ·(try dsimp only);exact hS.out _ kW
     clear hK K hHeld;intro hHeld
     (try simp only[pz])
     generalize (wLY).alloc (.cells #[.bool false] 4)=wLX at*
     refine ryz 6 none (fun K hK=> ?_) ?_
     ·have f0:=zX.c0
      have f1:=zX.f
      go_simp
      have zY:=zY.set_ne hne.symm (.bool (neg1 ps))
      have zX:=zX.set (neg1 ps)
      have kW:=gr_set kW hbX (.bool (neg1 ps))
      refine hK.out _ _ ?_ ?_
      ·(try dsimp only);exact hS.out _ kW
      clear hK K hHeld;intro hHeld
      (try simp only[pz])
      refine ryz 7 none (fun K hK=> ?_) ?_
      ·have f0:=zY.c0
       have f1:=zY.f
       go_simp
       have zX:=zX.set_ne hne (.bool (neg1 qs))
       have zY:=zY.set (neg1 qs)
       have kW:=gr_set kW hbY (.bool (neg1 qs))
       refine hK.out _ _ ?_ ?_
       ·(try dsimp only);exact hS.out _ kW
       clear hK K hHeld;intro hHeld
       (try simp only[pz])
       refine wpAnyH_done k_f ?_ _
       exact⟨rfl,_,_,rfl,zX,zY,kW⟩
      exact AllReadyH.nil
     exact AllReadyH.nil
    exact AllReadyH.nil
   exact AllReadyH.nil
  refine AllReadyH.cons (o:=⟨some 5,_,_,_,_,_⟩) rfl (fun K hK=> ?_) ?_
  ·have kL:=gr_alloc (wA) (.cells #[.bool false] 4)
   have zX:BB ((wA).alloc (.cells #[.bool false] 4)) (wA).heap.size false:=heap_alloc_new _ _
   have hbX:wB0.heap.size≤(wA).heap.size:=kW.b.size
   have kW:=kW.trans kL
   go_simp
   refine hK.out _ _ ?_ ?_
   ·(try dsimp only);exact hS.out _ kW
   clear hK K hHeld;intro hHeld
   (try simp only[pz])
   generalize (wA).alloc (.cells #[.bool false] 4)=wLX at*
   refine wpAnyH_ready (rs:=[3,5]) k_f (by simp) ?_
   refine AllReadyH.cons (o:=⟨some 10,_,_,_,_,_⟩) rfl (fun K hK=> ?_) ?_
   ·go_simp
    refine Calls.mono (hF2.out _ kW) ?_
    rintro e wB ⟨rfl,kB⟩
    have zX:=zX.below kB.b
    have kW:=kW.trans kB
    (try go_wp2_with fail)
    refine hK.out _ _ ?_ ?_
    ·(try dsimp only);exact hS.out _ kW
    clear hK K hHeld;intro hHeld
    (try simp only[pz])
    refine ryz 5 (some 6) (fun K hK=> ?_) ?_
    ·have kL:=gr_alloc (wB) (.cells #[.bool false] 4)
     have hne:(wA).heap.size≠(wB).heap.size:=by have h9:=zX.lt;omega
     have zX:=zX.below kL.b
     have zY:BB ((wB).alloc (.cells #[.bool false] 4)) (wB).heap.size false:=heap_alloc_new _ _
     have hbY:wB0.heap.size≤(wB).heap.size:=kW.b.size
     have kW:=kW.trans kL
     go_simp
     refine hK.out _ _ ?_ ?_
     ·(try dsimp only);exact hS.out _ kW
     clear hK K hHeld;intro hHeld
     (try simp only[pz])
     generalize (wB).alloc (.cells #[.bool false] 4)=wLY at*
     refine ryz 6 none (fun K hK=> ?_) ?_
     ·have f0:=zX.c0
      have f1:=zX.f
      go_simp
      have zY:=zY.set_ne hne.symm (.bool (neg1 ps))
      have zX:=zX.set (neg1 ps)
      have kW:=gr_set kW hbX (.bool (neg1 ps))
      refine hK.out _ _ ?_ ?_
      ·(try dsimp only);exact hS.out _ kW
      clear hK K hHeld;intro hHeld
      (try simp only[pz])
      refine ryz 7 none (fun K hK=> ?_) ?_
      ·have f0:=zY.c0
       have f1:=zY.f
       go_simp
       have zX:=zX.set_ne hne (.bool (neg1 qs))
       have zY:=zY.set (neg1 qs)
       have kW:=gr_set kW hbY (.bool (neg1 qs))
       refine hK.out _ _ ?_ ?_
       ·(try dsimp only);exact hS.out _ kW
       clear hK K hHeld;intro hHeld
       (try simp only[pz])
       refine wpAnyH_done k_f ?_ _
       exact⟨rfl,_,_,rfl,zX,zY,kW⟩
      exact AllReadyH.nil
     exact AllReadyH.nil
    exact AllReadyH.nil
   refine AllReadyH.cons (o:=⟨some 6,_,_,_,_,_⟩) rfl (fun K hK=> ?_) ?_
   ·have kL:=gr_alloc (wLX) (.cells #[.bool false] 4)
    have hne:(wA).heap.size≠(wLX).heap.size:=by have h9:=zX.lt;omega
    have zX:=zX.below kL.b
    have zY:BB ((wLX).alloc (.cells #[.bool false] 4)) (wLX).heap.size false:=heap_alloc_new _ _
    have hbY:wB0.heap.size≤(wLX).heap.size:=kW.b.size
    have kW:=kW.trans kL
    go_simp
    refine hK.out _ _ ?_ ?_
    ·(try dsimp only);exact hS.out _ kW
    clear hK K hHeld;intro hHeld
    (try simp only[pz])
    generalize (wLX).alloc (.cells #[.bool false] 4)=wLY at*
    refine ryz 3 (some 10) (fun K hK=> ?_) ?_
    ·go_simp
     refine Calls.mono (hF2.out _ kW) ?_
     rintro e wB ⟨rfl,kB⟩
     have zX:=zX.below kB.b
     have zY:=zY.below kB.b
     have kW:=kW.trans kB
     (try go_wp2_with fail)
     refine hK.out _ _ ?_ ?_
     ·(try dsimp only);exact hS.out _ kW
     clear hK K hHeld;intro hHeld
     (try simp only[pz])
     refine ryz 6 none (fun K hK=> ?_) ?_
     ·have f0:=zX.c0
      have f1:=zX.f
      go_simp
      have zY:=zY.set_ne hne.symm (.bool (neg1 ps))
      have zX:=zX.set (neg1 ps)
      have kW:=gr_set kW hbX (.bool (neg1 ps))
      refine hK.out _ _ ?_ ?_
      ·(try dsimp only);exact hS.out _ kW
      clear hK K hHeld;intro hHeld
      (try simp only[pz])
      refine ryz 7 none (fun K hK=> ?_) ?_
      ·have f0:=zY.c0
       have f1:=zY.f
       go_simp
       have zX:=zX.set_ne hne (.bool (neg1 qs))
       have zY:=zY.set (neg1 qs)
       have kW:=gr_set kW hbY (.bool (neg1 qs))
       refine hK.out _ _ ?_ ?_
       ·(try dsimp only);exact hS.out _ kW
       clear hK K hHeld;intro hHeld
       (try simp only[pz])
       refine wpAnyH_done k_f ?_ _
       exact⟨rfl,_,_,rfl,zX,zY,kW⟩
      exact AllReadyH.nil
     exact AllReadyH.nil
    exact AllReadyH.nil
   exact AllReadyH.nil
  refine AllReadyH.cons (o:=⟨some 6,_,_,_,_,_⟩) rfl (fun K hK=> ?_) ?_
  ·have kL:=gr_alloc (wA) (.cells #[.bool false] 4)
   have zY:BB ((wA).alloc (.cells #[.bool false] 4)) (wA).heap.size false:=heap_alloc_new _ _
   have hbY:wB0.heap.size≤(wA).heap.size:=kW.b.size
   have kW:=kW.trans kL
   go_simp
   refine hK.out _ _ ?_ ?_
   ·(try dsimp only);exact hS.out _ kW
   clear hK K hHeld;intro hHeld
   (try simp only[pz])
   generalize (wA).alloc (.cells #[.bool false] 4)=wLY at*
   refine wpAnyH_ready (rs:=[3,4]) k_f (by simp) ?_
   refine AllReadyH.cons (o:=⟨some 10,_,_,_,_,_⟩) rfl (fun K hK=> ?_) ?_
   ·go_simp
    refine Calls.mono (hF2.out _ kW) ?_
    rintro e wB ⟨rfl,kB⟩
    have zY:=zY.below kB.b
    have kW:=kW.trans kB
    (try go_wp2_with fail)
    refine hK.out _ _ ?_ ?_
    ·(try dsimp only);exact hS.out _ kW
    clear hK K hHeld;intro hHeld
    (try simp only[pz])
    refine ryz 4 (some 5) (fun K hK=> ?_) ?_
    ·have kL:=gr_alloc (wB) (.cells #[.bool false] 4)
     have hne:(wB).heap.size≠(wA).heap.size:=by have h9:=zY.lt;omega
     have zY:=zY.below kL.b
     have zX:BB ((wB).alloc (.cells #[.bool false] 4)) (wB).heap.size false:=heap_alloc_new _ _
     have hbX:wB0.heap.size≤(wB).heap.size:=kW.b.size
     have kW:=kW.trans kL
     go_simp
     refine hK.out _ _ ?_ ?_
     ·(try dsimp only);exact hS.out _ kW
     clear hK K hHeld;intro hHeld
     (try simp only[pz])
     generalize (wB).alloc (.cells #[.bool false] 4)=wLX at*
     refine ryz 6 none (fun K hK=> ?_) ?_
     ·have f0:=zX.c0
      have f1:=zX.f
      go_simp
      have zY:=zY.set_ne hne.symm (.bool (neg1 ps))
      have zX:=zX.set (neg1 ps)
      have kW:=gr_set kW hbX (.bool (neg1 ps))
      refine hK.out _ _ ?_ ?_
      ·(try dsimp only);exact hS.out _ kW
      clear hK K hHeld;intro hHeld
      (try simp only[pz])
      refine ryz 7 none (fun K hK=> ?_) ?_
      ·have f0:=zY.c0
       have f1:=zY.f
       go_simp
       have zX:=zX.set_ne hne (.bool (neg1 qs))
       have zY:=zY.set (neg1 qs)
       have kW:=gr_set kW hbY (.bool (neg1 qs))
       refine hK.out _ _ ?_ ?_
       ·(try dsimp only);exact hS.out _ kW
       clear hK K hHeld;intro hHeld
       (try simp only[pz])
       refine wpAnyH_done k_f ?_ _
       exact⟨rfl,_,_,rfl,zX,zY,kW⟩
      exact AllReadyH.nil
     exact AllReadyH.nil
    exact AllReadyH.nil
   refine AllReadyH.cons (o:=⟨some 5,_,_,_,_,_⟩) rfl (fun K hK=> ?_) ?_
   ·have kL:=gr_alloc (wLY) (.cells #[.bool false] 4)
    have hne:(wLY).heap.size≠(wA).heap.size:=by have h9:=zY.lt;omega
    have zY:=zY.below kL.b
    have zX:BB ((wLY).alloc (.cells #[.bool false] 4)) (wLY).heap.size false:=heap_alloc_new _ _
    have hbX:wB0.heap.size≤(wLY).heap.size:=kW.b.size
    have kW:=kW.trans kL
    go_simp
    refine hK.out _ _ ?_ ?_
    ·(try dsimp only);exact hS.out _ kW
    clear hK K hHeld;intro hHeld
    (try simp only[pz])
    generalize (wLY).alloc (.cells #[.bool false] 4)=wLX at*
    refine ryz 3 (some 10) (fun K hK=> ?_) ?_
    ·go_simp
     refine Calls.mono (hF2.out _ kW) ?_
     rintro e wB ⟨rfl,kB⟩
     have zY:=zY.below kB.b
     have zX:=zX.below kB.b
     have kW:=kW.trans kB
     (try go_wp2_with fail)
     refine hK.out _ _ ?_ ?_
     ·(try dsimp only);exact hS.out _ kW
     clear hK K hHeld;intro hHeld
     (try simp only[pz])
     refine ryz 6 none (fun K hK=> ?_) ?_
     ·have f0:=zX.c0
      have f1:=zX.f
      go_simp
      have zY:=zY.set_ne hne.symm (.bool (neg1 ps))
      have zX:=zX.set (neg1 ps)
      have kW:=gr_set kW hbX (.bool (neg1 ps))
      refine hK.out _ _ ?_ ?_
      ·(try dsimp only);exact hS.out _ kW
      clear hK K hHeld;intro hHeld
      (try simp only[pz])
      refine ryz 7 none (fun K hK=> ?_) ?_
      ·have f0:=zY.c0
       have f1:=zY.f
       go_simp
       have zX:=zX.set_ne hne (.bool (neg1 qs))
       have zY:=zY.set (neg1 qs)
       have kW:=gr_set kW hbY (.bool (neg1 qs))
       refine hK.out _ _ ?_ ?_
       ·(try dsimp only);exact hS.out _ kW
       clear hK K hHeld;intro hHeld
       (try simp only[pz])
       refine wpAnyH_done k_f ?_ _
       exact⟨rfl,_,_,rfl,zX,zY,kW⟩
      exact AllReadyH.nil
     exact AllReadyH.nil
    exact AllReadyH.nil
   exact AllReadyH.nil
  exact AllReadyH.nil
 refine AllReadyH.cons (o:=⟨some 5,_,_,_,_,_⟩) rfl (fun K hK=> ?_) ?_
 ·have kL:=gr_alloc (wQ) (.cells #[.bool false] 4)
  have zX:BB ((wQ).alloc (.cells #[.bool false] 4)) (wQ).heap.size false:=heap_alloc_new _ _
  have hbX:wB0.heap.size≤(wQ).heap.size:=kW.b.size
  have kW:=kW.trans kL
  go_simp
  refine hK.out _ _ ?_ ?_
  ·(try dsimp only);exact hS.out _ kW
  clear hK K hHeld;intro hHeld
  (try simp only[pz])
  generalize (wQ).alloc (.cells #[.bool false] 4)=wLX at*
  refine wpAnyH_ready (rs:=[1,5]) k_f (by simp) ?_
  refine AllReadyH.cons (o:=⟨some 8,_,_,_,_,_⟩) rfl (fun K hK=> ?_) ?_
  ·go_simp
   refine Calls.mono (hF1.out _ kW) ?_
   rintro e wA ⟨rfl,kA⟩
   have zX:=zX.below kA.b
   have kW:=kW.trans kA
   (try go_wp2_with fail)
   refine hK.out _ _ ?_ ?_
   ·(try dsimp only);exact hS.out _ kW
   clear hK K hHeld;intro hHeld
   (try simp only[pz])
   refine wpAnyH_ready (rs:=[3,5]) k_f (by simp) ?_
   refine AllReadyH.cons (o:=⟨some 10,_,_,_,_,_⟩) rfl (fun K hK=> ?_) ?_
   ·go_simp
    refine Calls.mono (hF2.out _ kW) ?_
    rintro e wB ⟨rfl,kB⟩
    have zX:=zX.below kB.b
    have kW:=kW.trans kB
    (try go_wp2_with fail)
    refine hK.out _ _ ?_ ?_
    ·(try dsimp only);exact hS.out _ kW
    clear hK K hHeld;intro hHeld
    (try simp only[pz])
    refine ryz 5 (some 6) (fun K hK=> ?_) ?_
    ·have kL:=gr_alloc (wB) (.cells #[.bool false] 4)
     have hne:(wQ).heap.size≠(wB).heap.size:=by have h9:=zX.lt;omega
     have zX:=zX.below kL.b
     have zY:BB ((wB).alloc (.cells #[.bool false] 4)) (wB).heap.size false:=heap_alloc_new _ _
     have hbY:wB0.heap.size≤(wB).heap.size:=kW.b.size
     have kW:=kW.trans kL
     go_simp
     refine hK.out _ _ ?_ ?_
     ·(try dsimp only);exact hS.out _ kW
     clear hK K hHeld;intro hHeld
     (try simp only[pz])
     generalize (wB).alloc (.cells #[.bool false] 4)=wLY at*
     refine ryz 6 none (fun K hK=> ?_) ?_
     ·have f0:=zX.c0
      have f1:=zX.f
      go_simp
      have zY:=zY.set_ne hne.symm (.bool (neg1 ps))
      have zX:=zX.set (neg1 ps)
      have kW:=gr_set kW hbX (.bool (neg1 ps))
      refine hK.out _ _ ?_ ?_
      ·(try dsimp only);exact hS.out _ kW
      clear hK K hHeld;intro hHeld
      (try simp only[pz])
      refine ryz 7 none (fun K hK=> ?_) ?_
      ·have f0:=zY.c0
       have f1:=zY.f
       go_simp
       have zX:=zX.set_ne hne (.bool (neg1 qs))
       have zY:=zY.set (neg1 qs)
       have kW:=gr_set kW hbY (.bool (neg1 qs))
       refine hK.out _ _ ?_ ?_
       ·(try dsimp only);exact hS.out _ kW
       clear hK K hHeld;intro hHeld
       (try simp only[pz])
       refine wpAnyH_done k_f ?_ _
       exact⟨rfl,_,_,rfl,zX,zY,kW⟩
      exact AllReadyH.nil
     exact AllReadyH.nil
    exact AllReadyH.nil
   refine AllReadyH.cons (o:=⟨some 6,_,_,_,_,_⟩) rfl (fun K hK=> ?_) ?_
   ·have kL:=gr_alloc (wA) (.cells #[.bool false] 4)
    have hne:(wQ).heap.size≠(wA).heap.size:=by have h9:=zX.lt;omega
    have zX:=zX.below kL.b
    have zY:BB ((wA).alloc (.cells #[.bool false] 4)) (wA).heap.size false:=heap_alloc_new _ _
    have hbY:wB0.heap.size≤(wA).heap.size:=kW.b.size
    have kW:=kW.trans kL
    go_simp
    refine hK.out _ _ ?_ ?_
    ·(try dsimp only);exact hS.out _ kW
    clear hK K hHeld;intro hHeld
    (try simp only[pz])
    generalize (wA).alloc (.cells #[.bool false] 4)=wLY at*
    refine ryz 3 (some 10) (fun K hK=> ?_) ?_
    ·go_simp
     refine Calls.mono (hF2.out _ kW) ?_
     rintro e wB ⟨rfl,kB⟩
     have zX:=zX.below kB.b
     have zY:=zY.below kB.b
     have kW:=kW.trans kB
     (try go_wp2_with fail)
     refine hK.out _ _ ?_ ?_
     ·(try dsimp only);exact hS.out _ kW
     clear hK K hHeld;intro hHeld
     (try simp only[pz])
     refine ryz 6 none (fun K hK=> ?_) ?_
     ·have f0:=zX.c0
      have f1:=zX.f
      go_simp
      have zY:=zY.set_ne hne.symm (.bool (neg1 ps))
      have zX:=zX.set (neg1 ps)
      have kW:=gr_set kW hbX (.bool (neg1 ps))
      refine hK.out _ _ ?_ ?_
      ·(try dsimp only);exact hS.out _ kW
      clear hK K hHeld;intro hHeld
      (try simp only[pz])
      refine ryz 7 none (fun K hK=> ?_) ?_
      ·have f0:=zY.c0
       have f1:=zY.f
       go_simp
       have zX:=zX.set_ne hne (.bool (neg1 qs))
       have zY:=zY.set (neg1 qs)
       have kW:=gr_set kW hbY (.bool (neg1 qs))
       refine hK.out _ _ ?_ ?_
       ·(try dsimp only);exact hS.out _ kW
       clear hK K hHeld;intro hHeld
       (try simp only[pz])
       refine wpAnyH_done k_f ?_ _
       exact⟨rfl,_,_,rfl,zX,zY,kW⟩
      exact AllReadyH.nil
     exact AllReadyH.nil
    exact AllReadyH.nil
   exact AllReadyH.nil
  refine AllReadyH.cons (o:=⟨some 6,_,_,_,_,_⟩) rfl (fun K hK=> ?_) ?_
  ·have kL:=gr_alloc (wLX) (.cells #[.bool false] 4)
   have hne:(wQ).heap.size≠(wLX).heap.size:=by have h9:=zX.lt;omega
   have zX:=zX.below kL.b
   have zY:BB ((wLX).alloc (.cells #[.bool false] 4)) (wLX).heap.size false:=heap_alloc_new _ _
   have hbY:wB0.heap.size≤(wLX).heap.size:=kW.b.size
   have kW:=kW.trans kL
   go_simp
   refine hK.out _ _ ?_ ?_
   ·(try dsimp only);exact hS.out _ kW
   clear hK K hHeld;intro hHeld
   (try simp only[pz])
   generalize (wLX).alloc (.cells #[.bool false] 4)=wLY at*
   refine ryz 1 (some 8) (fun K hK=> ?_) ?_
   ·go_simp
    refine Calls.mono (hF1.out _ kW) ?_
    rintro e wA ⟨rfl,kA⟩
    have zX:=zX.below kA.b
    have zY:=zY.below kA.b
    have kW:=kW.trans kA
    (try go_wp2_with fail)
    refine hK.out _ _ ?_ ?_
    ·(try dsimp only);exact hS.out _ kW
    clear hK K hHeld;intro hHeld
    (try simp only[pz])
    refine ryz 3 (some 10) (fun K hK=> ?_) ?_
    ·go_simp
     refine Calls.mono (hF2.out _ kW) ?_
     rintro e wB ⟨rfl,kB⟩
     have zX:=zX.below kB.b
     have zY:=zY.below kB.b
     have kW:=kW.trans kB
     (try go_wp2_with fail)
     refine hK.out _ _ ?_ ?_
     ·(try dsimp only);exact hS.out _ kW
     clear hK K hHeld;intro hHeld
     (try simp only[pz])
     refine ryz 6 none (fun K hK=> ?_) ?_
     ·have f0:=zX.c0
      have f1:=zX.f
      go_simp
      have zY:=zY.set_ne hne.symm (.bool (neg1 ps))
      have zX:=zX.set (neg1 ps)
      have kW:=gr_set kW hbX (.bool (neg1 ps))
      refine hK.out _ _ ?_ ?_
      ·(try dsimp only);exact hS.out _ kW
      clear hK K hHeld;intro hHeld
      (try simp only[pz])
      refine ryz 7 none (fun K hK=> ?_) ?_
      ·have f0:=zY.c0
       have f1:=zY.f
       go_simp
       have zX:=zX.set_ne hne (.bool (neg1 qs))
       have zY:=zY.set (neg1 qs)
       have kW:=gr_set kW hbY (.bool (neg1 qs))
       refine hK.out _ _ ?_ ?_
       ·(try dsimp only);exact hS.out _ kW
       clear hK K hHeld;intro hHeld
       (try simp only[pz])
       refine wpAnyH_done k_f ?_ _
       exact⟨rfl,_,_,rfl,zX,zY,kW⟩
      exact AllReadyH.nil
     exact AllReadyH.nil
    exact AllReadyH.nil
   exact AllReadyH.nil
  exact AllReadyH.nil
 refine AllReadyH.cons (o:=⟨some 6,_,_,_,_,_⟩) rfl (fun K hK=> ?_) ?_
 ·have kL:=gr_alloc (wQ) (.cells #[.bool false] 4)
  have zY:BB ((wQ).alloc (.cells #[.bool false] 4)) (wQ).heap.size false:=heap_alloc_new _ _
  have hbY:wB0.heap.size≤(wQ).heap.size:=kW.b.size
  have kW:=kW.trans kL
  go_simp
  refine hK.out _ _ ?_ ?_
  ·(try dsimp only);exact hS.out _ kW
  clear hK K hHeld;intro hHeld
  (try simp only[pz])
  generalize (wQ).alloc (.cells #[.bool false] 4)=wLY at*
  refine wpAnyH_ready (rs:=[1,4]) k_f (by simp) ?_
  refine AllReadyH.cons (o:=⟨some 8,_,_,_,_,_⟩) rfl (fun K hK=> ?_) ?_
  ·go_simp
   refine Calls.mono (hF1.out _ kW) ?_
   rintro e wA ⟨rfl,kA⟩
   have zY:=zY.below kA.b
   have kW:=kW.trans kA
   (try go_wp2_with fail)
   refine hK.out _ _ ?_ ?_
   ·(try dsimp only);exact hS.out _ kW
   clear hK K hHeld;intro hHeld
   (try simp only[pz])
   refine wpAnyH_ready (rs:=[3,4]) k_f (by simp) ?_
   refine AllReadyH.cons (o:=⟨some 10,_,_,_,_,_⟩) rfl (fun K hK=> ?_) ?_
   ·go_simp
    refine Calls.mono (hF2.out _ kW) ?_
    rintro e wB ⟨rfl,kB⟩
    have zY:=zY.below kB.b
    have kW:=kW.trans kB
    (try go_wp2_with fail)
    refine hK.out _ _ ?_ ?_
    ·(try dsimp only);exact hS.out _ kW
    clear hK K hHeld;intro hHeld
    (try simp only[pz])
    refine ryz 4 (some 5) (fun K hK=> ?_) ?_
    ·have kL:=gr_alloc (wB) (.cells #[.bool false] 4)
     have hne:(wB).heap.size≠(wQ).heap.size:=by have h9:=zY.lt;omega
     have zY:=zY.below kL.b
     have zX:BB ((wB).alloc (.cells #[.bool false] 4)) (wB).heap.size false:=heap_alloc_new _ _
     have hbX:wB0.heap.size≤(wB).heap.size:=kW.b.size
     have kW:=kW.trans kL
     go_simp
     refine hK.out _ _ ?_ ?_
     ·(try dsimp only);exact hS.out _ kW
     clear hK K hHeld;intro hHeld
     (try simp only[pz])
     generalize (wB).alloc (.cells #[.bool false] 4)=wLX at*
     refine ryz 6 none (fun K hK=> ?_) ?_
     ·have f0:=zX.c0
      have f1:=zX.f
      go_simp
      have zY:=zY.set_ne hne.symm (.bool (neg1 ps))
      have zX:=zX.set (neg1 ps)
      have kW:=gr_set kW hbX (.bool (neg1 ps))
      refine hK.out _ _ ?_ ?_
      ·(try dsimp only);exact hS.out _ kW
      clear hK K hHeld;intro hHeld
      (try simp only[pz])
      refine ryz 7 none (fun K hK=> ?_) ?_
      ·have f0:=zY.c0
       have f1:=zY.f
       go_simp
       have zX:=zX.set_ne hne (.bool (neg1 qs))
       have zY:=zY.set (neg1 qs)
       have kW:=gr_set kW hbY (.bool (neg1 qs))
       refine hK.out _ _ ?_ ?_
       ·(try dsimp only);exact hS.out _ kW
       clear hK K hHeld;intro hHeld
       (try simp only[pz])
       refine wpAnyH_done k_f ?_ _
       exact⟨rfl,_,_,rfl,zX,zY,kW⟩
      exact AllReadyH.nil
     exact AllReadyH.nil
    exact AllReadyH.nil
   refine AllReadyH.cons (o:=⟨some 5,_,_,_,_,_⟩) rfl (fun K hK=> ?_) ?_
   ·have kL:=gr_alloc (wA) (.cells #[.bool false] 4)
    have hne:(wA).heap.size≠(wQ).heap.size:=by have h9:=zY.lt;omega
    have zY:=zY.below kL.b
    have zX:BB ((wA).alloc (.cells #[.bool false] 4)) (wA).heap.size false:=heap_alloc_new _ _
    have hbX:wB0.heap.size≤(wA).heap.size:=kW.b.size
    have kW:=kW.trans kL
    go_simp
    refine hK.out _ _ ?_ ?_
    ·(try dsimp only);exact hS.out _ kW
    clear hK K hHeld;intro hHeld
    (try simp only[pz])
    generalize (wA).alloc (.cells #[.bool false] 4)=wLX at*
    refine ryz 3 (some 10) (fun K hK=> ?_) ?_
    ·go_simp
     refine Calls.mono (hF2.out _ kW) ?_
     rintro e wB ⟨rfl,kB⟩
     have zY:=zY.below kB.b
     have zX:=zX.below kB.b
     have kW:=kW.trans kB
     (try go_wp2_with fail)
     refine hK.out _ _ ?_ ?_
     ·(try dsimp only);exact hS.out _ kW
     clear hK K hHeld;intro hHeld
     (try simp only[pz])
     refine ryz 6 none (fun K hK=> ?_) ?_
     ·have f0:=zX.c0
      have f1:=zX.f
      go_simp
      have zY:=zY.set_ne hne.symm (.bool (neg1 ps))
      have zX:=zX.set (neg1 ps)
      have kW:=gr_set kW hbX (.bool (neg1 ps))
      refine hK.out _ _ ?_ ?_
      ·(try dsimp only);exact hS.out _ kW
      clear hK K hHeld;intro hHeld
      (try simp only[pz])
      refine ryz 7 none (fun K hK=> ?_) ?_
      ·have f0:=zY.c0
       have f1:=zY.f
       go_simp
       have zX:=zX.set_ne hne (.bool (neg1 qs))
       have zY:=zY.set (neg1 qs)
       have kW:=gr_set kW hbY (.bool (neg1 qs))
       refine hK.out _ _ ?_ ?_
       ·(try dsimp only);exact hS.out _ kW
       clear hK K hHeld;intro hHeld
       (try simp only[pz])
       refine wpAnyH_done k_f ?_ _
       exact⟨rfl,_,_,rfl,zX,zY,kW⟩
      exact AllReadyH.nil
     exact AllReadyH.nil
    exact AllReadyH.nil
   exact AllReadyH.nil
  refine AllReadyH.cons (o:=⟨some 5,_,_,_,_,_⟩) rfl (fun K hK=> ?_) ?_
  ·have kL:=gr_alloc (wLY) (.cells #[.bool false] 4)
   have hne:(wLY).heap.size≠(wQ).heap.size:=by have h9:=zY.lt;omega
   have zY:=zY.below kL.b
   have zX:BB ((wLY).alloc (.cells #[.bool false] 4)) (wLY).heap.size false:=heap_alloc_new _ _
   have hbX:wB0.heap.size≤(wLY).heap.size:=kW.b.size
   have kW:=kW.trans kL
   go_simp
   refine hK.out _ _ ?_ ?_
   ·(try dsimp only);exact hS.out _ kW
   clear hK K hHeld;intro hHeld
   (try simp only[pz])
   generalize (wLY).alloc (.cells #[.bool false] 4)=wLX at*
   refine ryz 1 (some 8) (fun K hK=> ?_) ?_
   ·go_simp
    refine Calls.mono (hF1.out _ kW) ?_
    rintro e wA ⟨rfl,kA⟩
    have zY:=zY.below kA.b
    have zX:=zX.below kA.b
    have kW:=kW.trans kA
    (try go_wp2_with fail)
    refine hK.out _ _ ?_ ?_
    ·(try dsimp only);exact hS.out _ kW
    clear hK K hHeld;intro hHeld
    (try simp only[pz])
    refine ryz 3 (some 10) (fun K hK=> ?_) ?_
    ·go_simp
     refine Calls.mono (hF2.out _ kW) ?_
     rintro e wB ⟨rfl,kB⟩
     have zY:=zY.below kB.b
     have zX:=zX.below kB.b
     have kW:=kW.trans kB
     (try go_wp2_with fail)
     refine hK.out _ _ ?_ ?_
     ·(try dsimp only);exact hS.out _ kW
     clear hK K hHeld;intro hHeld
     (try simp only[pz])
     refine ryz 6 none (fun K hK=> ?_) ?_
     ·have f0:=zX.c0
      have f1:=zX.f
      go_simp
      have zY:=zY.set_ne hne.symm (.bool (neg1 ps))
      have zX:=zX.set (neg1 ps)
      have kW:=gr_set kW hbX (.bool (neg1 ps))
      refine hK.out _ _ ?_ ?_
      ·(try dsimp only);exact hS.out _ kW
      clear hK K hHeld;intro hHeld
      (try simp only[pz])
      refine ryz 7 none (fun K hK=> ?_) ?_
      ·have f0:=zY.c0
       have f1:=zY.f
       go_simp
       have zX:=zX.set_ne hne (.bool (neg1 qs))
       have zY:=zY.set (neg1 qs)
       have kW:=gr_set kW hbY (.bool (neg1 qs))
       refine hK.out _ _ ?_ ?_
       ·(try dsimp only);exact hS.out _ kW
       clear hK K hHeld;intro hHeld
       (try simp only[pz])
       refine wpAnyH_done k_f ?_ _
       exact⟨rfl,_,_,rfl,zX,zY,kW⟩
      exact AllReadyH.nil
     exact AllReadyH.nil
    exact AllReadyH.nil
   exact AllReadyH.nil
  exact AllReadyH.nil
 exact AllReadyH.nil
end Nt
namespace Nt

def LwB (w:World)(b:Nat)(kd dual idle rul:Int)(K:Nat):Prop:=w.heap[b]? =some (.cells #[.int .i64 kd,.int .i64 dual,.int .i64 idle,.int .i64 rul,.func (.func K) #[] #[]] 94 (0,0))
theorem LwB.lt {w:World}{b:Nat}{kd dual idle rul:Int}{K:Nat}(h:LwB w b kd dual idle rul K):b<w.heap.size:=lt_of_block h
theorem LwB.below {w w':World}{b:Nat}{kd dual idle rul:Int}{K:Nat}(h:LwB w b kd dual idle rul K)(k:Below w.heap.size w w'):LwB w' b kd dual idle rul K:=(k.block b h.lt).trans h
theorem LwB.c0 {w:World}{b:Nat}{kd dual idle rul:Int}{K:Nat}(h:LwB w b kd dual idle rul K):w.cell? ⟨b,0,none⟩=some (.int .i64 kd):=cell_of_row w b 0 _ _ (0,0) h
theorem LwB.c1 {w:World}{b:Nat}{kd dual idle rul:Int}{K:Nat}(h:LwB w b kd dual idle rul K):w.cell? ⟨b,1,none⟩=some (.int .i64 dual):=cell_of_row w b 1 _ _ (0,0) h
theorem LwB.c2 {w:World}{b:Nat}{kd dual idle rul:Int}{K:Nat}(h:LwB w b kd dual idle rul K):w.cell? ⟨b,2,none⟩=some (.int .i64 idle):=cell_of_row w b 2 _ _ (0,0) h
theorem LwB.c3 {w:World}{b:Nat}{kd dual idle rul:Int}{K:Nat}(h:LwB w b kd dual idle rul K):w.cell? ⟨b,3,none⟩=some (.int .i64 rul):=cell_of_row w b 3 _ _ (0,0) h
theorem LwB.c4 {w:World}{b:Nat}{kd dual idle rul:Int}{K:Nat}(h:LwB w b kd dual idle rul K):w.cell? ⟨b,4,none⟩=some (.func (.func K) #[] #[]):=cell_of_row w b 4 _ _ (0,0) h

theorem falling_g {s1 s2:Bool}{a1 a2:Option Addr}{l1 c1 l2 c2:Nat}{z1 z2:Int}{w:World}(h1:Zm w s1 a1 l1 c1 z1)(h2:Zm w s2 a2 l2 c2 z2)(hl1:l1≤1099511627776)(hl2:l2≤1099511627776):
  Calls Tryz.prog 51 #[.agg #[.bool s1,.slice a1 l1 c1],.agg #[.bool s2,.slice a2 l2 c2]] w fun e w'=>e= .returned (.int .i64 (cmpI (-1*z1) (-1*z2)))∧Gr w w':=by
 have e0:cmpI (-1*z1) (-1*z2)=cmpI z2 z1:=by unfold cmpI;repeat' split;all_goals omega
 rw[e0]
 have b0:=(gr_alloc w (.cells #[.bool s1,.slice a1 l1 c1] 45)).trans (gr_alloc _ (.cells #[.bool s2,.slice a2 l2 c2] 45))
 have hc:=hide (zcmp_g (h2.below b0.b) (h1.below b0.b) hl2 hl1)
 replace b0:=hide b0
 clear h1 h2
 go_enter Tryz.func51,Tryz.ntmps51
 go_wp2_with fail
 refine hc.out.mono ?_
 rintro e w1 ⟨rfl,k1⟩
 replace b0:=hide (b0.out.trans k1)
 clear hc k1
 go_wp2
 go_ret
 exact⟨rfl,b0.out⟩
def ordS (sg:Int)(ps:List (Int × Int))(k:Int)(qs:List (Int × Int))(m:Int):Int:=
 if ordL (lnP ps) (lnP qs)≠0 then ordL (lnP ps) (lnP qs)else if neg1 ps≠neg1 qs then cmpI (ps.headD (0,0)).2 (qs.headD (0,0)).2 else cmpI (sg*k) (sg*m)

theorem stay1A {w:World}{i j:Int}{x y:NR}{ps qs:List (Int × Int)}{k m:Int}{B bl:Nat}{kd dual idle rul:Int}(hL:LwB w bl kd dual idle rul 49)(hP:Pn w x.ap x.np ps B)(h0:ps≠ [])(hk:Zn w x.sk x.ak x.lk x.ck k)(hP2:Pn w y.ap y.np qs B)(h02:qs≠ [])(hm:Zn w y.sk y.ak y.lk y.ck m)(hn:x.np≤536870912)(hB:B≤1099511627776)(hl1:x.lk≤B)(hl2:y.lk≤B):
  Calls Tryz.prog 152 #[.agg (mE i x),.agg (mE j y),.pointer (some ⟨bl,0,none⟩)] w fun e w'=>e= .returned (.int .i64 (ordS 1 ps k qs m))∧Gr w w':=by
 have b0:=(gr_alloc w (.cells (mE i x) 155)).trans (gr_alloc _ (.cells (mE j y) 155))
 have zx:M9B _ w.heap.size i x:=M9B.below (heap_alloc_new w (.cells (mE i x) 155)) (below_alloc _ (.cells (mE j y) 155))
 have zy:M9B ((w.alloc (.cells (mE i x) 155)).alloc (.cells (mE j y) 155)) (w.alloc (.cells (mE i x) 155)).heap.size j y:=heap_alloc_new _ _
 rw[show(w.alloc (.cells (mE i x) 155)).heap.size=w.heap.size+1 from by simp]at zy
 have hl0:=List.length_pos_iff.2 h0
 have hl02:=List.length_pos_iff.2 h02
 obtain⟨b1,o1,hap,hb1,sx,ax,lx,cx,e1,e2,hzx,hlx⟩: ∃b off,x.ap=some ⟨b,off,none⟩∧b<w.heap.size∧∃s a l c,w.cell? ⟨b,off+1,none⟩=some (.bool s)∧w.cell? ⟨b,off+2,none⟩=some (.slice a l c)∧Zn w s a l c (ps.headD (0,0)).2∧l≤B:=by
  rcases hP.2 with h2|⟨b,off,e,hb,h2⟩
  ·have:=hP.1;omega
  obtain⟨s,a,l,c,-,e1,e2,hz,hl,-⟩:=h2 0 hl0
  simp only[Nat.zero_mul,Nat.add_zero]at e1 e2
  refine⟨b,off,e,hb,s,a,l,c,e1,e2,?_,hl⟩
  cases ps with
  |nil=>exact absurd rfl h0
  |cons p t=>exact hz
 obtain⟨b2,o2,hap2,hb2,sy,ay,ly,cy,f1,f2,hzy,hly⟩: ∃b off,y.ap=some ⟨b,off,none⟩∧b<w.heap.size∧∃s a l c,w.cell? ⟨b,off+1,none⟩=some (.bool s)∧w.cell? ⟨b,off+2,none⟩=some (.slice a l c)∧Zn w s a l c (qs.headD (0,0)).2∧l≤B:=by
  rcases hP2.2 with h2|⟨b,off,e,hb,h2⟩
  ·have:=hP2.1;omega
  obtain⟨s,a,l,c,-,e1,e2,hz,hl,-⟩:=h2 0 hl02
  simp only[Nat.zero_mul,Nat.add_zero]at e1 e2
  refine⟨b,off,e,hb,s,a,l,c,e1,e2,?_,hl⟩
  cases qs with
  |nil=>exact absurd rfl h02
  |cons p t=>exact hz
 have hnx:0<x.np:=by have:=hP.1;omega
 have hny:0<y.np:=by have:=hP2.1;omega
 have hlin:=hide (lines_g (i:=i) (j:=j) (hP.below b0.b) h0 (hP2.below b0.b) h02 hn hB)
 have hF1:Hid (∀w',Gr ((w.alloc (.cells (mE i x) 155)).alloc (.cells (mE j y) 155)) w'→Calls Tryz.prog 154 #[.agg (mE i x)] w' fun e w''=>e= .returned (.bool (neg1 ps))∧Gr w' w''):=hide fun w' k=>falls_g (hP.below (b0.trans k).b) h0
 have hF2:Hid (∀w',Gr ((w.alloc (.cells (mE i x) 155)).alloc (.cells (mE j y) 155)) w'→Calls Tryz.prog 154 #[.agg (mE j y)] w' fun e w''=>e= .returned (.bool (neg1 qs))∧Gr w' w''):=hide fun w' k=>falls_g (hP2.below (b0.trans k).b) h02
 have hZ:Hid (∀w',Gr ((w.alloc (.cells (mE i x) 155)).alloc (.cells (mE j y) 155)) w'→Calls Tryz.prog 49 #[.agg #[.bool sx,.slice ax lx cx],.agg #[.bool sy,.slice ay ly cy]] w' fun e w''=>e= .returned (.int .i64 (cmpI (ps.headD (0,0)).2 (qs.headD (0,0)).2))∧Gr w' w''):=hide fun w' k=>zcmp_g (hzx.below (b0.trans k).b).zm (hzy.below (b0.trans k).b).zm o_m o_m
 have hO:Hid (∀w',Gr ((w.alloc (.cells (mE i x) 155)).alloc (.cells (mE j y) 155)) w'→Calls Tryz.prog 49 #[.agg #[.bool x.sk,.slice x.ak x.lk x.ck],.agg #[.bool y.sk,.slice y.ak y.lk y.ck]] w' fun e w''=>e= .returned (.int .i64 (cmpI (1*k) (1*m)))∧Gr w' w''):=hide fun w' kw=>by
  rw[Int.one_mul,Int.one_mul]
  exact zcmp_g (hk.below (b0.trans kw).b).zm (hm.below (b0.trans kw).b).zm o_m o_m
 replace e1:=(b0.b.cell (p:=⟨b1,_,none⟩) hb1).trans e1
 replace e2:=(b0.b.cell (p:=⟨b1,_,none⟩) hb1).trans e2
 replace f1:=(b0.b.cell (p:=⟨b2,_,none⟩) hb2).trans f1
 replace f2:=(b0.b.cell (p:=⟨b2,_,none⟩) hb2).trans f2
 replace hb1:=Nat.lt_of_lt_of_le hb1 b0.b.size
 replace hb2:=Nat.lt_of_lt_of_le hb2 b0.b.size
 have zl:=hL.below b0.b
 replace b0:=hide b0
 have hres:Hid (ordS 1 ps k qs m=if ordL (lnP ps) (lnP qs)≠0 then ordL (lnP ps) (lnP qs)else if neg1 ps≠neg1 qs then cmpI (ps.headD (0,0)).2 (qs.headD (0,0)).2 else cmpI (1*k) (1*m)):=hide rfl
 clear hP hP2 hk hm hzx hzy hL hl0 hl02 hl1 hl2 hlx hly hn hB
 obtain⟨kd1,sd1,ad1,ld1,cd1,ap1,np1,cp1,sk1,ak1,lk1,ck1,vr1,ka1,kn1,kc1⟩:=x
 obtain⟨kd2,sd2,ad2,ld2,cd2,ap2,np2,cp2,sk2,ak2,lk2,ck2,vr2,ka2,kn2,kc2⟩:=y
 dsimp only at hap hap2 hnx hny
 subst hap hap2
 simp only[mE]at*
 go_enter Tryz.func152,Tryz.ntmps152
 go_wp2_with fail
 generalize (w.alloc (.cells #[.int .i64 i,.int .i64 kd1,.bool sd1,.slice ad1 ld1 cd1,.slice (some ⟨b1,o1,none⟩) np1 cp1,.bool sk1,.slice ak1 lk1 ck1,.int .i64 vr1,.slice ka1 kn1 kc1] 155)).alloc (.cells #[.int .i64 j,.int .i64 kd2,.bool sd2,.slice ad2 ld2 cd2,.slice (some ⟨b2,o2,none⟩) np2 cp2,.bool sk2,.slice ak2 lk2 ck2,.int .i64 vr2,.slice ka2 kn2 kc2] 155)=wB0 at*
 generalize w.heap.size=p at*
 generalize p+1=q at*
 refine hlin.out.mono ?_
 rintro e w1 ⟨rfl,k1⟩
 have hS:Hid (∀w',Gr w1 w'→w'.cell? ⟨p,0,none⟩=some (.int .i64 i)∧w'.cell? ⟨p,1,none⟩=some (.int .i64 kd1)∧w'.cell? ⟨p,2,none⟩=some (.bool sd1)∧w'.cell? ⟨p,3,none⟩=some (.slice ad1 ld1 cd1)∧w'.cell? ⟨p,4,none⟩=some (.slice (some ⟨b1,o1,none⟩) np1 cp1)∧w'.cell? ⟨p,5,none⟩=some (.bool sk1)∧w'.cell? ⟨p,6,none⟩=some (.slice ak1 lk1 ck1)∧w'.cell? ⟨p,7,none⟩=some (.int .i64 vr1)∧w'.cell? ⟨p,8,none⟩=some (.slice ka1 kn1 kc1)∧w'.cell? ⟨q,0,none⟩=some (.int .i64 j)∧w'.cell? ⟨q,1,none⟩=some (.int .i64 kd2)∧w'.cell? ⟨q,2,none⟩=some (.bool sd2)∧w'.cell? ⟨q,3,none⟩=some (.slice ad2 ld2 cd2)∧w'.cell? ⟨q,4,none⟩=some (.slice (some ⟨b2,o2,none⟩) np2 cp2)∧w'.cell? ⟨q,5,none⟩=some (.bool sk2)∧w'.cell? ⟨q,6,none⟩=some (.slice ak2 lk2 ck2)∧w'.cell? ⟨q,7,none⟩=some (.int .i64 vr2)∧w'.cell? ⟨q,8,none⟩=some (.slice ka2 kn2 kc2)∧w'.cell? ⟨b1,o1+1,none⟩=some (.bool sx)∧w'.cell? ⟨b1,o1+2,none⟩=some (.slice ax lx cx)∧w'.cell? ⟨b2,o2+1,none⟩=some (.bool sy)∧w'.cell? ⟨b2,o2+2,none⟩=some (.slice ay ly cy)∧Gr w1 w'):=hide fun w' k'=>by
  have k:=k1.trans k'
  exact⟨(k.b.cell (p:=⟨p,0,none⟩) zx.lt).trans (zx.c 0),(k.b.cell (p:=⟨p,1,none⟩) zx.lt).trans (zx.c 1),(k.b.cell (p:=⟨p,2,none⟩) zx.lt).trans (zx.c 2),(k.b.cell (p:=⟨p,3,none⟩) zx.lt).trans (zx.c 3),(k.b.cell (p:=⟨p,4,none⟩) zx.lt).trans (zx.c 4),(k.b.cell (p:=⟨p,5,none⟩) zx.lt).trans (zx.c 5),(k.b.cell (p:=⟨p,6,none⟩) zx.lt).trans (zx.c 6),(k.b.cell (p:=⟨p,7,none⟩) zx.lt).trans (zx.c 7),(k.b.cell (p:=⟨p,8,none⟩) zx.lt).trans (zx.c 8),(k.b.cell (p:=⟨q,0,none⟩) zy.lt).trans (zy.c 0),(k.b.cell (p:=⟨q,1,none⟩) zy.lt).trans (zy.c 1),(k.b.cell (p:=⟨q,2,none⟩) zy.lt).trans (zy.c 2),(k.b.cell (p:=⟨q,3,none⟩) zy.lt).trans (zy.c 3),(k.b.cell (p:=⟨q,4,none⟩) zy.lt).trans (zy.c 4),(k.b.cell (p:=⟨q,5,none⟩) zy.lt).trans (zy.c 5),(k.b.cell (p:=⟨q,6,none⟩) zy.lt).trans (zy.c 6),(k.b.cell (p:=⟨q,7,none⟩) zy.lt).trans (zy.c 7),(k.b.cell (p:=⟨q,8,none⟩) zy.lt).trans (zy.c 8),(k.b.cell (p:=⟨b1,o1+1,none⟩) hb1).trans e1,(k.b.cell (p:=⟨b1,o1+2,none⟩) hb1).trans e2,(k.b.cell (p:=⟨b2,o2+1,none⟩) hb2).trans f1,(k.b.cell (p:=⟨b2,o2+2,none⟩) hb2).trans f2,k'⟩
 have ku:=(hS.out w1 (Gr.refl _))
 obtain⟨u0,u1,u2,u3,u4,u5,u6,u7,u8,v0,v1,v2,v3,v4,v5,v6,v7,v8,e1,e2,f1,f2,kw⟩:=ku
 replace zl:=zl.below k1.b
 clear hlin
 by_cases ho:ordL (lnP ps) (lnP qs)=0
 ·rw[ho]
  rw[if_neg (fun h=>h ho)]at hres
  go_wp2_with fail
  go_region_held3 (fun w'=>w'.cell? ⟨p,0,none⟩=some (.int .i64 i)∧w'.cell? ⟨p,1,none⟩=some (.int .i64 kd1)∧w'.cell? ⟨p,2,none⟩=some (.bool sd1)∧w'.cell? ⟨p,3,none⟩=some (.slice ad1 ld1 cd1)∧w'.cell? ⟨p,4,none⟩=some (.slice (some ⟨b1,o1,none⟩) np1 cp1)∧w'.cell? ⟨p,5,none⟩=some (.bool sk1)∧w'.cell? ⟨p,6,none⟩=some (.slice ak1 lk1 ck1)∧w'.cell? ⟨p,7,none⟩=some (.int .i64 vr1)∧w'.cell? ⟨p,8,none⟩=some (.slice ka1 kn1 kc1)∧w'.cell? ⟨q,0,none⟩=some (.int .i64 j)∧w'.cell? ⟨q,1,none⟩=some (.int .i64 kd2)∧w'.cell? ⟨q,2,none⟩=some (.bool sd2)∧w'.cell? ⟨q,3,none⟩=some (.slice ad2 ld2 cd2)∧w'.cell? ⟨q,4,none⟩=some (.slice (some ⟨b2,o2,none⟩) np2 cp2)∧w'.cell? ⟨q,5,none⟩=some (.bool sk2)∧w'.cell? ⟨q,6,none⟩=some (.slice ak2 lk2 ck2)∧w'.cell? ⟨q,7,none⟩=some (.int .i64 vr2)∧w'.cell? ⟨q,8,none⟩=some (.slice ka2 kn2 kc2)∧w'.cell? ⟨b1,o1+1,none⟩=some (.bool sx)∧w'.cell? ⟨b1,o1+2,none⟩=some (.slice ax lx cx)∧w'.cell? ⟨b2,o2+1,none⟩=some (.bool sy)∧w'.cell? ⟨b2,o2+2,none⟩=some (.slice ay ly cy)∧Gr w1 w') ((refine hS.out _ ?_;(repeat' (first|with_reducible exact Gr.refl _|with_reducible assumption|with_reducible refine gr_step (by with_reducible assumption) ?_|with_reducible refine gr_drew ?_|with_reducible refine gr_drewM ?_ _))))
   (first|(go_at_call 154;with_reducible refine Calls.mono (hF1.out _ (by(repeat' (first|with_reducible exact Gr.refl _|with_reducible assumption|with_reducible refine gr_step (by with_reducible assumption) ?_|with_reducible refine gr_drew ?_|with_reducible refine gr_drewM ?_ _)))) ?_;rintro e w3 ⟨rfl,hg3⟩)|(go_at_call 154;with_reducible refine Calls.mono (hF2.out _ (by(repeat' (first|with_reducible exact Gr.refl _|with_reducible assumption|with_reducible refine gr_step (by with_reducible assumption) ?_|with_reducible refine gr_drew ?_|with_reducible refine gr_drewM ?_ _)))) ?_;rintro e w4 ⟨rfl,hg4⟩))
  rename_i hH
  clear u0 u1 u2 u3 u4 u5 u6 u7 u8 v0 v1 v2 v3 v4 v5 v6 v7 v8 e1 e2 f1 f2 kw
  obtain⟨u0,u1,u2,u3,u4,u5,u6,u7,u8,v0,v1,v2,v3,v4,v5,v6,v7,v8,e1,e2,f1,f2,kw⟩:=hH
  replace zl:=zl.below kw.b
  have kk:=hide (k1.trans kw)
  clear hF1 hF2 hg3 hg4
  by_cases hneg:neg1 ps=neg1 qs
  ·have hb:(!(neg1 ps==neg1 qs))=false:=by rw[hneg];simp
   rw[if_neg (fun h=>h hneg)]at hres
   have l4:=zl.c4
   generalize cmpI (1*k) (1*m)=oq at*
   clear hZ hS
   generalize neg1 ps=g1 at*
   generalize neg1 qs=g2 at*
   rw[hb]
   go_wp2_with fail
   refine(hO.out _ kk.out).mono ?_
   rintro e w5 ⟨rfl,k5⟩
   replace kk:=hide (b0.out.trans (kk.out.trans k5))
   clear hO k5 u0 u1 u2 u3 u4 u5 u6 u7 u8 v0 v1 v2 v3 v4 v5 v6 v7 v8 e1 e2 f1 f2 kw l4 zl
   go_wp2
   go_ret
   exact⟨ret_int hres.out.symm,kk.out⟩
  have hb:(!(neg1 ps==neg1 qs))=true:=by simpa using hneg
  rw[if_pos hneg]at hres
  generalize neg1 ps=g1 at*
  generalize neg1 qs=g2 at*
  generalize cmpI (ps.headD (0,0)).2 (qs.headD (0,0)).2=oq at*
  rw[hb]
  have hS2:Hid (∀w',Gr _ w'→w'.cell? ⟨p,0,none⟩=some (.int .i64 i)∧w'.cell? ⟨p,1,none⟩=some (.int .i64 kd1)∧w'.cell? ⟨p,2,none⟩=some (.bool sd1)∧w'.cell? ⟨p,3,none⟩=some (.slice ad1 ld1 cd1)∧w'.cell? ⟨p,4,none⟩=some (.slice (some ⟨b1,o1,none⟩) np1 cp1)∧w'.cell? ⟨p,5,none⟩=some (.bool sk1)∧w'.cell? ⟨p,6,none⟩=some (.slice ak1 lk1 ck1)∧w'.cell? ⟨p,7,none⟩=some (.int .i64 vr1)∧w'.cell? ⟨p,8,none⟩=some (.slice ka1 kn1 kc1)∧w'.cell? ⟨q,0,none⟩=some (.int .i64 j)∧w'.cell? ⟨q,1,none⟩=some (.int .i64 kd2)∧w'.cell? ⟨q,2,none⟩=some (.bool sd2)∧w'.cell? ⟨q,3,none⟩=some (.slice ad2 ld2 cd2)∧w'.cell? ⟨q,4,none⟩=some (.slice (some ⟨b2,o2,none⟩) np2 cp2)∧w'.cell? ⟨q,5,none⟩=some (.bool sk2)∧w'.cell? ⟨q,6,none⟩=some (.slice ak2 lk2 ck2)∧w'.cell? ⟨q,7,none⟩=some (.int .i64 vr2)∧w'.cell? ⟨q,8,none⟩=some (.slice ka2 kn2 kc2)∧w'.cell? ⟨b1,o1+1,none⟩=some (.bool sx)∧w'.cell? ⟨b1,o1+2,none⟩=some (.slice ax lx cx)∧w'.cell? ⟨b2,o2+1,none⟩=some (.bool sy)∧w'.cell? ⟨b2,o2+2,none⟩=some (.slice ay ly cy)∧Gr w1 w'):=hide fun w' k=>hS.out w' (kw.trans k)
  clear hO zl u0 u1 u2 u3 u4 u5 u6 u7 u8 v0 v1 v2 v3 v4 v5 v6 v7 v8 e1 e2 f1 f2 kw hS
  go_wp2_with fail
  go_region_held3 (fun w'=>w'.cell? ⟨p,0,none⟩=some (.int .i64 i)∧w'.cell? ⟨p,1,none⟩=some (.int .i64 kd1)∧w'.cell? ⟨p,2,none⟩=some (.bool sd1)∧w'.cell? ⟨p,3,none⟩=some (.slice ad1 ld1 cd1)∧w'.cell? ⟨p,4,none⟩=some (.slice (some ⟨b1,o1,none⟩) np1 cp1)∧w'.cell? ⟨p,5,none⟩=some (.bool sk1)∧w'.cell? ⟨p,6,none⟩=some (.slice ak1 lk1 ck1)∧w'.cell? ⟨p,7,none⟩=some (.int .i64 vr1)∧w'.cell? ⟨p,8,none⟩=some (.slice ka1 kn1 kc1)∧w'.cell? ⟨q,0,none⟩=some (.int .i64 j)∧w'.cell? ⟨q,1,none⟩=some (.int .i64 kd2)∧w'.cell? ⟨q,2,none⟩=some (.bool sd2)∧w'.cell? ⟨q,3,none⟩=some (.slice ad2 ld2 cd2)∧w'.cell? ⟨q,4,none⟩=some (.slice (some ⟨b2,o2,none⟩) np2 cp2)∧w'.cell? ⟨q,5,none⟩=some (.bool sk2)∧w'.cell? ⟨q,6,none⟩=some (.slice ak2 lk2 ck2)∧w'.cell? ⟨q,7,none⟩=some (.int .i64 vr2)∧w'.cell? ⟨q,8,none⟩=some (.slice ka2 kn2 kc2)∧w'.cell? ⟨b1,o1+1,none⟩=some (.bool sx)∧w'.cell? ⟨b1,o1+2,none⟩=some (.slice ax lx cx)∧w'.cell? ⟨b2,o2+1,none⟩=some (.bool sy)∧w'.cell? ⟨b2,o2+2,none⟩=some (.slice ay ly cy)∧Gr w1 w') ((refine hS2.out _ ?_;(repeat' (first|with_reducible exact Gr.refl _|with_reducible assumption|with_reducible refine gr_step (by with_reducible assumption) ?_|with_reducible refine gr_drew ?_|with_reducible refine gr_drewM ?_ _))))
   (first|(go_at_call 49;refine Calls.mono (hZ.out _ (kk.out.trans (by(repeat' (first|with_reducible exact Gr.refl _|with_reducible assumption|with_reducible refine gr_step (by with_reducible assumption) ?_|with_reducible refine gr_drew ?_|with_reducible refine gr_drewM ?_ _))))) ?_;rintro e w5 ⟨rfl,hg5⟩))
  rename_i hH
  have kf:=hide (b0.out.trans (k1.trans hH.2.2.2.2.2.2.2.2.2.2.2.2.2.2.2.2.2.2.2.2.2.2))
  clear hH hS2 hZ kk
  go_wp2
  go_ret
  exact⟨ret_int hres.out.symm,kf.out⟩
 have ho2:(ordL (lnP ps) (lnP qs) !=0)=true:=by simpa using ho
 rw[if_pos ho]at hres
 generalize ordL (lnP ps) (lnP qs)=oo at*
 have kk:=hide (b0.out.trans k1)
 clear hF1 hF2 hZ hO hS u0 u1 u2 u3 u4 u5 u6 u7 u8 v0 v1 v2 v3 v4 v5 v6 v7 v8 e1 e2 f1 f2 kw zl
 go_wp2
 go_ret
 exact⟨ret_int hres.out.symm,kk.out⟩
theorem stay1O {w:World}{i j:Int}{x y:NR}{ps qs:List (Int × Int)}{k m:Int}{B bl:Nat}{kd dual idle rul:Int}(hL:LwB w bl kd dual idle rul 51)(hP:Pn w x.ap x.np ps B)(h0:ps≠ [])(hk:Zn w x.sk x.ak x.lk x.ck k)(hP2:Pn w y.ap y.np qs B)(h02:qs≠ [])(hm:Zn w y.sk y.ak y.lk y.ck m)(hn:x.np≤536870912)(hB:B≤1099511627776)(hl1:x.lk≤B)(hl2:y.lk≤B):
  Calls Tryz.prog 152 #[.agg (mE i x),.agg (mE j y),.pointer (some ⟨bl,0,none⟩)] w fun e w'=>e= .returned (.int .i64 (ordS (-1) ps k qs m))∧Gr w w':=by
 have b0:=(gr_alloc w (.cells (mE i x) 155)).trans (gr_alloc _ (.cells (mE j y) 155))
 have zx:M9B _ w.heap.size i x:=M9B.below (heap_alloc_new w (.cells (mE i x) 155)) (below_alloc _ (.cells (mE j y) 155))
 have zy:M9B ((w.alloc (.cells (mE i x) 155)).alloc (.cells (mE j y) 155)) (w.alloc (.cells (mE i x) 155)).heap.size j y:=heap_alloc_new _ _
 rw[show(w.alloc (.cells (mE i x) 155)).heap.size=w.heap.size+1 from by simp]at zy
 have hl0:=List.length_pos_iff.2 h0
 have hl02:=List.length_pos_iff.2 h02
 obtain⟨b1,o1,hap,hb1,sx,ax,lx,cx,e1,e2,hzx,hlx⟩: ∃b off,x.ap=some ⟨b,off,none⟩∧b<w.heap.size∧∃s a l c,w.cell? ⟨b,off+1,none⟩=some (.bool s)∧w.cell? ⟨b,off+2,none⟩=some (.slice a l c)∧Zn w s a l c (ps.headD (0,0)).2∧l≤B:=by
  rcases hP.2 with h2|⟨b,off,e,hb,h2⟩
  ·have:=hP.1;omega
  obtain⟨s,a,l,c,-,e1,e2,hz,hl,-⟩:=h2 0 hl0
  simp only[Nat.zero_mul,Nat.add_zero]at e1 e2
  refine⟨b,off,e,hb,s,a,l,c,e1,e2,?_,hl⟩
  cases ps with
  |nil=>exact absurd rfl h0
  |cons p t=>exact hz
 obtain⟨b2,o2,hap2,hb2,sy,ay,ly,cy,f1,f2,hzy,hly⟩: ∃b off,y.ap=some ⟨b,off,none⟩∧b<w.heap.size∧∃s a l c,w.cell? ⟨b,off+1,none⟩=some (.bool s)∧w.cell? ⟨b,off+2,none⟩=some (.slice a l c)∧Zn w s a l c (qs.headD (0,0)).2∧l≤B:=by
  rcases hP2.2 with h2|⟨b,off,e,hb,h2⟩
  ·have:=hP2.1;omega
  obtain⟨s,a,l,c,-,e1,e2,hz,hl,-⟩:=h2 0 hl02
  simp only[Nat.zero_mul,Nat.add_zero]at e1 e2
  refine⟨b,off,e,hb,s,a,l,c,e1,e2,?_,hl⟩
  cases qs with
  |nil=>exact absurd rfl h02
  |cons p t=>exact hz
 have hnx:0<x.np:=by have:=hP.1;omega
 have hny:0<y.np:=by have:=hP2.1;omega
 have hlin:=hide (lines_g (i:=i) (j:=j) (hP.below b0.b) h0 (hP2.below b0.b) h02 hn hB)
 have hF1:Hid (∀w',Gr ((w.alloc (.cells (mE i x) 155)).alloc (.cells (mE j y) 155)) w'→Calls Tryz.prog 154 #[.agg (mE i x)] w' fun e w''=>e= .returned (.bool (neg1 ps))∧Gr w' w''):=hide fun w' k=>falls_g (hP.below (b0.trans k).b) h0
 have hF2:Hid (∀w',Gr ((w.alloc (.cells (mE i x) 155)).alloc (.cells (mE j y) 155)) w'→Calls Tryz.prog 154 #[.agg (mE j y)] w' fun e w''=>e= .returned (.bool (neg1 qs))∧Gr w' w''):=hide fun w' k=>falls_g (hP2.below (b0.trans k).b) h02
 have hZ:Hid (∀w',Gr ((w.alloc (.cells (mE i x) 155)).alloc (.cells (mE j y) 155)) w'→Calls Tryz.prog 49 #[.agg #[.bool sx,.slice ax lx cx],.agg #[.bool sy,.slice ay ly cy]] w' fun e w''=>e= .returned (.int .i64 (cmpI (ps.headD (0,0)).2 (qs.headD (0,0)).2))∧Gr w' w''):=hide fun w' k=>zcmp_g (hzx.below (b0.trans k).b).zm (hzy.below (b0.trans k).b).zm o_m o_m
 have hO:Hid (∀w',Gr ((w.alloc (.cells (mE i x) 155)).alloc (.cells (mE j y) 155)) w'→Calls Tryz.prog 51 #[.agg #[.bool x.sk,.slice x.ak x.lk x.ck],.agg #[.bool y.sk,.slice y.ak y.lk y.ck]] w' fun e w''=>e= .returned (.int .i64 (cmpI ((-1)*k) ((-1)*m)))∧Gr w' w''):=hide fun w' kw=>falling_g (hk.below (b0.trans kw).b).zm (hm.below (b0.trans kw).b).zm o_m o_m
 replace e1:=(b0.b.cell (p:=⟨b1,_,none⟩) hb1).trans e1
 replace e2:=(b0.b.cell (p:=⟨b1,_,none⟩) hb1).trans e2
 replace f1:=(b0.b.cell (p:=⟨b2,_,none⟩) hb2).trans f1
 replace f2:=(b0.b.cell (p:=⟨b2,_,none⟩) hb2).trans f2
 replace hb1:=Nat.lt_of_lt_of_le hb1 b0.b.size
 replace hb2:=Nat.lt_of_lt_of_le hb2 b0.b.size
 have zl:=hL.below b0.b
 replace b0:=hide b0
 have hres:Hid (ordS (-1) ps k qs m=if ordL (lnP ps) (lnP qs)≠0 then ordL (lnP ps) (lnP qs)else if neg1 ps≠neg1 qs then cmpI (ps.headD (0,0)).2 (qs.headD (0,0)).2 else cmpI ((-1)*k) ((-1)*m)):=hide rfl
 clear hP hP2 hk hm hzx hzy hL hl0 hl02 hl1 hl2 hlx hly hn hB
 obtain⟨kd1,sd1,ad1,ld1,cd1,ap1,np1,cp1,sk1,ak1,lk1,ck1,vr1,ka1,kn1,kc1⟩:=x
 obtain⟨kd2,sd2,ad2,ld2,cd2,ap2,np2,cp2,sk2,ak2,lk2,ck2,vr2,ka2,kn2,kc2⟩:=y
 dsimp only at hap hap2 hnx hny
 subst hap hap2
 simp only[mE]at*
 go_enter Tryz.func152,Tryz.ntmps152
 go_wp2_with fail
 generalize (w.alloc (.cells #[.int .i64 i,.int .i64 kd1,.bool sd1,.slice ad1 ld1 cd1,.slice (some ⟨b1,o1,none⟩) np1 cp1,.bool sk1,.slice ak1 lk1 ck1,.int .i64 vr1,.slice ka1 kn1 kc1] 155)).alloc (.cells #[.int .i64 j,.int .i64 kd2,.bool sd2,.slice ad2 ld2 cd2,.slice (some ⟨b2,o2,none⟩) np2 cp2,.bool sk2,.slice ak2 lk2 ck2,.int .i64 vr2,.slice ka2 kn2 kc2] 155)=wB0 at*
 generalize w.heap.size=p at*
 generalize p+1=q at*
 refine hlin.out.mono ?_
 rintro e w1 ⟨rfl,k1⟩
 have hS:Hid (∀w',Gr w1 w'→w'.cell? ⟨p,0,none⟩=some (.int .i64 i)∧w'.cell? ⟨p,1,none⟩=some (.int .i64 kd1)∧w'.cell? ⟨p,2,none⟩=some (.bool sd1)∧w'.cell? ⟨p,3,none⟩=some (.slice ad1 ld1 cd1)∧w'.cell? ⟨p,4,none⟩=some (.slice (some ⟨b1,o1,none⟩) np1 cp1)∧w'.cell? ⟨p,5,none⟩=some (.bool sk1)∧w'.cell? ⟨p,6,none⟩=some (.slice ak1 lk1 ck1)∧w'.cell? ⟨p,7,none⟩=some (.int .i64 vr1)∧w'.cell? ⟨p,8,none⟩=some (.slice ka1 kn1 kc1)∧w'.cell? ⟨q,0,none⟩=some (.int .i64 j)∧w'.cell? ⟨q,1,none⟩=some (.int .i64 kd2)∧w'.cell? ⟨q,2,none⟩=some (.bool sd2)∧w'.cell? ⟨q,3,none⟩=some (.slice ad2 ld2 cd2)∧w'.cell? ⟨q,4,none⟩=some (.slice (some ⟨b2,o2,none⟩) np2 cp2)∧w'.cell? ⟨q,5,none⟩=some (.bool sk2)∧w'.cell? ⟨q,6,none⟩=some (.slice ak2 lk2 ck2)∧w'.cell? ⟨q,7,none⟩=some (.int .i64 vr2)∧w'.cell? ⟨q,8,none⟩=some (.slice ka2 kn2 kc2)∧w'.cell? ⟨b1,o1+1,none⟩=some (.bool sx)∧w'.cell? ⟨b1,o1+2,none⟩=some (.slice ax lx cx)∧w'.cell? ⟨b2,o2+1,none⟩=some (.bool sy)∧w'.cell? ⟨b2,o2+2,none⟩=some (.slice ay ly cy)∧Gr w1 w'):=hide fun w' k'=>by
  have k:=k1.trans k'
  exact⟨(k.b.cell (p:=⟨p,0,none⟩) zx.lt).trans (zx.c 0),(k.b.cell (p:=⟨p,1,none⟩) zx.lt).trans (zx.c 1),(k.b.cell (p:=⟨p,2,none⟩) zx.lt).trans (zx.c 2),(k.b.cell (p:=⟨p,3,none⟩) zx.lt).trans (zx.c 3),(k.b.cell (p:=⟨p,4,none⟩) zx.lt).trans (zx.c 4),(k.b.cell (p:=⟨p,5,none⟩) zx.lt).trans (zx.c 5),(k.b.cell (p:=⟨p,6,none⟩) zx.lt).trans (zx.c 6),(k.b.cell (p:=⟨p,7,none⟩) zx.lt).trans (zx.c 7),(k.b.cell (p:=⟨p,8,none⟩) zx.lt).trans (zx.c 8),(k.b.cell (p:=⟨q,0,none⟩) zy.lt).trans (zy.c 0),(k.b.cell (p:=⟨q,1,none⟩) zy.lt).trans (zy.c 1),(k.b.cell (p:=⟨q,2,none⟩) zy.lt).trans (zy.c 2),(k.b.cell (p:=⟨q,3,none⟩) zy.lt).trans (zy.c 3),(k.b.cell (p:=⟨q,4,none⟩) zy.lt).trans (zy.c 4),(k.b.cell (p:=⟨q,5,none⟩) zy.lt).trans (zy.c 5),(k.b.cell (p:=⟨q,6,none⟩) zy.lt).trans (zy.c 6),(k.b.cell (p:=⟨q,7,none⟩) zy.lt).trans (zy.c 7),(k.b.cell (p:=⟨q,8,none⟩) zy.lt).trans (zy.c 8),(k.b.cell (p:=⟨b1,o1+1,none⟩) hb1).trans e1,(k.b.cell (p:=⟨b1,o1+2,none⟩) hb1).trans e2,(k.b.cell (p:=⟨b2,o2+1,none⟩) hb2).trans f1,(k.b.cell (p:=⟨b2,o2+2,none⟩) hb2).trans f2,k'⟩
 have ku:=(hS.out w1 (Gr.refl _))
 obtain⟨u0,u1,u2,u3,u4,u5,u6,u7,u8,v0,v1,v2,v3,v4,v5,v6,v7,v8,e1,e2,f1,f2,kw⟩:=ku
 replace zl:=zl.below k1.b
 clear hlin
 by_cases ho:ordL (lnP ps) (lnP qs)=0
 ·rw[ho]
  rw[if_neg (fun h=>h ho)]at hres
  go_wp2_with fail
  go_region_held3 (fun w'=>w'.cell? ⟨p,0,none⟩=some (.int .i64 i)∧w'.cell? ⟨p,1,none⟩=some (.int .i64 kd1)∧w'.cell? ⟨p,2,none⟩=some (.bool sd1)∧w'.cell? ⟨p,3,none⟩=some (.slice ad1 ld1 cd1)∧w'.cell? ⟨p,4,none⟩=some (.slice (some ⟨b1,o1,none⟩) np1 cp1)∧w'.cell? ⟨p,5,none⟩=some (.bool sk1)∧w'.cell? ⟨p,6,none⟩=some (.slice ak1 lk1 ck1)∧w'.cell? ⟨p,7,none⟩=some (.int .i64 vr1)∧w'.cell? ⟨p,8,none⟩=some (.slice ka1 kn1 kc1)∧w'.cell? ⟨q,0,none⟩=some (.int .i64 j)∧w'.cell? ⟨q,1,none⟩=some (.int .i64 kd2)∧w'.cell? ⟨q,2,none⟩=some (.bool sd2)∧w'.cell? ⟨q,3,none⟩=some (.slice ad2 ld2 cd2)∧w'.cell? ⟨q,4,none⟩=some (.slice (some ⟨b2,o2,none⟩) np2 cp2)∧w'.cell? ⟨q,5,none⟩=some (.bool sk2)∧w'.cell? ⟨q,6,none⟩=some (.slice ak2 lk2 ck2)∧w'.cell? ⟨q,7,none⟩=some (.int .i64 vr2)∧w'.cell? ⟨q,8,none⟩=some (.slice ka2 kn2 kc2)∧w'.cell? ⟨b1,o1+1,none⟩=some (.bool sx)∧w'.cell? ⟨b1,o1+2,none⟩=some (.slice ax lx cx)∧w'.cell? ⟨b2,o2+1,none⟩=some (.bool sy)∧w'.cell? ⟨b2,o2+2,none⟩=some (.slice ay ly cy)∧Gr w1 w') ((refine hS.out _ ?_;(repeat' (first|with_reducible exact Gr.refl _|with_reducible assumption|with_reducible refine gr_step (by with_reducible assumption) ?_|with_reducible refine gr_drew ?_|with_reducible refine gr_drewM ?_ _))))
   (first|(go_at_call 154;with_reducible refine Calls.mono (hF1.out _ (by(repeat' (first|with_reducible exact Gr.refl _|with_reducible assumption|with_reducible refine gr_step (by with_reducible assumption) ?_|with_reducible refine gr_drew ?_|with_reducible refine gr_drewM ?_ _)))) ?_;rintro e w3 ⟨rfl,hg3⟩)|(go_at_call 154;with_reducible refine Calls.mono (hF2.out _ (by(repeat' (first|with_reducible exact Gr.refl _|with_reducible assumption|with_reducible refine gr_step (by with_reducible assumption) ?_|with_reducible refine gr_drew ?_|with_reducible refine gr_drewM ?_ _)))) ?_;rintro e w4 ⟨rfl,hg4⟩))
  rename_i hH
  clear u0 u1 u2 u3 u4 u5 u6 u7 u8 v0 v1 v2 v3 v4 v5 v6 v7 v8 e1 e2 f1 f2 kw
  obtain⟨u0,u1,u2,u3,u4,u5,u6,u7,u8,v0,v1,v2,v3,v4,v5,v6,v7,v8,e1,e2,f1,f2,kw⟩:=hH
  replace zl:=zl.below kw.b
  have kk:=hide (k1.trans kw)
  clear hF1 hF2 hg3 hg4
  by_cases hneg:neg1 ps=neg1 qs
  ·have hb:(!(neg1 ps==neg1 qs))=false:=by rw[hneg];simp
   rw[if_neg (fun h=>h hneg)]at hres
   have l4:=zl.c4
   generalize cmpI ((-1)*k) ((-1)*m)=oq at*
   clear hZ hS
   generalize neg1 ps=g1 at*
   generalize neg1 qs=g2 at*
   rw[hb]
   go_wp2_with fail
   refine(hO.out _ kk.out).mono ?_
   rintro e w5 ⟨rfl,k5⟩
   replace kk:=hide (b0.out.trans (kk.out.trans k5))
   clear hO k5 u0 u1 u2 u3 u4 u5 u6 u7 u8 v0 v1 v2 v3 v4 v5 v6 v7 v8 e1 e2 f1 f2 kw l4 zl
   go_wp2
   go_ret
   exact⟨ret_int hres.out.symm,kk.out⟩
  have hb:(!(neg1 ps==neg1 qs))=true:=by simpa using hneg
  rw[if_pos hneg]at hres
  generalize neg1 ps=g1 at*
  generalize neg1 qs=g2 at*
  generalize cmpI (ps.headD (0,0)).2 (qs.headD (0,0)).2=oq at*
  rw[hb]
  have hS2:Hid (∀w',Gr _ w'→w'.cell? ⟨p,0,none⟩=some (.int .i64 i)∧w'.cell? ⟨p,1,none⟩=some (.int .i64 kd1)∧w'.cell? ⟨p,2,none⟩=some (.bool sd1)∧w'.cell? ⟨p,3,none⟩=some (.slice ad1 ld1 cd1)∧w'.cell? ⟨p,4,none⟩=some (.slice (some ⟨b1,o1,none⟩) np1 cp1)∧w'.cell? ⟨p,5,none⟩=some (.bool sk1)∧w'.cell? ⟨p,6,none⟩=some (.slice ak1 lk1 ck1)∧w'.cell? ⟨p,7,none⟩=some (.int .i64 vr1)∧w'.cell? ⟨p,8,none⟩=some (.slice ka1 kn1 kc1)∧w'.cell? ⟨q,0,none⟩=some (.int .i64 j)∧w'.cell? ⟨q,1,none⟩=some (.int .i64 kd2)∧w'.cell? ⟨q,2,none⟩=some (.bool sd2)∧w'.cell? ⟨q,3,none⟩=some (.slice ad2 ld2 cd2)∧w'.cell? ⟨q,4,none⟩=some (.slice (some ⟨b2,o2,none⟩) np2 cp2)∧w'.cell? ⟨q,5,none⟩=some (.bool sk2)∧w'.cell? ⟨q,6,none⟩=some (.slice ak2 lk2 ck2)∧w'.cell? ⟨q,7,none⟩=some (.int .i64 vr2)∧w'.cell? ⟨q,8,none⟩=some (.slice ka2 kn2 kc2)∧w'.cell? ⟨b1,o1+1,none⟩=some (.bool sx)∧w'.cell? ⟨b1,o1+2,none⟩=some (.slice ax lx cx)∧w'.cell? ⟨b2,o2+1,none⟩=some (.bool sy)∧w'.cell? ⟨b2,o2+2,none⟩=some (.slice ay ly cy)∧Gr w1 w'):=hide fun w' k=>hS.out w' (kw.trans k)
  clear hO zl u0 u1 u2 u3 u4 u5 u6 u7 u8 v0 v1 v2 v3 v4 v5 v6 v7 v8 e1 e2 f1 f2 kw hS
  go_wp2_with fail
  go_region_held3 (fun w'=>w'.cell? ⟨p,0,none⟩=some (.int .i64 i)∧w'.cell? ⟨p,1,none⟩=some (.int .i64 kd1)∧w'.cell? ⟨p,2,none⟩=some (.bool sd1)∧w'.cell? ⟨p,3,none⟩=some (.slice ad1 ld1 cd1)∧w'.cell? ⟨p,4,none⟩=some (.slice (some ⟨b1,o1,none⟩) np1 cp1)∧w'.cell? ⟨p,5,none⟩=some (.bool sk1)∧w'.cell? ⟨p,6,none⟩=some (.slice ak1 lk1 ck1)∧w'.cell? ⟨p,7,none⟩=some (.int .i64 vr1)∧w'.cell? ⟨p,8,none⟩=some (.slice ka1 kn1 kc1)∧w'.cell? ⟨q,0,none⟩=some (.int .i64 j)∧w'.cell? ⟨q,1,none⟩=some (.int .i64 kd2)∧w'.cell? ⟨q,2,none⟩=some (.bool sd2)∧w'.cell? ⟨q,3,none⟩=some (.slice ad2 ld2 cd2)∧w'.cell? ⟨q,4,none⟩=some (.slice (some ⟨b2,o2,none⟩) np2 cp2)∧w'.cell? ⟨q,5,none⟩=some (.bool sk2)∧w'.cell? ⟨q,6,none⟩=some (.slice ak2 lk2 ck2)∧w'.cell? ⟨q,7,none⟩=some (.int .i64 vr2)∧w'.cell? ⟨q,8,none⟩=some (.slice ka2 kn2 kc2)∧w'.cell? ⟨b1,o1+1,none⟩=some (.bool sx)∧w'.cell? ⟨b1,o1+2,none⟩=some (.slice ax lx cx)∧w'.cell? ⟨b2,o2+1,none⟩=some (.bool sy)∧w'.cell? ⟨b2,o2+2,none⟩=some (.slice ay ly cy)∧Gr w1 w') ((refine hS2.out _ ?_;(repeat' (first|with_reducible exact Gr.refl _|with_reducible assumption|with_reducible refine gr_step (by with_reducible assumption) ?_|with_reducible refine gr_drew ?_|with_reducible refine gr_drewM ?_ _))))
   (first|(go_at_call 49;refine Calls.mono (hZ.out _ (kk.out.trans (by(repeat' (first|with_reducible exact Gr.refl _|with_reducible assumption|with_reducible refine gr_step (by with_reducible assumption) ?_|with_reducible refine gr_drew ?_|with_reducible refine gr_drewM ?_ _))))) ?_;rintro e w5 ⟨rfl,hg5⟩))
  rename_i hH
  have kf:=hide (b0.out.trans (k1.trans hH.2.2.2.2.2.2.2.2.2.2.2.2.2.2.2.2.2.2.2.2.2.2))
  clear hH hS2 hZ kk
  go_wp2
  go_ret
  exact⟨ret_int hres.out.symm,kf.out⟩
 have ho2:(ordL (lnP ps) (lnP qs) !=0)=true:=by simpa using ho
 rw[if_pos ho]at hres
 generalize ordL (lnP ps) (lnP qs)=oo at*
 have kk:=hide (b0.out.trans k1)
 clear hF1 hF2 hZ hO hS u0 u1 u2 u3 u4 u5 u6 u7 u8 v0 v1 v2 v3 v4 v5 v6 v7 v8 e1 e2 f1 f2 kw zl
 go_wp2
 go_ret
 exact⟨ret_int hres.out.symm,kk.out⟩
end Nt
end Go.Proofs.YtllfelooahplhaaGreatDoor
