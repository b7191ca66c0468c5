/-
 Several texts in one: GA,GB,GH.
-/
import Derived.Test.YtepdckgfolkjjaaGreatDoorS27
import Derived.Test.YtepdckgfolkjjaaGreatDoorS23
namespace Go.Proofs.YtepdckgfolkjjaaGreatDoor.Fx
open Go.RowKit Go.Sort Go.Shelf
open Tm At
open Low (FLE)

set_option maxRecDepth 100000 in
set_option maxHeartbeats 6400000 in
theorem divi_n {Fw : Nat} {w : World} {kd : Int} {sd : Bool} {ad : Option Addr} {ld cd : Nat} {ap : Option Addr} {np cp : Nat} {sk : Bool} {ak : Option Addr} {lk ck : Nat} {d k : Int} {ps : List (Int × Int)} {B : Nat} {al ne : Int}
  (hF : FLE Fw w) (hd : Zm w sd ad ld cd d) (hld : ld≤B) (hP : Pr w ap np ps B) (hk : Zm w sk ak lk ck k) (hlk : lk≤B) (hn : np≤262144) (hB : B + np + 1≤4194000) (hal : al = if kd = 3 then 1 else 0) (hne : ne = if kd = 3 then 0 else 1) (hd0 : d ≠ 0) :
  Calls Tryz.prog 38 #[.agg #[.int .i64 kd,.bool sd,.slice ad ld cd,.slice ap np cp,.bool sk,.slice ak lk ck],.int .i64 al,.int .i64 ne] w fun e w' => ∃ qs,Std qs∧(∀ v,csum qs v = csum ps v)∧AEF Fw w' e (divF kd d qs k) (B + np + 16) w.heap.size∧Below w.heap.size w w':=by
 have eg : ∀ args w,(callFunc 89 args).run Tryz.prog w = .ok (.enter 89 args) w:=enters_of Tryz.func89 (by kernel_rfl) rfl
 have eg2 : ∀ args w,(callFunc 90 args).run Tryz.prog w = .ok (.enter 90 args) w:=enters_of Tryz.func90 (by kernel_rfl) rfl
 replace eg:=hide eg
 replace eg2:=hide eg2
 replace hal:=hide hal
 replace hne:=hide hne
 go_enter Tryz.func38,Tryz.ntmps38
 go_wp2_with fail
 have x:=(AB.new w kd sd ad ld cd ap np cp sk ak lk ck).below (below_alloc _ (.cells #[.int .i64 0,.bool false,.slice none 0 0,.slice none 0 0,.bool false,.slice none 0 0] 29))
 have y:=AB.new (w.alloc (.cells #[.int .i64 kd,.bool sd,.slice ad ld cd,.slice ap np cp,.bool sk,.slice ak lk ck] 29)) 0 false none 0 0 none 0 0 false none 0 0
 rw [show (w.alloc (.cells #[.int .i64 kd,.bool sd,.slice ad ld cd,.slice ap np cp,.bool sk,.slice ak lk ck] 29)).heap.size = w.heap.size + 1 from by simp] at y
 have b0 : Below w.heap.size w ((w.alloc (.cells #[.int .i64 kd,.bool sd,.slice ad ld cd,.slice ap np cp,.bool sk,.slice ak lk ck] 29)).alloc (.cells #[.int .i64 0,.bool false,.slice none 0 0,.slice none 0 0,.bool false,.slice none 0 0] 29)):=below_alloc' (below_alloc _ _) _
 generalize (w.alloc (.cells #[.int .i64 kd,.bool sd,.slice ad ld cd,.slice ap np cp,.bool sk,.slice ak lk ck] 29)).alloc (.cells #[.int .i64 0,.bool false,.slice none 0 0,.slice none 0 0,.bool false,.slice none 0 0] 29) = wb at *
 replace hP:=hP.below b0
 replace hd:=hd.below b0
 replace hk:=hk.below b0
 generalize hp : w.heap.size = p at *
 replace b0 : Hid (Below w.heap.size w wb):=hp ▸ b0
 have hpr : Hid (w.heap.size = p∧p < p + 1):=⟨hp,by omega⟩
 clear hp
 generalize p + 1 = r at *
 refine (zsign_n hd (by omega)).mono ?_
 rintro e w1 ⟨rfl,k1⟩
 have hsg : (cmpI d 0 == 0) = false:=by rw [beq_eq_false_iff_ne]; unfold cmpI; split <;> (try split) <;> omega
 generalize cmpI d 0 = cz at *
 replace x:=x.below k1
 replace y:=y.below k1
 replace hP:=hP.below k1
 replace hd:=hd.below k1
 replace hk:=hk.below k1
 replace k1:=hide (grow_step k1 b0.out)
 clear b0
 have u1:=x.c1
 have u2:=x.c2
 go_wp2_with fail
 refine (abs_n hd (by omega)).mono ?_
 rintro e w2 ⟨s2,a2,l2,c2,rfl,hd2,k2,hl2⟩
 have hpb : p < w2.heap.size:=(x.below k2).lt
 have hrb : r < w2.heap.size:=(y.below k2).lt
 have z2:=zb_new w2 s2 a2 l2 c2
 have kz:=below_alloc w2 (.cells #[.bool s2,.slice a2 l2 c2] 24)
 replace x:=(x.below k2).below kz
 replace y:=(y.below k2).below kz
 replace hP:=(hP.below k2).below kz
 replace hk:=(hk.below k2).below kz
 replace hd2:=hd2.below kz
 replace k2:=hide (grow_step kz (grow_step k2 k1.out))
 clear u1 u2 hd k1 kz hsg
 generalize hb2 : w2.heap.size = b2 at *
 go_wp2_with fail
 generalize w2.alloc (.cells #[.bool s2,.slice a2 l2 c2] 24) = wD at *
 have hb2D:=z2.lt
 have hD0 : (0 : Int) < ((d.natAbs : Nat) : Int):=by omega
 refine Code.wp_mono (Q:=fun e a' W' => e = .normal∧∃ b9 adA nA cpA sA aA lA cA adB nB cpB sB aB lB cB qs,a' = ⟨List.toArray ((.agg #[.int .i64 kd,.bool sd,.slice ad ld cd,.slice ap np cp,.bool sk,.slice ak lk ck] : Value) :: (.int .i64 al : Value) :: (.int .i64 ne : Value) :: (.pointer (some ⟨p,0,none⟩) : Value) :: (undef : Value) :: (undef : Value) :: (.pointer (some ⟨r,0,none⟩) : Value) :: (.int .i64 0 : Value) :: (.pointer (some ⟨b2,0,none⟩) : Value) :: (.pointer (some ⟨b9,0,none⟩) : Value) :: (undef : Value) :: (undef : Value) :: (.pointer (some ⟨p,1,none⟩) : Value) :: (.agg #[.bool sd,.slice ad ld cd] : Value) :: (.int .i64 cz : Value) :: (.bool false : Value) :: (undef : Value) :: (.pointer (some ⟨p,1,none⟩) : Value) :: (.agg #[.bool sd,.slice ad ld cd] : Value) :: (.agg #[.bool s2,.slice a2 l2 c2] : Value) :: (.pointer (some ⟨p,3,none⟩) : Value) :: (.agg #[.slice ap np cp,.bool sk,.slice ak lk ck] : Value) :: (.agg #[.slice adA nA cpA,.bool sA,.slice aA lA cA] : Value) :: (.agg #[.bool s2,.slice a2 l2 c2] : Value) :: (.agg #[.slice adB nB cpB,.bool sB,.slice aB lB cB] : Value) :: (undef : Value) :: (undef : Value) :: (undef : Value) :: (undef : Value) :: (undef : Value) :: (undef : Value) :: (undef : Value) :: (undef : Value) :: (undef : Value) :: (undef : Value) :: (undef : Value) :: (undef : Value) :: (undef : Value) :: (undef : Value) :: (undef : Value) :: (undef : Value) :: (undef : Value) :: (undef : Value) :: (undef : Value) :: (undef : Value) :: (undef : Value) :: (undef : Value) :: (undef : Value) :: (undef : Value) :: (undef : Value) :: (undef : Value) :: (undef : Value) :: (undef : Value) :: (undef : Value) :: (undef : Value) :: (undef : Value) :: (undef : Value) :: (undef : Value) :: (undef : Value) :: (undef : Value) :: (undef : Value) :: (undef : Value) :: []),[]⟩∧TB W' b9 adB nB cpB sB aB lB cB∧Pn W' adB nB (eachP (fun x => x % ((d.natAbs : Nat) : Int)) qs) l2∧Zn W' sB aB lB cB (k % ((d.natAbs : Nat) : Int))∧lB≤l2∧nB≤np∧(∀ b off,adB = some ⟨b,off,none⟩→wD.heap.size≤b)∧Std qs∧(∀ v,csum qs v = csum ps v)∧wD.heap.size≤b9∧Below wD.heap.size wD W') ?_ ?_
 rotate_left
 ·refine wp_region_held_drew (S:=(fun w' => w'.cell? ⟨p,3,none⟩ = some (.slice ap np cp)∧w'.cell? ⟨p,4,none⟩ = some (.bool sk)∧w'.cell? ⟨p,5,none⟩ = some (.slice ak lk ck)∧w'.cell? ⟨b2,0,none⟩ = some (.bool s2)∧w'.cell? ⟨b2,1,none⟩ = some (.slice a2 l2 c2)∧Below wD.heap.size wD w')) (by kernel_rfl) (aq5 x z2 (grow_drew (Below.refl _ _))) (fun hHeld => ?_)
  show wpAnyH _ _ _ _ _ 7 _ _ _
  have kW:=grow_drew (Below.refl wD.heap.size wD)
  generalize wD.drew = wQ at *
  refine wpAnyH_take (i:=0) (oi:=⟨some 20,_,_,_,_,_⟩) (v:=?_) rfl (by kernel_rfl) (by kernel_rfl) (by kernel_rfl) (fun _ _ _ h => by cases h.1) (Or.inl ⟨by rfl,?_⟩) (by assumption) ?_
  rotate_left
  ·intro wq hSw; (try dsimp only at hSw); go_simp; (try with_reducible rfl)
  (try simp only [pz])
  refine wpAnyH_take (i:=1) (oi:=⟨some 21,_,_,_,_,_⟩) (v:=?_) rfl (by kernel_rfl) (by kernel_rfl) (by kernel_rfl) (fun _ _ _ h => by cases h.1) (Or.inl ⟨by rfl,?_⟩) (by assumption) ?_
  rotate_left
  ·intro wq hSw; (try dsimp only at hSw); go_simp; (try with_reducible rfl)
  (try simp only [pz])
  refine wpAnyH_take (i:=3) (oi:=⟨some 23,_,_,_,_,_⟩) (v:=?_) rfl (by kernel_rfl) (by kernel_rfl) (by kernel_rfl) (fun _ _ _ h => by cases h.1) (Or.inl ⟨by rfl,?_⟩) (by assumption) ?_
  rotate_left
  ·intro wq hSw; (try dsimp only at hSw); go_simp; (try with_reducible rfl)
  (try simp only [pz])
  refine wpAnyH_ready (rs:=[2,5]) (by kernel_rfl) (by simp) ?_
  refine AllReadyH.cons (o:=⟨some 22,_,_,_,_,_⟩) rfl (fun K hK => ?_) ?_
  ·go_simp
   go_at_call 55; refine Calls.mono (tnorm_n (hP.below kW) (hk.below kW) hlk (by omega)) ?_; rintro e wA ⟨adA,nA,cpA,sA,aA,lA,cA,rs,rfl,hTN,hnA,hStd,hcs⟩; have kA:=hTN.below; have hPA:=hTN.pn; have hZA:=hTN.zn; have hlA:=hTN.le; clear hTN; generalize rs.map Raw.p = qs at *
   have kW:=grow_step kA kW
   (try go_wp2_with fail)
   refine hK.out _ _ ?_ ?_
   ·(try dsimp only); exact aq5 x z2 kW
   clear hK K hHeld; intro hHeld
   (try simp only [pz])
   refine wpAnyH_ready (rs:=[4,5]) (by kernel_rfl) (by simp) ?_
   refine AllReadyH.cons (o:=⟨some 24,_,_,_,_,_⟩) rfl (fun K hK => ?_) ?_
   ·go_simp
    go_at_call 88; refine Calls.mono (modulo_n (Fw:=0) (B:=B + np + 1) (Nat.zero_le _) hPA.pr hZA.zm hlA (hd2.zm.below kW) hD0 (by omega) (by omega) (by omega)) ?_; rintro e wB ⟨adB,nB,cpB,sB,aB,lB,cB,rfl,hPB,hZB,hlB,hnB,hnewB,kB, -⟩; replace hZB:=hZB.zn; have hnew : ∀ b off,adB = some ⟨b,off,none⟩→wD.heap.size≤b:=fun b off e => Nat.le_trans kW.size (hnewB b off e)
    have hPA:=hPA.below kB
    have hZA:=hZA.below kB
    have kW:=grow_step kB kW
    (try go_wp2_with fail)
    refine hK.out _ _ ?_ ?_
    ·(try dsimp only); exact aq5 x z2 kW
    clear hK K hHeld; intro hHeld
    (try simp only [pz])
    refine wpAnyH_ready (rs:=[5]) (by kernel_rfl) (by simp) ?_
    refine AllReadyH.cons (o:=⟨some 9,_,_,_,_,_⟩) rfl (fun K hK => ?_) ?_
    ·have kL:=below_alloc (wB) (.cells #[.slice none 0 0,.bool false,.slice none 0 0] 27)
     have hPA:=hPA.below kL
     have hZA:=hZA.below kL
     have hPB:=hPB.below kL
     have hZB:=hZB.below kL
     have z9 : TB ((wB).alloc (.cells #[.slice none 0 0,.bool false,.slice none 0 0] 27)) (wB.heap.size) none 0 0 false none 0 0:=tb_new _ _ _ _ _ _ _ _
     have hbz9 : wD.heap.size≤wB.heap.size:=kW.size
     have kW:=grow_step kL kW
     go_simp
     refine hK.out _ _ ?_ ?_
     ·(try dsimp only); exact aq5 x z2 kW
     clear hK K hHeld; intro hHeld
     (try simp only [pz])
     generalize (wB).alloc (.cells #[.slice none 0 0,.bool false,.slice none 0 0] 27) = wLz9 at *
     refine wpAnyH_ready (rs:=[6]) (by kernel_rfl) (by simp) ?_
     refine AllReadyH.cons (o:=⟨none,_,_,_,_,_⟩) rfl (fun K hK => ?_) ?_
     ·skip
      have f0:=z9.c0
      have f1:=z9.c1
      have f2:=z9.c2
      have f3:=z9.f 0
      have f4:=z9.f 1
      have f5:=z9.f 2
      go_simp
      have gS:=tb_set wLz9 (wB.heap.size) (.slice adB nB cpB) (.bool sB) (.slice aB lB cB)
      have hPB:=hPB.tb z9 gS
      have hZB:=hZB.grownU gS (tb_noU z9)
      have z9:=tb_fin z9 adB nB cpB sB aB lB cB
      have kW:=((kW.setCell (p:=⟨wB.heap.size,0,none⟩) hbz9 (.slice adB nB cpB)).setCell (p:=⟨wB.heap.size,1,none⟩) hbz9 (.bool sB)).setCell (p:=⟨wB.heap.size,2,none⟩) hbz9 (.slice aB lB cB)
      refine hK.out _ _ ?_ ?_
      ·(try dsimp only); exact aq5 x z2 kW
      clear hK K hHeld; intro hHeld
      (try simp only [pz])
      refine wpAnyH_done (by kernel_rfl) ?_ _
      exact ⟨rfl,_,adA,nA,cpA,sA,aA,lA,cA,adB,nB,cpB,sB,aB,lB,cB,qs,rfl,z9,hPB,hZB,hlB,Nat.le_trans hnB hnA,hnew,hStd,hcs,hbz9,kW⟩
     exact AllReadyH.nil
    exact AllReadyH.nil
   refine AllReadyH.cons (o:=⟨some 9,_,_,_,_,_⟩) rfl (fun K hK => ?_) ?_
   ·have kL:=below_alloc (wA) (.cells #[.slice none 0 0,.bool false,.slice none 0 0] 27)
    have hPA:=hPA.below kL
    have hZA:=hZA.below kL
    have z9 : TB ((wA).alloc (.cells #[.slice none 0 0,.bool false,.slice none 0 0] 27)) (wA.heap.size) none 0 0 false none 0 0:=tb_new _ _ _ _ _ _ _ _
    have hbz9 : wD.heap.size≤wA.heap.size:=kW.size
    have kW:=grow_step kL kW
    go_simp
    refine hK.out _ _ ?_ ?_
    ·(try dsimp only); exact aq5 x z2 kW
    clear hK K hHeld; intro hHeld
    (try simp only [pz])
    generalize (wA).alloc (.cells #[.slice none 0 0,.bool false,.slice none 0 0] 27) = wLz9 at *
    refine wpAnyH_ready (rs:=[4]) (by kernel_rfl) (by simp) ?_
    refine AllReadyH.cons (o:=⟨some 24,_,_,_,_,_⟩) rfl (fun K hK => ?_) ?_
    ·go_simp
     go_at_call 88; refine Calls.mono (modulo_n (Fw:=0) (B:=B + np + 1) (Nat.zero_le _) hPA.pr hZA.zm hlA (hd2.zm.below kW) hD0 (by omega) (by omega) (by omega)) ?_; rintro e wB ⟨adB,nB,cpB,sB,aB,lB,cB,rfl,hPB,hZB,hlB,hnB,hnewB,kB, -⟩; replace hZB:=hZB.zn; have hnew : ∀ b off,adB = some ⟨b,off,none⟩→wD.heap.size≤b:=fun b off e => Nat.le_trans kW.size (hnewB b off e)
     have hPA:=hPA.below kB
     have hZA:=hZA.below kB
     have z9:=z9.below kB
     have kW:=grow_step kB kW
     (try go_wp2_with fail)
     refine hK.out _ _ ?_ ?_
     ·(try dsimp only); exact aq5 x z2 kW
     clear hK K hHeld; intro hHeld
     (try simp only [pz])
     refine wpAnyH_ready (rs:=[6]) (by kernel_rfl) (by simp) ?_
     refine AllReadyH.cons (o:=⟨none,_,_,_,_,_⟩) rfl (fun K hK => ?_) ?_
     ·skip
      have f0:=z9.c0
      have f1:=z9.c1
      have f2:=z9.c2
      have f3:=z9.f 0
      have f4:=z9.f 1
      have f5:=z9.f 2
      go_simp
      have gS:=tb_set wB (wA.heap.size) (.slice adB nB cpB) (.bool sB) (.slice aB lB cB)
      have hPB:=hPB.tb z9 gS
      have hZB:=hZB.grownU gS (tb_noU z9)
      have z9:=tb_fin z9 adB nB cpB sB aB lB cB
      have kW:=((kW.setCell (p:=⟨wA.heap.size,0,none⟩) hbz9 (.slice adB nB cpB)).setCell (p:=⟨wA.heap.size,1,none⟩) hbz9 (.bool sB)).setCell (p:=⟨wA.heap.size,2,none⟩) hbz9 (.slice aB lB cB)
      refine hK.out _ _ ?_ ?_
      ·(try dsimp only); exact aq5 x z2 kW
      clear hK K hHeld; intro hHeld
      (try simp only [pz])
      refine wpAnyH_done (by kernel_rfl) ?_ _
      exact ⟨rfl,_,adA,nA,cpA,sA,aA,lA,cA,adB,nB,cpB,sB,aB,lB,cB,qs,rfl,z9,hPB,hZB,hlB,Nat.le_trans hnB hnA,hnew,hStd,hcs,hbz9,kW⟩
     exact AllReadyH.nil
    exact AllReadyH.nil
   exact AllReadyH.nil
  refine AllReadyH.cons (o:=⟨some 9,_,_,_,_,_⟩) rfl (fun K hK => ?_) ?_
  ·have kL:=below_alloc (wQ) (.cells #[.slice none 0 0,.bool false,.slice none 0 0] 27)
   have z9 : TB ((wQ).alloc (.cells #[.slice none 0 0,.bool false,.slice none 0 0] 27)) (wQ.heap.size) none 0 0 false none 0 0:=tb_new _ _ _ _ _ _ _ _
   have hbz9 : wD.heap.size≤wQ.heap.size:=kW.size
   have kW:=grow_step kL kW
   go_simp
   refine hK.out _ _ ?_ ?_
   ·(try dsimp only); exact aq5 x z2 kW
   clear hK K hHeld; intro hHeld
   (try simp only [pz])
   generalize (wQ).alloc (.cells #[.slice none 0 0,.bool false,.slice none 0 0] 27) = wLz9 at *
   refine wpAnyH_ready (rs:=[2]) (by kernel_rfl) (by simp) ?_
   refine AllReadyH.cons (o:=⟨some 22,_,_,_,_,_⟩) rfl (fun K hK => ?_) ?_
   ·go_simp
    go_at_call 55; refine Calls.mono (tnorm_n (hP.below kW) (hk.below kW) hlk (by omega)) ?_; rintro e wA ⟨adA,nA,cpA,sA,aA,lA,cA,rs,rfl,hTN,hnA,hStd,hcs⟩; have kA:=hTN.below; have hPA:=hTN.pn; have hZA:=hTN.zn; have hlA:=hTN.le; clear hTN; generalize rs.map Raw.p = qs at *
    have z9:=z9.below kA
    have kW:=grow_step kA kW
    (try go_wp2_with fail)
    refine hK.out _ _ ?_ ?_
    ·(try dsimp only); exact aq5 x z2 kW
    clear hK K hHeld; intro hHeld
    (try simp only [pz])
    refine wpAnyH_ready (rs:=[4]) (by kernel_rfl) (by simp) ?_
    refine AllReadyH.cons (o:=⟨some 24,_,_,_,_,_⟩) rfl (fun K hK => ?_) ?_
    ·go_simp
     go_at_call 88; refine Calls.mono (modulo_n (Fw:=0) (B:=B + np + 1) (Nat.zero_le _) hPA.pr hZA.zm hlA (hd2.zm.below kW) hD0 (by omega) (by omega) (by omega)) ?_; rintro e wB ⟨adB,nB,cpB,sB,aB,lB,cB,rfl,hPB,hZB,hlB,hnB,hnewB,kB, -⟩; replace hZB:=hZB.zn; have hnew : ∀ b off,adB = some ⟨b,off,none⟩→wD.heap.size≤b:=fun b off e => Nat.le_trans kW.size (hnewB b off e)
     have z9:=z9.below kB
     have hPA:=hPA.below kB
     have hZA:=hZA.below kB
     have kW:=grow_step kB kW
     (try go_wp2_with fail)
     refine hK.out _ _ ?_ ?_
     ·(try dsimp only); exact aq5 x z2 kW
     clear hK K hHeld; intro hHeld
     (try simp only [pz])
     refine wpAnyH_ready (rs:=[6]) (by kernel_rfl) (by simp) ?_
     refine AllReadyH.cons (o:=⟨none,_,_,_,_,_⟩) rfl (fun K hK => ?_) ?_
     ·skip
      have f0:=z9.c0
      have f1:=z9.c1
      have f2:=z9.c2
      have f3:=z9.f 0
      have f4:=z9.f 1
      have f5:=z9.f 2
      go_simp
      have gS:=tb_set wB (wQ.heap.size) (.slice adB nB cpB) (.bool sB) (.slice aB lB cB)
      have hPB:=hPB.tb z9 gS
      have hZB:=hZB.grownU gS (tb_noU z9)
      have z9:=tb_fin z9 adB nB cpB sB aB lB cB
      have kW:=((kW.setCell (p:=⟨wQ.heap.size,0,none⟩) hbz9 (.slice adB nB cpB)).setCell (p:=⟨wQ.heap.size,1,none⟩) hbz9 (.bool sB)).setCell (p:=⟨wQ.heap.size,2,none⟩) hbz9 (.slice aB lB cB)
      refine hK.out _ _ ?_ ?_
      ·(try dsimp only); exact aq5 x z2 kW
      clear hK K hHeld; intro hHeld
      (try simp only [pz])
      refine wpAnyH_done (by kernel_rfl) ?_ _
      exact ⟨rfl,_,adA,nA,cpA,sA,aA,lA,cA,adB,nB,cpB,sB,aB,lB,cB,qs,rfl,z9,hPB,hZB,hlB,Nat.le_trans hnB hnA,hnew,hStd,hcs,hbz9,kW⟩
     exact AllReadyH.nil
    exact AllReadyH.nil
   exact AllReadyH.nil
  exact AllReadyH.nil
 rintro e a' W4 ⟨rfl,b9,adA,nA,cpA,sA,aA,lA,cA,adB,nB,cpB,sB,aB,lB,cB,qs,rfl,z9,hPB,hZB,hlB,hnB,hnew,hStd,hcs,hb9,k4⟩
 replace x:=x.below k4
 replace y:=y.below k4
 replace z2:=z2.below k4
 replace hd2:=hd2.below k4
 have K4:=hide (grow_step k4 k2.out)
 have hb29 : b2 < b9:=by have h1:=hb9; have h2:=(show b2 < wD.heap.size from hb2D); omega
 clear hP hk k2 k4
 have u0:=z9.c0
 have u1:=z9.c1
 have u2:=z9.c2
 have u3:=z2.c0
 have u4:=z2.c1
 go_wp2_with fail
 have hrow : (W4.alloc (.cells #[.bool s2,.slice a2 l2 c2] 24)).ownsRow W4.heap.size 24 2 (.slice (some ⟨W4.heap.size,0,none⟩) 1 1) 1 ([(⟨0,s2,a2,l2,c2,((d.natAbs : Nat) : Int)⟩ : Raw)].flatMap encN) :=
  ⟨rfl,.inr ⟨W4.heap.size,1,_,rfl,Nat.le_refl _,heap_alloc_new W4 _,Nat.le_refl _,by decide,rfl,rfl⟩⟩
 refine (common_n (w0:=W4) (below_alloc W4 _) hPB.pr hrow rfl (fun x hx => by rw [List.mem_singleton.1 hx]; exact ⟨hd2.zm,Nat.le_refl _⟩) (by omega) (by omega) (by omega)).mono ?_
 rintro e W5 ⟨sG,aG,lG,cG,rfl,hG,hlG,k5⟩
 rw [show gcdZ ([(⟨0,s2,a2,l2,c2,((d.natAbs : Nat) : Int)⟩ : Raw)].map Raw.z) = d.natAbs from by simp [gcdZ]] at hG
 have zG:=zb_new W5 sG aG lG cG
 have kz:=below_alloc W5 (.cells #[.bool sG,.slice aG lG cG] 24)
 have kk:=grow_step kz k5
 have hb9W : b9 < W5.heap.size:=(z9.below k5).lt
 replace x:=x.below kk
 replace y:=y.below kk
 replace z2:=z2.below kk
 replace z9:=z9.below kk
 replace hd2:=hd2.below kk
 replace hPB:=hPB.below kk
 replace hZB:=hZB.below kk
 replace hG:=hG.below kz
 replace K4:=hide (grow_step kk K4.out)
 clear u0 u1 u2 u3 u4 hrow k5 kz kk
 have u1:=z9.c1
 have u2:=z9.c2
 have u3:=zG.c0
 have u4:=zG.c1
 go_wp2_with fail
 generalize W5.alloc (.cells #[.bool sG,.slice aG lG cG] 24) = W6 at *
 generalize W5.heap.size = bG at *
 generalize hts : eachP (fun x => x % ((d.natAbs : Nat) : Int)) qs = ts at *
 generalize hkD : k % ((d.natAbs : Nat) : Int) = kD at *
 have hGp : 0 < gcdL d.natAbs ts:=gcdL_pos (.inl (by omega))
 generalize hGG : gcdL d.natAbs ts = G at *
 have hdF : Hid (divF kd d qs k = divG kd d.natAbs ts kD):=(show _ = _ by unfold divF; rw [hts,hkD])
 replace hts:=hide hts
 replace hkD:=hide hkD
 replace hGG:=hide hGG
 have hlG9 : lG≤1099511627776:=by
  have h1 : (1 + nB) * l2≤262145 * 4194000:=Nat.mul_le_mul (by omega) (by omega)
  omega
 clear hlG
 refine (divides_n hG.zm hZB.zm hlG9 (by omega) (by omega)).mono ?_
 rintro e W7 ⟨rfl,k7⟩
 replace x:=x.below k7
 replace y:=y.below k7
 replace z2:=z2.below k7
 replace z9:=z9.below k7
 replace zG:=zG.below k7
 replace hd2:=hd2.below k7
 replace hPB:=hPB.below k7
 replace hZB:=hZB.below k7
 replace hG:=hG.below k7
 replace K4:=hide (grow_step k7 K4.out)
 clear u1 u2 u3 u4 k7
 by_cases hdv : ((G : Nat) : Int) ∣ kD
 ·rw [show decide (((G : Nat) : Int) ∣ kD) = true from by simp [hdv]]
  replace hdv:=hide hdv
  have u1:=z2.c0
  have u2:=z2.c1
  have u3:=zG.c0
  have u4:=zG.c1
  go_wp2_with fail
  refine (quotient_n (Fw:=Fw) (hF.le K4.out) hd2.zm hG.zm (by omega) hlG9 (by omega)).mono ?_
  rintro e W8 ⟨s3,a3,l3,c3,rfl,hd3,k8,hl3⟩
  replace x:=x.below k8
  replace y:=y.below k8
  replace z2:=z2.below k8
  replace z9:=z9.below k8
  replace zG:=zG.below k8
  replace hPB:=hPB.below k8
  replace hZB:=hZB.below k8
  replace hG:=hG.below k8
  replace K4:=hide (grow_step k8 K4.out)
  clear u1 u2 u3 u4 k8 hd2
  have v1:=z2.c0
  have v2:=z2.c1
  have v3:=z2.f 0
  have v4:=z2.f 1
  have g8:=zb2_set W8 b2 (.bool s3) (.slice a3 l3 c3)
  have hU:=zb2_noU z2
  have x8 : AB _ p kd sd ad ld cd ap np cp sk ak lk ck:=(g8.block p x.lt (by simp; omega)).trans x
  have y8 : AB _ r 0 false none 0 0 none 0 0 false none 0 0:=(g8.block r y.lt (by simp; omega)).trans y
  have z98 : TB _ b9 adB nB cpB sB aB lB cB:=(g8.block b9 z9.lt (by simp; omega)).trans z9
  have zG8 : ZB _ bG sG aG lG cG:=(g8.block bG zG.lt (by simp; omega)).trans zG
  have hd38:=Fresh.zb_zn z2 hd3 s3 a3 l3 c3
  have z28:=zb_fin z2 s3 a3 l3 c3
  have hPB8:=hPB.away (fun b off e => by have:=hnew b off e; omega) g8 hU
  have hZB8:=hZB.grownU g8 hU
  have hG8:=hG.grownU g8 hU
  have hwb2 : w.heap.size≤b2:=by have:=hpr.out; omega
  have K8:=hide (below_grown K4.out g8 hwb2)
  clear x y z2 z9 zG hd3 hPB hZB hG K4 hU g8
  have HH:=hide (And.intro x8 (And.intro y8 (And.intro z98 (And.intro zG8 (And.intro hd38 (And.intro z28 (And.intro hPB8 (And.intro hZB8 hG8))))))))
  have u1:=z28.c0
  have u2:=z28.c1
  clear x8 y8 z98 zG8 hd38 z28 hPB8 hZB8 hG8
  go_wp2_with fail
  obtain ⟨x,y,z9,zG,hd3,z2,hPB,hZB,hG⟩:=HH.out
  clear HH u1 u2
  generalize (W8.setCell ⟨b2,0,none⟩ (.bool s3)).setCell ⟨b2,1,none⟩ (.slice a3 l3 c3) = W9 at *
  generalize hDD : ((d.natAbs : Nat) : Int) / ((G : Nat) : Int) = D1 at *
  replace hDD:=hide hDD
  by_cases hD1 : D1 = 1
  ·have hcm : Hid (cmpI D1 1 = 0):=(show _ = _ by unfold cmpI; rw [if_neg (by omega),if_neg (by omega)])
   go_region_held3 (fun w' => w'.cell? ⟨b2,0,none⟩ = some (.bool s3)∧w'.cell? ⟨b2,1,none⟩ = some (.slice a3 l3 c3)∧Below W9.heap.size W9 w')
    ((refine zq2 z2 ?_; (with_reducible repeat' first | exact Below.refl _ _ | assumption | refine grow_step (by assumption) ?_ | refine grow_drew ?_ | refine grow_alloc ?_ _ | refine grow_drewN ?_ _)))
    (first | (go_at_call 21; with_reducible refine (zof_n 1 (by decide) (by decide) _).mono ?_; rintro e w' ⟨s4,a4,l4,c4,rfl,z4,hg,hl4⟩) | (go_at_call 40; with_reducible refine (zcmp_n (Zn.zm (Zn.below hd3.zn gw)) (Zn.zm (Zn.below z4 gw)) (by omega) (by omega)).mono ?_; rintro e w'' ⟨rfl,hg2⟩; rw [hcm.out]))
   rename_i hH
   have kH:=hH.2.2
   have hfm : Hid (divF kd d qs k = ⟨al,0,[],0⟩):=(show _ = _ by rw [hdF.out]; unfold divG; rw [hGG.out,if_neg (not_not_intro hdv.out),if_pos (hDD.out.trans hD1),hal.out])
   replace y:=y.below kH
   have K9:=hide (grow_step kH K8.out)
   clear hH kH hg hg2 hd3 hPB hZB hG x z9 zG z2 K8
   have e0:=y.c0
   have e1:=y.c1
   have e2:=y.c2
   have e3:=y.c3
   have e4:=y.c4
   have e5:=y.c5
   have f0:=y.f 0
   have f1:=y.f 1
   have f2:=y.f 2
   have f3:=y.f 3
   have f4:=y.f 4
   have f5:=y.f 5
   have g6:=ab_set w'' r (.int .i64 al) (.bool false) (.slice none 0 0) (.slice none 0 0) (.bool false) (.slice none 0 0)
   have kf:=hide (below_grown K9.out g6 (by have:=hpr.out; omega))
   have hfin:=hide (ab_fin y al false none 0 0 none 0 0 false none 0 0)
   replace hStd:=hide hStd
   replace hcs:=hide hcs
   go_wp2
   refine bodyPost_ret (results_ct rfl _ _ r 29 _ (0,0) _ rfl hfin.out Tryz.underlying29 rfl (by kernel_rfl)) rfl ?_
   refine ⟨qs,hStd.out,hcs.out,?_,kf.out⟩
   rw [hfm.out]
   exact ⟨false,none,0,0,none,0,0,false,none,0,0,by simp,zn_zero _,by omega,pn_nil _ _ _,by omega,zn_zero _,by omega,(fun _ _ h => by cases h),by omega,.inl ⟨rfl,rfl⟩,nw_nil⟩
  ·obtain ⟨cc,hcm,hc0⟩ : ∃ cc,Hid (cmpI D1 1 = cc)∧(cc == 0) = false:=⟨_,rfl,by rw [beq_eq_false_iff_ne]; unfold cmpI; split <;> (try split) <;> omega⟩
   go_region_held3 (fun w' => w'.cell? ⟨b2,0,none⟩ = some (.bool s3)∧w'.cell? ⟨b2,1,none⟩ = some (.slice a3 l3 c3)∧Below W9.heap.size W9 w')
    ((refine zq2 z2 ?_; (with_reducible repeat' first | exact Below.refl _ _ | assumption | refine grow_step (by assumption) ?_ | refine grow_drew ?_ | refine grow_alloc ?_ _ | refine grow_drewN ?_ _)))
    (first | (go_at_call 21; with_reducible refine (zof_n 1 (by decide) (by decide) _).mono ?_; rintro e w' ⟨s4,a4,l4,c4,rfl,z4,hg,hl4⟩) | (go_at_call 40; with_reducible refine (zcmp_n (Zn.zm (Zn.below hd3.zn gw)) (Zn.zm (Zn.below z4 gw)) (by omega) (by omega)).mono ?_; rintro e w'' ⟨rfl,hg2⟩; rw [hcm.out]))
   rename_i hH
   have kH:=hH.2.2
   have hfm : Hid (divF kd d qs k = fstF kd D1 (eachP (fun x => x / ((G : Nat) : Int)) ts) (kD / ((G : Nat) : Int))):=(show _ = _ by rw [hdF.out]; unfold divG; rw [hGG.out,if_neg (not_not_intro hdv.out),hDD.out,if_neg hD1])
   replace x:=x.below kH
   replace y:=y.below kH
   replace z2:=z2.below kH
   replace z9:=z9.below kH
   replace zG:=zG.below kH
   replace hd3:=hd3.below kH
   replace hPB:=hPB.below kH
   replace hZB:=hZB.below kH
   replace hG:=hG.below kH
   have K9:=hide (grow_step kH K8.out)
   clear hH kH hg hg2 K8
   have u0:=z9.c0
   have u1:=z9.c1
   have u2:=z9.c2
   go_wp2_with fail
   generalize w'' = WA at *
   have hFA : Hid (FLE Fw WA):=hF.le K9.out
   refine (each_n (Fw:=Fw) (F:=fun x => x / ((G : Nat) : Int)) (C:=l2 + 3) (B:=l2) eg.out (fun w' s9 a9 l9 c9 z9 hb9 hz9 hl9 => (divi1_n (hFA.out.le hb9) (zG.below hb9) hz9 (hG.zm.below hb9) (by omega) hlG9 (by omega)).mono fun _ _ ⟨s',a',l',c',he,h1,h2,h3⟩ => ⟨s',a',l',c',he,h1,h2,by omega⟩) hFA.out hPB.pr hZB.zm hlB (by omega) (by omega)).mono ?_
   rintro e WB ⟨ad5,n5,cp5,s5,a5,l5,c5,rfl,hP5,hz5,hl5,hn5,hnew5,k5,hNW5⟩
   replace hz5 : ZW Fw WB ad5 n5 cp5 s5 a5 l5 c5 _:=⟨hz5,hNW5⟩
   clear hNW5
   have hWAs : b9 < WA.heap.size:=z9.lt
   have hrA : r < WA.heap.size:=y.lt
   have hbGA : bG < WA.heap.size:=zG.lt
   replace x:=x.below k5
   replace y:=y.below k5
   replace z2:=z2.below k5
   replace z9:=z9.below k5
   replace hd3:=hd3.below k5
   have KB:=hide (grow_step k5 K9.out)
   clear u0 u1 u2 k5 K9 hPB hZB hG zG
   have v0:=z9.c0
   have v1:=z9.c1
   have v2:=z9.c2
   have v3:=z9.f 0
   have v4:=z9.f 1
   have v5:=z9.f 2
   have g8:=tb_set WB b9 (.slice ad5 n5 cp5) (.bool s5) (.slice a5 l5 c5)
   have x8 : AB _ p kd sd ad ld cd ap np cp sk ak lk ck:=(g8.block p x.lt (by simp; omega)).trans x
   have y8 : AB _ r 0 false none 0 0 none 0 0 false none 0 0:=(g8.block r y.lt (by simp; omega)).trans y
   have z28 : ZB _ b2 s3 a3 l3 c3:=(g8.block b2 z2.lt (by simp; omega)).trans z2
   have hP8:=hP5.tb z9 g8
   have hz8:=hz5.tb z9 g8
   have hd8:=zn_tb hd3 z9 g8
   have z98:=tb_fin z9 ad5 n5 cp5 s5 a5 l5 c5
   have hwb9 : w.heap.size≤b9:=by have:=hpr.out; omega
   have KC:=hide (below_grown KB.out g8 hwb9)
   have HH:=hide (And.intro x8 (And.intro y8 (And.intro z28 (And.intro hP8 (And.intro hz8 (And.intro hd8 z98))))))
   clear x y z2 z9 hd3 hP5 hz5 KB g8 x8 y8 z28 hP8 hz8 hd8 z98
   go_wp2_with fail
   obtain ⟨x,y,z2,hP5,hz5,hd3,z9⟩:=HH.out
   clear HH v0 v1 v2 v3 v4 v5
   generalize ((WB.setCell ⟨b9,0,none⟩ (.slice ad5 n5 cp5)).setCell ⟨b9,1,none⟩ (.bool s5)).setCell ⟨b9,2,none⟩ (.slice a5 l5 c5) = WC at *
   have hFC : Hid (Fw≤WC.heap.size):=hF.le KC.out
   have hD1p : 0 < D1:=by
    have h1 : G ∣ d.natAbs:=by have:=(gcdL_dvd d.natAbs ts).1; rwa [hGG.out] at this
    have h2:=Nat.div_pos (Nat.le_of_dvd (by omega) h1) hGp
    rw [← hDD.out]
    exact_mod_cast h2
   generalize hus : eachP (fun x => x / ((G : Nat) : Int)) ts = us at *
   generalize hkG : kD / ((G : Nat) : Int) = kG at *
   refine Code.wp_mono (Q:=fun e a' W' => e = .normal∧∃ bO adN nN cpN sN aN lN cN adO nO cpO sO aO lO cO,a' = ⟨List.toArray ((.agg #[.int .i64 kd,.bool sd,.slice ad ld cd,.slice ap np cp,.bool sk,.slice ak lk ck] : Value) :: (.int .i64 al : Value) :: (.int .i64 ne : Value) :: (.pointer (some ⟨p,0,none⟩) : Value) :: (undef : Value) :: (undef : Value) :: (.pointer (some ⟨r,0,none⟩) : Value) :: (.int .i64 0 : Value) :: (.pointer (some ⟨b2,0,none⟩) : Value) :: (.pointer (some ⟨b9,0,none⟩) : Value) :: (.pointer (some ⟨bG,0,none⟩) : Value) :: (.pointer (some ⟨bO,0,none⟩) : Value) :: (.pointer (some ⟨p,1,none⟩) : Value) :: (.agg #[.bool sd,.slice ad ld cd] : Value) :: (.int .i64 cz : Value) :: (.bool false : Value) :: (undef : Value) :: (.pointer (some ⟨p,1,none⟩) : Value) :: (.agg #[.bool sd,.slice ad ld cd] : Value) :: (.agg #[.bool s2,.slice a2 l2 c2] : Value) :: (.pointer (some ⟨p,3,none⟩) : Value) :: (.agg #[.slice ap np cp,.bool sk,.slice ak lk ck] : Value) :: (.agg #[.slice adA nA cpA,.bool sA,.slice aA lA cA] : Value) :: (.agg #[.bool s2,.slice a2 l2 c2] : Value) :: (.agg #[.slice adB nB cpB,.bool sB,.slice aB lB cB] : Value) :: (.agg #[.slice adB nB cpB,.bool sB,.slice aB lB cB] : Value) :: (.agg #[.bool s2,.slice a2 l2 c2] : Value) :: (.slice (some ⟨W4.heap.size,0,none⟩) 1 1 : Value) :: (.agg #[.bool sG,.slice aG lG cG] : Value) :: (.agg #[.bool sG,.slice aG lG cG] : Value) :: (.pointer (some ⟨b9,1,none⟩) : Value) :: (.agg #[.bool sB,.slice aB lB cB] : Value) :: (.bool true : Value) :: (.bool false : Value) :: (undef : Value) :: (undef : Value) :: (.agg #[.bool s2,.slice a2 l2 c2] : Value) :: (.agg #[.bool sG,.slice aG lG cG] : Value) :: (.agg #[.bool s3,.slice a3 l3 c3] : Value) :: (.agg #[.bool s3,.slice a3 l3 c3] : Value) :: (.agg #[.bool s4,.slice a4 l4 c4] : Value) :: (.int .i64 cc : Value) :: (.bool false : Value) :: (undef : Value) :: (undef : Value) :: (.agg #[.slice adB nB cpB,.bool sB,.slice aB lB cB] : Value) :: (.func (.func 89) #[] #[.pointer (some ⟨bG,0,none⟩)] : Value) :: (.agg #[.slice ad5 n5 cp5,.bool s5,.slice a5 l5 c5] : Value) :: (.agg #[.slice ad5 n5 cp5,.bool s5,.slice a5 l5 c5] : Value) :: (.agg #[.slice adN nN cpN,.bool sN,.slice aN lN cN] : Value) :: (.agg #[.bool s3,.slice a3 l3 c3] : Value) :: (.agg #[.slice adO nO cpO,.bool sO,.slice aO lO cO] : Value) :: (undef : Value) :: (undef : Value) :: (undef : Value) :: (undef : Value) :: (undef : Value) :: (undef : Value) :: (undef : Value) :: (undef : Value) :: (undef : Value) :: (undef : Value) :: []),[]⟩∧TB W' bO adO nO cpO sO aO lO cO∧Pn W' adO nO (oppP D1 us) l3∧ZW Fw W' adO nO cpO sO aO lO cO ((-kG) % D1)∧lO≤l3∧nO≤n5∧(∀ b off,adO = some ⟨b,off,none⟩→WC.heap.size≤b)∧WC.heap.size≤bO∧Below WC.heap.size WC W') ?_ ?_
   rotate_left
   ·refine wp_region_held_drew (S:=(fun w' => w'.cell? ⟨b9,0,none⟩ = some (.slice ad5 n5 cp5)∧w'.cell? ⟨b9,1,none⟩ = some (.bool s5)∧w'.cell? ⟨b9,2,none⟩ = some (.slice a5 l5 c5)∧w'.cell? ⟨b2,0,none⟩ = some (.bool s3)∧w'.cell? ⟨b2,1,none⟩ = some (.slice a3 l3 c3)∧Below WC.heap.size WC w')) (by kernel_rfl) (tq5 z9 z2 (grow_drew (Below.refl _ _))) (fun hHeld => ?_)
    show wpAnyH _ _ _ _ _ 6 _ _ _
    have kW:=grow_drew (Below.refl WC.heap.size WC)
    generalize WC.drew = wQ at *
    refine wpAnyH_take (i:=0) (oi:=⟨some 48,_,_,_,_,_⟩) (v:=?_) rfl (by kernel_rfl) (by kernel_rfl) (by kernel_rfl) (fun _ _ _ h => by cases h.1) (Or.inl ⟨by rfl,?_⟩) (by assumption) ?_
    rotate_left
    ·intro wq hSw; (try dsimp only at hSw); go_simp; (try with_reducible rfl)
    (try simp only [pz])
    refine wpAnyH_take (i:=2) (oi:=⟨some 50,_,_,_,_,_⟩) (v:=?_) rfl (by kernel_rfl) (by kernel_rfl) (by kernel_rfl) (fun _ _ _ h => by cases h.1) (Or.inl ⟨by rfl,?_⟩) (by assumption) ?_
    rotate_left
    ·intro wq hSw; (try dsimp only at hSw); go_simp; (try with_reducible rfl)
    (try simp only [pz])
    refine wpAnyH_ready (rs:=[1,4]) (by kernel_rfl) (by simp) ?_
    refine AllReadyH.cons (o:=⟨some 49,_,_,_,_,_⟩) rfl (fun K hK => ?_) ?_
    ·go_simp
     go_at_call 62; refine Calls.mono (each_n (Fw:=Fw) (F:=fun x => -x) (C:=l2 + 4) (B:=l2 + 3) eg2.out (fun w' s9 a9 l9 c9 z9 hb9 hz9 hl9 => (neg_x (Nat.le_trans hFC.out (Nat.le_trans kW.size hb9.size)) hz9 (by omega)).mono fun _ _ ⟨s',a',l',c',he,h1,h2,h3⟩ => ⟨s',a',l',c',he,h1,h2,by omega⟩) (Nat.le_trans hFC.out kW.size) (hP5.pr.below kW) (hz5.zm.below kW) hl5 (by omega) (by omega)) ?_; rintro e wA ⟨adN,nN,cpN,sN,aN,lN,cN,rfl,hPA,hZA,hlA,hnA, -,kA, -⟩; replace hZA:=hZA.zn
     have kW:=grow_step kA kW
     (try go_wp2_with fail)
     refine hK.out _ _ ?_ ?_
     ·(try dsimp only); exact tq5 z9 z2 kW
     clear hK K hHeld; intro hHeld
     (try simp only [pz])
     refine wpAnyH_ready (rs:=[3,4]) (by kernel_rfl) (by simp) ?_
     refine AllReadyH.cons (o:=⟨some 51,_,_,_,_,_⟩) rfl (fun K hK => ?_) ?_
     ·go_simp
      go_at_call 88; refine Calls.mono (modulo_n (Fw:=Fw) (B:=l2 + 4) (Nat.le_trans hFC.out kW.size) hPA.pr hZA.zm hlA (hd3.zn.zm.below kW) hD1p (by omega) (by omega) (by omega)) ?_; rintro e wB ⟨adO,nO,cpO,sO,aO,lO,cO,rfl,hPB,hZB,hlB2,hnB2,hnewB,kB,hNB⟩; have hZB : ZW Fw wB adO nO cpO sO aO lO cO _:=⟨hZB,hNB⟩; have hnewO : ∀ b off,adO = some ⟨b,off,none⟩→WC.heap.size≤b:=fun b off e => Nat.le_trans kW.size (hnewB b off e)
      have hPA:=hPA.below kB
      have hZA:=hZA.below kB
      have kW:=grow_step kB kW
      (try go_wp2_with fail)
      refine hK.out _ _ ?_ ?_
      ·(try dsimp only); exact tq5 z9 z2 kW
      clear hK K hHeld; intro hHeld
      (try simp only [pz])
      refine wpAnyH_ready (rs:=[4]) (by kernel_rfl) (by simp) ?_
      refine AllReadyH.cons (o:=⟨some 11,_,_,_,_,_⟩) rfl (fun K hK => ?_) ?_
      ·have kL:=below_alloc (wB) (.cells #[.slice none 0 0,.bool false,.slice none 0 0] 27)
       have hPA:=hPA.below kL
       have hZA:=hZA.below kL
       have hPB:=hPB.below kL
       have hZB:=hZB.below kL
       have zO : TB ((wB).alloc (.cells #[.slice none 0 0,.bool false,.slice none 0 0] 27)) (wB.heap.size) none 0 0 false none 0 0:=tb_new _ _ _ _ _ _ _ _
       have hbzO : WC.heap.size≤wB.heap.size:=kW.size
       have kW:=grow_step kL kW
       go_simp
       refine hK.out _ _ ?_ ?_
       ·(try dsimp only); exact tq5 z9 z2 kW
       clear hK K hHeld; intro hHeld
       (try simp only [pz])
       generalize (wB).alloc (.cells #[.slice none 0 0,.bool false,.slice none 0 0] 27) = wLzO at *
       refine wpAnyH_ready (rs:=[5]) (by kernel_rfl) (by simp) ?_
       refine AllReadyH.cons (o:=⟨none,_,_,_,_,_⟩) rfl (fun K hK => ?_) ?_
       ·skip
        have f0:=zO.c0
        have f1:=zO.c1
        have f2:=zO.c2
        have f3:=zO.f 0
        have f4:=zO.f 1
        have f5:=zO.f 2
        go_simp
        have gS:=tb_set wLzO (wB.heap.size) (.slice adO nO cpO) (.bool sO) (.slice aO lO cO)
        have hPB:=hPB.tb zO gS
        have hZB:=hZB.tb zO gS
        have zO:=tb_fin zO adO nO cpO sO aO lO cO
        have kW:=((kW.setCell (p:=⟨wB.heap.size,0,none⟩) hbzO (.slice adO nO cpO)).setCell (p:=⟨wB.heap.size,1,none⟩) hbzO (.bool sO)).setCell (p:=⟨wB.heap.size,2,none⟩) hbzO (.slice aO lO cO)
        refine hK.out _ _ ?_ ?_
        ·(try dsimp only); exact tq5 z9 z2 kW
        clear hK K hHeld; intro hHeld
        (try simp only [pz])
        refine wpAnyH_done (by kernel_rfl) ?_ _
        exact ⟨rfl,_,adN,nN,cpN,sN,aN,lN,cN,adO,nO,cpO,sO,aO,lO,cO,rfl,zO,hPB,hZB,hlB2,Nat.le_trans hnB2 hnA,hnewO,hbzO,kW⟩
       exact AllReadyH.nil
      exact AllReadyH.nil
     refine AllReadyH.cons (o:=⟨some 11,_,_,_,_,_⟩) rfl (fun K hK => ?_) ?_
     ·have kL:=below_alloc (wA) (.cells #[.slice none 0 0,.bool false,.slice none 0 0] 27)
      have hPA:=hPA.below kL
      have hZA:=hZA.below kL
      have zO : TB ((wA).alloc (.cells #[.slice none 0 0,.bool false,.slice none 0 0] 27)) (wA.heap.size) none 0 0 false none 0 0:=tb_new _ _ _ _ _ _ _ _
      have hbzO : WC.heap.size≤wA.heap.size:=kW.size
      have kW:=grow_step kL kW
      go_simp
      refine hK.out _ _ ?_ ?_
      ·(try dsimp only); exact tq5 z9 z2 kW
      clear hK K hHeld; intro hHeld
      (try simp only [pz])
      generalize (wA).alloc (.cells #[.slice none 0 0,.bool false,.slice none 0 0] 27) = wLzO at *
      refine wpAnyH_ready (rs:=[3]) (by kernel_rfl) (by simp) ?_
      refine AllReadyH.cons (o:=⟨some 51,_,_,_,_,_⟩) rfl (fun K hK => ?_) ?_
      ·go_simp
       go_at_call 88; refine Calls.mono (modulo_n (Fw:=Fw) (B:=l2 + 4) (Nat.le_trans hFC.out kW.size) hPA.pr hZA.zm hlA (hd3.zn.zm.below kW) hD1p (by omega) (by omega) (by omega)) ?_; rintro e wB ⟨adO,nO,cpO,sO,aO,lO,cO,rfl,hPB,hZB,hlB2,hnB2,hnewB,kB,hNB⟩; have hZB : ZW Fw wB adO nO cpO sO aO lO cO _:=⟨hZB,hNB⟩; have hnewO : ∀ b off,adO = some ⟨b,off,none⟩→WC.heap.size≤b:=fun b off e => Nat.le_trans kW.size (hnewB b off e)
       have hPA:=hPA.below kB
       have hZA:=hZA.below kB
       have zO:=zO.below kB
       have kW:=grow_step kB kW
       (try go_wp2_with fail)
       refine hK.out _ _ ?_ ?_
       ·(try dsimp only); exact tq5 z9 z2 kW
       clear hK K hHeld; intro hHeld
       (try simp only [pz])
       refine wpAnyH_ready (rs:=[5]) (by kernel_rfl) (by simp) ?_
       refine AllReadyH.cons (o:=⟨none,_,_,_,_,_⟩) rfl (fun K hK => ?_) ?_
       ·skip
        have f0:=zO.c0
        have f1:=zO.c1
        have f2:=zO.c2
        have f3:=zO.f 0
        have f4:=zO.f 1
        have f5:=zO.f 2
        go_simp
        have gS:=tb_set wB (wA.heap.size) (.slice adO nO cpO) (.bool sO) (.slice aO lO cO)
        have hPB:=hPB.tb zO gS
        have hZB:=hZB.tb zO gS
        have zO:=tb_fin zO adO nO cpO sO aO lO cO
        have kW:=((kW.setCell (p:=⟨wA.heap.size,0,none⟩) hbzO (.slice adO nO cpO)).setCell (p:=⟨wA.heap.size,1,none⟩) hbzO (.bool sO)).setCell (p:=⟨wA.heap.size,2,none⟩) hbzO (.slice aO lO cO)
        refine hK.out _ _ ?_ ?_
        ·(try dsimp only); exact tq5 z9 z2 kW
        clear hK K hHeld; intro hHeld
        (try simp only [pz])
        refine wpAnyH_done (by kernel_rfl) ?_ _
        exact ⟨rfl,_,adN,nN,cpN,sN,aN,lN,cN,adO,nO,cpO,sO,aO,lO,cO,rfl,zO,hPB,hZB,hlB2,Nat.le_trans hnB2 hnA,hnewO,hbzO,kW⟩
       exact AllReadyH.nil
      exact AllReadyH.nil
     exact AllReadyH.nil
    refine AllReadyH.cons (o:=⟨some 11,_,_,_,_,_⟩) rfl (fun K hK => ?_) ?_
    ·have kL:=below_alloc (wQ) (.cells #[.slice none 0 0,.bool false,.slice none 0 0] 27)
     have zO : TB ((wQ).alloc (.cells #[.slice none 0 0,.bool false,.slice none 0 0] 27)) (wQ.heap.size) none 0 0 false none 0 0:=tb_new _ _ _ _ _ _ _ _
     have hbzO : WC.heap.size≤wQ.heap.size:=kW.size
     have kW:=grow_step kL kW
     go_simp
     refine hK.out _ _ ?_ ?_
     ·(try dsimp only); exact tq5 z9 z2 kW
     clear hK K hHeld; intro hHeld
     (try simp only [pz])
     generalize (wQ).alloc (.cells #[.slice none 0 0,.bool false,.slice none 0 0] 27) = wLzO at *
     refine wpAnyH_ready (rs:=[1]) (by kernel_rfl) (by simp) ?_
     refine AllReadyH.cons (o:=⟨some 49,_,_,_,_,_⟩) rfl (fun K hK => ?_) ?_
     ·go_simp
      go_at_call 62; refine Calls.mono (each_n (Fw:=Fw) (F:=fun x => -x) (C:=l2 + 4) (B:=l2 + 3) eg2.out (fun w' s9 a9 l9 c9 z9 hb9 hz9 hl9 => (neg_x (Nat.le_trans hFC.out (Nat.le_trans kW.size hb9.size)) hz9 (by omega)).mono fun _ _ ⟨s',a',l',c',he,h1,h2,h3⟩ => ⟨s',a',l',c',he,h1,h2,by omega⟩) (Nat.le_trans hFC.out kW.size) (hP5.pr.below kW) (hz5.zm.below kW) hl5 (by omega) (by omega)) ?_; rintro e wA ⟨adN,nN,cpN,sN,aN,lN,cN,rfl,hPA,hZA,hlA,hnA, -,kA, -⟩; replace hZA:=hZA.zn
      have zO:=zO.below kA
      have kW:=grow_step kA kW
      (try go_wp2_with fail)
      refine hK.out _ _ ?_ ?_
      ·(try dsimp only); exact tq5 z9 z2 kW
      clear hK K hHeld; intro hHeld
      (try simp only [pz])
      refine wpAnyH_ready (rs:=[3]) (by kernel_rfl) (by simp) ?_
      refine AllReadyH.cons (o:=⟨some 51,_,_,_,_,_⟩) rfl (fun K hK => ?_) ?_
      ·go_simp
       go_at_call 88; refine Calls.mono (modulo_n (Fw:=Fw) (B:=l2 + 4) (Nat.le_trans hFC.out kW.size) hPA.pr hZA.zm hlA (hd3.zn.zm.below kW) hD1p (by omega) (by omega) (by omega)) ?_; rintro e wB ⟨adO,nO,cpO,sO,aO,lO,cO,rfl,hPB,hZB,hlB2,hnB2,hnewB,kB,hNB⟩; have hZB : ZW Fw wB adO nO cpO sO aO lO cO _:=⟨hZB,hNB⟩; have hnewO : ∀ b off,adO = some ⟨b,off,none⟩→WC.heap.size≤b:=fun b off e => Nat.le_trans kW.size (hnewB b off e)
       have zO:=zO.below kB
       have hPA:=hPA.below kB
       have hZA:=hZA.below kB
       have kW:=grow_step kB kW
       (try go_wp2_with fail)
       refine hK.out _ _ ?_ ?_
       ·(try dsimp only); exact tq5 z9 z2 kW
       clear hK K hHeld; intro hHeld
       (try simp only [pz])
       refine wpAnyH_ready (rs:=[5]) (by kernel_rfl) (by simp) ?_
       refine AllReadyH.cons (o:=⟨none,_,_,_,_,_⟩) rfl (fun K hK => ?_) ?_
       ·skip
        have f0:=zO.c0
        have f1:=zO.c1
        have f2:=zO.c2
        have f3:=zO.f 0
        have f4:=zO.f 1
        have f5:=zO.f 2
        go_simp
        have gS:=tb_set wB (wQ.heap.size) (.slice adO nO cpO) (.bool sO) (.slice aO lO cO)
        have hPB:=hPB.tb zO gS
        have hZB:=hZB.tb zO gS
        have zO:=tb_fin zO adO nO cpO sO aO lO cO
        have kW:=((kW.setCell (p:=⟨wQ.heap.size,0,none⟩) hbzO (.slice adO nO cpO)).setCell (p:=⟨wQ.heap.size,1,none⟩) hbzO (.bool sO)).setCell (p:=⟨wQ.heap.size,2,none⟩) hbzO (.slice aO lO cO)
        refine hK.out _ _ ?_ ?_
        ·(try dsimp only); exact tq5 z9 z2 kW
        clear hK K hHeld; intro hHeld
        (try simp only [pz])
        refine wpAnyH_done (by kernel_rfl) ?_ _
        exact ⟨rfl,_,adN,nN,cpN,sN,aN,lN,cN,adO,nO,cpO,sO,aO,lO,cO,rfl,zO,hPB,hZB,hlB2,Nat.le_trans hnB2 hnA,hnewO,hbzO,kW⟩
       exact AllReadyH.nil
      exact AllReadyH.nil
     exact AllReadyH.nil
    exact AllReadyH.nil
   rintro e a' WE ⟨rfl,bO,adN,nN,cpN,sN,aN,lN,cN,adO,nO,cpO,sO,aO,lO,cO,rfl,zO,hPO,hZO,hlO,hnO,hnewO,hbO,kE⟩
   have hbO9 : b9 < bO:=by have h1:=z9.lt; omega
   have hrC : r < WC.heap.size:=y.lt
   replace x:=x.below kE
   replace y:=y.below kE
   replace z2:=z2.below kE
   replace z9:=z9.below kE
   replace hd3:=hd3.below kE
   replace hP5:=hP5.below kE
   replace hz5:=hz5.below kE
   have KE:=hide (grow_step kE KC.out)
   have hStdU : Std us:=by rw [← hus,← hts.out]; exact eachP_std (eachP_std hStd)
   have hStdO : Std (oppP D1 us):=eachP_std (eachP_std hStdU)
   clear kE KC
   have u0:=z9.c0
   have u1:=z9.c1
   have u2:=z9.c2
   have u3:=zO.c0
   have u4:=zO.c1
   have u5:=zO.c2
   go_wp2_with fail
   refine (torder_n (B:=l2 + 4) (hPO.pr.mono (by omega)) hZO.zm (by omega) (hP5.pr.mono (by omega)) hz5.zm (by omega) (by omega) (by omega)).mono ?_
   rintro e WF ⟨ps',qs',rfl,hSp,hSq,hcp,hcq,kF⟩
   obtain rfl : ps' = oppP D1 us:=std_unique hSp hStdO hcp
   obtain rfl : qs' = us:=std_unique hSq hStdU hcq
   replace x:=x.below kF
   replace y:=y.below kF
   replace z2:=z2.below kF
   replace z9:=z9.below kF
   replace zO:=zO.below kF
   replace hd3:=hd3.below kF
   replace hP5:=hP5.below kF
   replace hz5:=hz5.below kF
   replace hPO:=hPO.below kF
   replace hZO:=hZO.below kF
   replace KE:=hide (grow_step kF KE.out)
   clear u0 u1 u2 u3 u4 u5 kF hSp hSq hcp hcq
   by_cases hor : ordT (oppP D1 qs') qs' ((-kG) % D1) kG < 0
   ·have hfm2 : Hid (divF kd d qs k = ⟨kd,D1,oppP D1 qs',(-kG) % D1⟩):=(show _ = _ by rw [hfm.out]; unfold fstF; rw [if_pos hor])
    generalize ordT (oppP D1 qs') qs' ((-kG) % D1) kG = oo at *
    have u0:=zO.c0
    have u1:=zO.c1
    have u2:=zO.c2
    have v0:=z9.c0
    have v1:=z9.c1
    have v2:=z9.c2
    have v3:=z9.f 0
    have v4:=z9.f 1
    have v5:=z9.f 2
    have g8:=tb_set WF b9 (.slice adO nO cpO) (.bool sO) (.slice aO lO cO)
    have x8 : AB _ p kd sd ad ld cd ap np cp sk ak lk ck:=(g8.block p x.lt (by simp; omega)).trans x
    have y8 : AB _ r 0 false none 0 0 none 0 0 false none 0 0:=(g8.block r y.lt (by simp; omega)).trans y
    have z28 : ZB _ b2 s3 a3 l3 c3:=(g8.block b2 z2.lt (by simp; omega)).trans z2
    have hP8:=hPO.tb z9 g8
    have hz8:=hZO.tb z9 g8
    have hd8:=zn_tb hd3 z9 g8
    have z98:=tb_fin z9 adO nO cpO sO aO lO cO
    have KG:=hide (below_grown KE.out g8 hwb9)
    have p0:=x8.c0
    have t0:=z98.c0
    have t1:=z98.c1
    have t2:=z98.c2
    have q0:=z28.c0
    have q1:=z28.c1
    have e0:=y8.c0
    have e1:=y8.c1
    have e2:=y8.c2
    have e3:=y8.c3
    have e4:=y8.c4
    have e5:=y8.c5
    have f0:=y8.f 0
    have f1:=y8.f 1
    have f2:=y8.f 2
    have f3:=y8.f 3
    have f4:=y8.f 4
    have f5:=y8.f 5
    have g6:=ab_set (((WF.setCell ⟨b9,0,none⟩ (.slice adO nO cpO)).setCell ⟨b9,1,none⟩ (.bool sO)).setCell ⟨b9,2,none⟩ (.slice aO lO cO)) r (.int .i64 kd) (.bool s3) (.slice a3 l3 c3) (.slice adO nO cpO) (.bool sO) (.slice aO lO cO)
    have hPf:=hide (hP8.away (fun b off e => by have:=hnewO b off e; omega) g6 (ab_noU y8))
    have hzf:=hide (hz8.ab y8 g6)
    have hdf:=hide (zn_ab hd8 y8 g6)
    have kf:=hide (below_grown KG.out g6 (by have:=hpr.out; omega))
    replace hStd:=hide hStd
    replace hcs:=hide hcs
    have hnw : Hid (∀ b off,adO = some ⟨b,off,none⟩→w.heap.size≤b):=(fun b off e => by have h1:=hnewO b off e; have h2:=hpr.out; omega)
    clear g6 hnew hnew5 hnewO
    clear x y z2 z9 zO hd3 hP5 hz5 hPO hZO KE g8 x8 z28 hP8 hz8 hd8 z98
    go_wp2
    refine bodyPost_ret (results_ct rfl _ _ r 29 _ (0,0) _ rfl (ab_fin y8 kd s3 a3 l3 c3 adO nO cpO sO aO lO cO) Tryz.underlying29 rfl (by kernel_rfl)) rfl ?_
    refine ⟨qs,hStd.out,hcs.out,?_,kf.out⟩
    rw [hfm2.out]
    exact ⟨s3,a3,l3,c3,adO,nO,cpO,sO,aO,lO,cO,by simp,hdf.out.zn,by omega,hPf.out.mono (by omega),by omega,hzf.out.1.zn,by omega,hnw.out,Fresh.zn_lc hdf.out,hdf.out.fr,hzf.out.2⟩
   ·have hfm2 : Hid (divF kd d qs k = ⟨kd,D1,qs',kG⟩):=(show _ = _ by rw [hfm.out]; unfold fstF; rw [if_neg hor])
    generalize ordT (oppP D1 qs') qs' ((-kG) % D1) kG = oo at *
    have p0:=x.c0
    have t0:=z9.c0
    have t1:=z9.c1
    have t2:=z9.c2
    have q0:=z2.c0
    have q1:=z2.c1
    have e0:=y.c0
    have e1:=y.c1
    have e2:=y.c2
    have e3:=y.c3
    have e4:=y.c4
    have e5:=y.c5
    have f0:=y.f 0
    have f1:=y.f 1
    have f2:=y.f 2
    have f3:=y.f 3
    have f4:=y.f 4
    have f5:=y.f 5
    have g6:=ab_set WF r (.int .i64 kd) (.bool s3) (.slice a3 l3 c3) (.slice ad5 n5 cp5) (.bool s5) (.slice a5 l5 c5)
    have hPf:=hide (hP5.away (fun b off e => by have:=hnew5 b off e; omega) g6 (ab_noU y))
    have hzf:=hide (hz5.ab y g6)
    have hdf:=hide (zn_ab hd3 y g6)
    have kf:=hide (below_grown KE.out g6 (by have:=hpr.out; omega))
    replace hStd:=hide hStd
    replace hcs:=hide hcs
    have hnw : Hid (∀ b off,ad5 = some ⟨b,off,none⟩→w.heap.size≤b):=(fun b off e => by have h1:=hnew5 b off e; have h2:=hpr.out; omega)
    clear g6 hnew hnew5 hnewO
    clear x z2 z9 zO hd3 hP5 hz5 hPO hZO KE
    go_wp2
    refine bodyPost_ret (results_ct rfl _ _ r 29 _ (0,0) _ rfl (ab_fin y kd s3 a3 l3 c3 ad5 n5 cp5 s5 a5 l5 c5) Tryz.underlying29 rfl (by kernel_rfl)) rfl ?_
    refine ⟨qs,hStd.out,hcs.out,?_,kf.out⟩
    rw [hfm2.out]
    exact ⟨s3,a3,l3,c3,ad5,n5,cp5,s5,a5,l5,c5,by simp,hdf.out.zn,by omega,hPf.out.mono (by omega),by omega,hzf.out.1.zn,by omega,hnw.out,Fresh.zn_lc hdf.out,hdf.out.fr,hzf.out.2⟩
 ·rw [show decide (((G : Nat) : Int) ∣ kD) = false from by simp [hdv]]
  have hfm : Hid (divF kd d qs k = ⟨ne,0,[],0⟩):=(show _ = _ by rw [hdF.out]; unfold divG; rw [hGG.out,if_pos hdv,hne.out])
  clear hdv
  have e0:=y.c0
  have e1:=y.c1
  have e2:=y.c2
  have e3:=y.c3
  have e4:=y.c4
  have e5:=y.c5
  have f0:=y.f 0
  have f1:=y.f 1
  have f2:=y.f 2
  have f3:=y.f 3
  have f4:=y.f 4
  have f5:=y.f 5
  have g6:=ab_set W7 r (.int .i64 ne) (.bool false) (.slice none 0 0) (.slice none 0 0) (.bool false) (.slice none 0 0)
  have kf:=hide (below_grown K4.out g6 (by have:=hpr.out; omega))
  have hfin:=hide (ab_fin y ne false none 0 0 none 0 0 false none 0 0)
  replace hStd:=hide hStd
  replace hcs:=hide hcs
  go_wp2
  refine bodyPost_ret (results_ct rfl _ _ r 29 _ (0,0) _ rfl hfin.out Tryz.underlying29 rfl (by kernel_rfl)) rfl ?_
  refine ⟨qs,hStd.out,hcs.out,?_,kf.out⟩
  rw [hfm.out]
  exact ⟨false,none,0,0,none,0,0,false,none,0,0,by simp,zn_zero _,by omega,pn_nil _ _ _,by omega,zn_zero _,by omega,(fun _ _ h => by cases h),by omega,.inl ⟨rfl,rfl⟩,nw_nil⟩

def ANF (F : Nat) (w : World) (e : Ending) (f : Atm ⊕ Int) (B B0 : Nat) : Prop:=match f with
 | .inl f => AEF F w e f B B0
 | .inr er => AZ e er

set_option maxRecDepth 100000 in
set_option maxHeartbeats 6400000 in
theorem anorm_n {Fw : Nat} {w : World} {kd : Int} {sd : Bool} {ad : Option Addr} {ld cd : Nat} {ap : Option Addr} {np cp : Nat} {sk : Bool} {ak : Option Addr} {lk ck : Nat} {d k : Int} {ps : List (Int × Int)} {B : Nat}
  (hF : FLE Fw w) (hd : Zm w sd ad ld cd d) (hld : ld≤B) (hP : Pr w ap np ps B) (hk : Zm w sk ak lk ck k) (hlk : lk≤B) (hn : np≤262144) (hB : B + np + 1≤4194000) :
  Calls Tryz.prog 13 #[.agg #[.int .i64 kd,.bool sd,.slice ad ld cd,.slice ap np cp,.bool sk,.slice ak lk ck]] w fun e w' => ∃ qs,Std qs∧(∀ v,csum qs v = csum ps v)∧ANF Fw w' e (formA kd d qs k) (B + np + 16) w.heap.size∧Below w.heap.size w w':=by
 obtain ⟨q0,hq0,hq1⟩ : ∃ qs,Std qs∧∀ v,csum qs v = csum ps v:=⟨nz (lays [] ps),std_lays ps,fun v => csum_nzl ps v⟩
 by_cases h0 : kd = 0
 ·subst h0
  have y:=AB.new (w.alloc (.cells #[.int .i64 0,.bool sd,.slice ad ld cd,.slice ap np cp,.bool sk,.slice ak lk ck] 29)) 0 false none 0 0 none 0 0 false none 0 0
  rw [show (w.alloc (.cells #[.int .i64 0,.bool sd,.slice ad ld cd,.slice ap np cp,.bool sk,.slice ak lk ck] 29)).heap.size = w.heap.size + 1 from by simp] at y
  have b0 : Below w.heap.size w ((w.alloc (.cells #[.int .i64 0,.bool sd,.slice ad ld cd,.slice ap np cp,.bool sk,.slice ak lk ck] 29)).alloc (.cells #[.int .i64 0,.bool false,.slice none 0 0,.slice none 0 0,.bool false,.slice none 0 0] 29)):=below_alloc' (below_alloc _ _) _
  have HH:=hide (And.intro y b0)
  clear y b0
  go_enter Tryz.func13,Tryz.ntmps13
  go_wp2
  obtain ⟨y,b0⟩:=HH.out
  refine bodyPost_ret (results_ct rfl _ _ (w.heap.size + 1) 29 _ (0,0) _ rfl y Tryz.underlying29 rfl (by kernel_rfl)) rfl ?_
  exact ⟨q0,hq0,hq1,⟨false,none,0,0,none,0,0,false,none,0,0,rfl,zn_zero _,by omega,pn_nil _ _ _,by omega,zn_zero _,by omega,(fun _ _ h => by cases h),by omega,.inl ⟨rfl,rfl⟩,nw_nil⟩,b0⟩
 by_cases h1 : kd = 1
 ·subst h1
  have y:=AB.new (w.alloc (.cells #[.int .i64 1,.bool sd,.slice ad ld cd,.slice ap np cp,.bool sk,.slice ak lk ck] 29)) 1 false none 0 0 none 0 0 false none 0 0
  rw [show (w.alloc (.cells #[.int .i64 1,.bool sd,.slice ad ld cd,.slice ap np cp,.bool sk,.slice ak lk ck] 29)).heap.size = w.heap.size + 1 from by simp] at y
  have b0 : Below w.heap.size w ((w.alloc (.cells #[.int .i64 1,.bool sd,.slice ad ld cd,.slice ap np cp,.bool sk,.slice ak lk ck] 29)).alloc (.cells #[.int .i64 1,.bool false,.slice none 0 0,.slice none 0 0,.bool false,.slice none 0 0] 29)):=below_alloc' (below_alloc _ _) _
  have HH:=hide (And.intro y b0)
  clear y b0
  go_enter Tryz.func13,Tryz.ntmps13
  go_wp2
  obtain ⟨y,b0⟩:=HH.out
  refine bodyPost_ret (results_ct rfl _ _ (w.heap.size + 1) 29 _ (0,0) _ rfl y Tryz.underlying29 rfl (by kernel_rfl)) rfl ?_
  exact ⟨q0,hq0,hq1,⟨false,none,0,0,none,0,0,false,none,0,0,rfl,zn_zero _,by omega,pn_nil _ _ _,by omega,zn_zero _,by omega,(fun _ _ h => by cases h),by omega,.inl ⟨rfl,rfl⟩,nw_nil⟩,b0⟩
 by_cases h2 : kd = 2
 ·subst h2
  clear h0 h1 q0 hq0 hq1
  have x:=(AB.new w 2 sd ad ld cd ap np cp sk ak lk ck).below (below_alloc _ (.cells #[.int .i64 0,.bool false,.slice none 0 0,.slice none 0 0,.bool false,.slice none 0 0] 29))
  have y:=AB.new (w.alloc (.cells #[.int .i64 2,.bool sd,.slice ad ld cd,.slice ap np cp,.bool sk,.slice ak lk ck] 29)) 0 false none 0 0 none 0 0 false none 0 0
  rw [show (w.alloc (.cells #[.int .i64 2,.bool sd,.slice ad ld cd,.slice ap np cp,.bool sk,.slice ak lk ck] 29)).heap.size = w.heap.size + 1 from by simp] at y
  have b0 : Below w.heap.size w ((w.alloc (.cells #[.int .i64 2,.bool sd,.slice ad ld cd,.slice ap np cp,.bool sk,.slice ak lk ck] 29)).alloc (.cells #[.int .i64 0,.bool false,.slice none 0 0,.slice none 0 0,.bool false,.slice none 0 0] 29)):=below_alloc' (below_alloc _ _) _
  have HH:=hide (And.intro x (And.intro y (And.intro b0 (And.intro (hP.below b0) (And.intro (hd.below b0) (hk.below b0))))))
  clear x y b0
  go_enter Tryz.func13,Tryz.ntmps13
  go_wp2_with fail
  obtain ⟨x,y,b0,hP,hd,hk⟩:=HH.out; have hF9 : FLE Fw _:=hF.le b0
  clear HH
  generalize (w.alloc (.cells #[.int .i64 2,.bool sd,.slice ad ld cd,.slice ap np cp,.bool sk,.slice ak lk ck] 29)).alloc (.cells #[.int .i64 0,.bool false,.slice none 0 0,.slice none 0 0,.bool false,.slice none 0 0] 29) = wb at *
  have hr : w.heap.size≤w.heap.size + 1:=by omega
  generalize w.heap.size + 1 = r at *
  generalize hp : w.heap.size = p at *
  replace hp:=hide hp
  refine (less_n hF9 hP hk hlk (by omega) (by omega)).mono ?_
  rintro e w1 ⟨qs,hS,hc,⟨sd1,ad1,ld1,cd1,ap1,np1,cp1,sk1,ak1,lk1,ck1,rfl,hz1,hlz1,hPn1,hnp1,hk1,hlk1,hnew1,hlc1,hfr1,hnw1⟩,k1⟩
  have hfm : Hid (formA 2 d qs k = .inl (lessF qs k)):=(show _ = _ by unfold formA; rw [if_neg (by decide),if_pos rfl])
  generalize lessF qs k = ff at *
  have hrl:=y.lt
  replace y:=y.below k1
  have e0:=y.c0
  have e1:=y.c1
  have e2:=y.c2
  have e3:=y.c3
  have e4:=y.c4
  have e5:=y.c5
  have f0:=y.f 0
  have f1:=y.f 1
  have f2:=y.f 2
  have f3:=y.f 3
  have f4:=y.f 4
  have f5:=y.f 5
  have g6:=ab_set w1 r (.int .i64 ff.kind) (.bool sd1) (.slice ad1 ld1 cd1) (.slice ap1 np1 cp1) (.bool sk1) (.slice ak1 lk1 ck1)
  have hPf:=hide (hPn1.away (fun b off e => by have:=hnew1 b off e; omega) g6 (ab_noU y))
  have hzf:=hide (hk1.grownU g6 (ab_noU y))
  have hfrf:=hide (hfr1.grownN g6 (nr_ab y))
  have hnwf:=hide (nw_ab hnw1 y g6)
  clear hfr1 hnw1
  have hdf:=hide (hz1.grownU g6 (ab_noU y))
  have kf:=hide (below_grown (grow_step k1 (show Below w.heap.size w wb from hp.out.symm ▸ b0)) g6 (by have:=hp.out; omega))
  have hnw : Hid (∀ b off,ap1 = some ⟨b,off,none⟩→w.heap.size≤b):=(fun b off e => by have h1:=hnew1 b off e; have h2:=hp.out; omega)
  replace hS:=hide hS
  replace hc:=hide hc
  clear g6 hPn1 hk1 hz1 hnew1 hP hd hk x b0 k1
  go_wp2
  refine bodyPost_ret (results_ct rfl _ _ r 29 _ (0,0) _ rfl (ab_fin y ff.kind sd1 ad1 ld1 cd1 ap1 np1 cp1 sk1 ak1 lk1 ck1) Tryz.underlying29 rfl (by kernel_rfl)) rfl ?_
  refine ⟨qs,hS.out,hc.out,?_,kf.out⟩
  rw [hfm.out]
  exact ⟨sd1,ad1,ld1,cd1,ap1,np1,cp1,sk1,ak1,lk1,ck1,by simp,hdf.out,hlz1,hPf.out,hnp1,hzf.out,hlk1,hnw.out,hlc1,hfrf.out,hnwf.out⟩
 by_cases h3 : kd = 3
 ·subst h3
  clear h0 h1 h2
  have x:=(AB.new w 3 sd ad ld cd ap np cp sk ak lk ck).below (below_alloc _ (.cells #[.int .i64 0,.bool false,.slice none 0 0,.slice none 0 0,.bool false,.slice none 0 0] 29))
  have y:=AB.new (w.alloc (.cells #[.int .i64 3,.bool sd,.slice ad ld cd,.slice ap np cp,.bool sk,.slice ak lk ck] 29)) 0 false none 0 0 none 0 0 false none 0 0
  rw [show (w.alloc (.cells #[.int .i64 3,.bool sd,.slice ad ld cd,.slice ap np cp,.bool sk,.slice ak lk ck] 29)).heap.size = w.heap.size + 1 from by simp] at y
  have b0 : Below w.heap.size w ((w.alloc (.cells #[.int .i64 3,.bool sd,.slice ad ld cd,.slice ap np cp,.bool sk,.slice ak lk ck] 29)).alloc (.cells #[.int .i64 0,.bool false,.slice none 0 0,.slice none 0 0,.bool false,.slice none 0 0] 29)):=below_alloc' (below_alloc _ _) _
  have HH:=hide (And.intro x (And.intro y (And.intro b0 (And.intro (hP.below b0) (And.intro (hd.below b0) (hk.below b0))))))
  clear x y b0
  go_enter Tryz.func13,Tryz.ntmps13
  go_wp2_with fail
  obtain ⟨x,y,b0,hP,hd,hk⟩:=HH.out; have hF9 : FLE Fw _:=hF.le b0
  clear HH
  generalize (w.alloc (.cells #[.int .i64 3,.bool sd,.slice ad ld cd,.slice ap np cp,.bool sk,.slice ak lk ck] 29)).alloc (.cells #[.int .i64 0,.bool false,.slice none 0 0,.slice none 0 0,.bool false,.slice none 0 0] 29) = wb at *
  have hr : w.heap.size≤w.heap.size + 1:=by omega
  generalize w.heap.size + 1 = r at *
  generalize hp : w.heap.size = p at *
  replace hp:=hide hp
  by_cases hd0 : d = 0
  ·subst hd0
   have hfm : Hid (formA 3 0 q0 k = .inr 11):=(show _ = _ by unfold formA; rw [if_neg (by decide),if_neg (by decide),if_pos (by decide),if_pos rfl])
   refine (divi_0 hd (by omega)).mono ?_
   rintro e w1 ⟨hz,k1⟩
   unfold AZ at hz
   subst hz
   replace y:=y.below k1
   have e0:=y.c0
   have e1:=y.c1
   have e2:=y.c2
   have e3:=y.c3
   have e4:=y.c4
   have e5:=y.c5
   have f0:=y.f 0
   have f1:=y.f 1
   have f2:=y.f 2
   have f3:=y.f 3
   have f4:=y.f 4
   have f5:=y.f 5
   have g6:=ab_set w1 r (.int .i64 0) (.bool false) (.slice none 0 0) (.slice none 0 0) (.bool false) (.slice none 0 0)
   have kf:=hide (below_grown (grow_step k1 (show Below w.heap.size w wb from hp.out.symm ▸ b0)) g6 (by have:=hp.out; omega))
   replace hq0:=hide hq0
   replace hq1:=hide hq1
   clear g6 hP hd hk x b0 k1
   go_wp2
   refine bodyPost_ret (results_ct rfl _ _ r 29 _ (0,0) _ rfl (ab_fin y 0 false none 0 0 none 0 0 false none 0 0) Tryz.underlying29 rfl (by kernel_rfl)) rfl ?_
   exact ⟨q0,hq0.out,hq1.out,by rw [hfm.out]; exact rfl,kf.out⟩
  ·refine (divi_n hF9 hd hld hP hk hlk hn hB (by decide) (by decide) hd0).mono ?_
   rintro e w1 ⟨qs,hS,hc,⟨sd1,ad1,ld1,cd1,ap1,np1,cp1,sk1,ak1,lk1,ck1,rfl,hz1,hlz1,hPn1,hnp1,hk1,hlk1,hnew1,hlc1,hfr1,hnw1⟩,k1⟩
   have hfm : Hid (formA 3 d qs k = .inl (divF 3 d qs k)):=(show _ = _ by unfold formA; rw [if_neg (by decide),if_neg (by decide),if_pos (by decide),if_neg hd0])
   generalize divF 3 d qs k = ff at *
   have hrl:=y.lt
   replace y:=y.below k1
   have e0:=y.c0
   have e1:=y.c1
   have e2:=y.c2
   have e3:=y.c3
   have e4:=y.c4
   have e5:=y.c5
   have f0:=y.f 0
   have f1:=y.f 1
   have f2:=y.f 2
   have f3:=y.f 3
   have f4:=y.f 4
   have f5:=y.f 5
   have g6:=ab_set w1 r (.int .i64 ff.kind) (.bool sd1) (.slice ad1 ld1 cd1) (.slice ap1 np1 cp1) (.bool sk1) (.slice ak1 lk1 ck1)
   have hPf:=hide (hPn1.away (fun b off e => by have:=hnew1 b off e; omega) g6 (ab_noU y))
   have hzf:=hide (hk1.grownU g6 (ab_noU y))
   have hfrf:=hide (hfr1.grownN g6 (nr_ab y))
   have hnwf:=hide (nw_ab hnw1 y g6)
   clear hfr1 hnw1
   have hdf:=hide (hz1.grownU g6 (ab_noU y))
   have kf:=hide (below_grown (grow_step k1 (show Below w.heap.size w wb from hp.out.symm ▸ b0)) g6 (by have:=hp.out; omega))
   have hnw : Hid (∀ b off,ap1 = some ⟨b,off,none⟩→w.heap.size≤b):=(fun b off e => by have h1:=hnew1 b off e; have h2:=hp.out; omega)
   replace hS:=hide hS
   replace hc:=hide hc
   clear g6 hPn1 hk1 hz1 hnew1 hP hd hk x b0 k1
   go_wp2
   refine bodyPost_ret (results_ct rfl _ _ r 29 _ (0,0) _ rfl (ab_fin y ff.kind sd1 ad1 ld1 cd1 ap1 np1 cp1 sk1 ak1 lk1 ck1) Tryz.underlying29 rfl (by kernel_rfl)) rfl ?_
   refine ⟨qs,hS.out,hc.out,?_,kf.out⟩
   rw [hfm.out]
   exact ⟨sd1,ad1,ld1,cd1,ap1,np1,cp1,sk1,ak1,lk1,ck1,by simp,hdf.out,hlz1,hPf.out,hnp1,hzf.out,hlk1,hnw.out,hlc1,hfrf.out,hnwf.out⟩
 by_cases h4 : kd = 4
 ·subst h4
  clear h0 h1 h2 h3
  have x:=(AB.new w 4 sd ad ld cd ap np cp sk ak lk ck).below (below_alloc _ (.cells #[.int .i64 0,.bool false,.slice none 0 0,.slice none 0 0,.bool false,.slice none 0 0] 29))
  have y:=AB.new (w.alloc (.cells #[.int .i64 4,.bool sd,.slice ad ld cd,.slice ap np cp,.bool sk,.slice ak lk ck] 29)) 0 false none 0 0 none 0 0 false none 0 0
  rw [show (w.alloc (.cells #[.int .i64 4,.bool sd,.slice ad ld cd,.slice ap np cp,.bool sk,.slice ak lk ck] 29)).heap.size = w.heap.size + 1 from by simp] at y
  have b0 : Below w.heap.size w ((w.alloc (.cells #[.int .i64 4,.bool sd,.slice ad ld cd,.slice ap np cp,.bool sk,.slice ak lk ck] 29)).alloc (.cells #[.int .i64 0,.bool false,.slice none 0 0,.slice none 0 0,.bool false,.slice none 0 0] 29)):=below_alloc' (below_alloc _ _) _
  have HH:=hide (And.intro x (And.intro y (And.intro b0 (And.intro (hP.below b0) (And.intro (hd.below b0) (hk.below b0))))))
  clear x y b0
  go_enter Tryz.func13,Tryz.ntmps13
  go_wp2_with fail
  obtain ⟨x,y,b0,hP,hd,hk⟩:=HH.out; have hF9 : FLE Fw _:=hF.le b0
  clear HH
  generalize (w.alloc (.cells #[.int .i64 4,.bool sd,.slice ad ld cd,.slice ap np cp,.bool sk,.slice ak lk ck] 29)).alloc (.cells #[.int .i64 0,.bool false,.slice none 0 0,.slice none 0 0,.bool false,.slice none 0 0] 29) = wb at *
  have hr : w.heap.size≤w.heap.size + 1:=by omega
  generalize w.heap.size + 1 = r at *
  generalize hp : w.heap.size = p at *
  replace hp:=hide hp
  by_cases hd0 : d = 0
  ·subst hd0
   have hfm : Hid (formA 4 0 q0 k = .inr 11):=(show _ = _ by unfold formA; rw [if_neg (by decide),if_neg (by decide),if_pos (by decide),if_pos rfl])
   refine (divi_0 hd (by omega)).mono ?_
   rintro e w1 ⟨hz,k1⟩
   unfold AZ at hz
   subst hz
   replace y:=y.below k1
   have e0:=y.c0
   have e1:=y.c1
   have e2:=y.c2
   have e3:=y.c3
   have e4:=y.c4
   have e5:=y.c5
   have f0:=y.f 0
   have f1:=y.f 1
   have f2:=y.f 2
   have f3:=y.f 3
   have f4:=y.f 4
   have f5:=y.f 5
   have g6:=ab_set w1 r (.int .i64 0) (.bool false) (.slice none 0 0) (.slice none 0 0) (.bool false) (.slice none 0 0)
   have kf:=hide (below_grown (grow_step k1 (show Below w.heap.size w wb from hp.out.symm ▸ b0)) g6 (by have:=hp.out; omega))
   replace hq0:=hide hq0
   replace hq1:=hide hq1
   clear g6 hP hd hk x b0 k1
   go_wp2
   refine bodyPost_ret (results_ct rfl _ _ r 29 _ (0,0) _ rfl (ab_fin y 0 false none 0 0 none 0 0 false none 0 0) Tryz.underlying29 rfl (by kernel_rfl)) rfl ?_
   exact ⟨q0,hq0.out,hq1.out,by rw [hfm.out]; exact rfl,kf.out⟩
  ·refine (divi_n hF9 hd hld hP hk hlk hn hB (by decide) (by decide) hd0).mono ?_
   rintro e w1 ⟨qs,hS,hc,⟨sd1,ad1,ld1,cd1,ap1,np1,cp1,sk1,ak1,lk1,ck1,rfl,hz1,hlz1,hPn1,hnp1,hk1,hlk1,hnew1,hlc1,hfr1,hnw1⟩,k1⟩
   have hfm : Hid (formA 4 d qs k = .inl (divF 4 d qs k)):=(show _ = _ by unfold formA; rw [if_neg (by decide),if_neg (by decide),if_pos (by decide),if_neg hd0])
   generalize divF 4 d qs k = ff at *
   have hrl:=y.lt
   replace y:=y.below k1
   have e0:=y.c0
   have e1:=y.c1
   have e2:=y.c2
   have e3:=y.c3
   have e4:=y.c4
   have e5:=y.c5
   have f0:=y.f 0
   have f1:=y.f 1
   have f2:=y.f 2
   have f3:=y.f 3
   have f4:=y.f 4
   have f5:=y.f 5
   have g6:=ab_set w1 r (.int .i64 ff.kind) (.bool sd1) (.slice ad1 ld1 cd1) (.slice ap1 np1 cp1) (.bool sk1) (.slice ak1 lk1 ck1)
   have hPf:=hide (hPn1.away (fun b off e => by have:=hnew1 b off e; omega) g6 (ab_noU y))
   have hzf:=hide (hk1.grownU g6 (ab_noU y))
   have hfrf:=hide (hfr1.grownN g6 (nr_ab y))
   have hnwf:=hide (nw_ab hnw1 y g6)
   clear hfr1 hnw1
   have hdf:=hide (hz1.grownU g6 (ab_noU y))
   have kf:=hide (below_grown (grow_step k1 (show Below w.heap.size w wb from hp.out.symm ▸ b0)) g6 (by have:=hp.out; omega))
   have hnw : Hid (∀ b off,ap1 = some ⟨b,off,none⟩→w.heap.size≤b):=(fun b off e => by have h1:=hnew1 b off e; have h2:=hp.out; omega)
   replace hS:=hide hS
   replace hc:=hide hc
   clear g6 hPn1 hk1 hz1 hnew1 hP hd hk x b0 k1
   go_wp2
   refine bodyPost_ret (results_ct rfl _ _ r 29 _ (0,0) _ rfl (ab_fin y ff.kind sd1 ad1 ld1 cd1 ap1 np1 cp1 sk1 ak1 lk1 ck1) Tryz.underlying29 rfl (by kernel_rfl)) rfl ?_
   refine ⟨qs,hS.out,hc.out,?_,kf.out⟩
   rw [hfm.out]
   exact ⟨sd1,ad1,ld1,cd1,ap1,np1,cp1,sk1,ak1,lk1,ck1,by simp,hdf.out,hlz1,hPf.out,hnp1,hzf.out,hlk1,hnw.out,hlc1,hfrf.out,hnwf.out⟩
 ·have i0 : (kd == 0) = false:=by rw [beq_eq_false_iff_ne]; exact h0
  have i1 : (kd == 1) = false:=by rw [beq_eq_false_iff_ne]; exact h1
  have i2 : (kd == 2) = false:=by rw [beq_eq_false_iff_ne]; exact h2
  have i3 : (kd == 3) = false:=by rw [beq_eq_false_iff_ne]; exact h3
  have i4 : (kd == 4) = false:=by rw [beq_eq_false_iff_ne]; exact h4
  have hfm : Hid (formA kd d q0 k = .inr 1):=(show _ = _ by unfold formA; rw [if_neg (by omega),if_neg h2,if_neg (by omega)])
  clear h0 h1 h2 h3 h4
  have y:=AB.new (w.alloc (.cells #[.int .i64 kd,.bool sd,.slice ad ld cd,.slice ap np cp,.bool sk,.slice ak lk ck] 29)) 0 false none 0 0 none 0 0 false none 0 0
  rw [show (w.alloc (.cells #[.int .i64 kd,.bool sd,.slice ad ld cd,.slice ap np cp,.bool sk,.slice ak lk ck] 29)).heap.size = w.heap.size + 1 from by simp] at y
  have b0 : Below w.heap.size w ((w.alloc (.cells #[.int .i64 kd,.bool sd,.slice ad ld cd,.slice ap np cp,.bool sk,.slice ak lk ck] 29)).alloc (.cells #[.int .i64 0,.bool false,.slice none 0 0,.slice none 0 0,.bool false,.slice none 0 0] 29)):=below_alloc' (below_alloc _ _) _
  have HH:=hide (And.intro y b0)
  clear y b0
  go_enter Tryz.func13,Tryz.ntmps13
  go_wp2
  obtain ⟨y,b0⟩:=HH.out
  refine bodyPost_ret (results_ct rfl _ _ (w.heap.size + 1) 29 _ (0,0) _ rfl y Tryz.underlying29 rfl (by kernel_rfl)) rfl ?_
  exact ⟨q0,hq0,hq1,by rw [hfm.out]; rfl,b0⟩
end Go.Proofs.YtepdckgfolkjjaaGreatDoor.Fx

namespace Go.Proofs.YtepdckgfolkjjaaGreatDoor.Fp
open Go.RowKit Go.Sort Go.Shelf
open Tm At

variable {w : World} {ad ap ak : Option Addr} {cp B ld cd lk ck : Nat} {ps : List (Int × Int)} {k : Int} {sd sk : Bool}
theorem less_n {n : Nat} {s : Bool} {a : Option Addr} {l c : Nat} (hP : Pr w ad n ps B) (hz : Zm w s a l c k) (hl : l≤B) (hn : n≤262144) (hB : B + n + 1≤4194000) :
  Calls Tryz.prog 24 #[.agg #[.slice ad n cp,.bool s,.slice a l c]] w fun e w' => ∃ qs,Std qs∧(∀ v,csum qs v = csum ps v)∧AW w' e (lessF qs k) (B + n + 16) w.heap.size∧Below w.heap.size w w':=by
 refine (Fx.less_n (Fw:=0) (Nat.zero_le _) hP hz hl hn hB).mono ?_
 rintro e w' ⟨qs,h1,h2,h3,h4⟩
 exact ⟨qs,h1,h2,h3.aw,h4⟩
theorem ae_of {F : Nat} {e : Ending} {f : Atm ⊕ Int} {B0 : Nat} (h : Fx.ANF F w e f B B0) : AN w e f B B0:=by
 cases f with
 | inl f =>
  obtain ⟨sd,ad,ld,cd,ap,np,cp,sk,ak,lk,ck,he,h1,h2,h3,h4,h5,h6,h7,_⟩:=h
  exact ⟨sd,ad,ld,cd,ap,np,cp,sk,ak,lk,ck,he,h1,h2,h3,h4,h5,h6,h7⟩
 | inr er => exact h
theorem anorm_n {kd : Int} {np : Nat} {d : Int}
  (hd : Zm w sd ad ld cd d) (hld : ld≤B) (hP : Pr w ap np ps B) (hk : Zm w sk ak lk ck k) (hlk : lk≤B) (hn : np≤262144) (hB : B + np + 1≤4194000) :
  Calls Tryz.prog 13 #[.agg #[.int .i64 kd,.bool sd,.slice ad ld cd,.slice ap np cp,.bool sk,.slice ak lk ck]] w fun e w' => ∃ qs,Std qs∧(∀ v,csum qs v = csum ps v)∧AN w' e (formA kd d qs k) (B + np + 16) w.heap.size∧Below w.heap.size w w':=by
 refine (Fx.anorm_n (Fw:=0) (Nat.zero_le _) hd hld hP hk hlk hn hB).mono ?_
 rintro e w' ⟨qs,h1,h2,h3,h4⟩
 exact ⟨qs,h1,h2,ae_of h3,h4⟩
set_option maxRecDepth 100000 in
set_option maxHeartbeats 6400000 in
theorem adiv_n {np : Nat} {d : Int}
  (hd : Zm w sd ad ld cd d) (hld : ld≤B) (hP : Pr w ap np ps B) (hk : Zm w sk ak lk ck k) (hlk : lk≤B) (hn : np≤262144) (hB : B + np + 1≤4194000) (hd0 : d ≠ 0) :
  Calls Tryz.prog 20 #[.agg #[.bool sd,.slice ad ld cd],.agg #[.slice ap np cp,.bool sk,.slice ak lk ck]] w fun e w' => ∃ qs,Std qs∧(∀ v,csum qs v = csum ps v)∧AE w' e (divF 3 d qs k) (B + np + 16) w.heap.size∧Below w.heap.size w w':=by
 go_enter Tryz.func20,Tryz.ntmps20
 go_wp2_with fail
 have y:=AB.new ((w.alloc (.cells #[.bool sd,.slice ad ld cd] 24)).alloc (.cells #[.slice ap np cp,.bool sk,.slice ak lk ck] 27)) 0 false none 0 0 none 0 0 false none 0 0
 rw [show ((w.alloc (.cells #[.bool sd,.slice ad ld cd] 24)).alloc (.cells #[.slice ap np cp,.bool sk,.slice ak lk ck] 27)).heap.size = w.heap.size + 1 + 1 from by simp] at y
 have b0 : Below w.heap.size w (((w.alloc (.cells #[.bool sd,.slice ad ld cd] 24)).alloc (.cells #[.slice ap np cp,.bool sk,.slice ak lk ck] 27)).alloc (.cells #[.int .i64 0,.bool false,.slice none 0 0,.slice none 0 0,.bool false,.slice none 0 0] 29)):=below_alloc' (below_alloc' (below_alloc _ _) _) _
 generalize ((w.alloc (.cells #[.bool sd,.slice ad ld cd] 24)).alloc (.cells #[.slice ap np cp,.bool sk,.slice ak lk ck] 27)).alloc (.cells #[.int .i64 0,.bool false,.slice none 0 0,.slice none 0 0,.bool false,.slice none 0 0] 29) = wb at *
 have hr : w.heap.size≤w.heap.size + 1 + 1:=by omega
 generalize w.heap.size + 1 + 1 = r at *
 refine (anorm_n (kd:=3) (hd.below b0) hld (hP.below b0) (hk.below b0) hlk hn hB).mono ?_
 rintro e w1 ⟨qs,hS,hc,hA,k1⟩
 have hfm : formA 3 d qs k = .inl (divF 3 d qs k):=by unfold formA; rw [if_neg (by decide),if_neg (by decide),if_pos (by decide),if_neg hd0]
 rw [hfm] at hA
 clear hfm
 obtain ⟨sd1,ad1,ld1,cd1,ap1,np1,cp1,sk1,ak1,lk1,ck1,rfl,hz1,hlz1,hPn1,hnp1,hk1,hlk1,hnew1⟩:=hA
 generalize hff : divF 3 d qs k = ff at *
 replace hff:=hide hff
 have hrl:=y.lt
 have hbs:=b0.size
 replace y:=y.below k1
 have e0:=y.c0
 have e1:=y.c1
 have e2:=y.c2
 have e3:=y.c3
 have e4:=y.c4
 have e5:=y.c5
 have f0:=y.f 0
 have f1:=y.f 1
 have f2:=y.f 2
 have f3:=y.f 3
 have f4:=y.f 4
 have f5:=y.f 5
 have g6:=ab_set w1 r (.int .i64 ff.kind) (.bool sd1) (.slice ad1 ld1 cd1) (.slice ap1 np1 cp1) (.bool sk1) (.slice ak1 lk1 ck1)
 have hPf:=hide (hPn1.away (fun b off e => by have:=hnew1 b off e; omega) g6 (ab_noU y))
 have hzf:=hide (hk1.grownU g6 (ab_noU y))
 have hdf:=hide (hz1.grownU g6 (ab_noU y))
 have kf:=hide (below_grown (grow_step k1 b0) g6 hr)
 have hnw : Hid (∀ b off,ap1 = some ⟨b,off,none⟩→w.heap.size≤b):=(fun b off e => by have h1:=hnew1 b off e; omega)
 replace hS:=hide hS
 replace hc:=hide hc
 clear g6 hPn1 hk1 hz1 hnew1 hP hd hk b0 k1
 go_wp2
 refine bodyPost_ret (results_ct rfl _ _ r 29 _ (0,0) _ rfl (ab_fin y ff.kind sd1 ad1 ld1 cd1 ap1 np1 cp1 sk1 ak1 lk1 ck1) Tryz.underlying29 rfl (by kernel_rfl)) rfl ?_
 refine ⟨qs,hS.out,hc.out,?_,kf.out⟩
 rw [hff.out]
 exact ⟨sd1,ad1,ld1,cd1,ap1,np1,cp1,sk1,ak1,lk1,ck1,by simp,hdf.out,hlz1,hPf.out,hnp1,hzf.out,hlk1,hnw.out⟩
set_option maxRecDepth 100000 in
set_option maxHeartbeats 6400000 in
theorem text_div (hd : Zn w sd ad ld cd 3) (hld : ld≤B) (hP : Pn w ap 1 [(0,1)] B) (hk : Zn w sk ak lk ck 0) (hlk : lk≤B) (hB : B≤1000) (htab : Tab w) :
  Calls Tryz.prog 17 #[.agg #[.int .i64 3,.bool sd,.slice ad ld cd,.slice ap 1 cp,.bool sk,.slice ak lk ck]] w fun x w' => x = .returned (.string ⟨#[51,124,118,48]⟩)∧Below w.heap.size w w':=by
 go_enter Tryz.func17,Tryz.ntmps17
 go_wp2_with fail
 have x:=AB.new w 3 sd ad ld cd ap 1 cp sk ak lk ck
 have b0:=below_alloc w (.cells #[.int .i64 3,.bool sd,.slice ad ld cd,.slice ap 1 cp,.bool sk,.slice ak lk ck] 29)
 replace hd:=hd.below b0
 replace hP:=hP.below b0
 replace hk:=hk.below b0
 have htab0:=htab
 clear htab
 generalize w.alloc (.cells #[.int .i64 3,.bool sd,.slice ad ld cd,.slice ap 1 cp,.bool sk,.slice ak lk ck] 29) = wb at *
 generalize hp : w.heap.size = p at *
 replace b0 : Hid (Below w.heap.size w wb):=hp ▸ b0
 replace hp:=hide hp
 refine (anorm_n (kd:=3) (B:=B) hd.zm hld hP.pr hk.zm hlk (by omega) (by omega)).mono ?_
 rintro e w1 ⟨qs,hS,hc,hA,k1⟩
 obtain rfl : qs = [(0,1)]:=std_unique hS (std_1 0 1 (by decide)) hc
 have hfm : formA 3 3 [(0,1)] 0 = .inl ⟨3,3,[(0,1)],0⟩:=by unfold formA; rw [if_neg (by decide),if_neg (by decide),if_pos (by decide),if_neg (by decide),form_div2]
 rw [hfm] at hA
 obtain ⟨sd1,ad1,ld1,cd1,ap1,np1,cp1,sk1,ak1,lk1,ck1,rfl,hz1,hlz1,hPn1,hnp1,hk1,hlk1,hnew1⟩:=hA
 dsimp only at hz1 hPn1 hk1
 obtain rfl : np1 = 1:=hPn1.1.symm
 have hplb:=x.lt
 have kp0 : w.heap.size≤p:=by have:=hp.out; omega
 replace x:=x.below k1
 have hpl:=x.lt
 have kk:=hide (grow_step k1 b0.out)
 have g6:=ab_set w1 p (.int .i64 3) (.bool sd1) (.slice ad1 ld1 cd1) (.slice ap1 1 cp1) (.bool sk1) (.slice ak1 lk1 ck1)
 have hU:=ab_noU x
 have hz2:=hz1.grownU g6 hU
 have hk2:=hk1.grownU g6 hU
 have hP2:=hPn1.away (fun b off e => by have h1:=hnew1 b off e; have h2:=hplb; omega) g6 hU
 have x2 : AB _ p 3 sd1 ad1 ld1 cd1 ap1 1 cp1 sk1 ak1 lk1 ck1:=ab_fin x 3 sd1 ad1 ld1 cd1 ap1 1 cp1 sk1 ak1 lk1 ck1
 have kw2:=hide (below_grown kk.out g6 (by have:=hp.out; omega))
 have ht2 : Tab _:=htab0.below kw2.out
 have HH:=hide (And.intro hz2 (And.intro hk2 (And.intro hP2 (And.intro x2 ht2))))
 have e0:=x.c0
 have e1:=x.c1
 have e2:=x.c2
 have e3:=x.c3
 have e4:=x.c4
 have e5:=x.c5
 have f0:=x.f 0
 have f1:=x.f 1
 have f2:=x.f 2
 have f3:=x.f 3
 have f4:=x.f 4
 have f5:=x.f 5
 clear hz1 hk1 hPn1 hnew1 hz2 hk2 hP2 x2 ht2 hU g6 hfm hS hc k1
 go_wp2_with fail
 obtain ⟨hz2,hk2,hP2,x2,ht2⟩:=HH.out
 clear HH e0 e1 e2 e3 e4 e5 f0 f1 f2 f3 f4 f5
 generalize (((((w1.setCell ⟨p,0,none⟩ (.int .i64 3)).setCell ⟨p,1,none⟩ (.bool sd1)).setCell ⟨p,2,none⟩ (.slice ad1 ld1 cd1)).setCell ⟨p,3,none⟩ (.slice ap1 1 cp1)).setCell ⟨p,4,none⟩ (.bool sk1)).setCell ⟨p,5,none⟩ (.slice ak1 lk1 ck1) = w2 at *
 replace hP2 : Pn w2 ap1 1 [(((0 : Nat) : Int),1)] (B + 1 + 16):=hP2
 go_region_held3 (fun w' => w'.cell? ⟨p,1,none⟩ = some (.bool sd1)∧w'.cell? ⟨p,2,none⟩ = some (.slice ad1 ld1 cd1)∧w'.cell? ⟨p,3,none⟩ = some (.slice ap1 1 cp1)∧w'.cell? ⟨p,4,none⟩ = some (.bool sk1)∧w'.cell? ⟨p,5,none⟩ = some (.slice ak1 lk1 ck1)∧Below w2.heap.size w2 w')
  ((refine aq6 x2 ?_; (with_reducible repeat' first | exact Below.refl _ _ | assumption | refine grow_step (by assumption) ?_ | refine grow_drew ?_ | refine grow_alloc ?_ _ | refine grow_drewN ?_ _)))
  (first | (go_at_call 48; with_reducible refine (ztext_n (Zn.zm (Zn.below hz2 gw)) (by omega) (Tab.below ht2 gw)).mono ?_; rintro e w4 ⟨rfl,hg4⟩; rw [zt_3]) | (go_at_call 47; with_reducible refine (termText_one (Pn.below hP2 gw) (Zn.below hk2 gw) hlk1 (by omega) (by decide) (by decide) (Tab.below ht2 gw)).mono ?_; rintro e w5 ⟨rfl,hg5⟩; rw [tt_0]))
 rename_i hH
 have kf:=hide (kw2.out.trans (hH.2.2.2.2.2.mono kw2.out.size))
 clear hH hg4 hg5
 go_wp2
 go_ret
 exact ⟨rfl,kf.out⟩
set_option maxRecDepth 100000 in
set_option maxHeartbeats 6400000 in
theorem text_less (hd : Zn w sd ad ld cd 0) (hld : ld≤B) (hP : Pn w ap 1 [(1,1)] B) (hk : Zn w sk ak lk ck 2) (hlk : lk≤B) (hB : B≤1000) (htab : Tab w) :
  Calls Tryz.prog 17 #[.agg #[.int .i64 2,.bool sd,.slice ad ld cd,.slice ap 1 cp,.bool sk,.slice ak lk ck]] w fun x w' => x = .returned (.string ⟨#[48,60,118,49,43,50]⟩)∧Below w.heap.size w w':=by
 go_enter Tryz.func17,Tryz.ntmps17
 go_wp2_with fail
 have x:=AB.new w 2 sd ad ld cd ap 1 cp sk ak lk ck
 have b0:=below_alloc w (.cells #[.int .i64 2,.bool sd,.slice ad ld cd,.slice ap 1 cp,.bool sk,.slice ak lk ck] 29)
 replace hd:=hd.below b0
 replace hP:=hP.below b0
 replace hk:=hk.below b0
 have htab0:=htab
 clear htab
 generalize w.alloc (.cells #[.int .i64 2,.bool sd,.slice ad ld cd,.slice ap 1 cp,.bool sk,.slice ak lk ck] 29) = wb at *
 generalize hp : w.heap.size = p at *
 replace b0 : Hid (Below w.heap.size w wb):=hp ▸ b0
 replace hp:=hide hp
 refine (anorm_n (kd:=2) (B:=B) hd.zm hld hP.pr hk.zm hlk (by omega) (by omega)).mono ?_
 rintro e w1 ⟨qs,hS,hc,hA,k1⟩
 obtain rfl : qs = [(1,1)]:=std_unique hS (std_1 1 1 (by decide)) hc
 have hfm : formA 2 0 [(1,1)] 2 = .inl ⟨2,0,[(1,1)],2⟩:=by unfold formA; rw [if_neg (by decide),if_pos rfl,form_less2]
 rw [hfm] at hA
 obtain ⟨sd1,ad1,ld1,cd1,ap1,np1,cp1,sk1,ak1,lk1,ck1,rfl,hz1,hlz1,hPn1,hnp1,hk1,hlk1,hnew1⟩:=hA
 dsimp only at hz1 hPn1 hk1
 obtain rfl : np1 = 1:=hPn1.1.symm
 have hplb:=x.lt
 have kp0 : w.heap.size≤p:=by have:=hp.out; omega
 replace x:=x.below k1
 have hpl:=x.lt
 have kk:=hide (grow_step k1 b0.out)
 have g6:=ab_set w1 p (.int .i64 2) (.bool sd1) (.slice ad1 ld1 cd1) (.slice ap1 1 cp1) (.bool sk1) (.slice ak1 lk1 ck1)
 have hU:=ab_noU x
 have hz2:=hz1.grownU g6 hU
 have hk2:=hk1.grownU g6 hU
 have hP2:=hPn1.away (fun b off e => by have h1:=hnew1 b off e; have h2:=hplb; omega) g6 hU
 have x2 : AB _ p 2 sd1 ad1 ld1 cd1 ap1 1 cp1 sk1 ak1 lk1 ck1:=ab_fin x 2 sd1 ad1 ld1 cd1 ap1 1 cp1 sk1 ak1 lk1 ck1
 have kw2:=hide (below_grown kk.out g6 (by have:=hp.out; omega))
 have ht2 : Tab _:=htab0.below kw2.out
 have HH:=hide (And.intro hz2 (And.intro hk2 (And.intro hP2 (And.intro x2 ht2))))
 have e0:=x.c0
 have e1:=x.c1
 have e2:=x.c2
 have e3:=x.c3
 have e4:=x.c4
 have e5:=x.c5
 have f0:=x.f 0
 have f1:=x.f 1
 have f2:=x.f 2
 have f3:=x.f 3
 have f4:=x.f 4
 have f5:=x.f 5
 clear hz1 hk1 hPn1 hnew1 hz2 hk2 hP2 x2 ht2 hU g6 hfm hS hc k1
 go_wp2_with fail
 obtain ⟨hz2,hk2,hP2,x2,ht2⟩:=HH.out
 clear HH e0 e1 e2 e3 e4 e5 f0 f1 f2 f3 f4 f5
 generalize (((((w1.setCell ⟨p,0,none⟩ (.int .i64 2)).setCell ⟨p,1,none⟩ (.bool sd1)).setCell ⟨p,2,none⟩ (.slice ad1 ld1 cd1)).setCell ⟨p,3,none⟩ (.slice ap1 1 cp1)).setCell ⟨p,4,none⟩ (.bool sk1)).setCell ⟨p,5,none⟩ (.slice ak1 lk1 ck1) = w2 at *
 replace hP2 : Pn w2 ap1 1 [(((1 : Nat) : Int),1)] (B + 1 + 16):=hP2
 refine (termText_one hP2 hk2 hlk1 (by omega) (by decide) (by decide) ht2).mono ?_
 rintro e w5 ⟨rfl,k5⟩
 rw [tt_1]
 have kf:=hide (kw2.out.trans (k5.mono kw2.out.size))
 clear k5
 go_wp2
 go_ret
 exact ⟨rfl,kf.out⟩
set_option maxRecDepth 100000 in
set_option maxHeartbeats 6400000 in
theorem awake6_n (w : World) (htab : Tab w) :
  Calls Tryz.prog 5 #[] w fun x w' => x = .returned (.bool true)∧Below w.heap.size w w':=by
 go_enter Tryz.func5,Tryz.ntmps5
 go_wp2_with fail
 refine (zof_n (-6) (by decide) (by decide) w).mono ?_
 rintro e w1 ⟨s1,a1,l1,c1,rfl,hz1,k1,hl1⟩
 replace k1:=hide k1
 go_wp2_with fail
 refine (zof_n 4 (by decide) (by decide) w1).mono ?_
 rintro e w2 ⟨s2,a2,l2,c2,rfl,hz2,k2,hl2⟩
 replace hz1:=hz1.below k2
 replace k2:=hide (grow_step k2 k1.out)
 clear k1
 go_wp2_with fail
 refine (tvar_n (B:=2) (by unfold I64; decide) (by decide)).mono ?_
 rintro e w3 ⟨ad3,cp3,rs3,rfl,hT3,hrs3⟩
 replace hz1:=hz1.below hT3.below
 replace hz2:=hz2.below hT3.below
 have hP3:=hT3.pn
 rw [hrs3] at hP3
 have hZ3:=hT3.zn
 have k3:=hide (grow_step hT3.below k2.out)
 clear k2 hT3
 go_wp2_with fail
 refine (tscale_n hz2.zm (by omega) hP3.pr hZ3.zm (by decide) (by decide)).mono ?_
 rintro e w4 ⟨ad4,n4,cp4,s4,a4,l4,c4,qs4,rfl,hT4,hn4,hS4,hc4,k4⟩
 obtain rfl : qs4 = [(0,4)]:=std_unique hS4 (std_1 0 4 (by decide)) (fun v => hc4 v)
 replace hz1:=hz1.below k4
 replace k4:=hide (grow_step k4 k3.out)
 obtain ⟨hP4,hZ4,hl4⟩:=hT4
 have hl4' : l4≤6:=by omega
 replace hP4:=hP4.mono (B':=6) (by omega)
 clear k3 hl4 hS4 hc4 hz2 hP3 hZ3
 go_wp2_with fail
 refine (adiv_n (B:=6) hz1.zm (by omega) hP4 hZ4 hl4' (by omega) (by omega) (by decide)).mono ?_
 rintro e w5 ⟨qs5,hS5,hc5,hA5,k5⟩
 obtain rfl : qs5 = [(0,4)]:=std_unique hS5 (std_1 0 4 (by decide)) hc5
 rw [show divF 3 (-6) [(0,4)] (4 * 0) = _ from form_div] at hA5
 obtain ⟨sd5,ad5,ld5,cd5,ap5,np5,cp5,sk5,ak5,lk5,ck5,rfl,hd5,hld5,hP5,hnp5,hk5,hlk5, -⟩:=hA5
 dsimp only at hd5 hP5 hk5
 obtain rfl : np5 = 1:=hP5.1.symm
 have hA5:=AB.new w5 3 sd5 ad5 ld5 cd5 ap5 1 cp5 sk5 ak5 lk5 ck5
 have ka:=below_alloc w5 (.cells #[.int .i64 3,.bool sd5,.slice ad5 ld5 cd5,.slice ap5 1 cp5,.bool sk5,.slice ak5 lk5 ck5] 29)
 replace hd5:=hd5.below ka
 replace hP5:=hP5.below ka
 replace hk5:=hk5.below ka
 replace k5:=hide (grow_step ka (grow_step k5 k4.out))
 clear k4 ka hS5 hc5 hP4 hZ4 hz1
 go_wp2_with fail
 generalize w5.alloc (.cells #[.int .i64 3,.bool sd5,.slice ad5 ld5 cd5,.slice ap5 1 cp5,.bool sk5,.slice ak5 lk5 ck5] 29) = wA at *
 generalize w5.heap.size = bA at *
 refine (zof_n 2 (by decide) (by decide) wA).mono ?_
 rintro e w2 ⟨s2,a2,l2,c2,rfl,hz2,k2,hl2⟩
 have KA:=hide k2
 have KW:=k5
 clear k5 k2
 go_wp2_with fail
 refine (tvar_n (B:=2) (by unfold I64; decide) (by decide)).mono ?_
 rintro e w3 ⟨ad3,cp3,rs3,rfl,hT3,hrs3⟩
 replace hz2:=hz2.below hT3.below
 have hP3:=hT3.pn
 rw [hrs3] at hP3
 have hZ3:=hT3.zn
 replace KA:=hide (grow_step hT3.below KA.out)
 clear hT3
 go_wp2_with fail
 refine (tscale_n hz2.zm (by omega) hP3.pr hZ3.zm (by decide) (by decide)).mono ?_
 rintro e w4 ⟨ad4,n4,cp4,s4,a4,l4,c4,qs4,rfl,hT4,hn4,hS4,hc4,k4⟩
 obtain rfl : qs4 = [(1,2)]:=std_unique hS4 (std_1 1 2 (by decide)) (fun v => hc4 v)
 replace KA:=hide (grow_step k4 KA.out)
 clear k4 hS4 hc4 hz2 hP3 hZ3
 replace hT4:=hT4.mono (B':=6) (by omega)
 go_wp2_with fail
 refine (zof_n 3 (by decide) (by decide) w4).mono ?_
 rintro e w6 ⟨s6,a6,l6,c6,rfl,hz6,k6,hl6⟩
 replace hT4:=hT4.below k6
 replace KA:=hide (grow_step k6 KA.out)
 clear k6
 go_wp2_with fail
 refine (tconst_n (B:=6) hz6.zm (by omega) (by decide)).mono ?_
 rintro e w7 ⟨s7,a7,l7,c7,rfl,hT7⟩
 replace hT4:=hT4.below hT7.below
 replace KA:=hide (grow_step hT7.below KA.out)
 have hT7':=hT7.tw
 clear hT7 hz6
 go_wp2_with fail
 refine (tadd_n (B:=6) hT4.1 hT4.2.1 hT4.2.2 hT7'.1 hT7'.2.1 hT7'.2.2 (by omega)).mono ?_
 rintro e w8 ⟨ad8,n8,cp8,s8,a8,l8,c8,rs8,rfl,hT8,hn8,hS8,hc8⟩
 replace KA:=hide (grow_step hT8.below KA.out)
 have hT8':=hT8.tw
 clear hT8 hT4 hT7'
 generalize rs8.map Raw.p = qs8 at *
 obtain rfl : qs8 = [(1,2)]:=std_unique hS8 (std_1 1 2 (by decide)) (fun v => hc8 v)
 obtain ⟨hP8,hZ8,hl8⟩:=hT8'
 replace hP8:=hP8.mono (B':=12) (by omega)
 go_wp2_with fail
 refine (less_n (B:=12) hP8 hZ8 (by omega) (by omega) (by omega)).mono ?_
 rintro e w9 ⟨qs9,hS9,hc9,hA9,k9⟩
 obtain rfl : qs9 = [(1,2)]:=std_unique hS9 (std_1 1 2 (by decide)) hc9
 rw [show lessF [(1,2)] (2 * 0 + 3) = _ from form_less] at hA9
 obtain ⟨sd6,ad6,ld6,cd6,ap6,np6,cp6,sk6,ak6,lk6,ck6,rfl,hd6,hld6,hP6,hnp6,hk6,hlk6, -⟩:=hA9
 dsimp only at hd6 hP6 hk6
 obtain rfl : np6 = 1:=hP6.1.symm
 have hA6:=AB.new w9 2 sd6 ad6 ld6 cd6 ap6 1 cp6 sk6 ak6 lk6 ck6
 have kb:=below_alloc w9 (.cells #[.int .i64 2,.bool sd6,.slice ad6 ld6 cd6,.slice ap6 1 cp6,.bool sk6,.slice ak6 lk6 ck6] 29)
 replace hd6:=hd6.below kb
 replace hP6:=hP6.below kb
 replace hk6:=hk6.below kb
 replace KA:=hide (grow_step kb (grow_step k9 KA.out))
 clear k9 kb hS9 hc9 hS8 hc8 hP8 hZ8
 replace hA5:=hA5.below KA.out
 have u0:=hA5.c0
 have u1:=hA5.c1
 have u2:=hA5.c2
 have u3:=hA5.c3
 have u4:=hA5.c4
 have u5:=hA5.c5
 go_wp2_with fail
 generalize w9.alloc (.cells #[.int .i64 2,.bool sd6,.slice ad6 ld6 cd6,.slice ap6 1 cp6,.bool sk6,.slice ak6 lk6 ck6] 29) = wB at *
 generalize w9.heap.size = bB at *
 have htB : Tab wB:=htab.below (grow_step KA.out KW.out)
 refine (text_div (B:=23) (hd5.below KA.out) (by omega) ((hP5.below KA.out).mono (by omega)) (hk5.below KA.out) (by omega) (by decide) htB).mono ?_
 rintro e wC ⟨rfl,kC⟩
 replace hA6:=hA6.below kC
 replace hd6:=hd6.below kC
 replace hP6:=hP6.below kC
 replace hk6:=hk6.below kC
 replace KA:=hide (grow_step kC KA.out)
 have htC:=htB.below kC
 clear kC u0 u1 u2 u3 u4 u5 hA5 hd5 hP5 hk5 htB
 have u0:=hA6.c0
 have u1:=hA6.c1
 have u2:=hA6.c2
 have u3:=hA6.c3
 have u4:=hA6.c4
 have u5:=hA6.c5
 go_wp2_with fail
 refine (text_less (B:=12 + n8 + 16) hd6 hld6 hP6 hk6 hlk6 (by omega) htC).mono ?_
 rintro e wD ⟨rfl,kD⟩
 have kf:=hide (grow_step (grow_step kD KA.out) KW.out)
 clear kD
 go_wp2
 go_ret
 exact ⟨rfl,kf.out⟩
end Go.Proofs.YtepdckgfolkjjaaGreatDoor.Fp
