/-
 Several texts in one: B6,B7,BB,G3,BJ,BL,BM,BN,BC.
-/
import Derived.Test.YtcfmkjegolpgaaaGreatDoorPT
import Derived.Test.YtcfmkjegolpgaaaGreatDoorP28
import Derived.Test.YtcfmkjegolpgaaaGreatDoorP24
import Derived.Test.YtcfmkjegolpgaaaGreatDoorP25
import Derived.Test.YtcfmkjegolpgaaaGreatDoorP22
import Derived.Test.YtcfmkjegolpgaaaGreatDoorP21
import Derived.Test.YtcfmkjegolpgaaaGreatDoorP15
set_option maxRecDepth 100000
set_option maxHeartbeats 6400000
namespace Go.Proofs.YtcfmkjegolpgaaaGreatDoor
open Go.RowKit Go.Sort Go.Shelf
open Tm At

def AB (w : World) (r : Nat) (kd : Int) (s : Bool) (a : Option Addr) (l c : Nat) (ad : Option Addr) (n cp : Nat) (t : Bool) (b : Option Addr) (m d : Nat) : Prop :=
 w.heap[r]? = some (.cells #[.int .i64 kd,.bool s,.slice a l c,.slice ad n cp,.bool t,.slice b m d] 42 (0,0))
namespace AB
variable {w w' : World} {r : Nat} {kd : Int} {s : Bool} {a : Option Addr} {l c : Nat} {ad : Option Addr} {n cp : Nat} {t : Bool} {b : Option Addr} {m d : Nat}
theorem lt (h : AB w r kd s a l c ad n cp t b m d) : r < w.heap.size:=(Array.getElem?_eq_some_iff.1 h).1
theorem c0 (h : AB w r kd s a l c ad n cp t b m d) : w.cell? ⟨r,0,none⟩ = some (.int .i64 kd):=cell_of_row w r 0 _ _ (0,0) h
theorem c1 (h : AB w r kd s a l c ad n cp t b m d) : w.cell? ⟨r,1,none⟩ = some (.bool s):=cell_of_row w r 1 _ _ (0,0) h
theorem c2 (h : AB w r kd s a l c ad n cp t b m d) : w.cell? ⟨r,2,none⟩ = some (.slice a l c):=cell_of_row w r 2 _ _ (0,0) h
theorem c3 (h : AB w r kd s a l c ad n cp t b m d) : w.cell? ⟨r,3,none⟩ = some (.slice ad n cp):=cell_of_row w r 3 _ _ (0,0) h
theorem c4 (h : AB w r kd s a l c ad n cp t b m d) : w.cell? ⟨r,4,none⟩ = some (.bool t):=cell_of_row w r 4 _ _ (0,0) h
theorem c5 (h : AB w r kd s a l c ad n cp t b m d) : w.cell? ⟨r,5,none⟩ = some (.slice b m d):=cell_of_row w r 5 _ _ (0,0) h
theorem f (h : AB w r kd s a l c ad n cp t b m d) (i : Nat) : w.frozen? ⟨r,i,none⟩ = false:=frozen_of_row w r i _ _ h
theorem below (h : AB w r kd s a l c ad n cp t b m d) (hb : Below w.heap.size w w') : AB w' r kd s a l c ad n cp t b m d:=(hb.block r h.lt).trans h
theorem new (w : World) (kd : Int) (s : Bool) (a : Option Addr) (l c : Nat) (ad : Option Addr) (n cp : Nat) (t : Bool) (b : Option Addr) (m d : Nat) : AB (w.alloc (.cells #[.int .i64 kd,.bool s,.slice a l c,.slice ad n cp,.bool t,.slice b m d] 42)) w.heap.size kd s a l c ad n cp t b m d:=heap_alloc_new w _
end AB

theorem aq5 {w w' : World} {p b : Nat} {kd : Int} {s : Bool} {a : Option Addr} {l c : Nat} {ad : Option Addr} {n cp : Nat} {t : Bool} {a5 : Option Addr} {m d : Nat} {s2 : Bool} {a2 : Option Addr} {l2 c2 : Nat} (x : AB w p kd s a l c ad n cp t a5 m d) (z : ZB w b s2 a2 l2 c2) (k : Below w.heap.size w w') :
  w'.cell? ⟨p,3,none⟩ = some (.slice ad n cp)∧w'.cell? ⟨p,4,none⟩ = some (.bool t)∧w'.cell? ⟨p,5,none⟩ = some (.slice a5 m d)∧w'.cell? ⟨b,0,none⟩ = some (.bool s2)∧w'.cell? ⟨b,1,none⟩ = some (.slice a2 l2 c2)∧Below w.heap.size w w' :=
 ⟨(x.below k).c3,(x.below k).c4,(x.below k).c5,(z.below k).c0,(z.below k).c1,k⟩

theorem zb2_set (w : World) (b : Nat) (v0 v1 : Value) : w.grownBy ((w.setCell ⟨b,0,none⟩ v0).setCell ⟨b,1,none⟩ v1) (some b):=gb_trans (gb_set w b 0 v0) (gb_set _ b 1 v1)
theorem zb2_noU {w : World} {b : Nat} {s : Bool} {a : Option Addr} {l c : Nat} (y : ZB w b s a l c) : NoU w b:=by
 intro off x
 rw [cell_of_row w b off _ _ (0,0) y]
 match off with
 | 0 => simp
 | 1 => simp
 | k + 2 => simp

theorem zq2 {w w' : World} {b : Nat} {s : Bool} {a : Option Addr} {l c : Nat} (z : ZB w b s a l c) (k : Below w.heap.size w w') : w'.cell? ⟨b,0,none⟩ = some (.bool s)∧w'.cell? ⟨b,1,none⟩ = some (.slice a l c)∧Below w.heap.size w w':=⟨(z.below k).c0,(z.below k).c1,k⟩
theorem tq5 {w w' : World} {p b : Nat} {ad : Option Addr} {n cp : Nat} {s : Bool} {a : Option Addr} {l c : Nat} {s2 : Bool} {a2 : Option Addr} {l2 c2 : Nat} (x : TB w p ad n cp s a l c) (z : ZB w b s2 a2 l2 c2) (k : Below w.heap.size w w') :
  w'.cell? ⟨p,0,none⟩ = some (.slice ad n cp)∧w'.cell? ⟨p,1,none⟩ = some (.bool s)∧w'.cell? ⟨p,2,none⟩ = some (.slice a l c)∧w'.cell? ⟨b,0,none⟩ = some (.bool s2)∧w'.cell? ⟨b,1,none⟩ = some (.slice a2 l2 c2)∧Below w.heap.size w w' :=
 ⟨(x.below k).c0,(x.below k).c1,(x.below k).c2,(z.below k).c0,(z.below k).c1,k⟩
def AE (w : World) (e : Ending) (f : Atm) (B B0 : Nat) : Prop :=
 ∃ sd ad ld cd ap np cp sk ak lk ck,e = .returned (.tuple #[.agg #[.int .i64 f.kind,.bool sd,.slice ad ld cd,.slice ap np cp,.bool sk,.slice ak lk ck],.int .i64 0])∧Zn w sd ad ld cd f.d∧ld≤B∧Pn w ap np f.ps B∧np≤B∧Zn w sk ak lk ck f.k∧lk≤B∧∀ b off,ap = some ⟨b,off,none⟩→B0≤b

theorem divi_n {w : World} {kd : Int} {sd : Bool} {ad : Option Addr} {ld cd : Nat} {ap : Option Addr} {np cp : Nat} {sk : Bool} {ak : Option Addr} {lk ck : Nat} {d k : Int} {ps : List (Int × Int)} {B : Nat} {al ne : Int}
  (hd : Zm w sd ad ld cd d) (hld : ld≤B) (hP : Pr w ap np ps B) (hk : Zm w sk ak lk ck k) (hlk : lk≤B) (hn : np≤262144) (hB : B + np + 1≤4194000) (hal : al = if kd = 3 then 1 else 0) (hne : ne = if kd = 3 then 0 else 1) (hd0 : d ≠ 0) :
  Calls Tryz.prog 64 #[.agg #[.int .i64 kd,.bool sd,.slice ad ld cd,.slice ap np cp,.bool sk,.slice ak lk ck],.int .i64 al,.int .i64 ne] w fun e w' => ∃ qs,Std qs∧(∀ v,csum qs v = csum ps v)∧AE w' e (divF kd d qs k) (B + np + 16) w.heap.size∧Below w.heap.size w w':=by
 have eg : ∀ args w,(callFunc 107 args).run Tryz.prog w = .ok (.enter 107 args) w:=enters_of Tryz.func107 k_f rfl
 have eg2 : ∀ args w,(callFunc 108 args).run Tryz.prog w = .ok (.enter 108 args) w:=enters_of Tryz.func108 k_f rfl
 replace eg:=hide eg
 replace eg2:=hide eg2
 replace hal:=hide hal
 replace hne:=hide hne
 go_enter Tryz.func64,Tryz.ntmps64
 go_wp2_with fail
 have x:=(AB.new w kd sd ad ld cd ap np cp sk ak lk ck).below (below_alloc _ (.cells #[.int .i64 0,.bool false,.slice none 0 0,.slice none 0 0,.bool false,.slice none 0 0] 42))
 have y:=AB.new (w.alloc (.cells #[.int .i64 kd,.bool sd,.slice ad ld cd,.slice ap np cp,.bool sk,.slice ak lk ck] 42)) 0 false none 0 0 none 0 0 false none 0 0
 rw [show (w.alloc (.cells #[.int .i64 kd,.bool sd,.slice ad ld cd,.slice ap np cp,.bool sk,.slice ak lk ck] 42)).heap.size = w.heap.size + 1 from by simp] at y
 have b0 : Below w.heap.size w ((w.alloc (.cells #[.int .i64 kd,.bool sd,.slice ad ld cd,.slice ap np cp,.bool sk,.slice ak lk ck] 42)).alloc (.cells #[.int .i64 0,.bool false,.slice none 0 0,.slice none 0 0,.bool false,.slice none 0 0] 42)):=below_alloc' (below_alloc _ _) _
 generalize (w.alloc (.cells #[.int .i64 kd,.bool sd,.slice ad ld cd,.slice ap np cp,.bool sk,.slice ak lk ck] 42)).alloc (.cells #[.int .i64 0,.bool false,.slice none 0 0,.slice none 0 0,.bool false,.slice none 0 0] 42) = wb at *
 replace hP:=hP.below b0
 replace hd:=hd.below b0
 replace hk:=hk.below b0
 generalize hp : w.heap.size = p at *
 replace b0 : Hid (Below w.heap.size w wb):=hp ▸ b0
 have hpr : Hid (w.heap.size = p∧p < p + 1):=⟨hp,by omega⟩
 clear hp
 generalize p + 1 = r at *
 refine (zsign_n hd o_m).mono ?_
 rintro e w1 ⟨rfl,k1⟩
 have hsg : (cmpI d 0 == 0) = false:=by rw [beq_eq_false_iff_ne]; unfold cmpI; split <;> (try split) <;> omega
 generalize cmpI d 0 = cz at *
 replace x:=x.below k1
 replace y:=y.below k1
 replace hP:=hP.below k1
 replace hd:=hd.below k1
 replace hk:=hk.below k1
 replace k1:=hide (grow_step k1 b0.out)
 clear b0
 have u1:=x.c1
 have u2:=x.c2
 go_wp2_with fail
 refine (abs_n hd o_m).mono ?_
 rintro e w2 ⟨s2,a2,l2,c2,rfl,hd2,k2,hl2⟩
 have hpb : p < w2.heap.size:=(x.below k2).lt
 have hrb : r < w2.heap.size:=(y.below k2).lt
 have z2:=zb_new w2 s2 a2 l2 c2
 have kz:=below_alloc w2 (.cells #[.bool s2,.slice a2 l2 c2] 37)
 replace x:=(x.below k2).below kz
 replace y:=(y.below k2).below kz
 replace hP:=(hP.below k2).below kz
 replace hk:=(hk.below k2).below kz
 replace hd2:=hd2.below kz
 replace k2:=hide (grow_step kz (grow_step k2 k1.out))
 clear u1 u2 hd k1 kz hsg
 generalize hb2 : w2.heap.size = b2 at *
 go_wp2_with fail
 generalize w2.alloc (.cells #[.bool s2,.slice a2 l2 c2] 37) = wD at *
 have hb2D:=z2.lt
 have hD0 : (0 : Int) < ((d.natAbs : Nat) : Int):=by omega
 refine Code.wp_mono (Q:=fun e a' W' => e = .normal∧∃ b9 adA nA cpA sA aA lA cA adB nB cpB sB aB lB cB qs,a' = ⟨List.toArray ((.agg #[.int .i64 kd,.bool sd,.slice ad ld cd,.slice ap np cp,.bool sk,.slice ak lk ck] : Value) :: (.int .i64 al : Value) :: (.int .i64 ne : Value) :: (.pointer (some ⟨p,0,none⟩) : Value) :: undef :: undef :: (.pointer (some ⟨r,0,none⟩) : Value) :: (.int .i64 0 : Value) :: (.pointer (some ⟨b2,0,none⟩) : Value) :: (.pointer (some ⟨b9,0,none⟩) : Value) :: undef :: undef :: (.pointer (some ⟨p,1,none⟩) : Value) :: (.agg #[.bool sd,.slice ad ld cd] : Value) :: (.int .i64 cz : Value) :: (.bool false : Value) :: undef :: (.pointer (some ⟨p,1,none⟩) : Value) :: (.agg #[.bool sd,.slice ad ld cd] : Value) :: (.agg #[.bool s2,.slice a2 l2 c2] : Value) :: (.pointer (some ⟨p,3,none⟩) : Value) :: (.agg #[.slice ap np cp,.bool sk,.slice ak lk ck] : Value) :: (.agg #[.slice adA nA cpA,.bool sA,.slice aA lA cA] : Value) :: (.agg #[.bool s2,.slice a2 l2 c2] : Value) :: (.agg #[.slice adB nB cpB,.bool sB,.slice aB lB cB] : Value) :: undef :: undef :: undef :: undef :: undef :: undef :: undef :: undef :: undef :: undef :: undef :: undef :: undef :: undef :: undef :: undef :: undef :: undef :: undef :: undef :: undef :: undef :: undef :: undef :: undef :: undef :: undef :: undef :: undef :: undef :: undef :: undef :: undef :: undef :: undef :: undef :: undef :: []),[]⟩∧TB W' b9 adB nB cpB sB aB lB cB∧Pn W' adB nB (eachP (fun x => x % ((d.natAbs : Nat) : Int)) qs) l2∧Zn W' sB aB lB cB (k % ((d.natAbs : Nat) : Int))∧lB≤l2∧nB≤np∧(∀ b off,adB = some ⟨b,off,none⟩→wD.heap.size≤b)∧Std qs∧(∀ v,csum qs v = csum ps v)∧wD.heap.size≤b9∧Below wD.heap.size wD W') ?_ ?_
 rotate_left
 ·refine wp_region_held_drew (S:=(fun w' => w'.cell? ⟨p,3,none⟩ = some (.slice ap np cp)∧w'.cell? ⟨p,4,none⟩ = some (.bool sk)∧w'.cell? ⟨p,5,none⟩ = some (.slice ak lk ck)∧w'.cell? ⟨b2,0,none⟩ = some (.bool s2)∧w'.cell? ⟨b2,1,none⟩ = some (.slice a2 l2 c2)∧Below wD.heap.size wD w')) k_f (aq5 x z2 (grow_drew (Below.refl _ _))) (fun hHeld => ?_)
  show wpAnyH _ _ _ _ _ 7 _ _ _
  have kW:=grow_drew (Below.refl wD.heap.size wD)
  generalize wD.drew = wQ at *
  refine wpAnyH_take (i:=0) (oi:=⟨some 20,_,_,_,_,_⟩) (v:=?_) rfl k_f k_f k_f (fun _ _ _ h => by cases h.1) (Or.inl ⟨by rfl,?_⟩) (by assumption) ?_
  rotate_left
  ·intro wq hSw; (try dsimp only at hSw); go_simp; (try with_reducible rfl)
  (try simp only [pz])
  refine wpAnyH_take (i:=1) (oi:=⟨some 21,_,_,_,_,_⟩) (v:=?_) rfl k_f k_f k_f (fun _ _ _ h => by cases h.1) (Or.inl ⟨by rfl,?_⟩) (by assumption) ?_
  rotate_left
  ·intro wq hSw; (try dsimp only at hSw); go_simp; (try with_reducible rfl)
  (try simp only [pz])
  refine wpAnyH_take (i:=3) (oi:=⟨some 23,_,_,_,_,_⟩) (v:=?_) rfl k_f k_f k_f (fun _ _ _ h => by cases h.1) (Or.inl ⟨by rfl,?_⟩) (by assumption) ?_
  rotate_left
  ·intro wq hSw; (try dsimp only at hSw); go_simp; (try with_reducible rfl)
  (try simp only [pz])
  refine wpAnyH_ready (rs:=[2,5]) k_f (by simp) ?_
  refine AllReadyH.cons (o:=⟨some 22,_,_,_,_,_⟩) rfl (fun K hK => ?_) ?_
  ·go_simp
   go_at_call 94; refine Calls.mono (tnorm_n (hP.below kW) (hk.below kW) hlk o_m) ?_; rintro e wA ⟨adA,nA,cpA,sA,aA,lA,cA,rs,rfl,hTN,hnA,hStd,hcs⟩; have kA:=hTN.below; have hPA:=hTN.pn; have hZA:=hTN.zn; have hlA:=hTN.le; clear hTN; generalize rs.map Raw.p = qs at *
   have kW:=grow_step kA kW
   (try go_wp2_with fail)
   refine hK.out _ _ ?_ ?_
   ·(try dsimp only); exact aq5 x z2 kW
   clear hK K hHeld; intro hHeld
   (try simp only [pz])
   refine wpAnyH_ready (rs:=[4,5]) k_f (by simp) ?_
   refine AllReadyH.cons (o:=⟨some 24,_,_,_,_,_⟩) rfl (fun K hK => ?_) ?_
   ·go_simp
    go_at_call 104; refine Calls.mono (modulo_n (B:=B + np + 1) hPA.pr hZA.zm hlA (hd2.zm.below kW) hD0 o_m o_m o_m) ?_; rintro e wB ⟨adB,nB,cpB,sB,aB,lB,cB,rfl,hPB,hZB,hlB,hnB,hnewB,kB⟩; have hnew : ∀ b off,adB = some ⟨b,off,none⟩→wD.heap.size≤b:=fun b off e => Nat.le_trans kW.size (hnewB b off e)
    have hPA:=hPA.below kB
    have hZA:=hZA.below kB
    have kW:=grow_step kB kW
    (try go_wp2_with fail)
    refine hK.out _ _ ?_ ?_
    ·(try dsimp only); exact aq5 x z2 kW
    clear hK K hHeld; intro hHeld
    (try simp only [pz])
    refine ryz 5 (some 9) (fun K hK => ?_) ?_
    ·have kL:=below_alloc (wB) (.cells #[.slice none 0 0,.bool false,.slice none 0 0] 40)
     have hPA:=hPA.below kL
     have hZA:=hZA.below kL
     have hPB:=hPB.below kL
     have hZB:=hZB.below kL
     have z9 : TB ((wB).alloc (.cells #[.slice none 0 0,.bool false,.slice none 0 0] 40)) (wB.heap.size) none 0 0 false none 0 0:=tb_new _ _ _ _ _ _ _ _
     have hbz9 : wD.heap.size≤wB.heap.size:=kW.size
     have kW:=grow_step kL kW
     go_simp
     refine hK.out _ _ ?_ ?_
     ·(try dsimp only); exact aq5 x z2 kW
     clear hK K hHeld; intro hHeld
     (try simp only [pz])
     generalize (wB).alloc (.cells #[.slice none 0 0,.bool false,.slice none 0 0] 40) = wLz9 at *
     refine ryz 6 none (fun K hK => ?_) ?_
     ·skip
      have f0:=z9.c0
      have f1:=z9.c1
      have f2:=z9.c2
      have f3:=z9.f 0
      have f4:=z9.f 1
      have f5:=z9.f 2
      go_simp
      have gS:=tb_set wLz9 (wB.heap.size) (.slice adB nB cpB) (.bool sB) (.slice aB lB cB)
      have hPB:=hPB.tb z9 gS
      have hZB:=hZB.grownU gS (tb_noU z9)
      have z9:=tb_fin z9 adB nB cpB sB aB lB cB
      have kW:=((kW.setCell (p:=⟨wB.heap.size,0,none⟩) hbz9 (.slice adB nB cpB)).setCell (p:=⟨wB.heap.size,1,none⟩) hbz9 (.bool sB)).setCell (p:=⟨wB.heap.size,2,none⟩) hbz9 (.slice aB lB cB)
      refine hK.out _ _ ?_ ?_
      ·(try dsimp only); exact aq5 x z2 kW
      clear hK K hHeld; intro hHeld
      (try simp only [pz])
      refine wpAnyH_done k_f ?_ _
      exact ⟨rfl,_,adA,nA,cpA,sA,aA,lA,cA,adB,nB,cpB,sB,aB,lB,cB,qs,rfl,z9,hPB,hZB,hlB,Nat.le_trans hnB hnA,hnew,hStd,hcs,hbz9,kW⟩
     exact AllReadyH.nil
    exact AllReadyH.nil
   refine AllReadyH.cons (o:=⟨some 9,_,_,_,_,_⟩) rfl (fun K hK => ?_) ?_
   ·have kL:=below_alloc (wA) (.cells #[.slice none 0 0,.bool false,.slice none 0 0] 40)
    have hPA:=hPA.below kL
    have hZA:=hZA.below kL
    have z9 : TB ((wA).alloc (.cells #[.slice none 0 0,.bool false,.slice none 0 0] 40)) (wA.heap.size) none 0 0 false none 0 0:=tb_new _ _ _ _ _ _ _ _
    have hbz9 : wD.heap.size≤wA.heap.size:=kW.size
    have kW:=grow_step kL kW
    go_simp
    refine hK.out _ _ ?_ ?_
    ·(try dsimp only); exact aq5 x z2 kW
    clear hK K hHeld; intro hHeld
    (try simp only [pz])
    generalize (wA).alloc (.cells #[.slice none 0 0,.bool false,.slice none 0 0] 40) = wLz9 at *
    refine ryz 4 (some 24) (fun K hK => ?_) ?_
    ·go_simp
     go_at_call 104; refine Calls.mono (modulo_n (B:=B + np + 1) hPA.pr hZA.zm hlA (hd2.zm.below kW) hD0 o_m o_m o_m) ?_; rintro e wB ⟨adB,nB,cpB,sB,aB,lB,cB,rfl,hPB,hZB,hlB,hnB,hnewB,kB⟩; have hnew : ∀ b off,adB = some ⟨b,off,none⟩→wD.heap.size≤b:=fun b off e => Nat.le_trans kW.size (hnewB b off e)
     have hPA:=hPA.below kB
     have hZA:=hZA.below kB
     have z9:=z9.below kB
     have kW:=grow_step kB kW
     (try go_wp2_with fail)
     refine hK.out _ _ ?_ ?_
     ·(try dsimp only); exact aq5 x z2 kW
     clear hK K hHeld; intro hHeld
     (try simp only [pz])
     refine ryz 6 none (fun K hK => ?_) ?_
     ·skip
      have f0:=z9.c0
      have f1:=z9.c1
      have f2:=z9.c2
      have f3:=z9.f 0
      have f4:=z9.f 1
      have f5:=z9.f 2
      go_simp
      have gS:=tb_set wB (wA.heap.size) (.slice adB nB cpB) (.bool sB) (.slice aB lB cB)
      have hPB:=hPB.tb z9 gS
      have hZB:=hZB.grownU gS (tb_noU z9)
      have z9:=tb_fin z9 adB nB cpB sB aB lB cB
      have kW:=((kW.setCell (p:=⟨wA.heap.size,0,none⟩) hbz9 (.slice adB nB cpB)).setCell (p:=⟨wA.heap.size,1,none⟩) hbz9 (.bool sB)).setCell (p:=⟨wA.heap.size,2,none⟩) hbz9 (.slice aB lB cB)
      refine hK.out _ _ ?_ ?_
      ·(try dsimp only); exact aq5 x z2 kW
      clear hK K hHeld; intro hHeld
      (try simp only [pz])
      refine wpAnyH_done k_f ?_ _
      exact ⟨rfl,_,adA,nA,cpA,sA,aA,lA,cA,adB,nB,cpB,sB,aB,lB,cB,qs,rfl,z9,hPB,hZB,hlB,Nat.le_trans hnB hnA,hnew,hStd,hcs,hbz9,kW⟩
     exact AllReadyH.nil
    exact AllReadyH.nil
   exact AllReadyH.nil
  refine AllReadyH.cons (o:=⟨some 9,_,_,_,_,_⟩) rfl (fun K hK => ?_) ?_
  ·have kL:=below_alloc (wQ) (.cells #[.slice none 0 0,.bool false,.slice none 0 0] 40)
   have z9 : TB ((wQ).alloc (.cells #[.slice none 0 0,.bool false,.slice none 0 0] 40)) (wQ.heap.size) none 0 0 false none 0 0:=tb_new _ _ _ _ _ _ _ _
   have hbz9 : wD.heap.size≤wQ.heap.size:=kW.size
   have kW:=grow_step kL kW
   go_simp
   refine hK.out _ _ ?_ ?_
   ·(try dsimp only); exact aq5 x z2 kW
   clear hK K hHeld; intro hHeld
   (try simp only [pz])
   generalize (wQ).alloc (.cells #[.slice none 0 0,.bool false,.slice none 0 0] 40) = wLz9 at *
   refine ryz 2 (some 22) (fun K hK => ?_) ?_
   ·go_simp
    go_at_call 94; refine Calls.mono (tnorm_n (hP.below kW) (hk.below kW) hlk o_m) ?_; rintro e wA ⟨adA,nA,cpA,sA,aA,lA,cA,rs,rfl,hTN,hnA,hStd,hcs⟩; have kA:=hTN.below; have hPA:=hTN.pn; have hZA:=hTN.zn; have hlA:=hTN.le; clear hTN; generalize rs.map Raw.p = qs at *
    have z9:=z9.below kA
    have kW:=grow_step kA kW
    (try go_wp2_with fail)
    refine hK.out _ _ ?_ ?_
    ·(try dsimp only); exact aq5 x z2 kW
    clear hK K hHeld; intro hHeld
    (try simp only [pz])
    refine ryz 4 (some 24) (fun K hK => ?_) ?_
    ·go_simp
     go_at_call 104; refine Calls.mono (modulo_n (B:=B + np + 1) hPA.pr hZA.zm hlA (hd2.zm.below kW) hD0 o_m o_m o_m) ?_; rintro e wB ⟨adB,nB,cpB,sB,aB,lB,cB,rfl,hPB,hZB,hlB,hnB,hnewB,kB⟩; have hnew : ∀ b off,adB = some ⟨b,off,none⟩→wD.heap.size≤b:=fun b off e => Nat.le_trans kW.size (hnewB b off e)
     have z9:=z9.below kB
     have hPA:=hPA.below kB
     have hZA:=hZA.below kB
     have kW:=grow_step kB kW
     (try go_wp2_with fail)
     refine hK.out _ _ ?_ ?_
     ·(try dsimp only); exact aq5 x z2 kW
     clear hK K hHeld; intro hHeld
     (try simp only [pz])
     refine ryz 6 none (fun K hK => ?_) ?_
     ·skip
      have f0:=z9.c0
      have f1:=z9.c1
      have f2:=z9.c2
      have f3:=z9.f 0
      have f4:=z9.f 1
      have f5:=z9.f 2
      go_simp
      have gS:=tb_set wB (wQ.heap.size) (.slice adB nB cpB) (.bool sB) (.slice aB lB cB)
      have hPB:=hPB.tb z9 gS
      have hZB:=hZB.grownU gS (tb_noU z9)
      have z9:=tb_fin z9 adB nB cpB sB aB lB cB
      have kW:=((kW.setCell (p:=⟨wQ.heap.size,0,none⟩) hbz9 (.slice adB nB cpB)).setCell (p:=⟨wQ.heap.size,1,none⟩) hbz9 (.bool sB)).setCell (p:=⟨wQ.heap.size,2,none⟩) hbz9 (.slice aB lB cB)
      refine hK.out _ _ ?_ ?_
      ·(try dsimp only); exact aq5 x z2 kW
      clear hK K hHeld; intro hHeld
      (try simp only [pz])
      refine wpAnyH_done k_f ?_ _
      exact ⟨rfl,_,adA,nA,cpA,sA,aA,lA,cA,adB,nB,cpB,sB,aB,lB,cB,qs,rfl,z9,hPB,hZB,hlB,Nat.le_trans hnB hnA,hnew,hStd,hcs,hbz9,kW⟩
     exact AllReadyH.nil
    exact AllReadyH.nil
   exact AllReadyH.nil
  exact AllReadyH.nil
 rintro e a' W4 ⟨rfl,b9,adA,nA,cpA,sA,aA,lA,cA,adB,nB,cpB,sB,aB,lB,cB,qs,rfl,z9,hPB,hZB,hlB,hnB,hnew,hStd,hcs,hb9,k4⟩
 replace x:=x.below k4
 replace y:=y.below k4
 replace z2:=z2.below k4
 replace hd2:=hd2.below k4
 have K4:=hide (grow_step k4 k2.out)
 have hb29 : b2 < b9:=by have h1:=hb9; have h2:=(show b2 < wD.heap.size from hb2D); omega
 clear hP hk k2 k4
 have u0:=z9.c0
 have u1:=z9.c1
 have u2:=z9.c2
 have u3:=z2.c0
 have u4:=z2.c1
 go_wp2_with fail
 have hrow : (W4.alloc (.cells #[.bool s2,.slice a2 l2 c2] 37)).ownsRow W4.heap.size 37 2 (.slice (some ⟨W4.heap.size,0,none⟩) 1 1) 1 ([(⟨0,s2,a2,l2,c2,((d.natAbs : Nat) : Int)⟩ : Raw)].flatMap encN) :=
  ⟨rfl,.inr ⟨W4.heap.size,1,_,rfl,Nat.le_refl _,heap_alloc_new W4 _,Nat.le_refl _,by decide,rfl,rfl⟩⟩
 refine (common_n (w0:=W4) (below_alloc W4 _) hPB.pr hrow rfl (fun x hx => by rw [List.mem_singleton.1 hx]; exact ⟨hd2.zm,Nat.le_refl _⟩) o_m o_m o_m).mono ?_
 rintro e W5 ⟨sG,aG,lG,cG,rfl,hG,hlG,k5⟩
 rw [show gcdZ ([(⟨0,s2,a2,l2,c2,((d.natAbs : Nat) : Int)⟩ : Raw)].map Raw.z) = d.natAbs from by simp [gcdZ]] at hG
 have zG:=zb_new W5 sG aG lG cG
 have kz:=below_alloc W5 (.cells #[.bool sG,.slice aG lG cG] 37)
 have kk:=grow_step kz k5
 have hb9W : b9 < W5.heap.size:=(z9.below k5).lt
 replace x:=x.below kk
 replace y:=y.below kk
 replace z2:=z2.below kk
 replace z9:=z9.below kk
 replace hd2:=hd2.below kk
 replace hPB:=hPB.below kk
 replace hZB:=hZB.below kk
 replace hG:=hG.below kz
 replace K4:=hide (grow_step kk K4.out)
 clear u0 u1 u2 u3 u4 hrow k5 kz kk
 have u1:=z9.c1
 have u2:=z9.c2
 have u3:=zG.c0
 have u4:=zG.c1
 go_wp2_with fail
 generalize W5.alloc (.cells #[.bool sG,.slice aG lG cG] 37) = W6 at *
 generalize W5.heap.size = bG at *
 generalize hts : eachP (fun x => x % ((d.natAbs : Nat) : Int)) qs = ts at *
 generalize hkD : k % ((d.natAbs : Nat) : Int) = kD at *
 have hGp : 0 < gcdL d.natAbs ts:=gcdL_pos (.inl o_m)
 generalize hGG : gcdL d.natAbs ts = G at *
 have hdF : Hid (divF kd d qs k = divG kd d.natAbs ts kD):=(show _ = _ by unfold divF; rw [hts,hkD])
 replace hts:=hide hts
 replace hkD:=hide hkD
 replace hGG:=hide hGG
 have hlG9 : lG≤1099511627776:=by
  have h1 : (1 + nB) * l2≤262145 * 4194000:=Nat.mul_le_mul o_m o_m
  omega
 clear hlG
 refine (divides_n hG.zm hZB.zm hlG9 o_m o_m).mono ?_
 rintro e W7 ⟨rfl,k7⟩
 replace x:=x.below k7
 replace y:=y.below k7
 replace z2:=z2.below k7
 replace z9:=z9.below k7
 replace zG:=zG.below k7
 replace hd2:=hd2.below k7
 replace hPB:=hPB.below k7
 replace hZB:=hZB.below k7
 replace hG:=hG.below k7
 replace K4:=hide (grow_step k7 K4.out)
 clear u1 u2 u3 u4 k7
 by_cases hdv : ((G : Nat) : Int) ∣ kD
 ·rw [show decide (((G : Nat) : Int) ∣ kD) = true from by simp [hdv]]
  replace hdv:=hide hdv
  have u1:=z2.c0
  have u2:=z2.c1
  have u3:=zG.c0
  have u4:=zG.c1
  go_wp2_with fail
  refine (quotient_n hd2.zm hG.zm o_m hlG9 o_m).mono ?_
  rintro e W8 ⟨s3,a3,l3,c3,rfl,hd3,k8,hl3⟩
  replace x:=x.below k8
  replace y:=y.below k8
  replace z2:=z2.below k8
  replace z9:=z9.below k8
  replace zG:=zG.below k8
  replace hPB:=hPB.below k8
  replace hZB:=hZB.below k8
  replace hG:=hG.below k8
  replace K4:=hide (grow_step k8 K4.out)
  clear u1 u2 u3 u4 k8 hd2
  have v1:=z2.c0
  have v2:=z2.c1
  have v3:=z2.f 0
  have v4:=z2.f 1
  have g8:=zb2_set W8 b2 (.bool s3) (.slice a3 l3 c3)
  have hU:=zb2_noU z2
  have x8 : AB _ p kd sd ad ld cd ap np cp sk ak lk ck:=(g8.block p x.lt (by simp; omega)).trans x
  have y8 : AB _ r 0 false none 0 0 none 0 0 false none 0 0:=(g8.block r y.lt (by simp; omega)).trans y
  have z98 : TB _ b9 adB nB cpB sB aB lB cB:=(g8.block b9 z9.lt (by simp; omega)).trans z9
  have zG8 : ZB _ bG sG aG lG cG:=(g8.block bG zG.lt (by simp; omega)).trans zG
  have hd38:=zb_zn z2 hd3 s3 a3 l3 c3
  have z28:=zb_fin z2 s3 a3 l3 c3
  have hPB8:=hPB.away (fun b off e => by have:=hnew b off e; omega) g8 hU
  have hZB8:=hZB.grownU g8 hU
  have hG8:=hG.grownU g8 hU
  have hwb2 : w.heap.size≤b2:=by have:=hpr.out; omega
  have K8:=hide (below_grown K4.out g8 hwb2)
  clear x y z2 z9 zG hd3 hPB hZB hG K4 hU g8
  have HH:=hide (And.intro x8 (And.intro y8 (And.intro z98 (And.intro zG8 (And.intro hd38 (And.intro z28 (And.intro hPB8 (And.intro hZB8 hG8))))))))
  have u1:=z28.c0
  have u2:=z28.c1
  clear x8 y8 z98 zG8 hd38 z28 hPB8 hZB8 hG8
  go_wp2_with fail
  obtain ⟨x,y,z9,zG,hd3,z2,hPB,hZB,hG⟩:=HH.out
  clear HH u1 u2
  generalize (W8.setCell ⟨b2,0,none⟩ (.bool s3)).setCell ⟨b2,1,none⟩ (.slice a3 l3 c3) = W9 at *
  generalize hDD : ((d.natAbs : Nat) : Int) / ((G : Nat) : Int) = D1 at *
  replace hDD:=hide hDD
  by_cases hD1 : D1 = 1
  ·have hcm : Hid (cmpI D1 1 = 0):=(show _ = _ by unfold cmpI; rw [if_neg o_m,if_neg o_m])
   go_region_held3 (fun w' => w'.cell? ⟨b2,0,none⟩ = some (.bool s3)∧w'.cell? ⟨b2,1,none⟩ = some (.slice a3 l3 c3)∧Below W9.heap.size W9 w')
    ((refine zq2 z2 ?_; (with_reducible repeat' first | exact Below.refl _ _ | assumption | refine grow_step (by assumption) ?_ | refine grow_drew ?_ | refine grow_alloc ?_ _ | refine grow_drewN ?_ _)))
    (first | (go_at_call 60; with_reducible refine (zof_n 1 (by decide) (by decide) _).mono ?_; rintro e w' ⟨s4,a4,l4,c4,rfl,z4,hg,hl4⟩) | (go_at_call 106; with_reducible refine (zcmp_n (Zn.zm (Zn.below hd3 gw)) (Zn.zm (Zn.below z4 gw)) (by omega) (by omega)).mono ?_; rintro e w'' ⟨rfl,hg2⟩; rw [hcm.out]))
   rename_i hH
   have kH:=hH.2.2
   have hfm : Hid (divF kd d qs k = ⟨al,0,[],0⟩):=(show _ = _ by rw [hdF.out]; unfold divG; rw [hGG.out,if_neg (not_not_intro hdv.out),if_pos (hDD.out.trans hD1),hal.out])
   replace y:=y.below kH
   have K9:=hide (grow_step kH K8.out)
   clear hH kH hg hg2 hd3 hPB hZB hG x z9 zG z2 K8
   have e0:=y.c0
   have e1:=y.c1
   have e2:=y.c2
   have e3:=y.c3
   have e4:=y.c4
   have e5:=y.c5
   have f0:=y.f 0
   have f1:=y.f 1
   have f2:=y.f 2
   have f3:=y.f 3
   have f4:=y.f 4
   have f5:=y.f 5
   have g6:=ab_set w'' r (.int .i64 al) (.bool false) (.slice none 0 0) (.slice none 0 0) (.bool false) (.slice none 0 0)
   have kf:=hide (below_grown K9.out g6 (by have:=hpr.out; omega))
   have hfin:=hide (ab_fin y al false none 0 0 none 0 0 false none 0 0)
   replace hStd:=hide hStd
   replace hcs:=hide hcs
   go_wp2
   refine bodyPost_ret (results_ct rfl _ _ r 42 _ (0,0) _ rfl hfin.out Tryz.underlying42 rfl k_f) rfl ?_
   refine ⟨qs,hStd.out,hcs.out,?_,kf.out⟩
   rw [hfm.out]
   exact ⟨false,none,0,0,none,0,0,false,none,0,0,by simp,zn_zero _,by omega,pn_nil _ _ _,by omega,zn_zero _,by omega,fun _ _ h => by cases h⟩
  obtain ⟨cc,hcm,hc0⟩ : ∃ cc,Hid (cmpI D1 1 = cc)∧(cc == 0) = false:=⟨_,rfl,by rw [beq_eq_false_iff_ne]; unfold cmpI; split <;> (try split) <;> omega⟩
  go_region_held3 (fun w' => w'.cell? ⟨b2,0,none⟩ = some (.bool s3)∧w'.cell? ⟨b2,1,none⟩ = some (.slice a3 l3 c3)∧Below W9.heap.size W9 w')
   ((refine zq2 z2 ?_; (with_reducible repeat' first | exact Below.refl _ _ | assumption | refine grow_step (by assumption) ?_ | refine grow_drew ?_ | refine grow_alloc ?_ _ | refine grow_drewN ?_ _)))
   (first | (go_at_call 60; with_reducible refine (zof_n 1 (by decide) (by decide) _).mono ?_; rintro e w' ⟨s4,a4,l4,c4,rfl,z4,hg,hl4⟩) | (go_at_call 106; with_reducible refine (zcmp_n (Zn.zm (Zn.below hd3 gw)) (Zn.zm (Zn.below z4 gw)) (by omega) (by omega)).mono ?_; rintro e w'' ⟨rfl,hg2⟩; rw [hcm.out]))
  rename_i hH
  have kH:=hH.2.2
  have hfm : Hid (divF kd d qs k = fstF kd D1 (eachP (fun x => x / ((G : Nat) : Int)) ts) (kD / ((G : Nat) : Int))):=(show _ = _ by rw [hdF.out]; unfold divG; rw [hGG.out,if_neg (not_not_intro hdv.out),hDD.out,if_neg hD1])
  replace x:=x.below kH
  replace y:=y.below kH
  replace z2:=z2.below kH
  replace z9:=z9.below kH
  replace zG:=zG.below kH
  replace hd3:=hd3.below kH
  replace hPB:=hPB.below kH
  replace hZB:=hZB.below kH
  replace hG:=hG.below kH
  have K9:=hide (grow_step kH K8.out)
  clear hH kH hg hg2 K8
  have u0:=z9.c0
  have u1:=z9.c1
  have u2:=z9.c2
  go_wp2_with fail
  generalize w'' = WA at *
  refine (each_n (F:=fun x => x / ((G : Nat) : Int)) (C:=l2 + 3) (B:=l2) eg.out (fun w' s9 a9 l9 c9 z9 hb9 hz9 hl9 => (divi1_n (zG.below hb9) hz9 (hG.zm.below hb9) o_m hlG9 o_m).mono fun _ _ ⟨s',a',l',c',he,h1,h2,h3⟩ => ⟨s',a',l',c',he,h1,h2,by omega⟩) hPB.pr hZB.zm hlB o_m o_m).mono ?_
  rintro e WB ⟨ad5,n5,cp5,s5,a5,l5,c5,rfl,hP5,hz5,hl5,hn5,hnew5,k5⟩
  have hWAs : b9 < WA.heap.size:=z9.lt
  have hrA : r < WA.heap.size:=y.lt
  have hbGA : bG < WA.heap.size:=zG.lt
  replace x:=x.below k5
  replace y:=y.below k5
  replace z2:=z2.below k5
  replace z9:=z9.below k5
  replace hd3:=hd3.below k5
  have KB:=hide (grow_step k5 K9.out)
  clear u0 u1 u2 k5 K9 hPB hZB hG zG
  have v0:=z9.c0
  have v1:=z9.c1
  have v2:=z9.c2
  have v3:=z9.f 0
  have v4:=z9.f 1
  have v5:=z9.f 2
  have g8:=tb_set WB b9 (.slice ad5 n5 cp5) (.bool s5) (.slice a5 l5 c5)
  have x8 : AB _ p kd sd ad ld cd ap np cp sk ak lk ck:=(g8.block p x.lt (by simp; omega)).trans x
  have y8 : AB _ r 0 false none 0 0 none 0 0 false none 0 0:=(g8.block r y.lt (by simp; omega)).trans y
  have z28 : ZB _ b2 s3 a3 l3 c3:=(g8.block b2 z2.lt (by simp; omega)).trans z2
  have hP8:=hP5.tb z9 g8
  have hz8:=hz5.grownU g8 (tb_noU z9)
  have hd8:=hd3.grownU g8 (tb_noU z9)
  have z98:=tb_fin z9 ad5 n5 cp5 s5 a5 l5 c5
  have hwb9 : w.heap.size≤b9:=by have:=hpr.out; omega
  have KC:=hide (below_grown KB.out g8 hwb9)
  have HH:=hide (And.intro x8 (And.intro y8 (And.intro z28 (And.intro hP8 (And.intro hz8 (And.intro hd8 z98))))))
  clear x y z2 z9 hd3 hP5 hz5 KB g8 x8 y8 z28 hP8 hz8 hd8 z98
  go_wp2_with fail
  obtain ⟨x,y,z2,hP5,hz5,hd3,z9⟩:=HH.out
  clear HH v0 v1 v2 v3 v4 v5
  generalize ((WB.setCell ⟨b9,0,none⟩ (.slice ad5 n5 cp5)).setCell ⟨b9,1,none⟩ (.bool s5)).setCell ⟨b9,2,none⟩ (.slice a5 l5 c5) = WC at *
  have hD1p : 0 < D1:=by
   have h1 : G ∣ d.natAbs:=by have:=(gcdL_dvd d.natAbs ts).1; rwa [hGG.out] at this
   have h2:=Nat.div_pos (Nat.le_of_dvd o_m h1) hGp
   rw [← hDD.out]
   exact_mod_cast h2
  generalize hus : eachP (fun x => x / ((G : Nat) : Int)) ts = us at *
  generalize hkG : kD / ((G : Nat) : Int) = kG at *
  refine Code.wp_mono (Q:=fun e a' W' => e = .normal∧∃ bO adN nN cpN sN aN lN cN adO nO cpO sO aO lO cO,a' = ⟨List.toArray ((.agg #[.int .i64 kd,.bool sd,.slice ad ld cd,.slice ap np cp,.bool sk,.slice ak lk ck] : Value) :: (.int .i64 al : Value) :: (.int .i64 ne : Value) :: (.pointer (some ⟨p,0,none⟩) : Value) :: undef :: undef :: (.pointer (some ⟨r,0,none⟩) : Value) :: (.int .i64 0 : Value) :: (.pointer (some ⟨b2,0,none⟩) : Value) :: (.pointer (some ⟨b9,0,none⟩) : Value) :: (.pointer (some ⟨bG,0,none⟩) : Value) :: (.pointer (some ⟨bO,0,none⟩) : Value) :: (.pointer (some ⟨p,1,none⟩) : Value) :: (.agg #[.bool sd,.slice ad ld cd] : Value) :: (.int .i64 cz : Value) :: (.bool false : Value) :: undef :: (.pointer (some ⟨p,1,none⟩) : Value) :: (.agg #[.bool sd,.slice ad ld cd] : Value) :: (.agg #[.bool s2,.slice a2 l2 c2] : Value) :: (.pointer (some ⟨p,3,none⟩) : Value) :: (.agg #[.slice ap np cp,.bool sk,.slice ak lk ck] : Value) :: (.agg #[.slice adA nA cpA,.bool sA,.slice aA lA cA] : Value) :: (.agg #[.bool s2,.slice a2 l2 c2] : Value) :: (.agg #[.slice adB nB cpB,.bool sB,.slice aB lB cB] : Value) :: (.agg #[.slice adB nB cpB,.bool sB,.slice aB lB cB] : Value) :: (.agg #[.bool s2,.slice a2 l2 c2] : Value) :: (.slice (some ⟨W4.heap.size,0,none⟩) 1 1 : Value) :: (.agg #[.bool sG,.slice aG lG cG] : Value) :: (.agg #[.bool sG,.slice aG lG cG] : Value) :: (.pointer (some ⟨b9,1,none⟩) : Value) :: (.agg #[.bool sB,.slice aB lB cB] : Value) :: (.bool true : Value) :: (.bool false : Value) :: undef :: undef :: (.agg #[.bool s2,.slice a2 l2 c2] : Value) :: (.agg #[.bool sG,.slice aG lG cG] : Value) :: (.agg #[.bool s3,.slice a3 l3 c3] : Value) :: (.agg #[.bool s3,.slice a3 l3 c3] : Value) :: (.agg #[.bool s4,.slice a4 l4 c4] : Value) :: (.int .i64 cc : Value) :: (.bool false : Value) :: undef :: undef :: (.agg #[.slice adB nB cpB,.bool sB,.slice aB lB cB] : Value) :: (.func (.func 107) #[] #[.pointer (some ⟨bG,0,none⟩)] : Value) :: (.agg #[.slice ad5 n5 cp5,.bool s5,.slice a5 l5 c5] : Value) :: (.agg #[.slice ad5 n5 cp5,.bool s5,.slice a5 l5 c5] : Value) :: (.agg #[.slice adN nN cpN,.bool sN,.slice aN lN cN] : Value) :: (.agg #[.bool s3,.slice a3 l3 c3] : Value) :: (.agg #[.slice adO nO cpO,.bool sO,.slice aO lO cO] : Value) :: undef :: undef :: undef :: undef :: undef :: undef :: undef :: undef :: undef :: undef :: []),[]⟩∧TB W' bO adO nO cpO sO aO lO cO∧Pn W' adO nO (oppP D1 us) l3∧Zn W' sO aO lO cO ((-kG) % D1)∧lO≤l3∧nO≤n5∧(∀ b off,adO = some ⟨b,off,none⟩→WC.heap.size≤b)∧WC.heap.size≤bO∧Below WC.heap.size WC W') ?_ ?_
  rotate_left
  ·refine wp_region_held_drew (S:=(fun w' => w'.cell? ⟨b9,0,none⟩ = some (.slice ad5 n5 cp5)∧w'.cell? ⟨b9,1,none⟩ = some (.bool s5)∧w'.cell? ⟨b9,2,none⟩ = some (.slice a5 l5 c5)∧w'.cell? ⟨b2,0,none⟩ = some (.bool s3)∧w'.cell? ⟨b2,1,none⟩ = some (.slice a3 l3 c3)∧Below WC.heap.size WC w')) k_f (tq5 z9 z2 (grow_drew (Below.refl _ _))) (fun hHeld => ?_)
   show wpAnyH _ _ _ _ _ 6 _ _ _
   have kW:=grow_drew (Below.refl WC.heap.size WC)
   generalize WC.drew = wQ at *
   refine wpAnyH_take (i:=0) (oi:=⟨some 48,_,_,_,_,_⟩) (v:=?_) rfl k_f k_f k_f (fun _ _ _ h => by cases h.1) (Or.inl ⟨by rfl,?_⟩) (by assumption) ?_
   rotate_left
   ·intro wq hSw; (try dsimp only at hSw); go_simp; (try with_reducible rfl)
   (try simp only [pz])
   refine wpAnyH_take (i:=2) (oi:=⟨some 50,_,_,_,_,_⟩) (v:=?_) rfl k_f k_f k_f (fun _ _ _ h => by cases h.1) (Or.inl ⟨by rfl,?_⟩) (by assumption) ?_
   rotate_left
   ·intro wq hSw; (try dsimp only at hSw); go_simp; (try with_reducible rfl)
   (try simp only [pz])
   refine wpAnyH_ready (rs:=[1,4]) k_f (by simp) ?_
   refine AllReadyH.cons (o:=⟨some 49,_,_,_,_,_⟩) rfl (fun K hK => ?_) ?_
   ·go_simp
    go_at_call 101; refine Calls.mono (each_n (F:=fun x => -x) (C:=l2 + 4) (B:=l2 + 3) eg2.out (fun w' s9 a9 l9 c9 z9 hb9 hz9 hl9 => (neg_n hz9 o_m).mono fun _ _ ⟨s',a',l',c',he,h1,h2,h3⟩ => ⟨s',a',l',c',he,h1,h2,by omega⟩) (hP5.pr.below kW) (hz5.zm.below kW) hl5 o_m o_m) ?_; rintro e wA ⟨adN,nN,cpN,sN,aN,lN,cN,rfl,hPA,hZA,hlA,hnA, -,kA⟩
    have kW:=grow_step kA kW
    (try go_wp2_with fail)
    refine hK.out _ _ ?_ ?_
    ·(try dsimp only); exact tq5 z9 z2 kW
    clear hK K hHeld; intro hHeld
    (try simp only [pz])
    refine wpAnyH_ready (rs:=[3,4]) k_f (by simp) ?_
    refine AllReadyH.cons (o:=⟨some 51,_,_,_,_,_⟩) rfl (fun K hK => ?_) ?_
    ·go_simp
     go_at_call 104; refine Calls.mono (modulo_n (B:=l2 + 4) hPA.pr hZA.zm hlA (hd3.zm.below kW) hD1p o_m o_m o_m) ?_; rintro e wB ⟨adO,nO,cpO,sO,aO,lO,cO,rfl,hPB,hZB,hlB2,hnB2,hnewB,kB⟩; have hnewO : ∀ b off,adO = some ⟨b,off,none⟩→WC.heap.size≤b:=fun b off e => Nat.le_trans kW.size (hnewB b off e)
     have hPA:=hPA.below kB
     have hZA:=hZA.below kB
     have kW:=grow_step kB kW
     (try go_wp2_with fail)
     refine hK.out _ _ ?_ ?_
     ·(try dsimp only); exact tq5 z9 z2 kW
     clear hK K hHeld; intro hHeld
     (try simp only [pz])
     refine ryz 4 (some 11) (fun K hK => ?_) ?_
     ·have kL:=below_alloc (wB) (.cells #[.slice none 0 0,.bool false,.slice none 0 0] 40)
      have hPA:=hPA.below kL
      have hZA:=hZA.below kL
      have hPB:=hPB.below kL
      have hZB:=hZB.below kL
      have zO : TB ((wB).alloc (.cells #[.slice none 0 0,.bool false,.slice none 0 0] 40)) (wB.heap.size) none 0 0 false none 0 0:=tb_new _ _ _ _ _ _ _ _
      have hbzO : WC.heap.size≤wB.heap.size:=kW.size
      have kW:=grow_step kL kW
      go_simp
      refine hK.out _ _ ?_ ?_
      ·(try dsimp only); exact tq5 z9 z2 kW
      clear hK K hHeld; intro hHeld
      (try simp only [pz])
      generalize (wB).alloc (.cells #[.slice none 0 0,.bool false,.slice none 0 0] 40) = wLzO at *
      refine ryz 5 none (fun K hK => ?_) ?_
      ·skip
       have f0:=zO.c0
       have f1:=zO.c1
       have f2:=zO.c2
       have f3:=zO.f 0
       have f4:=zO.f 1
       have f5:=zO.f 2
       go_simp
       have gS:=tb_set wLzO (wB.heap.size) (.slice adO nO cpO) (.bool sO) (.slice aO lO cO)
       have hPB:=hPB.tb zO gS
       have hZB:=hZB.grownU gS (tb_noU zO)
       have zO:=tb_fin zO adO nO cpO sO aO lO cO
       have kW:=((kW.setCell (p:=⟨wB.heap.size,0,none⟩) hbzO (.slice adO nO cpO)).setCell (p:=⟨wB.heap.size,1,none⟩) hbzO (.bool sO)).setCell (p:=⟨wB.heap.size,2,none⟩) hbzO (.slice aO lO cO)
       refine hK.out _ _ ?_ ?_
       ·(try dsimp only); exact tq5 z9 z2 kW
       clear hK K hHeld; intro hHeld
       (try simp only [pz])
       refine wpAnyH_done k_f ?_ _
       exact ⟨rfl,_,adN,nN,cpN,sN,aN,lN,cN,adO,nO,cpO,sO,aO,lO,cO,rfl,zO,hPB,hZB,hlB2,Nat.le_trans hnB2 hnA,hnewO,hbzO,kW⟩
      exact AllReadyH.nil
     exact AllReadyH.nil
    refine AllReadyH.cons (o:=⟨some 11,_,_,_,_,_⟩) rfl (fun K hK => ?_) ?_
    ·have kL:=below_alloc (wA) (.cells #[.slice none 0 0,.bool false,.slice none 0 0] 40)
     have hPA:=hPA.below kL
     have hZA:=hZA.below kL
     have zO : TB ((wA).alloc (.cells #[.slice none 0 0,.bool false,.slice none 0 0] 40)) (wA.heap.size) none 0 0 false none 0 0:=tb_new _ _ _ _ _ _ _ _
     have hbzO : WC.heap.size≤wA.heap.size:=kW.size
     have kW:=grow_step kL kW
     go_simp
     refine hK.out _ _ ?_ ?_
     ·(try dsimp only); exact tq5 z9 z2 kW
     clear hK K hHeld; intro hHeld
     (try simp only [pz])
     generalize (wA).alloc (.cells #[.slice none 0 0,.bool false,.slice none 0 0] 40) = wLzO at *
     refine ryz 3 (some 51) (fun K hK => ?_) ?_
     ·go_simp
      go_at_call 104; refine Calls.mono (modulo_n (B:=l2 + 4) hPA.pr hZA.zm hlA (hd3.zm.below kW) hD1p o_m o_m o_m) ?_; rintro e wB ⟨adO,nO,cpO,sO,aO,lO,cO,rfl,hPB,hZB,hlB2,hnB2,hnewB,kB⟩; have hnewO : ∀ b off,adO = some ⟨b,off,none⟩→WC.heap.size≤b:=fun b off e => Nat.le_trans kW.size (hnewB b off e)
      have hPA:=hPA.below kB
      have hZA:=hZA.below kB
      have zO:=zO.below kB
      have kW:=grow_step kB kW
      (try go_wp2_with fail)
      refine hK.out _ _ ?_ ?_
      ·(try dsimp only); exact tq5 z9 z2 kW
      clear hK K hHeld; intro hHeld
      (try simp only [pz])
      refine ryz 5 none (fun K hK => ?_) ?_
      ·skip
       have f0:=zO.c0
       have f1:=zO.c1
       have f2:=zO.c2
       have f3:=zO.f 0
       have f4:=zO.f 1
       have f5:=zO.f 2
       go_simp
       have gS:=tb_set wB (wA.heap.size) (.slice adO nO cpO) (.bool sO) (.slice aO lO cO)
       have hPB:=hPB.tb zO gS
       have hZB:=hZB.grownU gS (tb_noU zO)
       have zO:=tb_fin zO adO nO cpO sO aO lO cO
       have kW:=((kW.setCell (p:=⟨wA.heap.size,0,none⟩) hbzO (.slice adO nO cpO)).setCell (p:=⟨wA.heap.size,1,none⟩) hbzO (.bool sO)).setCell (p:=⟨wA.heap.size,2,none⟩) hbzO (.slice aO lO cO)
       refine hK.out _ _ ?_ ?_
       ·(try dsimp only); exact tq5 z9 z2 kW
       clear hK K hHeld; intro hHeld
       (try simp only [pz])
       refine wpAnyH_done k_f ?_ _
       exact ⟨rfl,_,adN,nN,cpN,sN,aN,lN,cN,adO,nO,cpO,sO,aO,lO,cO,rfl,zO,hPB,hZB,hlB2,Nat.le_trans hnB2 hnA,hnewO,hbzO,kW⟩
      exact AllReadyH.nil
     exact AllReadyH.nil
    exact AllReadyH.nil
   refine AllReadyH.cons (o:=⟨some 11,_,_,_,_,_⟩) rfl (fun K hK => ?_) ?_
   ·have kL:=below_alloc (wQ) (.cells #[.slice none 0 0,.bool false,.slice none 0 0] 40)
    have zO : TB ((wQ).alloc (.cells #[.slice none 0 0,.bool false,.slice none 0 0] 40)) (wQ.heap.size) none 0 0 false none 0 0:=tb_new _ _ _ _ _ _ _ _
    have hbzO : WC.heap.size≤wQ.heap.size:=kW.size
    have kW:=grow_step kL kW
    go_simp
    refine hK.out _ _ ?_ ?_
    ·(try dsimp only); exact tq5 z9 z2 kW
    clear hK K hHeld; intro hHeld
    (try simp only [pz])
    generalize (wQ).alloc (.cells #[.slice none 0 0,.bool false,.slice none 0 0] 40) = wLzO at *
    refine ryz 1 (some 49) (fun K hK => ?_) ?_
    ·go_simp
     go_at_call 101; refine Calls.mono (each_n (F:=fun x => -x) (C:=l2 + 4) (B:=l2 + 3) eg2.out (fun w' s9 a9 l9 c9 z9 hb9 hz9 hl9 => (neg_n hz9 o_m).mono fun _ _ ⟨s',a',l',c',he,h1,h2,h3⟩ => ⟨s',a',l',c',he,h1,h2,by omega⟩) (hP5.pr.below kW) (hz5.zm.below kW) hl5 o_m o_m) ?_; rintro e wA ⟨adN,nN,cpN,sN,aN,lN,cN,rfl,hPA,hZA,hlA,hnA, -,kA⟩
     have zO:=zO.below kA
     have kW:=grow_step kA kW
     (try go_wp2_with fail)
     refine hK.out _ _ ?_ ?_
     ·(try dsimp only); exact tq5 z9 z2 kW
     clear hK K hHeld; intro hHeld
     (try simp only [pz])
     refine ryz 3 (some 51) (fun K hK => ?_) ?_
     ·go_simp
      go_at_call 104; refine Calls.mono (modulo_n (B:=l2 + 4) hPA.pr hZA.zm hlA (hd3.zm.below kW) hD1p o_m o_m o_m) ?_; rintro e wB ⟨adO,nO,cpO,sO,aO,lO,cO,rfl,hPB,hZB,hlB2,hnB2,hnewB,kB⟩; have hnewO : ∀ b off,adO = some ⟨b,off,none⟩→WC.heap.size≤b:=fun b off e => Nat.le_trans kW.size (hnewB b off e)
      have zO:=zO.below kB
      have hPA:=hPA.below kB
      have hZA:=hZA.below kB
      have kW:=grow_step kB kW
      (try go_wp2_with fail)
      refine hK.out _ _ ?_ ?_
      ·(try dsimp only); exact tq5 z9 z2 kW
      clear hK K hHeld; intro hHeld
      (try simp only [pz])
      refine ryz 5 none (fun K hK => ?_) ?_
      ·skip
       have f0:=zO.c0
       have f1:=zO.c1
       have f2:=zO.c2
       have f3:=zO.f 0
       have f4:=zO.f 1
       have f5:=zO.f 2
       go_simp
       have gS:=tb_set wB (wQ.heap.size) (.slice adO nO cpO) (.bool sO) (.slice aO lO cO)
       have hPB:=hPB.tb zO gS
       have hZB:=hZB.grownU gS (tb_noU zO)
       have zO:=tb_fin zO adO nO cpO sO aO lO cO
       have kW:=((kW.setCell (p:=⟨wQ.heap.size,0,none⟩) hbzO (.slice adO nO cpO)).setCell (p:=⟨wQ.heap.size,1,none⟩) hbzO (.bool sO)).setCell (p:=⟨wQ.heap.size,2,none⟩) hbzO (.slice aO lO cO)
       refine hK.out _ _ ?_ ?_
       ·(try dsimp only); exact tq5 z9 z2 kW
       clear hK K hHeld; intro hHeld
       (try simp only [pz])
       refine wpAnyH_done k_f ?_ _
       exact ⟨rfl,_,adN,nN,cpN,sN,aN,lN,cN,adO,nO,cpO,sO,aO,lO,cO,rfl,zO,hPB,hZB,hlB2,Nat.le_trans hnB2 hnA,hnewO,hbzO,kW⟩
      exact AllReadyH.nil
     exact AllReadyH.nil
    exact AllReadyH.nil
   exact AllReadyH.nil
  rintro e a' WE ⟨rfl,bO,adN,nN,cpN,sN,aN,lN,cN,adO,nO,cpO,sO,aO,lO,cO,rfl,zO,hPO,hZO,hlO,hnO,hnewO,hbO,kE⟩
  have hbO9 : b9 < bO:=by have h1:=z9.lt; omega
  have hrC : r < WC.heap.size:=y.lt
  replace x:=x.below kE
  replace y:=y.below kE
  replace z2:=z2.below kE
  replace z9:=z9.below kE
  replace hd3:=hd3.below kE
  replace hP5:=hP5.below kE
  replace hz5:=hz5.below kE
  have KE:=hide (grow_step kE KC.out)
  have hStdU : Std us:=by rw [← hus,← hts.out]; exact eachP_std (eachP_std hStd)
  have hStdO : Std (oppP D1 us):=eachP_std (eachP_std hStdU)
  clear kE KC
  have u0:=z9.c0
  have u1:=z9.c1
  have u2:=z9.c2
  have u3:=zO.c0
  have u4:=zO.c1
  have u5:=zO.c2
  go_wp2_with fail
  refine (torder_n (B:=l2 + 4) (hPO.pr.mono o_m) hZO.zm o_m (hP5.pr.mono o_m) hz5.zm o_m o_m o_m).mono ?_
  rintro e WF ⟨ps',qs',rfl,hSp,hSq,hcp,hcq,kF⟩
  obtain rfl : ps' = oppP D1 us:=std_unique hSp hStdO hcp
  obtain rfl : qs' = us:=std_unique hSq hStdU hcq
  replace x:=x.below kF
  replace y:=y.below kF
  replace z2:=z2.below kF
  replace z9:=z9.below kF
  replace zO:=zO.below kF
  replace hd3:=hd3.below kF
  replace hP5:=hP5.below kF
  replace hz5:=hz5.below kF
  replace hPO:=hPO.below kF
  replace hZO:=hZO.below kF
  replace KE:=hide (grow_step kF KE.out)
  clear u0 u1 u2 u3 u4 u5 kF hSp hSq hcp hcq
  by_cases hor : ordT (oppP D1 qs') qs' ((-kG) % D1) kG < 0
  ·have hfm2 : Hid (divF kd d qs k = ⟨kd,D1,oppP D1 qs',(-kG) % D1⟩):=(show _ = _ by rw [hfm.out]; unfold fstF; rw [if_pos hor])
   generalize ordT (oppP D1 qs') qs' ((-kG) % D1) kG = oo at *
   have u0:=zO.c0
   have u1:=zO.c1
   have u2:=zO.c2
   have v0:=z9.c0
   have v1:=z9.c1
   have v2:=z9.c2
   have v3:=z9.f 0
   have v4:=z9.f 1
   have v5:=z9.f 2
   have g8:=tb_set WF b9 (.slice adO nO cpO) (.bool sO) (.slice aO lO cO)
   have x8 : AB _ p kd sd ad ld cd ap np cp sk ak lk ck:=(g8.block p x.lt (by simp; omega)).trans x
   have y8 : AB _ r 0 false none 0 0 none 0 0 false none 0 0:=(g8.block r y.lt (by simp; omega)).trans y
   have z28 : ZB _ b2 s3 a3 l3 c3:=(g8.block b2 z2.lt (by simp; omega)).trans z2
   have hP8:=hPO.tb z9 g8
   have hz8:=hZO.grownU g8 (tb_noU z9)
   have hd8:=hd3.grownU g8 (tb_noU z9)
   have z98:=tb_fin z9 adO nO cpO sO aO lO cO
   have KG:=hide (below_grown KE.out g8 hwb9)
   have p0:=x8.c0
   have t0:=z98.c0
   have t1:=z98.c1
   have t2:=z98.c2
   have q0:=z28.c0
   have q1:=z28.c1
   have e0:=y8.c0
   have e1:=y8.c1
   have e2:=y8.c2
   have e3:=y8.c3
   have e4:=y8.c4
   have e5:=y8.c5
   have f0:=y8.f 0
   have f1:=y8.f 1
   have f2:=y8.f 2
   have f3:=y8.f 3
   have f4:=y8.f 4
   have f5:=y8.f 5
   have g6:=ab_set (((WF.setCell ⟨b9,0,none⟩ (.slice adO nO cpO)).setCell ⟨b9,1,none⟩ (.bool sO)).setCell ⟨b9,2,none⟩ (.slice aO lO cO)) r (.int .i64 kd) (.bool s3) (.slice a3 l3 c3) (.slice adO nO cpO) (.bool sO) (.slice aO lO cO)
   have hPf:=hide (hP8.away (fun b off e => by have:=hnewO b off e; omega) g6 (ab_noU y8))
   have hzf:=hide (hz8.grownU g6 (ab_noU y8))
   have hdf:=hide (hd8.grownU g6 (ab_noU y8))
   have kf:=hide (below_grown KG.out g6 (by have:=hpr.out; omega))
   replace hStd:=hide hStd
   replace hcs:=hide hcs
   have hnw : Hid (∀ b off,adO = some ⟨b,off,none⟩→w.heap.size≤b):=(fun b off e => by have h1:=hnewO b off e; have h2:=hpr.out; omega)
   clear g6 hnew hnew5 hnewO
   clear x y z2 z9 zO hd3 hP5 hz5 hPO hZO KE g8 x8 z28 hP8 hz8 hd8 z98
   go_wp2
   refine bodyPost_ret (results_ct rfl _ _ r 42 _ (0,0) _ rfl (ab_fin y8 kd s3 a3 l3 c3 adO nO cpO sO aO lO cO) Tryz.underlying42 rfl k_f) rfl ?_
   refine ⟨qs,hStd.out,hcs.out,?_,kf.out⟩
   rw [hfm2.out]
   exact ⟨s3,a3,l3,c3,adO,nO,cpO,sO,aO,lO,cO,by simp,hdf.out,by omega,hPf.out.mono o_m,by omega,hzf.out,by omega,hnw.out⟩
  have hfm2 : Hid (divF kd d qs k = ⟨kd,D1,qs',kG⟩):=(show _ = _ by rw [hfm.out]; unfold fstF; rw [if_neg hor])
  generalize ordT (oppP D1 qs') qs' ((-kG) % D1) kG = oo at *
  have p0:=x.c0
  have t0:=z9.c0
  have t1:=z9.c1
  have t2:=z9.c2
  have q0:=z2.c0
  have q1:=z2.c1
  have e0:=y.c0
  have e1:=y.c1
  have e2:=y.c2
  have e3:=y.c3
  have e4:=y.c4
  have e5:=y.c5
  have f0:=y.f 0
  have f1:=y.f 1
  have f2:=y.f 2
  have f3:=y.f 3
  have f4:=y.f 4
  have f5:=y.f 5
  have g6:=ab_set WF r (.int .i64 kd) (.bool s3) (.slice a3 l3 c3) (.slice ad5 n5 cp5) (.bool s5) (.slice a5 l5 c5)
  have hPf:=hide (hP5.away (fun b off e => by have:=hnew5 b off e; omega) g6 (ab_noU y))
  have hzf:=hide (hz5.grownU g6 (ab_noU y))
  have hdf:=hide (hd3.grownU g6 (ab_noU y))
  have kf:=hide (below_grown KE.out g6 (by have:=hpr.out; omega))
  replace hStd:=hide hStd
  replace hcs:=hide hcs
  have hnw : Hid (∀ b off,ad5 = some ⟨b,off,none⟩→w.heap.size≤b):=(fun b off e => by have h1:=hnew5 b off e; have h2:=hpr.out; omega)
  clear g6 hnew hnew5 hnewO
  clear x z2 z9 zO hd3 hP5 hz5 hPO hZO KE
  go_wp2
  refine bodyPost_ret (results_ct rfl _ _ r 42 _ (0,0) _ rfl (ab_fin y kd s3 a3 l3 c3 ad5 n5 cp5 s5 a5 l5 c5) Tryz.underlying42 rfl k_f) rfl ?_
  refine ⟨qs,hStd.out,hcs.out,?_,kf.out⟩
  rw [hfm2.out]
  exact ⟨s3,a3,l3,c3,ad5,n5,cp5,s5,a5,l5,c5,by simp,hdf.out,by omega,hPf.out.mono o_m,by omega,hzf.out,by omega,hnw.out⟩
 rw [show decide (((G : Nat) : Int) ∣ kD) = false from by simp [hdv]]
 have hfm : Hid (divF kd d qs k = ⟨ne,0,[],0⟩):=(show _ = _ by rw [hdF.out]; unfold divG; rw [hGG.out,if_pos hdv,hne.out])
 clear hdv
 have e0:=y.c0
 have e1:=y.c1
 have e2:=y.c2
 have e3:=y.c3
 have e4:=y.c4
 have e5:=y.c5
 have f0:=y.f 0
 have f1:=y.f 1
 have f2:=y.f 2
 have f3:=y.f 3
 have f4:=y.f 4
 have f5:=y.f 5
 have g6:=ab_set W7 r (.int .i64 ne) (.bool false) (.slice none 0 0) (.slice none 0 0) (.bool false) (.slice none 0 0)
 have kf:=hide (below_grown K4.out g6 (by have:=hpr.out; omega))
 have hfin:=hide (ab_fin y ne false none 0 0 none 0 0 false none 0 0)
 replace hStd:=hide hStd
 replace hcs:=hide hcs
 go_wp2
 refine bodyPost_ret (results_ct rfl _ _ r 42 _ (0,0) _ rfl hfin.out Tryz.underlying42 rfl k_f) rfl ?_
 refine ⟨qs,hStd.out,hcs.out,?_,kf.out⟩
 rw [hfm.out]
 exact ⟨false,none,0,0,none,0,0,false,none,0,0,by simp,zn_zero _,by omega,pn_nil _ _ _,by omega,zn_zero _,by omega,fun _ _ h => by cases h⟩

def AZ (e : Ending) (er : Int) : Prop:=e = .returned (.tuple #[.agg #[.int .i64 0,.bool false,.slice none 0 0,.slice none 0 0,.bool false,.slice none 0 0],.int .i64 er])
def AN (w : World) (e : Ending) (f : Atm ⊕ Int) (B B0 : Nat) : Prop:=match f with
 | .inl f => AE w e f B B0
 | .inr er => AZ e er

theorem divi_0 {w : World} {kd : Int} {sd : Bool} {ad : Option Addr} {ld cd : Nat} {ap : Option Addr} {np cp : Nat} {sk : Bool} {ak : Option Addr} {lk ck : Nat} {al ne : Int}
  (hd : Zm w sd ad ld cd 0) (hld : ld≤1099511627776) :
  Calls Tryz.prog 64 #[.agg #[.int .i64 kd,.bool sd,.slice ad ld cd,.slice ap np cp,.bool sk,.slice ak lk ck],.int .i64 al,.int .i64 ne] w fun e w' => AZ e 11∧Below w.heap.size w w':=by
 go_enter Tryz.func64,Tryz.ntmps64
 go_wp2_with fail
 have y:=AB.new (w.alloc (.cells #[.int .i64 kd,.bool sd,.slice ad ld cd,.slice ap np cp,.bool sk,.slice ak lk ck] 42)) 0 false none 0 0 none 0 0 false none 0 0
 rw [show (w.alloc (.cells #[.int .i64 kd,.bool sd,.slice ad ld cd,.slice ap np cp,.bool sk,.slice ak lk ck] 42)).heap.size = w.heap.size + 1 from by simp] at y
 have b0 : Below w.heap.size w ((w.alloc (.cells #[.int .i64 kd,.bool sd,.slice ad ld cd,.slice ap np cp,.bool sk,.slice ak lk ck] 42)).alloc (.cells #[.int .i64 0,.bool false,.slice none 0 0,.slice none 0 0,.bool false,.slice none 0 0] 42)):=below_alloc' (below_alloc _ _) _
 generalize (w.alloc (.cells #[.int .i64 kd,.bool sd,.slice ad ld cd,.slice ap np cp,.bool sk,.slice ak lk ck] 42)).alloc (.cells #[.int .i64 0,.bool false,.slice none 0 0,.slice none 0 0,.bool false,.slice none 0 0] 42) = wb at *
 have hr : w.heap.size≤w.heap.size + 1:=by omega
 generalize w.heap.size + 1 = r at *
 refine (zsign_n (hd.below b0) hld).mono ?_
 rintro e w1 ⟨rfl,k1⟩
 rw [show cmpI 0 0 = 0 from rfl]
 replace y:=y.below k1
 have K1:=grow_step k1 b0
 have e0:=y.c0
 have e1:=y.c1
 have e2:=y.c2
 have e3:=y.c3
 have e4:=y.c4
 have e5:=y.c5
 have f0:=y.f 0
 have f1:=y.f 1
 have f2:=y.f 2
 have f3:=y.f 3
 have f4:=y.f 4
 have f5:=y.f 5
 have g6:=ab_set w1 r (.int .i64 0) (.bool false) (.slice none 0 0) (.slice none 0 0) (.bool false) (.slice none 0 0)
 have kf:=hide (below_grown K1 g6 hr)
 clear g6 K1 k1 b0
 go_wp2
 refine bodyPost_ret (results_ct rfl _ _ r 42 _ (0,0) _ rfl (ab_fin y 0 false none 0 0 none 0 0 false none 0 0) Tryz.underlying42 rfl k_f) rfl ?_
 exact ⟨rfl,kf.out⟩

theorem anorm_n {w : World} {kd : Int} {sd : Bool} {ad : Option Addr} {ld cd : Nat} {ap : Option Addr} {np cp : Nat} {sk : Bool} {ak : Option Addr} {lk ck : Nat} {d k : Int} {ps : List (Int × Int)} {B : Nat}
  (hd : Zm w sd ad ld cd d) (hld : ld≤B) (hP : Pr w ap np ps B) (hk : Zm w sk ak lk ck k) (hlk : lk≤B) (hn : np≤262144) (hB : B + np + 1≤4194000) :
  Calls Tryz.prog 37 #[.agg #[.int .i64 kd,.bool sd,.slice ad ld cd,.slice ap np cp,.bool sk,.slice ak lk ck]] w fun e w' => ∃ qs,Std qs∧(∀ v,csum qs v = csum ps v)∧AN w' e (formA kd d qs k) (B + np + 16) w.heap.size∧Below w.heap.size w w':=by
 obtain ⟨q0,hq0,hq1⟩ : ∃ qs,Std qs∧∀ v,csum qs v = csum ps v:=⟨nz (lays [] ps),std_lays ps,fun v => csum_nzl ps v⟩
 by_cases h0 : kd = 0
 ·subst h0
  have y:=AB.new (w.alloc (.cells #[.int .i64 0,.bool sd,.slice ad ld cd,.slice ap np cp,.bool sk,.slice ak lk ck] 42)) 0 false none 0 0 none 0 0 false none 0 0
  rw [show (w.alloc (.cells #[.int .i64 0,.bool sd,.slice ad ld cd,.slice ap np cp,.bool sk,.slice ak lk ck] 42)).heap.size = w.heap.size + 1 from by simp] at y
  have b0 : Below w.heap.size w ((w.alloc (.cells #[.int .i64 0,.bool sd,.slice ad ld cd,.slice ap np cp,.bool sk,.slice ak lk ck] 42)).alloc (.cells #[.int .i64 0,.bool false,.slice none 0 0,.slice none 0 0,.bool false,.slice none 0 0] 42)):=below_alloc' (below_alloc _ _) _
  have HH:=hide (And.intro y b0)
  clear y b0
  go_enter Tryz.func37,Tryz.ntmps37
  go_wp2
  obtain ⟨y,b0⟩:=HH.out
  refine bodyPost_ret (results_ct rfl _ _ (w.heap.size + 1) 42 _ (0,0) _ rfl y Tryz.underlying42 rfl k_f) rfl ?_
  exact ⟨q0,hq0,hq1,⟨false,none,0,0,none,0,0,false,none,0,0,rfl,zn_zero _,by omega,pn_nil _ _ _,by omega,zn_zero _,by omega,fun _ _ h => by cases h⟩,b0⟩
 by_cases h1 : kd = 1
 ·subst h1
  have y:=AB.new (w.alloc (.cells #[.int .i64 1,.bool sd,.slice ad ld cd,.slice ap np cp,.bool sk,.slice ak lk ck] 42)) 1 false none 0 0 none 0 0 false none 0 0
  rw [show (w.alloc (.cells #[.int .i64 1,.bool sd,.slice ad ld cd,.slice ap np cp,.bool sk,.slice ak lk ck] 42)).heap.size = w.heap.size + 1 from by simp] at y
  have b0 : Below w.heap.size w ((w.alloc (.cells #[.int .i64 1,.bool sd,.slice ad ld cd,.slice ap np cp,.bool sk,.slice ak lk ck] 42)).alloc (.cells #[.int .i64 1,.bool false,.slice none 0 0,.slice none 0 0,.bool false,.slice none 0 0] 42)):=below_alloc' (below_alloc _ _) _
  have HH:=hide (And.intro y b0)
  clear y b0
  go_enter Tryz.func37,Tryz.ntmps37
  go_wp2
  obtain ⟨y,b0⟩:=HH.out
  refine bodyPost_ret (results_ct rfl _ _ (w.heap.size + 1) 42 _ (0,0) _ rfl y Tryz.underlying42 rfl k_f) rfl ?_
  exact ⟨q0,hq0,hq1,⟨false,none,0,0,none,0,0,false,none,0,0,rfl,zn_zero _,by omega,pn_nil _ _ _,by omega,zn_zero _,by omega,fun _ _ h => by cases h⟩,b0⟩
 by_cases h2 : kd = 2
 ·subst h2
  clear h0 h1 q0 hq0 hq1
  have x:=(AB.new w 2 sd ad ld cd ap np cp sk ak lk ck).below (below_alloc _ (.cells #[.int .i64 0,.bool false,.slice none 0 0,.slice none 0 0,.bool false,.slice none 0 0] 42))
  have y:=AB.new (w.alloc (.cells #[.int .i64 2,.bool sd,.slice ad ld cd,.slice ap np cp,.bool sk,.slice ak lk ck] 42)) 0 false none 0 0 none 0 0 false none 0 0
  rw [show (w.alloc (.cells #[.int .i64 2,.bool sd,.slice ad ld cd,.slice ap np cp,.bool sk,.slice ak lk ck] 42)).heap.size = w.heap.size + 1 from by simp] at y
  have b0 : Below w.heap.size w ((w.alloc (.cells #[.int .i64 2,.bool sd,.slice ad ld cd,.slice ap np cp,.bool sk,.slice ak lk ck] 42)).alloc (.cells #[.int .i64 0,.bool false,.slice none 0 0,.slice none 0 0,.bool false,.slice none 0 0] 42)):=below_alloc' (below_alloc _ _) _
  have HH:=hide (And.intro x (And.intro y (And.intro b0 (And.intro (hP.below b0) (And.intro (hd.below b0) (hk.below b0))))))
  clear x y b0
  go_enter Tryz.func37,Tryz.ntmps37
  go_wp2_with fail
  obtain ⟨x,y,b0,hP,hd,hk⟩:=HH.out
  clear HH
  generalize (w.alloc (.cells #[.int .i64 2,.bool sd,.slice ad ld cd,.slice ap np cp,.bool sk,.slice ak lk ck] 42)).alloc (.cells #[.int .i64 0,.bool false,.slice none 0 0,.slice none 0 0,.bool false,.slice none 0 0] 42) = wb at *
  have hr : w.heap.size≤w.heap.size + 1:=by omega
  generalize w.heap.size + 1 = r at *
  generalize hp : w.heap.size = p at *
  replace hp:=hide hp
  refine (less_n hP hk hlk o_m o_m).mono ?_
  rintro e w1 ⟨qs,hS,hc,⟨sd1,ad1,ld1,cd1,ap1,np1,cp1,sk1,ak1,lk1,ck1,rfl,hz1,hlz1,hPn1,hnp1,hk1,hlk1,hnew1⟩,k1⟩
  have hfm : Hid (formA 2 d qs k = .inl (lessF qs k)):=(show _ = _ by unfold formA; rw [if_neg (by decide),if_pos rfl])
  generalize lessF qs k = ff at *
  have hrl:=y.lt
  replace y:=y.below k1
  have e0:=y.c0
  have e1:=y.c1
  have e2:=y.c2
  have e3:=y.c3
  have e4:=y.c4
  have e5:=y.c5
  have f0:=y.f 0
  have f1:=y.f 1
  have f2:=y.f 2
  have f3:=y.f 3
  have f4:=y.f 4
  have f5:=y.f 5
  have g6:=ab_set w1 r (.int .i64 ff.kind) (.bool sd1) (.slice ad1 ld1 cd1) (.slice ap1 np1 cp1) (.bool sk1) (.slice ak1 lk1 ck1)
  have hPf:=hide (hPn1.away (fun b off e => by have:=hnew1 b off e; omega) g6 (ab_noU y))
  have hzf:=hide (hk1.grownU g6 (ab_noU y))
  have hdf:=hide (hz1.grownU g6 (ab_noU y))
  have kf:=hide (below_grown (grow_step k1 (show Below w.heap.size w wb from hp.out.symm ▸ b0)) g6 (by have:=hp.out; omega))
  have hnw : Hid (∀ b off,ap1 = some ⟨b,off,none⟩→w.heap.size≤b):=(fun b off e => by have h1:=hnew1 b off e; have h2:=hp.out; omega)
  replace hS:=hide hS
  replace hc:=hide hc
  clear g6 hPn1 hk1 hz1 hnew1 hP hd hk x b0 k1
  go_wp2
  refine bodyPost_ret (results_ct rfl _ _ r 42 _ (0,0) _ rfl (ab_fin y ff.kind sd1 ad1 ld1 cd1 ap1 np1 cp1 sk1 ak1 lk1 ck1) Tryz.underlying42 rfl k_f) rfl ?_
  refine ⟨qs,hS.out,hc.out,?_,kf.out⟩
  rw [hfm.out]
  exact ⟨sd1,ad1,ld1,cd1,ap1,np1,cp1,sk1,ak1,lk1,ck1,by simp,hdf.out,hlz1,hPf.out,hnp1,hzf.out,hlk1,hnw.out⟩
 by_cases h3 : kd = 3
 ·subst h3
  clear h0 h1 h2
  have x:=(AB.new w 3 sd ad ld cd ap np cp sk ak lk ck).below (below_alloc _ (.cells #[.int .i64 0,.bool false,.slice none 0 0,.slice none 0 0,.bool false,.slice none 0 0] 42))
  have y:=AB.new (w.alloc (.cells #[.int .i64 3,.bool sd,.slice ad ld cd,.slice ap np cp,.bool sk,.slice ak lk ck] 42)) 0 false none 0 0 none 0 0 false none 0 0
  rw [show (w.alloc (.cells #[.int .i64 3,.bool sd,.slice ad ld cd,.slice ap np cp,.bool sk,.slice ak lk ck] 42)).heap.size = w.heap.size + 1 from by simp] at y
  have b0 : Below w.heap.size w ((w.alloc (.cells #[.int .i64 3,.bool sd,.slice ad ld cd,.slice ap np cp,.bool sk,.slice ak lk ck] 42)).alloc (.cells #[.int .i64 0,.bool false,.slice none 0 0,.slice none 0 0,.bool false,.slice none 0 0] 42)):=below_alloc' (below_alloc _ _) _
  have HH:=hide (And.intro x (And.intro y (And.intro b0 (And.intro (hP.below b0) (And.intro (hd.below b0) (hk.below b0))))))
  clear x y b0
  go_enter Tryz.func37,Tryz.ntmps37
  go_wp2_with fail
  obtain ⟨x,y,b0,hP,hd,hk⟩:=HH.out
  clear HH
  generalize (w.alloc (.cells #[.int .i64 3,.bool sd,.slice ad ld cd,.slice ap np cp,.bool sk,.slice ak lk ck] 42)).alloc (.cells #[.int .i64 0,.bool false,.slice none 0 0,.slice none 0 0,.bool false,.slice none 0 0] 42) = wb at *
  have hr : w.heap.size≤w.heap.size + 1:=by omega
  generalize w.heap.size + 1 = r at *
  generalize hp : w.heap.size = p at *
  replace hp:=hide hp
  by_cases hd0 : d = 0
  ·subst hd0
   have hfm : Hid (formA 3 0 q0 k = .inr 11):=(show _ = _ by unfold formA; rw [if_neg (by decide),if_neg (by decide),if_pos (by decide),if_pos rfl])
   refine (divi_0 hd o_m).mono ?_
   rintro e w1 ⟨hz,k1⟩
   unfold AZ at hz
   subst hz
   replace y:=y.below k1
   have e0:=y.c0
   have e1:=y.c1
   have e2:=y.c2
   have e3:=y.c3
   have e4:=y.c4
   have e5:=y.c5
   have f0:=y.f 0
   have f1:=y.f 1
   have f2:=y.f 2
   have f3:=y.f 3
   have f4:=y.f 4
   have f5:=y.f 5
   have g6:=ab_set w1 r (.int .i64 0) (.bool false) (.slice none 0 0) (.slice none 0 0) (.bool false) (.slice none 0 0)
   have kf:=hide (below_grown (grow_step k1 (show Below w.heap.size w wb from hp.out.symm ▸ b0)) g6 (by have:=hp.out; omega))
   replace hq0:=hide hq0
   replace hq1:=hide hq1
   clear g6 hP hd hk x b0 k1
   go_wp2
   refine bodyPost_ret (results_ct rfl _ _ r 42 _ (0,0) _ rfl (ab_fin y 0 false none 0 0 none 0 0 false none 0 0) Tryz.underlying42 rfl k_f) rfl ?_
   exact ⟨q0,hq0.out,hq1.out,by rw [hfm.out]; exact rfl,kf.out⟩
  refine (divi_n hd hld hP hk hlk hn hB (by decide) (by decide) hd0).mono ?_
  rintro e w1 ⟨qs,hS,hc,⟨sd1,ad1,ld1,cd1,ap1,np1,cp1,sk1,ak1,lk1,ck1,rfl,hz1,hlz1,hPn1,hnp1,hk1,hlk1,hnew1⟩,k1⟩
  have hfm : Hid (formA 3 d qs k = .inl (divF 3 d qs k)):=(show _ = _ by unfold formA; rw [if_neg (by decide),if_neg (by decide),if_pos (by decide),if_neg hd0])
  generalize divF 3 d qs k = ff at *
  have hrl:=y.lt
  replace y:=y.below k1
  have e0:=y.c0
  have e1:=y.c1
  have e2:=y.c2
  have e3:=y.c3
  have e4:=y.c4
  have e5:=y.c5
  have f0:=y.f 0
  have f1:=y.f 1
  have f2:=y.f 2
  have f3:=y.f 3
  have f4:=y.f 4
  have f5:=y.f 5
  have g6:=ab_set w1 r (.int .i64 ff.kind) (.bool sd1) (.slice ad1 ld1 cd1) (.slice ap1 np1 cp1) (.bool sk1) (.slice ak1 lk1 ck1)
  have hPf:=hide (hPn1.away (fun b off e => by have:=hnew1 b off e; omega) g6 (ab_noU y))
  have hzf:=hide (hk1.grownU g6 (ab_noU y))
  have hdf:=hide (hz1.grownU g6 (ab_noU y))
  have kf:=hide (below_grown (grow_step k1 (show Below w.heap.size w wb from hp.out.symm ▸ b0)) g6 (by have:=hp.out; omega))
  have hnw : Hid (∀ b off,ap1 = some ⟨b,off,none⟩→w.heap.size≤b):=(fun b off e => by have h1:=hnew1 b off e; have h2:=hp.out; omega)
  replace hS:=hide hS
  replace hc:=hide hc
  clear g6 hPn1 hk1 hz1 hnew1 hP hd hk x b0 k1
  go_wp2
  refine bodyPost_ret (results_ct rfl _ _ r 42 _ (0,0) _ rfl (ab_fin y ff.kind sd1 ad1 ld1 cd1 ap1 np1 cp1 sk1 ak1 lk1 ck1) Tryz.underlying42 rfl k_f) rfl ?_
  refine ⟨qs,hS.out,hc.out,?_,kf.out⟩
  rw [hfm.out]
  exact ⟨sd1,ad1,ld1,cd1,ap1,np1,cp1,sk1,ak1,lk1,ck1,by simp,hdf.out,hlz1,hPf.out,hnp1,hzf.out,hlk1,hnw.out⟩
 by_cases h4 : kd = 4
 ·subst h4
  clear h0 h1 h2 h3
  have x:=(AB.new w 4 sd ad ld cd ap np cp sk ak lk ck).below (below_alloc _ (.cells #[.int .i64 0,.bool false,.slice none 0 0,.slice none 0 0,.bool false,.slice none 0 0] 42))
  have y:=AB.new (w.alloc (.cells #[.int .i64 4,.bool sd,.slice ad ld cd,.slice ap np cp,.bool sk,.slice ak lk ck] 42)) 0 false none 0 0 none 0 0 false none 0 0
  rw [show (w.alloc (.cells #[.int .i64 4,.bool sd,.slice ad ld cd,.slice ap np cp,.bool sk,.slice ak lk ck] 42)).heap.size = w.heap.size + 1 from by simp] at y
  have b0 : Below w.heap.size w ((w.alloc (.cells #[.int .i64 4,.bool sd,.slice ad ld cd,.slice ap np cp,.bool sk,.slice ak lk ck] 42)).alloc (.cells #[.int .i64 0,.bool false,.slice none 0 0,.slice none 0 0,.bool false,.slice none 0 0] 42)):=below_alloc' (below_alloc _ _) _
  have HH:=hide (And.intro x (And.intro y (And.intro b0 (And.intro (hP.below b0) (And.intro (hd.below b0) (hk.below b0))))))
  clear x y b0
  go_enter Tryz.func37,Tryz.ntmps37
  go_wp2_with fail
  obtain ⟨x,y,b0,hP,hd,hk⟩:=HH.out
  clear HH
  generalize (w.alloc (.cells #[.int .i64 4,.bool sd,.slice ad ld cd,.slice ap np cp,.bool sk,.slice ak lk ck] 42)).alloc (.cells #[.int .i64 0,.bool false,.slice none 0 0,.slice none 0 0,.bool false,.slice none 0 0] 42) = wb at *
  have hr : w.heap.size≤w.heap.size + 1:=by omega
  generalize w.heap.size + 1 = r at *
  generalize hp : w.heap.size = p at *
  replace hp:=hide hp
  by_cases hd0 : d = 0
  ·subst hd0
   have hfm : Hid (formA 4 0 q0 k = .inr 11):=(show _ = _ by unfold formA; rw [if_neg (by decide),if_neg (by decide),if_pos (by decide),if_pos rfl])
   refine (divi_0 hd o_m).mono ?_
   rintro e w1 ⟨hz,k1⟩
   unfold AZ at hz
   subst hz
   replace y:=y.below k1
   have e0:=y.c0
   have e1:=y.c1
   have e2:=y.c2
   have e3:=y.c3
   have e4:=y.c4
   have e5:=y.c5
   have f0:=y.f 0
   have f1:=y.f 1
   have f2:=y.f 2
   have f3:=y.f 3
   have f4:=y.f 4
   have f5:=y.f 5
   have g6:=ab_set w1 r (.int .i64 0) (.bool false) (.slice none 0 0) (.slice none 0 0) (.bool false) (.slice none 0 0)
   have kf:=hide (below_grown (grow_step k1 (show Below w.heap.size w wb from hp.out.symm ▸ b0)) g6 (by have:=hp.out; omega))
   replace hq0:=hide hq0
   replace hq1:=hide hq1
   clear g6 hP hd hk x b0 k1
   go_wp2
   refine bodyPost_ret (results_ct rfl _ _ r 42 _ (0,0) _ rfl (ab_fin y 0 false none 0 0 none 0 0 false none 0 0) Tryz.underlying42 rfl k_f) rfl ?_
   exact ⟨q0,hq0.out,hq1.out,by rw [hfm.out]; exact rfl,kf.out⟩
  refine (divi_n hd hld hP hk hlk hn hB (by decide) (by decide) hd0).mono ?_
  rintro e w1 ⟨qs,hS,hc,⟨sd1,ad1,ld1,cd1,ap1,np1,cp1,sk1,ak1,lk1,ck1,rfl,hz1,hlz1,hPn1,hnp1,hk1,hlk1,hnew1⟩,k1⟩
  have hfm : Hid (formA 4 d qs k = .inl (divF 4 d qs k)):=(show _ = _ by unfold formA; rw [if_neg (by decide),if_neg (by decide),if_pos (by decide),if_neg hd0])
  generalize divF 4 d qs k = ff at *
  have hrl:=y.lt
  replace y:=y.below k1
  have e0:=y.c0
  have e1:=y.c1
  have e2:=y.c2
  have e3:=y.c3
  have e4:=y.c4
  have e5:=y.c5
  have f0:=y.f 0
  have f1:=y.f 1
  have f2:=y.f 2
  have f3:=y.f 3
  have f4:=y.f 4
  have f5:=y.f 5
  have g6:=ab_set w1 r (.int .i64 ff.kind) (.bool sd1) (.slice ad1 ld1 cd1) (.slice ap1 np1 cp1) (.bool sk1) (.slice ak1 lk1 ck1)
  have hPf:=hide (hPn1.away (fun b off e => by have:=hnew1 b off e; omega) g6 (ab_noU y))
  have hzf:=hide (hk1.grownU g6 (ab_noU y))
  have hdf:=hide (hz1.grownU g6 (ab_noU y))
  have kf:=hide (below_grown (grow_step k1 (show Below w.heap.size w wb from hp.out.symm ▸ b0)) g6 (by have:=hp.out; omega))
  have hnw : Hid (∀ b off,ap1 = some ⟨b,off,none⟩→w.heap.size≤b):=(fun b off e => by have h1:=hnew1 b off e; have h2:=hp.out; omega)
  replace hS:=hide hS
  replace hc:=hide hc
  clear g6 hPn1 hk1 hz1 hnew1 hP hd hk x b0 k1
  go_wp2
  refine bodyPost_ret (results_ct rfl _ _ r 42 _ (0,0) _ rfl (ab_fin y ff.kind sd1 ad1 ld1 cd1 ap1 np1 cp1 sk1 ak1 lk1 ck1) Tryz.underlying42 rfl k_f) rfl ?_
  refine ⟨qs,hS.out,hc.out,?_,kf.out⟩
  rw [hfm.out]
  exact ⟨sd1,ad1,ld1,cd1,ap1,np1,cp1,sk1,ak1,lk1,ck1,by simp,hdf.out,hlz1,hPf.out,hnp1,hzf.out,hlk1,hnw.out⟩
 have i0 : (kd == 0) = false:=by rw [beq_eq_false_iff_ne]; exact h0
 have i1 : (kd == 1) = false:=by rw [beq_eq_false_iff_ne]; exact h1
 have i2 : (kd == 2) = false:=by rw [beq_eq_false_iff_ne]; exact h2
 have i3 : (kd == 3) = false:=by rw [beq_eq_false_iff_ne]; exact h3
 have i4 : (kd == 4) = false:=by rw [beq_eq_false_iff_ne]; exact h4
 have hfm : Hid (formA kd d q0 k = .inr 1):=(show _ = _ by unfold formA; rw [if_neg o_m,if_neg h2,if_neg o_m])
 clear h0 h1 h2 h3 h4
 have y:=AB.new (w.alloc (.cells #[.int .i64 kd,.bool sd,.slice ad ld cd,.slice ap np cp,.bool sk,.slice ak lk ck] 42)) 0 false none 0 0 none 0 0 false none 0 0
 rw [show (w.alloc (.cells #[.int .i64 kd,.bool sd,.slice ad ld cd,.slice ap np cp,.bool sk,.slice ak lk ck] 42)).heap.size = w.heap.size + 1 from by simp] at y
 have b0 : Below w.heap.size w ((w.alloc (.cells #[.int .i64 kd,.bool sd,.slice ad ld cd,.slice ap np cp,.bool sk,.slice ak lk ck] 42)).alloc (.cells #[.int .i64 0,.bool false,.slice none 0 0,.slice none 0 0,.bool false,.slice none 0 0] 42)):=below_alloc' (below_alloc _ _) _
 have HH:=hide (And.intro y b0)
 clear y b0
 go_enter Tryz.func37,Tryz.ntmps37
 go_wp2
 obtain ⟨y,b0⟩:=HH.out
 refine bodyPost_ret (results_ct rfl _ _ (w.heap.size + 1) 42 _ (0,0) _ rfl y Tryz.underlying42 rfl k_f) rfl ?_
 exact ⟨q0,hq0,hq1,by rw [hfm.out]; rfl,b0⟩

theorem formA_er {kd d : Int} {qs : List (Int × Int)} {k er : Int} (h : formA kd d qs k = .inr er) : er = 11 ∨ er = 1:=by
 unfold formA at h
 split at h
 ·cases h
 split at h
 ·cases h
 split at h
 ·split at h
  ·cases h; exact .inl rfl
  cases h
 cases h; exact .inr rfl
theorem cmpI_pos (X : Int) : 0 < cmpI X 0 ↔ 0 < X:=by
 unfold cmpI
 split <;> (try split) <;> omega
end Go.Proofs.YtcfmkjegolpgaaaGreatDoor

namespace Go.Proofs.YtcfmkjegolpgaaaGreatDoor.Low
open Go.RowKit Go.Sort Go.Shelf
open Tm At
open Lw (Lo)

variable {Fw l0 c0 n B cp l c : Nat} {w : World} {s0 s : Bool} {a0 ad a : Option Addr} {ps : List (Int × Int)} {k : Int}
theorem Pn.tb {w' : World} {p : Nat} {ad0 : Option Addr} {n0 cp0 : Nat} (h : Pn Fw w ad n ps B) (y : TB w p ad0 n0 cp0 s0 a0 l0 c0) (hg : w.grownBy w' (some p)) : Pn Fw w' ad n ps B:=by
 refine ⟨h.1,?_⟩
 rcases h.2 with h2 | ⟨b,off,e,hb,h2⟩
 ·exact .inl h2
 by_cases h0 : ps.length = 0
 ·exact .inl (h.1.symm.trans h0)
 refine .inr ⟨b,off,e,Nat.lt_of_lt_of_le hb hg.size,fun i hi => ?_⟩
 obtain ⟨s,a,l,c,e0,e1,e2,hz,hl⟩:=h2 i hi
 have hne : b ≠ p:=by
  intro e
  subst e
  rw [cell_of_row w b _ _ _ (0,0) y] at e0
  match hk : off + i * 3,e0 with
  | 0,e0 => simp at e0
  | 1,e0 => simp at e0
  | 2,e0 => simp at e0
  | k + 3,e0 => simp at e0
 have eb : w'.heap[b]? = w.heap[b]?:=hg.block b hb (by simpa using hne)
 exact ⟨s,a,l,c,(World.cell?_of_block (a:=⟨b,off + i * 3,none⟩) eb).trans e0,(World.cell?_of_block (a:=⟨b,off + i * 3 + 1,none⟩) eb).trans e1,(World.cell?_of_block (a:=⟨b,off + i * 3 + 2,none⟩) eb).trans e2,hz.grownU hg (tb_noU y),hl⟩
theorem rscale5_g {k0 : Int} (hk : Zm Fw w s0 a0 l0 c0 k0) (hk0 : l0≤B) (hP : Pr Fw w ad n ps B) (hz : Zm Fw w s a l c k) (hl : l≤B) (hn : n≤4194304) (hB : B≤67108864) :
  Calls Tryz.prog 128 #[.agg #[.bool s0,.slice a0 l0 c0],.agg #[.slice ad n cp,.bool s,.slice a l c]] w fun e w' => ∃ ad' n' cp' s' a' l' c',e = .returned (.agg #[.slice ad' n' cp',.bool s',.slice a' l' c'])∧Pn Fw w' ad' n' (nz (lays [] (mapP (fun x => k0 * x) ps))) (2 * B + n + 2)∧Zn Fw w' s' a' l' c' (k0 * k)∧l'≤2 * B + n + 2∧n'≤n∧(∀ b off,ad' = some ⟨b,off,none⟩→w.heap.size≤b)∧Below w.heap.size w w':=by
 go_enter Tryz.func128,Tryz.ntmps128
 go_wp2_with fail
 have z:=((zb_new w s0 a0 l0 c0).below (below_alloc _ (.cells #[.slice ad n cp,.bool s,.slice a l c] 40))).below (below_alloc _ (.cells #[.slice none 0 0,.bool false,.slice none 0 0] 40))
 have x:=(tb_new (w.alloc (.cells #[.bool s0,.slice a0 l0 c0] 37)) ad n cp s a l c).below (below_alloc _ (.cells #[.slice none 0 0,.bool false,.slice none 0 0] 40))
 have y:=tb_new ((w.alloc (.cells #[.bool s0,.slice a0 l0 c0] 37)).alloc (.cells #[.slice ad n cp,.bool s,.slice a l c] 40)) none 0 0 false none 0 0
 have b0 : Below w.heap.size w (((w.alloc (.cells #[.bool s0,.slice a0 l0 c0] 37)).alloc (.cells #[.slice ad n cp,.bool s,.slice a l c] 40)).alloc (.cells #[.slice none 0 0,.bool false,.slice none 0 0] 40)):=below_alloc' (below_alloc' (below_alloc _ _) _) _
 rw [show (w.alloc (.cells #[.bool s0,.slice a0 l0 c0] 37)).heap.size = w.heap.size + 1 from by simp] at x
 rw [show ((w.alloc (.cells #[.bool s0,.slice a0 l0 c0] 37)).alloc (.cells #[.slice ad n cp,.bool s,.slice a l c] 40)).heap.size = w.heap.size + 1 + 1 from by simp] at y
 generalize ((w.alloc (.cells #[.bool s0,.slice a0 l0 c0] 37)).alloc (.cells #[.slice ad n cp,.bool s,.slice a l c] 40)).alloc (.cells #[.slice none 0 0,.bool false,.slice none 0 0] 40) = wb at *
 have hwr : w.heap.size≤w.heap.size + 1 + 1:=by omega
 replace hP:=hP.below b0
 replace hz:=hz.below b0
 replace hk:=hk.below b0
 generalize w.heap.size + 1 + 1 = r at *
 generalize w.heap.size + 1 = q at *
 have hwr' : Hid (w.heap.size≤r):=hwr
 clear hwr
 generalize hp : w.heap.size = p at *
 replace b0 : Hid (Below w.heap.size w wb):=hp ▸ b0
 replace hwr' : Hid (w.heap.size≤r):=(show w.heap.size≤r by rw [hp]; exact hwr'.out)
 clear hp
 go_loopw [5,6] (fun v i wr => ∃ (t : Nat) (ad' : Option Addr) (cap' : Nat) (L' : List Raw),t≤n∧i = .int .i64 t∧v = .slice ad' t cap'∧Hid (RS wb.heap.size wr (.slice ad' t cap') t cap' L')∧Hid (Rok Fw wr (2 * B + 1) L')∧Hid ((L'.take t).map Raw.p = mapP (fun x => k0 * x) (ps.take t))∧Hid (Below wb.heap.size wb wr)) (fun _ i _ => n - (intOf i).toNat)
 case atStart => exact ⟨0,none,0,[],Nat.zero_le _,rfl,rfl,.inl ⟨rfl,rfl,rfl,rfl⟩,(fun x hx => absurd hx (by simp)),(show _ = _ from rfl),Below.refl _ _⟩
 case round =>
  obtain ⟨t,ad',cap',L',ht,rfl,rfl,hR,hok,hlays,hkr⟩:=hrel
  have kr:=hkr.out
  have xr:=x.below kr
  have u0:=xr.c0
  by_cases htn : t < n
  ·obtain ⟨hpn,hPr⟩:=hP
   rcases hPr with hPr | ⟨bp,f,rfl,hPr⟩
   ·omega
   have hbpl:=hPr.1
   obtain ⟨s3,a3,l3,c3,g0,g1,g2,hz3,hl3,hv⟩:=hPr.2 t o_m
   replace hz3:=hz3.below kr
   have hk3:=hk.below kr
   have hps : Hid (ps.take (t + 1) = ps.take t ++ [ps[t]]):=List.take_succ_eq_append_getElem (l:=ps) (i:=t) o_m
   generalize ps[t] = pp at *
   obtain ⟨pv,pz⟩:=pp
   dsimp only at *
   have hRq:=hR.out
   have hokq:=hok.out
   have HH:=hide (And.intro kr (And.intro hz3 (And.intro hk3 (And.intro hRq hokq))))
   clear kr hz3 hk3 hRq hokq hPr
   go_wp2_with fail
   obtain ⟨kr,hz3,hk3,hRq,hokq⟩:=HH.out
   clear HH
   refine wp_region_held_drew (S:=(fun w' => w'.cell? ⟨q,0,none⟩ = some (.slice (some ⟨bp,f,none⟩) n cp)∧w'.cell? ⟨bp,f + t * 3,none⟩ = some (.int .i64 pv)∧w'.cell? ⟨bp,f + t * 3 + 1,none⟩ = some (.bool s3)∧w'.cell? ⟨bp,f + t * 3 + 2,none⟩ = some (.slice a3 l3 c3)∧w'.cell? ⟨p,0,none⟩ = some (.bool s0)∧w'.cell? ⟨p,1,none⟩ = some (.slice a0 l0 c0)∧Below wb.heap.size wb w')) k_f (sk5 x z g0 g1 g2 hbpl (grow_drew kr)) (fun hHeld => ?_)
   show wpAnyH _ _ _ _ _ 19 _ _ _
   have kd:=grow_drew (Below.refl wr.heap.size wr)
   have kW:=grow_drew kr
   have hRq:=hRq.below kd
   have hokq:=hokq.below kd
   have hz3:=hz3.below kd
   have hk3:=hk3.below kd
   clear kd
   generalize wr.drew = wQ at *
   refine tkz 0 14 ?_
   (try simp only [pz])
   refine tkz 1 15 ?_
   (try simp only [pz])
   refine tkz 2 16 ?_
   (try simp only [pz])
   refine tkz 3 17 ?_
   (try simp only [pz])
   refine tkz 4 18 ?_
   (try simp only [pz])
   refine tkz 5 19 ?_
   (try simp only [pz])
   refine tkz 6 20 ?_
   (try simp only [pz])
   refine tkz 7 21 ?_
   (try simp only [pz])
   refine tkz 8 22 ?_
   (try simp only [pz])
   refine tkz 9 23 ?_
   (try simp only [pz])
   refine tkz 10 24 ?_
   (try simp only [pz])
   refine tkz 11 25 ?_
   (try simp only [pz])
   refine tkz 12 26 ?_
   (try simp only [pz])
   refine tkz 13 27 ?_
   (try simp only [pz])
   refine ryz 14 (some 28) (fun K hK => ?_) AllReadyH.nil
   go_simp
   go_at_call 165; refine Calls.mono (rmul2_n hk3 hz3 o_m o_m) ?_; rintro e wA ⟨sN,aN,lN,cN,rfl,hN,kA,hlN⟩
   have hRq:=hRq.below kA
   have hokq:=hokq.below kA
   have kW:=grow_step kA kW
   (try go_wp2_with fail)
   refine hK.out _ _ ?_ ?_
   ·(try dsimp only); exact sk5 x z g0 g1 g2 hbpl kW
   clear hK K hHeld; intro hHeld
   (try simp only [pz])
   refine ryz 15 (some 29) (fun K hK => ?_) AllReadyH.nil
   go_simp
   refine hK.out _ _ ?_ ?_
   ·(try dsimp only); exact sk5 x z g0 g1 g2 hbpl kW
   clear hK K hHeld; intro hHeld
   (try simp only [pz])
   refine ryz 16 (some 30) (fun K hK => ?_) AllReadyH.nil
   have kL:=below_alloc wA (.cells #[.int .i64 pv,.bool sN,.slice aN lN cN] 69)
   have hRq:=hRq.below kL
   have hokq:=hokq.below kL
   have hN:=hN.below kL
   have hv3:=v3_new wA pv sN aN lN cN
   have kW:=grow_step kL kW
   go_simp
   refine hK.out _ _ ?_ ?_
   ·(try dsimp only); exact sk5 x z g0 g1 g2 hbpl kW
   clear hK K hHeld; intro hHeld
   (try simp only [pz])
   generalize wA.alloc (.cells #[.int .i64 pv,.bool sN,.slice aN lN cN] 69) = wL at *
   refine ryz 17 (some 31) (fun K hK => ?_) AllReadyH.nil
   refine anyH_append rfl _ _ 38 rfl _ _ rfl rfl _ (run_append_rs (w0:=wb) hRq kW ⟨pv,sN,aN,lN,cN,k0 * pz⟩ ⟨wA.heap.size,0,none⟩ hv3 o_m _) ?_
   rintro v5 w8 ⟨cap5,L5,hR5,htk,hmem,hb5,hg5, -⟩
   obtain ⟨ad5,rfl⟩:=hR5.row
   have kW:=hb5
   refine hK.out _ _ ?_ ?_
   ·(try dsimp only); exact sk5 x z g0 g1 g2 hbpl kW
   clear hK K hHeld; intro hHeld
   (try simp only [pz])
   refine ryz 18 (some 5) (fun K hK => ?_) AllReadyH.nil
   go_simp
   refine hK.out _ _ ?_ ?_
   ·(try dsimp only); exact sk5 x z g0 g1 g2 hbpl kW
   clear hK K hHeld; intro hHeld
   (try simp only [pz])
   refine wpAnyH_done k_f ?_ _
   have ok5 : Rok Fw w8 (2 * B + 1) L5:=fun y hy => by
    rcases hmem y hy with h | rfl | rfl
    ·exact ⟨rs_zn hRq hg5 (hokq y h).1,(hokq y h).2⟩
    ·exact ⟨rs_zn hRq hg5 hN,by show lN≤_; omega,hv⟩
    exact zr_ok _ _
   have hlays3 : Hid ((L5.take (t + 1)).map Raw.p = mapP (fun x => k0 * x) (ps.take (t + 1))):=(show _ = _ by rw [htk,List.map_append,hps.out,mapP_snoc,hlays.out]; rfl)
   replace hR5:=hide hR5
   replace ok5:=hide ok5
   replace hb5:=hide hb5
   clear hHeld hmem htk hg5 hRq hokq hN hv3 kW kA kL
   go_wp2_with fail
   exact ⟨⟨t + 1,ad5,cap5,L5,by omega,by go_num,rfl,hR5,ok5,hlays3,hb5⟩,by simp [intOf]; omega⟩
  obtain rfl : n = t:=by omega
  have hall : (L'.take n).map Raw.p = mapP (fun x => k0 * x) ps:=by rw [hlays.out,List.take_of_length_le (by have:=hP.1; omega)]
  have hPr:=rs_pr hR.out hok.out
  rw [hall] at hPr
  have hzr:=hz.below kr
  have hk3:=hk.below kr
  have zr:=z.below kr
  have yr:=y.below kr
  have hbr : Hid (Below w.heap.size w wr):=grow_step kr b0.out
  have e0:=zr.c0
  have e1:=zr.c1
  have u1:=xr.c1
  have u2:=xr.c2
  clear hlays hall hR hok hkr
  go_wp2_with fail
  refine (rmul2_n hk3 hzr o_m o_m).mono ?_
  rintro e w2 ⟨sM,aM,lM,cM,rfl,hM,k2,hlM⟩
  replace hPr:=hPr.below k2
  replace yr:=yr.below k2
  replace hbr:=hide (grow_step k2 hbr.out)
  clear k2 e0 e1 u0 u1 u2 hzr hk3 zr xr kr
  go_wp2_with fail
  refine (rnorm5_w (B:=2 * B + 1) hPr hM.zm o_m o_m o_m).mono ?_
  rintro e w3 ⟨adN,nN,cpN,sN,aN,lN,cN,rfl,hTW,hzN,kN,hnN,hPN,hnewN⟩
  have hlN:=hTW.2.2
  have y2:=yr.below kN
  have v0:=y2.c0
  have v1:=y2.c1
  have v2:=y2.c2
  have v3:=y2.f 0
  have v4:=y2.f 1
  have v5:=y2.f 2
  have g:=tb_set w3 r (.slice adN nN cpN) (.bool sN) (.slice aN lN cN)
  have HH:=hide (And.intro (hPN.tb y2 g) (And.intro (hzN.grownU g (tb_noU y2)) (And.intro (below_grown (grow_step kN hbr.out) g hwr'.out) (And.intro (tb_fin y2 adN nN cpN sN aN lN cN) (fun b off e => Nat.le_trans hbr.out.size (hnewN b off e))))))
  clear hTW hzN kN hPN hnewN y2 yr g hPr hbr hM
  go_wp2
  obtain ⟨hPf,hzf,kf,yf,hnf⟩:=HH.out
  refine bodyPost_ret (results_cell_row rfl _ _ r 40 _ (0,0) _ rfl yf Tryz.underlying40 rfl k_f) rfl ?_
  exact ⟨adN,nN,cpN,sN,aN,lN,cN,by simp,hPf.mono o_m,hzf,by omega,hnN,hnf,kf⟩
theorem rscale5_n {k0 : Int} (hk : Zm Fw w s0 a0 l0 c0 k0) (hk0 : l0≤B) (hP : Pr Fw w ad n ps B) (hz : Zm Fw w s a l c k) (hl : l≤B) (hn : n≤262144) (hB : B≤67108864) :
  Calls Tryz.prog 128 #[.agg #[.bool s0,.slice a0 l0 c0],.agg #[.slice ad n cp,.bool s,.slice a l c]] w fun e w' => ∃ ad' n' cp' s' a' l' c',e = .returned (.agg #[.slice ad' n' cp',.bool s',.slice a' l' c'])∧Pn Fw w' ad' n' (nz (lays [] (mapP (fun x => k0 * x) ps))) (2 * B + n + 2)∧Zn Fw w' s' a' l' c' (k0 * k)∧l'≤2 * B + n + 2∧n'≤n∧(∀ b off,ad' = some ⟨b,off,none⟩→w.heap.size≤b)∧Below w.heap.size w w' :=
 rscale5_g hk hk0 hP hz hl o_m hB
theorem rmodulo6_n {s2 : Bool} {a2 : Option Addr} {l2 c2 : Nat} {d : Int} (hS : Std ps) (hP : Pr Fw w ad n ps B) (hz : Zm Fw w s a l c k) (hl : l≤B) (hd : Go.Proofs.YtcfmkjegolpgaaaGreatDoor.Zm w s2 a2 l2 c2 d) (hl2 : l2≤B) (hd0 : 0 < d) (hn : n≤262144) (hB : B≤67108864) :
  Calls Tryz.prog 126 #[.agg #[.slice ad n cp,.bool s,.slice a l c],.agg #[.bool s2,.slice a2 l2 c2]] w fun e w' => ∃ ad' n' cp' s' a' l' c',e = .returned (.agg #[.slice ad' n' cp',.bool s',.slice a' l' c'])∧Pn Fw w' ad' n' (eachP (fun x => x % d) ps) (2 * B + n + 6)∧Zn Fw w' s' a' l' c' (k % d)∧l'≤2 * B + n + 6∧n'≤n∧(∀ b off,ad' = some ⟨b,off,none⟩→w.heap.size≤b)∧Below w.heap.size w w':=by
 replace hS:=hide hS
 go_enter Tryz.func126,Tryz.ntmps126
 go_wp2_with fail
 have x:=((tb_new w ad n cp s a l c).below (below_alloc _ (.cells #[.bool s2,.slice a2 l2 c2] 37))).below (below_alloc _ (.cells #[.slice none 0 0,.bool false,.slice none 0 0] 40))
 have z:=(zb_new (w.alloc (.cells #[.slice ad n cp,.bool s,.slice a l c] 40)) s2 a2 l2 c2).below (below_alloc _ (.cells #[.slice none 0 0,.bool false,.slice none 0 0] 40))
 have y:=tb_new ((w.alloc (.cells #[.slice ad n cp,.bool s,.slice a l c] 40)).alloc (.cells #[.bool s2,.slice a2 l2 c2] 37)) none 0 0 false none 0 0
 have b0 : Below w.heap.size w (((w.alloc (.cells #[.slice ad n cp,.bool s,.slice a l c] 40)).alloc (.cells #[.bool s2,.slice a2 l2 c2] 37)).alloc (.cells #[.slice none 0 0,.bool false,.slice none 0 0] 40)):=below_alloc' (below_alloc' (below_alloc _ _) _) _
 rw [show (w.alloc (.cells #[.slice ad n cp,.bool s,.slice a l c] 40)).heap.size = w.heap.size + 1 from by simp] at z
 rw [show ((w.alloc (.cells #[.slice ad n cp,.bool s,.slice a l c] 40)).alloc (.cells #[.bool s2,.slice a2 l2 c2] 37)).heap.size = w.heap.size + 1 + 1 from by simp] at y
 generalize ((w.alloc (.cells #[.slice ad n cp,.bool s,.slice a l c] 40)).alloc (.cells #[.bool s2,.slice a2 l2 c2] 37)).alloc (.cells #[.slice none 0 0,.bool false,.slice none 0 0] 40) = wb at *
 have hpr : w.heap.size < w.heap.size + 1∧w.heap.size + 1 < w.heap.size + 1 + 1:=by omega
 have hP0:=hide hP
 clear hP
 replace hz:=hz.below b0
 replace hd:=hd.below b0
 generalize w.heap.size + 1 + 1 = r at *
 generalize w.heap.size + 1 = q at *
 generalize hp : w.heap.size = p at *
 replace hp:=hide hp
 refine (rmod6_n hz hd o_m o_m hd0).mono ?_
 rintro e w1 ⟨s1,a1,l1,c1,rfl,hz1,k1,hl1⟩
 have x1:=x.below k1
 have z1:=z.below k1
 have y1:=y.below k1
 replace hd:=hd.below k1
 have v0:=y1.c0
 have v1:=y1.c1
 have v2:=y1.c2
 have v3:=y1.f 0
 have v4:=y1.f 1
 have v5:=y1.f 2
 go_wp2_with fail
 have yo:=tb_new w1 none 0 0 s1 a1 l1 c1
 have ko:=below_alloc w1 (.cells #[.slice none 0 0,.bool s1,.slice a1 l1 c1] 40)
 replace hz1:=hz1.below ko
 replace hd:=hd.below ko
 replace x1:=x1.below ko
 replace z1:=z1.below ko
 replace y1:=y1.below ko
 have hrl:=y.lt
 have hbo:=hide (hp.out.symm ▸ (b0.trans ((k1.mono o_m).trans (ko.mono (Nat.le_trans o_m k1.size)))) : Below w.heap.size w _)
 have hro : Hid (p < q∧q < r∧r < w1.heap.size):=⟨hpr.1,hpr.2,Nat.lt_of_lt_of_le y.lt k1.size⟩
 generalize w1.alloc (.cells #[.slice none 0 0,.bool s1,.slice a1 l1 c1] 40) = wo at *
 generalize w1.heap.size = o at *
 clear k1 ko b0 v0 v1 v2 v3 v4 v5 x y z hz
 go_loopw [6] (fun i wr => ∃ (t : Nat) (ad' : Option Addr) (cap' : Nat) (L' : List Raw),t≤n∧i = .int .i64 t∧TB wr o ad' t cap' s1 a1 l1 c1∧Hid (RS wo.heap.size wr (.slice ad' t cap') t cap' L')∧Hid (Rok Fw wr (2 * B + 5) L')∧Hid ((L'.take t).map Raw.p = mapP (fun x => x % d) (ps.take t))∧Hid (wo.grownBy wr (some o))) (fun i _ => n - (intOf i).toNat)
 case atStart => exact ⟨0,none,0,[],Nat.zero_le _,rfl,yo,.inl ⟨rfl,rfl,rfl,rfl⟩,(fun x hx => absurd hx (by simp)),(show _ = _ from rfl),⟨rfl,rfl,rfl,Nat.le_refl _,fun _ _ _ => rfl⟩⟩
 case round =>
  obtain ⟨t,ad',cap',L',ht,rfl,yr,hR,hok,hlays,hg⟩:=hrel
  have xr:=x1.grown hg.out (by have:=hro.out; omega)
  have u0:=xr.c0
  have e0:=yr.c0
  have f0:=yr.f 0
  have hol:=yo.lt
  by_cases htn : t < n
  ·obtain ⟨hpn,hPr⟩:=hP0.out
   rcases hPr with hPr | ⟨bp,f,rfl,hPr⟩
   ·omega
   have hbp:=hPr.1
   obtain ⟨s3,a3,l3,c3,g0,g1,g2,hz3,hl3,hv⟩:=(hPr.below hbo.out).2 t o_m
   have hbpo : bp ≠ o:=by have:=hro.out; have:=hp.out; omega
   have hbpl : bp < wo.heap.size:=(hPr.below hbo.out).1
   have hpo : p ≠ o:=by have:=hro.out; omega
   have hqo : q ≠ o:=by have:=hro.out; omega
   have hps : Hid (ps.take (t + 1) = ps.take t ++ [ps[t]]):=List.take_succ_eq_append_getElem (l:=ps) (i:=t) o_m
   generalize ps[t] = pp at *
   obtain ⟨pv,pz⟩:=pp
   dsimp only at *
   obtain ⟨w0,hw0,hbr,hnext⟩:=own_base yo hg.out yr
   replace hz3:=hz3.grownU hg.out (tb_noU yo)
   have hd3:=hd.grownU hg.out (tb_noU yo)
   have hRq : RS w0.heap.size wr (.slice ad' t cap') t cap' L':=hw0 ▸ hR.out
   have hokq:=hok.out
   clear hPr
   have HH:=hide (And.intro hbr (And.intro hz3 (And.intro hd3 (And.intro hRq (And.intro hokq (And.intro hnext hw0))))))
   clear hbr hz3 hd3 hRq hokq hnext hw0
   go_wp2_with fail
   obtain ⟨hbr,hz3,hd3,hRq,hokq,hnext,hw0⟩:=HH.out
   clear HH
   refine wp_region_held_drew (S:=(fun w' => w'.cell? ⟨p,0,none⟩ = some (.slice (some ⟨bp,f,none⟩) n cp)∧w'.cell? ⟨bp,f + t * 3,none⟩ = some (.int .i64 pv)∧w'.cell? ⟨bp,f + t * 3 + 1,none⟩ = some (.bool s3)∧w'.cell? ⟨bp,f + t * 3 + 2,none⟩ = some (.slice a3 l3 c3)∧w'.cell? ⟨q,0,none⟩ = some (.bool s2)∧w'.cell? ⟨q,1,none⟩ = some (.slice a2 l2 c2)∧wo.grownBy w' (some o))) k_f (nk2 x1 hpo g0 g1 g2 hbpl hbpo z1 hqo (gb_below hg.out (grow_drew (Below.refl wr.heap.size wr)))) (fun hHeld => ?_)
   show wpAnyH _ _ _ _ _ 21 _ _ _
   have kW:=grow_drew (Below.refl wr.heap.size wr)
   have yr:=yr.below kW
   have hRq:=hRq.below kW
   have hokq:=hokq.below kW
   generalize wr.drew = wQ at *
   refine tkz 0 19 ?_
   (try simp only [pz])
   refine tkz 2 21 ?_
   (try simp only [pz])
   refine tkz 3 22 ?_
   (try simp only [pz])
   refine tkz 4 23 ?_
   (try simp only [pz])
   refine tkz 5 24 ?_
   (try simp only [pz])
   refine tkz 6 25 ?_
   (try simp only [pz])
   refine tkz 7 26 ?_
   (try simp only [pz])
   refine tkz 8 27 ?_
   (try simp only [pz])
   refine tkz 9 28 ?_
   (try simp only [pz])
   refine tkz 10 29 ?_
   (try simp only [pz])
   refine tkz 11 30 ?_
   (try simp only [pz])
   refine tkz 12 31 ?_
   (try simp only [pz])
   refine tkz 13 32 ?_
   (try simp only [pz])
   refine tkz 14 33 ?_
   (try simp only [pz])
   refine wpAnyH_ready (rs:=[1,15]) k_f (by simp) ?_
   refine AllReadyH.cons (o:=⟨some 20,_,_,_,_,_⟩) rfl (fun K hK => ?_) ?_
   ·have f0:=yr.c0
    go_simp
    refine hK.out _ _ ?_ ?_
    ·(try dsimp only); exact nk2 x1 hpo g0 g1 g2 hbpl hbpo z1 hqo (gb_below hg.out kW)
    clear hK K hHeld; intro hHeld
    (try simp only [pz])
    refine ryz 15 (some 34) (fun K hK => ?_) ?_
    ·go_simp
     go_at_call 127; refine Calls.mono (rmod6_n (hz3.below kW) (hd3.below kW) o_m o_m hd0) ?_; rintro e wA ⟨sN,aN,lN,cN,rfl,hN,kA,hlN⟩
     have yr:=yr.below kA
     have hRq:=hRq.below kA
     have hokq:=hokq.below kA
     have kW:=grow_step kA kW
     (try go_wp2_with fail)
     refine hK.out _ _ ?_ ?_
     ·(try dsimp only); exact nk2 x1 hpo g0 g1 g2 hbpl hbpo z1 hqo (gb_below hg.out kW)
     clear hK K hHeld; intro hHeld
     (try simp only [pz])
     refine ryz 16 (some 35) (fun K hK => ?_) ?_
     ·go_simp
      refine hK.out _ _ ?_ ?_
      ·(try dsimp only); exact nk2 x1 hpo g0 g1 g2 hbpl hbpo z1 hqo (gb_below hg.out kW)
      clear hK K hHeld; intro hHeld
      (try simp only [pz])
      refine ryz 17 (some 36) (fun K hK => ?_) ?_
      ·have kL:=below_alloc (wA) (.cells #[.int .i64 pv,.bool sN,.slice aN lN cN] 69)
       have yr:=yr.below kL
       have hRq:=hRq.below kL
       have hokq:=hokq.below kL
       have hN:=hN.below kL
       have hv3:=v3_new wA pv sN aN lN cN
       have kW:=grow_step kL kW
       go_simp
       refine hK.out _ _ ?_ ?_
       ·(try dsimp only); exact nk2 x1 hpo g0 g1 g2 hbpl hbpo z1 hqo (gb_below hg.out kW)
       clear hK K hHeld; intro hHeld
       (try simp only [pz])
       generalize (wA).alloc (.cells #[.int .i64 pv,.bool sN,.slice aN lN cN] 69) = wL at *
       refine ryz 18 (some 37) (fun K hK => ?_) ?_
       ·skip
        refine anyH_append rfl _ _ 38 rfl _ _ rfl rfl _ (run_append_rs (w0:=w0) hRq (grow_step kW hbr) ⟨pv,sN,aN,lN,cN,pz % d⟩ ⟨wA.heap.size,0,none⟩ hv3 o_m _) ?_
        rintro v5 w8 ⟨cap5,L5,hR5,htk,hmem,hb5,hg5, -⟩
        obtain ⟨ad5,rfl⟩:=hR5.row
        obtain ⟨hgS,y8⟩:=hnext w8 hb5
        refine hK.out _ _ ?_ ?_
        ·(try dsimp only); exact nk2 x1 hpo g0 g1 g2 hbpl hbpo z1 hqo hgS
        clear hK K hHeld; intro hHeld
        (try simp only [pz])
        refine ryz 19 (some 38) (fun K hK => ?_) ?_
        ·go_simp
         refine hK.out _ _ ?_ ?_
         ·(try dsimp only); exact nk2 x1 hpo g0 g1 g2 hbpl hbpo z1 hqo hgS
         clear hK K hHeld; intro hHeld
         (try simp only [pz])
         refine ryz 20 none (fun K hK => ?_) ?_
         ·have f0:=y8.c0
          have f1:=y8.f 0
          go_simp
          have hgS:=gb_trans hgS (gb_set w8 o 0 (.slice ad5 (t + 1) cap5))
          refine hK.out _ _ ?_ ?_
          ·(try dsimp only); exact nk2 x1 hpo g0 g1 g2 hbpl hbpo z1 hqo hgS
          clear hK K hHeld; intro hHeld
          (try simp only [pz])
          refine wpAnyH_done k_f ?_ _
          have y3:=tb_set0 y8 ad5 (t + 1) cap5
          have hR3:=hide (RS.grown (o:=o) (hw0 ▸ hR5 : RS wo.heap.size w8 (.slice ad5 (t + 1) cap5) (t + 1) cap5 L5) (gb_set w8 o 0 (.slice ad5 (t + 1) cap5)) hol)
          have ok5 : Rok Fw w8 (2 * B + 5) L5:=fun y hy => by
           rcases hmem y hy with h | rfl | rfl
           ·exact ⟨rs_zn hRq hg5 (hokq y h).1,(hokq y h).2⟩
           ·exact ⟨rs_zn hRq hg5 hN,by show lN≤_; omega,hv⟩
           exact zr_ok _ _
          have hok3 : Hid (Rok Fw (w8.setCell ⟨o,0,none⟩ (.slice ad5 (t + 1) cap5)) (2 * B + 5) L5):=ok5.grownU (gb_set w8 o 0 (.slice ad5 (t + 1) cap5)) (tb_noU y8)
          have hlays3 : Hid ((L5.take (t + 1)).map Raw.p = mapP (fun x => x % d) (ps.take (t + 1))):=(show _ = _ by rw [htk,List.map_append,hps.out,mapP_snoc,hlays.out]; rfl)
          replace hgS:=hide hgS
          clear hHeld hR5 ok5 hmem htk hb5 hg5 y8 hRq hokq hN yr hv3 kW kA hbr hnext
          go_wp2_with fail
          exact ⟨⟨t + 1,ad5,cap5,L5,by omega,by go_num,y3,hR3,hok3,hlays3,hgS⟩,by simp [intOf]; omega⟩
         exact AllReadyH.nil
        exact AllReadyH.nil
       exact AllReadyH.nil
      exact AllReadyH.nil
     exact AllReadyH.nil
    exact AllReadyH.nil
   refine AllReadyH.cons (o:=⟨some 34,_,_,_,_,_⟩) rfl (fun K hK => ?_) ?_
   ·go_simp
    go_at_call 127; refine Calls.mono (rmod6_n (hz3.below kW) (hd3.below kW) o_m o_m hd0) ?_; rintro e wA ⟨sN,aN,lN,cN,rfl,hN,kA,hlN⟩
    have yr:=yr.below kA
    have hRq:=hRq.below kA
    have hokq:=hokq.below kA
    have kW:=grow_step kA kW
    (try go_wp2_with fail)
    refine hK.out _ _ ?_ ?_
    ·(try dsimp only); exact nk2 x1 hpo g0 g1 g2 hbpl hbpo z1 hqo (gb_below hg.out kW)
    clear hK K hHeld; intro hHeld
    (try simp only [pz])
    refine wpAnyH_ready (rs:=[1,16]) k_f (by simp) ?_
    refine AllReadyH.cons (o:=⟨some 20,_,_,_,_,_⟩) rfl (fun K hK => ?_) ?_
    ·have f0:=yr.c0
     go_simp
     refine hK.out _ _ ?_ ?_
     ·(try dsimp only); exact nk2 x1 hpo g0 g1 g2 hbpl hbpo z1 hqo (gb_below hg.out kW)
     clear hK K hHeld; intro hHeld
     (try simp only [pz])
     refine ryz 16 (some 35) (fun K hK => ?_) ?_
     ·go_simp
      refine hK.out _ _ ?_ ?_
      ·(try dsimp only); exact nk2 x1 hpo g0 g1 g2 hbpl hbpo z1 hqo (gb_below hg.out kW)
      clear hK K hHeld; intro hHeld
      (try simp only [pz])
      refine ryz 17 (some 36) (fun K hK => ?_) ?_
      ·have kL:=below_alloc (wA) (.cells #[.int .i64 pv,.bool sN,.slice aN lN cN] 69)
       have yr:=yr.below kL
       have hRq:=hRq.below kL
       have hokq:=hokq.below kL
       have hN:=hN.below kL
       have hv3:=v3_new wA pv sN aN lN cN
       have kW:=grow_step kL kW
       go_simp
       refine hK.out _ _ ?_ ?_
       ·(try dsimp only); exact nk2 x1 hpo g0 g1 g2 hbpl hbpo z1 hqo (gb_below hg.out kW)
       clear hK K hHeld; intro hHeld
       (try simp only [pz])
       generalize (wA).alloc (.cells #[.int .i64 pv,.bool sN,.slice aN lN cN] 69) = wL at *
       refine ryz 18 (some 37) (fun K hK => ?_) ?_
       ·skip
        refine anyH_append rfl _ _ 38 rfl _ _ rfl rfl _ (run_append_rs (w0:=w0) hRq (grow_step kW hbr) ⟨pv,sN,aN,lN,cN,pz % d⟩ ⟨wA.heap.size,0,none⟩ hv3 o_m _) ?_
        rintro v5 w8 ⟨cap5,L5,hR5,htk,hmem,hb5,hg5, -⟩
        obtain ⟨ad5,rfl⟩:=hR5.row
        obtain ⟨hgS,y8⟩:=hnext w8 hb5
        refine hK.out _ _ ?_ ?_
        ·(try dsimp only); exact nk2 x1 hpo g0 g1 g2 hbpl hbpo z1 hqo hgS
        clear hK K hHeld; intro hHeld
        (try simp only [pz])
        refine ryz 19 (some 38) (fun K hK => ?_) ?_
        ·go_simp
         refine hK.out _ _ ?_ ?_
         ·(try dsimp only); exact nk2 x1 hpo g0 g1 g2 hbpl hbpo z1 hqo hgS
         clear hK K hHeld; intro hHeld
         (try simp only [pz])
         refine ryz 20 none (fun K hK => ?_) ?_
         ·have f0:=y8.c0
          have f1:=y8.f 0
          go_simp
          have hgS:=gb_trans hgS (gb_set w8 o 0 (.slice ad5 (t + 1) cap5))
          refine hK.out _ _ ?_ ?_
          ·(try dsimp only); exact nk2 x1 hpo g0 g1 g2 hbpl hbpo z1 hqo hgS
          clear hK K hHeld; intro hHeld
          (try simp only [pz])
          refine wpAnyH_done k_f ?_ _
          have y3:=tb_set0 y8 ad5 (t + 1) cap5
          have hR3:=hide (RS.grown (o:=o) (hw0 ▸ hR5 : RS wo.heap.size w8 (.slice ad5 (t + 1) cap5) (t + 1) cap5 L5) (gb_set w8 o 0 (.slice ad5 (t + 1) cap5)) hol)
          have ok5 : Rok Fw w8 (2 * B + 5) L5:=fun y hy => by
           rcases hmem y hy with h | rfl | rfl
           ·exact ⟨rs_zn hRq hg5 (hokq y h).1,(hokq y h).2⟩
           ·exact ⟨rs_zn hRq hg5 hN,by show lN≤_; omega,hv⟩
           exact zr_ok _ _
          have hok3 : Hid (Rok Fw (w8.setCell ⟨o,0,none⟩ (.slice ad5 (t + 1) cap5)) (2 * B + 5) L5):=ok5.grownU (gb_set w8 o 0 (.slice ad5 (t + 1) cap5)) (tb_noU y8)
          have hlays3 : Hid ((L5.take (t + 1)).map Raw.p = mapP (fun x => x % d) (ps.take (t + 1))):=(show _ = _ by rw [htk,List.map_append,hps.out,mapP_snoc,hlays.out]; rfl)
          replace hgS:=hide hgS
          clear hHeld hR5 ok5 hmem htk hb5 hg5 y8 hRq hokq hN yr hv3 kW kA hbr hnext
          go_wp2_with fail
          exact ⟨⟨t + 1,ad5,cap5,L5,by omega,by go_num,y3,hR3,hok3,hlays3,hgS⟩,by simp [intOf]; omega⟩
         exact AllReadyH.nil
        exact AllReadyH.nil
       exact AllReadyH.nil
      exact AllReadyH.nil
     exact AllReadyH.nil
    refine AllReadyH.cons (o:=⟨some 35,_,_,_,_,_⟩) rfl (fun K hK => ?_) ?_
    ·go_simp
     refine hK.out _ _ ?_ ?_
     ·(try dsimp only); exact nk2 x1 hpo g0 g1 g2 hbpl hbpo z1 hqo (gb_below hg.out kW)
     clear hK K hHeld; intro hHeld
     (try simp only [pz])
     refine wpAnyH_ready (rs:=[1,17]) k_f (by simp) ?_
     refine AllReadyH.cons (o:=⟨some 20,_,_,_,_,_⟩) rfl (fun K hK => ?_) ?_
     ·have f0:=yr.c0
      go_simp
      refine hK.out _ _ ?_ ?_
      ·(try dsimp only); exact nk2 x1 hpo g0 g1 g2 hbpl hbpo z1 hqo (gb_below hg.out kW)
      clear hK K hHeld; intro hHeld
      (try simp only [pz])
      refine ryz 17 (some 36) (fun K hK => ?_) ?_
      ·have kL:=below_alloc (wA) (.cells #[.int .i64 pv,.bool sN,.slice aN lN cN] 69)
       have yr:=yr.below kL
       have hRq:=hRq.below kL
       have hokq:=hokq.below kL
       have hN:=hN.below kL
       have hv3:=v3_new wA pv sN aN lN cN
       have kW:=grow_step kL kW
       go_simp
       refine hK.out _ _ ?_ ?_
       ·(try dsimp only); exact nk2 x1 hpo g0 g1 g2 hbpl hbpo z1 hqo (gb_below hg.out kW)
       clear hK K hHeld; intro hHeld
       (try simp only [pz])
       generalize (wA).alloc (.cells #[.int .i64 pv,.bool sN,.slice aN lN cN] 69) = wL at *
       refine ryz 18 (some 37) (fun K hK => ?_) ?_
       ·skip
        refine anyH_append rfl _ _ 38 rfl _ _ rfl rfl _ (run_append_rs (w0:=w0) hRq (grow_step kW hbr) ⟨pv,sN,aN,lN,cN,pz % d⟩ ⟨wA.heap.size,0,none⟩ hv3 o_m _) ?_
        rintro v5 w8 ⟨cap5,L5,hR5,htk,hmem,hb5,hg5, -⟩
        obtain ⟨ad5,rfl⟩:=hR5.row
        obtain ⟨hgS,y8⟩:=hnext w8 hb5
        refine hK.out _ _ ?_ ?_
        ·(try dsimp only); exact nk2 x1 hpo g0 g1 g2 hbpl hbpo z1 hqo hgS
        clear hK K hHeld; intro hHeld
        (try simp only [pz])
        refine ryz 19 (some 38) (fun K hK => ?_) ?_
        ·go_simp
         refine hK.out _ _ ?_ ?_
         ·(try dsimp only); exact nk2 x1 hpo g0 g1 g2 hbpl hbpo z1 hqo hgS
         clear hK K hHeld; intro hHeld
         (try simp only [pz])
         refine ryz 20 none (fun K hK => ?_) ?_
         ·have f0:=y8.c0
          have f1:=y8.f 0
          go_simp
          have hgS:=gb_trans hgS (gb_set w8 o 0 (.slice ad5 (t + 1) cap5))
          refine hK.out _ _ ?_ ?_
          ·(try dsimp only); exact nk2 x1 hpo g0 g1 g2 hbpl hbpo z1 hqo hgS
          clear hK K hHeld; intro hHeld
          (try simp only [pz])
          refine wpAnyH_done k_f ?_ _
          have y3:=tb_set0 y8 ad5 (t + 1) cap5
          have hR3:=hide (RS.grown (o:=o) (hw0 ▸ hR5 : RS wo.heap.size w8 (.slice ad5 (t + 1) cap5) (t + 1) cap5 L5) (gb_set w8 o 0 (.slice ad5 (t + 1) cap5)) hol)
          have ok5 : Rok Fw w8 (2 * B + 5) L5:=fun y hy => by
           rcases hmem y hy with h | rfl | rfl
           ·exact ⟨rs_zn hRq hg5 (hokq y h).1,(hokq y h).2⟩
           ·exact ⟨rs_zn hRq hg5 hN,by show lN≤_; omega,hv⟩
           exact zr_ok _ _
          have hok3 : Hid (Rok Fw (w8.setCell ⟨o,0,none⟩ (.slice ad5 (t + 1) cap5)) (2 * B + 5) L5):=ok5.grownU (gb_set w8 o 0 (.slice ad5 (t + 1) cap5)) (tb_noU y8)
          have hlays3 : Hid ((L5.take (t + 1)).map Raw.p = mapP (fun x => x % d) (ps.take (t + 1))):=(show _ = _ by rw [htk,List.map_append,hps.out,mapP_snoc,hlays.out]; rfl)
          replace hgS:=hide hgS
          clear hHeld hR5 ok5 hmem htk hb5 hg5 y8 hRq hokq hN yr hv3 kW kA hbr hnext
          go_wp2_with fail
          exact ⟨⟨t + 1,ad5,cap5,L5,by omega,by go_num,y3,hR3,hok3,hlays3,hgS⟩,by simp [intOf]; omega⟩
         exact AllReadyH.nil
        exact AllReadyH.nil
       exact AllReadyH.nil
      exact AllReadyH.nil
     refine AllReadyH.cons (o:=⟨some 36,_,_,_,_,_⟩) rfl (fun K hK => ?_) ?_
     ·have kL:=below_alloc (wA) (.cells #[.int .i64 pv,.bool sN,.slice aN lN cN] 69)
      have yr:=yr.below kL
      have hRq:=hRq.below kL
      have hokq:=hokq.below kL
      have hN:=hN.below kL
      have hv3:=v3_new wA pv sN aN lN cN
      have kW:=grow_step kL kW
      go_simp
      refine hK.out _ _ ?_ ?_
      ·(try dsimp only); exact nk2 x1 hpo g0 g1 g2 hbpl hbpo z1 hqo (gb_below hg.out kW)
      clear hK K hHeld; intro hHeld
      (try simp only [pz])
      generalize (wA).alloc (.cells #[.int .i64 pv,.bool sN,.slice aN lN cN] 69) = wL at *
      refine ryz 1 (some 20) (fun K hK => ?_) ?_
      ·have f0:=yr.c0
       go_simp
       refine hK.out _ _ ?_ ?_
       ·(try dsimp only); exact nk2 x1 hpo g0 g1 g2 hbpl hbpo z1 hqo (gb_below hg.out kW)
       clear hK K hHeld; intro hHeld
       (try simp only [pz])
       refine ryz 18 (some 37) (fun K hK => ?_) ?_
       ·skip
        refine anyH_append rfl _ _ 38 rfl _ _ rfl rfl _ (run_append_rs (w0:=w0) hRq (grow_step kW hbr) ⟨pv,sN,aN,lN,cN,pz % d⟩ ⟨wA.heap.size,0,none⟩ hv3 o_m _) ?_
        rintro v5 w8 ⟨cap5,L5,hR5,htk,hmem,hb5,hg5, -⟩
        obtain ⟨ad5,rfl⟩:=hR5.row
        obtain ⟨hgS,y8⟩:=hnext w8 hb5
        refine hK.out _ _ ?_ ?_
        ·(try dsimp only); exact nk2 x1 hpo g0 g1 g2 hbpl hbpo z1 hqo hgS
        clear hK K hHeld; intro hHeld
        (try simp only [pz])
        refine ryz 19 (some 38) (fun K hK => ?_) ?_
        ·go_simp
         refine hK.out _ _ ?_ ?_
         ·(try dsimp only); exact nk2 x1 hpo g0 g1 g2 hbpl hbpo z1 hqo hgS
         clear hK K hHeld; intro hHeld
         (try simp only [pz])
         refine ryz 20 none (fun K hK => ?_) ?_
         ·have f0:=y8.c0
          have f1:=y8.f 0
          go_simp
          have hgS:=gb_trans hgS (gb_set w8 o 0 (.slice ad5 (t + 1) cap5))
          refine hK.out _ _ ?_ ?_
          ·(try dsimp only); exact nk2 x1 hpo g0 g1 g2 hbpl hbpo z1 hqo hgS
          clear hK K hHeld; intro hHeld
          (try simp only [pz])
          refine wpAnyH_done k_f ?_ _
          have y3:=tb_set0 y8 ad5 (t + 1) cap5
          have hR3:=hide (RS.grown (o:=o) (hw0 ▸ hR5 : RS wo.heap.size w8 (.slice ad5 (t + 1) cap5) (t + 1) cap5 L5) (gb_set w8 o 0 (.slice ad5 (t + 1) cap5)) hol)
          have ok5 : Rok Fw w8 (2 * B + 5) L5:=fun y hy => by
           rcases hmem y hy with h | rfl | rfl
           ·exact ⟨rs_zn hRq hg5 (hokq y h).1,(hokq y h).2⟩
           ·exact ⟨rs_zn hRq hg5 hN,by show lN≤_; omega,hv⟩
           exact zr_ok _ _
          have hok3 : Hid (Rok Fw (w8.setCell ⟨o,0,none⟩ (.slice ad5 (t + 1) cap5)) (2 * B + 5) L5):=ok5.grownU (gb_set w8 o 0 (.slice ad5 (t + 1) cap5)) (tb_noU y8)
          have hlays3 : Hid ((L5.take (t + 1)).map Raw.p = mapP (fun x => x % d) (ps.take (t + 1))):=(show _ = _ by rw [htk,List.map_append,hps.out,mapP_snoc,hlays.out]; rfl)
          replace hgS:=hide hgS
          clear hHeld hR5 ok5 hmem htk hb5 hg5 y8 hRq hokq hN yr hv3 kW kA hbr hnext
          go_wp2_with fail
          exact ⟨⟨t + 1,ad5,cap5,L5,by omega,by go_num,y3,hR3,hok3,hlays3,hgS⟩,by simp [intOf]; omega⟩
         exact AllReadyH.nil
        exact AllReadyH.nil
       exact AllReadyH.nil
      exact AllReadyH.nil
     exact AllReadyH.nil
    exact AllReadyH.nil
   exact AllReadyH.nil
  obtain rfl : n = t:=by omega
  have hall : (L'.take n).map Raw.p = mapP (fun x => x % d) ps:=by rw [hlays.out,List.take_of_length_le (by have:=hP0.out.1; omega)]
  have hzr:=hz1.grownU hg.out (tb_noU yo)
  have yr0:=y1.grown hg.out (by have:=hro.out; omega)
  have hPr:=rs_pr hR.out hok.out
  rw [hall] at hPr
  have hbr : Hid (Below w.heap.size w wr):=below_grown hbo.out hg.out (by have:=hro.out; have:=hp.out; omega)
  have e1:=yr.c1
  have e2:=yr.c2
  have hwr : Hid (w.heap.size≤r):=(show w.heap.size≤r by have:=hro.out; have:=hp.out; omega)
  clear hg hlays hbo hol ht htn yo x1 y1 hz1 hR hok hall z1 hd f0 yr
  go_wp2_with fail
  refine (rnorm5_w (B:=2 * B + 5) hPr hzr.zm o_m o_m o_m).mono ?_
  rintro e w2 ⟨adN,nN,cpN,sN,aN,lN,cN,rfl,hTW,hzN,kN,hnN,hPN,hnewN⟩
  rw [nz_mapP hS.out] at hPN
  have hlN:=hTW.2.2
  have y2:=yr0.below kN
  have v0:=y2.c0
  have v1:=y2.c1
  have v2:=y2.c2
  have v3:=y2.f 0
  have v4:=y2.f 1
  have v5:=y2.f 2
  have g:=tb_set w2 r (.slice adN nN cpN) (.bool sN) (.slice aN lN cN)
  have HH:=hide (And.intro (hPN.tb y2 g) (And.intro (hzN.grownU g (tb_noU y2)) (And.intro (below_grown (grow_step kN hbr.out) g hwr.out) (And.intro (tb_fin y2 adN nN cpN sN aN lN cN) (fun b off e => Nat.le_trans hbr.out.size (hnewN b off e))))))
  clear hTW hzN kN hPN hnewN y2 yr0 g hPr hzr e1 e2 hbr
  go_wp2
  obtain ⟨hPf,hzf,kf,yf,hnf⟩:=HH.out
  refine bodyPost_ret (results_cell_row rfl _ _ r 40 _ (0,0) _ rfl yf Tryz.underlying40 rfl k_f) rfl ?_
  exact ⟨adN,nN,cpN,sN,aN,lN,cN,by simp,hPf.mono o_m,hzf,by omega,hnN,hnf,kf⟩
end Go.Proofs.YtcfmkjegolpgaaaGreatDoor.Low

namespace Go.Proofs.YtcfmkjegolpgaaaGreatDoor
open Go.RowKit Go.Sort Go.Shelf
open Tm At

variable {w w' : World} {s : Bool} {a : Option Addr} {l c : Nat}
theorem lq7 {p q o : Nat} {ad : Option Addr} {n cp : Nat} {s2 : Bool} {a2 : Option Addr} {l2 c2 : Nat} {s3 : Bool} {a3 : Option Addr} {l3 c3 : Nat} (x : TB w p ad n cp s a l c) (z : ZB w o s2 a2 l2 c2) (z2 : ZB w q s3 a3 l3 c3) (k : Below w.heap.size w w') :
  w'.cell? ⟨p,1,none⟩ = some (.bool s)∧w'.cell? ⟨p,2,none⟩ = some (.slice a l c)∧w'.cell? ⟨o,0,none⟩ = some (.bool s2)∧w'.cell? ⟨o,1,none⟩ = some (.slice a2 l2 c2)∧w'.cell? ⟨q,0,none⟩ = some (.bool s3)∧w'.cell? ⟨q,1,none⟩ = some (.slice a3 l3 c3)∧Below w.heap.size w w' :=
 ⟨(x.below k).c1,(x.below k).c2,(z.below k).c0,(z.below k).c1,(z2.below k).c0,(z2.below k).c1,k⟩


theorem rsame6_n {s1 s2 : Bool} {a1 a2 : Option Addr} {l1 c1 l2 c2 : Nat} {z1 z2 : Int} (h1 : Zm w s1 a1 l1 c1 z1) (h2 : Zm w s2 a2 l2 c2 z2) (hl1 : l1≤1099511627776) (hl2 : l2≤1099511627776) :
  Calls Tryz.prog 80 #[.agg #[.bool s1,.slice a1 l1 c1],.agg #[.bool s2,.slice a2 l2 c2]] w fun e w' => e = .returned (.bool (cmpI z1 z2 == 0))∧Below w.heap.size w w':=by
 go_enter Tryz.func80,Tryz.ntmps80
 go_wp2_with fail
 have x:=(zb_new w s1 a1 l1 c1).below (below_alloc _ (.cells #[.bool s2,.slice a2 l2 c2] 37))
 have x2:=zb_new (w.alloc (.cells #[.bool s1,.slice a1 l1 c1] 37)) s2 a2 l2 c2
 have b0 : Below w.heap.size w ((w.alloc (.cells #[.bool s1,.slice a1 l1 c1] 37)).alloc (.cells #[.bool s2,.slice a2 l2 c2] 37)):=below_alloc' (below_alloc _ _) _
 rw [show (w.alloc (.cells #[.bool s1,.slice a1 l1 c1] 37)).heap.size = w.heap.size + 1 from by simp] at x2
 replace h1:=h1.below b0
 replace h2:=h2.below b0
 generalize (w.alloc (.cells #[.bool s1,.slice a1 l1 c1] 37)).alloc (.cells #[.bool s2,.slice a2 l2 c2] 37) = wb at *
 generalize hp : w.heap.size = p at *
 replace hp:=hide hp
 generalize p + 1 = q at *
 refine (rcmp2_n h1 h2 hl1 hl2).mono ?_
 rintro e w1 ⟨rfl,k1⟩
 generalize hcz : cmpI z1 z2 = cz at *
 replace hcz:=hide hcz
 go_wp2
 go_ret
 exact ⟨by simp [hcz.out],hp.out.symm ▸ b0.trans (k1.mono (Nat.le_of_lt x.lt))⟩

theorem cmpI_nil0 (X : Int) : cmpI X 0 = 0 ↔ X = 0:=by
 unfold cmpI
 split <;> (try split) <;> omega

theorem zb_gb {b o : Nat} (z : ZB w b s a l c) (hg : w.grownBy w' (some o)) (hne : b ≠ o) : ZB w' b s a l c:=(hg.block b z.lt (by simpa using hne)).trans z
theorem ab_gb {p r : Nat} {kd : Int} {ad : Option Addr} {n cp : Nat} {t : Bool} {b : Option Addr} {m d : Nat} (h : AB w p kd s a l c ad n cp t b m d) (hg : w.grownBy w' (some r)) (hne : p ≠ r) : AB w' p kd s a l c ad n cp t b m d:=(hg.block p h.lt (by simpa using hne)).trans h
theorem divG_nil {D : Nat} (h0 : (0 : Int) < (D : Int)) {k : Int} (hk : 0≤k∧k < (D : Int)) (nt : Bool) : divG (if nt = true then 4 else 3) D [] k = ⟨if ((cmpI k 0 == 0) != nt) = true then 1 else 0,0,[],0⟩:=by
 have hd : ((D : Nat) : Int) ∣ k ↔ k = 0:=by
  constructor
  ·intro h
   rcases Int.lt_or_eq_of_le hk.1 with h1 | h1
   ·have:=Int.le_of_dvd h1 h
    omega
   exact h1.symm
  rintro rfl
  exact Int.dvd_zero _
 have hc : cmpI k 0 = 0 ↔ k = 0:=cmpI_nil0 k
 have hDD : (D : Int) / (D : Int) = 1:=Int.ediv_self o_m
 unfold divG
 rw [show gcdL D [] = D from rfl]
 by_cases h : k = 0
 ·have h2 : cmpI k 0 = 0:=hc.2 h
  rw [if_neg (by simpa using hd.2 h),if_pos hDD,h2]
  cases nt <;> simp
 have h2 : cmpI k 0 ≠ 0:=fun e => h (hc.1 e)
 rw [if_pos (fun e => h (hd.1 e))]
 have h3 : (cmpI k 0 == 0) = false:=by rw [beq_eq_false_iff_ne]; exact h2
 rw [h3]
 cases nt <;> simp



end Go.Proofs.YtcfmkjegolpgaaaGreatDoor
