/-
 Several texts in one: G5,G6,G7.
-/
import Derived.Test.YtcfmkjegolpgaaaGreatDoorPT
import Derived.Test.YtcfmkjegolpgaaaGreatDoorP33
import Derived.Test.YtcfmkjegolpgaaaGreatDoorP29
set_option maxRecDepth 100000
set_option maxHeartbeats 6400000
namespace Go.Proofs.YtcfmkjegolpgaaaGreatDoor.Low
open Go.RowKit Go.Sort Go.Shelf
open Tm At
open Lw (Lo)

theorem rparted_any {nt : Bool} {kn : Int} (hkn : Hid (nt = false∧kn = 3 ∨ nt = true∧kn = 4)) {Fw : Nat} {w : World} {sd : Bool} {ad : Option Addr} {ld cd : Nat} {ap : Option Addr} {np cp : Nat} {sk : Bool} {ak : Option Addr} {lk ck : Nat} {d k : Int} {ps : List (Int × Int)} {B : Nat}
    (hF : FLE Fw w) (hd : Zm Fw w sd ad ld cd d) (hld : ld≤B) (hP : Pr Fw w ap np ps B) (hk : Zm Fw w sk ak lk ck k) (hlk : lk≤B) (hn : np≤262144) (hB : B + np≤4194000) :
    Calls Tryz.prog 68 #[.agg #[.bool sd,.slice ad ld cd],.agg #[.slice ap np cp,.bool sk,.slice ak lk ck],.bool nt] w fun e w' => RP Fw w' e kn d (nz (lays [] ps)) k (8 * B + 16 * np + 100) w.heap.size∧Below w.heap.size w w':=by
  go_enter Tryz.func68,Tryz.ntmps68
  go_wp2_with fail
  have zd:=((zb_new w sd ad ld cd).below (below_alloc _ (.cells #[.slice ap np cp,.bool sk,.slice ak lk ck] 40))).below (below_alloc _ (.cells #[.int .i64 0,.bool false,.slice none 0 0,.slice none 0 0,.bool false,.slice none 0 0] 42))
  have xt:=(tb_new (w.alloc (.cells #[.bool sd,.slice ad ld cd] 37)) ap np cp sk ak lk ck).below (below_alloc _ (.cells #[.int .i64 0,.bool false,.slice none 0 0,.slice none 0 0,.bool false,.slice none 0 0] 42))
  have y:=AB.new ((w.alloc (.cells #[.bool sd,.slice ad ld cd] 37)).alloc (.cells #[.slice ap np cp,.bool sk,.slice ak lk ck] 40)) 0 false none 0 0 none 0 0 false none 0 0
  have b0 : Below w.heap.size w (((w.alloc (.cells #[.bool sd,.slice ad ld cd] 37)).alloc (.cells #[.slice ap np cp,.bool sk,.slice ak lk ck] 40)).alloc (.cells #[.int .i64 0,.bool false,.slice none 0 0,.slice none 0 0,.bool false,.slice none 0 0] 42)):=below_alloc' (below_alloc' (below_alloc _ _) _) _
  rw [show (w.alloc (.cells #[.bool sd,.slice ad ld cd] 37)).heap.size = w.heap.size + 1 from by simp] at xt
  rw [show ((w.alloc (.cells #[.bool sd,.slice ad ld cd] 37)).alloc (.cells #[.slice ap np cp,.bool sk,.slice ak lk ck] 40)).heap.size = w.heap.size + 1 + 1 from by simp] at y
  generalize ((w.alloc (.cells #[.bool sd,.slice ad ld cd] 37)).alloc (.cells #[.slice ap np cp,.bool sk,.slice ak lk ck] 40)).alloc (.cells #[.int .i64 0,.bool false,.slice none 0 0,.slice none 0 0,.bool false,.slice none 0 0] 42) = wb at *
  replace hd:=hd.below b0
  replace hP:=hP.below b0
  replace hk:=hk.below b0
  have hwr : Hid (w.heap.size≤w.heap.size + 1 + 1):=(by omega : w.heap.size≤w.heap.size + 1 + 1)
  have hpq : w.heap.size < w.heap.size + 1∧w.heap.size + 1 < w.heap.size + 1 + 1:=by omega
  generalize w.heap.size + 1 + 1 = r at *
  generalize w.heap.size + 1 = q at *
  generalize hp : w.heap.size = p at *
  replace b0 : Hid (Below w.heap.size w wb):=hp ▸ b0
  replace hwr : Hid (w.heap.size≤r):=(show w.heap.size≤r by rw [hp]; exact hwr.out)
  clear hp
  refine (rsign_n hd o_m).mono ?_
  rintro e w1 ⟨rfl,k1⟩
  replace zd:=zd.below k1
  replace xt:=xt.below k1
  replace y:=y.below k1
  replace hd:=hd.below k1
  replace hP:=hP.below k1
  replace hk:=hk.below k1
  have kk:=hide (grow_step k1 b0.out)
  clear k1 b0
  by_cases hd0 : d = 0
  · have hc : cmpI d 0 = 0:=(cmpI_nil0 d).2 hd0
    rw [hc]
    have e0:=y.c0
    have e1:=y.c1
    have e2:=y.c2
    have e3:=y.c3
    have e4:=y.c4
    have e5:=y.c5
    have f0:=y.f 0
    have f1:=y.f 1
    have f2:=y.f 2
    have f3:=y.f 3
    have f4:=y.f 4
    have f5:=y.f 5
    have HH:=hide (And.intro (ab_fin y 0 false none 0 0 none 0 0 false none 0 0) (below_grown kk.out (ab_set w1 r (.int .i64 0) (.bool false) (.slice none 0 0) (.slice none 0 0) (.bool false) (.slice none 0 0)) hwr.out))
    clear kk y
    go_wp2
    all_goals
      refine bodyPost_ret (results_ct rfl _ _ r 42 _ (0,0) _ rfl HH.out.1 Tryz.underlying42 rfl k_f) rfl ?_
      exact ⟨.inl ⟨by first | exact hd0 | rfl,by first | rfl | (unfold AZ; simp)⟩,HH.out.2⟩
  have hc : cmpI d 0 ≠ 0:=fun e => hd0 ((cmpI_nil0 d).1 e)
  generalize cmpI d 0 = cz at *
  have i0 : (cz == 0) = false:=by rw [beq_eq_false_iff_ne]; exact hc
  have u0:=zd.c0
  have u1:=zd.c1
  go_wp2_with fail
  refine (rabs_n hd o_m).mono ?_
  rintro e w2 ⟨sm,am,lm,cm,rfl,hzm,k2,hlm⟩
  have zm:=zb_new w2 sm am lm cm
  have hrbm0 : r < w2.heap.size:=(y.below k2).lt
  have hwm : Hid (w.heap.size≤w2.heap.size):=(grow_step k2 kk.out).size
  have ka:=below_alloc w2 (.cells #[.bool sm,.slice am lm cm] 37)
  have xt2:=(xt.below k2).below ka
  have y2:=(y.below k2).below ka
  have hP2:=(hP.below k2).below ka
  have hk2:=(hk.below k2).below ka
  have hzm2:=hzm.below ka
  replace kk:=hide (grow_step ka (grow_step k2 kk.out))
  have HH:=hide (And.intro xt2 (And.intro y2 (And.intro hP2 (And.intro hk2 (And.intro hzm2 zm)))))
  clear xt2 y2 hP2 hk2 hzm2 zm ka k2 hzm zd xt y hd hP hk u0 u1
  go_wp2_with fail
  obtain ⟨xt,y,hP,hk,hzm,zm⟩:=HH.out
  clear HH
  generalize w2.alloc (.cells #[.bool sm,.slice am lm cm] 37) = w3 at *
  generalize w2.heap.size = bm at *
  have hD0 : (0 : Int) < ((d.natAbs : Nat) : Int):=by omega
  refine Code.wp_mono (Q:=fun e a' W' => e = .normal∧∃ bN adA nA cpA sA aA lA cA adB nB cpB sB aB lB cB,a' = ⟨List.toArray ((.agg #[.bool sd,.slice ad ld cd] : Value) :: (.agg #[.slice ap np cp,.bool sk,.slice ak lk ck] : Value) :: (.bool nt : Value) :: (.pointer (some ⟨p,0,none⟩) : Value) :: (.pointer (some ⟨q,0,none⟩) : Value) :: undef :: (.pointer (some ⟨r,0,none⟩) : Value) :: (.int .i64 0 : Value) :: (.int .i64 cz : Value) :: (.pointer (some ⟨bm,0,none⟩) : Value) :: (.pointer (some ⟨bN,0,none⟩) : Value) :: undef :: undef :: undef :: undef :: undef :: undef :: undef :: undef :: (.agg #[.bool sd,.slice ad ld cd] : Value) :: (.int .i64 cz : Value) :: (.int .i64 cz : Value) :: (.bool false : Value) :: undef :: (.agg #[.bool sd,.slice ad ld cd] : Value) :: (.agg #[.bool sm,.slice am lm cm] : Value) :: (.agg #[.slice ap np cp,.bool sk,.slice ak lk ck] : Value) :: (.agg #[.slice adA nA cpA,.bool sA,.slice aA lA cA] : Value) :: (.agg #[.bool sm,.slice am lm cm] : Value) :: (.agg #[.slice adB nB cpB,.bool sB,.slice aB lB cB] : Value) :: undef :: undef :: undef :: undef :: undef :: undef :: undef :: undef :: undef :: undef :: undef :: undef :: undef :: undef :: undef :: undef :: undef :: undef :: undef :: undef :: undef :: undef :: undef :: undef :: undef :: undef :: undef :: undef :: undef :: undef :: undef :: undef :: undef :: undef :: undef :: undef :: undef :: undef :: undef :: undef :: undef :: undef :: undef :: undef :: undef :: undef :: undef :: undef :: undef :: undef :: undef :: undef :: undef :: undef :: undef :: undef :: undef :: undef :: undef :: undef :: undef :: undef :: undef :: undef :: undef :: undef :: undef :: undef :: undef :: undef :: undef :: undef :: undef :: undef :: undef :: undef :: undef :: undef :: undef :: undef :: undef :: undef :: undef :: undef :: undef :: []),[]⟩∧TB W' bN adB nB cpB sB aB lB cB∧Pn Fw W' adB nB (eachP (fun x => x % ((d.natAbs : Nat) : Int)) (nz (lays [] ps))) (2 * B + 3 * np + 8)∧Zn Fw W' sB aB lB cB (k % ((d.natAbs : Nat) : Int))∧lB≤(2 * B + 3 * np + 8)∧nB≤np∧(∀ b off,adB = some ⟨b,off,none⟩→w3.heap.size≤b)∧w3.heap.size≤bN∧Below w3.heap.size w3 W') ?_ ?_
  rotate_left
  · refine wp_region_held_drew (S:=(fun w' => w'.cell? ⟨q,0,none⟩ = some (.slice ap np cp)∧w'.cell? ⟨q,1,none⟩ = some (.bool sk)∧w'.cell? ⟨q,2,none⟩ = some (.slice ak lk ck)∧w'.cell? ⟨bm,0,none⟩ = some (.bool sm)∧w'.cell? ⟨bm,1,none⟩ = some (.slice am lm cm)∧Below w3.heap.size w3 w')) k_f (tq5 xt zm (grow_drew (Below.refl _ _))) (fun hHeld => ?_)
    show wpAnyH _ _ _ _ _ 6 _ _ _
    have kW:=grow_drew (Below.refl w3.heap.size w3)
    generalize w3.drew = wQ at *
    refine wpAnyH_take (i:=0) (oi:=⟨some 26,_,_,_,_,_⟩) (v:=?_) rfl k_f k_f k_f (fun _ _ _ h => by cases h.1) (Or.inl ⟨by rfl,?_⟩) (by assumption) ?_
    rotate_left
    · intro wq hSw; (try dsimp only at hSw); go_simp; (try with_reducible rfl)
    (try simp only [pz])
    refine wpAnyH_take (i:=2) (oi:=⟨some 28,_,_,_,_,_⟩) (v:=?_) rfl k_f k_f k_f (fun _ _ _ h => by cases h.1) (Or.inl ⟨by rfl,?_⟩) (by assumption) ?_
    rotate_left
    · intro wq hSw; (try dsimp only at hSw); go_simp; (try with_reducible rfl)
    (try simp only [pz])
    refine wpAnyH_ready (rs:=[1,4]) k_f (by simp) ?_
    refine AllReadyH.cons (o:=⟨some 27,_,_,_,_,_⟩) rfl (fun K hK => ?_) ?_
    · go_simp
      go_at_call 116; refine Calls.mono (rnorm5_w (hP.below kW) (hk.below kW) hlk o_m o_m) ?_; rintro e wA ⟨adA,nA,cpA,sA,aA,lA,cA,rfl,hTA,hZA,kA,hnA,hPA, -⟩; have hlA:=hTA.2.2; clear hTA
      have kW:=grow_step kA kW
      (try go_wp2_with fail)
      refine hK.out _ _ ?_ ?_
      · (try dsimp only); exact tq5 xt zm kW
      clear hK K hHeld; intro hHeld
      (try simp only [pz])
      refine wpAnyH_ready (rs:=[3,4]) k_f (by simp) ?_
      refine AllReadyH.cons (o:=⟨some 29,_,_,_,_,_⟩) rfl (fun K hK => ?_) ?_
      · go_simp
        go_at_call 126; refine Calls.mono (rmodulo6_n (B:=B + np + 1) (std_lays ps) hPA.pr hZA.zm hlA (hzm.old.zm.below kW) o_m hD0 o_m o_m) ?_; rintro e wB ⟨adB,nB,cpB,sB,aB,lB,cB,rfl,hPB,hZB,hlB,hnB,hnewB,kB⟩; have hnew : ∀ b off,adB = some ⟨b,off,none⟩→w3.heap.size≤b:=fun b off e => Nat.le_trans kW.size (hnewB b off e)
        have hPA:=hPA.below kB
        have hZA:=hZA.below kB
        have kW:=grow_step kB kW
        (try go_wp2_with fail)
        refine hK.out _ _ ?_ ?_
        · (try dsimp only); exact tq5 xt zm kW
        clear hK K hHeld; intro hHeld
        (try simp only [pz])
        refine ryz 4 (some 10) (fun K hK => ?_) ?_
        · have kL:=below_alloc (wB) (.cells #[.slice none 0 0,.bool false,.slice none 0 0] 40)
          have hPA:=hPA.below kL
          have hZA:=hZA.below kL
          have hPB:=hPB.below kL
          have hZB:=hZB.below kL
          have zN : TB ((wB).alloc (.cells #[.slice none 0 0,.bool false,.slice none 0 0] 40)) (wB.heap.size) none 0 0 false none 0 0:=tb_new _ _ _ _ _ _ _ _
          have hbzN : w3.heap.size≤wB.heap.size:=kW.size
          have kW:=grow_step kL kW
          go_simp
          refine hK.out _ _ ?_ ?_
          · (try dsimp only); exact tq5 xt zm kW
          clear hK K hHeld; intro hHeld
          (try simp only [pz])
          generalize (wB).alloc (.cells #[.slice none 0 0,.bool false,.slice none 0 0] 40) = wLzN at *
          refine ryz 5 none (fun K hK => ?_) ?_
          · skip
            have f0:=zN.c0
            have f1:=zN.c1
            have f2:=zN.c2
            have f3:=zN.f 0
            have f4:=zN.f 1
            have f5:=zN.f 2
            go_simp
            have gS:=tb_set wLzN (wB.heap.size) (.slice adB nB cpB) (.bool sB) (.slice aB lB cB)
            have hPB:=hPB.tb zN gS
            have hZB:=hZB.grownU gS (tb_noU zN)
            have zN:=tb_fin zN adB nB cpB sB aB lB cB
            have kW:=((kW.setCell (p:=⟨wB.heap.size,0,none⟩) hbzN (.slice adB nB cpB)).setCell (p:=⟨wB.heap.size,1,none⟩) hbzN (.bool sB)).setCell (p:=⟨wB.heap.size,2,none⟩) hbzN (.slice aB lB cB)
            refine hK.out _ _ ?_ ?_
            · (try dsimp only); exact tq5 xt zm kW
            clear hK K hHeld; intro hHeld
            (try simp only [pz])
            refine wpAnyH_done k_f ?_ _
            exact ⟨rfl,_,adA,nA,cpA,sA,aA,lA,cA,adB,nB,cpB,sB,aB,lB,cB,rfl,zN,hPB.mono o_m,hZB,by omega,by omega,hnew,hbzN,kW⟩
          exact AllReadyH.nil
        exact AllReadyH.nil
      refine AllReadyH.cons (o:=⟨some 10,_,_,_,_,_⟩) rfl (fun K hK => ?_) ?_
      · have kL:=below_alloc (wA) (.cells #[.slice none 0 0,.bool false,.slice none 0 0] 40)
        have hPA:=hPA.below kL
        have hZA:=hZA.below kL
        have zN : TB ((wA).alloc (.cells #[.slice none 0 0,.bool false,.slice none 0 0] 40)) (wA.heap.size) none 0 0 false none 0 0:=tb_new _ _ _ _ _ _ _ _
        have hbzN : w3.heap.size≤wA.heap.size:=kW.size
        have kW:=grow_step kL kW
        go_simp
        refine hK.out _ _ ?_ ?_
        · (try dsimp only); exact tq5 xt zm kW
        clear hK K hHeld; intro hHeld
        (try simp only [pz])
        generalize (wA).alloc (.cells #[.slice none 0 0,.bool false,.slice none 0 0] 40) = wLzN at *
        refine ryz 3 (some 29) (fun K hK => ?_) ?_
        · go_simp
          go_at_call 126; refine Calls.mono (rmodulo6_n (B:=B + np + 1) (std_lays ps) hPA.pr hZA.zm hlA (hzm.old.zm.below kW) o_m hD0 o_m o_m) ?_; rintro e wB ⟨adB,nB,cpB,sB,aB,lB,cB,rfl,hPB,hZB,hlB,hnB,hnewB,kB⟩; have hnew : ∀ b off,adB = some ⟨b,off,none⟩→w3.heap.size≤b:=fun b off e => Nat.le_trans kW.size (hnewB b off e)
          have hPA:=hPA.below kB
          have hZA:=hZA.below kB
          have zN:=zN.below kB
          have kW:=grow_step kB kW
          (try go_wp2_with fail)
          refine hK.out _ _ ?_ ?_
          · (try dsimp only); exact tq5 xt zm kW
          clear hK K hHeld; intro hHeld
          (try simp only [pz])
          refine ryz 5 none (fun K hK => ?_) ?_
          · skip
            have f0:=zN.c0
            have f1:=zN.c1
            have f2:=zN.c2
            have f3:=zN.f 0
            have f4:=zN.f 1
            have f5:=zN.f 2
            go_simp
            have gS:=tb_set wB (wA.heap.size) (.slice adB nB cpB) (.bool sB) (.slice aB lB cB)
            have hPB:=hPB.tb zN gS
            have hZB:=hZB.grownU gS (tb_noU zN)
            have zN:=tb_fin zN adB nB cpB sB aB lB cB
            have kW:=((kW.setCell (p:=⟨wA.heap.size,0,none⟩) hbzN (.slice adB nB cpB)).setCell (p:=⟨wA.heap.size,1,none⟩) hbzN (.bool sB)).setCell (p:=⟨wA.heap.size,2,none⟩) hbzN (.slice aB lB cB)
            refine hK.out _ _ ?_ ?_
            · (try dsimp only); exact tq5 xt zm kW
            clear hK K hHeld; intro hHeld
            (try simp only [pz])
            refine wpAnyH_done k_f ?_ _
            exact ⟨rfl,_,adA,nA,cpA,sA,aA,lA,cA,adB,nB,cpB,sB,aB,lB,cB,rfl,zN,hPB.mono o_m,hZB,by omega,by omega,hnew,hbzN,kW⟩
          exact AllReadyH.nil
        exact AllReadyH.nil
      exact AllReadyH.nil
    refine AllReadyH.cons (o:=⟨some 10,_,_,_,_,_⟩) rfl (fun K hK => ?_) ?_
    · have kL:=below_alloc (wQ) (.cells #[.slice none 0 0,.bool false,.slice none 0 0] 40)
      have zN : TB ((wQ).alloc (.cells #[.slice none 0 0,.bool false,.slice none 0 0] 40)) (wQ.heap.size) none 0 0 false none 0 0:=tb_new _ _ _ _ _ _ _ _
      have hbzN : w3.heap.size≤wQ.heap.size:=kW.size
      have kW:=grow_step kL kW
      go_simp
      refine hK.out _ _ ?_ ?_
      · (try dsimp only); exact tq5 xt zm kW
      clear hK K hHeld; intro hHeld
      (try simp only [pz])
      generalize (wQ).alloc (.cells #[.slice none 0 0,.bool false,.slice none 0 0] 40) = wLzN at *
      refine ryz 1 (some 27) (fun K hK => ?_) ?_
      · go_simp
        go_at_call 116; refine Calls.mono (rnorm5_w (hP.below kW) (hk.below kW) hlk o_m o_m) ?_; rintro e wA ⟨adA,nA,cpA,sA,aA,lA,cA,rfl,hTA,hZA,kA,hnA,hPA, -⟩; have hlA:=hTA.2.2; clear hTA
        have zN:=zN.below kA
        have kW:=grow_step kA kW
        (try go_wp2_with fail)
        refine hK.out _ _ ?_ ?_
        · (try dsimp only); exact tq5 xt zm kW
        clear hK K hHeld; intro hHeld
        (try simp only [pz])
        refine ryz 3 (some 29) (fun K hK => ?_) ?_
        · go_simp
          go_at_call 126; refine Calls.mono (rmodulo6_n (B:=B + np + 1) (std_lays ps) hPA.pr hZA.zm hlA (hzm.old.zm.below kW) o_m hD0 o_m o_m) ?_; rintro e wB ⟨adB,nB,cpB,sB,aB,lB,cB,rfl,hPB,hZB,hlB,hnB,hnewB,kB⟩; have hnew : ∀ b off,adB = some ⟨b,off,none⟩→w3.heap.size≤b:=fun b off e => Nat.le_trans kW.size (hnewB b off e)
          have zN:=zN.below kB
          have hPA:=hPA.below kB
          have hZA:=hZA.below kB
          have kW:=grow_step kB kW
          (try go_wp2_with fail)
          refine hK.out _ _ ?_ ?_
          · (try dsimp only); exact tq5 xt zm kW
          clear hK K hHeld; intro hHeld
          (try simp only [pz])
          refine ryz 5 none (fun K hK => ?_) ?_
          · skip
            have f0:=zN.c0
            have f1:=zN.c1
            have f2:=zN.c2
            have f3:=zN.f 0
            have f4:=zN.f 1
            have f5:=zN.f 2
            go_simp
            have gS:=tb_set wB (wQ.heap.size) (.slice adB nB cpB) (.bool sB) (.slice aB lB cB)
            have hPB:=hPB.tb zN gS
            have hZB:=hZB.grownU gS (tb_noU zN)
            have zN:=tb_fin zN adB nB cpB sB aB lB cB
            have kW:=((kW.setCell (p:=⟨wQ.heap.size,0,none⟩) hbzN (.slice adB nB cpB)).setCell (p:=⟨wQ.heap.size,1,none⟩) hbzN (.bool sB)).setCell (p:=⟨wQ.heap.size,2,none⟩) hbzN (.slice aB lB cB)
            refine hK.out _ _ ?_ ?_
            · (try dsimp only); exact tq5 xt zm kW
            clear hK K hHeld; intro hHeld
            (try simp only [pz])
            refine wpAnyH_done k_f ?_ _
            exact ⟨rfl,_,adA,nA,cpA,sA,aA,lA,cA,adB,nB,cpB,sB,aB,lB,cB,rfl,zN,hPB.mono o_m,hZB,by omega,by omega,hnew,hbzN,kW⟩
          exact AllReadyH.nil
        exact AllReadyH.nil
      exact AllReadyH.nil
    exact AllReadyH.nil
  rintro e a' w4 ⟨rfl,bN,adA,nA,cpA,sA,aA,lA,cA,adB,nB,cpB,sB,aB,lB,cB,rfl,zN,hPB,hZB,hlB,hnB,hnewB,hbN,k4⟩
  have hbm3:=zm.lt
  have hrbm : Hid (r < bm):=hrbm0
  have hbmN : bm < bN:=Nat.lt_of_lt_of_le zm.lt hbN
  have hrN : r < bN:=Nat.lt_of_lt_of_le y.lt hbN
  replace zm:=zm.below k4
  replace y:=y.below k4
  replace hzm:=hzm.below k4
  have hs3:=k4.size
  have hnewB' : Hid (∀ b off,adB = some ⟨b,off,none⟩→w3.heap.size≤b):=hnewB
  have hw3 : Hid (w.heap.size≤w3.heap.size):=kk.out.size
  replace kk:=hide (grow_step k4 kk.out)
  have hST : Std (eachP (fun x => x % ((d.natAbs : Nat) : Int)) (nz (lays [] ps))):=eachP_std (std_lays ps)
  have hrng : ∀ q ∈ eachP (fun x => x % ((d.natAbs : Nat) : Int)) (nz (lays [] ps)),0 < q.2∧q.2 < ((d.natAbs : Nat) : Int):=fun q hq => by
    obtain ⟨p9,_,rfl,h9⟩:=eachP_mem hq
    have h1:=Int.emod_nonneg p9.2 (by omega : ((d.natAbs : Nat) : Int) ≠ 0)
    have h2:=Int.emod_lt_of_pos p9.2 hD0
    simp only at h9 ⊢
    omega
  have hdv : Hid (∀ kind,divF kind d (nz (lays [] ps)) k = divG kind d.natAbs (eachP (fun x => x % ((d.natAbs : Nat) : Int)) (nz (lays [] ps))) (k % ((d.natAbs : Nat) : Int))):=fun _ => rfl
  have hk0 : 0≤k % ((d.natAbs : Nat) : Int)∧k % ((d.natAbs : Nat) : Int) < ((d.natAbs : Nat) : Int):=⟨Int.emod_nonneg _ o_m,Int.emod_lt_of_pos _ hD0⟩
  generalize eachP (fun x => x % ((d.natAbs : Nat) : Int)) (nz (lays [] ps)) = ts at *
  generalize k % ((d.natAbs : Nat) : Int) = kp at *
  replace hST:=hide hST
  replace hrng:=hide hrng
  clear hP hk xt k4 hnewB
  by_cases hB0 : nB = 0
  · subst hB0
    obtain rfl : ts = []:=List.length_eq_zero_iff.1 hPB.1
    have u0:=zN.c0
    have u1:=zN.c1
    have u2:=zN.c2
    go_wp2_with fail
    refine (rsign_n hZB.zm o_m).mono ?_
    rintro e w5 ⟨rfl,k5⟩
    replace y:=y.below k5
    replace kk:=hide (grow_step k5 kk.out)
    have hF : Hid (divF kn d (nz (lays [] ps)) k = ⟨if (!((cmpI kp 0 == 0) == nt)) = true then 1 else 0,0,[],0⟩):=(show _ = _ from (hdv.out kn).trans (by rcases hkn.out with ⟨rfl,rfl⟩ | ⟨rfl,rfl⟩ <;> first | exact divG_nil hD0 hk0 false | exact divG_nil hD0 hk0 true))
    clear k5 u0 u1 u2 hdv
    go_wp2_with fail
    refine (rconst6_n).mono ?_
    rintro e w9 ⟨rfl,k9⟩
    generalize (if (!((cmpI kp 0 == 0) == nt)) = true then (1 : Int) else 0) = cv at *
    replace y:=y.below k9
    have hkf:=grow_step k9 kk.out
    have e0:=y.c0
    have e1:=y.c1
    have e2:=y.c2
    have e3:=y.c3
    have e4:=y.c4
    have e5:=y.c5
    have f0:=y.f 0
    have f1:=y.f 1
    have f2:=y.f 2
    have f3:=y.f 3
    have f4:=y.f 4
    have f5:=y.f 5
    have HH:=hide (And.intro (ab_fin y cv false none 0 0 none 0 0 false none 0 0) (below_grown hkf (ab_set w9 r (.int .i64 cv) (.bool false) (.slice none 0 0) (.slice none 0 0) (.bool false) (.slice none 0 0)) hwr.out))
    clear k9 kk y hkf
    go_wp2
    refine bodyPost_ret (results_ct rfl _ _ r 42 _ (0,0) _ rfl HH.out.1 Tryz.underlying42 rfl k_f) rfl ?_
    refine ⟨?_,HH.out.2⟩
    refine .inr ⟨hd0,?_⟩
    rw [hF.out]
    exact ⟨false,none,0,0,none,0,0,false,none,0,0,by simp,zn_zero _,by omega,pn_nil _ _ _,by omega,zn_zero _,by omega,fun _ _ h => by cases h⟩
  have i1 : (((nB : Nat) : Int) == 0) = false:=by rw [beq_eq_false_iff_ne]; omega
  obtain ⟨i9,hi9,iz0,iz1,iz2⟩:=info_parts info2
  have u0:=zN.c0
  have u1:=zN.c1
  have u2:=zN.c2
  go_wp2_with fail
  refine (coefs_n hPB.pr o_m).mono ?_
  rintro e w5 ⟨vN,N,rfl,hrow,hN,hokN,hNz,k5⟩
  have zm5:=zm.below k5
  have v0:=zm5.c0
  have v1:=zm5.c1
  have hbase:=k5.size
  have kab:=below_alloc w5 (.cells #[.bool sm,.slice am lm cm] 37)
  have HH:=hide (And.intro zN (And.intro zm (And.intro y (And.intro hPB (And.intro hZB (And.intro hzm (And.intro kab (And.intro k5 (And.intro hokN hNz)))))))))
  clear zN zm y hPB hZB hzm kab k5 hokN hNz u0 u1 u2 zm5
  go_wp2_with (at_builtin; refine wpList_append_own_at _ rfl _ _ 116 rfl w4.heap.size 37 i9 _ 2 32 Tryz.underlying116 hi9 iz0 iz1 iz2 rfl (by decide) _ _ _ rfl (hrow.alloc _) ⟨w5.heap.size,0,none⟩ 1 1 [.bool sm,.slice am lm cm] rfl rfl (by simpa using two_new w5 sm am lm cm) (two_one _ _ _ _) (by unfold maxLen; omega) o_m (by simp; omega) ?_; intro v' w6 hown' hgrow hnil hat')
  obtain ⟨zN,zm,y,hPB,hZB,hzm,kab,k5,hokN,hNz⟩:=HH.out
  clear HH v0 v1
  have k6 : Below w4.heap.size w4 w6:=(grow_step kab k5).grown hgrow (grow_step kab k5).size (fun k e => (hrow.lt k e).1)
  have hrow6 : w6.ownsRow w4.heap.size 37 2 v' (nB + 1) ((N ++ [(⟨0,sm,am,lm,cm,((d.natAbs : Nat) : Int)⟩ : Raw)]).flatMap encN):=by rw [List.flatMap_append]; exact hown'
  have hok6 : ∀ x ∈ N ++ [(⟨0,sm,am,lm,cm,((d.natAbs : Nat) : Int)⟩ : Raw)],okN w6 (2 * B + 3 * np + 8) x:=fun x hx => (List.mem_append.1 hx).elim (fun h => (hokN x h).below k6) (fun h => by rw [List.mem_singleton.1 h]; exact ⟨hzm.old.zm.below k6,by show lm≤_; omega⟩)
  have hN6 : (N ++ [(⟨0,sm,am,lm,cm,((d.natAbs : Nat) : Int)⟩ : Raw)]).length = nB + 1:=by simp; omega
  have hz6 : (N ++ [(⟨0,sm,am,lm,cm,((d.natAbs : Nat) : Int)⟩ : Raw)]).map Raw.z = ts.map Prod.snd ++ [((d.natAbs : Nat) : Int)]:=by rw [List.map_append,hNz]; rfl
  generalize N ++ [(⟨0,sm,am,lm,cm,((d.natAbs : Nat) : Int)⟩ : Raw)] = N6 at *
  have hpos6 : 0 < w6.heap.size:=by have:=k6.size; have:=zN.lt; omega
  obtain ⟨adl,cap6,bl,rfl,had,hZL⟩:=row_zl hrow6 hN6 hok6 o_m hpos6
  obtain rfl:=had o_m
  have hfl : ∀ i,i < nB + 1→(N6.getD i zr).l≤2 * B + 3 * np + 8:=fun i hi => by rw [getD_at o_m]; exact (hok6 _ (List.getElem_mem _)).2
  have hval : Hid (fold gcdI 0 (fun i => ((N6.getD i zr).z.natAbs : Int)) (nB + 1) = ((gcdL d.natAbs ts : Nat) : Int)):=(show _ = _ by rw [fold_gcd N6 (nB + 1) o_m,List.take_of_length_le o_m,hz6,gcdZ_snoc,Int.natAbs_natCast])
  replace zN:=zN.below k6
  replace zm:=zm.below k6
  replace y:=y.below k6
  replace hPB:=hPB.below k6
  replace hZB:=hZB.below k6
  replace hzm:=hzm.below k6
  replace kk:=hide (grow_step k6 kk.out)
  clear hown' hgrow hnil hat' kab k5 hokN hNz hrow hrow6 hok6 hz6 k6 had hN
  go_wp2_with fail
  refine (rgcd6_list hZL hfl o_m o_m).mono ?_
  rintro e w7 ⟨sg,ag,lg,cg,rfl,hzg,k7,hlg⟩
  rw [hval.out] at hzg
  have hbgm : Hid (bm < w7.heap.size):=(zm.below k7).lt
  have hgp : (0 : Int) < ((gcdL d.natAbs ts : Nat) : Int):=by
    have:=gcdL_pos (g:=d.natAbs) (qs:=ts) (.inl o_m)
    omega
  have zg:=zb_new w7 sg ag lg cg
  have ka:=below_alloc w7 (.cells #[.bool sg,.slice ag lg cg] 37)
  have zN8:=(zN.below k7).below ka
  have zm8:=(zm.below k7).below ka
  have y8:=(y.below k7).below ka
  have hPB8:=(hPB.below k7).below ka
  have hZB8:=(hZB.below k7).below ka
  have hzm8:=(hzm.below k7).below ka
  have hzg8:=hzg.below ka
  have u1:=(zN.below k7).c1
  have u2:=(zN.below k7).c2
  have ul:=(zN.below k7).lt
  replace kk:=hide (grow_step ka (grow_step k7 kk.out))
  have HH:=hide (And.intro zN8 (And.intro zm8 (And.intro y8 (And.intro hPB8 (And.intro hZB8 (And.intro hzm8 (And.intro hzg8 zg)))))))
  clear zN8 zm8 y8 hPB8 hZB8 hzm8 hzg8 zg ka k7 zN zm y hPB hZB hzm hzg hZL hfl hval
  go_wp2_with fail
  obtain ⟨zN,zm,y,hPB,hZB,hzm,hzg,zg⟩:=HH.out
  clear HH u1 u2 ul
  generalize w7.alloc (.cells #[.bool sg,.slice ag lg cg] 37) = w8 at *
  generalize w7.heap.size = bg at *
  refine (rmod6_n hZB.zm hzg.zm o_m o_m hgp).mono ?_
  rintro e w9 ⟨sr,ar,lr,cr,rfl,hzr,k9,hlr⟩
  replace zN:=zN.below k9
  replace zm:=zm.below k9
  replace zg:=zg.below k9
  replace y:=y.below k9
  replace hPB:=hPB.below k9
  replace hZB:=hZB.below k9
  replace hzm:=hzm.below k9
  replace hzg:=hzg.below k9
  replace kk:=hide (grow_step k9 kk.out)
  clear k9
  go_wp2_with fail
  refine (rsign_n hzr.zm o_m).mono ?_
  rintro e w10 ⟨rfl,k10⟩
  replace zN:=zN.below k10
  replace zm:=zm.below k10
  replace zg:=zg.below k10
  replace y:=y.below k10
  replace hPB:=hPB.below k10
  replace hZB:=hZB.below k10
  replace hzm:=hzm.below k10
  replace hzg:=hzg.below k10
  replace kk:=hide (grow_step k10 kk.out)
  have hlf : cmpI (kp % ((gcdL d.natAbs ts : Nat) : Int)) 0 = 0 ↔ ((gcdL d.natAbs ts : Nat) : Int) ∣ kp:=by rw [cmpI_nil0,Int.dvd_iff_emod_eq_zero]
  clear k10 hzr
  by_cases hgk : ((gcdL d.natAbs ts : Nat) : Int) ∣ kp
  · rw [hlf.2 hgk]
    clear hlf
    have v0:=zm.c0
    have v1:=zm.c1
    have v2:=zg.c0
    have v3:=zg.c1
    go_wp2_with fail
    refine (rfloor6_n hzm.zm hzg.zm o_m o_m hgp).mono ?_
    rintro e w11 ⟨sM,aM,lM,cM,rfl,hzM,k11,hlM⟩
    replace zN:=zN.below k11
    replace zm:=zm.below k11
    replace zg:=zg.below k11
    replace y:=y.below k11
    replace hPB:=hPB.below k11
    replace hZB:=hZB.below k11
    replace hzg:=hzg.below k11
    have hbgl:=zg.lt
    have hbNg : bN ≠ bm:=by omega
    have hbmg : bg ≠ bm:=by have:=hbgm.out; omega
    have hrm : r ≠ bm:=by have:=hrbm.out; omega
    have g2:=zb2_set w11 bm (.bool sM) (.slice aM lM cM)
    have hU:=zb2_noU zm
    have HH:=hide (And.intro (zb_fin zm sM aM lM cM) (And.intro (zN.grown g2 hbNg) (And.intro (zb_gb zg g2 hbmg) (And.intro (ab_gb y g2 hrm) (And.intro (hPB.away (fun b off e => by have h9:=hnewB'.out b off e; omega) g2 hU) (And.intro (hZB.grownU g2 hU) (And.intro (hzg.grownU g2 hU) (And.intro (hzM.grownU g2 hU) (below_grown (grow_step k11 kk.out) g2 hwm.out)))))))))
    clear v0 v1 v2 v3
    have v0:=zm.c0
    have v1:=zm.c1
    have v2:=zm.f 0
    have v3:=zm.f 1
    clear zN zm zg y hPB hZB hzg hzm hzM k11 kk g2 hU
    go_wp2_with fail
    obtain ⟨zm,zN,zg,y,hPB,hZB,hzg,hzM,kk⟩:=HH.out
    clear HH v0 v1 v2 v3
    generalize (w11.setCell ⟨bm,0,none⟩ (.bool sM)).setCell ⟨bm,1,none⟩ (.slice aM lM cM) = w12 at *
    obtain ⟨cb,hcb⟩ : ∃ cb,Hid ((cmpI (((d.natAbs : Nat) : Int) / ((gcdL d.natAbs ts : Nat) : Int)) 1 == 0) = cb):=⟨_,rfl⟩
    go_region_held3 (fun w' => w'.cell? ⟨bm,0,none⟩ = some (.bool sM)∧w'.cell? ⟨bm,1,none⟩ = some (.slice aM lM cM)∧Below w12.heap.size w12 w')
      ((refine zq2 zm ?_; (with_reducible repeat' first | exact Below.refl _ _ | assumption | refine grow_step (by assumption) ?_ | refine grow_drew ?_ | refine grow_alloc ?_ _ | refine grow_drewN ?_ _)))
      (first | (go_at_call 121; with_reducible refine (rof_n 1 (by decide) (by decide) _ (hF.le gw)).mono ?_; rintro e wO ⟨sO,aO,lO,cO,rfl,hzO,hgO,hlO⟩) | (go_at_call 80; with_reducible refine (rsame6_n (Zn.zm (Zn.below hzM gw)) (Zn.zm (Zn.below hzO gw)) (by omega) (by omega)).mono ?_; rintro e w13 ⟨rfl,hg13⟩; rw [hcb.out]))
    rename_i hH
    have k13:=hH.2.2
    replace zN:=zN.below k13
    replace zm:=zm.below k13
    replace zg:=zg.below k13
    replace y:=y.below k13
    replace hPB:=hPB.below k13
    replace hZB:=hZB.below k13
    replace hzg:=hzg.below k13
    replace hzM:=hzM.below k13
    replace kk:=hide (grow_step k13 kk)
    clear hH hg13 hgO k13 hzO
    by_cases hM1 : ((d.natAbs : Nat) : Int) / ((gcdL d.natAbs ts : Nat) : Int) = 1
    · obtain rfl : cb = true:=by rw [← hcb.out,hM1]; rfl
      have hF : Hid (divF kn d (nz (lays [] ps)) k = ⟨if (!nt) = true then 1 else 0,0,[],0⟩):=(show _ = _ by rw [hdv.out]; unfold divG; rw [if_neg (by simpa using hgk),if_pos hM1]; rcases hkn.out with ⟨rfl,rfl⟩ | ⟨rfl,rfl⟩ <;> rfl)
      clear hcb
      go_wp2_with fail
      refine (rconst6_n).mono ?_
      rintro e w9 ⟨rfl,k9⟩
      generalize (if (!nt) = true then (1 : Int) else 0) = cv at *
      replace y:=y.below k9
      have hkf:=grow_step k9 kk.out
      have e0:=y.c0
      have e1:=y.c1
      have e2:=y.c2
      have e3:=y.c3
      have e4:=y.c4
      have e5:=y.c5
      have f0:=y.f 0
      have f1:=y.f 1
      have f2:=y.f 2
      have f3:=y.f 3
      have f4:=y.f 4
      have f5:=y.f 5
      have HH:=hide (And.intro (ab_fin y cv false none 0 0 none 0 0 false none 0 0) (below_grown hkf (ab_set w9 r (.int .i64 cv) (.bool false) (.slice none 0 0) (.slice none 0 0) (.bool false) (.slice none 0 0)) hwr.out))
      clear k9 kk y hkf
      go_wp2
      refine bodyPost_ret (results_ct rfl _ _ r 42 _ (0,0) _ rfl HH.out.1 Tryz.underlying42 rfl k_f) rfl ?_
      refine ⟨?_,HH.out.2⟩
      refine .inr ⟨hd0,?_⟩
      rw [hF.out]
      exact ⟨false,none,0,0,none,0,0,false,none,0,0,by simp,zn_zero _,by omega,pn_nil _ _ _,by omega,zn_zero _,by omega,fun _ _ h => by cases h⟩
    obtain rfl : cb = false:=by
      rw [← hcb.out,beq_eq_false_iff_ne]
      intro e
      apply hM1
      unfold cmpI at e
      split at e
      · omega
      split at e <;> omega
    have v0:=zN.c1
    have v1:=zN.c2
    have v2:=zg.c0
    have v3:=zg.c1
    clear hcb
    go_wp2_with fail
    refine (rfloor6_n hZB.zm hzg.zm o_m o_m hgp).mono ?_
    rintro e w14 ⟨sC,aC,lC,cC,rfl,hzC,k14,hlC⟩
    have yo:=tb_new w14 none 0 0 sC aC lC cC
    have ko:=below_alloc w14 (.cells #[.slice none 0 0,.bool sC,.slice aC lC cC] 40)
    have x1:=(zN.below k14).below ko
    have z1:=(zg.below k14).below ko
    have zm1:=(zm.below k14).below ko
    have y1:=(y.below k14).below ko
    have hd:=(hzg.zm.below k14).below ko
    have hzM1:=(hzM.below k14).below ko
    have hzC1:=hzC.below ko
    have hP7:=hide (hPB.below k14)
    have hk7:=hide ko
    have hbo : Hid (Below w.heap.size w (w14.alloc (.cells #[.slice none 0 0,.bool sC,.slice aC lC cC] 40))):=grow_step ko (grow_step k14 kk.out)
    have hlts : Hid (bN < w14.heap.size∧bg < w14.heap.size∧bm < w14.heap.size∧r < w14.heap.size):=⟨(zN.below k14).lt,(zg.below k14).lt,(zm.below k14).lt,(y.below k14).lt⟩
    clear v0 v1 v2 v3 zN zg zm y hPB hZB hzg hzM hzC kk k14 ko
    go_wp2_with fail
    generalize w14.alloc (.cells #[.slice none 0 0,.bool sC,.slice aC lC cC] 40) = wo at *
    generalize hw14 : w14.heap.size = o at *
    go_loopw [16] (fun i wr => ∃ (t : Nat) (ad' : Option Addr) (cap' : Nat) (L' : List Raw),t≤nB∧i = .int .i64 t∧TB wr o ad' t cap' sC aC lC cC∧Hid (RS wo.heap.size wr (.slice ad' t cap') t cap' L')∧Hid (Rok Fw wr (2 * B + 3 * np + 11) L')∧Hid ((L'.take t).map Raw.p = mapP (fun x => x / ((gcdL d.natAbs ts : Nat) : Int)) (ts.take t))∧Hid (wo.grownBy wr (some o))) (fun i _ => nB - (intOf i).toNat)
    case atStart => exact ⟨0,none,0,[],Nat.zero_le _,rfl,yo,.inl ⟨rfl,rfl,rfl,rfl⟩,(fun x hx => absurd hx (by simp)),(show _ = _ from rfl),⟨rfl,rfl,rfl,Nat.le_refl _,fun _ _ _ => rfl⟩⟩
    case round =>
      obtain ⟨t,ad',cap',L',ht,rfl,yr,hR,hok,hlays,hg⟩:=hrel
      have hpo : bN ≠ o:=by have:=hlts.out; omega
      have hqo : bg ≠ o:=by have:=hlts.out; omega
      have xr:=x1.grown hg.out hpo
      have u0:=xr.c0
      have e0:=yr.c0
      have f0:=yr.f 0
      have hol:=yo.lt
      by_cases htn : t < nB
      · obtain ⟨hpn,hPr⟩:=hP7.out.pr
        rcases hPr with hPr | ⟨bp,f,rfl,hPr⟩
        · omega
        have hbp:=hPr.1
        obtain ⟨s3,a3,l3,c3,g0,g1,g2,hz3,hl3,hv⟩:=(hPr.below (hw14.symm ▸ hk7.out : Below w14.heap.size w14 wo)).2 t o_m
        have hbpo : bp ≠ o:=by omega
        have hbpl : bp < wo.heap.size:=(hPr.below (hw14.symm ▸ hk7.out : Below w14.heap.size w14 wo)).1
        have hps : Hid (ts.take (t + 1) = ts.take t ++ [ts[t]]):=List.take_succ_eq_append_getElem (l:=ts) (i:=t) o_m
        generalize ts[t] = pp at *
        obtain ⟨pv,pz⟩:=pp
        dsimp only at *
        obtain ⟨w0,hw0,hbr,hnext⟩:=own_base yo hg.out yr
        replace hz3:=hz3.grownU hg.out (tb_noU yo)
        have hd3:=hd.grownU hg.out (tb_noU yo)
        have hRq : RS w0.heap.size wr (.slice ad' t cap') t cap' L':=hw0 ▸ hR.out
        have hokq:=hok.out
        clear hPr
        have HH:=hide (And.intro hbr (And.intro hz3 (And.intro hd3 (And.intro hRq (And.intro hokq (And.intro hnext hw0))))))
        clear hbr hz3 hd3 hRq hokq hnext hw0
        go_wp2_with fail
        obtain ⟨hbr,hz3,hd3,hRq,hokq,hnext,hw0⟩:=HH.out
        clear HH
        refine wp_region_held_drew (S:=(fun w' => w'.cell? ⟨bN,0,none⟩ = some (.slice (some ⟨bp,f,none⟩) nB cpB)∧w'.cell? ⟨bp,f + t * 3,none⟩ = some (.int .i64 pv)∧w'.cell? ⟨bp,f + t * 3 + 1,none⟩ = some (.bool s3)∧w'.cell? ⟨bp,f + t * 3 + 2,none⟩ = some (.slice a3 l3 c3)∧w'.cell? ⟨bg,0,none⟩ = some (.bool sg)∧w'.cell? ⟨bg,1,none⟩ = some (.slice ag lg cg)∧wo.grownBy w' (some o))) k_f (nk2 x1 hpo g0 g1 g2 hbpl hbpo z1 hqo (gb_below hg.out (grow_drew (Below.refl wr.heap.size wr)))) (fun hHeld => ?_)
        show wpAnyH _ _ _ _ _ 21 _ _ _
        have kW:=grow_drew (Below.refl wr.heap.size wr)
        have yr:=yr.below kW
        have hRq:=hRq.below kW
        have hokq:=hokq.below kW
        generalize wr.drew = wQ at *
        refine tkz 0 80 ?_
        (try simp only [pz])
        refine tkz 2 82 ?_
        (try simp only [pz])
        refine tkz 3 83 ?_
        (try simp only [pz])
        refine tkz 4 84 ?_
        (try simp only [pz])
        refine tkz 5 85 ?_
        (try simp only [pz])
        refine tkz 6 86 ?_
        (try simp only [pz])
        refine tkz 7 87 ?_
        (try simp only [pz])
        refine tkz 8 88 ?_
        (try simp only [pz])
        refine tkz 9 89 ?_
        (try simp only [pz])
        refine tkz 10 90 ?_
        (try simp only [pz])
        refine tkz 11 91 ?_
        (try simp only [pz])
        refine tkz 12 92 ?_
        (try simp only [pz])
        refine tkz 13 93 ?_
        (try simp only [pz])
        refine tkz 14 94 ?_
        (try simp only [pz])
        refine wpAnyH_ready (rs:=[1,15]) k_f (by simp) ?_
        refine AllReadyH.cons (o:=⟨some 81,_,_,_,_,_⟩) rfl (fun K hK => ?_) ?_
        · have f0:=yr.c0
          go_simp
          refine hK.out _ _ ?_ ?_
          · (try dsimp only); exact nk2 x1 hpo g0 g1 g2 hbpl hbpo z1 hqo (gb_below hg.out kW)
          clear hK K hHeld; intro hHeld
          (try simp only [pz])
          refine ryz 15 (some 95) (fun K hK => ?_) ?_
          · go_simp
            go_at_call 123; refine Calls.mono (rfloor6_n (hz3.below kW) (hd3.below kW) o_m o_m hgp) ?_; rintro e wA ⟨sN,aN,lN,cN,rfl,hN,kA,hlN⟩
            have yr:=yr.below kA
            have hRq:=hRq.below kA
            have hokq:=hokq.below kA
            have kW:=grow_step kA kW
            (try go_wp2_with fail)
            refine hK.out _ _ ?_ ?_
            · (try dsimp only); exact nk2 x1 hpo g0 g1 g2 hbpl hbpo z1 hqo (gb_below hg.out kW)
            clear hK K hHeld; intro hHeld
            (try simp only [pz])
            refine ryz 16 (some 96) (fun K hK => ?_) ?_
            · go_simp
              refine hK.out _ _ ?_ ?_
              · (try dsimp only); exact nk2 x1 hpo g0 g1 g2 hbpl hbpo z1 hqo (gb_below hg.out kW)
              clear hK K hHeld; intro hHeld
              (try simp only [pz])
              refine ryz 17 (some 97) (fun K hK => ?_) ?_
              · have kL:=below_alloc (wA) (.cells #[.int .i64 pv,.bool sN,.slice aN lN cN] 69)
                have yr:=yr.below kL
                have hRq:=hRq.below kL
                have hokq:=hokq.below kL
                have hN:=hN.below kL
                have hv3:=v3_new wA pv sN aN lN cN
                have kW:=grow_step kL kW
                go_simp
                refine hK.out _ _ ?_ ?_
                · (try dsimp only); exact nk2 x1 hpo g0 g1 g2 hbpl hbpo z1 hqo (gb_below hg.out kW)
                clear hK K hHeld; intro hHeld
                (try simp only [pz])
                generalize (wA).alloc (.cells #[.int .i64 pv,.bool sN,.slice aN lN cN] 69) = wL at *
                refine ryz 18 (some 98) (fun K hK => ?_) ?_
                · skip
                  refine anyH_append rfl _ _ 38 rfl _ _ rfl rfl _ (run_append_rs (w0:=w0) hRq (grow_step kW hbr) ⟨pv,sN,aN,lN,cN,pz / ((gcdL d.natAbs ts : Nat) : Int)⟩ ⟨wA.heap.size,0,none⟩ hv3 o_m _) ?_
                  rintro v5 w8 ⟨cap5,L5,hR5,htk,hmem,hb5,hg5, -⟩
                  obtain ⟨ad5,rfl⟩:=hR5.row
                  obtain ⟨hgS,y8⟩:=hnext w8 hb5
                  refine hK.out _ _ ?_ ?_
                  · (try dsimp only); exact nk2 x1 hpo g0 g1 g2 hbpl hbpo z1 hqo hgS
                  clear hK K hHeld; intro hHeld
                  (try simp only [pz])
                  refine ryz 19 (some 99) (fun K hK => ?_) ?_
                  · go_simp
                    refine hK.out _ _ ?_ ?_
                    · (try dsimp only); exact nk2 x1 hpo g0 g1 g2 hbpl hbpo z1 hqo hgS
                    clear hK K hHeld; intro hHeld
                    (try simp only [pz])
                    refine ryz 20 none (fun K hK => ?_) ?_
                    · have f0:=y8.c0
                      have f1:=y8.f 0
                      go_simp
                      have hgS:=gb_trans hgS (gb_set w8 o 0 (.slice ad5 (t + 1) cap5))
                      refine hK.out _ _ ?_ ?_
                      · (try dsimp only); exact nk2 x1 hpo g0 g1 g2 hbpl hbpo z1 hqo hgS
                      clear hK K hHeld; intro hHeld
                      (try simp only [pz])
                      refine wpAnyH_done k_f ?_ _
                      have y3:=tb_set0 y8 ad5 (t + 1) cap5
                      have hR3:=hide (RS.grown (o:=o) (hw0 ▸ hR5 : RS wo.heap.size w8 (.slice ad5 (t + 1) cap5) (t + 1) cap5 L5) (gb_set w8 o 0 (.slice ad5 (t + 1) cap5)) hol)
                      have ok5 : Rok Fw w8 (2 * B + 3 * np + 11) L5:=fun y hy => by
                        rcases hmem y hy with h | rfl | rfl
                        · exact ⟨rs_zn hRq hg5 (hokq y h).1,(hokq y h).2⟩
                        · exact ⟨rs_zn hRq hg5 hN,by show lN≤_; omega,hv⟩
                        exact zr_ok _ _
                      have hok3 : Hid (Rok Fw (w8.setCell ⟨o,0,none⟩ (.slice ad5 (t + 1) cap5)) (2 * B + 3 * np + 11) L5):=ok5.grownU (gb_set w8 o 0 (.slice ad5 (t + 1) cap5)) (tb_noU y8)
                      have hlays3 : Hid ((L5.take (t + 1)).map Raw.p = mapP (fun x => x / ((gcdL d.natAbs ts : Nat) : Int)) (ts.take (t + 1))):=(show _ = _ by rw [htk,List.map_append,hps.out,mapP_snoc,hlays.out]; rfl)
                      replace hgS:=hide hgS
                      clear hHeld hR5 ok5 hmem htk hb5 hg5 y8 hRq hokq hN yr hv3 kW kA hbr hnext
                      go_wp2_with fail
                      exact ⟨⟨t + 1,ad5,cap5,L5,by omega,by go_num,y3,hR3,hok3,hlays3,hgS⟩,by simp [intOf]; omega⟩
                    exact AllReadyH.nil
                  exact AllReadyH.nil
                exact AllReadyH.nil
              exact AllReadyH.nil
            exact AllReadyH.nil
          exact AllReadyH.nil
        refine AllReadyH.cons (o:=⟨some 95,_,_,_,_,_⟩) rfl (fun K hK => ?_) ?_
        · go_simp
          go_at_call 123; refine Calls.mono (rfloor6_n (hz3.below kW) (hd3.below kW) o_m o_m hgp) ?_; rintro e wA ⟨sN,aN,lN,cN,rfl,hN,kA,hlN⟩
          have yr:=yr.below kA
          have hRq:=hRq.below kA
          have hokq:=hokq.below kA
          have kW:=grow_step kA kW
          (try go_wp2_with fail)
          refine hK.out _ _ ?_ ?_
          · (try dsimp only); exact nk2 x1 hpo g0 g1 g2 hbpl hbpo z1 hqo (gb_below hg.out kW)
          clear hK K hHeld; intro hHeld
          (try simp only [pz])
          refine wpAnyH_ready (rs:=[1,16]) k_f (by simp) ?_
          refine AllReadyH.cons (o:=⟨some 81,_,_,_,_,_⟩) rfl (fun K hK => ?_) ?_
          · have f0:=yr.c0
            go_simp
            refine hK.out _ _ ?_ ?_
            · (try dsimp only); exact nk2 x1 hpo g0 g1 g2 hbpl hbpo z1 hqo (gb_below hg.out kW)
            clear hK K hHeld; intro hHeld
            (try simp only [pz])
            refine ryz 16 (some 96) (fun K hK => ?_) ?_
            · go_simp
              refine hK.out _ _ ?_ ?_
              · (try dsimp only); exact nk2 x1 hpo g0 g1 g2 hbpl hbpo z1 hqo (gb_below hg.out kW)
              clear hK K hHeld; intro hHeld
              (try simp only [pz])
              refine ryz 17 (some 97) (fun K hK => ?_) ?_
              · have kL:=below_alloc (wA) (.cells #[.int .i64 pv,.bool sN,.slice aN lN cN] 69)
                have yr:=yr.below kL
                have hRq:=hRq.below kL
                have hokq:=hokq.below kL
                have hN:=hN.below kL
                have hv3:=v3_new wA pv sN aN lN cN
                have kW:=grow_step kL kW
                go_simp
                refine hK.out _ _ ?_ ?_
                · (try dsimp only); exact nk2 x1 hpo g0 g1 g2 hbpl hbpo z1 hqo (gb_below hg.out kW)
                clear hK K hHeld; intro hHeld
                (try simp only [pz])
                generalize (wA).alloc (.cells #[.int .i64 pv,.bool sN,.slice aN lN cN] 69) = wL at *
                refine ryz 18 (some 98) (fun K hK => ?_) ?_
                · skip
                  refine anyH_append rfl _ _ 38 rfl _ _ rfl rfl _ (run_append_rs (w0:=w0) hRq (grow_step kW hbr) ⟨pv,sN,aN,lN,cN,pz / ((gcdL d.natAbs ts : Nat) : Int)⟩ ⟨wA.heap.size,0,none⟩ hv3 o_m _) ?_
                  rintro v5 w8 ⟨cap5,L5,hR5,htk,hmem,hb5,hg5, -⟩
                  obtain ⟨ad5,rfl⟩:=hR5.row
                  obtain ⟨hgS,y8⟩:=hnext w8 hb5
                  refine hK.out _ _ ?_ ?_
                  · (try dsimp only); exact nk2 x1 hpo g0 g1 g2 hbpl hbpo z1 hqo hgS
                  clear hK K hHeld; intro hHeld
                  (try simp only [pz])
                  refine ryz 19 (some 99) (fun K hK => ?_) ?_
                  · go_simp
                    refine hK.out _ _ ?_ ?_
                    · (try dsimp only); exact nk2 x1 hpo g0 g1 g2 hbpl hbpo z1 hqo hgS
                    clear hK K hHeld; intro hHeld
                    (try simp only [pz])
                    refine ryz 20 none (fun K hK => ?_) ?_
                    · have f0:=y8.c0
                      have f1:=y8.f 0
                      go_simp
                      have hgS:=gb_trans hgS (gb_set w8 o 0 (.slice ad5 (t + 1) cap5))
                      refine hK.out _ _ ?_ ?_
                      · (try dsimp only); exact nk2 x1 hpo g0 g1 g2 hbpl hbpo z1 hqo hgS
                      clear hK K hHeld; intro hHeld
                      (try simp only [pz])
                      refine wpAnyH_done k_f ?_ _
                      have y3:=tb_set0 y8 ad5 (t + 1) cap5
                      have hR3:=hide (RS.grown (o:=o) (hw0 ▸ hR5 : RS wo.heap.size w8 (.slice ad5 (t + 1) cap5) (t + 1) cap5 L5) (gb_set w8 o 0 (.slice ad5 (t + 1) cap5)) hol)
                      have ok5 : Rok Fw w8 (2 * B + 3 * np + 11) L5:=fun y hy => by
                        rcases hmem y hy with h | rfl | rfl
                        · exact ⟨rs_zn hRq hg5 (hokq y h).1,(hokq y h).2⟩
                        · exact ⟨rs_zn hRq hg5 hN,by show lN≤_; omega,hv⟩
                        exact zr_ok _ _
                      have hok3 : Hid (Rok Fw (w8.setCell ⟨o,0,none⟩ (.slice ad5 (t + 1) cap5)) (2 * B + 3 * np + 11) L5):=ok5.grownU (gb_set w8 o 0 (.slice ad5 (t + 1) cap5)) (tb_noU y8)
                      have hlays3 : Hid ((L5.take (t + 1)).map Raw.p = mapP (fun x => x / ((gcdL d.natAbs ts : Nat) : Int)) (ts.take (t + 1))):=(show _ = _ by rw [htk,List.map_append,hps.out,mapP_snoc,hlays.out]; rfl)
                      replace hgS:=hide hgS
                      clear hHeld hR5 ok5 hmem htk hb5 hg5 y8 hRq hokq hN yr hv3 kW kA hbr hnext
                      go_wp2_with fail
                      exact ⟨⟨t + 1,ad5,cap5,L5,by omega,by go_num,y3,hR3,hok3,hlays3,hgS⟩,by simp [intOf]; omega⟩
                    exact AllReadyH.nil
                  exact AllReadyH.nil
                exact AllReadyH.nil
              exact AllReadyH.nil
            exact AllReadyH.nil
          refine AllReadyH.cons (o:=⟨some 96,_,_,_,_,_⟩) rfl (fun K hK => ?_) ?_
          · go_simp
            refine hK.out _ _ ?_ ?_
            · (try dsimp only); exact nk2 x1 hpo g0 g1 g2 hbpl hbpo z1 hqo (gb_below hg.out kW)
            clear hK K hHeld; intro hHeld
            (try simp only [pz])
            refine wpAnyH_ready (rs:=[1,17]) k_f (by simp) ?_
            refine AllReadyH.cons (o:=⟨some 81,_,_,_,_,_⟩) rfl (fun K hK => ?_) ?_
            · have f0:=yr.c0
              go_simp
              refine hK.out _ _ ?_ ?_
              · (try dsimp only); exact nk2 x1 hpo g0 g1 g2 hbpl hbpo z1 hqo (gb_below hg.out kW)
              clear hK K hHeld; intro hHeld
              (try simp only [pz])
              refine ryz 17 (some 97) (fun K hK => ?_) ?_
              · have kL:=below_alloc (wA) (.cells #[.int .i64 pv,.bool sN,.slice aN lN cN] 69)
                have yr:=yr.below kL
                have hRq:=hRq.below kL
                have hokq:=hokq.below kL
                have hN:=hN.below kL
                have hv3:=v3_new wA pv sN aN lN cN
                have kW:=grow_step kL kW
                go_simp
                refine hK.out _ _ ?_ ?_
                · (try dsimp only); exact nk2 x1 hpo g0 g1 g2 hbpl hbpo z1 hqo (gb_below hg.out kW)
                clear hK K hHeld; intro hHeld
                (try simp only [pz])
                generalize (wA).alloc (.cells #[.int .i64 pv,.bool sN,.slice aN lN cN] 69) = wL at *
                refine ryz 18 (some 98) (fun K hK => ?_) ?_
                · skip
                  refine anyH_append rfl _ _ 38 rfl _ _ rfl rfl _ (run_append_rs (w0:=w0) hRq (grow_step kW hbr) ⟨pv,sN,aN,lN,cN,pz / ((gcdL d.natAbs ts : Nat) : Int)⟩ ⟨wA.heap.size,0,none⟩ hv3 o_m _) ?_
                  rintro v5 w8 ⟨cap5,L5,hR5,htk,hmem,hb5,hg5, -⟩
                  obtain ⟨ad5,rfl⟩:=hR5.row
                  obtain ⟨hgS,y8⟩:=hnext w8 hb5
                  refine hK.out _ _ ?_ ?_
                  · (try dsimp only); exact nk2 x1 hpo g0 g1 g2 hbpl hbpo z1 hqo hgS
                  clear hK K hHeld; intro hHeld
                  (try simp only [pz])
                  refine ryz 19 (some 99) (fun K hK => ?_) ?_
                  · go_simp
                    refine hK.out _ _ ?_ ?_
                    · (try dsimp only); exact nk2 x1 hpo g0 g1 g2 hbpl hbpo z1 hqo hgS
                    clear hK K hHeld; intro hHeld
                    (try simp only [pz])
                    refine ryz 20 none (fun K hK => ?_) ?_
                    · have f0:=y8.c0
                      have f1:=y8.f 0
                      go_simp
                      have hgS:=gb_trans hgS (gb_set w8 o 0 (.slice ad5 (t + 1) cap5))
                      refine hK.out _ _ ?_ ?_
                      · (try dsimp only); exact nk2 x1 hpo g0 g1 g2 hbpl hbpo z1 hqo hgS
                      clear hK K hHeld; intro hHeld
                      (try simp only [pz])
                      refine wpAnyH_done k_f ?_ _
                      have y3:=tb_set0 y8 ad5 (t + 1) cap5
                      have hR3:=hide (RS.grown (o:=o) (hw0 ▸ hR5 : RS wo.heap.size w8 (.slice ad5 (t + 1) cap5) (t + 1) cap5 L5) (gb_set w8 o 0 (.slice ad5 (t + 1) cap5)) hol)
                      have ok5 : Rok Fw w8 (2 * B + 3 * np + 11) L5:=fun y hy => by
                        rcases hmem y hy with h | rfl | rfl
                        · exact ⟨rs_zn hRq hg5 (hokq y h).1,(hokq y h).2⟩
                        · exact ⟨rs_zn hRq hg5 hN,by show lN≤_; omega,hv⟩
                        exact zr_ok _ _
                      have hok3 : Hid (Rok Fw (w8.setCell ⟨o,0,none⟩ (.slice ad5 (t + 1) cap5)) (2 * B + 3 * np + 11) L5):=ok5.grownU (gb_set w8 o 0 (.slice ad5 (t + 1) cap5)) (tb_noU y8)
                      have hlays3 : Hid ((L5.take (t + 1)).map Raw.p = mapP (fun x => x / ((gcdL d.natAbs ts : Nat) : Int)) (ts.take (t + 1))):=(show _ = _ by rw [htk,List.map_append,hps.out,mapP_snoc,hlays.out]; rfl)
                      replace hgS:=hide hgS
                      clear hHeld hR5 ok5 hmem htk hb5 hg5 y8 hRq hokq hN yr hv3 kW kA hbr hnext
                      go_wp2_with fail
                      exact ⟨⟨t + 1,ad5,cap5,L5,by omega,by go_num,y3,hR3,hok3,hlays3,hgS⟩,by simp [intOf]; omega⟩
                    exact AllReadyH.nil
                  exact AllReadyH.nil
                exact AllReadyH.nil
              exact AllReadyH.nil
            refine AllReadyH.cons (o:=⟨some 97,_,_,_,_,_⟩) rfl (fun K hK => ?_) ?_
            · have kL:=below_alloc (wA) (.cells #[.int .i64 pv,.bool sN,.slice aN lN cN] 69)
              have yr:=yr.below kL
              have hRq:=hRq.below kL
              have hokq:=hokq.below kL
              have hN:=hN.below kL
              have hv3:=v3_new wA pv sN aN lN cN
              have kW:=grow_step kL kW
              go_simp
              refine hK.out _ _ ?_ ?_
              · (try dsimp only); exact nk2 x1 hpo g0 g1 g2 hbpl hbpo z1 hqo (gb_below hg.out kW)
              clear hK K hHeld; intro hHeld
              (try simp only [pz])
              generalize (wA).alloc (.cells #[.int .i64 pv,.bool sN,.slice aN lN cN] 69) = wL at *
              refine ryz 1 (some 81) (fun K hK => ?_) ?_
              · have f0:=yr.c0
                go_simp
                refine hK.out _ _ ?_ ?_
                · (try dsimp only); exact nk2 x1 hpo g0 g1 g2 hbpl hbpo z1 hqo (gb_below hg.out kW)
                clear hK K hHeld; intro hHeld
                (try simp only [pz])
                refine ryz 18 (some 98) (fun K hK => ?_) ?_
                · skip
                  refine anyH_append rfl _ _ 38 rfl _ _ rfl rfl _ (run_append_rs (w0:=w0) hRq (grow_step kW hbr) ⟨pv,sN,aN,lN,cN,pz / ((gcdL d.natAbs ts : Nat) : Int)⟩ ⟨wA.heap.size,0,none⟩ hv3 o_m _) ?_
                  rintro v5 w8 ⟨cap5,L5,hR5,htk,hmem,hb5,hg5, -⟩
                  obtain ⟨ad5,rfl⟩:=hR5.row
                  obtain ⟨hgS,y8⟩:=hnext w8 hb5
                  refine hK.out _ _ ?_ ?_
                  · (try dsimp only); exact nk2 x1 hpo g0 g1 g2 hbpl hbpo z1 hqo hgS
                  clear hK K hHeld; intro hHeld
                  (try simp only [pz])
                  refine ryz 19 (some 99) (fun K hK => ?_) ?_
                  · go_simp
                    refine hK.out _ _ ?_ ?_
                    · (try dsimp only); exact nk2 x1 hpo g0 g1 g2 hbpl hbpo z1 hqo hgS
                    clear hK K hHeld; intro hHeld
                    (try simp only [pz])
                    refine ryz 20 none (fun K hK => ?_) ?_
                    · have f0:=y8.c0
                      have f1:=y8.f 0
                      go_simp
                      have hgS:=gb_trans hgS (gb_set w8 o 0 (.slice ad5 (t + 1) cap5))
                      refine hK.out _ _ ?_ ?_
                      · (try dsimp only); exact nk2 x1 hpo g0 g1 g2 hbpl hbpo z1 hqo hgS
                      clear hK K hHeld; intro hHeld
                      (try simp only [pz])
                      refine wpAnyH_done k_f ?_ _
                      have y3:=tb_set0 y8 ad5 (t + 1) cap5
                      have hR3:=hide (RS.grown (o:=o) (hw0 ▸ hR5 : RS wo.heap.size w8 (.slice ad5 (t + 1) cap5) (t + 1) cap5 L5) (gb_set w8 o 0 (.slice ad5 (t + 1) cap5)) hol)
                      have ok5 : Rok Fw w8 (2 * B + 3 * np + 11) L5:=fun y hy => by
                        rcases hmem y hy with h | rfl | rfl
                        · exact ⟨rs_zn hRq hg5 (hokq y h).1,(hokq y h).2⟩
                        · exact ⟨rs_zn hRq hg5 hN,by show lN≤_; omega,hv⟩
                        exact zr_ok _ _
                      have hok3 : Hid (Rok Fw (w8.setCell ⟨o,0,none⟩ (.slice ad5 (t + 1) cap5)) (2 * B + 3 * np + 11) L5):=ok5.grownU (gb_set w8 o 0 (.slice ad5 (t + 1) cap5)) (tb_noU y8)
                      have hlays3 : Hid ((L5.take (t + 1)).map Raw.p = mapP (fun x => x / ((gcdL d.natAbs ts : Nat) : Int)) (ts.take (t + 1))):=(show _ = _ by rw [htk,List.map_append,hps.out,mapP_snoc,hlays.out]; rfl)
                      replace hgS:=hide hgS
                      clear hHeld hR5 ok5 hmem htk hb5 hg5 y8 hRq hokq hN yr hv3 kW kA hbr hnext
                      go_wp2_with fail
                      exact ⟨⟨t + 1,ad5,cap5,L5,by omega,by go_num,y3,hR3,hok3,hlays3,hgS⟩,by simp [intOf]; omega⟩
                    exact AllReadyH.nil
                  exact AllReadyH.nil
                exact AllReadyH.nil
              exact AllReadyH.nil
            exact AllReadyH.nil
          exact AllReadyH.nil
        exact AllReadyH.nil
      obtain rfl : nB = t:=by omega
      have hlen:=hP7.out.1
      have hall : (L'.take nB).map Raw.p = mapP (fun x => x / ((gcdL d.natAbs ts : Nat) : Int)) ts:=by rw [hlays.out,List.take_of_length_le o_m]
      have hne9 : ∀ q ∈ ts,q.2 / ((gcdL d.natAbs ts : Nat) : Int) ≠ 0:=fun q hq e => by
        have h9:=Int.mul_ediv_cancel' ((gcdL_dvd d.natAbs ts).2 q hq)
        rw [e,Int.mul_zero] at h9
        exact hST.out.2 q hq h9.symm
      have hpn:=rs_pn hR.out hok.out
      rw [hall,← eachP_mapP (F:=fun x => x / ((gcdL d.natAbs ts : Nat) : Int)) hne9] at hpn
      have hus : Std (eachP (fun x => x / ((gcdL d.natAbs ts : Nat) : Int)) ts):=eachP_std hST.out
      have hFF : Hid (divF kn d (nz (lays [] ps)) k = fstF kn (((d.natAbs : Nat) : Int) / ((gcdL d.natAbs ts : Nat) : Int)) (eachP (fun x => x / ((gcdL d.natAbs ts : Nat) : Int)) ts) (kp / ((gcdL d.natAbs ts : Nat) : Int))):=(show _ = _ by
        rw [hdv.out]
        unfold divG
        rw [if_neg (by simpa using hgk),if_neg hM1])
      have hzr:=hzC1.grownU hg.out (tb_noU yo)
      have hzMr:=hzM1.grownU hg.out (tb_noU yo)
      have hbmo : bm ≠ o:=by have:=hlts.out; omega
      have hro : r ≠ o:=by have:=hlts.out; omega
      have zmr:=zb_gb zm1 hg.out hbmo
      have yrr:=ab_gb y1 hg.out hro
      have hwo : w.heap.size≤o:=by have:=hlts.out; have:=hwm.out; omega
      have hbr : Below w.heap.size w wr:=below_grown hbo.out hg.out hwo
      have hnew7 : ∀ b off,ad' = some ⟨b,off,none⟩→wo.heap.size≤b:=fun b off e => by
        rcases hR.out with ⟨h1,_⟩ | ⟨g9,h1,hg9,_⟩
        · simp at h1
          rw [h1.1] at e
          cases e
        simp at h1
        rw [h1] at e
        simp at e
        omega
      have hos:=hg.out.size
      have hrwo : r < wo.heap.size:=by have:=hlts.out; have:=hol; omega
      have hM0 : (0 : Int) < (((d.natAbs : Nat) : Int) / ((gcdL d.natAbs ts : Nat) : Int)):=by
        obtain ⟨c9,hc9⟩:=(gcdL_dvd d.natAbs ts).1
        have h9 : ((d.natAbs : Nat) : Int) = ((gcdL d.natAbs ts : Nat) : Int) * (c9 : Int):=by exact_mod_cast hc9
        rw [h9,Int.mul_ediv_cancel_left _ o_m]
        rw [h9] at hD0
        exact Int.pos_of_mul_pos_right hD0 o_m
      generalize hus' : eachP (fun x => x / ((gcdL d.natAbs ts : Nat) : Int)) ts = us at *
      generalize kp / ((gcdL d.natAbs ts : Nat) : Int) = kq at *
      have hopp : Hid (eachP (fun x => x % (((d.natAbs : Nat) : Int) / ((gcdL d.natAbs ts : Nat) : Int))) (nz (lays [] (mapP (fun x => -1 * x) us))) = oppP (((d.natAbs : Nat) : Int) / ((gcdL d.natAbs ts : Nat) : Int)) us):=(show _ = _ by
        rw [nz_mapP hus]
        unfold oppP
        congr 1
        exact eachP_congr fun q _ => by show -1 * q.2 = -q.2; omega)
      have e1:=yr.c1
      have e2:=yr.c2
      have HH:=hide (And.intro yr (And.intro zmr (And.intro yrr (And.intro hpn (And.intro hzr (And.intro hzMr hbr))))))
      clear hall hne9 hR hok hlays hg hP7 hk7 hbo yo hzC1 hzM1 hd z1 zm1 y1 x1 hus' hdv yr zmr yrr hpn hzr hzMr hbr
      go_wp2_with fail
      obtain ⟨yr,zmr,yrr,hpn,hzr,hzMr,hbr⟩:=HH.out
      clear HH e0 e1 e2 f0
      refine Code.wp_mono (Q:=fun e a' W' => e = .normal∧∃ bT sE aE lE cE adF nF cpF sF aF lF cF adO nO cpO sO2 aO2 lO2 cO2,a' = ⟨List.toArray ((Value.agg #[Value.bool sd,Value.slice ad ld cd] : Value) :: (Value.agg #[Value.slice ap np cp,Value.bool sk,Value.slice ak lk ck] : Value) :: (Value.bool nt : Value) :: (Value.pointer (some { block:=p,off:=0 }) : Value) :: (Value.pointer (some { block:=q,off:=0 }) : Value) :: undef :: (Value.pointer (some { block:=r,off:=0 }) : Value) :: (Value.int IntKind.i64 0 : Value) :: (Value.int IntKind.i64 cz : Value) :: (Value.pointer (some { block:=bm,off:=0 }) : Value) :: (Value.pointer (some { block:=bN,off:=0 }) : Value) :: undef :: (Value.slice (some { block:=bl,off:=0 }) (nB + 1) cap6 : Value) :: (Value.pointer (some { block:=bg,off:=0 }) : Value) :: (Value.int IntKind.i64 0 : Value) :: (Value.pointer (some { block:=o,off:=0 }) : Value) :: (Value.int IntKind.i64 ↑nB : Value) :: (.pointer (some ⟨bT,0,none⟩) : Value) :: undef :: (Value.agg #[Value.bool sd,Value.slice ad ld cd] : Value) :: (Value.int IntKind.i64 cz : Value) :: (Value.int IntKind.i64 cz : Value) :: (Value.bool false : Value) :: undef :: (Value.agg #[Value.bool sd,Value.slice ad ld cd] : Value) :: (Value.agg #[Value.bool sm,Value.slice am lm cm] : Value) :: (Value.agg #[Value.slice ap np cp,Value.bool sk,Value.slice ak lk ck] : Value) :: (Value.agg #[Value.slice adA nA cpA,Value.bool sA,Value.slice aA lA cA] : Value) :: (Value.agg #[Value.bool sm,Value.slice am lm cm] : Value) :: (Value.agg #[Value.slice adB nB cpB,Value.bool sB,Value.slice aB lB cB] : Value) :: (Value.pointer (some { block:=bN,off:=0 }) : Value) :: (Value.slice adB nB cpB : Value) :: (Value.int IntKind.i64 ↑nB : Value) :: (Value.bool false : Value) :: undef :: undef :: undef :: undef :: undef :: undef :: undef :: undef :: (Value.agg #[Value.slice adB nB cpB,Value.bool sB,Value.slice aB lB cB] : Value) :: (vN : Value) :: (vN : Value) :: (Value.agg #[Value.bool sm,Value.slice am lm cm] : Value) :: (Value.slice (some { block:=w5.heap.size,off:=0 }) 1 1 : Value) :: (Value.slice (some { block:=bl,off:=0 }) (nB + 1) cap6 : Value) :: (Value.slice (some { block:=bl,off:=0 }) (nB + 1) cap6 : Value) :: (Value.agg #[Value.bool sg,Value.slice ag lg cg] : Value) :: (Value.pointer (some { block:=bN,off:=1 }) : Value) :: (Value.agg #[Value.bool sB,Value.slice aB lB cB] : Value) :: (Value.agg #[Value.bool sg,Value.slice ag lg cg] : Value) :: (Value.agg #[Value.bool sr,Value.slice ar lr cr] : Value) :: (Value.int IntKind.i64 0 : Value) :: (Value.int IntKind.i64 0 : Value) :: (Value.bool false : Value) :: undef :: undef :: (Value.agg #[Value.bool sm,Value.slice am lm cm] : Value) :: (Value.agg #[Value.bool sg,Value.slice ag lg cg] : Value) :: (Value.agg #[Value.bool sM,Value.slice aM lM cM] : Value) :: (Value.agg #[Value.bool sM,Value.slice aM lM cM] : Value) :: (Value.agg #[Value.bool sO,Value.slice aO lO cO] : Value) :: (Value.bool false : Value) :: undef :: undef :: undef :: (Value.pointer (some { block:=bN,off:=1 }) : Value) :: (Value.agg #[Value.bool sB,Value.slice aB lB cB] : Value) :: (Value.agg #[Value.bool sg,Value.slice ag lg cg] : Value) :: (Value.agg #[Value.bool sC,Value.slice aC lC cC] : Value) :: (Value.agg #[Value.slice none 0 0,Value.bool sC,Value.slice aC lC cC] : Value) :: (Value.int IntKind.i64 ↑nB : Value) :: (Value.pointer (some { block:=bN,off:=0 }) : Value) :: (Value.slice adB nB cpB : Value) :: (Value.int IntKind.i64 ↑nB : Value) :: (Value.bool false : Value) :: (u78 : Value) :: (u79 : Value) :: (u80 : Value) :: (u81 : Value) :: (u82 : Value) :: (u83 : Value) :: (u84 : Value) :: (u85 : Value) :: (u86 : Value) :: (u87 : Value) :: (u88 : Value) :: (u89 : Value) :: (u90 : Value) :: (u91 : Value) :: (u92 : Value) :: (u93 : Value) :: (u94 : Value) :: (u95 : Value) :: (u96 : Value) :: (u97 : Value) :: (u98 : Value) :: (u99 : Value) :: (.agg #[.bool sE,.slice aE lE cE] : Value) :: (.agg #[.slice ad' nB cap',.bool sC,.slice aC lC cC] : Value) :: (.agg #[.slice adF nF cpF,.bool sF,.slice aF lF cF] : Value) :: (.agg #[.bool sM,.slice aM lM cM] : Value) :: (.agg #[.slice adO nO cpO,.bool sO2,.slice aO2 lO2 cO2] : Value) :: undef :: undef :: undef :: undef :: undef :: undef :: undef :: undef :: undef :: undef :: []),[]⟩∧TB W' bT adO nO cpO sO2 aO2 lO2 cO2∧Pn Fw W' adO nO (oppP (((d.natAbs : Nat) : Int) / ((gcdL d.natAbs ts : Nat) : Int)) us) (8 * B + 15 * np + 54)∧Zn Fw W' sO2 aO2 lO2 cO2 ((-kq) % (((d.natAbs : Nat) : Int) / ((gcdL d.natAbs ts : Nat) : Int)))∧lO2≤(8 * B + 15 * np + 54)∧nO≤nB∧(∀ b off,adO = some ⟨b,off,none⟩→wr.heap.size≤b)∧wr.heap.size≤bT∧Below wr.heap.size wr W') ?_ ?_
      rotate_left
      · refine wp_region_held_drew (S:=(fun w' => w'.cell? ⟨o,0,none⟩ = some (.slice ad' nB cap')∧w'.cell? ⟨o,1,none⟩ = some (.bool sC)∧w'.cell? ⟨o,2,none⟩ = some (.slice aC lC cC)∧w'.cell? ⟨bm,0,none⟩ = some (.bool sM)∧w'.cell? ⟨bm,1,none⟩ = some (.slice aM lM cM)∧Below wr.heap.size wr w')) k_f (tq5 yr zmr (grow_drew (Below.refl _ _))) (fun hHeld => ?_)
        show wpAnyH _ _ _ _ _ 7 _ _ _
        have kW:=grow_drew (Below.refl wr.heap.size wr)
        generalize wr.drew = wQ at *
        refine wpAnyH_take (i:=1) (oi:=⟨some 101,_,_,_,_,_⟩) (v:=?_) rfl k_f k_f k_f (fun _ _ _ h => by cases h.1) (Or.inl ⟨by rfl,?_⟩) (by assumption) ?_
        rotate_left
        · intro wq hSw; (try dsimp only at hSw); go_simp; (try with_reducible rfl)
        (try simp only [pz])
        refine wpAnyH_take (i:=3) (oi:=⟨some 103,_,_,_,_,_⟩) (v:=?_) rfl k_f k_f k_f (fun _ _ _ h => by cases h.1) (Or.inl ⟨by rfl,?_⟩) (by assumption) ?_
        rotate_left
        · intro wq hSw; (try dsimp only at hSw); go_simp; (try with_reducible rfl)
        (try simp only [pz])
        refine wpAnyH_ready (rs:=[0,5]) k_f (by simp) ?_
        refine AllReadyH.cons (o:=⟨some 100,_,_,_,_,_⟩) rfl (fun K hK => ?_) ?_
        · go_simp
          go_at_call 121; refine Calls.mono (rof_n (-1) (by decide) (by decide) _ (hF.le gw)) ?_; rintro e wE ⟨sE,aE,lE,cE,rfl,hE,kE,hlE⟩
          have kW:=grow_step kE kW
          (try go_wp2_with fail)
          refine hK.out _ _ ?_ ?_
          · (try dsimp only); exact tq5 yr zmr kW
          clear hK K hHeld; intro hHeld
          (try simp only [pz])
          refine wpAnyH_ready (rs:=[2,5]) k_f (by simp) ?_
          refine AllReadyH.cons (o:=⟨some 102,_,_,_,_,_⟩) rfl (fun K hK => ?_) ?_
          · go_simp
            go_at_call 128; refine Calls.mono (rscale5_n (B:=2 * B + 3 * np + 11) hE.zm o_m (hpn.pr.below kW) (hzr.zm.below kW) o_m o_m o_m) ?_; rintro e wF ⟨adF,nF,cpF,sF,aF,lF,cF,rfl,hPF,hZF,hlF,hnF, -,kF⟩
            have hE:=hE.below kF
            have kW:=grow_step kF kW
            (try go_wp2_with fail)
            refine hK.out _ _ ?_ ?_
            · (try dsimp only); exact tq5 yr zmr kW
            clear hK K hHeld; intro hHeld
            (try simp only [pz])
            refine wpAnyH_ready (rs:=[4,5]) k_f (by simp) ?_
            refine AllReadyH.cons (o:=⟨some 104,_,_,_,_,_⟩) rfl (fun K hK => ?_) ?_
            · go_simp
              go_at_call 126; refine Calls.mono (rmodulo6_n (B:=2 * (2 * B + 3 * np + 11) + nB + 2) (std_lays _) hPF.pr hZF.zm hlF (hzMr.old.zm.below kW) o_m hM0 o_m o_m) ?_; rintro e wG ⟨adO,nO,cpO,sO2,aO2,lO2,cO2,rfl,hPG,hZG,hlG,hnG,hnewG,kG⟩; have hnew : ∀ b off,adO = some ⟨b,off,none⟩→wr.heap.size≤b:=fun b off e => Nat.le_trans kW.size (hnewG b off e); rw [hopp.out] at hPG; rw [show -1 * kq = -kq by omega] at hZG
              have hE:=hE.below kG
              have hPF:=hPF.below kG
              have hZF:=hZF.below kG
              have kW:=grow_step kG kW
              (try go_wp2_with fail)
              refine hK.out _ _ ?_ ?_
              · (try dsimp only); exact tq5 yr zmr kW
              clear hK K hHeld; intro hHeld
              (try simp only [pz])
              refine ryz 5 (some 17) (fun K hK => ?_) ?_
              · have kL:=below_alloc (wG) (.cells #[.slice none 0 0,.bool false,.slice none 0 0] 40)
                have hE:=hE.below kL
                have hPF:=hPF.below kL
                have hZF:=hZF.below kL
                have hPG:=hPG.below kL
                have hZG:=hZG.below kL
                have zT : TB ((wG).alloc (.cells #[.slice none 0 0,.bool false,.slice none 0 0] 40)) (wG.heap.size) none 0 0 false none 0 0:=tb_new _ _ _ _ _ _ _ _
                have hbzT : wr.heap.size≤wG.heap.size:=kW.size
                have kW:=grow_step kL kW
                go_simp
                refine hK.out _ _ ?_ ?_
                · (try dsimp only); exact tq5 yr zmr kW
                clear hK K hHeld; intro hHeld
                (try simp only [pz])
                generalize (wG).alloc (.cells #[.slice none 0 0,.bool false,.slice none 0 0] 40) = wLzT at *
                refine ryz 6 none (fun K hK => ?_) ?_
                · skip
                  have f0:=zT.c0
                  have f1:=zT.c1
                  have f2:=zT.c2
                  have f3:=zT.f 0
                  have f4:=zT.f 1
                  have f5:=zT.f 2
                  go_simp
                  have gS:=tb_set wLzT (wG.heap.size) (.slice adO nO cpO) (.bool sO2) (.slice aO2 lO2 cO2)
                  have hPG:=hPG.tb zT gS
                  have hZG:=hZG.grownU gS (tb_noU zT)
                  have zT:=tb_fin zT adO nO cpO sO2 aO2 lO2 cO2
                  have kW:=((kW.setCell (p:=⟨wG.heap.size,0,none⟩) hbzT (.slice adO nO cpO)).setCell (p:=⟨wG.heap.size,1,none⟩) hbzT (.bool sO2)).setCell (p:=⟨wG.heap.size,2,none⟩) hbzT (.slice aO2 lO2 cO2)
                  refine hK.out _ _ ?_ ?_
                  · (try dsimp only); exact tq5 yr zmr kW
                  clear hK K hHeld; intro hHeld
                  (try simp only [pz])
                  refine wpAnyH_done k_f ?_ _
                  exact ⟨rfl,_,sE,aE,lE,cE,adF,nF,cpF,sF,aF,lF,cF,adO,nO,cpO,sO2,aO2,lO2,cO2,rfl,zT,hPG.mono o_m,hZG,by omega,by omega,hnew,hbzT,kW⟩
                exact AllReadyH.nil
              exact AllReadyH.nil
            refine AllReadyH.cons (o:=⟨some 17,_,_,_,_,_⟩) rfl (fun K hK => ?_) ?_
            · have kL:=below_alloc (wF) (.cells #[.slice none 0 0,.bool false,.slice none 0 0] 40)
              have hE:=hE.below kL
              have hPF:=hPF.below kL
              have hZF:=hZF.below kL
              have zT : TB ((wF).alloc (.cells #[.slice none 0 0,.bool false,.slice none 0 0] 40)) (wF.heap.size) none 0 0 false none 0 0:=tb_new _ _ _ _ _ _ _ _
              have hbzT : wr.heap.size≤wF.heap.size:=kW.size
              have kW:=grow_step kL kW
              go_simp
              refine hK.out _ _ ?_ ?_
              · (try dsimp only); exact tq5 yr zmr kW
              clear hK K hHeld; intro hHeld
              (try simp only [pz])
              generalize (wF).alloc (.cells #[.slice none 0 0,.bool false,.slice none 0 0] 40) = wLzT at *
              refine ryz 4 (some 104) (fun K hK => ?_) ?_
              · go_simp
                go_at_call 126; refine Calls.mono (rmodulo6_n (B:=2 * (2 * B + 3 * np + 11) + nB + 2) (std_lays _) hPF.pr hZF.zm hlF (hzMr.old.zm.below kW) o_m hM0 o_m o_m) ?_; rintro e wG ⟨adO,nO,cpO,sO2,aO2,lO2,cO2,rfl,hPG,hZG,hlG,hnG,hnewG,kG⟩; have hnew : ∀ b off,adO = some ⟨b,off,none⟩→wr.heap.size≤b:=fun b off e => Nat.le_trans kW.size (hnewG b off e); rw [hopp.out] at hPG; rw [show -1 * kq = -kq by omega] at hZG
                have hE:=hE.below kG
                have hPF:=hPF.below kG
                have hZF:=hZF.below kG
                have zT:=zT.below kG
                have kW:=grow_step kG kW
                (try go_wp2_with fail)
                refine hK.out _ _ ?_ ?_
                · (try dsimp only); exact tq5 yr zmr kW
                clear hK K hHeld; intro hHeld
                (try simp only [pz])
                refine ryz 6 none (fun K hK => ?_) ?_
                · skip
                  have f0:=zT.c0
                  have f1:=zT.c1
                  have f2:=zT.c2
                  have f3:=zT.f 0
                  have f4:=zT.f 1
                  have f5:=zT.f 2
                  go_simp
                  have gS:=tb_set wG (wF.heap.size) (.slice adO nO cpO) (.bool sO2) (.slice aO2 lO2 cO2)
                  have hPG:=hPG.tb zT gS
                  have hZG:=hZG.grownU gS (tb_noU zT)
                  have zT:=tb_fin zT adO nO cpO sO2 aO2 lO2 cO2
                  have kW:=((kW.setCell (p:=⟨wF.heap.size,0,none⟩) hbzT (.slice adO nO cpO)).setCell (p:=⟨wF.heap.size,1,none⟩) hbzT (.bool sO2)).setCell (p:=⟨wF.heap.size,2,none⟩) hbzT (.slice aO2 lO2 cO2)
                  refine hK.out _ _ ?_ ?_
                  · (try dsimp only); exact tq5 yr zmr kW
                  clear hK K hHeld; intro hHeld
                  (try simp only [pz])
                  refine wpAnyH_done k_f ?_ _
                  exact ⟨rfl,_,sE,aE,lE,cE,adF,nF,cpF,sF,aF,lF,cF,adO,nO,cpO,sO2,aO2,lO2,cO2,rfl,zT,hPG.mono o_m,hZG,by omega,by omega,hnew,hbzT,kW⟩
                exact AllReadyH.nil
              exact AllReadyH.nil
            exact AllReadyH.nil
          refine AllReadyH.cons (o:=⟨some 17,_,_,_,_,_⟩) rfl (fun K hK => ?_) ?_
          · have kL:=below_alloc (wE) (.cells #[.slice none 0 0,.bool false,.slice none 0 0] 40)
            have hE:=hE.below kL
            have zT : TB ((wE).alloc (.cells #[.slice none 0 0,.bool false,.slice none 0 0] 40)) (wE.heap.size) none 0 0 false none 0 0:=tb_new _ _ _ _ _ _ _ _
            have hbzT : wr.heap.size≤wE.heap.size:=kW.size
            have kW:=grow_step kL kW
            go_simp
            refine hK.out _ _ ?_ ?_
            · (try dsimp only); exact tq5 yr zmr kW
            clear hK K hHeld; intro hHeld
            (try simp only [pz])
            generalize (wE).alloc (.cells #[.slice none 0 0,.bool false,.slice none 0 0] 40) = wLzT at *
            refine ryz 2 (some 102) (fun K hK => ?_) ?_
            · go_simp
              go_at_call 128; refine Calls.mono (rscale5_n (B:=2 * B + 3 * np + 11) hE.zm o_m (hpn.pr.below kW) (hzr.zm.below kW) o_m o_m o_m) ?_; rintro e wF ⟨adF,nF,cpF,sF,aF,lF,cF,rfl,hPF,hZF,hlF,hnF, -,kF⟩
              have hE:=hE.below kF
              have zT:=zT.below kF
              have kW:=grow_step kF kW
              (try go_wp2_with fail)
              refine hK.out _ _ ?_ ?_
              · (try dsimp only); exact tq5 yr zmr kW
              clear hK K hHeld; intro hHeld
              (try simp only [pz])
              refine ryz 4 (some 104) (fun K hK => ?_) ?_
              · go_simp
                go_at_call 126; refine Calls.mono (rmodulo6_n (B:=2 * (2 * B + 3 * np + 11) + nB + 2) (std_lays _) hPF.pr hZF.zm hlF (hzMr.old.zm.below kW) o_m hM0 o_m o_m) ?_; rintro e wG ⟨adO,nO,cpO,sO2,aO2,lO2,cO2,rfl,hPG,hZG,hlG,hnG,hnewG,kG⟩; have hnew : ∀ b off,adO = some ⟨b,off,none⟩→wr.heap.size≤b:=fun b off e => Nat.le_trans kW.size (hnewG b off e); rw [hopp.out] at hPG; rw [show -1 * kq = -kq by omega] at hZG
                have hE:=hE.below kG
                have zT:=zT.below kG
                have hPF:=hPF.below kG
                have hZF:=hZF.below kG
                have kW:=grow_step kG kW
                (try go_wp2_with fail)
                refine hK.out _ _ ?_ ?_
                · (try dsimp only); exact tq5 yr zmr kW
                clear hK K hHeld; intro hHeld
                (try simp only [pz])
                refine ryz 6 none (fun K hK => ?_) ?_
                · skip
                  have f0:=zT.c0
                  have f1:=zT.c1
                  have f2:=zT.c2
                  have f3:=zT.f 0
                  have f4:=zT.f 1
                  have f5:=zT.f 2
                  go_simp
                  have gS:=tb_set wG (wE.heap.size) (.slice adO nO cpO) (.bool sO2) (.slice aO2 lO2 cO2)
                  have hPG:=hPG.tb zT gS
                  have hZG:=hZG.grownU gS (tb_noU zT)
                  have zT:=tb_fin zT adO nO cpO sO2 aO2 lO2 cO2
                  have kW:=((kW.setCell (p:=⟨wE.heap.size,0,none⟩) hbzT (.slice adO nO cpO)).setCell (p:=⟨wE.heap.size,1,none⟩) hbzT (.bool sO2)).setCell (p:=⟨wE.heap.size,2,none⟩) hbzT (.slice aO2 lO2 cO2)
                  refine hK.out _ _ ?_ ?_
                  · (try dsimp only); exact tq5 yr zmr kW
                  clear hK K hHeld; intro hHeld
                  (try simp only [pz])
                  refine wpAnyH_done k_f ?_ _
                  exact ⟨rfl,_,sE,aE,lE,cE,adF,nF,cpF,sF,aF,lF,cF,adO,nO,cpO,sO2,aO2,lO2,cO2,rfl,zT,hPG.mono o_m,hZG,by omega,by omega,hnew,hbzT,kW⟩
                exact AllReadyH.nil
              exact AllReadyH.nil
            exact AllReadyH.nil
          exact AllReadyH.nil
        refine AllReadyH.cons (o:=⟨some 17,_,_,_,_,_⟩) rfl (fun K hK => ?_) ?_
        · have kL:=below_alloc (wQ) (.cells #[.slice none 0 0,.bool false,.slice none 0 0] 40)
          have zT : TB ((wQ).alloc (.cells #[.slice none 0 0,.bool false,.slice none 0 0] 40)) (wQ.heap.size) none 0 0 false none 0 0:=tb_new _ _ _ _ _ _ _ _
          have hbzT : wr.heap.size≤wQ.heap.size:=kW.size
          have kW:=grow_step kL kW
          go_simp
          refine hK.out _ _ ?_ ?_
          · (try dsimp only); exact tq5 yr zmr kW
          clear hK K hHeld; intro hHeld
          (try simp only [pz])
          generalize (wQ).alloc (.cells #[.slice none 0 0,.bool false,.slice none 0 0] 40) = wLzT at *
          refine ryz 0 (some 100) (fun K hK => ?_) ?_
          · go_simp
            go_at_call 121; refine Calls.mono (rof_n (-1) (by decide) (by decide) _ (hF.le gw)) ?_; rintro e wE ⟨sE,aE,lE,cE,rfl,hE,kE,hlE⟩
            have zT:=zT.below kE
            have kW:=grow_step kE kW
            (try go_wp2_with fail)
            refine hK.out _ _ ?_ ?_
            · (try dsimp only); exact tq5 yr zmr kW
            clear hK K hHeld; intro hHeld
            (try simp only [pz])
            refine ryz 2 (some 102) (fun K hK => ?_) ?_
            · go_simp
              go_at_call 128; refine Calls.mono (rscale5_n (B:=2 * B + 3 * np + 11) hE.zm o_m (hpn.pr.below kW) (hzr.zm.below kW) o_m o_m o_m) ?_; rintro e wF ⟨adF,nF,cpF,sF,aF,lF,cF,rfl,hPF,hZF,hlF,hnF, -,kF⟩
              have zT:=zT.below kF
              have hE:=hE.below kF
              have kW:=grow_step kF kW
              (try go_wp2_with fail)
              refine hK.out _ _ ?_ ?_
              · (try dsimp only); exact tq5 yr zmr kW
              clear hK K hHeld; intro hHeld
              (try simp only [pz])
              refine ryz 4 (some 104) (fun K hK => ?_) ?_
              · go_simp
                go_at_call 126; refine Calls.mono (rmodulo6_n (B:=2 * (2 * B + 3 * np + 11) + nB + 2) (std_lays _) hPF.pr hZF.zm hlF (hzMr.old.zm.below kW) o_m hM0 o_m o_m) ?_; rintro e wG ⟨adO,nO,cpO,sO2,aO2,lO2,cO2,rfl,hPG,hZG,hlG,hnG,hnewG,kG⟩; have hnew : ∀ b off,adO = some ⟨b,off,none⟩→wr.heap.size≤b:=fun b off e => Nat.le_trans kW.size (hnewG b off e); rw [hopp.out] at hPG; rw [show -1 * kq = -kq by omega] at hZG
                have zT:=zT.below kG
                have hE:=hE.below kG
                have hPF:=hPF.below kG
                have hZF:=hZF.below kG
                have kW:=grow_step kG kW
                (try go_wp2_with fail)
                refine hK.out _ _ ?_ ?_
                · (try dsimp only); exact tq5 yr zmr kW
                clear hK K hHeld; intro hHeld
                (try simp only [pz])
                refine ryz 6 none (fun K hK => ?_) ?_
                · skip
                  have f0:=zT.c0
                  have f1:=zT.c1
                  have f2:=zT.c2
                  have f3:=zT.f 0
                  have f4:=zT.f 1
                  have f5:=zT.f 2
                  go_simp
                  have gS:=tb_set wG (wQ.heap.size) (.slice adO nO cpO) (.bool sO2) (.slice aO2 lO2 cO2)
                  have hPG:=hPG.tb zT gS
                  have hZG:=hZG.grownU gS (tb_noU zT)
                  have zT:=tb_fin zT adO nO cpO sO2 aO2 lO2 cO2
                  have kW:=((kW.setCell (p:=⟨wQ.heap.size,0,none⟩) hbzT (.slice adO nO cpO)).setCell (p:=⟨wQ.heap.size,1,none⟩) hbzT (.bool sO2)).setCell (p:=⟨wQ.heap.size,2,none⟩) hbzT (.slice aO2 lO2 cO2)
                  refine hK.out _ _ ?_ ?_
                  · (try dsimp only); exact tq5 yr zmr kW
                  clear hK K hHeld; intro hHeld
                  (try simp only [pz])
                  refine wpAnyH_done k_f ?_ _
                  exact ⟨rfl,_,sE,aE,lE,cE,adF,nF,cpF,sF,aF,lF,cF,adO,nO,cpO,sO2,aO2,lO2,cO2,rfl,zT,hPG.mono o_m,hZG,by omega,by omega,hnew,hbzT,kW⟩
                exact AllReadyH.nil
              exact AllReadyH.nil
            exact AllReadyH.nil
          exact AllReadyH.nil
        exact AllReadyH.nil
      rintro e a' w20 ⟨rfl,bT,sE,aE,lE,cE,adF,nF,cpF,sF,aF,lF,cF,adO,nO,cpO,sO2,aO2,lO2,cO2,rfl,zT,hPO,hZO,hlO2,hnO,hnewO,hbT,k20⟩
      have hol2:=yr.lt
      have hbTo : bT ≠ o:=by omega
      have hrl2:=yrr.lt
      have hbml2:=zmr.lt
      replace yr:=yr.below k20
      replace zmr:=zmr.below k20
      replace yrr:=yrr.below k20
      replace hpn:=hpn.below k20
      replace hzr:=hzr.below k20
      replace hzMr:=hzMr.below k20
      have hbrs : Hid (w.heap.size≤wr.heap.size):=hbr.size
      have hbrw : Hid (w.heap.size≤wo.heap.size):=(Nat.le_trans (by have:=hol; omega) (Nat.le_of_lt hol) : w.heap.size≤wo.heap.size)
      have kk:=hide (grow_step k20 hbr)
      clear k20 hbr
      have e0:=zT.c0
      have e1:=zT.c1
      have e2:=zT.c2
      have f0:=yr.c0
      have f1:=yr.c1
      have f2:=yr.c2
      have HH:=hide (And.intro yr (And.intro zmr (And.intro yrr (And.intro hpn (And.intro hzr (And.intro hzMr (And.intro zT (And.intro hPO hZO))))))))
      clear yr zmr yrr hpn hzr hzMr zT hPO hZO
      go_wp2_with fail
      obtain ⟨yr,zmr,yrr,hpn,hzr,hzMr,zT,hPO,hZO⟩:=HH.out
      clear HH e0 e1 e2 f0 f1 f2
      refine (rorder5_n (B:=(8 * B + 15 * np + 54)) hPO.pr hZO.zm hlO2 (hpn.pr.mono o_m) hzr.zm o_m o_m o_m).mono ?_
      rintro e w21 ⟨rfl,k21⟩
      have hopS : Std (oppP (((d.natAbs : Nat) : Int) / ((gcdL d.natAbs ts : Nat) : Int)) us):=by unfold oppP; exact eachP_std (eachP_std hus)
      rw [← lays_eq hopS fun _ => rfl,← lays_eq hus fun _ => rfl]
      replace yr:=yr.below k21
      replace zmr:=zmr.below k21
      replace yrr:=yrr.below k21
      replace hpn:=hpn.below k21
      replace hzr:=hzr.below k21
      replace hzMr:=hzMr.below k21
      replace zT:=zT.below k21
      replace hPO:=hPO.below k21
      replace hZO:=hZO.below k21
      replace kk:=hide (grow_step k21 kk.out)
      clear k21
      have hn1 : ¬ bm = o:=hbmo
      have hn2 : ¬ o = bm:=fun e => hbmo e.symm
      have hn3 : ¬ r = o:=hro
      have hn4 : ¬ o = r:=fun e => hro e.symm
      have hn5 : ¬ r = bm:=hrm
      have hn6 : ¬ bm = r:=fun e => hrm e.symm
      have hlM9 : lM≤8 * B + 16 * np + 100:=by omega
      by_cases hltO : ordT (oppP (((d.natAbs : Nat) : Int) / ((gcdL d.natAbs ts : Nat) : Int)) us) us ((-kq) % (((d.natAbs : Nat) : Int) / ((gcdL d.natAbs ts : Nat) : Int))) kq < 0
      · have hFin : Hid (divF kn d (nz (lays [] ps)) k = ⟨kn,(((d.natAbs : Nat) : Int) / ((gcdL d.natAbs ts : Nat) : Int)),oppP (((d.natAbs : Nat) : Int) / ((gcdL d.natAbs ts : Nat) : Int)) us,(-kq) % (((d.natAbs : Nat) : Int) / ((gcdL d.natAbs ts : Nat) : Int))⟩):=(show _ = _ by rw [hFF.out]; unfold fstF; rw [if_pos hltO])
        generalize ordT (oppP (((d.natAbs : Nat) : Int) / ((gcdL d.natAbs ts : Nat) : Int)) us) us ((-kq) % (((d.natAbs : Nat) : Int) / ((gcdL d.natAbs ts : Nat) : Int))) kq = ov at *
        have g3:=tb_set w21 o (.slice adO nO cpO) (.bool sO2) (.slice aO2 lO2 cO2)
        have hU3:=tb_noU yr
        have hbd : nO≤8 * B + 16 * np + 100∧lO2≤8 * B + 16 * np + 100∧(8 * B + 15 * np + 54)≤8 * B + 16 * np + 100:=by omega
        have HI:=hide (And.intro (tb_fin yr adO nO cpO sO2 aO2 lO2 cO2) (And.intro (zb_gb zmr g3 hbmo) (And.intro (ab_gb yrr g3 hro) (And.intro (hPO.away (fun b off e => by have h9:=hnewO b off e; omega) g3 hU3) (And.intro (hZO.grownU g3 hU3) (And.intro (hzMr.grownU g3 hU3) (below_grown kk.out g3 hwo)))))))
        have e0:=zT.c0
        have e1:=zT.c1
        have e2:=zT.c2
        have f0:=yr.c0
        have f1:=yr.c1
        have f2:=yr.c2
        have f3:=yr.f 0
        have f4:=yr.f 1
        have f5:=yr.f 2
        clear yr zmr yrr hpn hzr hzMr zT hPO hZO kk g3 hU3 hFF
        iterate 16 (first | go_skip | go_guarded | go_step | go_upon | go_simp)
        obtain ⟨yr,zmr,yrr,hPO,hZO,hzMr,kk⟩:=HI.out
        clear HI e0 e1 e2 f0 f1 f2 f3 f4 f5
        generalize ((w21.setCell ⟨o,0,none⟩ (.slice adO nO cpO)).setCell ⟨o,1,none⟩ (.bool sO2)).setCell ⟨o,2,none⟩ (.slice aO2 lO2 cO2) = w22 at *
        have g6:=ab_set w22 r (.int .i64 kn) (.bool sM) (.slice aM lM cM) (.slice adO nO cpO) (.bool sO2) (.slice aO2 lO2 cO2)
        have hU6:=ab_noU yrr
        have HH:=hide (And.intro (ab_fin yrr kn sM aM lM cM adO nO cpO sO2 aO2 lO2 cO2) (And.intro (hPO.away (fun b off e => by have h9:=hnewO b off e; omega) g6 hU6) (And.intro (hZO.grownU g6 hU6) (And.intro (hzMr.grownU g6 hU6) (And.intro (below_grown kk g6 hwr.out) (fun b off e => Nat.le_trans hbrs.out (hnewO b off e) : ∀ b off,adO = some ⟨b,off,none⟩→w.heap.size≤b))))))
        have i0:=yrr.c0
        have i1:=yrr.c1
        have i2:=yrr.c2
        have i3:=yrr.c3
        have i4:=yrr.c4
        have i5:=yrr.c5
        have j0:=yrr.f 0
        have j1:=yrr.f 1
        have j2:=yrr.f 2
        have j3:=yrr.f 3
        have j4:=yrr.f 4
        have j5:=yrr.f 5
        clear g6 hU6
        have e0:=yr.c0
        have e1:=yr.c1
        have e2:=yr.c2
        have f0:=zmr.c0
        have f1:=zmr.c1
        clear yr zmr yrr hPO hZO hzMr kk hnewO hnew7
        rcases hkn.out with ⟨rfl,rfl⟩ | ⟨rfl,rfl⟩ <;>
         (go_wp2
          obtain ⟨yf,hPf,hzf,hmf,kf,hnf⟩:=HH.out
          refine bodyPost_ret (results_ct rfl _ _ r 42 _ (0,0) _ rfl yf Tryz.underlying42 rfl k_f) rfl ?_
          refine ⟨.inr ⟨hd0,?_⟩,kf⟩
          rw [hFin.out]
          exact ⟨sM,aM,lM,cM,adO,nO,cpO,sO2,aO2,lO2,cO2,by simp,hmf,hlM9,hPf.mono hbd.2.2,hbd.1,hzf,hbd.2.1,hnf⟩)
      have hFin : Hid (divF kn d (nz (lays [] ps)) k = ⟨kn,(((d.natAbs : Nat) : Int) / ((gcdL d.natAbs ts : Nat) : Int)),us,kq⟩):=(show _ = _ by rw [hFF.out]; unfold fstF; rw [if_neg hltO])
      generalize ordT (oppP (((d.natAbs : Nat) : Int) / ((gcdL d.natAbs ts : Nat) : Int)) us) us ((-kq) % (((d.natAbs : Nat) : Int) / ((gcdL d.natAbs ts : Nat) : Int))) kq = ov at *
      have hbd : nB≤8 * B + 16 * np + 100∧lC≤8 * B + 16 * np + 100∧2 * B + 3 * np + 11≤8 * B + 16 * np + 100:=by omega
      have hnew7w : ∀ b off,ad' = some ⟨b,off,none⟩→wr.heap.size≤b ∨ wo.heap.size≤b:=fun b off e => .inr (hnew7 b off e)
      have g6:=ab_set w21 r (.int .i64 kn) (.bool sM) (.slice aM lM cM) (.slice ad' nB cap') (.bool sC) (.slice aC lC cC)
      have hU6:=ab_noU yrr
      have HH:=hide (And.intro (ab_fin yrr kn sM aM lM cM ad' nB cap' sC aC lC cC) (And.intro (hpn.away (fun b off e => by have h9:=hnew7 b off e; omega) g6 hU6) (And.intro (hzr.grownU g6 hU6) (And.intro (hzMr.grownU g6 hU6) (And.intro (below_grown kk.out g6 hwr.out) (fun b off e => Nat.le_trans hbrw.out (hnew7 b off e) : ∀ b off,ad' = some ⟨b,off,none⟩→w.heap.size≤b))))))
      have i0:=yrr.c0
      have i1:=yrr.c1
      have i2:=yrr.c2
      have i3:=yrr.c3
      have i4:=yrr.c4
      have i5:=yrr.c5
      have j0:=yrr.f 0
      have j1:=yrr.f 1
      have j2:=yrr.f 2
      have j3:=yrr.f 3
      have j4:=yrr.f 4
      have j5:=yrr.f 5
      clear g6 hU6
      have e0:=yr.c0
      have e1:=yr.c1
      have e2:=yr.c2
      have f0:=zmr.c0
      have f1:=zmr.c1
      clear yr zmr yrr hpn hzr hzMr zT hPO hZO kk hFF hnewO hnew7
      rcases hkn.out with ⟨rfl,rfl⟩ | ⟨rfl,rfl⟩ <;>
       (go_wp2
        obtain ⟨yf,hPf,hzf,hmf,kf,hnf⟩:=HH.out
        refine bodyPost_ret (results_ct rfl _ _ r 42 _ (0,0) _ rfl yf Tryz.underlying42 rfl k_f) rfl ?_
        refine ⟨.inr ⟨hd0,?_⟩,kf⟩
        rw [hFin.out]
        exact ⟨sM,aM,lM,cM,ad',nB,cap',sC,aC,lC,cC,by simp,hmf,hlM9,hPf.mono hbd.2.2,hbd.1,hzf,hbd.2.1,hnf⟩)
  have hne : cmpI (kp % ((gcdL d.natAbs ts : Nat) : Int)) 0 ≠ 0:=fun e => hgk (hlf.1 e)
  generalize cmpI (kp % ((gcdL d.natAbs ts : Nat) : Int)) 0 = c9 at *
  have i9 : (c9 == 0) = false:=by rw [beq_eq_false_iff_ne]; exact hne
  have hF : Hid (divF kn d (nz (lays [] ps)) k = ⟨if nt = true then 1 else 0,0,[],0⟩):=(show _ = _ by rw [hdv.out]; unfold divG; rw [if_pos hgk]; rcases hkn.out with ⟨rfl,rfl⟩ | ⟨rfl,rfl⟩ <;> rfl)
  clear hlf
  go_wp2_with fail
  refine (rconst6_n).mono ?_
  rintro e w9 ⟨rfl,k9⟩
  generalize (if nt = true then (1 : Int) else 0) = cv at *
  replace y:=y.below k9
  have hkf:=grow_step k9 kk.out
  have e0:=y.c0
  have e1:=y.c1
  have e2:=y.c2
  have e3:=y.c3
  have e4:=y.c4
  have e5:=y.c5
  have f0:=y.f 0
  have f1:=y.f 1
  have f2:=y.f 2
  have f3:=y.f 3
  have f4:=y.f 4
  have f5:=y.f 5
  have HH:=hide (And.intro (ab_fin y cv false none 0 0 none 0 0 false none 0 0) (below_grown hkf (ab_set w9 r (.int .i64 cv) (.bool false) (.slice none 0 0) (.slice none 0 0) (.bool false) (.slice none 0 0)) hwr.out))
  clear k9 kk y hkf
  go_wp2
  refine bodyPost_ret (results_ct rfl _ _ r 42 _ (0,0) _ rfl HH.out.1 Tryz.underlying42 rfl k_f) rfl ?_
  refine ⟨?_,HH.out.2⟩
  refine .inr ⟨hd0,?_⟩
  rw [hF.out]
  exact ⟨false,none,0,0,none,0,0,false,none,0,0,by simp,zn_zero _,by omega,pn_nil _ _ _,by omega,zn_zero _,by omega,fun _ _ h => by cases h⟩
theorem rparted_false {Fw : Nat} {w : World} {sd : Bool} {ad : Option Addr} {ld cd : Nat} {ap : Option Addr} {np cp : Nat} {sk : Bool} {ak : Option Addr} {lk ck : Nat} {d k : Int} {ps : List (Int × Int)} {B : Nat}
    (hF : FLE Fw w) (hd : Zm Fw w sd ad ld cd d) (hld : ld≤B) (hP : Pr Fw w ap np ps B) (hk : Zm Fw w sk ak lk ck k) (hlk : lk≤B) (hn : np≤262144) (hB : B + np≤4194000) :
    Calls Tryz.prog 68 #[.agg #[.bool sd,.slice ad ld cd],.agg #[.slice ap np cp,.bool sk,.slice ak lk ck],.bool false] w fun e w' => RP Fw w' e 3 d (nz (lays [] ps)) k (8 * B + 16 * np + 100) w.heap.size∧Below w.heap.size w w':=rparted_any (hide (.inl ⟨rfl,rfl⟩)) hF hd hld hP hk hlk hn hB
theorem rparted_true {Fw : Nat} {w : World} {sd : Bool} {ad : Option Addr} {ld cd : Nat} {ap : Option Addr} {np cp : Nat} {sk : Bool} {ak : Option Addr} {lk ck : Nat} {d k : Int} {ps : List (Int × Int)} {B : Nat}
    (hF : FLE Fw w) (hd : Zm Fw w sd ad ld cd d) (hld : ld≤B) (hP : Pr Fw w ap np ps B) (hk : Zm Fw w sk ak lk ck k) (hlk : lk≤B) (hn : np≤262144) (hB : B + np≤4194000) :
    Calls Tryz.prog 68 #[.agg #[.bool sd,.slice ad ld cd],.agg #[.slice ap np cp,.bool sk,.slice ak lk ck],.bool true] w fun e w' => RP Fw w' e 4 d (nz (lays [] ps)) k (8 * B + 16 * np + 100) w.heap.size∧Below w.heap.size w w':=rparted_any (hide (.inr ⟨rfl,rfl⟩)) hF hd hld hP hk hlk hn hB
end Go.Proofs.YtcfmkjegolpgaaaGreatDoor.Low

namespace Go.Proofs.YtcfmkjegolpgaaaGreatDoor.Low
end Go.Proofs.YtcfmkjegolpgaaaGreatDoor.Low

namespace Go.Proofs.YtcfmkjegolpgaaaGreatDoor.Low
open Go.RowKit Go.Sort Go.Shelf
open Tm At
open Lw (Lo)

def AN (Fw : Nat) (w : World) (e : Ending) (f : Atm ⊕ Int) (B B0 : Nat) : Prop:=match f with
 | .inl f => AE Fw w e f B B0
 | .inr er => AZ e er
theorem rnorm6_n {Fw : Nat} {w : World} {kd : Int} {sd : Bool} {ad : Option Addr} {ld cd : Nat} {ap : Option Addr} {np cp : Nat} {sk : Bool} {ak : Option Addr} {lk ck : Nat} {d k : Int} {ps : List (Int × Int)} {B : Nat}
  (hF : FLE Fw w) (hd : Zm Fw w sd ad ld cd d) (hld : ld≤B) (hP : Pr Fw w ap np ps B) (hk : Zm Fw w sk ak lk ck k) (hlk : lk≤B) (hn : np≤262144) (hB : B + np≤4194000) :
  Calls Tryz.prog 39 #[.agg #[.int .i64 kd,.bool sd,.slice ad ld cd,.slice ap np cp,.bool sk,.slice ak lk ck]] w fun e w' => AN Fw w' e (formA kd d (nz (lays [] ps)) k) (8 * B + 16 * np + 100) w.heap.size∧Below w.heap.size w w':=by
 by_cases h0 : kd = 0
 ·subst h0
  have y:=AB.new (w.alloc (.cells #[.int .i64 0,.bool sd,.slice ad ld cd,.slice ap np cp,.bool sk,.slice ak lk ck] 42)) 0 false none 0 0 none 0 0 false none 0 0
  rw [show (w.alloc (.cells #[.int .i64 0,.bool sd,.slice ad ld cd,.slice ap np cp,.bool sk,.slice ak lk ck] 42)).heap.size = w.heap.size + 1 from by simp] at y
  have b0 : Below w.heap.size w ((w.alloc (.cells #[.int .i64 0,.bool sd,.slice ad ld cd,.slice ap np cp,.bool sk,.slice ak lk ck] 42)).alloc (.cells #[.int .i64 0,.bool false,.slice none 0 0,.slice none 0 0,.bool false,.slice none 0 0] 42)):=below_alloc' (below_alloc _ _) _
  have HH:=hide (And.intro y b0)
  clear y b0
  go_enter Tryz.func39,Tryz.ntmps39
  go_wp2
  obtain ⟨y,b0⟩:=HH.out
  refine bodyPost_ret (results_ct rfl _ _ (w.heap.size + 1) 42 _ (0,0) _ rfl y Tryz.underlying42 rfl k_f) rfl ?_
  exact ⟨⟨false,none,0,0,none,0,0,false,none,0,0,rfl,zn_zero _,by omega,pn_nil _ _ _,by omega,zn_zero _,by omega,fun _ _ h => by cases h⟩,b0⟩
 by_cases h1 : kd = 1
 ·subst h1
  have y:=AB.new (w.alloc (.cells #[.int .i64 1,.bool sd,.slice ad ld cd,.slice ap np cp,.bool sk,.slice ak lk ck] 42)) 1 false none 0 0 none 0 0 false none 0 0
  rw [show (w.alloc (.cells #[.int .i64 1,.bool sd,.slice ad ld cd,.slice ap np cp,.bool sk,.slice ak lk ck] 42)).heap.size = w.heap.size + 1 from by simp] at y
  have b0 : Below w.heap.size w ((w.alloc (.cells #[.int .i64 1,.bool sd,.slice ad ld cd,.slice ap np cp,.bool sk,.slice ak lk ck] 42)).alloc (.cells #[.int .i64 1,.bool false,.slice none 0 0,.slice none 0 0,.bool false,.slice none 0 0] 42)):=below_alloc' (below_alloc _ _) _
  have HH:=hide (And.intro y b0)
  clear y b0
  go_enter Tryz.func39,Tryz.ntmps39
  go_wp2
  obtain ⟨y,b0⟩:=HH.out
  refine bodyPost_ret (results_ct rfl _ _ (w.heap.size + 1) 42 _ (0,0) _ rfl y Tryz.underlying42 rfl k_f) rfl ?_
  exact ⟨⟨false,none,0,0,none,0,0,false,none,0,0,rfl,zn_zero _,by omega,pn_nil _ _ _,by omega,zn_zero _,by omega,fun _ _ h => by cases h⟩,b0⟩
 by_cases h2 : kd = 2
 ·subst h2
  clear h0 h1
  have x:=(AB.new w 2 sd ad ld cd ap np cp sk ak lk ck).below (below_alloc _ (.cells #[.int .i64 0,.bool false,.slice none 0 0,.slice none 0 0,.bool false,.slice none 0 0] 42))
  have y:=AB.new (w.alloc (.cells #[.int .i64 2,.bool sd,.slice ad ld cd,.slice ap np cp,.bool sk,.slice ak lk ck] 42)) 0 false none 0 0 none 0 0 false none 0 0
  rw [show (w.alloc (.cells #[.int .i64 2,.bool sd,.slice ad ld cd,.slice ap np cp,.bool sk,.slice ak lk ck] 42)).heap.size = w.heap.size + 1 from by simp] at y
  have b0 : Below w.heap.size w ((w.alloc (.cells #[.int .i64 2,.bool sd,.slice ad ld cd,.slice ap np cp,.bool sk,.slice ak lk ck] 42)).alloc (.cells #[.int .i64 0,.bool false,.slice none 0 0,.slice none 0 0,.bool false,.slice none 0 0] 42)):=below_alloc' (below_alloc _ _) _
  have HH:=hide (And.intro x (And.intro y (And.intro b0 (And.intro (hP.below b0) (And.intro (hd.below b0) (hk.below b0))))))
  clear x y b0
  go_enter Tryz.func39,Tryz.ntmps39
  go_wp2_with fail
  obtain ⟨x,y,b0,hP,hd,hk⟩:=HH.out; have hF9 : FLE Fw _:=hF.le b0
  clear HH
  generalize (w.alloc (.cells #[.int .i64 2,.bool sd,.slice ad ld cd,.slice ap np cp,.bool sk,.slice ak lk ck] 42)).alloc (.cells #[.int .i64 0,.bool false,.slice none 0 0,.slice none 0 0,.bool false,.slice none 0 0] 42) = wb at *
  have hr : w.heap.size≤w.heap.size + 1:=by omega
  generalize w.heap.size + 1 = r at *
  generalize hp : w.heap.size = p at *
  replace hp:=hide hp
  refine (rless6_n hF9 hP hk hlk o_m o_m).mono ?_
  rintro e w1 ⟨⟨sd1,ad1,ld1,cd1,ap1,np1,cp1,sk1,ak1,lk1,ck1,rfl,hz1,hlz1,hPn1,hnp1,hk1,hlk1,hnew1⟩,k1⟩
  have hfm : Hid (formA 2 d (nz (lays [] ps)) k = .inl (lessF (nz (lays [] ps)) k)):=(show _ = _ by unfold formA; rw [if_neg (by decide),if_pos rfl])
  generalize lessF (nz (lays [] ps)) k = ff at *
  have hrl:=y.lt
  replace y:=y.below k1
  have e0:=y.c0
  have e1:=y.c1
  have e2:=y.c2
  have e3:=y.c3
  have e4:=y.c4
  have e5:=y.c5
  have f0:=y.f 0
  have f1:=y.f 1
  have f2:=y.f 2
  have f3:=y.f 3
  have f4:=y.f 4
  have f5:=y.f 5
  have g6:=ab_set w1 r (.int .i64 ff.kind) (.bool sd1) (.slice ad1 ld1 cd1) (.slice ap1 np1 cp1) (.bool sk1) (.slice ak1 lk1 ck1)
  have hPf:=hide (hPn1.away (fun b off e => by have:=hnew1 b off e; omega) g6 (ab_noU y))
  have hzf:=hide (hk1.grownU g6 (ab_noU y))
  have hdf:=hide (hz1.grownU g6 (ab_noU y))
  have kf:=hide (below_grown (grow_step k1 (show Below w.heap.size w wb from hp.out.symm ▸ b0)) g6 (by have:=hp.out; omega))
  have hnw : Hid (∀ b off,ap1 = some ⟨b,off,none⟩→w.heap.size≤b):=(fun b off e => by have h1:=hnew1 b off e; have h2:=hp.out; omega)
  clear g6 hPn1 hk1 hz1 hnew1 hP hd hk x b0 k1
  go_wp2
  refine bodyPost_ret (results_ct rfl _ _ r 42 _ (0,0) _ rfl (ab_fin y ff.kind sd1 ad1 ld1 cd1 ap1 np1 cp1 sk1 ak1 lk1 ck1) Tryz.underlying42 rfl k_f) rfl ?_
  refine ⟨?_,kf.out⟩
  rw [hfm.out]
  exact ⟨sd1,ad1,ld1,cd1,ap1,np1,cp1,sk1,ak1,lk1,ck1,by simp,hdf.out,by omega,hPf.out.mono o_m,by omega,hzf.out,by omega,hnw.out⟩
 by_cases h3 : kd = 3
 ·subst h3
  clear h0 h1 h2
  have x:=(AB.new w 3 sd ad ld cd ap np cp sk ak lk ck).below (below_alloc _ (.cells #[.int .i64 0,.bool false,.slice none 0 0,.slice none 0 0,.bool false,.slice none 0 0] 42))
  have y:=AB.new (w.alloc (.cells #[.int .i64 3,.bool sd,.slice ad ld cd,.slice ap np cp,.bool sk,.slice ak lk ck] 42)) 0 false none 0 0 none 0 0 false none 0 0
  rw [show (w.alloc (.cells #[.int .i64 3,.bool sd,.slice ad ld cd,.slice ap np cp,.bool sk,.slice ak lk ck] 42)).heap.size = w.heap.size + 1 from by simp] at y
  have b0 : Below w.heap.size w ((w.alloc (.cells #[.int .i64 3,.bool sd,.slice ad ld cd,.slice ap np cp,.bool sk,.slice ak lk ck] 42)).alloc (.cells #[.int .i64 0,.bool false,.slice none 0 0,.slice none 0 0,.bool false,.slice none 0 0] 42)):=below_alloc' (below_alloc _ _) _
  have HH:=hide (And.intro x (And.intro y (And.intro b0 (And.intro (hP.below b0) (And.intro (hd.below b0) (hk.below b0))))))
  clear x y b0
  go_enter Tryz.func39,Tryz.ntmps39
  go_wp2_with fail
  obtain ⟨x,y,b0,hP,hd,hk⟩:=HH.out; have hF9 : FLE Fw _:=hF.le b0
  clear HH
  generalize (w.alloc (.cells #[.int .i64 3,.bool sd,.slice ad ld cd,.slice ap np cp,.bool sk,.slice ak lk ck] 42)).alloc (.cells #[.int .i64 0,.bool false,.slice none 0 0,.slice none 0 0,.bool false,.slice none 0 0] 42) = wb at *
  have hr : w.heap.size≤w.heap.size + 1:=by omega
  generalize w.heap.size + 1 = r at *
  generalize hp : w.heap.size = p at *
  replace hp:=hide hp
  by_cases hd0 : d = 0
  ·subst hd0
   have hfm : Hid (formA 3 0 (nz (lays [] ps)) k = .inr 11):=(show _ = _ by unfold formA; rw [if_neg (by decide),if_neg (by decide),if_pos (by decide),if_pos rfl])
   refine (rparted_false (B:=B) hF9 hd hld hP hk hlk o_m o_m).mono ?_
   rintro e w1 ⟨hRP,k1⟩
   obtain ⟨-,hz⟩ : (0 : Int) = 0∧AZ e 11:=by
    rcases hRP with h | ⟨h, -⟩
    ·exact h
    exact absurd rfl h
   unfold AZ at hz
   subst hz
   replace y:=y.below k1
   have e0:=y.c0
   have e1:=y.c1
   have e2:=y.c2
   have e3:=y.c3
   have e4:=y.c4
   have e5:=y.c5
   have f0:=y.f 0
   have f1:=y.f 1
   have f2:=y.f 2
   have f3:=y.f 3
   have f4:=y.f 4
   have f5:=y.f 5
   have g6:=ab_set w1 r (.int .i64 0) (.bool false) (.slice none 0 0) (.slice none 0 0) (.bool false) (.slice none 0 0)
   have kf:=hide (below_grown (grow_step k1 (show Below w.heap.size w wb from hp.out.symm ▸ b0)) g6 (by have:=hp.out; omega))
   clear g6 hP hd hk x b0 k1
   go_wp2
   refine bodyPost_ret (results_ct rfl _ _ r 42 _ (0,0) _ rfl (ab_fin y 0 false none 0 0 none 0 0 false none 0 0) Tryz.underlying42 rfl k_f) rfl ?_
   exact ⟨by rw [hfm.out]; exact rfl,kf.out⟩
  refine (rparted_false (B:=B) hF9 hd hld hP hk hlk o_m o_m).mono ?_
  rintro e w1 ⟨hRP,k1⟩
  rcases hRP with ⟨h, -⟩ | ⟨-,hAE⟩
  ·exact absurd h hd0
  obtain ⟨sd1,ad1,ld1,cd1,ap1,np1,cp1,sk1,ak1,lk1,ck1,rfl,hz1,hlz1,hPn1,hnp1,hk1,hlk1,hnew1⟩:=hAE
  have hfm : Hid (formA 3 d (nz (lays [] ps)) k = .inl (divF 3 d (nz (lays [] ps)) k)):=(show _ = _ by unfold formA; rw [if_neg (by decide),if_neg (by decide),if_pos (by decide),if_neg hd0])
  generalize divF 3 d (nz (lays [] ps)) k = ff at *
  have hrl:=y.lt
  replace y:=y.below k1
  have e0:=y.c0
  have e1:=y.c1
  have e2:=y.c2
  have e3:=y.c3
  have e4:=y.c4
  have e5:=y.c5
  have f0:=y.f 0
  have f1:=y.f 1
  have f2:=y.f 2
  have f3:=y.f 3
  have f4:=y.f 4
  have f5:=y.f 5
  have g6:=ab_set w1 r (.int .i64 ff.kind) (.bool sd1) (.slice ad1 ld1 cd1) (.slice ap1 np1 cp1) (.bool sk1) (.slice ak1 lk1 ck1)
  have hPf:=hide (hPn1.away (fun b off e => by have:=hnew1 b off e; omega) g6 (ab_noU y))
  have hzf:=hide (hk1.grownU g6 (ab_noU y))
  have hdf:=hide (hz1.grownU g6 (ab_noU y))
  have kf:=hide (below_grown (grow_step k1 (show Below w.heap.size w wb from hp.out.symm ▸ b0)) g6 (by have:=hp.out; omega))
  have hnw : Hid (∀ b off,ap1 = some ⟨b,off,none⟩→w.heap.size≤b):=(fun b off e => by have h1:=hnew1 b off e; have h2:=hp.out; omega)
  clear g6 hPn1 hk1 hz1 hnew1 hP hd hk x b0 k1
  go_wp2
  refine bodyPost_ret (results_ct rfl _ _ r 42 _ (0,0) _ rfl (ab_fin y ff.kind sd1 ad1 ld1 cd1 ap1 np1 cp1 sk1 ak1 lk1 ck1) Tryz.underlying42 rfl k_f) rfl ?_
  refine ⟨?_,kf.out⟩
  rw [hfm.out]
  exact ⟨sd1,ad1,ld1,cd1,ap1,np1,cp1,sk1,ak1,lk1,ck1,by simp,hdf.out,by omega,hPf.out.mono o_m,by omega,hzf.out,by omega,hnw.out⟩
 by_cases h4 : kd = 4
 ·subst h4
  clear h0 h1 h2 h3
  have x:=(AB.new w 4 sd ad ld cd ap np cp sk ak lk ck).below (below_alloc _ (.cells #[.int .i64 0,.bool false,.slice none 0 0,.slice none 0 0,.bool false,.slice none 0 0] 42))
  have y:=AB.new (w.alloc (.cells #[.int .i64 4,.bool sd,.slice ad ld cd,.slice ap np cp,.bool sk,.slice ak lk ck] 42)) 0 false none 0 0 none 0 0 false none 0 0
  rw [show (w.alloc (.cells #[.int .i64 4,.bool sd,.slice ad ld cd,.slice ap np cp,.bool sk,.slice ak lk ck] 42)).heap.size = w.heap.size + 1 from by simp] at y
  have b0 : Below w.heap.size w ((w.alloc (.cells #[.int .i64 4,.bool sd,.slice ad ld cd,.slice ap np cp,.bool sk,.slice ak lk ck] 42)).alloc (.cells #[.int .i64 0,.bool false,.slice none 0 0,.slice none 0 0,.bool false,.slice none 0 0] 42)):=below_alloc' (below_alloc _ _) _
  have HH:=hide (And.intro x (And.intro y (And.intro b0 (And.intro (hP.below b0) (And.intro (hd.below b0) (hk.below b0))))))
  clear x y b0
  go_enter Tryz.func39,Tryz.ntmps39
  go_wp2_with fail
  obtain ⟨x,y,b0,hP,hd,hk⟩:=HH.out; have hF9 : FLE Fw _:=hF.le b0
  clear HH
  generalize (w.alloc (.cells #[.int .i64 4,.bool sd,.slice ad ld cd,.slice ap np cp,.bool sk,.slice ak lk ck] 42)).alloc (.cells #[.int .i64 0,.bool false,.slice none 0 0,.slice none 0 0,.bool false,.slice none 0 0] 42) = wb at *
  have hr : w.heap.size≤w.heap.size + 1:=by omega
  generalize w.heap.size + 1 = r at *
  generalize hp : w.heap.size = p at *
  replace hp:=hide hp
  by_cases hd0 : d = 0
  ·subst hd0
   have hfm : Hid (formA 4 0 (nz (lays [] ps)) k = .inr 11):=(show _ = _ by unfold formA; rw [if_neg (by decide),if_neg (by decide),if_pos (by decide),if_pos rfl])
   refine (rparted_true (B:=B) hF9 hd hld hP hk hlk o_m o_m).mono ?_
   rintro e w1 ⟨hRP,k1⟩
   obtain ⟨-,hz⟩ : (0 : Int) = 0∧AZ e 11:=by
    rcases hRP with h | ⟨h, -⟩
    ·exact h
    exact absurd rfl h
   unfold AZ at hz
   subst hz
   replace y:=y.below k1
   have e0:=y.c0
   have e1:=y.c1
   have e2:=y.c2
   have e3:=y.c3
   have e4:=y.c4
   have e5:=y.c5
   have f0:=y.f 0
   have f1:=y.f 1
   have f2:=y.f 2
   have f3:=y.f 3
   have f4:=y.f 4
   have f5:=y.f 5
   have g6:=ab_set w1 r (.int .i64 0) (.bool false) (.slice none 0 0) (.slice none 0 0) (.bool false) (.slice none 0 0)
   have kf:=hide (below_grown (grow_step k1 (show Below w.heap.size w wb from hp.out.symm ▸ b0)) g6 (by have:=hp.out; omega))
   clear g6 hP hd hk x b0 k1
   go_wp2
   refine bodyPost_ret (results_ct rfl _ _ r 42 _ (0,0) _ rfl (ab_fin y 0 false none 0 0 none 0 0 false none 0 0) Tryz.underlying42 rfl k_f) rfl ?_
   exact ⟨by rw [hfm.out]; exact rfl,kf.out⟩
  refine (rparted_true (B:=B) hF9 hd hld hP hk hlk o_m o_m).mono ?_
  rintro e w1 ⟨hRP,k1⟩
  rcases hRP with ⟨h, -⟩ | ⟨-,hAE⟩
  ·exact absurd h hd0
  obtain ⟨sd1,ad1,ld1,cd1,ap1,np1,cp1,sk1,ak1,lk1,ck1,rfl,hz1,hlz1,hPn1,hnp1,hk1,hlk1,hnew1⟩:=hAE
  have hfm : Hid (formA 4 d (nz (lays [] ps)) k = .inl (divF 4 d (nz (lays [] ps)) k)):=(show _ = _ by unfold formA; rw [if_neg (by decide),if_neg (by decide),if_pos (by decide),if_neg hd0])
  generalize divF 4 d (nz (lays [] ps)) k = ff at *
  have hrl:=y.lt
  replace y:=y.below k1
  have e0:=y.c0
  have e1:=y.c1
  have e2:=y.c2
  have e3:=y.c3
  have e4:=y.c4
  have e5:=y.c5
  have f0:=y.f 0
  have f1:=y.f 1
  have f2:=y.f 2
  have f3:=y.f 3
  have f4:=y.f 4
  have f5:=y.f 5
  have g6:=ab_set w1 r (.int .i64 ff.kind) (.bool sd1) (.slice ad1 ld1 cd1) (.slice ap1 np1 cp1) (.bool sk1) (.slice ak1 lk1 ck1)
  have hPf:=hide (hPn1.away (fun b off e => by have:=hnew1 b off e; omega) g6 (ab_noU y))
  have hzf:=hide (hk1.grownU g6 (ab_noU y))
  have hdf:=hide (hz1.grownU g6 (ab_noU y))
  have kf:=hide (below_grown (grow_step k1 (show Below w.heap.size w wb from hp.out.symm ▸ b0)) g6 (by have:=hp.out; omega))
  have hnw : Hid (∀ b off,ap1 = some ⟨b,off,none⟩→w.heap.size≤b):=(fun b off e => by have h1:=hnew1 b off e; have h2:=hp.out; omega)
  clear g6 hPn1 hk1 hz1 hnew1 hP hd hk x b0 k1
  go_wp2
  refine bodyPost_ret (results_ct rfl _ _ r 42 _ (0,0) _ rfl (ab_fin y ff.kind sd1 ad1 ld1 cd1 ap1 np1 cp1 sk1 ak1 lk1 ck1) Tryz.underlying42 rfl k_f) rfl ?_
  refine ⟨?_,kf.out⟩
  rw [hfm.out]
  exact ⟨sd1,ad1,ld1,cd1,ap1,np1,cp1,sk1,ak1,lk1,ck1,by simp,hdf.out,by omega,hPf.out.mono o_m,by omega,hzf.out,by omega,hnw.out⟩
 have i0 : (kd == 0) = false:=by rw [beq_eq_false_iff_ne]; exact h0
 have i1 : (kd == 1) = false:=by rw [beq_eq_false_iff_ne]; exact h1
 have i2 : (kd == 2) = false:=by rw [beq_eq_false_iff_ne]; exact h2
 have i3 : (kd == 3) = false:=by rw [beq_eq_false_iff_ne]; exact h3
 have i4 : (kd == 4) = false:=by rw [beq_eq_false_iff_ne]; exact h4
 have hfm : Hid (formA kd d (nz (lays [] ps)) k = .inr 1):=(show _ = _ by unfold formA; rw [if_neg o_m,if_neg h2,if_neg o_m])
 clear h0 h1 h2 h3 h4
 have y:=AB.new (w.alloc (.cells #[.int .i64 kd,.bool sd,.slice ad ld cd,.slice ap np cp,.bool sk,.slice ak lk ck] 42)) 0 false none 0 0 none 0 0 false none 0 0
 rw [show (w.alloc (.cells #[.int .i64 kd,.bool sd,.slice ad ld cd,.slice ap np cp,.bool sk,.slice ak lk ck] 42)).heap.size = w.heap.size + 1 from by simp] at y
 have b0 : Below w.heap.size w ((w.alloc (.cells #[.int .i64 kd,.bool sd,.slice ad ld cd,.slice ap np cp,.bool sk,.slice ak lk ck] 42)).alloc (.cells #[.int .i64 0,.bool false,.slice none 0 0,.slice none 0 0,.bool false,.slice none 0 0] 42)):=below_alloc' (below_alloc _ _) _
 have HH:=hide (And.intro y b0)
 clear y b0
 go_enter Tryz.func39,Tryz.ntmps39
 go_wp2
 obtain ⟨y,b0⟩:=HH.out
 refine bodyPost_ret (results_ct rfl _ _ (w.heap.size + 1) 42 _ (0,0) _ rfl y Tryz.underlying42 rfl k_f) rfl ?_
 exact ⟨by rw [hfm.out]; rfl,b0⟩
end Go.Proofs.YtcfmkjegolpgaaaGreatDoor.Low
