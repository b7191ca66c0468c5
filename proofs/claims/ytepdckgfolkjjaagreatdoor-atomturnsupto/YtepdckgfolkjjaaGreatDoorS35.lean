/-
 Several texts in one: GI,GE,GF.
-/
import Derived.Test.YtepdckgfolkjjaaGreatDoorS31
import Derived.Test.YtepdckgfolkjjaaGreatDoorS24
import Derived.Test.YtepdckgfolkjjaaGreatDoorS23
import Derived.Test.YtepdckgfolkjjaaGreatDoorS34
import Derived.Test.YtepdckgfolkjjaaGreatDoorS29
namespace Go.Proofs.YtepdckgfolkjjaaGreatDoor.Rf
open Go.RowKit Go.Sort Go.Shelf
open Tm At

variable {s2 s sd sk : Bool} {a2 ad a ad2 ap ak : Option Addr} {l2 c2 n cp l c B n2 cp2 ld cd np lk ck F B0 : Nat} {w w' : World} {ps qs : List (Int × Int)} {k k2 v kd d : Int} {f : Atm} {e : Ending}
theorem radd2_n {s1 : Bool} {a1 : Option Addr} {l1 c1 : Nat} {z1 z2 : Int} (h1 : Zm w s1 a1 l1 c1 z1) (h2 : Zm w s2 a2 l2 c2 z2) (hl1 : l1≤17179869184) (hl2 : l2≤17179869184) :
  Calls Tryz.prog 77 #[.agg #[.bool s1,.slice a1 l1 c1],.agg #[.bool s2,.slice a2 l2 c2]] w fun e w' => ∃ s' ad len cap,e = .returned (.agg #[.bool s',.slice ad len cap])∧Zn w' s' ad len cap (z1 + z2)∧Below w.heap.size w w'∧len≤max l1 l2 + 1:=by
 refine (Lw.radd2_n (Fw:=0) (.mk h1 (Nat.zero_le _)) (.mk h2 (Nat.zero_le _)) hl1 hl2).mono ?_
 rintro e w' ⟨s,a,l,c,h1,h2,h3⟩
 exact ⟨s,a,l,c,h1,h2.old,h3⟩
theorem rnorm5_w (hP : Pr w ad n ps B) (hz : Zm w s a l c k) (hl : l≤B) (hn : n≤268435456) (hB : B + n≤268435456) :
  Calls Tryz.prog 72 #[.agg #[.slice ad n cp,.bool s,.slice a l c]] w fun e w' => ∃ ad' n' cp' s' a' l' c',e = .returned (.agg #[.slice ad' n' cp',.bool s',.slice a' l' c'])∧TW w' ad' n' s' a' l' c' (nz (lays [] ps)) k (B + n + 1)∧Zn w' s' a' l' c' k∧Below w.heap.size w w'∧n'≤n∧Pn w' ad' n' (nz (lays [] ps)) (B + n + 1)∧(∀ b off,ad' = some ⟨b,off,none⟩→w.heap.size≤b):=by
 refine (Low.rnorm5_w (Fw:=0) (.mk hP (Nat.zero_le _)) (.mk hz (Nat.zero_le _)) hl hn hB).mono ?_
 rintro e w' ⟨ad',n',cp',s',a',l',c',h1,h2,h3,h4,h5,h6,h7⟩
 exact ⟨ad',n',cp',s',a',l',c',h1,⟨h2.1.old,h2.2.1.old,h2.2.2⟩,h3.old,h4,h5,h6.old,h7⟩
theorem rscale5_g {s0 : Bool} {a0 : Option Addr} {l0 c0 : Nat} {k0 : Int} (hk : Zm w s0 a0 l0 c0 k0) (hk0 : l0≤B) (hP : Pr w ad n ps B) (hz : Zm w s a l c k) (hl : l≤B) (hn : n≤4194304) (hB : B≤67108864) :
  Calls Tryz.prog 81 #[.agg #[.bool s0,.slice a0 l0 c0],.agg #[.slice ad n cp,.bool s,.slice a l c]] w fun e w' => ∃ ad' n' cp' s' a' l' c',e = .returned (.agg #[.slice ad' n' cp',.bool s',.slice a' l' c'])∧Pn w' ad' n' (nz (lays [] (mapP (fun x => k0 * x) ps))) (2 * B + n + 2)∧Zn w' s' a' l' c' (k0 * k)∧l'≤2 * B + n + 2∧n'≤n∧(∀ b off,ad' = some ⟨b,off,none⟩→w.heap.size≤b)∧Below w.heap.size w w':=by
 refine (Low.rscale5_g (Fw:=0) (.mk hk (Nat.zero_le _)) hk0 (.mk hP (Nat.zero_le _)) (.mk hz (Nat.zero_le _)) hl hn hB).mono ?_
 rintro e w' ⟨ad',n',cp',s',a',l',c',h1,h2,h3,h4⟩
 exact ⟨ad',n',cp',s',a',l',c',h1,h2.old,h3.old,h4⟩
theorem rorder5_n (hP : Pr w ad n ps B) (hz : Zm w s a l c k) (hl : l≤B) (hP2 : Pr w ad2 n2 qs B) (hz2 : Zm w s2 a2 l2 c2 k2) (hl2 : l2≤B) (hB : B + n≤268435456) (hB2 : B + n2≤268435456) :
  Calls Tryz.prog 50 #[.agg #[.slice ad n cp,.bool s,.slice a l c],.agg #[.slice ad2 n2 cp2,.bool s2,.slice a2 l2 c2]] w fun e w' => e = .returned (.int .i64 (ordT (nz (lays [] ps)) (nz (lays [] qs)) k k2))∧Below w.heap.size w w':=Low.rorder5_n (Fw:=0) (.mk hP (Nat.zero_le _)) (.mk hz (Nat.zero_le _)) hl (.mk hP2 (Nat.zero_le _)) (.mk hz2 (Nat.zero_le _)) hl2 hB hB2
set_option maxRecDepth 100000 in
set_option maxHeartbeats 1600000 in
theorem radd5_n (hP : Pr w ad n ps B) (hz : Zm w s a l c k) (hl : l≤B) (hP2 : Pr w ad2 n2 qs B) (hz2 : Zm w s2 a2 l2 c2 k2) (hl2 : l2≤B) (hB : B + 1 + (n + n2)≤268435456) :
  Calls Tryz.prog 80 #[.agg #[.slice ad n cp,.bool s,.slice a l c],.agg #[.slice ad2 n2 cp2,.bool s2,.slice a2 l2 c2]] w fun e w' => ∃ ad' n' cp' s' a' l' c',e = .returned (.agg #[.slice ad' n' cp',.bool s',.slice a' l' c'])∧Pn w' ad' n' (nz (lays [] (ps ++ qs))) (B + 1 + (n + n2) + 1)∧Zn w' s' a' l' c' (k + k2)∧l'≤B + 1 + (n + n2) + 1∧n'≤n + n2∧Below w.heap.size w w'∧(∀ b off,ad' = some ⟨b,off,none⟩→w.heap.size≤b):=by
 have x:=((tb_new w ad n cp s a l c).below (below_alloc _ (.cells #[.slice ad2 n2 cp2,.bool s2,.slice a2 l2 c2] 27))).below (below_alloc _ (.cells #[.slice none 0 0,.bool false,.slice none 0 0] 27))
 have x2:=(tb_new (w.alloc (.cells #[.slice ad n cp,.bool s,.slice a l c] 27)) ad2 n2 cp2 s2 a2 l2 c2).below (below_alloc _ (.cells #[.slice none 0 0,.bool false,.slice none 0 0] 27))
 have y:=tb_new ((w.alloc (.cells #[.slice ad n cp,.bool s,.slice a l c] 27)).alloc (.cells #[.slice ad2 n2 cp2,.bool s2,.slice a2 l2 c2] 27)) none 0 0 false none 0 0
 have b0 : Below w.heap.size w (((w.alloc (.cells #[.slice ad n cp,.bool s,.slice a l c] 27)).alloc (.cells #[.slice ad2 n2 cp2,.bool s2,.slice a2 l2 c2] 27)).alloc (.cells #[.slice none 0 0,.bool false,.slice none 0 0] 27)):=below_alloc' (below_alloc' (below_alloc _ _) _) _
 rw [show (w.alloc (.cells #[.slice ad n cp,.bool s,.slice a l c] 27)).heap.size = w.heap.size + 1 from by simp] at x2
 rw [show ((w.alloc (.cells #[.slice ad n cp,.bool s,.slice a l c] 27)).alloc (.cells #[.slice ad2 n2 cp2,.bool s2,.slice a2 l2 c2] 27)).heap.size = w.heap.size + 1 + 1 from by simp] at y
 obtain ⟨v1,w1,hrun1,hb1,rs1,hm1,ho1,hrow1⟩:=append_parts (cp:=cp) (rs:=[]) (Below.refl _ _) (World.ownsRow_nil (((w.alloc (.cells #[.slice ad n cp,.bool s,.slice a l c] 27)).alloc (.cells #[.slice ad2 n2 cp2,.bool s2,.slice a2 l2 c2] 27)).alloc (.cells #[.slice none 0 0,.bool false,.slice none 0 0] 27)) _ _ _) (hP.below b0) (by omega) 25
 obtain ⟨v2,w2,hrun2,hb2,rs2,hm2,ho2,hrow2⟩:=append_parts (cp:=cp2) hb1 hrow1 (hP2.below b0) (by omega) 25
 obtain ⟨ad3,cp3,rfl,hPr⟩:=row_pr (B:=B) hrow2 (fun q hq => by
  have hq' : q ∈ rs1 ∨ q ∈ rs2:=by simpa using hq
  rcases hq' with h | h
  ·exact ⟨(ho1 q h).1.below hb2,(ho1 q h).2⟩
  ·exact ⟨(ho2 q h).1.below hb2,(ho2 q h).2⟩)
 rw [List.map_append,List.map_append,hm1,hm2,List.map_nil,List.nil_append,Nat.zero_add] at hPr
 have x2c:=(x2.below hb1).c0
 have k1:=(x.below hb2).c1
 have k2':=(x.below hb2).c2
 have k3:=(x2.below hb2).c1
 have k4:=(x2.below hb2).c2
 have yw:=hide (y.below hb2)
 have hzw:=hide (hz.below (grow_step hb2 b0))
 have hzw2:=hide (hz2.below (grow_step hb2 b0))
 have hbw:=hide (grow_step hb2 b0)
 replace hPr:=hide hPr
 clear x y x2 b0 hb1 hb2 hrow1 hrow2 ho1 ho2 hm1 hm2 hP hP2 hz hz2
 go_enter Tryz.func80,Tryz.ntmps80
 go_wp2_with (at_builtin; first | (refine wpList_append_run rfl _ _ 25 rfl _ _ rfl rfl (fun v' w' => v' = v1∧w1 = w') ⟨_,_,hrun1,rfl,rfl⟩ ?_; rintro v' w' ⟨rfl,rfl⟩; clear hrun1) | (refine wpList_append_run rfl _ _ 25 rfl _ _ rfl rfl (fun v' w' => v' = .slice ad3 (0 + n + n2) cp3∧w2 = w') ⟨_,_,hrun2,rfl,rfl⟩ ?_; rintro v' w' ⟨rfl,rfl⟩; clear hrun2))
 clear x2c
 refine (radd2_n hzw.out hzw2.out (by omega) (by omega)).mono ?_
 rintro e w3 ⟨sM,aM,lM,cM,rfl,hM,k3w,hlM⟩
 replace hPr:=hide (hPr.out.below k3w)
 replace yw:=hide (yw.out.below k3w)
 replace hbw:=hide (grow_step k3w hbw.out)
 clear k3w k1 k2' k3 k4 hzw hzw2
 go_wp2_with fail
 refine (rnorm5_w (B:=B + 1) (hPr.out.mono (by omega)) hM.zm (by omega) (by omega) (by omega)).mono ?_
 rintro e w4 ⟨adN,nN,cpN,sN,aN,lN,cN,rfl,hTW,hzN,kN,hnN,hPN,hnew⟩
 have hlN:=hTW.2.2
 have hnw:=hide (fun (b off : Nat) (e : adN = some ⟨b,off,none⟩) => Nat.le_trans hbw.out.size (hnew b off e))
 clear hnew
 have y2:=yw.out.below kN
 have v0:=y2.c0
 have v1:=y2.c1
 have v2:=y2.c2
 have v3:=y2.f 0
 have v4:=y2.f 1
 have v5:=y2.f 2
 have g:=tb_set w4 (w.heap.size + 1 + 1) (.slice adN nN cpN) (.bool sN) (.slice aN lN cN)
 have HH:=hide (And.intro (hPN.tb y2 g) (And.intro (hzN.grownU g (tb_noU y2)) (And.intro (below_grown (grow_step kN hbw.out) g (by omega)) (tb_fin y2 adN nN cpN sN aN lN cN))))
 clear hTW hzN kN hPN y2 yw g hPr hbw hM
 go_wp2
 obtain ⟨hPf,hzf,kf,yf⟩:=HH.out
 refine bodyPost_ret (results_cell_row rfl _ _ (w.heap.size + 1 + 1) 27 _ (0,0) _ rfl yf Tryz.underlying27 rfl (by kernel_rfl)) rfl ?_
 exact ⟨adN,nN,cpN,sN,aN,lN,cN,by simp,hPf.mono (by omega),hzf,by omega,by omega,kf,hnw.out⟩
set_option maxRecDepth 100000 in
set_option maxHeartbeats 1600000 in
theorem rcoef5_n (hP : Pr w ad n ps B) (hB : B + n≤268435456) :
  Calls Tryz.prog 86 #[.agg #[.slice ad n cp,.bool s,.slice a l c],.int .i64 v] w fun e w' => ∃ s' a' l' c',e = .returned (.agg #[.bool s',.slice a' l' c'])∧Zn w' s' a' l' c' (csum ps v)∧l'≤B + n∧Below w.heap.size w w':=by
 obtain ⟨hn,hP⟩:=hP
 go_enter Tryz.func86,Tryz.ntmps86
 go_wp2_with fail
 have x:=((tb_new w ad n cp s a l c).below (below_alloc _ (.cells #[.bool false,.slice none 0 0] 24))).below (below_alloc _ (.cells #[.bool false,.slice none 0 0] 24))
 have y:=(zb_new (w.alloc (.cells #[.slice ad n cp,.bool s,.slice a l c] 27)) false none 0 0).below (below_alloc _ (.cells #[.bool false,.slice none 0 0] 24))
 have q:=zb_new ((w.alloc (.cells #[.slice ad n cp,.bool s,.slice a l c] 27)).alloc (.cells #[.bool false,.slice none 0 0] 24)) false none 0 0
 have b0 : Below w.heap.size w (((w.alloc (.cells #[.slice ad n cp,.bool s,.slice a l c] 27)).alloc (.cells #[.bool false,.slice none 0 0] 24)).alloc (.cells #[.bool false,.slice none 0 0] 24)):=below_alloc' (below_alloc' (below_alloc _ _) _) _
 rw [show (w.alloc (.cells #[.slice ad n cp,.bool s,.slice a l c] 27)).heap.size = w.heap.size + 1 from by simp] at y
 rw [show ((w.alloc (.cells #[.slice ad n cp,.bool s,.slice a l c] 27)).alloc (.cells #[.bool false,.slice none 0 0] 24)).heap.size = w.heap.size + 1 + 1 from by simp] at q
 generalize ((w.alloc (.cells #[.slice ad n cp,.bool s,.slice a l c] 27)).alloc (.cells #[.bool false,.slice none 0 0] 24)).alloc (.cells #[.bool false,.slice none 0 0] 24) = wb at *
 have hpr : w.heap.size < w.heap.size + 1∧w.heap.size + 1 < w.heap.size + 1 + 1:=by omega
 generalize hp : w.heap.size = p at *
 replace b0 : Hid (Below w.heap.size w wb):=hp ▸ b0
 replace hp:=hide hp
 generalize p + 1 = r at *
 generalize r + 1 = u at *
 replace hpr:=hide hpr
 go_loopw [6] (fun i wr => ∃ (t : Nat) (s1 : Bool) (a1 : Option Addr) (l1 c1 : Nat),t≤n∧i = .int .i64 t∧Hid (TB wr p ad n cp s a l c)∧Hid (ZB wr r false none 0 0)∧Hid (ZB wr u s1 a1 l1 c1)∧Hid (Zn wr s1 a1 l1 c1 (csum (ps.take t) v))∧l1≤B + t∧Hid (Below w.heap.size w wr)) (fun i _ => n - (intOf i).toNat)
 case atStart => exact ⟨0,false,none,0,0,Nat.zero_le _,rfl,x,y,q,(by simpa [csum] using hide (zn_zero wb)),by omega,b0⟩
 case round =>
  obtain ⟨t,s1,a1,l1,c1,ht,rfl,hx,hy,hq,hs,hl1,kr⟩:=hrel
  have u0:=hx.out.c0
  by_cases htn : t < n
  ·rcases hP with h0 | ⟨bp,f,rfl,hPL⟩
   ·omega
   obtain ⟨s3,a3,l3,c3,g0,g1,g2,hz3,hl3,hv⟩:=hPL.2 t (by omega)
   have hbl : Hid (bp < w.heap.size):=hPL.1
   have hps : Hid (ps.take (t + 1) = ps.take t ++ [ps[t]]):=List.take_succ_eq_append_getElem (l:=ps) (i:=t) (by omega)
   generalize ps[t] = pp at *
   obtain ⟨pv,pz⟩:=pp
   dsimp only at *
   have m0:=(kr.out.cell (p:=⟨bp,f + t * 3,none⟩) hPL.1).trans g0
   replace g1:=hide g1
   replace g2:=hide g2
   replace hz3:=hide hz3
   by_cases hvv : pv = v
   ·subst hvv
    have i0:=hq.out.c0
    have i1:=hq.out.c1
    go_wp2_with fail
    clear i0 i1 m0
    have kd:=grow_drew (Below.refl wr.heap.size wr)
    have kW:=hide (grow_step kd kr.out)
    have xW:=hide (hx.out.below kd)
    have yW:=hide (hy.out.below kd)
    have qW:=hide (hq.out.below kd)
    have hsW:=hide (hs.out.below kd)
    clear kd u0
    refine wp_region_held_drew (S:=(fun w' => w'.cell? ⟨p,0,none⟩ = some (.slice (some ⟨bp,f,none⟩) n cp)∧w'.cell? ⟨bp,f + t * 3 + 1,none⟩ = some (.bool s3)∧w'.cell? ⟨bp,f + t * 3 + 2,none⟩ = some (.slice a3 l3 c3))) (by kernel_rfl) (ck5 xW.out g1.out g2.out hbl.out kW.out) (fun hHeld => ?_)
    show wpAnyH _ _ _ _ _ 9 _ _ _
    refine wpAnyH_take (i:=1) (oi:=⟨some 24,_,_,_,_,_⟩) (v:=?_) rfl (by kernel_rfl) (by kernel_rfl) (by kernel_rfl) (fun _ _ _ h => h) (Or.inl ⟨by rfl,?_⟩) (by assumption) ?_
    rotate_left
    ·intro wq hSw; (try dsimp only at hSw); go_simp; (try with_reducible rfl)
    (try simp only [pz])
    refine wpAnyH_take (i:=2) (oi:=⟨some 25,_,_,_,_,_⟩) (v:=?_) rfl (by kernel_rfl) (by kernel_rfl) (by kernel_rfl) (fun _ _ _ h => h) (Or.inl ⟨by rfl,?_⟩) (by assumption) ?_
    rotate_left
    ·intro wq hSw; (try dsimp only at hSw); go_simp; (try with_reducible rfl)
    (try simp only [pz])
    refine wpAnyH_take (i:=3) (oi:=⟨some 26,_,_,_,_,_⟩) (v:=?_) rfl (by kernel_rfl) (by kernel_rfl) (by kernel_rfl) (fun _ _ _ h => h) (Or.inl ⟨by rfl,?_⟩) (by assumption) ?_
    rotate_left
    ·intro wq hSw; (try dsimp only at hSw); go_simp; (try with_reducible rfl)
    (try simp only [pz])
    refine wpAnyH_take (i:=4) (oi:=⟨some 27,_,_,_,_,_⟩) (v:=?_) rfl (by kernel_rfl) (by kernel_rfl) (by kernel_rfl) (fun _ _ _ h => h) (Or.inl ⟨by rfl,?_⟩) (by assumption) ?_
    rotate_left
    ·intro wq hSw; (try dsimp only at hSw); go_simp; (try with_reducible rfl)
    (try simp only [pz])
    refine wpAnyH_take (i:=5) (oi:=⟨some 28,_,_,_,_,_⟩) (v:=?_) rfl (by kernel_rfl) (by kernel_rfl) (by kernel_rfl) (fun _ _ _ h => h) (Or.inl ⟨by rfl,?_⟩) (by assumption) ?_
    rotate_left
    ·intro wq hSw; (try dsimp only at hSw); go_simp; (try with_reducible rfl)
    (try simp only [pz])
    refine wpAnyH_take (i:=6) (oi:=⟨some 29,_,_,_,_,_⟩) (v:=?_) rfl (by kernel_rfl) (by kernel_rfl) (by kernel_rfl) (fun _ _ _ h => h) (Or.inl ⟨by rfl,?_⟩) (by assumption) ?_
    rotate_left
    ·intro wq hSw; (try dsimp only at hSw); go_simp; (try with_reducible rfl)
    (try simp only [pz])
    refine wpAnyH_ready (rs:=[0]) (by kernel_rfl) (by simp) ?_
    refine AllReadyH.cons (o:=⟨some 23,_,_,_,_,_⟩) rfl (fun K hK => ?_) AllReadyH.nil
    have i0:=qW.out.c0
    have i1:=qW.out.c1
    go_simp
    refine hK.out _ _ ?_ ?_
    ·(try dsimp only); exact ck5 xW.out g1.out g2.out hbl.out kW.out
    clear hK K hHeld; intro hHeld
    (try simp only [pz])
    refine wpAnyH_ready (rs:=[7]) (by kernel_rfl) (by simp) ?_
    refine AllReadyH.cons (o:=⟨some 30,_,_,_,_,_⟩) rfl (fun K hK => ?_) AllReadyH.nil
    go_simp
    refine Calls.mono (radd2_n (w:=wr.drew) hsW.out.zm (hz3.out.below kW.out) (by omega) (by omega)) ?_
    rintro e wN ⟨sN,aN,lN,cN,rfl,hN,kN,hlN⟩
    have kN1:=hide (grow_step kN kW.out)
    have xN:=hide (xW.out.below kN)
    have yN:=hide (yW.out.below kN)
    have qN:=hide (qW.out.below kN)
    replace hN:=hide hN
    clear kN
    (try go_wp2_with fail)
    refine hK.out _ _ ?_ ?_
    ·(try dsimp only); exact ck5 xN.out g1.out g2.out hbl.out kN1.out
    clear hK K hHeld; intro hHeld
    (try simp only [pz])
    refine wpAnyH_ready (rs:=[8]) (by kernel_rfl) (by simp) ?_
    refine AllReadyH.cons (o:=⟨none,_,_,_,_,_⟩) rfl (fun K hK => ?_) AllReadyH.nil
    have j0:=qN.out.c0
    have j1:=qN.out.c1
    have j2:=qN.out.f 0
    have j3:=qN.out.f 1
    have gq:=zb_set wN u (.bool sN) (.slice aN lN cN)
    have x5:=hide (xN.out.grown gq (by have:=hpr.out; omega))
    have y5:=hide (yN.out.grown gq (by have:=hpr.out; omega))
    have q5:=hide (zb_fin qN.out sN aN lN cN)
    have z5:=hide (hN.out.grownU gq (zb_noU qN.out))
    have k5:=hide (below_grown kN1.out gq (by have:=hpr.out; have:=hp.out; omega))
    clear gq
    go_simp
    refine hK.out _ _ ?_ ?_
    ·(try dsimp only); exact ck5 x5.out g1.out g2.out hbl.out k5.out
    clear hK K hHeld; intro hHeld
    (try simp only [pz])
    refine wpAnyH_done (by kernel_rfl) ?_ _
    have hs5 : Hid (Zn ((wN.setCell ⟨u,0,none⟩ (.bool sN)).setCell ⟨u,1,none⟩ (.slice aN lN cN)) sN aN lN cN (csum (ps.take (t + 1)) pv)):=(by rw [hps.out,csum_snoc,if_pos rfl]; exact z5)
    clear hHeld i0 i1 j0 j1 j2 j3
    go_wp2_with fail
    exact ⟨⟨t + 1,sN,aN,lN,cN,by omega,by go_num,x5,y5,q5,hs5,by omega,k5⟩,by simp [intOf]; omega⟩
   ·have hs5 : Hid (Zn wr s1 a1 l1 c1 (csum (ps.take (t + 1)) v)):=(by rw [hps.out,csum_snoc,if_neg hvv,Int.add_zero]; exact hs)
    go_wp2_with fail
    exact ⟨⟨t + 1,s1,a1,l1,c1,by omega,by go_num,hx,hy,hq,hs5,by omega,kr⟩,by simp [intOf]; omega⟩
  ·obtain rfl : t = n:=by omega
   have i0:=hq.out.c0
   have i1:=hq.out.c1
   go_wp2_with fail
   refine (rnorm_n hs.out.zm (by omega)).mono ?_
   rintro e w2 ⟨s2,a2,l2,c2,rfl,hz2,k2,hl2⟩
   have y2:=hy.out.below k2
   have j0:=y2.c0
   have j1:=y2.c1
   have j2:=y2.f 0
   have j3:=y2.f 1
   have hzf:=hide (zb_zn y2 hz2 s2 a2 l2 c2)
   have kf:=hide (below_grown (grow_step k2 kr.out) (zb_set w2 r (.bool s2) (.slice a2 l2 c2)) (by have:=hpr.out; have:=hp.out; omega))
   clear k2 i0 i1
   go_wp2
   refine bodyPost_ret (results_cell_row rfl _ _ r 24 _ (0,0) _ rfl (zb_fin y2 s2 a2 l2 c2) Tryz.underlying24 rfl (by kernel_rfl)) rfl ?_
   rw [List.take_of_length_le (Nat.le_of_eq hn)] at hzf
   exact ⟨s2,a2,l2,c2,by simp,hzf.out,by omega,kf.out⟩
set_option maxRecDepth 100000 in
set_option maxHeartbeats 1600000 in
theorem rwithout5_n (hP : Pr w ad n ps B) (hz : Zm w s a l c k) (hl : l≤B) (hB : B + n≤268435456) :
  Calls Tryz.prog 85 #[.agg #[.slice ad n cp,.bool s,.slice a l c],.int .i64 v] w fun e w' => ∃ ad' n' cp' s' a' l' c',e = .returned (.agg #[.slice ad' n' cp',.bool s',.slice a' l' c'])∧Pn w' ad' n' (nz (lays [] (wo v ps))) (B + n + 1)∧Zn w' s' a' l' c' k∧l'≤B + n + 1∧n'≤n∧Below w.heap.size w w':=by
 obtain ⟨hn,hP⟩:=hP
 go_enter Tryz.func85,Tryz.ntmps85
 go_wp2_with fail
 have x:=(tb_new w ad n cp s a l c).below (below_alloc _ (.cells #[.slice none 0 0,.bool false,.slice none 0 0] 27))
 have y:=tb_new (w.alloc (.cells #[.slice ad n cp,.bool s,.slice a l c] 27)) none 0 0 false none 0 0
 have b0 : Below w.heap.size w ((w.alloc (.cells #[.slice ad n cp,.bool s,.slice a l c] 27)).alloc (.cells #[.slice none 0 0,.bool false,.slice none 0 0] 27)):=below_alloc' (below_alloc _ _) _
 rw [show (w.alloc (.cells #[.slice ad n cp,.bool s,.slice a l c] 27)).heap.size = w.heap.size + 1 from by simp] at y
 generalize (w.alloc (.cells #[.slice ad n cp,.bool s,.slice a l c] 27)).alloc (.cells #[.slice none 0 0,.bool false,.slice none 0 0] 27) = wb at *
 replace hz:=hz.below b0
 have hpr : w.heap.size < w.heap.size + 1:=by omega
 have hPb : ∀ i (h : i < ps.length),∃ bp f,ad = some ⟨bp,f,none⟩∧bp < wb.heap.size∧PA wb bp (f + i * 3) ps[i] B:=by
  intro i h
  rcases hP with h0 | ⟨bp,f,e,h1⟩
  ·omega
  ·exact ⟨bp,f,e,(h1.below b0).1,(h1.below b0).2 i h⟩
 clear hP
 generalize hp : w.heap.size = p at *
 replace b0 : Hid (Below w.heap.size w wb):=hp ▸ b0
 replace hp:=hide hp
 generalize p + 1 = r at *
 replace hpr:=hide hpr
 go_loopw [5,6] (fun v5 i wr => ∃ (t k5 : Nat) (ad5 : Option Addr) (cp5 : Nat) (rs : List Raw),t≤n∧k5≤t∧i = .int .i64 t∧v5 = .slice ad5 k5 cp5∧Hid (wr.ownsRow wb.heap.size 59 3 (.slice ad5 k5 cp5) k5 (flat rs))∧Hid (∀ x ∈ rs,x.okm wb B)∧Hid (rs.map Raw.p = wo v (ps.take t))∧Hid (Below wb.heap.size wb wr)) (fun _ i _ => n - (intOf i).toNat)
 case atStart => exact ⟨0,0,none,0,[],Nat.zero_le _,Nat.le_refl _,rfl,rfl,World.ownsRow_nil _ _ _ _,(fun x hx => absurd hx (by simp)),(show _ = _ from rfl),Below.refl _ _⟩
 case round =>
  obtain ⟨t,k5,ad5,cp5,rs,ht,hk5,rfl,rfl,hrow,hok,hmap,kr⟩:=hrel
  have u0:=(x.below kr.out).c0
  by_cases htn : t < n
  ·obtain ⟨bp,f,rfl,hbl,s3,a3,l3,c3,g0,g1,g2,hz3,hl3,hv⟩:=hPb t (by omega)
   have hps : Hid (ps.take (t + 1) = ps.take t ++ [ps[t]'(by omega)]):=List.take_succ_eq_append_getElem (l:=ps) (i:=t) (by omega)
   have m0:=(kr.out.cell (p:=⟨bp,f + t * 3,none⟩) hbl).trans g0
   have m1:=(kr.out.cell (p:=⟨bp,f + t * 3 + 1,none⟩) hbl).trans g1
   have m2:=(kr.out.cell (p:=⟨bp,f + t * 3 + 2,none⟩) hbl).trans g2
   clear hPb
   generalize ps[t]'(by omega) = pp at *
   obtain ⟨pv,pz⟩:=pp
   dsimp only at *
   replace hz3:=hide hz3
   clear g0 g1 g2
   by_cases hvv : pv = v
   ·have hmap5 : Hid (rs.map Raw.p = wo v (ps.take (t + 1))):=(show _ = _ by rw [hps.out,wo_snoc,if_pos hvv]; exact hmap.out)
    subst hvv
    go_wp2_with fail
    exact ⟨⟨t + 1,k5,ad5,cp5,rs,by omega,by omega,by go_num,rfl,hrow,hok,hmap5,kr⟩,by simp [intOf]; omega⟩
   ·have kz:=below_alloc wr (.cells #[.int .i64 pv,.bool s3,.slice a3 l3 c3] 59)
    have happ:=hide (append_one (grow_step kz kr.out) (row_below hrow.out kz) ⟨pv,s3,a3,l3,c3,pz⟩ ⟨wr.heap.size,0,none⟩ (v3_new wr pv s3 a3 l3 c3) (show k5 + 1≤1073741824 by omega))
    replace kz:=hide kz
    go_wp2_with (at_builtin; refine wpList_append_run rfl _ _ 25 rfl _ _ rfl rfl _ (happ.out _) ?_; rintro v6 w6 ⟨hb6,hrow6⟩; obtain ⟨ad6,cp6,rfl⟩:=row_slice hrow6; replace hrow6:=hide hrow6; replace hb6:=hide hb6)
    have hok6 : Hid (∀ x ∈ rs ++ [⟨pv,s3,a3,l3,c3,pz⟩],x.okm wb B):=(fun x hx => by
     rcases List.mem_append.1 hx with h | h
     ·exact hok.out x h
     ·rw [List.mem_singleton.1 h]; exact ⟨hz3.out,hl3,hv⟩)
    have hmap6 : Hid ((rs ++ [(⟨pv,s3,a3,l3,c3,pz⟩ : Raw)]).map Raw.p = wo v (ps.take (t + 1))):=(show _ = _ by rw [List.map_append,hmap.out,hps.out,wo_snoc,if_neg hvv]; rfl)
    exact ⟨⟨t + 1,k5 + 1,ad6,cp6,_,by omega,by omega,by go_num,rfl,hrow6,hok6,hmap6,hb6⟩,by simp [intOf]; omega⟩
  ·obtain rfl : t = n:=by omega
   obtain ⟨ad7,cp7,e7,hPr⟩:=row_pr (B:=B) hrow.out (fun q hq => ⟨(hok.out q hq).1.below kr.out,(hok.out q hq).2⟩)
   cases e7
   rw [hmap.out,List.take_of_length_le (Nat.le_of_eq hn)] at hPr
   replace hPr:=hide hPr
   have hzr:=hide (hz.below kr.out)
   have yr:=hide (y.below kr.out)
   have u1:=(x.below kr.out).c1
   have u2:=(x.below kr.out).c2
   have hbr:=hide (grow_step kr.out b0.out)
   clear hrow hok hmap hPb
   go_wp2_with fail
   refine (rnorm5_w (B:=B) hPr.out hzr.out hl (by omega) (by omega)).mono ?_
   rintro e w3 ⟨adN,nN,cpN,sN,aN,lN,cN,rfl,hTW,hzN,kN,hnN,hPN, -⟩
   have hlN:=hTW.2.2
   have y2:=yr.out.below kN
   have v0:=y2.c0
   have v1:=y2.c1
   have v2:=y2.c2
   have v3:=y2.f 0
   have v4:=y2.f 1
   have v5:=y2.f 2
   have g:=tb_set w3 r (.slice adN nN cpN) (.bool sN) (.slice aN lN cN)
   have HH:=hide (And.intro (hPN.tb y2 g) (And.intro (hzN.grownU g (tb_noU y2)) (And.intro (below_grown (grow_step kN hbr.out) g (by have:=hpr.out; have:=hp.out; omega)) (tb_fin y2 adN nN cpN sN aN lN cN))))
   clear hTW hzN kN hPN y2 yr g hPr hbr
   go_wp2
   obtain ⟨hPf,hzf,kf,yf⟩:=HH.out
   refine bodyPost_ret (results_cell_row rfl _ _ r 27 _ (0,0) _ rfl yf Tryz.underlying27 rfl (by kernel_rfl)) rfl ?_
   exact ⟨adN,nN,cpN,sN,aN,lN,cN,by simp,hPf.mono (by omega),hzf,by omega,by omega,kf⟩
set_option maxRecDepth 100000 in
set_option maxHeartbeats 6400000 in
theorem rsub5_n (hP : Pr w ad n ps B) (hz : Zm w s a l c k) (hl : l≤B) (hP2 : Pr w ad2 n2 qs B) (hz2 : Zm w s2 a2 l2 c2 k2) (hl2 : l2≤B) (h2 : 2≤B) (hn : n≤1048576) (hn2 : n2≤1048576) (hB : B≤4194304) :
  Calls Tryz.prog 33 #[.agg #[.slice ad n cp,.bool s,.slice a l c],.agg #[.slice ad2 n2 cp2,.bool s2,.slice a2 l2 c2]] w fun e w' => ∃ ad' n' cp' s' a' l' c',e = .returned (.agg #[.slice ad' n' cp',.bool s',.slice a' l' c'])∧Pn w' ad' n' (nz (lays [] (ps ++ scl (-1) qs))) (2 * B + n2 + 2 + 1 + (n + n2) + 1)∧Zn w' s' a' l' c' (k - k2)∧l'≤2 * B + n2 + 2 + 1 + (n + n2) + 1∧n'≤n + n2∧Below w.heap.size w w':=by
 go_enter Tryz.func33,Tryz.ntmps33
 go_wp2_with fail
 have x:=((tb_new w ad n cp s a l c).below (below_alloc _ (.cells #[.slice ad2 n2 cp2,.bool s2,.slice a2 l2 c2] 27))).below (below_alloc _ (.cells #[.slice none 0 0,.bool false,.slice none 0 0] 27))
 have x2:=(tb_new (w.alloc (.cells #[.slice ad n cp,.bool s,.slice a l c] 27)) ad2 n2 cp2 s2 a2 l2 c2).below (below_alloc _ (.cells #[.slice none 0 0,.bool false,.slice none 0 0] 27))
 have y:=tb_new ((w.alloc (.cells #[.slice ad n cp,.bool s,.slice a l c] 27)).alloc (.cells #[.slice ad2 n2 cp2,.bool s2,.slice a2 l2 c2] 27)) none 0 0 false none 0 0
 have b0 : Below w.heap.size w (((w.alloc (.cells #[.slice ad n cp,.bool s,.slice a l c] 27)).alloc (.cells #[.slice ad2 n2 cp2,.bool s2,.slice a2 l2 c2] 27)).alloc (.cells #[.slice none 0 0,.bool false,.slice none 0 0] 27)):=below_alloc' (below_alloc' (below_alloc _ _) _) _
 rw [show (w.alloc (.cells #[.slice ad n cp,.bool s,.slice a l c] 27)).heap.size = w.heap.size + 1 from by simp] at x2
 rw [show ((w.alloc (.cells #[.slice ad n cp,.bool s,.slice a l c] 27)).alloc (.cells #[.slice ad2 n2 cp2,.bool s2,.slice a2 l2 c2] 27)).heap.size = w.heap.size + 1 + 1 from by simp] at y
 generalize ((w.alloc (.cells #[.slice ad n cp,.bool s,.slice a l c] 27)).alloc (.cells #[.slice ad2 n2 cp2,.bool s2,.slice a2 l2 c2] 27)).alloc (.cells #[.slice none 0 0,.bool false,.slice none 0 0] 27) = wb at *
 have hpr : w.heap.size < w.heap.size + 1 + 1:=by omega
 have hpr2 : w.heap.size + 1 < w.heap.size + 1 + 1:=by omega
 replace hP:=hP.below b0
 replace hz:=hz.below b0
 replace hP2:=hP2.below b0
 replace hz2:=hz2.below b0
 generalize hp : w.heap.size = p at *
 replace hp:=hide hp
 generalize p + 1 = p2 at *
 generalize p2 + 1 = r at *
 have hrb:=Nat.le_of_lt y.lt
 go_region_held3 (fun w' => w'.cell? ⟨p,0,none⟩ = some (.slice ad n cp)∧w'.cell? ⟨p,1,none⟩ = some (.bool s)∧w'.cell? ⟨p,2,none⟩ = some (.slice a l c)∧w'.cell? ⟨p2,0,none⟩ = some (.slice ad2 n2 cp2)∧w'.cell? ⟨p2,1,none⟩ = some (.bool s2)∧w'.cell? ⟨p2,2,none⟩ = some (.slice a2 l2 c2)∧Below r wb w')
  ((refine tk6 x x2 hpr hpr2 ?_; first | (refine Below.mono ?_ hrb; focus ((with_reducible repeat' first | exact Below.refl _ _ | assumption | refine grow_step (by assumption) ?_ | refine grow_drew ?_ | refine grow_alloc ?_ _ | refine grow_drewN ?_ _); done)) | (refine (((Below.mono ?_ hrb).setCell (Nat.le_refl _) _).setCell (Nat.le_refl _) _).setCell (Nat.le_refl _) _; focus ((with_reducible repeat' first | exact Below.refl _ _ | assumption | refine grow_step (by assumption) ?_ | refine grow_drew ?_ | refine grow_alloc ?_ _ | refine grow_drewN ?_ _); done))))
  (first | (go_at_call 35; refine Calls.mono (rof_n (-1) (by decide) (by decide) _) ?_; rintro e wA ⟨sA,aA,lA,cA,rfl,hzA,kA,hlA⟩) | (go_at_call 81; refine Calls.mono (rscale5_g (B:=B) hzA.zm (by omega) (Pr.below hP2 gw) (Zm.below hz2 gw) hl2 (by omega) (by omega)) ?_; rintro e wS ⟨ad3,n3,cp3,s3,a3,l3,c3,rfl,hPS,hzS,hlS,hnS, -,kS⟩) | (go_at_call 80; refine Calls.mono (radd5_n (B:=2 * B + n2 + 2) (Pr.mono (Pr.below hP gw) (by omega)) (Zm.below hz gw) (by omega) (Pr.mono hPS.pr (by omega)) hzS.zm (by omega) (by omega)) ?_; rintro e w2 ⟨ad',n',cp',s',a',l',c',rfl,hT,hzR,hlR,hn',hkR, -⟩; have kR:=hkR; have kW:=mid kR (show Below wb.heap.size wb _ from gw); have y1':=TB.below y kW; have y':=y1'.below kR; have y0:=y'.c0; have y1:=y'.c1; have y2:=y'.c2; have y3:=y'.f 0; have y4:=y'.f 1; have y5:=y'.f 2))
 all_goals
  clear hP hP2 hz hz2
  have g:=tb_set w2 r (.slice ad' n' cp') (.bool s') (.slice a' l' c')
  have hbw : Below w.heap.size w w2:=grow_step kR (grow_step kW (hp.out.symm ▸ b0))
  have HH:=hide (And.intro (hT.tb y' g) (And.intro (hzR.grownU g (tb_noU y')) (And.intro (below_grown hbw g (by have:=hp.out; omega)) (tb_fin y' ad' n' cp' s' a' l' c'))))
  clear g hbw kR kW hT hzR
  go_wp2
  obtain ⟨hPf,hzf,kf,yf⟩:=HH.out
  refine bodyPost_ret (results_cell_row rfl _ _ r 27 _ (0,0) _ rfl yf Tryz.underlying27 rfl (by kernel_rfl)) rfl ?_
  rw [lays_congr (qs:=ps ++ scl (-1) qs) (fun v => by rw [csum_append,csum_append,csum_nzl]; rfl)] at hPf
  exact ⟨ad',n',cp',s',a',l',c',by simp,hPf.mono (by omega),(show k - k2 = k + -1 * k2 by omega) ▸ hzf,by omega,by omega,kf⟩
set_option maxRecDepth 100000 in
set_option maxHeartbeats 3200000 in
theorem same5_t (hS : Std ps) (hP : Pn w ad n ps B) (hz : Zn w s a l c k) (hl : l≤B) (hP2 : Pn w ad2 n2 ps B) (hz2 : Zn w s2 a2 l2 c2 k) (hl2 : l2≤B) (hB : B + n≤268435456) (hB2 : B + n2≤268435456) :
  Calls Tryz.prog 31 #[.agg #[.slice ad n cp,.bool s,.slice a l c],.agg #[.slice ad2 n2 cp2,.bool s2,.slice a2 l2 c2]] w fun e w' => e = .returned (.bool true)∧Below w.heap.size w w':=by
 go_enter Tryz.func31,Tryz.ntmps31
 go_wp2_with fail
 have x:=(tb_new w ad n cp s a l c).below (below_alloc _ (.cells #[.slice ad2 n2 cp2,.bool s2,.slice a2 l2 c2] 27))
 have y:=tb_new (w.alloc (.cells #[.slice ad n cp,.bool s,.slice a l c] 27)) ad2 n2 cp2 s2 a2 l2 c2
 have b0 : Below w.heap.size w ((w.alloc (.cells #[.slice ad n cp,.bool s,.slice a l c] 27)).alloc (.cells #[.slice ad2 n2 cp2,.bool s2,.slice a2 l2 c2] 27)):=below_alloc' (below_alloc _ _) _
 rw [show (w.alloc (.cells #[.slice ad n cp,.bool s,.slice a l c] 27)).heap.size = w.heap.size + 1 from by simp] at y
 generalize (w.alloc (.cells #[.slice ad n cp,.bool s,.slice a l c] 27)).alloc (.cells #[.slice ad2 n2 cp2,.bool s2,.slice a2 l2 c2] 27) = wb at *
 replace hP:=hP.below b0
 replace hz:=hz.below b0
 replace hP2:=hP2.below b0
 replace hz2:=hz2.below b0
 generalize hp : w.heap.size = p at *
 replace b0 : Hid (Below w.heap.size w wb):=hp ▸ b0
 replace hp:=hide hp
 generalize p + 1 = q at *
 obtain ⟨X,hX,hVX⟩:=pn_px hP hS
 obtain ⟨Y,hY,hVY⟩:=pn_px hP2 hS
 obtain ⟨xs,hr,hst, -⟩:=hz.stands
 obtain ⟨ys,hr2,hst2, -⟩:=hz2.stands
 replace hVX:=hide hVX
 replace hVY:=hide hVY
 refine (rvalid5_n hX hr hl (by omega) (by omega)).mono ?_
 rintro e w1 ⟨b1,rfl,hb1,k1⟩
 obtain rfl : b1 = true:=hb1.2 ⟨hVX.out,hst⟩
 clear hb1
 replace k1:=hide k1
 have y0:=(y.below k1.out).c0
 have y1:=(y.below k1.out).c1
 have y2:=(y.below k1.out).c2
 go_wp2_with fail
 refine (rvalid5_n (hY.below k1.out) (hr2.below k1.out) hl2 (by omega) (by omega)).mono ?_
 rintro e w2 ⟨b2,rfl,hb2,k2⟩
 obtain rfl : b2 = true:=hb2.2 ⟨hVY.out,hst2⟩
 clear hb2 y0 y1 y2
 replace k2:=hide (grow_step k2 k1.out)
 clear k1
 have x0:=(x.below k2.out).c0
 have x1:=(x.below k2.out).c1
 have x2:=(x.below k2.out).c2
 have y0:=(y.below k2.out).c0
 have y1:=(y.below k2.out).c1
 have y2:=(y.below k2.out).c2
 go_wp2_with fail
 refine (rorder5_n (hP.pr.below k2.out) (hz.zm.below k2.out) hl (hP2.pr.below k2.out) (hz2.zm.below k2.out) hl2 hB hB2).mono ?_
 rintro e w3 ⟨rfl,k3⟩
 rw [ordT_self]
 have kf : Hid (Below w.heap.size w w3):=b0.out.trans ((grow_step k3 k2.out).mono b0.out.size)
 clear k3
 go_wp2
 go_ret
 exact ⟨rfl,kf.out⟩
set_option maxRecDepth 100000 in
set_option maxHeartbeats 6400000 in
theorem same6_t {sd2 : Bool} {ld2 cd2 : Nat} {ap2 : Option Addr} {np2 : Nat} {sk2 : Bool} {ak2 : Option Addr} {lk2 ck2 : Nat}
  (hS : Std f.ps) (hd : Zn w sd ad ld cd f.d) (hld : ld≤B) (hP : Pn w ap np f.ps B) (hk : Zn w sk ak lk ck f.k) (hlk : lk≤B) (hd2 : Zn w sd2 ad2 ld2 cd2 f.d) (hld2 : ld2≤B) (hP2 : Pn w ap2 np2 f.ps B) (hk2 : Zn w sk2 ak2 lk2 ck2 f.k) (hlk2 : lk2≤B) (hB : B + np≤268435456) (hB2 : B + np2≤268435456) :
  Calls Tryz.prog 8 #[.agg #[.int .i64 f.kind,.bool sd,.slice ad ld cd,.slice ap np cp,.bool sk,.slice ak lk ck],.agg #[.int .i64 f.kind,.bool sd2,.slice ad2 ld2 cd2,.slice ap2 np2 cp2,.bool sk2,.slice ak2 lk2 ck2]] w fun e w' => e = .returned (.bool true)∧Below w.heap.size w w':=by
 obtain ⟨fk,fd,fps,fkk⟩:=f
 dsimp only at hS hd hP hk hd2 hP2 hk2 ⊢
 go_enter Tryz.func8,Tryz.ntmps8
 go_wp2_with fail
 have x:=(AB.new w fk sd ad ld cd ap np cp sk ak lk ck).below (below_alloc _ (.cells #[.int .i64 fk,.bool sd2,.slice ad2 ld2 cd2,.slice ap2 np2 cp2,.bool sk2,.slice ak2 lk2 ck2] 29))
 have y:=AB.new (w.alloc (.cells #[.int .i64 fk,.bool sd,.slice ad ld cd,.slice ap np cp,.bool sk,.slice ak lk ck] 29)) fk sd2 ad2 ld2 cd2 ap2 np2 cp2 sk2 ak2 lk2 ck2
 have b0 : Below w.heap.size w ((w.alloc (.cells #[.int .i64 fk,.bool sd,.slice ad ld cd,.slice ap np cp,.bool sk,.slice ak lk ck] 29)).alloc (.cells #[.int .i64 fk,.bool sd2,.slice ad2 ld2 cd2,.slice ap2 np2 cp2,.bool sk2,.slice ak2 lk2 ck2] 29)):=below_alloc' (below_alloc _ _) _
 rw [show (w.alloc (.cells #[.int .i64 fk,.bool sd,.slice ad ld cd,.slice ap np cp,.bool sk,.slice ak lk ck] 29)).heap.size = w.heap.size + 1 from by simp] at y
 generalize (w.alloc (.cells #[.int .i64 fk,.bool sd,.slice ad ld cd,.slice ap np cp,.bool sk,.slice ak lk ck] 29)).alloc (.cells #[.int .i64 fk,.bool sd2,.slice ad2 ld2 cd2,.slice ap2 np2 cp2,.bool sk2,.slice ak2 lk2 ck2] 29) = wb at *
 replace hd:=hd.below b0
 replace hP:=hP.below b0
 replace hk:=hk.below b0
 replace hd2:=hd2.below b0
 replace hP2:=hP2.below b0
 replace hk2:=hk2.below b0
 replace hS:=hide hS
 generalize hp : w.heap.size = p at *
 replace b0 : Hid (Below w.heap.size w wb):=hp ▸ b0
 clear hp
 generalize p + 1 = q at *
 refine (ris_t hd hd2.zm (by omega) (by omega) rfl).mono ?_
 rintro e w1 ⟨rfl,k1⟩
 replace x:=x.below k1
 replace y:=y.below k1
 replace hd2:=hd2.below k1
 replace hP:=hP.below k1
 replace hk:=hk.below k1
 replace hP2:=hP2.below k1
 replace hk2:=hk2.below k1
 have kk:=hide (grow_step k1 b0.out)
 clear k1 b0 hd
 have f1:=y.c1
 have f2:=y.c2
 go_wp2_with fail
 refine (rvalid_t hd2 (by omega)).mono ?_
 rintro e w2 ⟨rfl,k2⟩
 replace x:=x.below k2
 replace y:=y.below k2
 replace hP:=hP.below k2
 replace hk:=hk.below k2
 replace hP2:=hP2.below k2
 replace hk2:=hk2.below k2
 replace kk:=hide (grow_step k2 kk.out)
 clear k2 hd2 f1 f2
 have e3:=x.c3
 have e4:=x.c4
 have e5:=x.c5
 have f3:=y.c3
 have f4:=y.c4
 have f5:=y.c5
 go_wp2_with fail
 refine (same5_t hS.out hP hk hlk hP2 hk2 hlk2 hB hB2).mono ?_
 rintro e w3 ⟨rfl,k3⟩
 replace x:=x.below k3
 replace y:=y.below k3
 replace kk:=hide (grow_step k3 kk.out)
 clear k3 e3 e4 e5 f3 f4 f5
 have e0:=x.c0
 have f0:=y.c0
 go_wp2
 go_ret
 exact ⟨rfl,kk.out⟩

theorem calls_ex {P : Program} {f : FuncId} {args : Array Value} {R : Ending→World→Prop} (h : Calls P f args w R) : ∃ e w',R e w':=by
 obtain ⟨e,w',_,r,_⟩:=h []
 exact ⟨e,w',r⟩
theorem pn_len {ad' : Option Addr} {n' : Nat} {B' : Nat} (h : Low.Pn F w ad n ps B) (h' : Pn w' ad' n' ps B') : Low.Pn F w ad n ps B':=by
 refine ⟨h.1,?_⟩
 rcases h.2 with h2 | ⟨b,off,e,hb,h2⟩
 ·exact .inl h2
 ·refine .inr ⟨b,off,e,hb,fun i hi => ?_⟩
  obtain ⟨s,a,l,c,e0,e1,e2,hz,hl,hv⟩:=h2 i hi
  rcases h'.2 with h3 | ⟨b',off',e',hb',h3⟩
  ·have:=h'.1; omega
  ·obtain ⟨s',a',l',c',_,_,_,hz',hl',_⟩:=h3 i hi
   exact ⟨s,a,l,c,e0,e1,e2,hz,by rw [(zn_same hz.old hz').2]; exact hl',hv⟩
theorem rnorm6_t
  (hF : F≤w.heap.size) (hd : Zm w sd ad ld cd d) (hld : ld≤B) (hP : Pr w ap np ps B) (hk : Zm w sk ak lk ck k) (hlk : lk≤B) (hn : np≤262144) (hB : B + np + 1≤4194000) :
  Calls Tryz.prog 11 #[.agg #[.int .i64 kd,.bool sd,.slice ad ld cd,.slice ap np cp,.bool sk,.slice ak lk ck]] w fun e w' => Low.AN F w' e (formA kd d (nz (lays [] ps)) k) (B + np + 16) w.heap.size∧Below w.heap.size w w':=by
 obtain ⟨e',w',qs,hS,hc,hA, -⟩:=calls_ex (Fx.anorm_n (Fw:=0) (kd:=kd) (cp:=cp) (Nat.zero_le _) hd hld hP hk hlk hn hB)
 obtain rfl : qs = nz (lays [] ps):=std_unique hS (std_lays ps) (fun v => (hc v).trans (csum_nzl ps v).symm)
 refine (Low.rnorm6_n (Fw:=F) hF (.mk hd hF) hld (.mk hP hF) (.mk hk hF) hlk hn (by omega)).mono ?_
 rintro e w1 ⟨h,k1⟩
 refine ⟨?_,k1⟩
 cases hf : formA kd d (nz (lays [] ps)) k with
 | inr er => rw [hf] at h; exact h
 | inl f =>
  rw [hf] at h hA
  obtain ⟨sd1,ad1,ld1,cd1,ap1,np1,cp1,sk1,ak1,lk1,ck1,rfl,hz1, -,hP1, -,hk1, -,hnew⟩:=h
  obtain ⟨sd2,ad2,ld2,cd2,ap2,np2,cp2,sk2,ak2,lk2,ck2, -,hz2,hl2,hP2,hn2,hk2,hlk2, -⟩:=hA
  have hnn : np1 = np2:=hP1.1.symm.trans hP2.1
  exact ⟨sd1,ad1,ld1,cd1,ap1,np1,cp1,sk1,ak1,lk1,ck1,rfl,hz1,by rw [(zn_same hz1.old hz2).2]; exact hl2,pn_len hP1 hP2,by omega,hk1,by rw [(zn_same hk1.old hk2).2]; exact hlk2,hnew⟩
theorem aw_old (h : Low.AW F w e f B B0) : AW w e f B B0:=by
 obtain ⟨sd,ad,ld,cd,ap,np,cp,sk,ak,lk,ck,he,h1,h2,h3,h4,h5,h6,h7⟩:=h
 exact ⟨sd,ad,ld,cd,ap,np,cp,sk,ak,lk,ck,he,h1.old,h2,h3.old,h4,h5.old,h6,h7⟩
theorem ae_old (h : Low.AE F w e f B B0) : AE w e f B B0:=by
 obtain ⟨sd,ad,ld,cd,ap,np,cp,sk,ak,lk,ck,he,h1,h2,h3,h4,h5,h6,h7⟩:=h
 exact ⟨sd,ad,ld,cd,ap,np,cp,sk,ak,lk,ck,he,h1.old,h2,h3.old,h4,h5.old,h6,h7⟩
theorem an_old {f : Atm ⊕ Int} (h : Low.AN F w e f B B0) : AN w e f B B0:=by
 cases f with
 | inl f => exact ae_old h
 | inr er => exact h
theorem nzl_std (h : Std ps) : nz (lays [] ps) = ps:=std_unique (std_lays ps) h (csum_nzl ps)
theorem gb_of {r : Nat} (k : Below w.heap.size w w') : w.grownBy w' (some r):=⟨k.os,k.tape,k.output,k.size,fun i hi _ => k.block i hi⟩
theorem aq3g {q r : Nat} {t : Bool} {b : Option Addr} {m d : Nat} (x : AB w q kd s a l c ad n cp t b m d) (hne : q ≠ r) (k : w.grownBy w' (some r)) :
  w'.cell? ⟨q,3,none⟩ = some (.slice ad n cp)∧w'.cell? ⟨q,4,none⟩ = some (.bool t)∧w'.cell? ⟨q,5,none⟩ = some (.slice b m d)∧w.grownBy w' (some r):=by
 have x':=x.neq k hne
 exact ⟨x'.c3,x'.c4,x'.c5,k⟩
theorem pr_nil (w : World) (ad : Option Addr) (B : Nat) : Pr w ad 0 [] B:=⟨rfl,.inl rfl⟩
theorem Fit.nil {a : Atm} (h : Fit a) (hk : a.kind = 0 ∨ a.kind = 1) : a.d = 0∧a.ps = []∧a.k = 0:=by
 rcases h with ⟨_,h⟩ | ⟨h,_⟩ | ⟨h,_⟩
 ·exact h
 ·omega
 ·omega

set_option maxRecDepth 100000 in
set_option maxHeartbeats 6400000 in
theorem rnegate6_n
  (hd : Zm w sd ad ld cd d) (hld : ld≤B) (hP : Pr w ap np ps B) (hk : Zm w sk ak lk ck k) (hlk : lk≤B) (hn : np≤209716) (hB : 2 * B + 6 * np + 128≤4194000) :
  Calls Tryz.prog 9 #[.agg #[.int .i64 kd,.bool sd,.slice ad ld cd,.slice ap np cp,.bool sk,.slice ak lk ck]] w fun e w' => NG w' e (formA kd d (nz (lays [] ps)) k) (8 * B + 64 * np + 1000) w.heap.size∧Below w.heap.size w w':=by
 go_enter Tryz.func9,Tryz.ntmps9
 go_wp2_with fail
 have x:=(AB.new w kd sd ad ld cd ap np cp sk ak lk ck).below (below_alloc _ (.cells #[.int .i64 0,.bool false,.slice none 0 0,.slice none 0 0,.bool false,.slice none 0 0] 29))
 have y:=AB.new (w.alloc (.cells #[.int .i64 kd,.bool sd,.slice ad ld cd,.slice ap np cp,.bool sk,.slice ak lk ck] 29)) 0 false none 0 0 none 0 0 false none 0 0
 rw [show (w.alloc (.cells #[.int .i64 kd,.bool sd,.slice ad ld cd,.slice ap np cp,.bool sk,.slice ak lk ck] 29)).heap.size = w.heap.size + 1 from by simp] at y
 have b0 : Below w.heap.size w ((w.alloc (.cells #[.int .i64 kd,.bool sd,.slice ad ld cd,.slice ap np cp,.bool sk,.slice ak lk ck] 29)).alloc (.cells #[.int .i64 0,.bool false,.slice none 0 0,.slice none 0 0,.bool false,.slice none 0 0] 29)):=below_alloc' (below_alloc _ _) _
 generalize (w.alloc (.cells #[.int .i64 kd,.bool sd,.slice ad ld cd,.slice ap np cp,.bool sk,.slice ak lk ck] 29)).alloc (.cells #[.int .i64 0,.bool false,.slice none 0 0,.slice none 0 0,.bool false,.slice none 0 0] 29) = wb at *
 replace hd:=hd.below b0
 replace hP:=hP.below b0
 replace hk:=hk.below b0
 have hpr : w.heap.size < w.heap.size + 1:=by omega
 generalize w.heap.size + 1 = r at *
 generalize hp : w.heap.size = p at *
 replace b0 : Hid (Below w.heap.size w wb):=hp ▸ b0
 replace hp:=hide hp
 have hnps:=hP.1
 refine (rnorm6_t (F:=0) (Nat.zero_le _) hd hld hP hk hlk (by omega) (by omega)).mono ?_
 rintro e w1 ⟨hA,k1⟩
 replace hA:=an_old hA
 have hrb:=y.lt
 replace y:=y.below k1
 have kk:=hide (grow_step k1 b0.out)
 clear hd hP hk k1 x
 have hwr : w.heap.size≤r:=by have:=hp.out; omega
 generalize hq : nz (lays [] ps) = qs at *
 have hS : Std qs:=hq ▸ std_lays ps
 have hc : qs.length≤np:=by have h2:=std_len (std_lays ps) (csum_nzl ps); rw [hq] at h2; omega
 replace hq:=hide hq
 cases hf : formA kd d qs k with
 | inr er =>
  rw [hf] at hA
  have her:=formA_er hf
  have he : _ = _:=hA
  subst he
  have ka:=below_alloc w1 (.cells #[.int .i64 0,.bool false,.slice none 0 0,.slice none 0 0,.bool false,.slice none 0 0] 29)
  have y2:=y.below ka
  have kf:=below_grown (grow_step ka kk.out) (ab_set (w1.alloc (.cells #[.int .i64 0,.bool false,.slice none 0 0,.slice none 0 0,.bool false,.slice none 0 0] 29)) r (.int .i64 0) (.bool false) (.slice none 0 0) (.slice none 0 0) (.bool false) (.slice none 0 0)) hwr
  have hres : Hid (∀ w' : World,NG w' (.returned (.agg #[.int .i64 0,.bool false,.slice none 0 0,.slice none 0 0,.bool false,.slice none 0 0])) (formA kd d (nz (lays [] ps)) k) (8 * B + 64 * np + 1000) w.heap.size):=fun w' => by rw [hq.out,hf]; rfl
  have HH:=hide (And.intro (ab_fin y2 0 false none 0 0 none 0 0 false none 0 0) kf)
  have e0:=y2.c0
  have e1:=y2.c1
  have e2:=y2.c2
  have e3:=y2.c3
  have e4:=y2.c4
  have e5:=y2.c5
  have f0:=y2.f 0
  have f1:=y2.f 1
  have f2:=y2.f 2
  have f3:=y2.f 3
  have f4:=y2.f 4
  have f5:=y2.f 5
  clear hf hA kk ka y2 kf y
  rcases her with rfl | rfl
  ·go_wp2
   refine bodyPost_ret (results_cell_row rfl _ _ r 29 _ (0,0) _ rfl HH.out.1 Tryz.underlying29 rfl (by kernel_rfl)) rfl ?_
   exact ⟨hres.out _,HH.out.2⟩
  ·go_wp2
   refine bodyPost_ret (results_cell_row rfl _ _ r 29 _ (0,0) _ rfl HH.out.1 Tryz.underlying29 rfl (by kernel_rfl)) rfl ?_
   exact ⟨hres.out _,HH.out.2⟩
 | inl f =>
  rw [hf] at hA
  have hfit:=formA_fit hS hf
  have hlen : f.ps.length≤np:=by have h1:=(formA_prt hS hf).1; omega
  obtain ⟨fk,fd,fps,fkk⟩:=f
  obtain ⟨sd1,ad1,ld1,cd1,ap1,np1,cp1,sk1,ak1,lk1,ck1,rfl,hz1,hlz1,hPn1,hnp1,hk1,hlk1,hnew1⟩:=hA
  dsimp only at hz1 hPn1 hk1 hlen
  have hnp2 : np1≤np:=by have:=hPn1.1; omega
  have n1:=AB.new w1 fk sd1 ad1 ld1 cd1 ap1 np1 cp1 sk1 ak1 lk1 ck1
  have ka:=below_alloc w1 (.cells #[.int .i64 fk,.bool sd1,.slice ad1 ld1 cd1,.slice ap1 np1 cp1,.bool sk1,.slice ak1 lk1 ck1] 29)
  have hqr : w1.heap.size ≠ r:=by have:=y.lt; omega
  replace y:=y.below ka
  replace hz1:=hz1.below ka
  replace hPn1:=hPn1.below ka
  replace hk1:=hk1.below ka
  replace kk:=hide (grow_step ka kk.out)
  have hres : Hid (∀ (e : Ending) (w' : World),AW w' e (negA ⟨fk,fd,fps,fkk⟩) (8 * B + 64 * np + 1000) w.heap.size→NG w' e (formA kd d (nz (lays [] ps)) k) (8 * B + 64 * np + 1000) w.heap.size):=fun e w' h => by rw [hq.out,hf]; exact h
  clear ka hnew1 hf
  have HI:=hide (And.intro n1 (And.intro y (And.intro hz1 (And.intro hPn1 (And.intro hk1 kk.out)))))
  have e0:=n1.c0
  clear n1 y hz1 hPn1 hk1 kk
  rcases hfit.kind5 with hk5 | hk5 | hk5 | hk5 | hk5
  ·dsimp only at hk5
   subst hk5
   have hneg : Hid (negA ⟨0,fd,fps,fkk⟩ = ⟨1,0,[],0⟩):=(show _ = _ by have h9:=Fit.nil hfit (by simp); dsimp only at h9; obtain ⟨rfl,rfl,rfl⟩:=h9; simp [negA])
   obtain ⟨n1,y, -, -, -,kk⟩:=HI.out
   have i0:=y.c0
   have i1:=y.c1
   have i2:=y.c2
   have i3:=y.c3
   have i4:=y.c4
   have i5:=y.c5
   have j0:=y.f 0
   have j1:=y.f 1
   have j2:=y.f 2
   have j3:=y.f 3
   have j4:=y.f 4
   have j5:=y.f 5
   have kf:=below_grown kk (ab_set _ r (.int .i64 1) (.bool false) (.slice none 0 0) (.slice none 0 0) (.bool false) (.slice none 0 0)) hwr
   have HH:=hide (And.intro (ab_fin y 1 false none 0 0 none 0 0 false none 0 0) kf)
   clear n1 y kk kf HI
   go_wp2
   refine bodyPost_ret (results_cell_row rfl _ _ r 29 _ (0,0) _ rfl HH.out.1 Tryz.underlying29 rfl (by kernel_rfl)) rfl ?_
   refine ⟨?_,HH.out.2⟩
   have h9:=fun w' => hres.out (.returned (.agg #[.int .i64 1,.bool false,.slice none 0 0,.slice none 0 0,.bool false,.slice none 0 0])) w' (by rw [hneg.out]; exact ⟨false,none,0,0,none,0,0,false,none,0,0,rfl,zn_zero _,by omega,pn_nil _ _ _,by omega,zn_zero _,by omega,fun _ _ h => by cases h⟩)
   first | exact h9 _ | simpa using h9 _
  ·dsimp only at hk5
   subst hk5
   have hneg : Hid (negA ⟨1,fd,fps,fkk⟩ = ⟨0,0,[],0⟩):=(show _ = _ by have h9:=Fit.nil hfit (by simp); dsimp only at h9; obtain ⟨rfl,rfl,rfl⟩:=h9; simp [negA])
   obtain ⟨n1,y, -, -, -,kk⟩:=HI.out
   have i0:=y.c0
   have i1:=y.c1
   have i2:=y.c2
   have i3:=y.c3
   have i4:=y.c4
   have i5:=y.c5
   have j0:=y.f 0
   have j1:=y.f 1
   have j2:=y.f 2
   have j3:=y.f 3
   have j4:=y.f 4
   have j5:=y.f 5
   have kf:=below_grown kk (ab_set _ r (.int .i64 0) (.bool false) (.slice none 0 0) (.slice none 0 0) (.bool false) (.slice none 0 0)) hwr
   have HH:=hide (And.intro (ab_fin y 0 false none 0 0 none 0 0 false none 0 0) kf)
   clear n1 y kk kf HI
   go_wp2
   refine bodyPost_ret (results_cell_row rfl _ _ r 29 _ (0,0) _ rfl HH.out.1 Tryz.underlying29 rfl (by kernel_rfl)) rfl ?_
   refine ⟨?_,HH.out.2⟩
   have h9:=fun w' => hres.out (.returned (.agg #[.int .i64 0,.bool false,.slice none 0 0,.slice none 0 0,.bool false,.slice none 0 0])) w' (by rw [hneg.out]; exact ⟨false,none,0,0,none,0,0,false,none,0,0,rfl,zn_zero _,by omega,pn_nil _ _ _,by omega,zn_zero _,by omega,fun _ _ h => by cases h⟩)
   first | exact h9 _ | simpa using h9 _
  ·dsimp only at hk5
   subst hk5
   have hneg : Hid (lessF (nz (lays [] (nz (lays [] ([] ++ scl (-1) fps))))) (1 - fkk) = negA ⟨2,fd,fps,fkk⟩):=(show _ = _ by
    rw [List.nil_append,nzl_std (std_lays _),nzl_std (std_neg hfit.std)]
    exact lessF_neg hfit rfl)
   obtain ⟨n1,y,hz1,hPn1,hk1,kk⟩:=HI.out
   clear HI
   go_wp2_with fail
   generalize w1.alloc (.cells #[.int .i64 2,.bool sd1,.slice ad1 ld1 cd1,.slice ap1 np1 cp1,.bool sk1,.slice ak1 lk1 ck1] 29) = w2 at *
   generalize w1.heap.size = q at *
   have hP2':=hPn1.pr
   have hk2':=hk1.zm
   go_region_held3 (fun w' => w'.cell? ⟨q,3,none⟩ = some (.slice ap1 np1 cp1)∧w'.cell? ⟨q,4,none⟩ = some (.bool sk1)∧w'.cell? ⟨q,5,none⟩ = some (.slice ak1 lk1 ck1)∧w2.grownBy w' (some r))
    ((refine aq3g n1 hqr ?_; first | (refine gb_of ?_; focus ((with_reducible repeat' first | exact Below.refl _ _ | assumption | refine grow_step (by assumption) ?_ | refine grow_drew ?_ | refine grow_alloc ?_ _ | refine grow_drewN ?_ _); done)) | (refine gb_trans (gb_of ?_) (ab_set _ r _ _ _ _ _ _); focus ((with_reducible repeat' first | exact Below.refl _ _ | assumption | refine grow_step (by assumption) ?_ | refine grow_drew ?_ | refine grow_alloc ?_ _ | refine grow_drewN ?_ _); done))))
    (first | (go_at_call 35; refine Calls.mono (rof_n 1 (by decide) (by decide) _) ?_; rintro e wA ⟨sA,aA,lA,cA,rfl,hzA,kA,hlA⟩) | (go_at_call 34; refine Calls.mono (rconst5_n (Zn.zm (Zn.below hzA gw)) (by omega)) ?_; rintro e wC ⟨sC,aC,lC,cC,rfl,hzC,hlC,kC⟩) | (go_at_call 33; refine Calls.mono (rsub5_n (B:=B + np + 16) (pr_nil _ none _) (Zn.zm (Zn.below hzC gw)) (by omega) (Pr.below hP2' gw) (Zm.below hk2' gw) hlk1 (by omega) (by omega) (by omega) (by omega)) ?_; rintro e wS ⟨ad3,n3,cp3,s3,a3,l3,c3,rfl,hPS,hzS,hlS,hnS,kS⟩) | (go_at_call 32; refine Calls.mono (Low.rless6_n (Fw:=0) (B:=2 * (B + np + 16) + np1 + 2 + 1 + (0 + np1) + 1) (Nat.zero_le _) (.mk (Pr.below hPS.pr gw) (Nat.zero_le _)) (.mk (Zm.below hzS.zm gw) (Nat.zero_le _)) hlS (by omega) (by omega)) ?_; rintro e wL ⟨hAL,kL⟩; replace hAL:=aw_old hAL; obtain ⟨sdL,adL,ldL,cdL,apL,npL,cpL,skL,akL,lkL,ckL,rfl,hzL,hlzL,hPnL,hnpL,hkL,hlkL,hnewL⟩:=hAL; have kW:=mid kL (show Below w2.heap.size w2 _ from gw); have y1':=AB.below y kW; have y':=y1'.below kL; have i0:=y'.c0; have i1:=y'.c1; have i2:=y'.c2; have i3:=y'.c3; have i4:=y'.c4; have i5:=y'.c5; have j0:=y'.f 0; have j1:=y'.f 1; have j2:=y'.f 2; have j3:=y'.f 3; have j4:=y'.f 4; have j5:=y'.f 5))
   all_goals
    rw [hneg.out] at hzL hPnL hkL
    rw [show lessF (nz (lays [] (nz (lays [] (scl (-1) fps))))) (1 - fkk) = negA ⟨2,fd,fps,fkk⟩ from by simpa using hneg.out]
    generalize hF : negA ⟨2,fd,fps,fkk⟩ = F at *
    have hs9:=kW.size
    have hs8:=y.lt
    have hs7:=kk.size
    obtain ⟨g7,y4,hz4,hP4,hk4⟩:=ab_put y' hzL hPnL hkL (fun b off e => by have h9:=hnewL b off e; omega) F.kind cpL
    have kf4:=below_grown (grow_step (grow_step kL kW) kk) g7 hwr
    have hbw : ∀ b off,apL = some ⟨b,off,none⟩→w.heap.size≤b:=fun b off e => by have h9:=hnewL b off e; omega
    have HH:=hide (And.intro y4 (And.intro hz4 (And.intro hP4 (And.intro hk4 (And.intro hbw kf4)))))
    clear hF hneg g7 y4 hz4 hP4 hk4 kf4 hbw hzL hPnL hkL hnewL hzS hPS hzC kS kC kL kW kk n1 y y1' y' hPn1 hk1 hz1 hP2' hk2' hzA kA
    go_wp2
    obtain ⟨y4,hz4,hP4,hk4,hbw,kf4⟩:=HH.out
    refine bodyPost_ret (results_cell_row rfl _ _ r 29 _ (0,0) _ rfl y4 Tryz.underlying29 rfl (by kernel_rfl)) rfl ?_
    refine ⟨?_,kf4⟩
    have h9:=hres.out (.returned (.agg #[.int .i64 F.kind,.bool sdL,.slice adL ldL cdL,.slice apL npL cpL,.bool skL,.slice akL lkL ckL])) _ ⟨sdL,adL,ldL,cdL,apL,npL,cpL,skL,akL,lkL,ckL,rfl,hz4,by omega,hP4.mono (by omega),by omega,hk4,by omega,hbw⟩
    first | exact h9 | simpa using h9
  ·dsimp only at hk5
   subst hk5
   have hneg:=(At.Fit.neg hfit).again
   have hfd : fd ≠ 0:=by have:=Fit.dpos hfit (by simp); dsimp only at this; omega
   rw [show negA ⟨3,fd,fps,fkk⟩ = ⟨4,fd,fps,fkk⟩ from by simp [negA]] at hneg hres
   have hdv : Hid (divF 4 fd (nz (lays [] fps)) fkk = ⟨4,fd,fps,fkk⟩):=(show _ = _ by
    rw [nzl_std hfit.std]
    unfold formA at hneg
    simpa [hfd] using hneg)
   obtain ⟨n1,y,hz1,hPn1,hk1,kk⟩:=HI.out
   clear HI hneg
   have m1:=n1.c1
   have m2:=n1.c2
   have m3:=n1.c3
   have m4:=n1.c4
   have m5:=n1.c5
   have HI:=hide (And.intro y (And.intro hz1 (And.intro hPn1 (And.intro hk1 kk))))
   clear n1 y hz1 hPn1 hk1 kk
   go_wp2_with fail
   obtain ⟨y,hz1,hPn1,hk1,kk⟩:=HI.out
   clear HI
   refine (Low.rparted_true (Fw:=0) (B:=B + np + 16) (Nat.zero_le _) (.mk hz1.zm (Nat.zero_le _)) (by omega) (.mk hPn1.pr (Nat.zero_le _)) (.mk hk1.zm (Nat.zero_le _)) (by omega) (by omega) (by omega)).mono ?_
   rintro e w3 ⟨h0 | ⟨-,hA3⟩,k3⟩
   ·exact absurd h0.1 hfd
   replace hA3:=ae_old hA3
   rw [hdv.out] at hA3
   obtain ⟨sdL,adL,ldL,cdL,apL,npL,cpL,skL,akL,lkL,ckL,rfl,hzL,hlzL,hPnL,hnpL,hkL,hlkL,hnewL⟩:=hA3
   dsimp only at hzL hPnL hkL
   have ko:=below_alloc w3 (.cells #[.int .i64 4,.bool sdL,.slice adL ldL cdL,.slice apL npL cpL,.bool skL,.slice akL lkL ckL] 29)
   have hs1:=y.lt
   have hs2:=kk.size
   replace y:=(y.below k3).below ko
   obtain ⟨g7,y4,hz4,hP4,hk4⟩:=ab_put y (hzL.below ko) (hPnL.below ko) (hkL.below ko) (fun b off e => by have h9:=hnewL b off e; omega) 4 cpL
   have kf4:=below_grown (grow_step ko (grow_step k3 kk)) g7 hwr
   have hbw : ∀ b off,apL = some ⟨b,off,none⟩→w.heap.size≤b:=fun b off e => by have h9:=hnewL b off e; omega
   have i0:=y.c0
   have i1:=y.c1
   have i2:=y.c2
   have i3:=y.c3
   have i4:=y.c4
   have i5:=y.c5
   have j0:=y.f 0
   have j1:=y.f 1
   have j2:=y.f 2
   have j3:=y.f 3
   have j4:=y.f 4
   have j5:=y.f 5
   have HH:=hide (And.intro y4 (And.intro hz4 (And.intro hP4 (And.intro hk4 (And.intro hbw kf4)))))
   clear g7 y4 hz4 hP4 hk4 kf4 hbw hzL hPnL hkL hnewL ko k3 kk y hz1 hPn1 hk1 hs1 hs2 m1 m2 m3 m4 m5 hdv
   go_wp2
   obtain ⟨y4,hz4,hP4,hk4,hbw,kf4⟩:=HH.out
   refine bodyPost_ret (results_cell_row rfl _ _ r 29 _ (0,0) _ rfl y4 Tryz.underlying29 rfl (by kernel_rfl)) rfl ?_
   refine ⟨?_,kf4⟩
   have h9:=hres.out (.returned (.agg #[.int .i64 4,.bool sdL,.slice adL ldL cdL,.slice apL npL cpL,.bool skL,.slice akL lkL ckL])) _ ⟨sdL,adL,ldL,cdL,apL,npL,cpL,skL,akL,lkL,ckL,rfl,hz4,by omega,hP4.mono (by omega),by omega,hk4,by omega,hbw⟩
   first | exact h9 | simpa using h9
  ·dsimp only at hk5
   subst hk5
   have hneg:=(At.Fit.neg hfit).again
   have hfd : fd ≠ 0:=by have:=Fit.dpos hfit (by simp); dsimp only at this; omega
   rw [show negA ⟨4,fd,fps,fkk⟩ = ⟨3,fd,fps,fkk⟩ from by simp [negA]] at hneg hres
   have hdv : Hid (divF 3 fd (nz (lays [] fps)) fkk = ⟨3,fd,fps,fkk⟩):=(show _ = _ by
    rw [nzl_std hfit.std]
    unfold formA at hneg
    simpa [hfd] using hneg)
   obtain ⟨n1,y,hz1,hPn1,hk1,kk⟩:=HI.out
   clear HI hneg
   have m1:=n1.c1
   have m2:=n1.c2
   have m3:=n1.c3
   have m4:=n1.c4
   have m5:=n1.c5
   have HI:=hide (And.intro y (And.intro hz1 (And.intro hPn1 (And.intro hk1 kk))))
   clear n1 y hz1 hPn1 hk1 kk
   go_wp2_with fail
   obtain ⟨y,hz1,hPn1,hk1,kk⟩:=HI.out
   clear HI
   refine (Low.rparted_false (Fw:=0) (B:=B + np + 16) (Nat.zero_le _) (.mk hz1.zm (Nat.zero_le _)) (by omega) (.mk hPn1.pr (Nat.zero_le _)) (.mk hk1.zm (Nat.zero_le _)) (by omega) (by omega) (by omega)).mono ?_
   rintro e w3 ⟨h0 | ⟨-,hA3⟩,k3⟩
   ·exact absurd h0.1 hfd
   replace hA3:=ae_old hA3
   rw [hdv.out] at hA3
   obtain ⟨sdL,adL,ldL,cdL,apL,npL,cpL,skL,akL,lkL,ckL,rfl,hzL,hlzL,hPnL,hnpL,hkL,hlkL,hnewL⟩:=hA3
   dsimp only at hzL hPnL hkL
   have ko:=below_alloc w3 (.cells #[.int .i64 3,.bool sdL,.slice adL ldL cdL,.slice apL npL cpL,.bool skL,.slice akL lkL ckL] 29)
   have hs1:=y.lt
   have hs2:=kk.size
   replace y:=(y.below k3).below ko
   obtain ⟨g7,y4,hz4,hP4,hk4⟩:=ab_put y (hzL.below ko) (hPnL.below ko) (hkL.below ko) (fun b off e => by have h9:=hnewL b off e; omega) 3 cpL
   have kf4:=below_grown (grow_step ko (grow_step k3 kk)) g7 hwr
   have hbw : ∀ b off,apL = some ⟨b,off,none⟩→w.heap.size≤b:=fun b off e => by have h9:=hnewL b off e; omega
   have i0:=y.c0
   have i1:=y.c1
   have i2:=y.c2
   have i3:=y.c3
   have i4:=y.c4
   have i5:=y.c5
   have j0:=y.f 0
   have j1:=y.f 1
   have j2:=y.f 2
   have j3:=y.f 3
   have j4:=y.f 4
   have j5:=y.f 5
   have HH:=hide (And.intro y4 (And.intro hz4 (And.intro hP4 (And.intro hk4 (And.intro hbw kf4)))))
   clear g7 y4 hz4 hP4 hk4 kf4 hbw hzL hPnL hkL hnewL ko k3 kk y hz1 hPn1 hk1 hs1 hs2 m1 m2 m3 m4 m5 hdv
   go_wp2
   obtain ⟨y4,hz4,hP4,hk4,hbw,kf4⟩:=HH.out
   refine bodyPost_ret (results_cell_row rfl _ _ r 29 _ (0,0) _ rfl y4 Tryz.underlying29 rfl (by kernel_rfl)) rfl ?_
   refine ⟨?_,kf4⟩
   have h9:=hres.out (.returned (.agg #[.int .i64 3,.bool sdL,.slice adL ldL cdL,.slice apL npL cpL,.bool skL,.slice akL lkL ckL])) _ ⟨sdL,adL,ldL,cdL,apL,npL,cpL,skL,akL,lkL,ckL,rfl,hz4,by omega,hP4.mono (by omega),by omega,hk4,by omega,hbw⟩
   first | exact h9 | simpa using h9

set_option maxRecDepth 100000 in
set_option maxHeartbeats 6400000 in
theorem rput5_n (hP : Pr w ad n ps B) (hz : Zm w s a l c k) (hl : l≤B) (hP2 : Pr w ad2 n2 qs B) (hz2 : Zm w s2 a2 l2 c2 k2) (hl2 : l2≤B) (h2 : 2≤B) (hn : n≤1048576) (hn2 : n2≤1048576) (hB : B≤4194304) :
  Calls Tryz.prog 37 #[.agg #[.slice ad n cp,.bool s,.slice a l c],.int .i64 v,.agg #[.slice ad2 n2 cp2,.bool s2,.slice a2 l2 c2]] w fun e w' => ∃ ad' n' cp' s' a' l' c',e = .returned (.agg #[.slice ad' n' cp',.bool s',.slice a' l' c'])∧Pn w' ad' n' (nz (lays [] (wo v ps ++ scl (csum ps v) qs))) (2 * (B + n) + n2 + 2 + n + 1 + 1 + (n + n2) + 1)∧Zn w' s' a' l' c' (k + csum ps v * k2)∧l'≤2 * (B + n) + n2 + 2 + n + 1 + 1 + (n + n2) + 1∧n'≤n + n2∧Below w.heap.size w w'∧(∀ b off,ad' = some ⟨b,off,none⟩→w.heap.size≤b):=by
 go_enter Tryz.func37,Tryz.ntmps37
 go_wp2_with fail
 have x:=((tb_new w ad n cp s a l c).below (below_alloc _ (.cells #[.slice ad2 n2 cp2,.bool s2,.slice a2 l2 c2] 27))).below (below_alloc _ (.cells #[.slice none 0 0,.bool false,.slice none 0 0] 27))
 have x2:=(tb_new (w.alloc (.cells #[.slice ad n cp,.bool s,.slice a l c] 27)) ad2 n2 cp2 s2 a2 l2 c2).below (below_alloc _ (.cells #[.slice none 0 0,.bool false,.slice none 0 0] 27))
 have y:=tb_new ((w.alloc (.cells #[.slice ad n cp,.bool s,.slice a l c] 27)).alloc (.cells #[.slice ad2 n2 cp2,.bool s2,.slice a2 l2 c2] 27)) none 0 0 false none 0 0
 have b0 : Below w.heap.size w (((w.alloc (.cells #[.slice ad n cp,.bool s,.slice a l c] 27)).alloc (.cells #[.slice ad2 n2 cp2,.bool s2,.slice a2 l2 c2] 27)).alloc (.cells #[.slice none 0 0,.bool false,.slice none 0 0] 27)):=below_alloc' (below_alloc' (below_alloc _ _) _) _
 rw [show (w.alloc (.cells #[.slice ad n cp,.bool s,.slice a l c] 27)).heap.size = w.heap.size + 1 from by simp] at x2
 rw [show ((w.alloc (.cells #[.slice ad n cp,.bool s,.slice a l c] 27)).alloc (.cells #[.slice ad2 n2 cp2,.bool s2,.slice a2 l2 c2] 27)).heap.size = w.heap.size + 1 + 1 from by simp] at y
 generalize ((w.alloc (.cells #[.slice ad n cp,.bool s,.slice a l c] 27)).alloc (.cells #[.slice ad2 n2 cp2,.bool s2,.slice a2 l2 c2] 27)).alloc (.cells #[.slice none 0 0,.bool false,.slice none 0 0] 27) = wb at *
 have hpr : w.heap.size < w.heap.size + 1 + 1:=by omega
 have hpr2 : w.heap.size + 1 < w.heap.size + 1 + 1:=by omega
 replace hP:=hP.below b0
 replace hz:=hz.below b0
 replace hP2:=hP2.below b0
 replace hz2:=hz2.below b0
 generalize hp : w.heap.size = p at *
 replace hp:=hide hp
 generalize p + 1 = p2 at *
 generalize p2 + 1 = r at *
 have hrb:=Nat.le_of_lt y.lt
 go_region_held3 (fun w' => w'.cell? ⟨p,0,none⟩ = some (.slice ad n cp)∧w'.cell? ⟨p,1,none⟩ = some (.bool s)∧w'.cell? ⟨p,2,none⟩ = some (.slice a l c)∧w'.cell? ⟨p2,0,none⟩ = some (.slice ad2 n2 cp2)∧w'.cell? ⟨p2,1,none⟩ = some (.bool s2)∧w'.cell? ⟨p2,2,none⟩ = some (.slice a2 l2 c2)∧Below r wb w')
  ((refine tk6 x x2 hpr hpr2 ?_; first | (refine Below.mono ?_ hrb; focus ((with_reducible repeat' first | exact Below.refl _ _ | assumption | refine grow_step (by assumption) ?_ | refine grow_drew ?_ | refine grow_alloc ?_ _ | refine grow_drewN ?_ _); done)) | (refine (((Below.mono ?_ hrb).setCell (Nat.le_refl _) _).setCell (Nat.le_refl _) _).setCell (Nat.le_refl _) _; focus ((with_reducible repeat' first | exact Below.refl _ _ | assumption | refine grow_step (by assumption) ?_ | refine grow_drew ?_ | refine grow_alloc ?_ _ | refine grow_drewN ?_ _); done))))
  (first | (go_at_call 86; refine Calls.mono (rcoef5_n (Pr.below hP gw) (by omega)) ?_; rintro e wA ⟨sA,aA,lA,cA,rfl,hzA,hlA,kA⟩) | (go_at_call 81; refine Calls.mono (rscale5_g (B:=B + n) (Zm.below hzA.zm gw) (by omega) (Pr.mono (Pr.below hP2 gw) (by omega)) (Zm.below hz2 gw) (by omega) (by omega) (by omega)) ?_; rintro e wS ⟨ad3,n3,cp3,s3,a3,l3,c3,rfl,hPS,hzS,hlS,hnS, -,kS⟩) | (go_at_call 85; refine Calls.mono (rwithout5_n (Pr.below hP gw) (Zm.below hz gw) hl (by omega)) ?_; rintro e wO ⟨ad4,n4,cp4,s4,a4,l4,c4,rfl,hPO,hzO,hlO,hnO,kO⟩) | (go_at_call 80; refine Calls.mono (radd5_n (B:=2 * (B + n) + n2 + 2 + n + 1) (Pr.mono (Pr.below hPO.pr gw) (by omega)) (Zm.below hzO.zm gw) (by omega) (Pr.mono (Pr.below hPS.pr gw) (by omega)) (Zm.below hzS.zm gw) (by omega) (by omega)) ?_; rintro e w2 ⟨ad',n',cp',s',a',l',c',rfl,hT,hzR,hlR,hn',hkR,hnR⟩; have kR:=hkR; have kW:=mid kR (show Below wb.heap.size wb _ from gw); have y1':=TB.below y kW; have y':=y1'.below kR; have y0:=y'.c0; have y1:=y'.c1; have y2:=y'.c2; have y3:=y'.f 0; have y4:=y'.f 1; have y5:=y'.f 2))
 all_goals
  clear hP hP2 hz hz2
  have g:=tb_set w2 r (.slice ad' n' cp') (.bool s') (.slice a' l' c')
  have hbW : Below w.heap.size w _:=grow_step kW (hp.out.symm ▸ b0)
  have hbw : Below w.heap.size w w2:=grow_step kR hbW
  have hnw:=hide (fun (b off : Nat) (e : ad' = some ⟨b,off,none⟩) => Nat.le_trans hbW.size (hnR b off e))
  clear hbW hnR
  have HH:=hide (And.intro (hT.tb y' g) (And.intro (hzR.grownU g (tb_noU y')) (And.intro (below_grown hbw g (by have:=hp.out; omega)) (tb_fin y' ad' n' cp' s' a' l' c'))))
  clear g hbw kR kW hT hzR
  go_wp2
  obtain ⟨hPf,hzf,kf,yf⟩:=HH.out
  refine bodyPost_ret (results_cell_row rfl _ _ r 27 _ (0,0) _ rfl yf Tryz.underlying27 rfl (by kernel_rfl)) rfl ?_
  rw [lays_congr (qs:=wo v ps ++ scl (csum ps v) qs) (fun u => by rw [csum_append,csum_append,csum_nzl,csum_nzl]; rfl)] at hPf
  exact ⟨ad',n',cp',s',a',l',c',by simp,hPf.mono (by omega),hzf,by omega,by omega,kf,hnw.out⟩

set_option maxRecDepth 100000 in
set_option maxHeartbeats 6400000 in
theorem rput6_n {apu : Option Addr} {nu cpu : Nat} {su : Bool} {au : Option Addr} {lu cu : Nat} {us : List (Int × Int)} {uk : Int}
  (hd : Zm w sd ad ld cd d) (hld : ld≤B) (hP : Pr w ap np ps B) (hk : Zm w sk ak lk ck k) (hlk : lk≤B) (hPu : Pr w apu nu us B) (hku : Zm w su au lu cu uk) (hlu : lu≤B) (hn : np + nu≤209716) (hB : 2 * B + 8 * (np + nu) + 128≤4194000) :
  Calls Tryz.prog 10 #[.agg #[.int .i64 kd,.bool sd,.slice ad ld cd,.slice ap np cp,.bool sk,.slice ak lk ck],.int .i64 v,.agg #[.slice apu nu cpu,.bool su,.slice au lu cu]] w fun e w' => PT w' e (formA kd d (nz (lays [] ps)) k) v us uk (16 * B + 128 * (np + nu) + 4000) w.heap.size∧Below w.heap.size w w':=by
 go_enter Tryz.func10,Tryz.ntmps10
 go_wp2_with fail
 have t:=(tb_new (w.alloc (.cells #[.int .i64 kd,.bool sd,.slice ad ld cd,.slice ap np cp,.bool sk,.slice ak lk ck] 29)) apu nu cpu su au lu cu).below (below_alloc _ (.cells #[.int .i64 0,.bool false,.slice none 0 0,.slice none 0 0,.bool false,.slice none 0 0] 29))
 have y:=AB.new ((w.alloc (.cells #[.int .i64 kd,.bool sd,.slice ad ld cd,.slice ap np cp,.bool sk,.slice ak lk ck] 29)).alloc (.cells #[.slice apu nu cpu,.bool su,.slice au lu cu] 27)) 0 false none 0 0 none 0 0 false none 0 0
 rw [show (w.alloc (.cells #[.int .i64 kd,.bool sd,.slice ad ld cd,.slice ap np cp,.bool sk,.slice ak lk ck] 29)).heap.size = w.heap.size + 1 from by simp] at t
 rw [show ((w.alloc (.cells #[.int .i64 kd,.bool sd,.slice ad ld cd,.slice ap np cp,.bool sk,.slice ak lk ck] 29)).alloc (.cells #[.slice apu nu cpu,.bool su,.slice au lu cu] 27)).heap.size = w.heap.size + 1 + 1 from by simp] at y
 have b0 : Below w.heap.size w (((w.alloc (.cells #[.int .i64 kd,.bool sd,.slice ad ld cd,.slice ap np cp,.bool sk,.slice ak lk ck] 29)).alloc (.cells #[.slice apu nu cpu,.bool su,.slice au lu cu] 27)).alloc (.cells #[.int .i64 0,.bool false,.slice none 0 0,.slice none 0 0,.bool false,.slice none 0 0] 29)):=below_alloc' (below_alloc' (below_alloc _ _) _) _
 generalize ((w.alloc (.cells #[.int .i64 kd,.bool sd,.slice ad ld cd,.slice ap np cp,.bool sk,.slice ak lk ck] 29)).alloc (.cells #[.slice apu nu cpu,.bool su,.slice au lu cu] 27)).alloc (.cells #[.int .i64 0,.bool false,.slice none 0 0,.slice none 0 0,.bool false,.slice none 0 0] 29) = wb at *
 replace hd:=hd.below b0
 replace hP:=hP.below b0
 replace hk:=hk.below b0
 replace hPu:=hPu.below b0
 replace hku:=hku.below b0
 have hpr : w.heap.size < w.heap.size + 1∧w.heap.size + 1 < w.heap.size + 1 + 1:=by omega
 generalize w.heap.size + 1 + 1 = r at *
 generalize w.heap.size + 1 = pt at *
 generalize hp : w.heap.size = p at *
 replace b0 : Hid (Below w.heap.size w wb):=hp ▸ b0
 replace hp:=hide hp
 have hnps:=hP.1
 refine (rnorm6_t (F:=0) (Nat.zero_le _) hd hld hP hk hlk (by omega) (by omega)).mono ?_
 rintro e w1 ⟨hA,k1⟩
 replace hA:=an_old hA
 replace y:=y.below k1
 replace t:=t.below k1
 replace hPu:=hPu.below k1
 replace hku:=hku.below k1
 have kk:=hide (grow_step k1 b0.out)
 clear hd hP hk k1
 have hwr : w.heap.size≤r:=by have:=hp.out; omega
 generalize hq : nz (lays [] ps) = qs at *
 have hS : Std qs:=hq ▸ std_lays ps
 have hc : qs.length≤np:=by have h2:=std_len (std_lays ps) (csum_nzl ps); rw [hq] at h2; omega
 replace hq:=hide hq
 cases hf : formA kd d qs k with
 | inr er =>
  rw [hf] at hA
  have her:=formA_er hf
  have he : _ = _:=hA
  subst he
  have ka:=below_alloc w1 (.cells #[.int .i64 0,.bool false,.slice none 0 0,.slice none 0 0,.bool false,.slice none 0 0] 29)
  have y2:=y.below ka
  have kf:=below_grown (grow_step ka kk.out) (ab_set (w1.alloc (.cells #[.int .i64 0,.bool false,.slice none 0 0,.slice none 0 0,.bool false,.slice none 0 0] 29)) r (.int .i64 0) (.bool false) (.slice none 0 0) (.slice none 0 0) (.bool false) (.slice none 0 0)) hwr
  have hres : Hid (∀ w' : World,PT w' (.returned (.agg #[.int .i64 0,.bool false,.slice none 0 0,.slice none 0 0,.bool false,.slice none 0 0])) (formA kd d (nz (lays [] ps)) k) v us uk (16 * B + 128 * (np + nu) + 4000) w.heap.size):=fun w' => by rw [hq.out,hf]; rfl
  have HH:=hide (And.intro (ab_fin y2 0 false none 0 0 none 0 0 false none 0 0) kf)
  have i0:=y2.c0
  have i1:=y2.c1
  have i2:=y2.c2
  have i3:=y2.c3
  have i4:=y2.c4
  have i5:=y2.c5
  have j0:=y2.f 0
  have j1:=y2.f 1
  have j2:=y2.f 2
  have j3:=y2.f 3
  have j4:=y2.f 4
  have j5:=y2.f 5
  clear hf hA kk ka y2 kf y t hPu hku
  rcases her with rfl | rfl
  ·go_wp2
   refine bodyPost_ret (results_cell_row rfl _ _ r 29 _ (0,0) _ rfl HH.out.1 Tryz.underlying29 rfl (by kernel_rfl)) rfl ?_
   exact ⟨hres.out _,HH.out.2⟩
  ·go_wp2
   refine bodyPost_ret (results_cell_row rfl _ _ r 29 _ (0,0) _ rfl HH.out.1 Tryz.underlying29 rfl (by kernel_rfl)) rfl ?_
   exact ⟨hres.out _,HH.out.2⟩
 | inl f =>
  rw [hf] at hA
  have hfit:=formA_fit hS hf
  have hlen : f.ps.length≤np:=by have h1:=(formA_prt hS hf).1; omega
  have hform:=fun qs k => hfit.form qs k
  obtain ⟨fk,fd,fps,fkk⟩:=f
  obtain ⟨sd1,ad1,ld1,cd1,ap1,np1,cp1,sk1,ak1,lk1,ck1,rfl,hz1,hlz1,hPn1,hnp1,hk1,hlk1,hnew1⟩:=hA
  dsimp only at hz1 hPn1 hk1 hlen hform
  have hnp2 : np1≤np:=by have:=hPn1.1; omega
  have n1:=AB.new w1 fk sd1 ad1 ld1 cd1 ap1 np1 cp1 sk1 ak1 lk1 ck1
  have ka:=below_alloc w1 (.cells #[.int .i64 fk,.bool sd1,.slice ad1 ld1 cd1,.slice ap1 np1 cp1,.bool sk1,.slice ak1 lk1 ck1] 29)
  have hqr : r < w1.heap.size:=y.lt
  have hqt : pt < w1.heap.size:=t.lt
  replace y:=y.below ka
  replace t:=t.below ka
  replace hz1:=hz1.below ka
  replace hPn1:=hPn1.below ka
  replace hk1:=hk1.below ka
  replace hPu:=hPu.below ka
  replace hku:=hku.below ka
  replace kk:=hide (grow_step ka kk.out)
  have hres : Hid (∀ (e : Ending) (w' : World) rs f',Std rs→(∀ u,csum rs u = csum (wo v fps ++ scl (csum fps v) us) u)→formA fk fd rs (fkk + csum fps v * uk) = .inl f'→AW w' e f' (16 * B + 128 * (np + nu) + 4000) w.heap.size→PT w' e (formA kd d (nz (lays [] ps)) k) v us uk (16 * B + 128 * (np + nu) + 4000) w.heap.size):=fun e w' rs f' h1 h2 h3 h4 => by rw [hq.out,hf]; exact ⟨rs,f',h1,h2,h3,h4⟩
  replace hform:=hide hform
  have m3:=n1.c3
  have m4:=n1.c4
  have m5:=n1.c5
  have u0:=t.c0
  have u1:=t.c1
  have u2:=t.c2
  have HI:=hide (And.intro n1 (And.intro y (And.intro hz1 (And.intro hPn1 (And.intro hk1 (And.intro hPu (And.intro hku kk.out)))))))
  clear ka hnew1 hf n1 y hz1 hPn1 hk1 kk t hPu hku
  go_wp2_with fail
  obtain ⟨n1,y,hz1,hPn1,hk1,hPu,hku,kk⟩:=HI.out
  clear HI m3 m4 m5 u0 u1 u2
  generalize w1.alloc (.cells #[.int .i64 fk,.bool sd1,.slice ad1 ld1 cd1,.slice ap1 np1 cp1,.bool sk1,.slice ak1 lk1 ck1] 29) = w2 at *
  generalize w1.heap.size = q at *
  refine (rput5_n (B:=B + np + 16) hPn1.pr hk1.zm hlk1 (hPu.mono (by omega)) hku (by omega) (by omega) (by omega) (by omega) (by omega)).mono ?_
  rintro e w3 ⟨ad3,n3,cp3,s3,a3,l3,c3,rfl,hP3,hz3,hl3,hn3,k3,hnw3⟩
  have hq2:=n1.lt
  have n3b:=n1.below k3
  have y3:=y.below k3
  obtain ⟨g3,n4⟩:=tb3_put n3b ad3 n3 cp3 s3 a3 l3 c3
  have hU:=ab_noU n3b
  have hz4:=(hz1.below k3).grownU g3 hU
  have hP4:=hP3.away (fun b off e => by have h9:=hnw3 b off e; omega) g3 hU
  have hk4:=hz3.grownU g3 hU
  have y4:=y3.neq g3 (by omega)
  have hwq : w.heap.size≤q:=by omega
  have kf4:=below_grown (grow_step k3 kk) g3 hwq
  have m0:=n3b.c0
  have m1:=n3b.c1
  have m2:=n3b.c2
  have m3:=n3b.c3
  have m4:=n3b.c4
  have m5:=n3b.c5
  have v3:=n3b.f 3
  have v4:=n3b.f 4
  have v5:=n3b.f 5
  have HI:=hide (And.intro n4 (And.intro y4 (And.intro hz4 (And.intro hP4 (And.intro hk4 kf4)))))
  clear n1 y hz1 hPn1 hk1 hPu hku kk k3 hnw3 n3b y3 g3 n4 hU hz4 hP4 hk4 y4 kf4 hP3 hz3
  go_wp2_with fail
  obtain ⟨n4,y4,hz4,hP4,hk4,kf4⟩:=HI.out
  clear HI m0 m1 m2 m3 m4 m5 v3 v4 v5
  generalize ((w3.setCell ⟨q,3,none⟩ (.slice ad3 n3 cp3)).setCell ⟨q,4,none⟩ (.bool s3)).setCell ⟨q,5,none⟩ (.slice a3 l3 c3) = w4 at *
  refine (Low.rnorm6_n (Fw:=0) (B:=2 * (B + np + 16 + np1) + nu + 2 + np1 + 1 + 1 + (np1 + nu) + 1) (Nat.zero_le _) (.mk hz4.zm (Nat.zero_le _)) (by omega) (.mk hP4.pr (Nat.zero_le _)) (.mk hk4.zm (Nat.zero_le _)) hl3 (by omega) (by omega)).mono ?_
  rintro e w5 ⟨hA5,k5⟩
  replace hA5:=an_old hA5
  obtain ⟨f',hf'⟩:=hform.out (nz (lays [] (nz (lays [] (wo v fps ++ scl (csum fps v) us))))) (fkk + csum fps v * uk)
  rw [hf'] at hA5
  have hdone:=hide (fun e w' => hres.out e w' _ f' (std_lays _) (fun u => by rw [csum_nzl,csum_nzl]) hf')
  obtain ⟨sdL,adL,ldL,cdL,apL,npL,cpL,skL,akL,lkL,ckL,rfl,hzL,hlzL,hPnL,hnpL,hkL,hlkL,hnewL⟩:=hA5
  have ko:=below_alloc w5 (.cells #[.int .i64 f'.kind,.bool sdL,.slice adL ldL cdL,.slice apL npL cpL,.bool skL,.slice akL lkL ckL] 29)
  have hs1:=y4.lt
  have hs2:=kf4.size
  have y:=(y4.below k5).below ko
  obtain ⟨g7,y7,hz7,hP7,hk7⟩:=ab_put y (hzL.below ko) (hPnL.below ko) (hkL.below ko) (fun b off e => by have h9:=hnewL b off e; omega) f'.kind cpL
  have kf7:=below_grown (grow_step ko (grow_step k5 kf4)) g7 hwr
  have hbw : ∀ b off,apL = some ⟨b,off,none⟩→w.heap.size≤b:=fun b off e => by have h9:=hnewL b off e; omega
  have hbd : ldL≤16 * B + 128 * (np + nu) + 4000∧npL≤16 * B + 128 * (np + nu) + 4000∧lkL≤16 * B + 128 * (np + nu) + 4000∧8 * (2 * (B + np + 16 + np1) + nu + 2 + np1 + 1 + 1 + (np1 + nu) + 1) + 16 * n3 + 100≤16 * B + 128 * (np + nu) + 4000:=by omega
  have i0:=y.c0
  have i1:=y.c1
  have i2:=y.c2
  have i3:=y.c3
  have i4:=y.c4
  have i5:=y.c5
  have j0:=y.f 0
  have j1:=y.f 1
  have j2:=y.f 2
  have j3:=y.f 3
  have j4:=y.f 4
  have j5:=y.f 5
  have HH:=hide (And.intro y7 (And.intro hz7 (And.intro hP7 (And.intro hk7 (And.intro hbw (And.intro kf7 hbd))))))
  clear g7 y7 hz7 hP7 hk7 kf7 hbw hbd hzL hPnL hkL hnewL ko k5 kf4 y y4 n4 hz4 hP4 hk4 hs1 hs2 hres hform hf' hld hlk hlu hn hB hlz1 hnp1 hlk1 hnp2 hlen hn3 hl3 hlzL hnpL hlkL hnps hpr hp b0 hqr hqt hq2 hwq
  go_wp2
  obtain ⟨y4,hz4,hP4,hk4,hbw,kf4,hb1,hb2,hb3,hb4⟩:=HH.out
  refine bodyPost_ret (results_cell_row rfl _ _ r 29 _ (0,0) _ rfl y4 Tryz.underlying29 rfl (by kernel_rfl)) rfl ?_
  refine ⟨?_,kf4⟩
  have h9:=hdone.out (.returned (.agg #[.int .i64 f'.kind,.bool sdL,.slice adL ldL cdL,.slice apL npL cpL,.bool skL,.slice akL lkL ckL])) _ ⟨sdL,adL,ldL,cdL,apL,npL,cpL,skL,akL,lkL,ckL,rfl,hz4,hb1,hP4.mono hb4,hb2,hk4,hb3,hbw⟩
  first | exact h9 | simpa using h9
end Go.Proofs.YtepdckgfolkjjaaGreatDoor.Rf
