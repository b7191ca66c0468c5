/-
 The reference once more: each answer's numbers lie in new memory (layer 6: Scale,modulo).
-/
import Derived.Test.YtepdckgfolkjjaaGreatDoorS20
import Derived.Test.YtepdckgfolkjjaaGreatDoorS23
namespace Go.Proofs.YtepdckgfolkjjaaGreatDoor.Low
open Go.RowKit Go.Sort Go.Shelf
open Tm At
open Lw (Lo)

variable {Fw l0 c0 n B cp l c : Nat} {w : World} {s0 s : Bool} {a0 ad a : Option Addr} {ps : List (Int × Int)} {k : Int}
theorem Pn.tb {w' : World} {p : Nat} {ad0 : Option Addr} {n0 cp0 : Nat} (h : Pn Fw w ad n ps B) (y : TB w p ad0 n0 cp0 s0 a0 l0 c0) (hg : w.grownBy w' (some p)) : Pn Fw w' ad n ps B:=by
 refine ⟨h.1,?_⟩
 rcases h.2 with h2 | ⟨b,off,e,hb,h2⟩
 ·exact .inl h2
 ·by_cases h0 : ps.length = 0
  ·exact .inl (h.1.symm.trans h0)
  ·refine .inr ⟨b,off,e,Nat.lt_of_lt_of_le hb hg.size,fun i hi => ?_⟩
   obtain ⟨s,a,l,c,e0,e1,e2,hz,hl⟩:=h2 i hi
   have hne : b ≠ p:=by
    intro e
    subst e
    rw [cell_of_row w b _ _ _ (0,0) y] at e0
    match hk : off + i * 3,e0 with
    | 0,e0 => simp at e0
    | 1,e0 => simp at e0
    | 2,e0 => simp at e0
    | k + 3,e0 => simp at e0
   have eb : w'.heap[b]? = w.heap[b]?:=hg.block b hb (by simpa using hne)
   exact ⟨s,a,l,c,(World.cell?_of_block (a:=⟨b,off + i * 3,none⟩) eb).trans e0,(World.cell?_of_block (a:=⟨b,off + i * 3 + 1,none⟩) eb).trans e1,(World.cell?_of_block (a:=⟨b,off + i * 3 + 2,none⟩) eb).trans e2,hz.grownU hg (tb_noU y),hl⟩
set_option maxRecDepth 100000 in
set_option maxHeartbeats 6400000 in
theorem rscale5_g {k0 : Int} (hk : Zm Fw w s0 a0 l0 c0 k0) (hk0 : l0≤B) (hP : Pr Fw w ad n ps B) (hz : Zm Fw w s a l c k) (hl : l≤B) (hn : n≤4194304) (hB : B≤67108864) :
  Calls Tryz.prog 81 #[.agg #[.bool s0,.slice a0 l0 c0],.agg #[.slice ad n cp,.bool s,.slice a l c]] w fun e w' => ∃ ad' n' cp' s' a' l' c',e = .returned (.agg #[.slice ad' n' cp',.bool s',.slice a' l' c'])∧Pn Fw w' ad' n' (nz (lays [] (mapP (fun x => k0 * x) ps))) (2 * B + n + 2)∧Zn Fw w' s' a' l' c' (k0 * k)∧l'≤2 * B + n + 2∧n'≤n∧(∀ b off,ad' = some ⟨b,off,none⟩→w.heap.size≤b)∧Below w.heap.size w w':=by
 go_enter Tryz.func81,Tryz.ntmps81
 go_wp2_with fail
 have z:=((zb_new w s0 a0 l0 c0).below (below_alloc _ (.cells #[.slice ad n cp,.bool s,.slice a l c] 27))).below (below_alloc _ (.cells #[.slice none 0 0,.bool false,.slice none 0 0] 27))
 have x:=(tb_new (w.alloc (.cells #[.bool s0,.slice a0 l0 c0] 24)) ad n cp s a l c).below (below_alloc _ (.cells #[.slice none 0 0,.bool false,.slice none 0 0] 27))
 have y:=tb_new ((w.alloc (.cells #[.bool s0,.slice a0 l0 c0] 24)).alloc (.cells #[.slice ad n cp,.bool s,.slice a l c] 27)) none 0 0 false none 0 0
 have b0 : Below w.heap.size w (((w.alloc (.cells #[.bool s0,.slice a0 l0 c0] 24)).alloc (.cells #[.slice ad n cp,.bool s,.slice a l c] 27)).alloc (.cells #[.slice none 0 0,.bool false,.slice none 0 0] 27)):=below_alloc' (below_alloc' (below_alloc _ _) _) _
 rw [show (w.alloc (.cells #[.bool s0,.slice a0 l0 c0] 24)).heap.size = w.heap.size + 1 from by simp] at x
 rw [show ((w.alloc (.cells #[.bool s0,.slice a0 l0 c0] 24)).alloc (.cells #[.slice ad n cp,.bool s,.slice a l c] 27)).heap.size = w.heap.size + 1 + 1 from by simp] at y
 generalize ((w.alloc (.cells #[.bool s0,.slice a0 l0 c0] 24)).alloc (.cells #[.slice ad n cp,.bool s,.slice a l c] 27)).alloc (.cells #[.slice none 0 0,.bool false,.slice none 0 0] 27) = wb at *
 have hwr : w.heap.size≤w.heap.size + 1 + 1:=by omega
 replace hP:=hP.below b0
 replace hz:=hz.below b0
 replace hk:=hk.below b0
 generalize w.heap.size + 1 + 1 = r at *
 generalize w.heap.size + 1 = q at *
 have hwr' : Hid (w.heap.size≤r):=hwr
 clear hwr
 generalize hp : w.heap.size = p at *
 replace b0 : Hid (Below w.heap.size w wb):=hp ▸ b0
 replace hwr' : Hid (w.heap.size≤r):=(show w.heap.size≤r by rw [hp]; exact hwr'.out)
 clear hp
 go_loopw [5,6] (fun v i wr => ∃ (t : Nat) (ad' : Option Addr) (cap' : Nat) (L' : List Raw),t≤n∧i = .int .i64 t∧v = .slice ad' t cap'∧Hid (RS wb.heap.size wr (.slice ad' t cap') t cap' L')∧Hid (Rok Fw wr (2 * B + 1) L')∧Hid ((L'.take t).map Raw.p = mapP (fun x => k0 * x) (ps.take t))∧Hid (Below wb.heap.size wb wr)) (fun _ i _ => n - (intOf i).toNat)
 case atStart => exact ⟨0,none,0,[],Nat.zero_le _,rfl,rfl,.inl ⟨rfl,rfl,rfl,rfl⟩,(fun x hx => absurd hx (by simp)),(show _ = _ from rfl),Below.refl _ _⟩
 case round =>
  obtain ⟨t,ad',cap',L',ht,rfl,rfl,hR,hok,hlays,hkr⟩:=hrel
  have kr:=hkr.out
  have xr:=x.below kr
  have u0:=xr.c0
  by_cases htn : t < n
  ·obtain ⟨hpn,hPr⟩:=hP
   rcases hPr with hPr | ⟨bp,f,rfl,hPr⟩
   ·omega
   have hbpl:=hPr.1
   obtain ⟨s3,a3,l3,c3,g0,g1,g2,hz3,hl3,hv⟩:=hPr.2 t (by omega)
   replace hz3:=hz3.below kr
   have hk3:=hk.below kr
   have hps : Hid (ps.take (t + 1) = ps.take t ++ [ps[t]]):=List.take_succ_eq_append_getElem (l:=ps) (i:=t) (by omega)
   generalize ps[t] = pp at *
   obtain ⟨pv,pz⟩:=pp
   dsimp only at *
   have hRq:=hR.out
   have hokq:=hok.out
   have HH:=hide (And.intro kr (And.intro hz3 (And.intro hk3 (And.intro hRq hokq))))
   clear kr hz3 hk3 hRq hokq hPr
   go_wp2_with fail
   obtain ⟨kr,hz3,hk3,hRq,hokq⟩:=HH.out
   clear HH
   refine wp_region_held_drew (S:=(fun w' => w'.cell? ⟨q,0,none⟩ = some (.slice (some ⟨bp,f,none⟩) n cp)∧w'.cell? ⟨bp,f + t * 3,none⟩ = some (.int .i64 pv)∧w'.cell? ⟨bp,f + t * 3 + 1,none⟩ = some (.bool s3)∧w'.cell? ⟨bp,f + t * 3 + 2,none⟩ = some (.slice a3 l3 c3)∧w'.cell? ⟨p,0,none⟩ = some (.bool s0)∧w'.cell? ⟨p,1,none⟩ = some (.slice a0 l0 c0)∧Below wb.heap.size wb w')) (by kernel_rfl) (sk5 x z g0 g1 g2 hbpl (grow_drew kr)) (fun hHeld => ?_)
   show wpAnyH _ _ _ _ _ 19 _ _ _
   have kd:=grow_drew (Below.refl wr.heap.size wr)
   have kW:=grow_drew kr
   have hRq:=hRq.below kd
   have hokq:=hokq.below kd
   have hz3:=hz3.below kd
   have hk3:=hk3.below kd
   clear kd
   generalize wr.drew = wQ at *
   refine wpAnyH_take (i:=0) (oi:=⟨some 14,_,_,_,_,_⟩) (v:=?_) rfl (by kernel_rfl) (by kernel_rfl) (by kernel_rfl) (fun _ _ _ h => h) (Or.inl ⟨by rfl,?_⟩) (by assumption) ?_
   rotate_left
   ·intro wq hSw; (try dsimp only at hSw); go_simp; (try with_reducible rfl)
   (try simp only [pz])
   refine wpAnyH_take (i:=1) (oi:=⟨some 15,_,_,_,_,_⟩) (v:=?_) rfl (by kernel_rfl) (by kernel_rfl) (by kernel_rfl) (fun _ _ _ h => h) (Or.inl ⟨by rfl,?_⟩) (by assumption) ?_
   rotate_left
   ·intro wq hSw; (try dsimp only at hSw); go_simp; (try with_reducible rfl)
   (try simp only [pz])
   refine wpAnyH_take (i:=2) (oi:=⟨some 16,_,_,_,_,_⟩) (v:=?_) rfl (by kernel_rfl) (by kernel_rfl) (by kernel_rfl) (fun _ _ _ h => h) (Or.inl ⟨by rfl,?_⟩) (by assumption) ?_
   rotate_left
   ·intro wq hSw; (try dsimp only at hSw); go_simp; (try with_reducible rfl)
   (try simp only [pz])
   refine wpAnyH_take (i:=3) (oi:=⟨some 17,_,_,_,_,_⟩) (v:=?_) rfl (by kernel_rfl) (by kernel_rfl) (by kernel_rfl) (fun _ _ _ h => h) (Or.inl ⟨by rfl,?_⟩) (by assumption) ?_
   rotate_left
   ·intro wq hSw; (try dsimp only at hSw); go_simp; (try with_reducible rfl)
   (try simp only [pz])
   refine wpAnyH_take (i:=4) (oi:=⟨some 18,_,_,_,_,_⟩) (v:=?_) rfl (by kernel_rfl) (by kernel_rfl) (by kernel_rfl) (fun _ _ _ h => h) (Or.inl ⟨by rfl,?_⟩) (by assumption) ?_
   rotate_left
   ·intro wq hSw; (try dsimp only at hSw); go_simp; (try with_reducible rfl)
   (try simp only [pz])
   refine wpAnyH_take (i:=5) (oi:=⟨some 19,_,_,_,_,_⟩) (v:=?_) rfl (by kernel_rfl) (by kernel_rfl) (by kernel_rfl) (fun _ _ _ h => h) (Or.inl ⟨by rfl,?_⟩) (by assumption) ?_
   rotate_left
   ·intro wq hSw; (try dsimp only at hSw); go_simp; (try with_reducible rfl)
   (try simp only [pz])
   refine wpAnyH_take (i:=6) (oi:=⟨some 20,_,_,_,_,_⟩) (v:=?_) rfl (by kernel_rfl) (by kernel_rfl) (by kernel_rfl) (fun _ _ _ h => h) (Or.inl ⟨by rfl,?_⟩) (by assumption) ?_
   rotate_left
   ·intro wq hSw; (try dsimp only at hSw); go_simp; (try with_reducible rfl)
   (try simp only [pz])
   refine wpAnyH_take (i:=7) (oi:=⟨some 21,_,_,_,_,_⟩) (v:=?_) rfl (by kernel_rfl) (by kernel_rfl) (by kernel_rfl) (fun _ _ _ h => h) (Or.inl ⟨by rfl,?_⟩) (by assumption) ?_
   rotate_left
   ·intro wq hSw; (try dsimp only at hSw); go_simp; (try with_reducible rfl)
   (try simp only [pz])
   refine wpAnyH_take (i:=8) (oi:=⟨some 22,_,_,_,_,_⟩) (v:=?_) rfl (by kernel_rfl) (by kernel_rfl) (by kernel_rfl) (fun _ _ _ h => h) (Or.inl ⟨by rfl,?_⟩) (by assumption) ?_
   rotate_left
   ·intro wq hSw; (try dsimp only at hSw); go_simp; (try with_reducible rfl)
   (try simp only [pz])
   refine wpAnyH_take (i:=9) (oi:=⟨some 23,_,_,_,_,_⟩) (v:=?_) rfl (by kernel_rfl) (by kernel_rfl) (by kernel_rfl) (fun _ _ _ h => h) (Or.inl ⟨by rfl,?_⟩) (by assumption) ?_
   rotate_left
   ·intro wq hSw; (try dsimp only at hSw); go_simp; (try with_reducible rfl)
   (try simp only [pz])
   refine wpAnyH_take (i:=10) (oi:=⟨some 24,_,_,_,_,_⟩) (v:=?_) rfl (by kernel_rfl) (by kernel_rfl) (by kernel_rfl) (fun _ _ _ h => h) (Or.inl ⟨by rfl,?_⟩) (by assumption) ?_
   rotate_left
   ·intro wq hSw; (try dsimp only at hSw); go_simp; (try with_reducible rfl)
   (try simp only [pz])
   refine wpAnyH_take (i:=11) (oi:=⟨some 25,_,_,_,_,_⟩) (v:=?_) rfl (by kernel_rfl) (by kernel_rfl) (by kernel_rfl) (fun _ _ _ h => h) (Or.inl ⟨by rfl,?_⟩) (by assumption) ?_
   rotate_left
   ·intro wq hSw; (try dsimp only at hSw); go_simp; (try with_reducible rfl)
   (try simp only [pz])
   refine wpAnyH_take (i:=12) (oi:=⟨some 26,_,_,_,_,_⟩) (v:=?_) rfl (by kernel_rfl) (by kernel_rfl) (by kernel_rfl) (fun _ _ _ h => h) (Or.inl ⟨by rfl,?_⟩) (by assumption) ?_
   rotate_left
   ·intro wq hSw; (try dsimp only at hSw); go_simp; (try with_reducible rfl)
   (try simp only [pz])
   refine wpAnyH_take (i:=13) (oi:=⟨some 27,_,_,_,_,_⟩) (v:=?_) rfl (by kernel_rfl) (by kernel_rfl) (by kernel_rfl) (fun _ _ _ h => h) (Or.inl ⟨by rfl,?_⟩) (by assumption) ?_
   rotate_left
   ·intro wq hSw; (try dsimp only at hSw); go_simp; (try with_reducible rfl)
   (try simp only [pz])
   refine wpAnyH_ready (rs:=[14]) (by kernel_rfl) (by simp) ?_
   refine AllReadyH.cons (o:=⟨some 28,_,_,_,_,_⟩) rfl (fun K hK => ?_) AllReadyH.nil
   go_simp
   go_at_call 98; refine Calls.mono (rmul2_n hk3 hz3 (by omega) (by omega)) ?_; rintro e wA ⟨sN,aN,lN,cN,rfl,hN,kA,hlN⟩
   have hRq:=hRq.below kA
   have hokq:=hokq.below kA
   have kW:=grow_step kA kW
   (try go_wp2_with fail)
   refine hK.out _ _ ?_ ?_
   ·(try dsimp only); exact sk5 x z g0 g1 g2 hbpl kW
   clear hK K hHeld; intro hHeld
   (try simp only [pz])
   refine wpAnyH_ready (rs:=[15]) (by kernel_rfl) (by simp) ?_
   refine AllReadyH.cons (o:=⟨some 29,_,_,_,_,_⟩) rfl (fun K hK => ?_) AllReadyH.nil
   go_simp
   refine hK.out _ _ ?_ ?_
   ·(try dsimp only); exact sk5 x z g0 g1 g2 hbpl kW
   clear hK K hHeld; intro hHeld
   (try simp only [pz])
   refine wpAnyH_ready (rs:=[16]) (by kernel_rfl) (by simp) ?_
   refine AllReadyH.cons (o:=⟨some 30,_,_,_,_,_⟩) rfl (fun K hK => ?_) AllReadyH.nil
   have kL:=below_alloc wA (.cells #[.int .i64 pv,.bool sN,.slice aN lN cN] 59)
   have hRq:=hRq.below kL
   have hokq:=hokq.below kL
   have hN:=hN.below kL
   have hv3:=v3_new wA pv sN aN lN cN
   have kW:=grow_step kL kW
   go_simp
   refine hK.out _ _ ?_ ?_
   ·(try dsimp only); exact sk5 x z g0 g1 g2 hbpl kW
   clear hK K hHeld; intro hHeld
   (try simp only [pz])
   generalize wA.alloc (.cells #[.int .i64 pv,.bool sN,.slice aN lN cN] 59) = wL at *
   refine wpAnyH_ready (rs:=[17]) (by kernel_rfl) (by simp) ?_
   refine AllReadyH.cons (o:=⟨some 31,_,_,_,_,_⟩) rfl (fun K hK => ?_) AllReadyH.nil
   refine anyH_append rfl _ _ 25 rfl _ _ rfl rfl _ (run_append_rs (w0:=wb) hRq kW ⟨pv,sN,aN,lN,cN,k0 * pz⟩ ⟨wA.heap.size,0,none⟩ hv3 (by omega) _) ?_
   rintro v5 w8 ⟨cap5,L5,hR5,htk,hmem,hb5,hg5, -⟩
   obtain ⟨ad5,rfl⟩:=hR5.row
   have kW:=hb5
   refine hK.out _ _ ?_ ?_
   ·(try dsimp only); exact sk5 x z g0 g1 g2 hbpl kW
   clear hK K hHeld; intro hHeld
   (try simp only [pz])
   refine wpAnyH_ready (rs:=[18]) (by kernel_rfl) (by simp) ?_
   refine AllReadyH.cons (o:=⟨some 5,_,_,_,_,_⟩) rfl (fun K hK => ?_) AllReadyH.nil
   go_simp
   refine hK.out _ _ ?_ ?_
   ·(try dsimp only); exact sk5 x z g0 g1 g2 hbpl kW
   clear hK K hHeld; intro hHeld
   (try simp only [pz])
   refine wpAnyH_done (by kernel_rfl) ?_ _
   have ok5 : Rok Fw w8 (2 * B + 1) L5:=fun y hy => by
    rcases hmem y hy with h | rfl | rfl
    ·exact ⟨rs_zn hRq hg5 (hokq y h).1,(hokq y h).2⟩
    ·exact ⟨rs_zn hRq hg5 hN,by show lN≤_; omega,hv⟩
    ·exact zr_ok _ _
   have hlays3 : Hid ((L5.take (t + 1)).map Raw.p = mapP (fun x => k0 * x) (ps.take (t + 1))):=(show _ = _ by rw [htk,List.map_append,hps.out,mapP_snoc,hlays.out]; rfl)
   replace hR5:=hide hR5
   replace ok5:=hide ok5
   replace hb5:=hide hb5
   clear hHeld hmem htk hg5 hRq hokq hN hv3 kW kA kL
   go_wp2_with fail
   exact ⟨⟨t + 1,ad5,cap5,L5,by omega,by go_num,rfl,hR5,ok5,hlays3,hb5⟩,by simp [intOf]; omega⟩
  ·obtain rfl : n = t:=by omega
   have hall : (L'.take n).map Raw.p = mapP (fun x => k0 * x) ps:=by rw [hlays.out,List.take_of_length_le (by have:=hP.1; omega)]
   have hPr:=rs_pr hR.out hok.out
   rw [hall] at hPr
   have hzr:=hz.below kr
   have hk3:=hk.below kr
   have zr:=z.below kr
   have yr:=y.below kr
   have hbr : Hid (Below w.heap.size w wr):=grow_step kr b0.out
   have e0:=zr.c0
   have e1:=zr.c1
   have u1:=xr.c1
   have u2:=xr.c2
   clear hlays hall hR hok hkr
   go_wp2_with fail
   refine (rmul2_n hk3 hzr (by omega) (by omega)).mono ?_
   rintro e w2 ⟨sM,aM,lM,cM,rfl,hM,k2,hlM⟩
   replace hPr:=hPr.below k2
   replace yr:=yr.below k2
   replace hbr:=hide (grow_step k2 hbr.out)
   clear k2 e0 e1 u0 u1 u2 hzr hk3 zr xr kr
   go_wp2_with fail
   refine (rnorm5_w (B:=2 * B + 1) hPr hM.zm (by omega) (by omega) (by omega)).mono ?_
   rintro e w3 ⟨adN,nN,cpN,sN,aN,lN,cN,rfl,hTW,hzN,kN,hnN,hPN,hnewN⟩
   have hlN:=hTW.2.2
   have y2:=yr.below kN
   have v0:=y2.c0
   have v1:=y2.c1
   have v2:=y2.c2
   have v3:=y2.f 0
   have v4:=y2.f 1
   have v5:=y2.f 2
   have g:=tb_set w3 r (.slice adN nN cpN) (.bool sN) (.slice aN lN cN)
   have HH:=hide (And.intro (hPN.tb y2 g) (And.intro (hzN.grownU g (tb_noU y2)) (And.intro (below_grown (grow_step kN hbr.out) g hwr'.out) (And.intro (tb_fin y2 adN nN cpN sN aN lN cN) (fun b off e => Nat.le_trans hbr.out.size (hnewN b off e))))))
   clear hTW hzN kN hPN hnewN y2 yr g hPr hbr hM
   go_wp2
   obtain ⟨hPf,hzf,kf,yf,hnf⟩:=HH.out
   refine bodyPost_ret (results_cell_row rfl _ _ r 27 _ (0,0) _ rfl yf Tryz.underlying27 rfl (by kernel_rfl)) rfl ?_
   exact ⟨adN,nN,cpN,sN,aN,lN,cN,by simp,hPf.mono (by omega),hzf,by omega,hnN,hnf,kf⟩
theorem rscale5_n {k0 : Int} (hk : Zm Fw w s0 a0 l0 c0 k0) (hk0 : l0≤B) (hP : Pr Fw w ad n ps B) (hz : Zm Fw w s a l c k) (hl : l≤B) (hn : n≤262144) (hB : B≤67108864) :
  Calls Tryz.prog 81 #[.agg #[.bool s0,.slice a0 l0 c0],.agg #[.slice ad n cp,.bool s,.slice a l c]] w fun e w' => ∃ ad' n' cp' s' a' l' c',e = .returned (.agg #[.slice ad' n' cp',.bool s',.slice a' l' c'])∧Pn Fw w' ad' n' (nz (lays [] (mapP (fun x => k0 * x) ps))) (2 * B + n + 2)∧Zn Fw w' s' a' l' c' (k0 * k)∧l'≤2 * B + n + 2∧n'≤n∧(∀ b off,ad' = some ⟨b,off,none⟩→w.heap.size≤b)∧Below w.heap.size w w' :=
 rscale5_g hk hk0 hP hz hl (by omega) hB
set_option maxRecDepth 100000 in
set_option maxHeartbeats 6400000 in
theorem rmodulo6_n {s2 : Bool} {a2 : Option Addr} {l2 c2 : Nat} {d : Int} (hS : Std ps) (hP : Pr Fw w ad n ps B) (hz : Zm Fw w s a l c k) (hl : l≤B) (hd : Go.Proofs.YtepdckgfolkjjaaGreatDoor.Zm w s2 a2 l2 c2 d) (hl2 : l2≤B) (hd0 : 0 < d) (hn : n≤262144) (hB : B≤67108864) :
  Calls Tryz.prog 83 #[.agg #[.slice ad n cp,.bool s,.slice a l c],.agg #[.bool s2,.slice a2 l2 c2]] w fun e w' => ∃ ad' n' cp' s' a' l' c',e = .returned (.agg #[.slice ad' n' cp',.bool s',.slice a' l' c'])∧Pn Fw w' ad' n' (eachP (fun x => x % d) ps) (2 * B + n + 6)∧Zn Fw w' s' a' l' c' (k % d)∧l'≤2 * B + n + 6∧n'≤n∧(∀ b off,ad' = some ⟨b,off,none⟩→w.heap.size≤b)∧Below w.heap.size w w':=by
 replace hS:=hide hS
 go_enter Tryz.func83,Tryz.ntmps83
 go_wp2_with fail
 have x:=((tb_new w ad n cp s a l c).below (below_alloc _ (.cells #[.bool s2,.slice a2 l2 c2] 24))).below (below_alloc _ (.cells #[.slice none 0 0,.bool false,.slice none 0 0] 27))
 have z:=(zb_new (w.alloc (.cells #[.slice ad n cp,.bool s,.slice a l c] 27)) s2 a2 l2 c2).below (below_alloc _ (.cells #[.slice none 0 0,.bool false,.slice none 0 0] 27))
 have y:=tb_new ((w.alloc (.cells #[.slice ad n cp,.bool s,.slice a l c] 27)).alloc (.cells #[.bool s2,.slice a2 l2 c2] 24)) none 0 0 false none 0 0
 have b0 : Below w.heap.size w (((w.alloc (.cells #[.slice ad n cp,.bool s,.slice a l c] 27)).alloc (.cells #[.bool s2,.slice a2 l2 c2] 24)).alloc (.cells #[.slice none 0 0,.bool false,.slice none 0 0] 27)):=below_alloc' (below_alloc' (below_alloc _ _) _) _
 rw [show (w.alloc (.cells #[.slice ad n cp,.bool s,.slice a l c] 27)).heap.size = w.heap.size + 1 from by simp] at z
 rw [show ((w.alloc (.cells #[.slice ad n cp,.bool s,.slice a l c] 27)).alloc (.cells #[.bool s2,.slice a2 l2 c2] 24)).heap.size = w.heap.size + 1 + 1 from by simp] at y
 generalize ((w.alloc (.cells #[.slice ad n cp,.bool s,.slice a l c] 27)).alloc (.cells #[.bool s2,.slice a2 l2 c2] 24)).alloc (.cells #[.slice none 0 0,.bool false,.slice none 0 0] 27) = wb at *
 have hpr : w.heap.size < w.heap.size + 1∧w.heap.size + 1 < w.heap.size + 1 + 1:=by omega
 have hP0:=hide hP
 clear hP
 replace hz:=hz.below b0
 replace hd:=hd.below b0
 generalize w.heap.size + 1 + 1 = r at *
 generalize w.heap.size + 1 = q at *
 generalize hp : w.heap.size = p at *
 replace hp:=hide hp
 refine (rmod6_n hz hd (by omega) (by omega) hd0).mono ?_
 rintro e w1 ⟨s1,a1,l1,c1,rfl,hz1,k1,hl1⟩
 have x1:=x.below k1
 have z1:=z.below k1
 have y1:=y.below k1
 replace hd:=hd.below k1
 have v0:=y1.c0
 have v1:=y1.c1
 have v2:=y1.c2
 have v3:=y1.f 0
 have v4:=y1.f 1
 have v5:=y1.f 2
 go_wp2_with fail
 have yo:=tb_new w1 none 0 0 s1 a1 l1 c1
 have ko:=below_alloc w1 (.cells #[.slice none 0 0,.bool s1,.slice a1 l1 c1] 27)
 replace hz1:=hz1.below ko
 replace hd:=hd.below ko
 replace x1:=x1.below ko
 replace z1:=z1.below ko
 replace y1:=y1.below ko
 have hrl:=y.lt
 have hbo:=hide (hp.out.symm ▸ (b0.trans ((k1.mono (by omega)).trans (ko.mono (Nat.le_trans (by omega) k1.size)))) : Below w.heap.size w _)
 have hro : Hid (p < q∧q < r∧r < w1.heap.size):=⟨hpr.1,hpr.2,Nat.lt_of_lt_of_le y.lt k1.size⟩
 generalize w1.alloc (.cells #[.slice none 0 0,.bool s1,.slice a1 l1 c1] 27) = wo at *
 generalize w1.heap.size = o at *
 clear k1 ko b0 v0 v1 v2 v3 v4 v5 x y z hz
 go_loopw [6] (fun i wr => ∃ (t : Nat) (ad' : Option Addr) (cap' : Nat) (L' : List Raw),t≤n∧i = .int .i64 t∧TB wr o ad' t cap' s1 a1 l1 c1∧Hid (RS wo.heap.size wr (.slice ad' t cap') t cap' L')∧Hid (Rok Fw wr (2 * B + 5) L')∧Hid ((L'.take t).map Raw.p = mapP (fun x => x % d) (ps.take t))∧Hid (wo.grownBy wr (some o))) (fun i _ => n - (intOf i).toNat)
 case atStart => exact ⟨0,none,0,[],Nat.zero_le _,rfl,yo,.inl ⟨rfl,rfl,rfl,rfl⟩,(fun x hx => absurd hx (by simp)),(show _ = _ from rfl),⟨rfl,rfl,rfl,Nat.le_refl _,fun _ _ _ => rfl⟩⟩
 case round =>
  obtain ⟨t,ad',cap',L',ht,rfl,yr,hR,hok,hlays,hg⟩:=hrel
  have xr:=x1.grown hg.out (by have:=hro.out; omega)
  have u0:=xr.c0
  have e0:=yr.c0
  have f0:=yr.f 0
  have hol:=yo.lt
  by_cases htn : t < n
  ·obtain ⟨hpn,hPr⟩:=hP0.out
   rcases hPr with hPr | ⟨bp,f,rfl,hPr⟩
   ·omega
   ·have hbp:=hPr.1
    obtain ⟨s3,a3,l3,c3,g0,g1,g2,hz3,hl3,hv⟩:=(hPr.below hbo.out).2 t (by omega)
    have hbpo : bp ≠ o:=by have:=hro.out; have:=hp.out; omega
    have hbpl : bp < wo.heap.size:=(hPr.below hbo.out).1
    have hpo : p ≠ o:=by have:=hro.out; omega
    have hqo : q ≠ o:=by have:=hro.out; omega
    have hps : Hid (ps.take (t + 1) = ps.take t ++ [ps[t]]):=List.take_succ_eq_append_getElem (l:=ps) (i:=t) (by omega)
    generalize ps[t] = pp at *
    obtain ⟨pv,pz⟩:=pp
    dsimp only at *
    obtain ⟨w0,hw0,hbr,hnext⟩:=own_base yo hg.out yr
    replace hz3:=hz3.grownU hg.out (tb_noU yo)
    have hd3:=hd.grownU hg.out (tb_noU yo)
    have hRq : RS w0.heap.size wr (.slice ad' t cap') t cap' L':=hw0 ▸ hR.out
    have hokq:=hok.out
    clear hPr
    have HH:=hide (And.intro hbr (And.intro hz3 (And.intro hd3 (And.intro hRq (And.intro hokq (And.intro hnext hw0))))))
    clear hbr hz3 hd3 hRq hokq hnext hw0
    go_wp2_with fail
    obtain ⟨hbr,hz3,hd3,hRq,hokq,hnext,hw0⟩:=HH.out
    clear HH
    refine wp_region_held_drew (S:=(fun w' => w'.cell? ⟨p,0,none⟩ = some (.slice (some ⟨bp,f,none⟩) n cp)∧w'.cell? ⟨bp,f + t * 3,none⟩ = some (.int .i64 pv)∧w'.cell? ⟨bp,f + t * 3 + 1,none⟩ = some (.bool s3)∧w'.cell? ⟨bp,f + t * 3 + 2,none⟩ = some (.slice a3 l3 c3)∧w'.cell? ⟨q,0,none⟩ = some (.bool s2)∧w'.cell? ⟨q,1,none⟩ = some (.slice a2 l2 c2)∧wo.grownBy w' (some o))) (by kernel_rfl) (nk2 x1 hpo g0 g1 g2 hbpl hbpo z1 hqo (gb_below hg.out (grow_drew (Below.refl wr.heap.size wr)))) (fun hHeld => ?_)
    show wpAnyH _ _ _ _ _ 21 _ _ _
    have kW:=grow_drew (Below.refl wr.heap.size wr)
    have yr:=yr.below kW
    have hRq:=hRq.below kW
    have hokq:=hokq.below kW
    generalize wr.drew = wQ at *
    refine wpAnyH_take (i:=0) (oi:=⟨some 19,_,_,_,_,_⟩) (v:=?_) rfl (by kernel_rfl) (by kernel_rfl) (by kernel_rfl) (fun _ _ _ h => h) (Or.inl ⟨by rfl,?_⟩) (by assumption) ?_
    rotate_left
    ·intro wq hSw; (try dsimp only at hSw); go_simp; (try with_reducible rfl)
    (try simp only [pz])
    refine wpAnyH_take (i:=2) (oi:=⟨some 21,_,_,_,_,_⟩) (v:=?_) rfl (by kernel_rfl) (by kernel_rfl) (by kernel_rfl) (fun _ _ _ h => h) (Or.inl ⟨by rfl,?_⟩) (by assumption) ?_
    rotate_left
    ·intro wq hSw; (try dsimp only at hSw); go_simp; (try with_reducible rfl)
    (try simp only [pz])
    refine wpAnyH_take (i:=3) (oi:=⟨some 22,_,_,_,_,_⟩) (v:=?_) rfl (by kernel_rfl) (by kernel_rfl) (by kernel_rfl) (fun _ _ _ h => h) (Or.inl ⟨by rfl,?_⟩) (by assumption) ?_
    rotate_left
    ·intro wq hSw; (try dsimp only at hSw); go_simp; (try with_reducible rfl)
    (try simp only [pz])
    refine wpAnyH_take (i:=4) (oi:=⟨some 23,_,_,_,_,_⟩) (v:=?_) rfl (by kernel_rfl) (by kernel_rfl) (by kernel_rfl) (fun _ _ _ h => h) (Or.inl ⟨by rfl,?_⟩) (by assumption) ?_
    rotate_left
    ·intro wq hSw; (try dsimp only at hSw); go_simp; (try with_reducible rfl)
    (try simp only [pz])
    refine wpAnyH_take (i:=5) (oi:=⟨some 24,_,_,_,_,_⟩) (v:=?_) rfl (by kernel_rfl) (by kernel_rfl) (by kernel_rfl) (fun _ _ _ h => h) (Or.inl ⟨by rfl,?_⟩) (by assumption) ?_
    rotate_left
    ·intro wq hSw; (try dsimp only at hSw); go_simp; (try with_reducible rfl)
    (try simp only [pz])
    refine wpAnyH_take (i:=6) (oi:=⟨some 25,_,_,_,_,_⟩) (v:=?_) rfl (by kernel_rfl) (by kernel_rfl) (by kernel_rfl) (fun _ _ _ h => h) (Or.inl ⟨by rfl,?_⟩) (by assumption) ?_
    rotate_left
    ·intro wq hSw; (try dsimp only at hSw); go_simp; (try with_reducible rfl)
    (try simp only [pz])
    refine wpAnyH_take (i:=7) (oi:=⟨some 26,_,_,_,_,_⟩) (v:=?_) rfl (by kernel_rfl) (by kernel_rfl) (by kernel_rfl) (fun _ _ _ h => h) (Or.inl ⟨by rfl,?_⟩) (by assumption) ?_
    rotate_left
    ·intro wq hSw; (try dsimp only at hSw); go_simp; (try with_reducible rfl)
    (try simp only [pz])
    refine wpAnyH_take (i:=8) (oi:=⟨some 27,_,_,_,_,_⟩) (v:=?_) rfl (by kernel_rfl) (by kernel_rfl) (by kernel_rfl) (fun _ _ _ h => h) (Or.inl ⟨by rfl,?_⟩) (by assumption) ?_
    rotate_left
    ·intro wq hSw; (try dsimp only at hSw); go_simp; (try with_reducible rfl)
    (try simp only [pz])
    refine wpAnyH_take (i:=9) (oi:=⟨some 28,_,_,_,_,_⟩) (v:=?_) rfl (by kernel_rfl) (by kernel_rfl) (by kernel_rfl) (fun _ _ _ h => h) (Or.inl ⟨by rfl,?_⟩) (by assumption) ?_
    rotate_left
    ·intro wq hSw; (try dsimp only at hSw); go_simp; (try with_reducible rfl)
    (try simp only [pz])
    refine wpAnyH_take (i:=10) (oi:=⟨some 29,_,_,_,_,_⟩) (v:=?_) rfl (by kernel_rfl) (by kernel_rfl) (by kernel_rfl) (fun _ _ _ h => h) (Or.inl ⟨by rfl,?_⟩) (by assumption) ?_
    rotate_left
    ·intro wq hSw; (try dsimp only at hSw); go_simp; (try with_reducible rfl)
    (try simp only [pz])
    refine wpAnyH_take (i:=11) (oi:=⟨some 30,_,_,_,_,_⟩) (v:=?_) rfl (by kernel_rfl) (by kernel_rfl) (by kernel_rfl) (fun _ _ _ h => h) (Or.inl ⟨by rfl,?_⟩) (by assumption) ?_
    rotate_left
    ·intro wq hSw; (try dsimp only at hSw); go_simp; (try with_reducible rfl)
    (try simp only [pz])
    refine wpAnyH_take (i:=12) (oi:=⟨some 31,_,_,_,_,_⟩) (v:=?_) rfl (by kernel_rfl) (by kernel_rfl) (by kernel_rfl) (fun _ _ _ h => h) (Or.inl ⟨by rfl,?_⟩) (by assumption) ?_
    rotate_left
    ·intro wq hSw; (try dsimp only at hSw); go_simp; (try with_reducible rfl)
    (try simp only [pz])
    refine wpAnyH_take (i:=13) (oi:=⟨some 32,_,_,_,_,_⟩) (v:=?_) rfl (by kernel_rfl) (by kernel_rfl) (by kernel_rfl) (fun _ _ _ h => h) (Or.inl ⟨by rfl,?_⟩) (by assumption) ?_
    rotate_left
    ·intro wq hSw; (try dsimp only at hSw); go_simp; (try with_reducible rfl)
    (try simp only [pz])
    refine wpAnyH_take (i:=14) (oi:=⟨some 33,_,_,_,_,_⟩) (v:=?_) rfl (by kernel_rfl) (by kernel_rfl) (by kernel_rfl) (fun _ _ _ h => h) (Or.inl ⟨by rfl,?_⟩) (by assumption) ?_
    rotate_left
    ·intro wq hSw; (try dsimp only at hSw); go_simp; (try with_reducible rfl)
    (try simp only [pz])
    refine wpAnyH_ready (rs:=[1,15]) (by kernel_rfl) (by simp) ?_
    refine AllReadyH.cons (o:=⟨some 20,_,_,_,_,_⟩) rfl (fun K hK => ?_) ?_
    ·have f0:=yr.c0
     go_simp
     refine hK.out _ _ ?_ ?_
     ·(try dsimp only); exact nk2 x1 hpo g0 g1 g2 hbpl hbpo z1 hqo (gb_below hg.out kW)
     clear hK K hHeld; intro hHeld
     (try simp only [pz])
     refine wpAnyH_ready (rs:=[15]) (by kernel_rfl) (by simp) ?_
     refine AllReadyH.cons (o:=⟨some 34,_,_,_,_,_⟩) rfl (fun K hK => ?_) ?_
     ·go_simp
      go_at_call 84; refine Calls.mono (rmod6_n (hz3.below kW) (hd3.below kW) (by omega) (by omega) hd0) ?_; rintro e wA ⟨sN,aN,lN,cN,rfl,hN,kA,hlN⟩
      have yr:=yr.below kA
      have hRq:=hRq.below kA
      have hokq:=hokq.below kA
      have kW:=grow_step kA kW
      (try go_wp2_with fail)
      refine hK.out _ _ ?_ ?_
      ·(try dsimp only); exact nk2 x1 hpo g0 g1 g2 hbpl hbpo z1 hqo (gb_below hg.out kW)
      clear hK K hHeld; intro hHeld
      (try simp only [pz])
      refine wpAnyH_ready (rs:=[16]) (by kernel_rfl) (by simp) ?_
      refine AllReadyH.cons (o:=⟨some 35,_,_,_,_,_⟩) rfl (fun K hK => ?_) ?_
      ·go_simp
       refine hK.out _ _ ?_ ?_
       ·(try dsimp only); exact nk2 x1 hpo g0 g1 g2 hbpl hbpo z1 hqo (gb_below hg.out kW)
       clear hK K hHeld; intro hHeld
       (try simp only [pz])
       refine wpAnyH_ready (rs:=[17]) (by kernel_rfl) (by simp) ?_
       refine AllReadyH.cons (o:=⟨some 36,_,_,_,_,_⟩) rfl (fun K hK => ?_) ?_
       ·have kL:=below_alloc (wA) (.cells #[.int .i64 pv,.bool sN,.slice aN lN cN] 59)
        have yr:=yr.below kL
        have hRq:=hRq.below kL
        have hokq:=hokq.below kL
        have hN:=hN.below kL
        have hv3:=v3_new wA pv sN aN lN cN
        have kW:=grow_step kL kW
        go_simp
        refine hK.out _ _ ?_ ?_
        ·(try dsimp only); exact nk2 x1 hpo g0 g1 g2 hbpl hbpo z1 hqo (gb_below hg.out kW)
        clear hK K hHeld; intro hHeld
        (try simp only [pz])
        generalize (wA).alloc (.cells #[.int .i64 pv,.bool sN,.slice aN lN cN] 59) = wL at *
        refine wpAnyH_ready (rs:=[18]) (by kernel_rfl) (by simp) ?_
        refine AllReadyH.cons (o:=⟨some 37,_,_,_,_,_⟩) rfl (fun K hK => ?_) ?_
        ·skip
         refine anyH_append rfl _ _ 25 rfl _ _ rfl rfl _ (run_append_rs (w0:=w0) hRq (grow_step kW hbr) ⟨pv,sN,aN,lN,cN,pz % d⟩ ⟨wA.heap.size,0,none⟩ hv3 (by omega) _) ?_
         rintro v5 w8 ⟨cap5,L5,hR5,htk,hmem,hb5,hg5, -⟩
         obtain ⟨ad5,rfl⟩:=hR5.row
         obtain ⟨hgS,y8⟩:=hnext w8 hb5
         refine hK.out _ _ ?_ ?_
         ·(try dsimp only); exact nk2 x1 hpo g0 g1 g2 hbpl hbpo z1 hqo hgS
         clear hK K hHeld; intro hHeld
         (try simp only [pz])
         refine wpAnyH_ready (rs:=[19]) (by kernel_rfl) (by simp) ?_
         refine AllReadyH.cons (o:=⟨some 38,_,_,_,_,_⟩) rfl (fun K hK => ?_) ?_
         ·go_simp
          refine hK.out _ _ ?_ ?_
          ·(try dsimp only); exact nk2 x1 hpo g0 g1 g2 hbpl hbpo z1 hqo hgS
          clear hK K hHeld; intro hHeld
          (try simp only [pz])
          refine wpAnyH_ready (rs:=[20]) (by kernel_rfl) (by simp) ?_
          refine AllReadyH.cons (o:=⟨none,_,_,_,_,_⟩) rfl (fun K hK => ?_) ?_
          ·have f0:=y8.c0
           have f1:=y8.f 0
           go_simp
           have hgS:=gb_trans hgS (gb_set w8 o 0 (.slice ad5 (t + 1) cap5))
           refine hK.out _ _ ?_ ?_
           ·(try dsimp only); exact nk2 x1 hpo g0 g1 g2 hbpl hbpo z1 hqo hgS
           clear hK K hHeld; intro hHeld
           (try simp only [pz])
           refine wpAnyH_done (by kernel_rfl) ?_ _
           have y3:=tb_set0 y8 ad5 (t + 1) cap5
           have hR3:=hide (RS.grown (o:=o) (hw0 ▸ hR5 : RS wo.heap.size w8 (.slice ad5 (t + 1) cap5) (t + 1) cap5 L5) (gb_set w8 o 0 (.slice ad5 (t + 1) cap5)) hol)
           have ok5 : Rok Fw w8 (2 * B + 5) L5:=fun y hy => by
            rcases hmem y hy with h | rfl | rfl
            ·exact ⟨rs_zn hRq hg5 (hokq y h).1,(hokq y h).2⟩
            ·exact ⟨rs_zn hRq hg5 hN,by show lN≤_; omega,hv⟩
            ·exact zr_ok _ _
           have hok3 : Hid (Rok Fw (w8.setCell ⟨o,0,none⟩ (.slice ad5 (t + 1) cap5)) (2 * B + 5) L5):=ok5.grownU (gb_set w8 o 0 (.slice ad5 (t + 1) cap5)) (tb_noU y8)
           have hlays3 : Hid ((L5.take (t + 1)).map Raw.p = mapP (fun x => x % d) (ps.take (t + 1))):=(show _ = _ by rw [htk,List.map_append,hps.out,mapP_snoc,hlays.out]; rfl)
           replace hgS:=hide hgS
           clear hHeld hR5 ok5 hmem htk hb5 hg5 y8 hRq hokq hN yr hv3 kW kA hbr hnext
           go_wp2_with fail
           exact ⟨⟨t + 1,ad5,cap5,L5,by omega,by go_num,y3,hR3,hok3,hlays3,hgS⟩,by simp [intOf]; omega⟩
          exact AllReadyH.nil
         exact AllReadyH.nil
        exact AllReadyH.nil
       exact AllReadyH.nil
      exact AllReadyH.nil
     exact AllReadyH.nil
    refine AllReadyH.cons (o:=⟨some 34,_,_,_,_,_⟩) rfl (fun K hK => ?_) ?_
    ·go_simp
     go_at_call 84; refine Calls.mono (rmod6_n (hz3.below kW) (hd3.below kW) (by omega) (by omega) hd0) ?_; rintro e wA ⟨sN,aN,lN,cN,rfl,hN,kA,hlN⟩
     have yr:=yr.below kA
     have hRq:=hRq.below kA
     have hokq:=hokq.below kA
     have kW:=grow_step kA kW
     (try go_wp2_with fail)
     refine hK.out _ _ ?_ ?_
     ·(try dsimp only); exact nk2 x1 hpo g0 g1 g2 hbpl hbpo z1 hqo (gb_below hg.out kW)
     clear hK K hHeld; intro hHeld
     (try simp only [pz])
     refine wpAnyH_ready (rs:=[1,16]) (by kernel_rfl) (by simp) ?_
     refine AllReadyH.cons (o:=⟨some 20,_,_,_,_,_⟩) rfl (fun K hK => ?_) ?_
     ·have f0:=yr.c0
      go_simp
      refine hK.out _ _ ?_ ?_
      ·(try dsimp only); exact nk2 x1 hpo g0 g1 g2 hbpl hbpo z1 hqo (gb_below hg.out kW)
      clear hK K hHeld; intro hHeld
      (try simp only [pz])
      refine wpAnyH_ready (rs:=[16]) (by kernel_rfl) (by simp) ?_
      refine AllReadyH.cons (o:=⟨some 35,_,_,_,_,_⟩) rfl (fun K hK => ?_) ?_
      ·go_simp
       refine hK.out _ _ ?_ ?_
       ·(try dsimp only); exact nk2 x1 hpo g0 g1 g2 hbpl hbpo z1 hqo (gb_below hg.out kW)
       clear hK K hHeld; intro hHeld
       (try simp only [pz])
       refine wpAnyH_ready (rs:=[17]) (by kernel_rfl) (by simp) ?_
       refine AllReadyH.cons (o:=⟨some 36,_,_,_,_,_⟩) rfl (fun K hK => ?_) ?_
       ·have kL:=below_alloc (wA) (.cells #[.int .i64 pv,.bool sN,.slice aN lN cN] 59)
        have yr:=yr.below kL
        have hRq:=hRq.below kL
        have hokq:=hokq.below kL
        have hN:=hN.below kL
        have hv3:=v3_new wA pv sN aN lN cN
        have kW:=grow_step kL kW
        go_simp
        refine hK.out _ _ ?_ ?_
        ·(try dsimp only); exact nk2 x1 hpo g0 g1 g2 hbpl hbpo z1 hqo (gb_below hg.out kW)
        clear hK K hHeld; intro hHeld
        (try simp only [pz])
        generalize (wA).alloc (.cells #[.int .i64 pv,.bool sN,.slice aN lN cN] 59) = wL at *
        refine wpAnyH_ready (rs:=[18]) (by kernel_rfl) (by simp) ?_
        refine AllReadyH.cons (o:=⟨some 37,_,_,_,_,_⟩) rfl (fun K hK => ?_) ?_
        ·skip
         refine anyH_append rfl _ _ 25 rfl _ _ rfl rfl _ (run_append_rs (w0:=w0) hRq (grow_step kW hbr) ⟨pv,sN,aN,lN,cN,pz % d⟩ ⟨wA.heap.size,0,none⟩ hv3 (by omega) _) ?_
         rintro v5 w8 ⟨cap5,L5,hR5,htk,hmem,hb5,hg5, -⟩
         obtain ⟨ad5,rfl⟩:=hR5.row
         obtain ⟨hgS,y8⟩:=hnext w8 hb5
         refine hK.out _ _ ?_ ?_
         ·(try dsimp only); exact nk2 x1 hpo g0 g1 g2 hbpl hbpo z1 hqo hgS
         clear hK K hHeld; intro hHeld
         (try simp only [pz])
         refine wpAnyH_ready (rs:=[19]) (by kernel_rfl) (by simp) ?_
         refine AllReadyH.cons (o:=⟨some 38,_,_,_,_,_⟩) rfl (fun K hK => ?_) ?_
         ·go_simp
          refine hK.out _ _ ?_ ?_
          ·(try dsimp only); exact nk2 x1 hpo g0 g1 g2 hbpl hbpo z1 hqo hgS
          clear hK K hHeld; intro hHeld
          (try simp only [pz])
          refine wpAnyH_ready (rs:=[20]) (by kernel_rfl) (by simp) ?_
          refine AllReadyH.cons (o:=⟨none,_,_,_,_,_⟩) rfl (fun K hK => ?_) ?_
          ·have f0:=y8.c0
           have f1:=y8.f 0
           go_simp
           have hgS:=gb_trans hgS (gb_set w8 o 0 (.slice ad5 (t + 1) cap5))
           refine hK.out _ _ ?_ ?_
           ·(try dsimp only); exact nk2 x1 hpo g0 g1 g2 hbpl hbpo z1 hqo hgS
           clear hK K hHeld; intro hHeld
           (try simp only [pz])
           refine wpAnyH_done (by kernel_rfl) ?_ _
           have y3:=tb_set0 y8 ad5 (t + 1) cap5
           have hR3:=hide (RS.grown (o:=o) (hw0 ▸ hR5 : RS wo.heap.size w8 (.slice ad5 (t + 1) cap5) (t + 1) cap5 L5) (gb_set w8 o 0 (.slice ad5 (t + 1) cap5)) hol)
           have ok5 : Rok Fw w8 (2 * B + 5) L5:=fun y hy => by
            rcases hmem y hy with h | rfl | rfl
            ·exact ⟨rs_zn hRq hg5 (hokq y h).1,(hokq y h).2⟩
            ·exact ⟨rs_zn hRq hg5 hN,by show lN≤_; omega,hv⟩
            ·exact zr_ok _ _
           have hok3 : Hid (Rok Fw (w8.setCell ⟨o,0,none⟩ (.slice ad5 (t + 1) cap5)) (2 * B + 5) L5):=ok5.grownU (gb_set w8 o 0 (.slice ad5 (t + 1) cap5)) (tb_noU y8)
           have hlays3 : Hid ((L5.take (t + 1)).map Raw.p = mapP (fun x => x % d) (ps.take (t + 1))):=(show _ = _ by rw [htk,List.map_append,hps.out,mapP_snoc,hlays.out]; rfl)
           replace hgS:=hide hgS
           clear hHeld hR5 ok5 hmem htk hb5 hg5 y8 hRq hokq hN yr hv3 kW kA hbr hnext
           go_wp2_with fail
           exact ⟨⟨t + 1,ad5,cap5,L5,by omega,by go_num,y3,hR3,hok3,hlays3,hgS⟩,by simp [intOf]; omega⟩
          exact AllReadyH.nil
         exact AllReadyH.nil
        exact AllReadyH.nil
       exact AllReadyH.nil
      exact AllReadyH.nil
     refine AllReadyH.cons (o:=⟨some 35,_,_,_,_,_⟩) rfl (fun K hK => ?_) ?_
     ·go_simp
      refine hK.out _ _ ?_ ?_
      ·(try dsimp only); exact nk2 x1 hpo g0 g1 g2 hbpl hbpo z1 hqo (gb_below hg.out kW)
      clear hK K hHeld; intro hHeld
      (try simp only [pz])
      refine wpAnyH_ready (rs:=[1,17]) (by kernel_rfl) (by simp) ?_
      refine AllReadyH.cons (o:=⟨some 20,_,_,_,_,_⟩) rfl (fun K hK => ?_) ?_
      ·have f0:=yr.c0
       go_simp
       refine hK.out _ _ ?_ ?_
       ·(try dsimp only); exact nk2 x1 hpo g0 g1 g2 hbpl hbpo z1 hqo (gb_below hg.out kW)
       clear hK K hHeld; intro hHeld
       (try simp only [pz])
       refine wpAnyH_ready (rs:=[17]) (by kernel_rfl) (by simp) ?_
       refine AllReadyH.cons (o:=⟨some 36,_,_,_,_,_⟩) rfl (fun K hK => ?_) ?_
       ·have kL:=below_alloc (wA) (.cells #[.int .i64 pv,.bool sN,.slice aN lN cN] 59)
        have yr:=yr.below kL
        have hRq:=hRq.below kL
        have hokq:=hokq.below kL
        have hN:=hN.below kL
        have hv3:=v3_new wA pv sN aN lN cN
        have kW:=grow_step kL kW
        go_simp
        refine hK.out _ _ ?_ ?_
        ·(try dsimp only); exact nk2 x1 hpo g0 g1 g2 hbpl hbpo z1 hqo (gb_below hg.out kW)
        clear hK K hHeld; intro hHeld
        (try simp only [pz])
        generalize (wA).alloc (.cells #[.int .i64 pv,.bool sN,.slice aN lN cN] 59) = wL at *
        refine wpAnyH_ready (rs:=[18]) (by kernel_rfl) (by simp) ?_
        refine AllReadyH.cons (o:=⟨some 37,_,_,_,_,_⟩) rfl (fun K hK => ?_) ?_
        ·skip
         refine anyH_append rfl _ _ 25 rfl _ _ rfl rfl _ (run_append_rs (w0:=w0) hRq (grow_step kW hbr) ⟨pv,sN,aN,lN,cN,pz % d⟩ ⟨wA.heap.size,0,none⟩ hv3 (by omega) _) ?_
         rintro v5 w8 ⟨cap5,L5,hR5,htk,hmem,hb5,hg5, -⟩
         obtain ⟨ad5,rfl⟩:=hR5.row
         obtain ⟨hgS,y8⟩:=hnext w8 hb5
         refine hK.out _ _ ?_ ?_
         ·(try dsimp only); exact nk2 x1 hpo g0 g1 g2 hbpl hbpo z1 hqo hgS
         clear hK K hHeld; intro hHeld
         (try simp only [pz])
         refine wpAnyH_ready (rs:=[19]) (by kernel_rfl) (by simp) ?_
         refine AllReadyH.cons (o:=⟨some 38,_,_,_,_,_⟩) rfl (fun K hK => ?_) ?_
         ·go_simp
          refine hK.out _ _ ?_ ?_
          ·(try dsimp only); exact nk2 x1 hpo g0 g1 g2 hbpl hbpo z1 hqo hgS
          clear hK K hHeld; intro hHeld
          (try simp only [pz])
          refine wpAnyH_ready (rs:=[20]) (by kernel_rfl) (by simp) ?_
          refine AllReadyH.cons (o:=⟨none,_,_,_,_,_⟩) rfl (fun K hK => ?_) ?_
          ·have f0:=y8.c0
           have f1:=y8.f 0
           go_simp
           have hgS:=gb_trans hgS (gb_set w8 o 0 (.slice ad5 (t + 1) cap5))
           refine hK.out _ _ ?_ ?_
           ·(try dsimp only); exact nk2 x1 hpo g0 g1 g2 hbpl hbpo z1 hqo hgS
           clear hK K hHeld; intro hHeld
           (try simp only [pz])
           refine wpAnyH_done (by kernel_rfl) ?_ _
           have y3:=tb_set0 y8 ad5 (t + 1) cap5
           have hR3:=hide (RS.grown (o:=o) (hw0 ▸ hR5 : RS wo.heap.size w8 (.slice ad5 (t + 1) cap5) (t + 1) cap5 L5) (gb_set w8 o 0 (.slice ad5 (t + 1) cap5)) hol)
           have ok5 : Rok Fw w8 (2 * B + 5) L5:=fun y hy => by
            rcases hmem y hy with h | rfl | rfl
            ·exact ⟨rs_zn hRq hg5 (hokq y h).1,(hokq y h).2⟩
            ·exact ⟨rs_zn hRq hg5 hN,by show lN≤_; omega,hv⟩
            ·exact zr_ok _ _
           have hok3 : Hid (Rok Fw (w8.setCell ⟨o,0,none⟩ (.slice ad5 (t + 1) cap5)) (2 * B + 5) L5):=ok5.grownU (gb_set w8 o 0 (.slice ad5 (t + 1) cap5)) (tb_noU y8)
           have hlays3 : Hid ((L5.take (t + 1)).map Raw.p = mapP (fun x => x % d) (ps.take (t + 1))):=(show _ = _ by rw [htk,List.map_append,hps.out,mapP_snoc,hlays.out]; rfl)
           replace hgS:=hide hgS
           clear hHeld hR5 ok5 hmem htk hb5 hg5 y8 hRq hokq hN yr hv3 kW kA hbr hnext
           go_wp2_with fail
           exact ⟨⟨t + 1,ad5,cap5,L5,by omega,by go_num,y3,hR3,hok3,hlays3,hgS⟩,by simp [intOf]; omega⟩
          exact AllReadyH.nil
         exact AllReadyH.nil
        exact AllReadyH.nil
       exact AllReadyH.nil
      refine AllReadyH.cons (o:=⟨some 36,_,_,_,_,_⟩) rfl (fun K hK => ?_) ?_
      ·have kL:=below_alloc (wA) (.cells #[.int .i64 pv,.bool sN,.slice aN lN cN] 59)
       have yr:=yr.below kL
       have hRq:=hRq.below kL
       have hokq:=hokq.below kL
       have hN:=hN.below kL
       have hv3:=v3_new wA pv sN aN lN cN
       have kW:=grow_step kL kW
       go_simp
       refine hK.out _ _ ?_ ?_
       ·(try dsimp only); exact nk2 x1 hpo g0 g1 g2 hbpl hbpo z1 hqo (gb_below hg.out kW)
       clear hK K hHeld; intro hHeld
       (try simp only [pz])
       generalize (wA).alloc (.cells #[.int .i64 pv,.bool sN,.slice aN lN cN] 59) = wL at *
       refine wpAnyH_ready (rs:=[1]) (by kernel_rfl) (by simp) ?_
       refine AllReadyH.cons (o:=⟨some 20,_,_,_,_,_⟩) rfl (fun K hK => ?_) ?_
       ·have f0:=yr.c0
        go_simp
        refine hK.out _ _ ?_ ?_
        ·(try dsimp only); exact nk2 x1 hpo g0 g1 g2 hbpl hbpo z1 hqo (gb_below hg.out kW)
        clear hK K hHeld; intro hHeld
        (try simp only [pz])
        refine wpAnyH_ready (rs:=[18]) (by kernel_rfl) (by simp) ?_
        refine AllReadyH.cons (o:=⟨some 37,_,_,_,_,_⟩) rfl (fun K hK => ?_) ?_
        ·skip
         refine anyH_append rfl _ _ 25 rfl _ _ rfl rfl _ (run_append_rs (w0:=w0) hRq (grow_step kW hbr) ⟨pv,sN,aN,lN,cN,pz % d⟩ ⟨wA.heap.size,0,none⟩ hv3 (by omega) _) ?_
         rintro v5 w8 ⟨cap5,L5,hR5,htk,hmem,hb5,hg5, -⟩
         obtain ⟨ad5,rfl⟩:=hR5.row
         obtain ⟨hgS,y8⟩:=hnext w8 hb5
         refine hK.out _ _ ?_ ?_
         ·(try dsimp only); exact nk2 x1 hpo g0 g1 g2 hbpl hbpo z1 hqo hgS
         clear hK K hHeld; intro hHeld
         (try simp only [pz])
         refine wpAnyH_ready (rs:=[19]) (by kernel_rfl) (by simp) ?_
         refine AllReadyH.cons (o:=⟨some 38,_,_,_,_,_⟩) rfl (fun K hK => ?_) ?_
         ·go_simp
          refine hK.out _ _ ?_ ?_
          ·(try dsimp only); exact nk2 x1 hpo g0 g1 g2 hbpl hbpo z1 hqo hgS
          clear hK K hHeld; intro hHeld
          (try simp only [pz])
          refine wpAnyH_ready (rs:=[20]) (by kernel_rfl) (by simp) ?_
          refine AllReadyH.cons (o:=⟨none,_,_,_,_,_⟩) rfl (fun K hK => ?_) ?_
          ·have f0:=y8.c0
           have f1:=y8.f 0
           go_simp
           have hgS:=gb_trans hgS (gb_set w8 o 0 (.slice ad5 (t + 1) cap5))
           refine hK.out _ _ ?_ ?_
           ·(try dsimp only); exact nk2 x1 hpo g0 g1 g2 hbpl hbpo z1 hqo hgS
           clear hK K hHeld; intro hHeld
           (try simp only [pz])
           refine wpAnyH_done (by kernel_rfl) ?_ _
           have y3:=tb_set0 y8 ad5 (t + 1) cap5
           have hR3:=hide (RS.grown (o:=o) (hw0 ▸ hR5 : RS wo.heap.size w8 (.slice ad5 (t + 1) cap5) (t + 1) cap5 L5) (gb_set w8 o 0 (.slice ad5 (t + 1) cap5)) hol)
           have ok5 : Rok Fw w8 (2 * B + 5) L5:=fun y hy => by
            rcases hmem y hy with h | rfl | rfl
            ·exact ⟨rs_zn hRq hg5 (hokq y h).1,(hokq y h).2⟩
            ·exact ⟨rs_zn hRq hg5 hN,by show lN≤_; omega,hv⟩
            ·exact zr_ok _ _
           have hok3 : Hid (Rok Fw (w8.setCell ⟨o,0,none⟩ (.slice ad5 (t + 1) cap5)) (2 * B + 5) L5):=ok5.grownU (gb_set w8 o 0 (.slice ad5 (t + 1) cap5)) (tb_noU y8)
           have hlays3 : Hid ((L5.take (t + 1)).map Raw.p = mapP (fun x => x % d) (ps.take (t + 1))):=(show _ = _ by rw [htk,List.map_append,hps.out,mapP_snoc,hlays.out]; rfl)
           replace hgS:=hide hgS
           clear hHeld hR5 ok5 hmem htk hb5 hg5 y8 hRq hokq hN yr hv3 kW kA hbr hnext
           go_wp2_with fail
           exact ⟨⟨t + 1,ad5,cap5,L5,by omega,by go_num,y3,hR3,hok3,hlays3,hgS⟩,by simp [intOf]; omega⟩
          exact AllReadyH.nil
         exact AllReadyH.nil
        exact AllReadyH.nil
       exact AllReadyH.nil
      exact AllReadyH.nil
     exact AllReadyH.nil
    exact AllReadyH.nil
  ·obtain rfl : n = t:=by omega
   have hall : (L'.take n).map Raw.p = mapP (fun x => x % d) ps:=by rw [hlays.out,List.take_of_length_le (by have:=hP0.out.1; omega)]
   have hzr:=hz1.grownU hg.out (tb_noU yo)
   have yr0:=y1.grown hg.out (by have:=hro.out; omega)
   have hPr:=rs_pr hR.out hok.out
   rw [hall] at hPr
   have hbr : Hid (Below w.heap.size w wr):=below_grown hbo.out hg.out (by have:=hro.out; have:=hp.out; omega)
   have e1:=yr.c1
   have e2:=yr.c2
   have hwr : Hid (w.heap.size≤r):=(show w.heap.size≤r by have:=hro.out; have:=hp.out; omega)
   clear hg hlays hbo hol ht htn yo x1 y1 hz1 hR hok hall z1 hd f0 yr
   go_wp2_with fail
   refine (rnorm5_w (B:=2 * B + 5) hPr hzr.zm (by omega) (by omega) (by omega)).mono ?_
   rintro e w2 ⟨adN,nN,cpN,sN,aN,lN,cN,rfl,hTW,hzN,kN,hnN,hPN,hnewN⟩
   rw [nz_mapP hS.out] at hPN
   have hlN:=hTW.2.2
   have y2:=yr0.below kN
   have v0:=y2.c0
   have v1:=y2.c1
   have v2:=y2.c2
   have v3:=y2.f 0
   have v4:=y2.f 1
   have v5:=y2.f 2
   have g:=tb_set w2 r (.slice adN nN cpN) (.bool sN) (.slice aN lN cN)
   have HH:=hide (And.intro (hPN.tb y2 g) (And.intro (hzN.grownU g (tb_noU y2)) (And.intro (below_grown (grow_step kN hbr.out) g hwr.out) (And.intro (tb_fin y2 adN nN cpN sN aN lN cN) (fun b off e => Nat.le_trans hbr.out.size (hnewN b off e))))))
   clear hTW hzN kN hPN hnewN y2 yr0 g hPr hzr e1 e2 hbr
   go_wp2
   obtain ⟨hPf,hzf,kf,yf,hnf⟩:=HH.out
   refine bodyPost_ret (results_cell_row rfl _ _ r 27 _ (0,0) _ rfl yf Tryz.underlying27 rfl (by kernel_rfl)) rfl ?_
   exact ⟨adN,nN,cpN,sN,aN,lN,cN,by simp,hPf.mono (by omega),hzf,by omega,hnN,hnf,kf⟩
end Go.Proofs.YtepdckgfolkjjaaGreatDoor.Low
