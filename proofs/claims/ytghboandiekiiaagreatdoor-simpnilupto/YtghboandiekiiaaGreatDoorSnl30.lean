/-
 Layer 6: each.
-/
import Derived.Test.YtghboandiekiiaaGreatDoorSnl15
import Derived.Test.YtghboandiekiiaaGreatDoorSnl23
import Derived.Test.YtghboandiekiiaaGreatDoorSnl24
namespace Go.Proofs.YtghboandiekiiaaGreatDoor
open Go.RowKit Go.Sort Go.Shelf
open Tm At

theorem PB.below9 {w w' : World} {b : Nat} {v : Int} {s : Bool} {a : Option Addr} {l c : Nat} (h : PB w b v s a l c) (hb : Below w.heap.size w w') : PB w' b v s a l c:=(hb.block b h.lt).trans h

set_option maxRecDepth 100000 in
set_option maxHeartbeats 3200000 in
theorem each_n {w : World} {ad : Option Addr} {n cp : Nat} {s : Bool} {a : Option Addr} {l c : Nat} {ps : List (Int × Int)} {k : Int} {B C kf : Nat} {lb : Array Value} {F : Int→Int} (eg : ∀ args w,(callFunc kf args).run Tryz.prog w = .ok (.enter kf args) w)
  (hf : ∀ w' s a l c z,Below w.heap.size w w'→Zm w' s a l c z→l≤B→Calls Tryz.prog kf (#[.agg #[.bool s,.slice a l c]] ++ lb) w' fun e w'' => ∃ s' a' l' c',e = .returned (.agg #[.bool s',.slice a' l' c'])∧Zn w'' s' a' l' c' (F z)∧Below w'.heap.size w' w''∧l'≤C)
  (hP : Pr w ad n ps B) (hz : Zm w s a l c k) (hl : l≤B) (hn : n≤268435456) (hC : C≤1099511627776) :
  Calls Tryz.prog 94 #[.agg #[.slice ad n cp,.bool s,.slice a l c],.func (.func kf) #[] lb] w fun e w' => ∃ ad' n' cp' s' a' l' c',e = .returned (.agg #[.slice ad' n' cp',.bool s',.slice a' l' c'])∧Pn w' ad' n' (eachP F ps) C∧Zn w' s' a' l' c' (F k)∧l'≤C∧n'≤n∧(∀ b off,ad' = some ⟨b,off,none⟩→w.heap.size≤b)∧Below w.heap.size w w':=by
 go_enter Tryz.func94,Tryz.ntmps94
 go_wp2_with fail
 have x:=(tb_new w ad n cp s a l c).below (below_alloc _ (.cells #[.slice none 0 0,.bool false,.slice none 0 0] 48))
 have y:=tb_new (w.alloc (.cells #[.slice ad n cp,.bool s,.slice a l c] 48)) none 0 0 false none 0 0
 have b0 : Below w.heap.size w ((w.alloc (.cells #[.slice ad n cp,.bool s,.slice a l c] 48)).alloc (.cells #[.slice none 0 0,.bool false,.slice none 0 0] 48)):=below_alloc' (below_alloc _ _) _
 rw [show (w.alloc (.cells #[.slice ad n cp,.bool s,.slice a l c] 48)).heap.size = w.heap.size + 1 from by simp] at y
 generalize (w.alloc (.cells #[.slice ad n cp,.bool s,.slice a l c] 48)).alloc (.cells #[.slice none 0 0,.bool false,.slice none 0 0] 48) = wb at *
 replace hP:=hP.below b0
 replace hz:=hz.below b0
 have hf2 : Hid (∀ w' s a l c z,Below wb.heap.size wb w'→Zm w' s a l c z→l≤B→Calls Tryz.prog kf (#[.agg #[.bool s,.slice a l c]] ++ lb) w' fun e w'' => ∃ s' a' l' c',e = .returned (.agg #[.bool s',.slice a' l' c'])∧Zn w'' s' a' l' c' (F z)∧Below w'.heap.size w' w''∧l'≤C):=(fun w' s a l c z h => hf w' s a l c z (grow_step h b0))
 clear hf
 generalize hp : w.heap.size = p at *
 replace b0 : Hid (Below w.heap.size w wb):=hp ▸ b0
 have hpr : Hid (w.heap.size = p∧p < p + 1):=⟨hp,by omega⟩
 clear hp
 generalize p + 1 = r at *
 obtain ⟨hps,hP⟩:=hP
 go_loopw [5,12] (fun v i wr => ∃ (t : Nat) (ad3 : Option Addr) (n3 cap3 : Nat) (L3 : List Raw),t≤n∧i = .int .i64 t∧v = .slice ad3 n3 cap3∧Hid (RS wb.heap.size wr (.slice ad3 n3 cap3) n3 cap3 L3)∧Hid (Rok wr C L3)∧Hid ((L3.take n3).map Raw.p = eachP F (ps.take t))∧n3≤t∧Hid (Below wb.heap.size wb wr)) (fun _ i _ => n - (intOf i).toNat)
 case atStart => exact ⟨0,none,0,0,[],Nat.zero_le _,rfl,rfl,.inl ⟨rfl,rfl,rfl,rfl⟩,(fun x hx => absurd hx (by simp)),(show _ = _ from rfl),by omega,Below.refl _ _⟩
 case round =>
  obtain ⟨t,ad3,n3,cap3,L3,ht,rfl,rfl,hR3,hok3,hea,hn3,kr⟩:=hrel
  by_cases htn : t < n
  ·rcases hP with hP | ⟨bp,op,rfl,hP⟩
   ·omega
   obtain ⟨s2,a2,l2,c2,e0,e1,e2,hz2,hl2,hv⟩:=(hP.below kr.out).2 t o_m
   have hstep : Hid (eachP F (ps.take (t + 1)) = eachP F (ps.take t) ++ if F (ps[t]).2 = 0 then [] else [((ps[t]).1,F (ps[t]).2)]):=(show _ = _ by rw [List.take_succ_eq_append_getElem (l:=ps) (i:=t) o_m,eachP_snoc])
   generalize ps[t] = pp at *
   obtain ⟨pv,pz⟩:=pp
   dsimp only at *
   have pb : PB (wr.alloc (.cells #[.int .i64 pv,.bool s2,.slice a2 l2 c2] 87)) wr.heap.size pv s2 a2 l2 c2:=pb_new wr pv s2 a2 l2 c2
   have ka:=below_alloc wr (.cells #[.int .i64 pv,.bool s2,.slice a2 l2 c2] 87)
   have kb:=hide (grow_step ka kr.out)
   have hcall:=hide (hf2.out _ s2 a2 l2 c2 pz kb.out (hz2.below ka) hl2)
   have hR4:=hide (hR3.out.below ka)
   have hok4:=hide (hok3.out.below ka)
   clear ka
   go_wp2_with fail
   refine hcall.out.mono ?_
   rintro e w5 ⟨s5,a5,l5,c5,rfl,hz5,k5,hl5⟩
   have kc:=hide (below_alloc w5 (.cells #[.bool s5,.slice a5 l5 c5] 46))
   have cb:=zb_new w5 s5 a5 l5 c5
   have k6:=hide (grow_step kc.out (grow_step k5 kb.out))
   have hz6:=hide (hz5.below kc.out)
   have pb6:=(pb.below9 k5).below9 kc.out
   have hR6:=hide ((hR4.out.below k5).below kc.out)
   have hok6:=hide ((hok4.out.below k5).below kc.out)
   clear k5 kb hz5 pb hR4 hok4 hcall hR3 hok3
   replace cb:=hide cb
   replace pb6:=hide pb6
   go_wp2_with fail
   refine (zsign_n hz6.out.zm o_m).mono ?_
   rintro e w7 ⟨rfl,k7⟩
   have cb7:=cb.out.below k7
   have pb7:=pb6.out.below9 k7
   have hz7:=hide (hz6.out.below k7)
   have hR7:=hide (hR6.out.below k7)
   have hok7:=hide (hok6.out.below k7)
   replace k7:=hide (grow_step k7 k6.out)
   clear hz6 hR6 hok6 k6 cb pb6 kc
   generalize w5.heap.size = qc at *
   generalize wr.heap.size = qp at *
   by_cases hz0 : F pz = 0
   ·have hea' : Hid ((L3.take n3).map Raw.p = eachP F (ps.take (t + 1))):=(show _ = _ by rw [hstep.out,hea.out]; simp [hz0])
    rw [hz0,show cmpI 0 0 = 0 from rfl]
    go_wp2_with fail
    exact ⟨⟨t + 1,ad3,n3,cap3,L3,by omega,by go_num,rfl,hR7,hok7,hea',by omega,k7⟩,by simp [intOf]; omega⟩
   have hc : cmpI (F pz) 0 ≠ 0:=by unfold cmpI; split <;> (try split) <;> omega
   generalize cmpI (F pz) 0 = cz at *
   have t0:=pb7.c0
   have u0:=cb7.c0
   have u1:=cb7.c1
   have hcq:=cb7.lt
   have hpq:=pb7.lt
   have kz:=below_alloc w7 (.cells #[.int .i64 pv,.bool s5,.slice a5 l5 c5] 87)
   have happ:=hide (run_append_rs (w0:=wb) (hR7.out.below kz) (grow_step kz k7.out) ⟨pv,s5,a5,l5,c5,F pz⟩ ⟨w7.heap.size,0,none⟩ (v3_new w7 pv s5 a5 l5 c5) o_m)
   replace kz:=hide kz
   go_wp2_with (at_builtin; refine wpList_append_run rfl _ _ 43 rfl _ _ rfl rfl _ (happ.out _) ?_; rintro v5 w8 ⟨cap5,L5,hR5,htk,hmem,hb5,hg5, -⟩; obtain ⟨ad5,rfl⟩:=hR5.row; replace hR5:=hide hR5; replace hmem:=hide hmem; replace hb5:=hide hb5; replace hg5:=hide hg5; replace htk:=hide htk)
   have ok5 : Hid (Rok w8 C L5):=fun y hy => by
    rcases hmem.out y hy with h | rfl | rfl
    ·exact ⟨(hR7.out.below kz.out).zn hg5.out ((hok7.out y h).1.below kz.out),(hok7.out y h).2⟩
    ·exact ⟨(hR7.out.below kz.out).zn hg5.out (hz7.out.below kz.out),hl5,hv⟩
    exact zr_ok _ _
   have hea' : Hid ((L5.take (n3 + 1)).map Raw.p = eachP F (ps.take (t + 1))):=(show _ = _ by rw [htk.out,List.map_append,hea.out,hstep.out]; simp [Raw.p,hz0])
   exact ⟨⟨t + 1,ad5,n3 + 1,cap5,L5,by omega,by go_num,rfl,hR5,ok5,hea',by omega,hb5⟩,by simp [intOf]; omega⟩
  obtain rfl : t = n:=by omega
  rw [List.take_of_length_le (Nat.le_of_eq hps)] at hea
  have xr:=x.below kr.out
  have yr:=y.below kr.out
  have x1:=xr.c1
  have x2:=xr.c2
  have hcall:=hide (hf2.out wr s a l c k kr.out (hz.below kr.out) hl)
  go_wp2_with fail
  refine hcall.out.mono ?_
  rintro e w5 ⟨s5,a5,l5,c5,rfl,hz5,k5,hl5⟩
  have y5:=yr.below k5
  have y0:=y5.c0
  have y1:=y5.c1
  have y2:=y5.c2
  have y3:=y5.f 0
  have y4:=y5.f 1
  have y6:=y5.f 2
  have g:=tb_set w5 r (.slice ad3 n3 cap3) (.bool s5) (.slice a5 l5 c5)
  have hzf:=hide (hz5.grownU g (tb_noU y5))
  have hRf:=hide ((hR3.out.below k5).grown g y.lt)
  have hokf:=hide ((hok3.out.below k5).grownU g (tb_noU y5))
  have kf:=hide (below_grown (grow_step (grow_step k5 kr.out) b0.out) g (by have:=hpr.out; omega))
  clear g k5 hcall x1 x2
  go_wp2
  refine bodyPost_ret (results_cell_row rfl _ _ r 48 _ (0,0) _ rfl (tb_fin y5 ad3 n3 cap3 s5 a5 l5 c5) Tryz.underlying48 rfl k_f) rfl ?_
  have hpn:=rs_pn hRf.out hokf.out
  rw [hea.out] at hpn
  have hnew : ∀ b off,ad3 = some ⟨b,off,none⟩→w.heap.size≤b:=fun b off e => by
   rcases hRf.out with ⟨h1,_⟩ | ⟨g,h1,hg,_⟩
   ·simp at h1
    rw [h1.1] at e
    cases e
   simp at h1
   rw [h1] at e
   simp at e
   have:=b0.out.size
   omega
  exact ⟨ad3,n3,cap3,s5,a5,l5,c5,by simp,hpn,hzf.out,hl5,by omega,hnew,kf.out⟩
end Go.Proofs.YtghboandiekiiaaGreatDoor
