/-
 Several texts in one: YO,YQ.
-/
import Derived.Test.YtepdckgfolkjjaaGreatDoorR21
import Derived.Test.YtepdckgfolkjjaaGreatDoorR20
import Derived.Test.YtepdckgfolkjjaaGreatDoorR16
namespace Go.Proofs.YtepdckgfolkjjaaGreatDoor
open Go.RowKit Go.Sort Go.Shelf
open Tm

end Go.Proofs.YtepdckgfolkjjaaGreatDoor

namespace Go.Proofs.YtepdckgfolkjjaaGreatDoor
open Go.RowKit Go.Sort Go.Shelf
open Tm

theorem ek6 {wr w' : World} {b0 b1 b2 b3 i0 i1 i2 i3 i4 i5 : Nat} {v0 v1 v2 v3 v4 v5 : Value} (h0 : wr.cell? ⟨b0,i0,none⟩ = some v0) (l0 : b0 < wr.heap.size) (h1 : wr.cell? ⟨b1,i1,none⟩ = some v1) (l1 : b1 < wr.heap.size) (h2 : wr.cell? ⟨b2,i2,none⟩ = some v2) (h3 : wr.cell? ⟨b2,i3,none⟩ = some v3) (l2 : b2 < wr.heap.size) (h4 : wr.cell? ⟨b3,i4,none⟩ = some v4) (h5 : wr.cell? ⟨b3,i5,none⟩ = some v5) (l3 : b3 < wr.heap.size) (k : Below wr.heap.size wr w') :
  w'.cell? ⟨b0,i0,none⟩ = some v0∧w'.cell? ⟨b1,i1,none⟩ = some v1∧w'.cell? ⟨b2,i2,none⟩ = some v2∧w'.cell? ⟨b2,i3,none⟩ = some v3∧w'.cell? ⟨b3,i4,none⟩ = some v4∧w'.cell? ⟨b3,i5,none⟩ = some v5∧Below wr.heap.size wr w' :=
 ⟨(k.cell (p:=⟨b0,i0,none⟩) l0).trans h0,(k.cell (p:=⟨b1,i1,none⟩) l1).trans h1,(k.cell (p:=⟨b2,i2,none⟩) l2).trans h2,(k.cell (p:=⟨b2,i3,none⟩) l2).trans h3,(k.cell (p:=⟨b3,i4,none⟩) l3).trans h4,(k.cell (p:=⟨b3,i5,none⟩) l3).trans h5,k⟩
theorem cmpI_self (a : Int) : cmpI a a = 0:=by unfold cmpI; simp
set_option maxRecDepth 100000 in
set_option maxHeartbeats 6400000 in
theorem rorder5_n {w : World} {ad : Option Addr} {n cp : Nat} {s : Bool} {a : Option Addr} {l c : Nat} {ps : List (Int × Int)} {k : Int} {ad2 : Option Addr} {n2 cp2 : Nat} {s2 : Bool} {a2 : Option Addr} {l2 c2 : Nat} {qs : List (Int × Int)} {k2 : Int} {B : Nat} (hP : Pr w ad n ps B) (hz : Zm w s a l c k) (hl : l≤B) (hP2 : Pr w ad2 n2 qs B) (hz2 : Zm w s2 a2 l2 c2 k2) (hl2 : l2≤B) (hB : B + n≤268435456) (hB2 : B + n2≤268435456) :
  Calls Tryz.prog 50 #[.agg #[.slice ad n cp,.bool s,.slice a l c],.agg #[.slice ad2 n2 cp2,.bool s2,.slice a2 l2 c2]] w fun e w' => e = .returned (.int .i64 (ordT (nz (lays [] ps)) (nz (lays [] qs)) k k2))∧Below w.heap.size w w':=by
 go_enter Tryz.func50,Tryz.ntmps50
 go_wp2_with fail
 have y:=tb_new (w.alloc (.cells #[.slice ad n cp,.bool s,.slice a l c] 27)) ad2 n2 cp2 s2 a2 l2 c2
 have b0 : Below w.heap.size w ((w.alloc (.cells #[.slice ad n cp,.bool s,.slice a l c] 27)).alloc (.cells #[.slice ad2 n2 cp2,.bool s2,.slice a2 l2 c2] 27)):=below_alloc' (below_alloc _ _) _
 rw [show (w.alloc (.cells #[.slice ad n cp,.bool s,.slice a l c] 27)).heap.size = w.heap.size + 1 from by simp] at y
 generalize (w.alloc (.cells #[.slice ad n cp,.bool s,.slice a l c] 27)).alloc (.cells #[.slice ad2 n2 cp2,.bool s2,.slice a2 l2 c2] 27) = wb at *
 generalize w.heap.size + 1 = q at *
 refine (rnorm5_n (hP.below b0) (hz.below b0) hl (by omega) (by omega)).mono ?_
 rintro e w1 ⟨ad1,n1,cp1,s1,a1,l1,c1,rfl,hT, -,k1,hn1⟩
 have kx:=grow_alloc (grow_step k1 b0) (.cells #[.slice ad1 n1 cp1,.bool s1,.slice a1 l1 c1] 27)
 have x:=tb_new w1 ad1 n1 cp1 s1 a1 l1 c1
 have ka:=below_alloc w1 (.cells #[.slice ad1 n1 cp1,.bool s1,.slice a1 l1 c1] 27)
 replace hT:=hT.below ka
 have y1:=(y.below k1).below ka
 replace hP2:=hP2.below kx
 replace hz2:=hz2.below kx
 replace kx:=hide kx
 have y0:=y1.c0
 have yy1:=y1.c1
 have yy2:=y1.c2
 replace x:=hide x
 replace hT:=hide hT
 clear ka k1 b0 y hP hz
 go_wp2_with fail
 replace x:=x.out
 replace hT:=hT.out
 generalize w1.alloc (.cells #[.slice ad1 n1 cp1,.bool s1,.slice a1 l1 c1] 27) = wx at *
 generalize w1.heap.size = p at *
 refine (rnorm5_n hP2 hz2 hl2 (by omega) (by omega)).mono ?_
 rintro e w3 ⟨ad3,n3,cp3,s3,a3,l3,c3,rfl,hT3, -,k3,hn3⟩
 have kz:=hide (grow_alloc (grow_step k3 kx.out) (.cells #[.slice ad3 n3 cp3,.bool s3,.slice a3 l3 c3] 27))
 have ka:=below_alloc w3 (.cells #[.slice ad3 n3 cp3,.bool s3,.slice a3 l3 c3] 27)
 have z:=tb_new w3 ad3 n3 cp3 s3 a3 l3 c3
 replace x:=(x.below k3).below ka
 replace hT:=(hT.below k3).below ka
 replace hT3:=hT3.below ka
 clear ka k3 kx y0 yy1 yy2 y1 hP2 hz2
 replace x:=hide x
 replace z:=hide z
 replace hT:=hide hT
 replace hT3:=hide hT3
 go_wp2_with fail
 replace x:=x.out
 replace hT:=hT.out
 replace z:=z.out
 replace hT3:=hT3.out
 generalize w3.alloc (.cells #[.slice ad3 n3 cp3,.bool s3,.slice a3 l3 c3] 27) = wz at *
 generalize w3.heap.size = r at *
 obtain ⟨us,hus⟩ : ∃ us,nz (lays [] ps) = us:=⟨_,rfl⟩
 obtain ⟨vs,hvs⟩ : ∃ vs,nz (lays [] qs) = vs:=⟨_,rfl⟩
 rw [hus] at hT
 rw [hvs] at hT3
 have hans : Hid (ordT (nz (lays [] ps)) (nz (lays [] qs)) k k2 = ordT us vs k k2):=(show _ = _ by rw [hus,hvs])
 clear hus hvs
 obtain ⟨⟨hu,hU⟩,hk,hlk⟩:=hT
 obtain ⟨⟨hv,hV⟩,hk3,hlk3⟩:=hT3
 go_loopw [7] (fun i wr => ∃ t : Nat,t≤n1∧t≤n3∧i = .int .i64 t∧Hid (ordL us vs = ordL (us.drop t) (vs.drop t))∧Below wz.heap.size wz wr) (fun i _ => n1 - (intOf i).toNat)
 case atStart => exact ⟨0,Nat.zero_le _,Nat.zero_le _,rfl,by show _ = _; simp,Below.refl _ _⟩
 case round =>
  obtain ⟨t,ht,ht3,rfl,hord,kr⟩:=hrel
  have xr:=x.below kr
  have zr:=z.below kr
  have x0:=xr.c0
  have z0:=zr.c0
  by_cases htn : t < n1∧t < n3
  ·obtain ⟨htn,htn3⟩:=htn
   rcases hU with hU | ⟨b1,o1,rfl,hU⟩
   ·omega
   rcases hV with hV | ⟨b2,o2,rfl,hV⟩
   ·omega
   obtain ⟨s5,a5,l5,c5,e0,e1,e2,hz5,hl5,hv5⟩:=(hU.below kr).2 t (by omega)
   obtain ⟨s6,a6,l6,c6,f0,f1,f2,hz6,hl6,hv6⟩:=(hV.below kr).2 t (by omega)
   have hdrop:=hide (ordL_drop (ps:=us) (qs:=vs) (t:=t) (by omega) (by omega))
   generalize us[t] = pp at *
   generalize vs[t] = qq at *
   obtain ⟨pv,pz⟩:=pp
   obtain ⟨qv,qz⟩:=qq
   dsimp only at *
   by_cases hne : pv = qv
   ·subst hne
    have hcz : Hid (ordQ (pv,pz) (pv,qz) = cmpI pz qz):=(show _ = _ by simp [ordQ,cmpI_self])
    go_wp2_with fail
    go_quiet (fail)
    have kq:=hide (grow_drewN kr nq)
    have x0' : (wr.drewN nq).cell? ⟨p,0,none⟩ = _:=x0
    have z0' : (wr.drewN nq).cell? ⟨r,0,none⟩ = _:=z0
    have e1' : (wr.drewN nq).cell? ⟨b1,o1 + t * 3 + 1,none⟩ = _:=e1
    have e2' : (wr.drewN nq).cell? ⟨b1,o1 + t * 3 + 2,none⟩ = _:=e2
    have f1' : (wr.drewN nq).cell? ⟨b2,o2 + t * 3 + 1,none⟩ = _:=f1
    have f2' : (wr.drewN nq).cell? ⟨b2,o2 + t * 3 + 2,none⟩ = _:=f2
    have g5:=hz5.below (below_drewN _ _ nq)
    have g6:=hz6.below (below_drewN _ _ nq)
    clear x0 z0 e1 e2 f1 f2 e0 f0 hz5 hz6
    have hpl : p < (wr.drewN nq).heap.size:=xr.lt
    have hrl : r < (wr.drewN nq).heap.size:=zr.lt
    have h1l : b1 < (wr.drewN nq).heap.size:=(hU.below kr).1
    have h2l : b2 < (wr.drewN nq).heap.size:=(hV.below kr).1
    generalize wr.drewN nq = wq at *
    replace g5:=hide g5
    replace g6:=hide g6
    clear hU hV
    go_wp2_with fail
    go_region_held3 (fun w' => w'.cell? ⟨p,0,none⟩ = some (.slice (some ⟨b1,o1,none⟩) n1 cp1)∧w'.cell? ⟨r,0,none⟩ = some (.slice (some ⟨b2,o2,none⟩) n3 cp3)∧w'.cell? ⟨b1,o1 + t * 3 + 1,none⟩ = some (.bool s5)∧w'.cell? ⟨b1,o1 + t * 3 + 2,none⟩ = some (.slice a5 l5 c5)∧w'.cell? ⟨b2,o2 + t * 3 + 1,none⟩ = some (.bool s6)∧w'.cell? ⟨b2,o2 + t * 3 + 2,none⟩ = some (.slice a6 l6 c6)∧Below wq.heap.size wq w')
     ((refine ek6 x0' hpl z0' hrl e1' e2' h1l f1' f2' h2l ?_; (with_reducible repeat' first | exact Below.refl _ _ | assumption | refine grow_step (by assumption) ?_ | refine grow_drew ?_ | refine grow_alloc ?_ _ | refine grow_drewN ?_ _)))
     ((go_at_call 49; refine (rcmp2_n (g5.out.below (by (with_reducible repeat' first | exact Below.refl _ _ | assumption | refine grow_step (by assumption) ?_ | refine grow_drew ?_ | refine grow_alloc ?_ _ | refine grow_drewN ?_ _))) (g6.out.below (by (with_reducible repeat' first | exact Below.refl _ _ | assumption | refine grow_step (by assumption) ?_ | refine grow_drew ?_ | refine grow_alloc ?_ _ | refine grow_drewN ?_ _))) (by omega) (by omega)).mono ?_; rintro e w7 ⟨rfl,k7⟩))
    all_goals
     have kf : RowKit.Below wq.heap.size wq w7:=by (repeat' (first | with_reducible exact Below.refl _ _ | with_reducible assumption | (go_split_ands; with_reducible assumption) | with_reducible refine grow_step (by with_reducible assumption) ?_ | with_reducible refine grow_drew ?_ | with_reducible refine grow_alloc ?_ _ | with_reducible refine grow_drewN ?_ _))
     have kg:=hide (grow_step kf kq.out)
     by_cases hc0 : cmpI pz qz = 0
     ·have hnext:=hide (hord.out.trans (hdrop.out.trans (by rw [if_neg (by rw [hcz.out]; simp [hc0])])))
      rw [hc0]
      go_wp2_with fail
      exact ⟨⟨t + 1,by omega,by omega,by go_num,hnext,kg.out⟩,by simp [intOf]; omega⟩
     ·have hval:=hide (hans.out.trans (show ordT us vs k k2 = cmpI pz qz by
       have e1 : ordL us vs = cmpI pz qz:=hord.out.trans (hdrop.out.trans (by rw [if_pos (by rw [hcz.out]; exact hc0)]; exact hcz.out))
       unfold ordT
       rw [e1,if_pos hc0]))
      generalize cmpI pz qz = cc at *
      go_wp2
      go_ret
      exact ⟨ret_int hval.out.symm,grow_step kg.out kz.out⟩
   ·have hcz : Hid (ordQ (pv,pz) (qv,qz) = cmpI pv qv∧cmpI pv qv ≠ 0):=(by
     have h0 : cmpI pv qv ≠ 0:=by unfold cmpI; split <;> (try split) <;> omega
     exact hide ⟨by simp [ordQ,h0],h0⟩)
    have hval : Hid (ordT us vs k k2 = cmpI pv qv):=(show _ = _ by
     have e1 : ordL us vs = cmpI pv qv:=hord.out.trans (hdrop.out.trans (by rw [if_pos (by rw [hcz.out.1]; exact hcz.out.2)]; exact hcz.out.1))
     unfold ordT
     rw [e1,if_pos hcz.out.2])
    by_cases hlt : pv < qv
    ·have hv9 : Hid (ordT (nz (lays [] ps)) (nz (lays [] qs)) k k2 = -1):=(show _ = _ by rw [hans.out,hval.out]; unfold cmpI; rw [if_pos hlt])
     go_wp2_with fail
     go_quiet (fail)
     go_wp2_with fail
     go_quiet (fail)
     go_wp2
     go_ret
     exact ⟨ret_int hv9.out.symm,grow_step ((below_drewN _ _ _).trans (below_drewN _ _ _)) (grow_step kr kz.out)⟩
    ·have hv9 : Hid (ordT (nz (lays [] ps)) (nz (lays [] qs)) k k2 = 1):=(show _ = _ by rw [hans.out,hval.out]; unfold cmpI; rw [if_neg hlt,if_pos (by omega)])
     go_wp2_with fail
     go_quiet (fail)
     go_wp2_with fail
     go_quiet (fail)
     go_wp2
     go_ret
     exact ⟨ret_int hv9.out.symm,grow_step ((below_drewN _ _ _).trans (below_drewN _ _ _)) (grow_step kr kz.out)⟩
  ·have x1:=xr.c1
   have x2:=xr.c2
   have z1:=zr.c1
   have z2:=zr.c2
   have kend:=hide (grow_step kr kz.out)
   have hk':=hide (hk.below kr)
   have hk3':=hide (hk3.below kr)
   clear hU hV hk hk3
   by_cases ht1 : t < n1
   ·have ht2 : ¬ t < n3:=fun h => htn ⟨ht1,h⟩
    have hne : n1 ≠ n3:=by omega
    have hval:=hide (hans.out.trans (show ordT us vs k k2 = 1 by
     have e1 : ordL us vs = 1:=hord.out.trans (ordL_left (by omega) (by omega))
     unfold ordT
     rw [e1]; simp))
    have hge : ¬ n1 < n3:=by omega
    go_wp2
    go_ret
    exact ⟨ret_int hval.out.symm,kend.out⟩
   ·by_cases ht2 : t < n3
    ·have hne : n1 ≠ n3:=by omega
     have hval:=hide (hans.out.trans (show ordT us vs k k2 = -1 by
      have e1 : ordL us vs = -1:=hord.out.trans (ordL_right (by omega) (by omega))
      unfold ordT
      rw [e1]; simp))
     have hlt : n1 < n3:=by omega
     go_wp2
     go_ret
     exact ⟨ret_int hval.out.symm,kend.out⟩
    ·obtain rfl : n1 = n3:=by omega
     have hval:=hide (hans.out.trans (show ordT us vs k k2 = cmpI k k2 by
      have e1 : ordL us vs = 0:=hord.out.trans (ordL_both (by omega) (by omega))
      unfold ordT
      rw [e1]; simp))
     go_wp2_with fail
     refine (rcmp2_n hk'.out hk3'.out (by omega) (by omega)).mono ?_
     rintro e w7 ⟨rfl,k7⟩
     replace k7:=hide (grow_step k7 kend.out)
     go_wp2
     go_ret
     exact ⟨ret_int hval.out.symm,k7.out⟩
end Go.Proofs.YtepdckgfolkjjaaGreatDoor
