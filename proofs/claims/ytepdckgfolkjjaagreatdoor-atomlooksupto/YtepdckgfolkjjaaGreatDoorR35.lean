/-
 Several texts in one: BW,BX,LAtomLooks.
-/
import Derived.Test.YtepdckgfolkjjaaGreatDoorR31
import Derived.Test.YtepdckgfolkjjaaGreatDoorR32
import Derived.Test.YtepdckgfolkjjaaGreatDoorR14
import Derived.Test.YtepdckgfolkjjaaGreatDoorR08
import Derived.Test.YtepdckgfolkjjaaGreatDoorR34
import Derived.Test.YtepdckgfolkjjaaGreatDoorR30
namespace Go.Proofs.YtepdckgfolkjjaaGreatDoor
open Go.RowKit Go.Sort Go.Shelf
open Tm At

theorem ba_app (l r : List UInt8) : (⟨l.toArray⟩ ++ ⟨r.toArray⟩ : ByteArray) = ⟨(l ++ r).toArray⟩:=by
 apply ByteArray.ext
 simp [ByteArray.data_append]
theorem zqm {w w' : World} {b : Nat} {s : Bool} {a : Option Addr} {l c : Nat} (x : ZB w b s a l c) (k : Below w.heap.size w w') : w'.cell? ⟨b,0,none⟩ = some (.bool s)∧w'.cell? ⟨b,1,none⟩ = some (.slice a l c)∧Below w.heap.size w w' :=
 ⟨(x.below k).c0,(x.below k).c1,k⟩

set_option maxRecDepth 100000 in
set_option maxHeartbeats 1600000 in
theorem rtextz_n {s : Bool} {a : Option Addr} {l c : Nat} {z : Int} {w : World} (h : Zm w s a l c z) (hl : l≤17179869184) :
  Calls Tryz.prog 52 #[.agg #[.bool s,.slice a l c]] w fun e w' => e = .returned (.string (zText z))∧Below w.heap.size w w':=by
 obtain ⟨n,hn,rfl⟩:=h
 have h0:=hn.nonneg
 go_enter Tryz.func52,Tryz.ntmps52
 go_wp2_with fail
 have x:=zb_new w s a l c
 have b0:=below_alloc w (.cells #[.bool s,.slice a l c] 24)
 replace hn:=hn.below b0
 generalize w.alloc (.cells #[.bool s,.slice a l c] 24) = wb at *
 generalize hp : w.heap.size = p at *
 replace hp:=hide hp
 have u1:=x.c1
 have u0:=x.c0
 go_wp2_with fail
 obtain ⟨xs,hx,hv⟩:=id hn
 refine (reftext_any hx hl).mono ?_
 rintro e w1 ⟨rfl,k1⟩
 rw [hv]
 clear u0 u1
 have u1:=(x.below k1).c1
 have u0:=(x.below k1).c0
 have hd:=dec_bound hn
 replace hn:=hn.below k1
 have hB : Below p w w1:=b0.trans (k1.mono (Nat.le_of_lt x.lt))
 clear hx hv
 go_wp2_with fail
 refine (rsign_n ⟨n,hn,rfl⟩ (by omega)).mono ?_
 rintro e w2 ⟨rfl,k2⟩
 have hB2 : Below p w w2:=hB.trans (k2.mono (Nat.le_trans (Nat.le_of_lt x.lt) k1.size))
 by_cases hz : sg s n < 0
 ·rw [cmpI_lt hz]
  have hn' : -sg s n = n:=by cases s <;> simp [sg] at hz ⊢; omega
  go_wp2
  go_ret
  exact ⟨by unfold zText; rw [if_pos hz,hn']; rfl,hp.out.symm ▸ hB2⟩
 ·have hc : ¬ cmpI (sg s n) 0 < 0:=by unfold cmpI; rw [if_neg hz]; split <;> decide
  have hn' : sg s n = n:=by cases s <;> simp [sg] at hz ⊢; omega
  rw [hn'] at hz hc ⊢
  generalize cmpI n 0 = cc at *
  go_wp2
  go_ret
  exact ⟨by unfold zText; rw [if_neg (by omega),hn']; rfl,hp.out.symm ▸ hB2⟩

set_option maxRecDepth 100000 in
set_option maxHeartbeats 6400000 in
theorem rwritten_n {w : World} {ap : Option Addr} {n cp : Nat} {sk : Bool} {ak : Option Addr} {lk ck : Nat} {k : Int} {ps : List (Int × Int)} {B : Nat} (hP : Pn w ap n ps B) (hn : n≤262144) (hk : Zn w sk ak lk ck k) (hlk : lk≤B) (hB : B≤40000000) (htab : Tab w) :
  Calls Tryz.prog 51 #[.agg #[.slice ap n cp,.bool sk,.slice ak lk ck]] w fun e w' => e = .returned (.string ⟨(termT ps k).toArray⟩)∧Below w.heap.size w w':=by
 go_enter Tryz.func51,Tryz.ntmps51
 go_wp2_with fail
 have x:=tb_new w ap n cp sk ak lk ck
 have b0:=below_alloc w (.cells #[.slice ap n cp,.bool sk,.slice ak lk ck] 27)
 replace hP:=hP.below b0
 replace hk:=hk.below b0
 replace htab:=htab.below b0
 generalize w.alloc (.cells #[.slice ap n cp,.bool sk,.slice ak lk ck] 27) = wb at *
 generalize hp : w.heap.size = p at *
 replace b0 : Hid (Below w.heap.size w wb):=hp ▸ b0
 clear hp
 have hall:=hide (partsT_len hP)
 obtain ⟨hpl,hP⟩:=hP
 go_loopw [3,4] (fun sv iv wr => ∃ t : Nat,t≤n∧iv = .int .i64 t∧sv = .string ⟨(partsT ps t).toArray⟩∧Hid (Below wb.heap.size wb wr)) (fun _ iv _ => n - (intOf iv).toNat)
 case atStart => exact ⟨0,Nat.zero_le _,rfl,rfl,Below.refl _ _⟩
 case round =>
  obtain ⟨t,ht,rfl,rfl,kr⟩:=hrel
  have xr:=x.below kr.out
  have y0:=xr.c0
  have y1:=xr.c1
  have y2:=xr.c2
  have hlen : (partsT ps t).length≤105000000000000:=by
   have h1:=hall.out t ht
   have h2 : t * (10 * (B + 1) + 22)≤262144 * 400000032:=Nat.mul_le_mul (by omega) (by omega)
   omega
  by_cases htn : t < n
  ·rcases hP with hP | ⟨bp,op,rfl,hbp,hP⟩
   ·omega
   obtain ⟨s,a,l,c,e0',e1',e2',hz',hl,hv⟩:=hP t (by omega)
   have e0:=(kr.out.cell (p:=⟨bp,op + t * 3,none⟩) hbp).trans e0'
   have e1:=(kr.out.cell (p:=⟨bp,op + t * 3 + 1,none⟩) hbp).trans e1'
   have e2:=(kr.out.cell (p:=⟨bp,op + t * 3 + 2,none⟩) hbp).trans e2'
   have hz:=hz'.below kr.out
   have e0b:=hide e0'
   clear e0' e1' e2' hz'
   have hstep : Hid (partsT ps (t + 1) = partsT ps t ++ partT (t == 0) ps[t]):=(show _ = _ by
    show partsT ps t ++ partT (t == 0) (ps.getD t (0,0)) = _
    rw [List.getD_eq_getElem?_getD,List.getElem?_eq_getElem (by omega)]; rfl)
   generalize ps[t] = pp at *
   obtain ⟨pv,pz⟩:=pp
   dsimp only at *
   have cb:=zb_new wr s a l c
   have kc:=below_alloc wr (.cells #[.bool s,.slice a l c] 24)
   have HH:=hide (And.intro cb (And.intro kc (hz.below kc)))
   have hzd:=hide hz.dec
   replace hv:=hide hv
   clear cb kc hz hP
   go_wp2_with fail
   obtain ⟨cb,kc,hz⟩:=HH.out
   clear HH
   replace kr:=hide (grow_step kc kr.out)
   generalize hwc : wr.alloc (.cells #[.bool s,.slice a l c] 24) = wc at *
   clear hwc kc
   refine (rsign_n hz.zm (by omega)).mono ?_
   rintro e w1 ⟨rfl,k1⟩
   replace cb:=cb.below k1
   replace hz:=hz.below k1
   replace kr:=hide (grow_step k1 kr.out)
   clear k1 e0 e1 e2 y0 y1 y2 xr
   have u0:=cb.c0
   have u1:=cb.c1
   by_cases hneg : pz < 0
   ·skip
    rw [show cmpI pz 0 = -1 from cmpI_lt hneg]
    have hres : Hid (partsT ps (t + 1) = partsT ps t ++ [45] ++ ((if pz.natAbs = 1 then [] else Lib.decDigits pz.natAbs) ++ 118 :: Lib.itoa pv)):=(show _ = _ by
     rw [hstep.out]
     unfold partT
     simp [hneg])
    generalize partsT ps t = PT at *
    clear hstep
    go_wp2_with fail
    refine (rabs_n hz.zm (by omega)).mono ?_
    rintro e w2 ⟨s2,a2,l2,c2,rfl,hz2,k2,hl2⟩
    have mb:=zb_new w2 s2 a2 l2 c2
    have km:=below_alloc w2 (.cells #[.bool s2,.slice a2 l2 c2] 24)
    replace kr:=hide (grow_step km (grow_step k2 kr.out))
    have HH:=hide (And.intro mb (hz2.below km))
    clear mb km k2 hz2 hz u0 u1 cb
    go_wp2_with fail
    obtain ⟨mb,hzm⟩:=HH.out
    clear HH
    generalize w2.alloc (.cells #[.bool s2,.slice a2 l2 c2] 24) = wm at *
    generalize w2.heap.size = q at *
    rw [ba_app PT [45]]
    generalize hbase : PT ++ [45] = base at *
    have hbl : base.length≤105000000000001:=by rw [← hbase]; rw [List.length_append]; simp; omega
    clear hlen hbase
    by_cases h1 : pz.natAbs = 1
    ·have hcc : (cmpI ((pz.natAbs : Nat) : Int) 1 == 0) = true:=by rw [cmpI_eq (by omega)]; rfl
     rw [if_pos h1,List.nil_append] at hres
     go_region_held3 (fun w' => w'.cell? ⟨q,0,none⟩ = some (.bool s2)∧w'.cell? ⟨q,1,none⟩ = some (.slice a2 l2 c2)∧Below wm.heap.size wm w')
      ((refine zqm mb ?_; (with_reducible repeat' first | exact Below.refl _ _ | assumption | refine grow_step (by assumption) ?_ | refine grow_drew ?_ | refine grow_alloc ?_ _ | refine grow_drewN ?_ _)))
      (first | (go_at_call 35; with_reducible refine (rof_n 1 (by decide) (by decide) _).mono ?_; rintro e w3 ⟨s3,a3,l3,c3,rfl,hz3,hg3,hl3⟩) | (go_at_call 69; with_reducible refine (rsame6_n (Zn.zm (Zn.below hzm (by (with_reducible repeat' first | exact Below.refl _ _ | assumption | refine grow_step (by assumption) ?_ | refine grow_drew ?_ | refine grow_alloc ?_ _ | refine grow_drewN ?_ _)))) (Zn.zm (Zn.below hz3 (by (with_reducible repeat' first | exact Below.refl _ _ | assumption | refine grow_step (by assumption) ?_ | refine grow_drew ?_ | refine grow_alloc ?_ _ | refine grow_drewN ?_ _)))) (by omega) (by omega)).mono ?_; rintro e w4 ⟨rfl,hg4⟩; rw [hcc]))
     rename_i hH
     replace kr:=hide (grow_step hH.2.2 kr.out)
     clear hH hcc hg4 hg3 hz3 mb hzm
     have xv:=x.below kr.out
     have y0:=xv.c0
     have z0:=(kr.out.cell (p:=⟨bp,op + t * 3,none⟩) hbp).trans e0b.out
     have tv : Tab _:=htab.below kr.out
     go_wp2_with fail
     refine (itoa_n pv hv.out _ tv).mono ?_
     rintro e w7 ⟨rfl,k7⟩
     replace kr:=hide (grow_step k7 kr.out)
     have hd2:=itoa_len hv.out
     clear k7 y0 z0 tv xv
     generalize Lib.itoa pv = D at *
     go_wp2_with fail
     exact ⟨⟨t + 1,by omega,by go_num,by rw [hres.out]; simp [ba_app],kr⟩,by simp [intOf]; try omega⟩
    ·have hcc : (cmpI ((pz.natAbs : Nat) : Int) 1 == 0) = false:=by rw [beq_eq_false_iff_ne]; intro e; apply h1; unfold cmpI at e; omega
     rw [if_neg h1] at hres
     go_region_held3 (fun w' => w'.cell? ⟨q,0,none⟩ = some (.bool s2)∧w'.cell? ⟨q,1,none⟩ = some (.slice a2 l2 c2)∧Below wm.heap.size wm w')
      ((refine zqm mb ?_; (with_reducible repeat' first | exact Below.refl _ _ | assumption | refine grow_step (by assumption) ?_ | refine grow_drew ?_ | refine grow_alloc ?_ _ | refine grow_drewN ?_ _)))
      (first | (go_at_call 35; with_reducible refine (rof_n 1 (by decide) (by decide) _).mono ?_; rintro e w3 ⟨s3,a3,l3,c3,rfl,hz3,hg3,hl3⟩) | (go_at_call 69; with_reducible refine (rsame6_n (Zn.zm (Zn.below hzm (by (with_reducible repeat' first | exact Below.refl _ _ | assumption | refine grow_step (by assumption) ?_ | refine grow_drew ?_ | refine grow_alloc ?_ _ | refine grow_drewN ?_ _)))) (Zn.zm (Zn.below hz3 (by (with_reducible repeat' first | exact Below.refl _ _ | assumption | refine grow_step (by assumption) ?_ | refine grow_drew ?_ | refine grow_alloc ?_ _ | refine grow_drewN ?_ _)))) (by omega) (by omega)).mono ?_; rintro e w4 ⟨rfl,hg4⟩; rw [hcc]))
     rename_i hH
     replace kr:=hide (grow_step hH.2.2 kr.out)
     have mb4:=mb.below hH.2.2
     have hz4:=hzm.below hH.2.2
     clear hH hcc hg4 hg3 hz3 mb hzm
     have v0:=mb4.c0
     have v1:=mb4.c1
     go_wp2_with fail
     refine (rtextz_n hz4.zm (by omega)).mono ?_
     rintro e w5 ⟨rfl,k5⟩
     rw [zText_abs]
     replace kr:=hide (grow_step k5 kr.out)
     have hzl:=hzd.out
     clear k5 v0 v1 mb4 hz4 hzd
     generalize Lib.decDigits pz.natAbs = Z at *
     have hZl : Z.length≤400000010:=by omega
     clear hzl
     have xv:=x.below kr.out
     have y0:=xv.c0
     have z0:=(kr.out.cell (p:=⟨bp,op + t * 3,none⟩) hbp).trans e0b.out
     have tv : Tab _:=htab.below kr.out
     go_wp2_with fail
     refine (itoa_n pv hv.out _ tv).mono ?_
     rintro e w7 ⟨rfl,k7⟩
     replace kr:=hide (grow_step k7 kr.out)
     have hd2:=itoa_len hv.out
     clear k7 y0 z0 tv xv
     generalize Lib.itoa pv = D at *
     go_wp2_with fail
     exact ⟨⟨t + 1,by omega,by go_num,by rw [hres.out]; simp [ba_app],kr⟩,by simp [intOf]; try omega⟩
   ·have hge : ¬ cmpI pz 0 < 0:=by unfold cmpI; omega
    generalize cmpI pz 0 = cz at *
    by_cases ht0 : t = 0
    ·subst ht0
     rw [Nat.zero_mul,Nat.add_zero] at e0b
     skip
     have hres : Hid (partsT ps (0 + 1) = partsT ps 0 ++ [] ++ ((if pz.natAbs = 1 then [] else Lib.decDigits pz.natAbs) ++ 118 :: Lib.itoa pv)):=(show _ = _ by
      rw [hstep.out]
      unfold partT
      simp [hneg])
     generalize partsT ps 0 = PT at *
     clear hstep
     go_wp2_with fail
     refine (rabs_n hz.zm (by omega)).mono ?_
     rintro e w2 ⟨s2,a2,l2,c2,rfl,hz2,k2,hl2⟩
     have mb:=zb_new w2 s2 a2 l2 c2
     have km:=below_alloc w2 (.cells #[.bool s2,.slice a2 l2 c2] 24)
     replace kr:=hide (grow_step km (grow_step k2 kr.out))
     have HH:=hide (And.intro mb (hz2.below km))
     clear mb km k2 hz2 hz u0 u1 cb
     go_wp2_with fail
     obtain ⟨mb,hzm⟩:=HH.out
     clear HH
     generalize w2.alloc (.cells #[.bool s2,.slice a2 l2 c2] 24) = wm at *
     generalize w2.heap.size = q at *
     replace hres : Hid (partsT ps (0 + 1) = PT ++ ((if pz.natAbs = 1 then [] else Lib.decDigits pz.natAbs) ++ 118 :: Lib.itoa pv)):=(show _ = _ by rw [hres.out]; simp)
     generalize hbase : PT = base at *
     have hbl : base.length≤105000000000001:=by omega
     clear hlen hbase
     by_cases h1 : pz.natAbs = 1
     ·have hcc : (cmpI ((pz.natAbs : Nat) : Int) 1 == 0) = true:=by rw [cmpI_eq (by omega)]; rfl
      rw [if_pos h1,List.nil_append] at hres
      go_region_held3 (fun w' => w'.cell? ⟨q,0,none⟩ = some (.bool s2)∧w'.cell? ⟨q,1,none⟩ = some (.slice a2 l2 c2)∧Below wm.heap.size wm w')
       ((refine zqm mb ?_; (with_reducible repeat' first | exact Below.refl _ _ | assumption | refine grow_step (by assumption) ?_ | refine grow_drew ?_ | refine grow_alloc ?_ _ | refine grow_drewN ?_ _)))
       (first | (go_at_call 35; with_reducible refine (rof_n 1 (by decide) (by decide) _).mono ?_; rintro e w3 ⟨s3,a3,l3,c3,rfl,hz3,hg3,hl3⟩) | (go_at_call 69; with_reducible refine (rsame6_n (Zn.zm (Zn.below hzm (by (with_reducible repeat' first | exact Below.refl _ _ | assumption | refine grow_step (by assumption) ?_ | refine grow_drew ?_ | refine grow_alloc ?_ _ | refine grow_drewN ?_ _)))) (Zn.zm (Zn.below hz3 (by (with_reducible repeat' first | exact Below.refl _ _ | assumption | refine grow_step (by assumption) ?_ | refine grow_drew ?_ | refine grow_alloc ?_ _ | refine grow_drewN ?_ _)))) (by omega) (by omega)).mono ?_; rintro e w4 ⟨rfl,hg4⟩; rw [hcc]))
      rename_i hH
      replace kr:=hide (grow_step hH.2.2 kr.out)
      clear hH hcc hg4 hg3 hz3 mb hzm
      have xv:=x.below kr.out
      have y0:=xv.c0
      have z0:=(kr.out.cell (p:=⟨bp,op,none⟩) hbp).trans e0b.out
      have tv : Tab _:=htab.below kr.out
      go_wp2_with fail
      refine (itoa_n pv hv.out _ tv).mono ?_
      rintro e w7 ⟨rfl,k7⟩
      replace kr:=hide (grow_step k7 kr.out)
      have hd2:=itoa_len hv.out
      clear k7 y0 z0 tv xv
      generalize Lib.itoa pv = D at *
      go_wp2_with fail
      exact ⟨⟨1,by omega,by go_num,by rw [hres.out]; simp [ba_app],kr⟩,by simp [intOf]; try omega⟩
     ·have hcc : (cmpI ((pz.natAbs : Nat) : Int) 1 == 0) = false:=by rw [beq_eq_false_iff_ne]; intro e; apply h1; unfold cmpI at e; omega
      rw [if_neg h1] at hres
      go_region_held3 (fun w' => w'.cell? ⟨q,0,none⟩ = some (.bool s2)∧w'.cell? ⟨q,1,none⟩ = some (.slice a2 l2 c2)∧Below wm.heap.size wm w')
       ((refine zqm mb ?_; (with_reducible repeat' first | exact Below.refl _ _ | assumption | refine grow_step (by assumption) ?_ | refine grow_drew ?_ | refine grow_alloc ?_ _ | refine grow_drewN ?_ _)))
       (first | (go_at_call 35; with_reducible refine (rof_n 1 (by decide) (by decide) _).mono ?_; rintro e w3 ⟨s3,a3,l3,c3,rfl,hz3,hg3,hl3⟩) | (go_at_call 69; with_reducible refine (rsame6_n (Zn.zm (Zn.below hzm (by (with_reducible repeat' first | exact Below.refl _ _ | assumption | refine grow_step (by assumption) ?_ | refine grow_drew ?_ | refine grow_alloc ?_ _ | refine grow_drewN ?_ _)))) (Zn.zm (Zn.below hz3 (by (with_reducible repeat' first | exact Below.refl _ _ | assumption | refine grow_step (by assumption) ?_ | refine grow_drew ?_ | refine grow_alloc ?_ _ | refine grow_drewN ?_ _)))) (by omega) (by omega)).mono ?_; rintro e w4 ⟨rfl,hg4⟩; rw [hcc]))
      rename_i hH
      replace kr:=hide (grow_step hH.2.2 kr.out)
      have mb4:=mb.below hH.2.2
      have hz4:=hzm.below hH.2.2
      clear hH hcc hg4 hg3 hz3 mb hzm
      have v0:=mb4.c0
      have v1:=mb4.c1
      go_wp2_with fail
      refine (rtextz_n hz4.zm (by omega)).mono ?_
      rintro e w5 ⟨rfl,k5⟩
      rw [zText_abs]
      replace kr:=hide (grow_step k5 kr.out)
      have hzl:=hzd.out
      clear k5 v0 v1 mb4 hz4 hzd
      generalize Lib.decDigits pz.natAbs = Z at *
      have hZl : Z.length≤400000010:=by omega
      clear hzl
      have xv:=x.below kr.out
      have y0:=xv.c0
      have z0:=(kr.out.cell (p:=⟨bp,op,none⟩) hbp).trans e0b.out
      have tv : Tab _:=htab.below kr.out
      go_wp2_with fail
      refine (itoa_n pv hv.out _ tv).mono ?_
      rintro e w7 ⟨rfl,k7⟩
      replace kr:=hide (grow_step k7 kr.out)
      have hd2:=itoa_len hv.out
      clear k7 y0 z0 tv xv
      generalize Lib.itoa pv = D at *
      go_wp2_with fail
      exact ⟨⟨1,by omega,by go_num,by rw [hres.out]; simp [ba_app],kr⟩,by simp [intOf]; try omega⟩
    ·have ht1 : (0 : Int) < (t : Int):=by omega
     skip
     have hres : Hid (partsT ps (t + 1) = partsT ps t ++ [43] ++ ((if pz.natAbs = 1 then [] else Lib.decDigits pz.natAbs) ++ 118 :: Lib.itoa pv)):=(show _ = _ by
      rw [hstep.out]
      unfold partT
      simp [hneg,ht0])
     generalize partsT ps t = PT at *
     clear hstep
     go_wp2_with fail
     refine (rabs_n hz.zm (by omega)).mono ?_
     rintro e w2 ⟨s2,a2,l2,c2,rfl,hz2,k2,hl2⟩
     have mb:=zb_new w2 s2 a2 l2 c2
     have km:=below_alloc w2 (.cells #[.bool s2,.slice a2 l2 c2] 24)
     replace kr:=hide (grow_step km (grow_step k2 kr.out))
     have HH:=hide (And.intro mb (hz2.below km))
     clear mb km k2 hz2 hz u0 u1 cb
     go_wp2_with fail
     obtain ⟨mb,hzm⟩:=HH.out
     clear HH
     generalize w2.alloc (.cells #[.bool s2,.slice a2 l2 c2] 24) = wm at *
     generalize w2.heap.size = q at *
     rw [ba_app PT [43]]
     generalize hbase : PT ++ [43] = base at *
     have hbl : base.length≤105000000000001:=by rw [← hbase]; rw [List.length_append]; simp; omega
     clear hlen hbase
     by_cases h1 : pz.natAbs = 1
     ·have hcc : (cmpI ((pz.natAbs : Nat) : Int) 1 == 0) = true:=by rw [cmpI_eq (by omega)]; rfl
      rw [if_pos h1,List.nil_append] at hres
      go_region_held3 (fun w' => w'.cell? ⟨q,0,none⟩ = some (.bool s2)∧w'.cell? ⟨q,1,none⟩ = some (.slice a2 l2 c2)∧Below wm.heap.size wm w')
       ((refine zqm mb ?_; (with_reducible repeat' first | exact Below.refl _ _ | assumption | refine grow_step (by assumption) ?_ | refine grow_drew ?_ | refine grow_alloc ?_ _ | refine grow_drewN ?_ _)))
       (first | (go_at_call 35; with_reducible refine (rof_n 1 (by decide) (by decide) _).mono ?_; rintro e w3 ⟨s3,a3,l3,c3,rfl,hz3,hg3,hl3⟩) | (go_at_call 69; with_reducible refine (rsame6_n (Zn.zm (Zn.below hzm (by (with_reducible repeat' first | exact Below.refl _ _ | assumption | refine grow_step (by assumption) ?_ | refine grow_drew ?_ | refine grow_alloc ?_ _ | refine grow_drewN ?_ _)))) (Zn.zm (Zn.below hz3 (by (with_reducible repeat' first | exact Below.refl _ _ | assumption | refine grow_step (by assumption) ?_ | refine grow_drew ?_ | refine grow_alloc ?_ _ | refine grow_drewN ?_ _)))) (by omega) (by omega)).mono ?_; rintro e w4 ⟨rfl,hg4⟩; rw [hcc]))
      rename_i hH
      replace kr:=hide (grow_step hH.2.2 kr.out)
      clear hH hcc hg4 hg3 hz3 mb hzm
      have xv:=x.below kr.out
      have y0:=xv.c0
      have z0:=(kr.out.cell (p:=⟨bp,op + t * 3,none⟩) hbp).trans e0b.out
      have tv : Tab _:=htab.below kr.out
      go_wp2_with fail
      refine (itoa_n pv hv.out _ tv).mono ?_
      rintro e w7 ⟨rfl,k7⟩
      replace kr:=hide (grow_step k7 kr.out)
      have hd2:=itoa_len hv.out
      clear k7 y0 z0 tv xv
      generalize Lib.itoa pv = D at *
      go_wp2_with fail
      exact ⟨⟨t + 1,by omega,by go_num,by rw [hres.out]; simp [ba_app],kr⟩,by simp [intOf]; try omega⟩
     ·have hcc : (cmpI ((pz.natAbs : Nat) : Int) 1 == 0) = false:=by rw [beq_eq_false_iff_ne]; intro e; apply h1; unfold cmpI at e; omega
      rw [if_neg h1] at hres
      go_region_held3 (fun w' => w'.cell? ⟨q,0,none⟩ = some (.bool s2)∧w'.cell? ⟨q,1,none⟩ = some (.slice a2 l2 c2)∧Below wm.heap.size wm w')
       ((refine zqm mb ?_; (with_reducible repeat' first | exact Below.refl _ _ | assumption | refine grow_step (by assumption) ?_ | refine grow_drew ?_ | refine grow_alloc ?_ _ | refine grow_drewN ?_ _)))
       (first | (go_at_call 35; with_reducible refine (rof_n 1 (by decide) (by decide) _).mono ?_; rintro e w3 ⟨s3,a3,l3,c3,rfl,hz3,hg3,hl3⟩) | (go_at_call 69; with_reducible refine (rsame6_n (Zn.zm (Zn.below hzm (by (with_reducible repeat' first | exact Below.refl _ _ | assumption | refine grow_step (by assumption) ?_ | refine grow_drew ?_ | refine grow_alloc ?_ _ | refine grow_drewN ?_ _)))) (Zn.zm (Zn.below hz3 (by (with_reducible repeat' first | exact Below.refl _ _ | assumption | refine grow_step (by assumption) ?_ | refine grow_drew ?_ | refine grow_alloc ?_ _ | refine grow_drewN ?_ _)))) (by omega) (by omega)).mono ?_; rintro e w4 ⟨rfl,hg4⟩; rw [hcc]))
      rename_i hH
      replace kr:=hide (grow_step hH.2.2 kr.out)
      have mb4:=mb.below hH.2.2
      have hz4:=hzm.below hH.2.2
      clear hH hcc hg4 hg3 hz3 mb hzm
      have v0:=mb4.c0
      have v1:=mb4.c1
      go_wp2_with fail
      refine (rtextz_n hz4.zm (by omega)).mono ?_
      rintro e w5 ⟨rfl,k5⟩
      rw [zText_abs]
      replace kr:=hide (grow_step k5 kr.out)
      have hzl:=hzd.out
      clear k5 v0 v1 mb4 hz4 hzd
      generalize Lib.decDigits pz.natAbs = Z at *
      have hZl : Z.length≤400000010:=by omega
      clear hzl
      have xv:=x.below kr.out
      have y0:=xv.c0
      have z0:=(kr.out.cell (p:=⟨bp,op + t * 3,none⟩) hbp).trans e0b.out
      have tv : Tab _:=htab.below kr.out
      go_wp2_with fail
      refine (itoa_n pv hv.out _ tv).mono ?_
      rintro e w7 ⟨rfl,k7⟩
      replace kr:=hide (grow_step k7 kr.out)
      have hd2:=itoa_len hv.out
      clear k7 y0 z0 tv xv
      generalize Lib.itoa pv = D at *
      go_wp2_with fail
      exact ⟨⟨t + 1,by omega,by go_num,by rw [hres.out]; simp [ba_app],kr⟩,by simp [intOf]; try omega⟩
  ·obtain rfl : t = n:=by omega
   have htt : Hid (termT ps k = partsT ps t ++ constT k):=(show _ = _ by unfold termT; rw [hpl])
   have hkr:=hk.below kr.out
   have hdk:=hide hkr.dec
   generalize partsT ps t = PT at *
   clear hP hk hall
   go_wp2_with fail
   refine (rsign_n hkr.zm (by omega)).mono ?_
   rintro e w1 ⟨rfl,k1⟩
   replace hkr:=hkr.below k1
   have x1:=xr.below k1
   replace kr:=hide (grow_step k1 kr.out)
   clear k1 y0 y1 y2 xr
   have y1:=x1.c1
   have y2:=x1.c2
   have kf : Hid (Below w.heap.size w w1):=grow_step kr.out b0.out
   by_cases hk0 : k = 0
   ·subst hk0
    rw [show cmpI 0 0 = 0 from rfl]
    go_wp2
    go_ret
    exact ⟨by rw [htt.out]; simp [constT],kf.out⟩
   by_cases hkn : k < 0
   ·rw [cmpI_lt hkn]
    have hzt : Hid (zText k = ⟨(45 :: Lib.decDigits k.natAbs).toArray⟩):=(show _ = _ by unfold zText; rw [if_pos hkn,ba_cons,show (-k).toNat = k.natAbs by omega])
    replace htt : Hid (termT ps k = PT ++ 45 :: Lib.decDigits k.natAbs):=(show _ = _ by rw [htt.out]; unfold constT; rw [if_neg hk0,if_pos hkn])
    have hdl:=hdk.out
    go_wp2_with fail
    refine (rtextz_n hkr.zm (by omega)).mono ?_
    rintro e w2 ⟨rfl,k2⟩
    rw [hzt.out]
    replace kf:=hide (grow_step k2 kf.out)
    clear k2 hdk hzt
    generalize Lib.decDigits k.natAbs = Z at *
    have hZl : Z.length≤400000010:=by omega
    go_wp2
    go_ret
    exact ⟨by rw [htt.out]; simp [ba_app],kf.out⟩
   ·rw [cmpI_gt (show 0 < k by omega)]
    have hzt : Hid (zText k = ⟨(Lib.decDigits k.natAbs).toArray⟩):=(show _ = _ by unfold zText; rw [if_neg hkn,show k.toNat = k.natAbs by omega])
    replace htt : Hid (termT ps k = PT ++ 43 :: Lib.decDigits k.natAbs):=(show _ = _ by rw [htt.out]; unfold constT; rw [if_neg hk0,if_neg hkn])
    have hdl:=hdk.out
    go_wp2_with fail
    refine (rtextz_n hkr.zm (by omega)).mono ?_
    rintro e w2 ⟨rfl,k2⟩
    rw [hzt.out]
    replace kf:=hide (grow_step k2 kf.out)
    clear k2 hdk hzt
    generalize Lib.decDigits k.natAbs = Z at *
    have hZl : Z.length≤400000010:=by omega
    go_wp2
    go_ret
    exact ⟨by rw [htt.out]; simp [ba_app],kf.out⟩
end Go.Proofs.YtepdckgfolkjjaaGreatDoor

namespace Go.Proofs.YtepdckgfolkjjaaGreatDoor
open Go.RowKit Go.Sort Go.Shelf
open Tm At

theorem termT_lenR {w : World} {ap : Option Addr} {n : Nat} {ps : List (Int × Int)} {B : Nat} {s : Bool} {a : Option Addr} {l c : Nat} {k : Int} (hP : Pn w ap n ps B) (hk : Zn w s a l c k) (hn : n≤262144) (hl : l≤B) (hB : B≤40000000) : (termT ps k).length≤105000000000000:=by
 have h1:=partsT_len hP n (Nat.le_refl _)
 have h2:=hk.dec
 have h3 : n * (10 * (B + 1) + 22)≤262144 * 400000032:=Nat.mul_le_mul hn (by omega)
 have h4 : (constT k).length≤400000011:=by
  unfold constT
  split
  ·simp
  ·simp; omega
 unfold termT
 rw [List.length_append,hP.1]
 omega
theorem zText_sizeR {w : World} {s : Bool} {a : Option Addr} {l c : Nat} {z : Int} (h : Zn w s a l c z) (hl : l≤40000000) : (zText z).size≤400000011:=by
 have h2:=h.dec
 unfold zText
 split
 ·rw [ba_cons,size_list]
  have h3 : (-z).toNat = z.natAbs:=by omega
  rw [h3]; simp; omega
 ·rw [size_list]
  have h3 : z.toNat = z.natAbs:=by omega
  rw [h3]; omega

set_option maxRecDepth 100000 in
set_option maxHeartbeats 6400000 in
theorem rtext6_n {w : World} {kd : Int} {sd : Bool} {ad : Option Addr} {ld cd : Nat} {ap : Option Addr} {np cp : Nat} {sk : Bool} {ak : Option Addr} {lk ck : Nat} {d k : Int} {ps : List (Int × Int)} {B : Nat}
  (hd : Zm w sd ad ld cd d) (hld : ld≤B) (hP : Pr w ap np ps B) (hk : Zm w sk ak lk ck k) (hlk : lk≤B) (hn : np≤262144) (hB : B + np≤4194000) (htab : Tab w) :
  Calls Tryz.prog 19 #[.agg #[.int .i64 kd,.bool sd,.slice ad ld cd,.slice ap np cp,.bool sk,.slice ak lk ck]] w fun e w' => e = .returned (.string (atomB (formA kd d (nz (lays [] ps)) k)))∧Below w.heap.size w w':=by
 go_enter Tryz.func19,Tryz.ntmps19
 go_wp2_with fail
 have x:=AB.new w kd sd ad ld cd ap np cp sk ak lk ck
 have b0:=below_alloc w (.cells #[.int .i64 kd,.bool sd,.slice ad ld cd,.slice ap np cp,.bool sk,.slice ak lk ck] 29)
 replace hd:=hd.below b0
 replace hP:=hP.below b0
 replace hk:=hk.below b0
 have htab0:=hide htab
 clear htab
 generalize w.alloc (.cells #[.int .i64 kd,.bool sd,.slice ad ld cd,.slice ap np cp,.bool sk,.slice ak lk ck] 29) = wb at *
 generalize hp : w.heap.size = p at *
 replace b0 : Hid (Below w.heap.size w wb):=hp ▸ b0
 replace hp:=hide hp
 have hnps:=hP.1
 refine Calls.mono (rnorm6_n hd hld hP hk hlk hn hB) ?_
 rintro e w1 ⟨hA,k1⟩
 have kk:=hide (grow_step k1 b0.out)
 clear hd hP hk x k1
 have hS:=std_lays ps
 cases hf : formA kd d (nz (lays [] ps)) k with
 | inr er =>
  rw [hf] at hA
  have her:=formA_er hf
  have he : _ = _:=hA
  subst he
  have kf:=hide (grow_alloc kk.out (.cells #[.int .i64 0,.bool false,.slice none 0 0,.slice none 0 0,.bool false,.slice none 0 0] 29))
  replace hf:=hide hf
  clear hA kk hS
  rcases her with rfl | rfl
  ·go_wp2
   go_ret
   exact ⟨by rw [hf.out]; rfl,kf.out⟩
  ·go_wp2
   go_ret
   exact ⟨by rw [hf.out]; rfl,kf.out⟩
 | inl f =>
  rw [hf] at hA
  have hfit:=formA_fit hS hf
  have hlen : f.ps.length≤np:=by have h1:=(formA_prt hS hf).1; have h2:=std_len hS (fun v => csum_nzl ps v); omega
  have h5:=hfit.kind5
  obtain ⟨fk,fd,fps,fkk⟩:=f
  obtain ⟨sd1,ad1,ld1,cd1,ap1,np1,cp1,sk1,ak1,lk1,ck1,rfl,hz1,hlz1,hPn1,hnp1,hk1,hlk1,hnew1⟩:=hA
  dsimp only at hz1 hPn1 hk1 hlen h5
  have hnp2 : np1≤262144:=by have:=hPn1.1; omega
  have sa:=below_alloc w1 (.cells #[.int .i64 fk,.bool sd1,.slice ad1 ld1 cd1,.slice ap1 np1 cp1,.bool sk1,.slice ak1 lk1 ck1] 29)
  have x2:=AB.new w1 fk sd1 ad1 ld1 cd1 ap1 np1 cp1 sk1 ak1 lk1 ck1
  have HH:=hide (And.intro (hz1.below sa) (And.intro (hk1.below sa) (And.intro (hPn1.below sa) (And.intro x2 (And.intro (htab0.out.below (grow_step sa kk.out)) (grow_step sa kk.out))))))
  have hTl:=termT_lenR hPn1 hk1 hnp2 hlk1 (by omega)
  obtain ⟨Zl,hzt,hZl⟩ : ∃ Zl : List UInt8,Hid (zText fd = ⟨Zl.toArray⟩)∧Zl.length≤400000011:=⟨(zText fd).data.toList,(show _ = _ by simp),(show _≤_ from zText_sizeR hz1 (by omega))⟩
  obtain ⟨TT,hTT⟩ : ∃ TT : List UInt8,Hid (termT fps fkk = TT):=⟨_,(show _ = _ from rfl)⟩
  rw [hTT.out] at hTl
  have i0:=x2.c0
  replace hf:=hide hf
  clear hz1 hk1 hPn1 hnew1 kk sa x2 hS hfit
  rcases h5 with rfl | rfl | rfl | rfl | rfl
  ·go_wp2
   go_ret
   exact ⟨by rw [hf.out]; simp [atomB],HH.out.2.2.2.2.2⟩
  ·go_wp2
   go_ret
   exact ⟨by rw [hf.out]; simp [atomB],HH.out.2.2.2.2.2⟩
  ·have i3:=HH.out.2.2.2.1.c3
   have i4:=HH.out.2.2.2.1.c4
   have i5:=HH.out.2.2.2.1.c5
   go_wp2_with fail
   clear i3 i4 i5
   obtain ⟨hz2,hk2,hP2,x2,ht2,kw2⟩:=HH.out
   clear HH i0
   generalize w1.alloc (.cells #[.int .i64 2,.bool sd1,.slice ad1 ld1 cd1,.slice ap1 np1 cp1,.bool sk1,.slice ak1 lk1 ck1] 29) = w2 at *
   generalize w1.heap.size = q at *
   refine (rwritten_n hP2 (by omega) hk2 hlk1 (by omega) ht2).mono ?_
   rintro e w5 ⟨rfl,k5⟩
   rw [hTT.out]
   have kf:=hide (kw2.trans (k5.mono kw2.size))
   clear k5
   go_wp2
   go_ret
   exact ⟨by rw [hf.out]; simp [atomB,hTT.out],kf.out⟩
  ·go_wp2_with fail
   obtain ⟨hz2,hk2,hP2,x2,ht2,kw2⟩:=HH.out
   clear HH i0
   generalize w1.alloc (.cells #[.int .i64 3,.bool sd1,.slice ad1 ld1 cd1,.slice ap1 np1 cp1,.bool sk1,.slice ak1 lk1 ck1] 29) = w2 at *
   generalize w1.heap.size = q at *
   have q1:=x2.c1
   have q2:=x2.c2
   have q3:=x2.c3
   have q4:=x2.c4
   have q5:=x2.c5
   go_region_with (first | (go_at_call 52; with_reducible refine Calls.mono (rtextz_n (Zn.zm (Zn.below hz2 (by (with_reducible repeat' first | exact Below.refl _ _ | assumption | refine grow_step (by assumption) ?_ | refine grow_drew ?_ | refine grow_alloc ?_ _ | refine grow_drewN ?_ _)))) (by omega)) ?_; rintro e w4 ⟨rfl,hg4⟩; rw [hzt.out]; obtain ⟨m1,m2,m3,m4,m5, -⟩:=aq6 x2 (show Below w2.heap.size w2 w4 by (with_reducible repeat' first | exact Below.refl _ _ | assumption | refine grow_step (by assumption) ?_ | refine grow_drew ?_ | refine grow_alloc ?_ _ | refine grow_drewN ?_ _))) | (go_at_call 51; with_reducible refine Calls.mono (rwritten_n (Pn.below hP2 (by (with_reducible repeat' first | exact Below.refl _ _ | assumption | refine grow_step (by assumption) ?_ | refine grow_drew ?_ | refine grow_alloc ?_ _ | refine grow_drewN ?_ _))) (by omega) (Zn.below hk2 (by (with_reducible repeat' first | exact Below.refl _ _ | assumption | refine grow_step (by assumption) ?_ | refine grow_drew ?_ | refine grow_alloc ?_ _ | refine grow_drewN ?_ _))) hlk1 (by omega) (Tab.below ht2 (by (with_reducible repeat' first | exact Below.refl _ _ | assumption | refine grow_step (by assumption) ?_ | refine grow_drew ?_ | refine grow_alloc ?_ _ | refine grow_drewN ?_ _)))) ?_; rintro e w5 ⟨rfl,hg5⟩; rw [hTT.out]; obtain ⟨r1,r2,r3,r4,r5, -⟩:=aq6 x2 (show Below w2.heap.size w2 w5 by (with_reducible repeat' first | exact Below.refl _ _ | assumption | refine grow_step (by assumption) ?_ | refine grow_drew ?_ | refine grow_alloc ?_ _ | refine grow_drewN ?_ _))))
   all_goals
    go_wp2
    go_ret
    exact ⟨by rw [hf.out]; refine congrArg _ (congrArg _ (ByteArray.ext ?_)); simp [atomB,ByteArray.data_append,hzt.out,hTT.out],kw2.trans (Below.mono (show Below w2.heap.size w2 _ by (with_reducible repeat' first | exact Below.refl _ _ | assumption | refine grow_step (by assumption) ?_ | refine grow_drew ?_ | refine grow_alloc ?_ _ | refine grow_drewN ?_ _)) kw2.size)⟩
  ·go_wp2_with fail
   obtain ⟨hz2,hk2,hP2,x2,ht2,kw2⟩:=HH.out
   clear HH i0
   generalize w1.alloc (.cells #[.int .i64 4,.bool sd1,.slice ad1 ld1 cd1,.slice ap1 np1 cp1,.bool sk1,.slice ak1 lk1 ck1] 29) = w2 at *
   generalize w1.heap.size = q at *
   have q1:=x2.c1
   have q2:=x2.c2
   have q3:=x2.c3
   have q4:=x2.c4
   have q5:=x2.c5
   go_region_with (first | (go_at_call 52; with_reducible refine Calls.mono (rtextz_n (Zn.zm (Zn.below hz2 (by (with_reducible repeat' first | exact Below.refl _ _ | assumption | refine grow_step (by assumption) ?_ | refine grow_drew ?_ | refine grow_alloc ?_ _ | refine grow_drewN ?_ _)))) (by omega)) ?_; rintro e w4 ⟨rfl,hg4⟩; rw [hzt.out]; obtain ⟨m1,m2,m3,m4,m5, -⟩:=aq6 x2 (show Below w2.heap.size w2 w4 by (with_reducible repeat' first | exact Below.refl _ _ | assumption | refine grow_step (by assumption) ?_ | refine grow_drew ?_ | refine grow_alloc ?_ _ | refine grow_drewN ?_ _))) | (go_at_call 51; with_reducible refine Calls.mono (rwritten_n (Pn.below hP2 (by (with_reducible repeat' first | exact Below.refl _ _ | assumption | refine grow_step (by assumption) ?_ | refine grow_drew ?_ | refine grow_alloc ?_ _ | refine grow_drewN ?_ _))) (by omega) (Zn.below hk2 (by (with_reducible repeat' first | exact Below.refl _ _ | assumption | refine grow_step (by assumption) ?_ | refine grow_drew ?_ | refine grow_alloc ?_ _ | refine grow_drewN ?_ _))) hlk1 (by omega) (Tab.below ht2 (by (with_reducible repeat' first | exact Below.refl _ _ | assumption | refine grow_step (by assumption) ?_ | refine grow_drew ?_ | refine grow_alloc ?_ _ | refine grow_drewN ?_ _)))) ?_; rintro e w5 ⟨rfl,hg5⟩; rw [hTT.out]; obtain ⟨r1,r2,r3,r4,r5, -⟩:=aq6 x2 (show Below w2.heap.size w2 w5 by (with_reducible repeat' first | exact Below.refl _ _ | assumption | refine grow_step (by assumption) ?_ | refine grow_drew ?_ | refine grow_alloc ?_ _ | refine grow_drewN ?_ _))))
   all_goals
    go_wp2
    go_ret
    exact ⟨by rw [hf.out]; refine congrArg _ (congrArg _ (ByteArray.ext ?_)); simp [atomB,ByteArray.data_append,hzt.out,hTT.out],kw2.trans (Below.mono (show Below w2.heap.size w2 _ by (with_reducible repeat' first | exact Below.refl _ _ | assumption | refine grow_step (by assumption) ?_ | refine grow_drew ?_ | refine grow_alloc ?_ _ | refine grow_drewN ?_ _)) kw2.size)⟩
end Go.Proofs.YtepdckgfolkjjaaGreatDoor

namespace Go.Proofs.YtepdckgfolkjjaaGreatDoor
open Go.RowKit Go.Sort Go.Shelf
open Tm At

theorem ho_form {e : Ending} {f : Atm ⊕ Int} {vs : List (Int × Int)} (h : HO e f vs) : ∃ b er,e = .returned (.tuple #[.bool b,.int .i64 er]):=by
 cases f with
 | inr er => exact ⟨_,_,h⟩
 | inl f =>
  rcases h with ⟨-,h⟩ | ⟨-,b,h, -⟩
  ·exact ⟨_,_,h⟩
  ·exact ⟨_,_,h⟩
theorem ho_unique {e e' : Ending} {f : Atm ⊕ Int} {vs : List (Int × Int)} (h : HO e f vs) (h' : HO e' f vs) : e = e':=by
 cases f with
 | inr er => exact Eq.trans h (Eq.symm h')
 | inl f =>
  rcases h with ⟨h1,h⟩ | ⟨h1,b,h,hb⟩ <;> rcases h' with ⟨h2,h'⟩ | ⟨h2,b',h',hb'⟩
  ·rw [h,h']
  ·exact absurd h2 h1
  ·exact absurd h1 h2
  ·have : b = b':=by
    cases b <;> cases b' <;> simp_all
   rw [h,h',this]

set_option maxRecDepth 100000 in
set_option maxHeartbeats 6400000 in
theorem atomLooks_walk {w : World} {kd : Int} {sd : Bool} {ad : Option Addr} {ld cd : Nat} {ap : Option Addr} {np cp : Nat} {sk : Bool} {ak : Option Addr} {lk ck : Nat} {d k : Int} {ps : List (Int × Int)} {kd2 : Int} {sd2 : Bool} {ad2 : Option Addr} {ld2 cd2 : Nat} {ap2 : Option Addr} {np2 cp2 : Nat} {sk2 : Bool} {ak2 : Option Addr} {lk2 ck2 : Nat} {d2 k2 : Int} {qs : List (Int × Int)} {B : Nat} {ad3 : Option Addr} {n3 cp3 : Nat} {vs : List (Int × Int)}
  (hd : Zm w sd ad ld cd d) (hld : ld≤B) (hP : Pr w ap np ps B) (hk : Zm w sk ak lk ck k) (hlk : lk≤B) (hn : np≤209716) (hd2 : Zm w sd2 ad2 ld2 cd2 d2) (hld2 : ld2≤B) (hP2 : Pr w ap2 np2 qs B) (hk2 : Zm w sk2 ak2 lk2 ck2 k2) (hlk2 : lk2≤B) (hn2 : np2≤209716) (hV : Pr w ad3 n3 vs B) (hn3 : n3≤B) (hB : B≤1048576) (htab : Tab w) :
  Calls Tryz.prog 4 #[.agg #[.int .i64 kd,.bool sd,.slice ad ld cd,.slice ap np cp,.bool sk,.slice ak lk ck],.agg #[.int .i64 kd2,.bool sd2,.slice ad2 ld2 cd2,.slice ap2 np2 cp2,.bool sk2,.slice ak2 lk2 ck2],.slice ad3 n3 cp3] w fun x w' => x = .returned (.bool true)∧Below w.heap.size w w':=by
 go_enter Tryz.func4,Tryz.ntmps4
 go_wp2_with fail
 have x:=(AB.new w kd sd ad ld cd ap np cp sk ak lk ck).below (below_alloc _ (.cells #[.int .i64 kd2,.bool sd2,.slice ad2 ld2 cd2,.slice ap2 np2 cp2,.bool sk2,.slice ak2 lk2 ck2] 29))
 have y:=AB.new (w.alloc (.cells #[.int .i64 kd,.bool sd,.slice ad ld cd,.slice ap np cp,.bool sk,.slice ak lk ck] 29)) kd2 sd2 ad2 ld2 cd2 ap2 np2 cp2 sk2 ak2 lk2 ck2
 rw [show (w.alloc (.cells #[.int .i64 kd,.bool sd,.slice ad ld cd,.slice ap np cp,.bool sk,.slice ak lk ck] 29)).heap.size = w.heap.size + 1 from by simp] at y
 have b0 : Below w.heap.size w ((w.alloc (.cells #[.int .i64 kd,.bool sd,.slice ad ld cd,.slice ap np cp,.bool sk,.slice ak lk ck] 29)).alloc (.cells #[.int .i64 kd2,.bool sd2,.slice ad2 ld2 cd2,.slice ap2 np2 cp2,.bool sk2,.slice ak2 lk2 ck2] 29)):=below_alloc' (below_alloc _ _) _
 generalize (w.alloc (.cells #[.int .i64 kd,.bool sd,.slice ad ld cd,.slice ap np cp,.bool sk,.slice ak lk ck] 29)).alloc (.cells #[.int .i64 kd2,.bool sd2,.slice ad2 ld2 cd2,.slice ap2 np2 cp2,.bool sk2,.slice ak2 lk2 ck2] 29) = wb at *
 replace hd:=hide (hd.below b0)
 replace hP:=hide (hP.below b0)
 replace hk:=hide (hk.below b0)
 replace hd2:=hide (hd2.below b0)
 replace hP2:=hide (hP2.below b0)
 replace hk2:=hide (hk2.below b0)
 replace hV:=hide (hV.below b0)
 replace htab:=hide (htab.below b0)
 generalize hp : w.heap.size = p at *
 replace b0 : Hid (Below w.heap.size w wb):=hp ▸ b0
 clear hp
 generalize p + 1 = r at *
 refine (awake6_n wb htab.out).mono ?_
 rintro e w1 ⟨rfl,k1⟩
 have xk:=x.below k1
 have yk:=y.below k1
 replace k1:=hide k1
 have u0:=xk.c0
 have u1:=xk.c1
 have u2:=xk.c2
 have u3:=xk.c3
 have u4:=xk.c4
 have u5:=xk.c5
 have v0:=yk.c0
 have v1:=yk.c1
 have v2:=yk.c2
 have v3:=yk.c3
 have v4:=yk.c4
 have v5:=yk.c5
 clear xk yk
 go_wp2_with fail
 refine Calls.mono (aorder_n (hd.out.below k1.out) hld (hP.out.below k1.out) (hk.out.below k1.out) hlk (hd2.out.below k1.out) hld2 (hP2.out.below k1.out) (hk2.out.below k1.out) hlk2 (by omega) (by omega)) ?_
 rintro e w2 ⟨ps',qs',rfl,hS1,hS2,hc1,hc2,g2⟩
 obtain rfl : ps' = nz (lays [] ps):=std_unique hS1 (std_lays ps) (fun v => by rw [hc1,csum_nzl])
 obtain rfl : qs' = nz (lays [] qs):=std_unique hS2 (std_lays qs) (fun v => by rw [hc2,csum_nzl])
 replace g2:=hide (grow_step g2 k1.out)
 clear hS1 hS2 hc1 hc2 k1 u0 u1 u2 u3 u4 u5 v0 v1 v2 v3 v4 v5
 have xk:=x.below g2.out
 have yk:=y.below g2.out
 have u0:=xk.c0
 have u1:=xk.c1
 have u2:=xk.c2
 have u3:=xk.c3
 have u4:=xk.c4
 have u5:=xk.c5
 have v0:=yk.c0
 have v1:=yk.c1
 have v2:=yk.c2
 have v3:=yk.c3
 have v4:=yk.c4
 have v5:=yk.c5
 clear xk yk
 go_wp2_with fail
 generalize hO : ordA kd kd2 d d2 (nz (lays [] ps)) (nz (lays [] qs)) k k2 = O at *
 replace hO:=hide hO
 refine Calls.mono (aholds_n (hd.out.below g2.out) hld (hP.out.below g2.out) (hk.out.below g2.out) hlk (by omega) (by omega) (hV.out.below g2.out) (by omega) (by omega)) ?_
 rintro e w3 ⟨q3,hS,hc,hH,g3⟩
 obtain rfl : q3 = nz (lays [] ps):=std_unique hS (std_lays ps) (fun v => by rw [hc,csum_nzl])
 obtain ⟨b1,er1,rfl⟩:=ho_form hH
 replace hH:=hide hH
 replace g3:=hide (grow_step g3 g2.out)
 clear hS hc g2 u0 u1 u2 u3 u4 u5 v0 v1 v2 v3 v4 v5
 have xk:=x.below g3.out
 have yk:=y.below g3.out
 have u0:=xk.c0
 have u1:=xk.c1
 have u2:=xk.c2
 have u3:=xk.c3
 have u4:=xk.c4
 have u5:=xk.c5
 have v0:=yk.c0
 have v1:=yk.c1
 have v2:=yk.c2
 have v3:=yk.c3
 have v4:=yk.c4
 have v5:=yk.c5
 clear xk yk
 go_wp2_with fail
 refine Calls.mono (rholds6_n (hd.out.below g3.out) hld (hP.out.below g3.out) (hk.out.below g3.out) hlk (by omega) (by omega) (hV.out.below g3.out) (by omega) (by omega)) ?_
 rintro e w4 ⟨hH4,g4⟩
 obtain rfl:=ho_unique hH4 hH.out
 replace g4:=hide (grow_step g4 g3.out)
 clear hH hH4 g3 u0 u1 u2 u3 u4 u5 v0 v1 v2 v3 v4 v5
 have xk:=x.below g4.out
 have yk:=y.below g4.out
 have u0:=xk.c0
 have u1:=xk.c1
 have u2:=xk.c2
 have u3:=xk.c3
 have u4:=xk.c4
 have u5:=xk.c5
 have v0:=yk.c0
 have v1:=yk.c1
 have v2:=yk.c2
 have v3:=yk.c3
 have v4:=yk.c4
 have v5:=yk.c5
 clear xk yk
 go_wp2_with fail
 refine Calls.mono (atext_n (hd.out.below g4.out) hld (hP.out.below g4.out) (hk.out.below g4.out) hlk (by omega) (by omega) (htab.out.below g4.out)) ?_
 rintro e w5 ⟨q5,hS,hc,rfl,g5⟩
 obtain rfl : q5 = nz (lays [] ps):=std_unique hS (std_lays ps) (fun v => by rw [hc,csum_nzl])
 generalize hT : atomB (formA kd d (nz (lays [] ps)) k) = T at *
 replace hT:=hide hT
 replace g5:=hide (grow_step g5 g4.out)
 clear hS hc g4 u0 u1 u2 u3 u4 u5 v0 v1 v2 v3 v4 v5
 have xk:=x.below g5.out
 have yk:=y.below g5.out
 have u0:=xk.c0
 have u1:=xk.c1
 have u2:=xk.c2
 have u3:=xk.c3
 have u4:=xk.c4
 have u5:=xk.c5
 have v0:=yk.c0
 have v1:=yk.c1
 have v2:=yk.c2
 have v3:=yk.c3
 have v4:=yk.c4
 have v5:=yk.c5
 clear xk yk
 go_wp2_with fail
 refine Calls.mono (rorder6_n (hd.out.below g5.out) hld (hP.out.below g5.out) (hk.out.below g5.out) hlk (hd2.out.below g5.out) hld2 (hP2.out.below g5.out) (hk2.out.below g5.out) hlk2 (by omega) (by omega)) ?_
 rintro e w6 ⟨rfl,g6⟩
 rw [hO.out]
 replace g6:=hide (grow_step g6 g5.out)
 clear g5 u0 u1 u2 u3 u4 u5 v0 v1 v2 v3 v4 v5
 have xk:=x.below g6.out
 have u0:=xk.c0
 have u1:=xk.c1
 have u2:=xk.c2
 have u3:=xk.c3
 have u4:=xk.c4
 have u5:=xk.c5
 clear xk
 go_wp2_with fail
 refine Calls.mono (rtext6_n (hd.out.below g6.out) hld (hP.out.below g6.out) (hk.out.below g6.out) hlk (by omega) (by omega) (htab.out.below g6.out)) ?_
 rintro e w7 ⟨rfl,g7⟩
 rw [hT.out]
 have kf:=hide (grow_step (grow_step g7 g6.out) b0.out)
 clear g7 g6 u0 u1 u2 u3 u4 u5
 go_wp2
 go_ret
 exact ⟨by simp,kf.out⟩
end Go.Proofs.YtepdckgfolkjjaaGreatDoor
