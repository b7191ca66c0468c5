/-
 Several texts in one: BB,B9,BJ,BC.
-/
import Derived.Test.YtepdckgfolkjjaaGreatDoorR29
import Derived.Test.YtepdckgfolkjjaaGreatDoorR20
import Derived.Test.YtepdckgfolkjjaaGreatDoorR19
import Derived.Test.YtepdckgfolkjjaaGreatDoorR24
import Derived.Test.YtepdckgfolkjjaaGreatDoorR17
import Derived.Test.YtepdckgfolkjjaaGreatDoorR16
import Derived.Test.YtepdckgfolkjjaaGreatDoorR10
namespace Go.Proofs.YtepdckgfolkjjaaGreatDoor
open Go.RowKit Go.Sort Go.Shelf
open Tm At

theorem formA_er {kd d : Int} {qs : List (Int × Int)} {k er : Int} (h : formA kd d qs k = .inr er) : er = 11 ∨ er = 1:=by
 unfold formA at h
 split at h
 ·cases h
 ·split at h
  ·cases h
  ·split at h
   ·split at h
    ·cases h; exact .inl rfl
    ·cases h
   ·cases h; exact .inr rfl
theorem cmpI_pos (X : Int) : 0 < cmpI X 0 ↔ 0 < X:=by
 unfold cmpI
 split <;> (try split) <;> omega
theorem At.Fit.kind5 {a : Atm} (h : Fit a) : a.kind = 0 ∨ a.kind = 1 ∨ a.kind = 2 ∨ a.kind = 3 ∨ a.kind = 4:=by
 have:=h.kinds
 omega
def HO (e : Ending) (f : Atm ⊕ Int) (vs : List (Int × Int)) : Prop:=match f with
 | .inr er => e = .returned (.tuple #[.bool false,.int .i64 er])
 | .inl f => (¬ Tot f.ps vs∧e = .returned (.tuple #[.bool false,.int .i64 170])) ∨ (Tot f.ps vs∧∃ b,e = .returned (.tuple #[.bool b,.int .i64 0])∧(b = true ↔ Sat f (val1 vs)))

set_option maxRecDepth 100000 in
set_option maxHeartbeats 6400000 in
theorem aholds_n {w : World} {kd : Int} {sd : Bool} {ad : Option Addr} {ld cd : Nat} {ap : Option Addr} {np cp : Nat} {sk : Bool} {ak : Option Addr} {lk ck : Nat} {d k : Int} {ps : List (Int × Int)} {B : Nat} {ad2 : Option Addr} {n2 cp2 : Nat} {vs : List (Int × Int)} {B2 : Nat}
  (hd : Zm w sd ad ld cd d) (hld : ld≤B) (hP : Pr w ap np ps B) (hk : Zm w sk ak lk ck k) (hlk : lk≤B) (hn : np≤262144) (hB : B + np + 1≤4194000) (hV : Pr w ad2 n2 vs B2) (hn2 : n2≤16777216) (hB2 : B2≤16777216) :
  Calls Tryz.prog 15 #[.agg #[.int .i64 kd,.bool sd,.slice ad ld cd,.slice ap np cp,.bool sk,.slice ak lk ck],.slice ad2 n2 cp2] w fun e w' => ∃ qs,Std qs∧(∀ v,csum qs v = csum ps v)∧HO e (formA kd d qs k) vs∧Below w.heap.size w w':=by
 go_enter Tryz.func15,Tryz.ntmps15
 go_wp2_with fail
 have x:=AB.new w kd sd ad ld cd ap np cp sk ak lk ck
 have b0:=below_alloc w (.cells #[.int .i64 kd,.bool sd,.slice ad ld cd,.slice ap np cp,.bool sk,.slice ak lk ck] 29)
 replace hd:=hd.below b0
 replace hP:=hP.below b0
 replace hk:=hk.below b0
 replace hV:=hide hV
 generalize w.alloc (.cells #[.int .i64 kd,.bool sd,.slice ad ld cd,.slice ap np cp,.bool sk,.slice ak lk ck] 29) = wb at *
 generalize hp : w.heap.size = p at *
 replace b0 : Hid (Below w.heap.size w wb):=hp ▸ b0
 replace hp:=hide hp
 have hnps:=hP.1
 refine (anorm_n hd hld hP hk hlk hn hB).mono ?_
 rintro e w1 ⟨qs,hS,hc,hA,k1⟩
 have hpb:=x.lt
 replace x:=x.below k1
 have kk:=hide (grow_step k1 b0.out)
 clear hd hP hk
 have e0:=x.c0
 have e1:=x.c1
 have e2:=x.c2
 have e3:=x.c3
 have e4:=x.c4
 have e5:=x.c5
 have f0:=x.f 0
 have f1:=x.f 1
 have f2:=x.f 2
 have f3:=x.f 3
 have f4:=x.f 4
 have f5:=x.f 5
 have hpl:=x.lt
 cases hf : formA kd d qs k with
 | inr er =>
  rw [hf] at hA
  have her:=formA_er hf
  have he : _ = _:=hA
  subst he
  have g6:=ab_set w1 p (.int .i64 0) (.bool false) (.slice none 0 0) (.slice none 0 0) (.bool false) (.slice none 0 0)
  have kf:=hide (below_grown kk.out g6 (by have:=hp.out; omega))
  have hres : Hid (∃ qs,Std qs∧(∀ v,csum qs v = csum ps v)∧HO (.returned (.tuple #[.bool false,.int .i64 er])) (formA kd d qs k) vs):=⟨qs,hS,hc,by rw [hf]; rfl⟩
  clear hf hS hc hA g6 k1 kk
  rcases her with rfl | rfl
  ·go_wp2
   refine bodyPost_ret (results_tmp2 rfl _ _ _) rfl ?_
   obtain ⟨q,h1,h2,h3⟩:=hres.out
   exact ⟨q,h1,h2,h3,kf.out⟩
  ·go_wp2
   refine bodyPost_ret (results_tmp2 rfl _ _ _) rfl ?_
   obtain ⟨q,h1,h2,h3⟩:=hres.out
   exact ⟨q,h1,h2,h3,kf.out⟩
 | inl f =>
  rw [hf] at hA
  have hfit:=formA_fit hS hf
  have hlen : f.ps.length≤np:=by have h1:=(formA_prt hS hf).1; have h2:=std_len hS hc; omega
  obtain ⟨fk,fd,fps,fkk⟩:=f
  obtain ⟨sd1,ad1,ld1,cd1,ap1,np1,cp1,sk1,ak1,lk1,ck1,rfl,hz1,hlz1,hPn1,hnp1,hk1,hlk1,hnew1⟩:=hA
  dsimp only at hz1 hPn1 hk1 hlen
  have hnp2 : np1≤262144:=by have:=hPn1.1; omega
  have g6:=ab_set w1 p (.int .i64 fk) (.bool sd1) (.slice ad1 ld1 cd1) (.slice ap1 np1 cp1) (.bool sk1) (.slice ak1 lk1 ck1)
  have hU:=ab_noU x
  have hz2:=hz1.grownU g6 hU
  have hk2:=hk1.grownU g6 hU
  have hP2:=hPn1.away (fun b off e => by have h1:=hnew1 b off e; omega) g6 hU
  have x2 : AB _ p fk sd1 ad1 ld1 cd1 ap1 np1 cp1 sk1 ak1 lk1 ck1:=ab_fin x fk sd1 ad1 ld1 cd1 ap1 np1 cp1 sk1 ak1 lk1 ck1
  have kw2:=hide (below_grown kk.out g6 (by have:=hp.out; omega))
  have HH:=hide (And.intro hz2 (And.intro hk2 (And.intro hP2 (And.intro x2 (hV.out.below kw2.out)))))
  have hres : Hid (∀ e,HO e (.inl ⟨fk,fd,fps,fkk⟩) vs→∃ qs,Std qs∧(∀ v,csum qs v = csum ps v)∧HO e (formA kd d qs k) vs):=fun e he => ⟨qs,hS,hc,by rw [hf]; exact he⟩
  clear hz1 hk1 hPn1 hnew1 hz2 hk2 hP2 x2 hU g6 hf hS hc k1 kk x hV
  go_wp2_with fail
  obtain ⟨hz2,hk2,hP2,x2,hV2⟩:=HH.out
  clear HH e0 e1 e2 e3 e4 e5 f0 f1 f2 f3 f4 f5
  generalize (((((w1.setCell ⟨p,0,none⟩ (.int .i64 fk)).setCell ⟨p,1,none⟩ (.bool sd1)).setCell ⟨p,2,none⟩ (.slice ad1 ld1 cd1)).setCell ⟨p,3,none⟩ (.slice ap1 np1 cp1)).setCell ⟨p,4,none⟩ (.bool sk1)).setCell ⟨p,5,none⟩ (.slice ak1 lk1 ck1) = w2 at *
  refine (eval_n (B:=B + np + 16 + B2) (hP2.pr.mono (by omega)) hk2.zm (by omega) (hV2.mono (by omega)) (by omega)).mono ?_
  rintro e w3 ⟨s3,a3,l3,c3,er,rfl,k3,hcase⟩
  have kz:=below_alloc w3 (.cells #[.bool s3,.slice a3 l3 c3] 24)
  have z:=zb_new w3 s3 a3 l3 c3
  replace x2:=(x2.below k3).below kz
  replace hz2:=(hz2.below k3).below kz
  have kw3:=hide (grow_step kz (grow_step k3 kw2.out))
  clear k3 kw2 hP2 hk2 hV2
  rcases hcase with ⟨hT,rfl,rfl,rfl,rfl,rfl⟩ | ⟨hT,rfl,hzv,hlv⟩
  ·have hfin:=hide (hres.out _ (.inl ⟨hT,rfl⟩))
   clear hres kz
   go_wp2
   refine bodyPost_ret (results_tmp2 rfl _ _ _) rfl ?_
   obtain ⟨q,h1,h2,h3⟩:=hfin.out
   exact ⟨q,h1,h2,h3,kw3.out⟩
  ·replace hzv:=hzv.below kz
   have e0:=x2.c0
   have e1:=x2.c1
   have e2:=x2.c2
   have z0:=z.c0
   have z1:=z.c1
   have hzl:=z.lt
   generalize hX : fkk + ev fps (val1 vs) = X at *
   rcases hfit.kind5 with hk5 | hk5 | hk5 | hk5 | hk5
   ·dsimp only at hk5
    subst hk5
    have hfin:=hide (hres.out (.returned (.tuple #[.bool false,.int .i64 0])) (.inr ⟨hT,false,rfl,by simp [Sat]⟩))
    clear hres kz
    go_wp2
    refine bodyPost_ret (results_tmp2 rfl _ _ _) rfl ?_
    obtain ⟨q,h1,h2,h3⟩:=hfin.out
    exact ⟨q,h1,h2,h3,kw3.out⟩
   ·dsimp only at hk5
    subst hk5
    have hfin:=hide (hres.out (.returned (.tuple #[.bool true,.int .i64 0])) (.inr ⟨hT,true,rfl,by simp [Sat]⟩))
    clear hres kz
    go_wp2
    refine bodyPost_ret (results_tmp2 rfl _ _ _) rfl ?_
    obtain ⟨q,h1,h2,h3⟩:=hfin.out
    exact ⟨q,h1,h2,h3,kw3.out⟩
   ·dsimp only at hk5
    subst hk5
    have hfin:=hide (hres.out (.returned (.tuple #[.bool (decide (0 < cmpI X 0)),.int .i64 0])) (.inr ⟨hT,_,rfl,by simp [Sat,hX,cmpI_pos]⟩))
    clear hres kz
    go_wp2_with fail
    generalize w3.alloc (.cells #[.bool s3,.slice a3 l3 c3] 24) = w4 at *
    refine (zsign_n hzv.zm (by omega)).mono ?_
    rintro e w5 ⟨rfl,k5⟩
    have kf:=hide (grow_step k5 kw3.out)
    clear k5 kw3
    generalize cmpI X 0 = cz at *
    go_wp2
    refine bodyPost_ret (results_tmp2 rfl _ _ _) rfl ?_
    obtain ⟨q,h1,h2,h3⟩:=hfin.out
    exact ⟨q,h1,h2,h3,kf.out⟩
   ·dsimp only at hk5
    subst hk5
    have hpos : 0 < fd:=hfit.dpos (.inl rfl)
    have hfin:=hide (hres.out (.returned (.tuple #[.bool (decide (fd ∣ X)),.int .i64 0])) (.inr ⟨hT,_,rfl,by simp [Sat,hX]⟩))
    clear hres kz
    go_wp2_with fail
    generalize w3.alloc (.cells #[.bool s3,.slice a3 l3 c3] 24) = w4 at *
    refine (divides_n hz2.zm hzv.zm (by omega) (by omega) hpos).mono ?_
    rintro e w5 ⟨rfl,k5⟩
    have kf:=hide (grow_step k5 kw3.out)
    clear k5 kw3
    generalize decide (fd ∣ X) = cz at *
    go_wp2
    refine bodyPost_ret (results_tmp2 rfl _ _ _) rfl ?_
    obtain ⟨q,h1,h2,h3⟩:=hfin.out
    exact ⟨q,h1,h2,h3,kf.out⟩
   ·dsimp only at hk5
    subst hk5
    have hpos : 0 < fd:=hfit.dpos (.inr rfl)
    have hfin:=hide (hres.out (.returned (.tuple #[.bool (!decide (fd ∣ X)),.int .i64 0])) (.inr ⟨hT,_,rfl,by simp [Sat,hX]⟩))
    clear hres kz
    go_wp2_with fail
    generalize w3.alloc (.cells #[.bool s3,.slice a3 l3 c3] 24) = w4 at *
    refine (divides_n hz2.zm hzv.zm (by omega) (by omega) hpos).mono ?_
    rintro e w5 ⟨rfl,k5⟩
    have kf:=hide (grow_step k5 kw3.out)
    clear k5 kw3
    generalize decide (fd ∣ X) = cz at *
    go_wp2
    refine bodyPost_ret (results_tmp2 rfl _ _ _) rfl ?_
    obtain ⟨q,h1,h2,h3⟩:=hfin.out
    exact ⟨q,h1,h2,h3,kf.out⟩
end Go.Proofs.YtepdckgfolkjjaaGreatDoor

namespace Go.Proofs.YtepdckgfolkjjaaGreatDoor
open Go.RowKit Go.Sort Go.Shelf
open Tm At

theorem form_div : divF 3 (-6) [(0,4)] 0 = ⟨3,3,[(0,1)],0⟩:=by rfl
theorem form_less : lessF [(1,2)] 3 = ⟨2,0,[(1,1)],2⟩:=by rfl
theorem form_div2 : divF 3 3 [(0,1)] 0 = ⟨3,3,[(0,1)],0⟩:=by rfl
theorem form_less2 : lessF [(1,1)] 2 = ⟨2,0,[(1,1)],2⟩:=by rfl
theorem zt_3 : zText 3 = ⟨#[51]⟩:=by
 unfold zText
 rw [if_neg (by decide)]
 show (⟨(Lib.decDigits 3).toArray⟩ : ByteArray) = _
 rw [Lib.decDigits_one (by decide)]
 rfl
theorem tt_0 : (⟨(118 :: Lib.decDigits 0 ++ if (0 : Int) = 0 then [] else 43 :: Lib.decDigits (0 : Int).toNat).toArray⟩ : ByteArray) = ⟨#[118,48]⟩:=by
 rw [if_pos rfl,Lib.decDigits_one (by decide)]
 rfl
theorem tt_1 : (⟨(118 :: Lib.decDigits 1 ++ if (2 : Int) = 0 then [] else 43 :: Lib.decDigits (2 : Int).toNat).toArray⟩ : ByteArray) = ⟨#[118,49,43,50]⟩:=by
 rw [if_neg (by decide),show (2 : Int).toNat = 2 from rfl,Lib.decDigits_one (by decide),Lib.decDigits_one (by decide)]
 rfl
theorem aq6 {w w' : World} {p : Nat} {kd : Int} {s : Bool} {a : Option Addr} {l c : Nat} {ad : Option Addr} {n cp : Nat} {t : Bool} {a5 : Option Addr} {m d : Nat} (x : AB w p kd s a l c ad n cp t a5 m d) (k : Below w.heap.size w w') :
  w'.cell? ⟨p,1,none⟩ = some (.bool s)∧w'.cell? ⟨p,2,none⟩ = some (.slice a l c)∧w'.cell? ⟨p,3,none⟩ = some (.slice ad n cp)∧w'.cell? ⟨p,4,none⟩ = some (.bool t)∧w'.cell? ⟨p,5,none⟩ = some (.slice a5 m d)∧Below w.heap.size w w' :=
 ⟨(x.below k).c1,(x.below k).c2,(x.below k).c3,(x.below k).c4,(x.below k).c5,k⟩
theorem std_1 (v : Int) (c : Int) (h : c ≠ 0) : Std [(v,c)]:=by
 refine ⟨?_,?_⟩ <;> simp [h]

set_option maxRecDepth 100000 in
set_option maxHeartbeats 6400000 in
theorem text_div {w : World} {sd : Bool} {ad : Option Addr} {ld cd : Nat} {ap : Option Addr} {cp : Nat} {sk : Bool} {ak : Option Addr} {lk ck : Nat} {B : Nat} (hd : Zn w sd ad ld cd 3) (hld : ld≤B) (hP : Pn w ap 1 [(0,1)] B) (hk : Zn w sk ak lk ck 0) (hlk : lk≤B) (hB : B≤1000) (htab : Tab w) :
  Calls Tryz.prog 17 #[.agg #[.int .i64 3,.bool sd,.slice ad ld cd,.slice ap 1 cp,.bool sk,.slice ak lk ck]] w fun x w' => x = .returned (.string ⟨#[51,124,118,48]⟩)∧Below w.heap.size w w':=by
 go_enter Tryz.func17,Tryz.ntmps17
 go_wp2_with fail
 have x:=AB.new w 3 sd ad ld cd ap 1 cp sk ak lk ck
 have b0:=below_alloc w (.cells #[.int .i64 3,.bool sd,.slice ad ld cd,.slice ap 1 cp,.bool sk,.slice ak lk ck] 29)
 replace hd:=hd.below b0
 replace hP:=hP.below b0
 replace hk:=hk.below b0
 have htab0:=htab
 clear htab
 generalize w.alloc (.cells #[.int .i64 3,.bool sd,.slice ad ld cd,.slice ap 1 cp,.bool sk,.slice ak lk ck] 29) = wb at *
 generalize hp : w.heap.size = p at *
 replace b0 : Hid (Below w.heap.size w wb):=hp ▸ b0
 replace hp:=hide hp
 refine (anorm_n (kd:=3) (B:=B) hd.zm hld hP.pr hk.zm hlk (by omega) (by omega)).mono ?_
 rintro e w1 ⟨qs,hS,hc,hA,k1⟩
 obtain rfl : qs = [(0,1)]:=std_unique hS (std_1 0 1 (by decide)) hc
 have hfm : formA 3 3 [(0,1)] 0 = .inl ⟨3,3,[(0,1)],0⟩:=by unfold formA; rw [if_neg (by decide),if_neg (by decide),if_pos (by decide),if_neg (by decide),form_div2]
 rw [hfm] at hA
 obtain ⟨sd1,ad1,ld1,cd1,ap1,np1,cp1,sk1,ak1,lk1,ck1,rfl,hz1,hlz1,hPn1,hnp1,hk1,hlk1,hnew1⟩:=hA
 dsimp only at hz1 hPn1 hk1
 obtain rfl : np1 = 1:=hPn1.1.symm
 have hplb:=x.lt
 have kp0 : w.heap.size≤p:=by have:=hp.out; omega
 replace x:=x.below k1
 have hpl:=x.lt
 have kk:=hide (grow_step k1 b0.out)
 have g6:=ab_set w1 p (.int .i64 3) (.bool sd1) (.slice ad1 ld1 cd1) (.slice ap1 1 cp1) (.bool sk1) (.slice ak1 lk1 ck1)
 have hU:=ab_noU x
 have hz2:=hz1.grownU g6 hU
 have hk2:=hk1.grownU g6 hU
 have hP2:=hPn1.away (fun b off e => by have h1:=hnew1 b off e; have h2:=hplb; omega) g6 hU
 have x2 : AB _ p 3 sd1 ad1 ld1 cd1 ap1 1 cp1 sk1 ak1 lk1 ck1:=ab_fin x 3 sd1 ad1 ld1 cd1 ap1 1 cp1 sk1 ak1 lk1 ck1
 have kw2:=hide (below_grown kk.out g6 (by have:=hp.out; omega))
 have ht2 : Tab _:=htab0.below kw2.out
 have HH:=hide (And.intro hz2 (And.intro hk2 (And.intro hP2 (And.intro x2 ht2))))
 have e0:=x.c0
 have e1:=x.c1
 have e2:=x.c2
 have e3:=x.c3
 have e4:=x.c4
 have e5:=x.c5
 have f0:=x.f 0
 have f1:=x.f 1
 have f2:=x.f 2
 have f3:=x.f 3
 have f4:=x.f 4
 have f5:=x.f 5
 clear hz1 hk1 hPn1 hnew1 hz2 hk2 hP2 x2 ht2 hU g6 hfm hS hc k1
 go_wp2_with fail
 obtain ⟨hz2,hk2,hP2,x2,ht2⟩:=HH.out
 clear HH e0 e1 e2 e3 e4 e5 f0 f1 f2 f3 f4 f5
 generalize (((((w1.setCell ⟨p,0,none⟩ (.int .i64 3)).setCell ⟨p,1,none⟩ (.bool sd1)).setCell ⟨p,2,none⟩ (.slice ad1 ld1 cd1)).setCell ⟨p,3,none⟩ (.slice ap1 1 cp1)).setCell ⟨p,4,none⟩ (.bool sk1)).setCell ⟨p,5,none⟩ (.slice ak1 lk1 ck1) = w2 at *
 replace hP2 : Pn w2 ap1 1 [(((0 : Nat) : Int),1)] (B + 1 + 16):=hP2
 go_region_held3 (fun w' => w'.cell? ⟨p,1,none⟩ = some (.bool sd1)∧w'.cell? ⟨p,2,none⟩ = some (.slice ad1 ld1 cd1)∧w'.cell? ⟨p,3,none⟩ = some (.slice ap1 1 cp1)∧w'.cell? ⟨p,4,none⟩ = some (.bool sk1)∧w'.cell? ⟨p,5,none⟩ = some (.slice ak1 lk1 ck1)∧Below w2.heap.size w2 w')
  ((refine aq6 x2 ?_; (with_reducible repeat' first | exact Below.refl _ _ | assumption | refine grow_step (by assumption) ?_ | refine grow_drew ?_ | refine grow_alloc ?_ _ | refine grow_drewN ?_ _)))
  (first | (go_at_call 48; with_reducible refine (ztext_n (Zn.zm (Zn.below hz2 (by (with_reducible repeat' first | exact Below.refl _ _ | assumption | refine grow_step (by assumption) ?_ | refine grow_drew ?_ | refine grow_alloc ?_ _ | refine grow_drewN ?_ _)))) (by omega) (Tab.below ht2 (by (with_reducible repeat' first | exact Below.refl _ _ | assumption | refine grow_step (by assumption) ?_ | refine grow_drew ?_ | refine grow_alloc ?_ _ | refine grow_drewN ?_ _)))).mono ?_; rintro e w4 ⟨rfl,hg4⟩; rw [zt_3]) | (go_at_call 47; with_reducible refine (termText_one (Pn.below hP2 (by (with_reducible repeat' first | exact Below.refl _ _ | assumption | refine grow_step (by assumption) ?_ | refine grow_drew ?_ | refine grow_alloc ?_ _ | refine grow_drewN ?_ _))) (Zn.below hk2 (by (with_reducible repeat' first | exact Below.refl _ _ | assumption | refine grow_step (by assumption) ?_ | refine grow_drew ?_ | refine grow_alloc ?_ _ | refine grow_drewN ?_ _))) hlk1 (by omega) (by decide) (by decide) (Tab.below ht2 (by (with_reducible repeat' first | exact Below.refl _ _ | assumption | refine grow_step (by assumption) ?_ | refine grow_drew ?_ | refine grow_alloc ?_ _ | refine grow_drewN ?_ _)))).mono ?_; rintro e w5 ⟨rfl,hg5⟩; rw [tt_0]))
 rename_i hH
 have kf:=hide (kw2.out.trans (hH.2.2.2.2.2.mono kw2.out.size))
 clear hH hg4 hg5
 go_wp2
 go_ret
 exact ⟨rfl,kf.out⟩

set_option maxRecDepth 100000 in
set_option maxHeartbeats 6400000 in
theorem text_less {w : World} {sd : Bool} {ad : Option Addr} {ld cd : Nat} {ap : Option Addr} {cp : Nat} {sk : Bool} {ak : Option Addr} {lk ck : Nat} {B : Nat} (hd : Zn w sd ad ld cd 0) (hld : ld≤B) (hP : Pn w ap 1 [(1,1)] B) (hk : Zn w sk ak lk ck 2) (hlk : lk≤B) (hB : B≤1000) (htab : Tab w) :
  Calls Tryz.prog 17 #[.agg #[.int .i64 2,.bool sd,.slice ad ld cd,.slice ap 1 cp,.bool sk,.slice ak lk ck]] w fun x w' => x = .returned (.string ⟨#[48,60,118,49,43,50]⟩)∧Below w.heap.size w w':=by
 go_enter Tryz.func17,Tryz.ntmps17
 go_wp2_with fail
 have x:=AB.new w 2 sd ad ld cd ap 1 cp sk ak lk ck
 have b0:=below_alloc w (.cells #[.int .i64 2,.bool sd,.slice ad ld cd,.slice ap 1 cp,.bool sk,.slice ak lk ck] 29)
 replace hd:=hd.below b0
 replace hP:=hP.below b0
 replace hk:=hk.below b0
 have htab0:=htab
 clear htab
 generalize w.alloc (.cells #[.int .i64 2,.bool sd,.slice ad ld cd,.slice ap 1 cp,.bool sk,.slice ak lk ck] 29) = wb at *
 generalize hp : w.heap.size = p at *
 replace b0 : Hid (Below w.heap.size w wb):=hp ▸ b0
 replace hp:=hide hp
 refine (anorm_n (kd:=2) (B:=B) hd.zm hld hP.pr hk.zm hlk (by omega) (by omega)).mono ?_
 rintro e w1 ⟨qs,hS,hc,hA,k1⟩
 obtain rfl : qs = [(1,1)]:=std_unique hS (std_1 1 1 (by decide)) hc
 have hfm : formA 2 0 [(1,1)] 2 = .inl ⟨2,0,[(1,1)],2⟩:=by unfold formA; rw [if_neg (by decide),if_pos rfl,form_less2]
 rw [hfm] at hA
 obtain ⟨sd1,ad1,ld1,cd1,ap1,np1,cp1,sk1,ak1,lk1,ck1,rfl,hz1,hlz1,hPn1,hnp1,hk1,hlk1,hnew1⟩:=hA
 dsimp only at hz1 hPn1 hk1
 obtain rfl : np1 = 1:=hPn1.1.symm
 have hplb:=x.lt
 have kp0 : w.heap.size≤p:=by have:=hp.out; omega
 replace x:=x.below k1
 have hpl:=x.lt
 have kk:=hide (grow_step k1 b0.out)
 have g6:=ab_set w1 p (.int .i64 2) (.bool sd1) (.slice ad1 ld1 cd1) (.slice ap1 1 cp1) (.bool sk1) (.slice ak1 lk1 ck1)
 have hU:=ab_noU x
 have hz2:=hz1.grownU g6 hU
 have hk2:=hk1.grownU g6 hU
 have hP2:=hPn1.away (fun b off e => by have h1:=hnew1 b off e; have h2:=hplb; omega) g6 hU
 have x2 : AB _ p 2 sd1 ad1 ld1 cd1 ap1 1 cp1 sk1 ak1 lk1 ck1:=ab_fin x 2 sd1 ad1 ld1 cd1 ap1 1 cp1 sk1 ak1 lk1 ck1
 have kw2:=hide (below_grown kk.out g6 (by have:=hp.out; omega))
 have ht2 : Tab _:=htab0.below kw2.out
 have HH:=hide (And.intro hz2 (And.intro hk2 (And.intro hP2 (And.intro x2 ht2))))
 have e0:=x.c0
 have e1:=x.c1
 have e2:=x.c2
 have e3:=x.c3
 have e4:=x.c4
 have e5:=x.c5
 have f0:=x.f 0
 have f1:=x.f 1
 have f2:=x.f 2
 have f3:=x.f 3
 have f4:=x.f 4
 have f5:=x.f 5
 clear hz1 hk1 hPn1 hnew1 hz2 hk2 hP2 x2 ht2 hU g6 hfm hS hc k1
 go_wp2_with fail
 obtain ⟨hz2,hk2,hP2,x2,ht2⟩:=HH.out
 clear HH e0 e1 e2 e3 e4 e5 f0 f1 f2 f3 f4 f5
 generalize (((((w1.setCell ⟨p,0,none⟩ (.int .i64 2)).setCell ⟨p,1,none⟩ (.bool sd1)).setCell ⟨p,2,none⟩ (.slice ad1 ld1 cd1)).setCell ⟨p,3,none⟩ (.slice ap1 1 cp1)).setCell ⟨p,4,none⟩ (.bool sk1)).setCell ⟨p,5,none⟩ (.slice ak1 lk1 ck1) = w2 at *
 replace hP2 : Pn w2 ap1 1 [(((1 : Nat) : Int),1)] (B + 1 + 16):=hP2
 refine (termText_one hP2 hk2 hlk1 (by omega) (by decide) (by decide) ht2).mono ?_
 rintro e w5 ⟨rfl,k5⟩
 rw [tt_1]
 have kf:=hide (kw2.out.trans (k5.mono kw2.out.size))
 clear k5
 go_wp2
 go_ret
 exact ⟨rfl,kf.out⟩
set_option maxRecDepth 100000 in
set_option maxHeartbeats 6400000 in
theorem awake6_n (w : World) (htab : Tab w) :
  Calls Tryz.prog 5 #[] w fun x w' => x = .returned (.bool true)∧Below w.heap.size w w':=by
 go_enter Tryz.func5,Tryz.ntmps5
 go_wp2_with fail
 refine (zof_n (-6) (by decide) (by decide) w).mono ?_
 rintro e w1 ⟨s1,a1,l1,c1,rfl,hz1,k1,hl1⟩
 replace k1:=hide k1
 go_wp2_with fail
 refine (zof_n 4 (by decide) (by decide) w1).mono ?_
 rintro e w2 ⟨s2,a2,l2,c2,rfl,hz2,k2,hl2⟩
 replace hz1:=hz1.below k2
 replace k2:=hide (grow_step k2 k1.out)
 clear k1
 go_wp2_with fail
 refine (tvar_n (B:=2) (by unfold I64; decide) (by decide)).mono ?_
 rintro e w3 ⟨ad3,cp3,rs3,rfl,hT3,hrs3⟩
 replace hz1:=hz1.below hT3.below
 replace hz2:=hz2.below hT3.below
 have hP3:=hT3.pn
 rw [hrs3] at hP3
 have hZ3:=hT3.zn
 have k3:=hide (grow_step hT3.below k2.out)
 clear k2 hT3
 go_wp2_with fail
 refine (tscale_n hz2.zm (by omega) hP3.pr hZ3.zm (by decide) (by decide)).mono ?_
 rintro e w4 ⟨ad4,n4,cp4,s4,a4,l4,c4,qs4,rfl,hT4,hn4,hS4,hc4,k4⟩
 obtain rfl : qs4 = [(0,4)]:=std_unique hS4 (std_1 0 4 (by decide)) (fun v => hc4 v)
 replace hz1:=hz1.below k4
 replace k4:=hide (grow_step k4 k3.out)
 obtain ⟨hP4,hZ4,hl4⟩:=hT4
 have hl4' : l4≤6:=by omega
 replace hP4:=hP4.mono (B':=6) (by omega)
 clear k3 hl4 hS4 hc4 hz2 hP3 hZ3
 go_wp2_with fail
 refine (adiv_n (B:=6) hz1.zm (by omega) hP4 hZ4 hl4' (by omega) (by omega) (by decide)).mono ?_
 rintro e w5 ⟨qs5,hS5,hc5,hA5,k5⟩
 obtain rfl : qs5 = [(0,4)]:=std_unique hS5 (std_1 0 4 (by decide)) hc5
 rw [show divF 3 (-6) [(0,4)] (4 * 0) = _ from form_div] at hA5
 obtain ⟨sd5,ad5,ld5,cd5,ap5,np5,cp5,sk5,ak5,lk5,ck5,rfl,hd5,hld5,hP5,hnp5,hk5,hlk5, -⟩:=hA5
 dsimp only at hd5 hP5 hk5
 obtain rfl : np5 = 1:=hP5.1.symm
 have hA5:=AB.new w5 3 sd5 ad5 ld5 cd5 ap5 1 cp5 sk5 ak5 lk5 ck5
 have ka:=below_alloc w5 (.cells #[.int .i64 3,.bool sd5,.slice ad5 ld5 cd5,.slice ap5 1 cp5,.bool sk5,.slice ak5 lk5 ck5] 29)
 replace hd5:=hd5.below ka
 replace hP5:=hP5.below ka
 replace hk5:=hk5.below ka
 replace k5:=hide (grow_step ka (grow_step k5 k4.out))
 clear k4 ka hS5 hc5 hP4 hZ4 hz1
 go_wp2_with fail
 generalize w5.alloc (.cells #[.int .i64 3,.bool sd5,.slice ad5 ld5 cd5,.slice ap5 1 cp5,.bool sk5,.slice ak5 lk5 ck5] 29) = wA at *
 generalize w5.heap.size = bA at *
 refine (zof_n 2 (by decide) (by decide) wA).mono ?_
 rintro e w2 ⟨s2,a2,l2,c2,rfl,hz2,k2,hl2⟩
 have KA:=hide k2
 have KW:=k5
 clear k5 k2
 go_wp2_with fail
 refine (tvar_n (B:=2) (by unfold I64; decide) (by decide)).mono ?_
 rintro e w3 ⟨ad3,cp3,rs3,rfl,hT3,hrs3⟩
 replace hz2:=hz2.below hT3.below
 have hP3:=hT3.pn
 rw [hrs3] at hP3
 have hZ3:=hT3.zn
 replace KA:=hide (grow_step hT3.below KA.out)
 clear hT3
 go_wp2_with fail
 refine (tscale_n hz2.zm (by omega) hP3.pr hZ3.zm (by decide) (by decide)).mono ?_
 rintro e w4 ⟨ad4,n4,cp4,s4,a4,l4,c4,qs4,rfl,hT4,hn4,hS4,hc4,k4⟩
 obtain rfl : qs4 = [(1,2)]:=std_unique hS4 (std_1 1 2 (by decide)) (fun v => hc4 v)
 replace KA:=hide (grow_step k4 KA.out)
 clear k4 hS4 hc4 hz2 hP3 hZ3
 replace hT4:=hT4.mono (B':=6) (by omega)
 go_wp2_with fail
 refine (zof_n 3 (by decide) (by decide) w4).mono ?_
 rintro e w6 ⟨s6,a6,l6,c6,rfl,hz6,k6,hl6⟩
 replace hT4:=hT4.below k6
 replace KA:=hide (grow_step k6 KA.out)
 clear k6
 go_wp2_with fail
 refine (tconst_n (B:=6) hz6.zm (by omega) (by decide)).mono ?_
 rintro e w7 ⟨s7,a7,l7,c7,rfl,hT7⟩
 replace hT4:=hT4.below hT7.below
 replace KA:=hide (grow_step hT7.below KA.out)
 have hT7':=hT7.tw
 clear hT7 hz6
 go_wp2_with fail
 refine (tadd_n (B:=6) hT4.1 hT4.2.1 hT4.2.2 hT7'.1 hT7'.2.1 hT7'.2.2 (by omega)).mono ?_
 rintro e w8 ⟨ad8,n8,cp8,s8,a8,l8,c8,rs8,rfl,hT8,hn8,hS8,hc8⟩
 replace KA:=hide (grow_step hT8.below KA.out)
 have hT8':=hT8.tw
 clear hT8 hT4 hT7'
 generalize rs8.map Raw.p = qs8 at *
 obtain rfl : qs8 = [(1,2)]:=std_unique hS8 (std_1 1 2 (by decide)) (fun v => hc8 v)
 obtain ⟨hP8,hZ8,hl8⟩:=hT8'
 replace hP8:=hP8.mono (B':=12) (by omega)
 go_wp2_with fail
 refine (less_n (B:=12) hP8 hZ8 (by omega) (by omega) (by omega)).mono ?_
 rintro e w9 ⟨qs9,hS9,hc9,hA9,k9⟩
 obtain rfl : qs9 = [(1,2)]:=std_unique hS9 (std_1 1 2 (by decide)) hc9
 rw [show lessF [(1,2)] (2 * 0 + 3) = _ from form_less] at hA9
 obtain ⟨sd6,ad6,ld6,cd6,ap6,np6,cp6,sk6,ak6,lk6,ck6,rfl,hd6,hld6,hP6,hnp6,hk6,hlk6, -⟩:=hA9
 dsimp only at hd6 hP6 hk6
 obtain rfl : np6 = 1:=hP6.1.symm
 have hA6:=AB.new w9 2 sd6 ad6 ld6 cd6 ap6 1 cp6 sk6 ak6 lk6 ck6
 have kb:=below_alloc w9 (.cells #[.int .i64 2,.bool sd6,.slice ad6 ld6 cd6,.slice ap6 1 cp6,.bool sk6,.slice ak6 lk6 ck6] 29)
 replace hd6:=hd6.below kb
 replace hP6:=hP6.below kb
 replace hk6:=hk6.below kb
 replace KA:=hide (grow_step kb (grow_step k9 KA.out))
 clear k9 kb hS9 hc9 hS8 hc8 hP8 hZ8
 replace hA5:=hA5.below KA.out
 have u0:=hA5.c0
 have u1:=hA5.c1
 have u2:=hA5.c2
 have u3:=hA5.c3
 have u4:=hA5.c4
 have u5:=hA5.c5
 go_wp2_with fail
 generalize w9.alloc (.cells #[.int .i64 2,.bool sd6,.slice ad6 ld6 cd6,.slice ap6 1 cp6,.bool sk6,.slice ak6 lk6 ck6] 29) = wB at *
 generalize w9.heap.size = bB at *
 have htB : Tab wB:=htab.below (grow_step KA.out KW.out)
 refine (text_div (B:=23) (hd5.below KA.out) (by omega) ((hP5.below KA.out).mono (by omega)) (hk5.below KA.out) (by omega) (by decide) htB).mono ?_
 rintro e wC ⟨rfl,kC⟩
 replace hA6:=hA6.below kC
 replace hd6:=hd6.below kC
 replace hP6:=hP6.below kC
 replace hk6:=hk6.below kC
 replace KA:=hide (grow_step kC KA.out)
 have htC:=htB.below kC
 clear kC u0 u1 u2 u3 u4 u5 hA5 hd5 hP5 hk5 htB
 have u0:=hA6.c0
 have u1:=hA6.c1
 have u2:=hA6.c2
 have u3:=hA6.c3
 have u4:=hA6.c4
 have u5:=hA6.c5
 go_wp2_with fail
 refine (text_less (B:=12 + n8 + 16) hd6 hld6 hP6 hk6 hlk6 (by omega) htC).mono ?_
 rintro e wD ⟨rfl,kD⟩
 have kf:=hide (grow_step (grow_step kD KA.out) KW.out)
 clear kD
 go_wp2
 go_ret
 exact ⟨rfl,kf.out⟩

end Go.Proofs.YtepdckgfolkjjaaGreatDoor

namespace Go.Proofs.YtepdckgfolkjjaaGreatDoor
open Go.RowKit Go.Sort Go.Shelf
open Tm At

theorem lq7 {w w' : World} {p q o : Nat} {ad : Option Addr} {n cp : Nat} {s : Bool} {a : Option Addr} {l c : Nat} {s2 : Bool} {a2 : Option Addr} {l2 c2 : Nat} {s3 : Bool} {a3 : Option Addr} {l3 c3 : Nat} (x : TB w p ad n cp s a l c) (z : ZB w o s2 a2 l2 c2) (z2 : ZB w q s3 a3 l3 c3) (k : Below w.heap.size w w') :
  w'.cell? ⟨p,1,none⟩ = some (.bool s)∧w'.cell? ⟨p,2,none⟩ = some (.slice a l c)∧w'.cell? ⟨o,0,none⟩ = some (.bool s2)∧w'.cell? ⟨o,1,none⟩ = some (.slice a2 l2 c2)∧w'.cell? ⟨q,0,none⟩ = some (.bool s3)∧w'.cell? ⟨q,1,none⟩ = some (.slice a3 l3 c3)∧Below w.heap.size w w' :=
 ⟨(x.below k).c1,(x.below k).c2,(z.below k).c0,(z.below k).c1,(z2.below k).c0,(z2.below k).c1,k⟩

set_option maxRecDepth 100000 in
set_option maxHeartbeats 6400000 in
theorem rless6_n {w : World} {ad : Option Addr} {n cp : Nat} {s : Bool} {a : Option Addr} {l c : Nat} {ps : List (Int × Int)} {k : Int} {B : Nat} (hP : Pr w ad n ps B) (hz : Zm w s a l c k) (hl : l≤B) (hn : n≤262144) (hB : B + n≤4194000) :
  Calls Tryz.prog 32 #[.agg #[.slice ad n cp,.bool s,.slice a l c]] w fun e w' => AW w' e (lessF (nz (lays [] ps)) k) (B + n + 16) w.heap.size∧Below w.heap.size w w':=by
 go_enter Tryz.func32,Tryz.ntmps32
 go_wp2_with fail
 have x:=(tb_new w ad n cp s a l c).below (below_alloc _ (.cells #[.int .i64 0,.bool false,.slice none 0 0,.slice none 0 0,.bool false,.slice none 0 0] 29))
 have y : (((w.alloc (.cells #[.slice ad n cp,.bool s,.slice a l c] 27)).alloc (.cells #[.int .i64 0,.bool false,.slice none 0 0,.slice none 0 0,.bool false,.slice none 0 0] 29))).heap[w.heap.size + 1]? = some (.cells #[.int .i64 0,.bool false,.slice none 0 0,.slice none 0 0,.bool false,.slice none 0 0] 29 (0,0)):=by
  have:=heap_alloc_new (w.alloc (.cells #[.slice ad n cp,.bool s,.slice a l c] 27)) (.cells #[.int .i64 0,.bool false,.slice none 0 0,.slice none 0 0,.bool false,.slice none 0 0] 29)
  simpa using this
 have b0 : Below w.heap.size w ((w.alloc (.cells #[.slice ad n cp,.bool s,.slice a l c] 27)).alloc (.cells #[.int .i64 0,.bool false,.slice none 0 0,.slice none 0 0,.bool false,.slice none 0 0] 29)):=below_alloc' (below_alloc _ _) _
 generalize (w.alloc (.cells #[.slice ad n cp,.bool s,.slice a l c] 27)).alloc (.cells #[.int .i64 0,.bool false,.slice none 0 0,.slice none 0 0,.bool false,.slice none 0 0] 29) = wb at *
 replace hP:=hP.below b0
 replace hz:=hz.below b0
 have hpr : w.heap.size < w.heap.size + 1:=by omega
 generalize w.heap.size + 1 = r at *
 generalize hp : w.heap.size = p at *
 replace b0 : Hid (Below w.heap.size w wb):=hp ▸ b0
 replace hp:=hide hp
 have hrl : r < wb.heap.size:=(Array.getElem?_eq_some_iff.1 y).1
 refine (rnorm5_w hP hz hl (by omega) (by omega)).mono ?_
 rintro e w1 ⟨ad1,n1,cp1,s1,a1,l1,c1,rfl,hTW,hz1,k1,hn1,hP1,hnew1⟩
 have hl1:=hTW.2.2
 have hS : Std (nz (lays [] ps)):=std_lays ps
 generalize hqs : nz (lays [] ps) = qs at *
 replace hqs:=hide hqs
 have xN:=tb_new w1 ad1 n1 cp1 s1 a1 l1 c1
 have ka:=below_alloc w1 (.cells #[.slice ad1 n1 cp1,.bool s1,.slice a1 l1 c1] 27)
 have y1:=(ka.block r (Nat.lt_of_lt_of_le hrl k1.size)).trans ((k1.block r hrl).trans y)
 have hz2:=hz1.below ka
 have hP2:=hP1.below ka
 have kk:=hide (grow_step ka (grow_step k1 b0.out))
 have hnew2 : Hid (∀ b off,ad1 = some ⟨b,off,none⟩→w.heap.size≤b∧b ≠ r):=(fun b off e => by have h1:=hnew1 b off e; have h2:=hp.out; omega)
 have hs1:=k1.size
 have HH:=hide (And.intro xN (And.intro y1 (And.intro hz2 hP2)))
 replace hS:=hide hS
 clear hTW hz1 k1 hP1 hnew1 xN ka y1 hz2 hP2 b0 x y hP hz
 by_cases h0 : n1 = 0
 ·subst h0
  obtain rfl : qs = []:=List.length_eq_zero_iff.1 HH.out.2.2.2.1
  go_wp2_with fail
  obtain ⟨xN,y1,hz2,hP2⟩:=HH.out
  clear HH
  generalize w1.alloc (.cells #[.slice ad1 0 cp1,.bool s1,.slice a1 l1 c1] 27) = wn at *
  generalize w1.heap.size = bn at *
  refine (rsign_n hz2.zm (by omega)).mono ?_
  rintro e w3 ⟨rfl,k3⟩
  have hrn : r < wn.heap.size:=(Array.getElem?_eq_some_iff.1 y1).1
  have y3:=(k3.block r hrn).trans y1
  replace kk:=hide (grow_step k3 kk.out)
  have hcz : Hid (∀ b : Bool,b = decide (0 < cmpI k 0)→lessF [] k = ⟨if b then 1 else 0,0,[],0⟩):=fun b hb => by
   subst hb
   unfold lessF tru
   rw [if_pos rfl]
   by_cases h9 : 0 < k <;> simp [h9,cmpI_pos]
  clear k3 y1 hz2 hP2 xN
  generalize cmpI k 0 = cz at *
  go_wp2_with fail
  refine (rconst6_n).mono ?_
  rintro e w4 ⟨rfl,k4⟩
  have hr3 : r < w3.heap.size:=(Array.getElem?_eq_some_iff.1 y3).1
  have y4 : AB w4 r 0 false none 0 0 none 0 0 false none 0 0:=(k4.block r hr3).trans y3
  have hF:=hide (hcz.out _ rfl)
  generalize decide (0 < cz) = bb at *
  have hkf:=grow_step k4 kk.out
  generalize hki : (if bb = true then (1 : Int) else 0) = ki at *
  have e0:=y4.c0
  have e1:=y4.c1
  have e2:=y4.c2
  have e3:=y4.c3
  have e4:=y4.c4
  have e5:=y4.c5
  have f0:=y4.f 0
  have f1:=y4.f 1
  have f2:=y4.f 2
  have f3:=y4.f 3
  have f4:=y4.f 4
  have f5:=y4.f 5
  have HH:=hide (And.intro (ab_fin y4 ki false none 0 0 none 0 0 false none 0 0) (below_grown hkf (ab_set w4 r (.int .i64 ki) (.bool false) (.slice none 0 0) (.slice none 0 0) (.bool false) (.slice none 0 0)) (show w.heap.size≤r by have:=hp.out; omega)))
  clear k4 kk y3 y4 hkf hcz hki
  go_wp2
  refine bodyPost_ret (results_cell_row rfl _ _ r 29 _ (0,0) _ rfl HH.out.1 Tryz.underlying29 rfl (by kernel_rfl)) rfl ?_
  refine ⟨?_,HH.out.2⟩
  rw [hqs.out,hF.out]
  exact ⟨false,none,0,0,none,0,0,false,none,0,0,by simp,zn_zero _,by omega,pn_nil _ _ _,by omega,zn_zero _,by omega,fun _ _ h => by cases h⟩
 ·have i0 : (((n1 : Nat) : Int) == 0) = false:=by rw [beq_eq_false_iff_ne]; omega
  go_wp2_with fail
  obtain ⟨xN,y1,hz2,hP2⟩:=HH.out
  clear HH
  generalize w1.alloc (.cells #[.slice ad1 n1 cp1,.bool s1,.slice a1 l1 c1] 27) = wn at *
  generalize w1.heap.size = bn at *
  have hrn : r < wn.heap.size:=(Array.getElem?_eq_some_iff.1 y1).1
  refine (coefs_n hP2.pr (by omega)).mono ?_
  rintro e w3 ⟨vN,N,rfl,hrow,hN,hokN,hNz,k3⟩
  replace hokN : ∀ x ∈ N,okN w3 _ x:=fun x hx => (hokN x hx).below k3
  have hpos3 : 0 < w3.heap.size:=by have:=k3.size; omega
  obtain ⟨adl,cap,bl,rfl,had,hZL⟩:=row_zl hrow hN hokN (by omega) hpos3
  obtain rfl:=had (by omega)
  have hfl : ∀ i,i < n1→(N.getD i zr).l≤B + n + 1:=fun i hi => by rw [getD_at (by omega)]; exact (hokN _ (List.getElem_mem _)).2
  have hval : Hid (fold gcdI 0 (fun i => ((N.getD i zr).z.natAbs : Int)) n1 = ((gcdL 0 qs : Nat) : Int)):=(show _ = _ by rw [fold_gcd N n1 (by omega),List.take_of_length_le (by omega),hNz,gcdZ_all])
  replace xN:=xN.below k3
  replace y1:=(k3.block r hrn).trans y1
  replace hz2:=hz2.below k3
  replace hP2:=hP2.below k3
  replace kk:=hide (grow_step k3 kk.out)
  clear hrow hokN hNz k3 had
  go_wp2_with fail
  refine (rgcd6_list hZL hfl (by omega) (by omega)).mono ?_
  rintro e w4 ⟨sg,ag,lg,cg,rfl,hzg,k4,hlg⟩
  rw [hval.out] at hzg
  have zg:=zb_new w4 sg ag lg cg
  have kg:=below_alloc w4 (.cells #[.bool sg,.slice ag lg cg] 24)
  have hpos9 : (0 : Int) < ((gcdL 0 qs : Nat) : Int):=by
   have h9 : qs ≠ []:=fun e => h0 (by rw [← hP2.1,e]; rfl)
   have:=gcdL_pos (g:=0) (qs:=qs) (.inr (std_some hS.out h9))
   omega
  replace xN:=(xN.below k4).below kg
  have hr3 : r < w3.heap.size:=(Array.getElem?_eq_some_iff.1 y1).1
  have hr4 : r < w4.heap.size:=Nat.lt_of_lt_of_le hr3 k4.size
  replace y1:=(kg.block r hr4).trans ((k4.block r hr3).trans y1)
  replace hz2:=(hz2.below k4).below kg
  replace hP2:=(hP2.below k4).below kg
  replace hzg:=hzg.below kg
  replace kk:=hide (grow_step kg (grow_step k4 kk.out))
  have HH:=hide (And.intro xN (And.intro y1 (And.intro hz2 (And.intro hP2 (And.intro hzg zg)))))
  clear xN y1 hz2 hP2 hzg zg k4 kg hZL hfl hval
  go_wp2_with fail
  obtain ⟨xN,y1,hz2,hP2,hzg,zg⟩:=HH.out
  clear HH
  generalize w4.alloc (.cells #[.bool sg,.slice ag lg cg] 24) = w5 at *
  generalize w4.heap.size = bg at *
  refine (rof_n 1 (by decide) (by decide) w5).mono ?_
  rintro e w6 ⟨s6,a6,l6,c6,rfl,hz6,k6,hl6⟩
  have zo:=zb_new w6 s6 a6 l6 c6
  have kg:=below_alloc w6 (.cells #[.bool s6,.slice a6 l6 c6] 24)
  have hr5 : r < w5.heap.size:=(Array.getElem?_eq_some_iff.1 y1).1
  have hr6 : r < w6.heap.size:=Nat.lt_of_lt_of_le hr5 k6.size
  replace xN:=(xN.below k6).below kg
  replace y1:=(kg.block r hr6).trans ((k6.block r hr5).trans y1)
  replace hz2:=(hz2.below k6).below kg
  replace hP2:=(hP2.below k6).below kg
  replace hzg:=(hzg.below k6).below kg
  replace zg:=(zg.below k6).below kg
  replace hz6:=hz6.below kg
  replace kk:=hide (grow_step kg (grow_step k6 kk.out))
  have HH:=hide (And.intro xN (And.intro y1 (And.intro hz2 (And.intro hP2 (And.intro hzg (And.intro zg (And.intro hz6 zo)))))))
  clear xN y1 hz2 hP2 hzg zg k6 kg hz6 zo
  go_wp2_with fail
  obtain ⟨xN,y1,hz2,hP2,hzg,zg,hz6,zo⟩:=HH.out
  clear HH
  generalize w6.alloc (.cells #[.bool s6,.slice a6 l6 c6] 24) = w7 at *
  generalize w6.heap.size = bo at *
  refine Code.wp_mono (Q:=fun e a' W' => e = .normal∧∃ bO sA aA lA cA sB aB lB cB sC aC lC cC,a' = ⟨List.toArray ((.agg #[.slice ad n cp,.bool s,.slice a l c] : Value) :: (.pointer (some ⟨p,0,none⟩) : Value) :: (.pointer (some ⟨r,0,none⟩) : Value) :: (.pointer (some ⟨bn,0,none⟩) : Value) :: (undef : Value) :: (.pointer (some ⟨bg,0,none⟩) : Value) :: (.pointer (some ⟨bo,0,none⟩) : Value) :: (.pointer (some ⟨bO,0,none⟩) : Value) :: (undef : Value) :: (.agg #[.slice ad n cp,.bool s,.slice a l c] : Value) :: (.agg #[.slice ad1 n1 cp1,.bool s1,.slice a1 l1 c1] : Value) :: (.pointer (some ⟨bn,0,none⟩) : Value) :: (.slice ad1 n1 cp1 : Value) :: (.int .i64 n1 : Value) :: (.bool false : Value) :: (undef : Value) :: (undef : Value) :: (undef : Value) :: (undef : Value) :: (undef : Value) :: (undef : Value) :: (.agg #[.slice ad1 n1 cp1,.bool s1,.slice a1 l1 c1] : Value) :: (.slice (some ⟨bl,0,none⟩) n1 cap : Value) :: (.agg #[.bool sg,.slice ag lg cg] : Value) :: (.agg #[.bool s6,.slice a6 l6 c6] : Value) :: (.pointer (some ⟨bn,1,none⟩) : Value) :: (.agg #[.bool s1,.slice a1 l1 c1] : Value) :: (.agg #[.bool s6,.slice a6 l6 c6] : Value) :: (.agg #[.bool sA,.slice aA lA cA] : Value) :: (.agg #[.bool sg,.slice ag lg cg] : Value) :: (.agg #[.bool sB,.slice aB lB cB] : Value) :: (.agg #[.bool s6,.slice a6 l6 c6] : Value) :: (.agg #[.bool sC,.slice aC lC cC] : Value) :: (.agg #[.slice none 0 0,.bool sC,.slice aC lC cC] : Value) :: (undef : Value) :: (undef : Value) :: (undef : Value) :: (undef : Value) :: (undef : Value) :: (undef : Value) :: (undef : Value) :: (undef : Value) :: (undef : Value) :: (undef : Value) :: (undef : Value) :: (undef : Value) :: (undef : Value) :: (undef : Value) :: (undef : Value) :: (undef : Value) :: (undef : Value) :: (undef : Value) :: (undef : Value) :: (undef : Value) :: (undef : Value) :: (undef : Value) :: (undef : Value) :: (undef : Value) :: (undef : Value) :: (undef : Value) :: (undef : Value) :: (undef : Value) :: (undef : Value) :: []),[]⟩∧TB W' bO none 0 0 sC aC lC cC∧Zn W' sC aC lC cC ((k - 1) / ((gcdL 0 qs : Nat) : Int) + 1)∧lC≤B + n + 7∧w7.heap.size≤bO∧Below w7.heap.size w7 W') ?_ ?_
  rotate_left
  ·refine wp_region_held_drew (S:=(fun w' => w'.cell? ⟨bn,1,none⟩ = some (.bool s1)∧w'.cell? ⟨bn,2,none⟩ = some (.slice a1 l1 c1)∧w'.cell? ⟨bo,0,none⟩ = some (.bool s6)∧w'.cell? ⟨bo,1,none⟩ = some (.slice a6 l6 c6)∧w'.cell? ⟨bg,0,none⟩ = some (.bool sg)∧w'.cell? ⟨bg,1,none⟩ = some (.slice ag lg cg)∧Below w7.heap.size w7 w')) (by kernel_rfl) (lq7 xN zo zg (grow_drew (Below.refl _ _))) (fun hHeld => ?_)
   show wpAnyH _ _ _ _ _ 11 _ _ _
   have kW:=grow_drew (Below.refl w7.heap.size w7)
   generalize w7.drew = wQ at *
   refine wpAnyH_take (i:=0) (oi:=⟨some 25,_,_,_,_,_⟩) (v:=?_) rfl (by kernel_rfl) (by kernel_rfl) (by kernel_rfl) (fun _ _ _ h => by cases h.1) (Or.inl ⟨by rfl,?_⟩) (by assumption) ?_
   rotate_left
   ·intro wq hSw; (try dsimp only at hSw); go_simp; (try with_reducible rfl)
   (try simp only [Act.put,List.setIfInBounds_toArray,List.set_cons_zero,List.set_cons_succ])
   refine wpAnyH_take (i:=1) (oi:=⟨some 26,_,_,_,_,_⟩) (v:=?_) rfl (by kernel_rfl) (by kernel_rfl) (by kernel_rfl) (fun _ _ _ h => by cases h.1) (Or.inl ⟨by rfl,?_⟩) (by assumption) ?_
   rotate_left
   ·intro wq hSw; (try dsimp only at hSw); go_simp; (try with_reducible rfl)
   (try simp only [Act.put,List.setIfInBounds_toArray,List.set_cons_zero,List.set_cons_succ])
   refine wpAnyH_take (i:=2) (oi:=⟨some 27,_,_,_,_,_⟩) (v:=?_) rfl (by kernel_rfl) (by kernel_rfl) (by kernel_rfl) (fun _ _ _ h => by cases h.1) (Or.inl ⟨by rfl,?_⟩) (by assumption) ?_
   rotate_left
   ·intro wq hSw; (try dsimp only at hSw); go_simp; (try with_reducible rfl)
   (try simp only [Act.put,List.setIfInBounds_toArray,List.set_cons_zero,List.set_cons_succ])
   refine wpAnyH_take (i:=4) (oi:=⟨some 29,_,_,_,_,_⟩) (v:=?_) rfl (by kernel_rfl) (by kernel_rfl) (by kernel_rfl) (fun _ _ _ h => by cases h.1) (Or.inl ⟨by rfl,?_⟩) (by assumption) ?_
   rotate_left
   ·intro wq hSw; (try dsimp only at hSw); go_simp; (try with_reducible rfl)
   (try simp only [Act.put,List.setIfInBounds_toArray,List.set_cons_zero,List.set_cons_succ])
   refine wpAnyH_take (i:=6) (oi:=⟨some 31,_,_,_,_,_⟩) (v:=?_) rfl (by kernel_rfl) (by kernel_rfl) (by kernel_rfl) (fun _ _ _ h => by cases h.1) (Or.inl ⟨by rfl,?_⟩) (by assumption) ?_
   rotate_left
   ·intro wq hSw; (try dsimp only at hSw); go_simp; (try with_reducible rfl)
   (try simp only [Act.put,List.setIfInBounds_toArray,List.set_cons_zero,List.set_cons_succ])
   refine wpAnyH_ready (rs:=[3,9]) (by kernel_rfl) (by simp) ?_
   refine AllReadyH.cons (o:=⟨some 28,_,_,_,_,_⟩) rfl (fun K hK => ?_) ?_
   ·go_simp
    go_at_call 79; refine Calls.mono (rsub2_n (hz2.zm.below kW) (hz6.zm.below kW) (by omega) (by omega)) ?_; rintro e wA ⟨sA,aA,lA,cA,rfl,hA,kA,hlA⟩
    have kW:=grow_step kA kW
    (try go_wp2_with fail)
    refine hK.out _ _ ?_ ?_
    ·(try dsimp only); exact lq7 xN zo zg kW
    clear hK K hHeld; intro hHeld
    (try simp only [Act.put,List.setIfInBounds_toArray,List.set_cons_zero,List.set_cons_succ])
    refine wpAnyH_ready (rs:=[5,9]) (by kernel_rfl) (by simp) ?_
    refine AllReadyH.cons (o:=⟨some 30,_,_,_,_,_⟩) rfl (fun K hK => ?_) ?_
    ·go_simp
     go_at_call 78; refine Calls.mono (rfloor6_n hA.zm (hzg.zm.below kW) (by omega) (by omega) hpos9) ?_; rintro e wB ⟨sB,aB,lB,cB,rfl,hBz,kB,hlB⟩
     have hA:=hA.below kB
     have kW:=grow_step kB kW
     (try go_wp2_with fail)
     refine hK.out _ _ ?_ ?_
     ·(try dsimp only); exact lq7 xN zo zg kW
     clear hK K hHeld; intro hHeld
     (try simp only [Act.put,List.setIfInBounds_toArray,List.set_cons_zero,List.set_cons_succ])
     refine wpAnyH_ready (rs:=[7,9]) (by kernel_rfl) (by simp) ?_
     refine AllReadyH.cons (o:=⟨some 32,_,_,_,_,_⟩) rfl (fun K hK => ?_) ?_
     ·go_simp
      go_at_call 77; refine Calls.mono (radd2_n hBz.zm (hz6.zm.below kW) (by omega) (by omega)) ?_; rintro e wC ⟨sC,aC,lC,cC,rfl,hC,kC,hlC⟩
      have hA:=hA.below kC
      have hBz:=hBz.below kC
      have kW:=grow_step kC kW
      (try go_wp2_with fail)
      refine hK.out _ _ ?_ ?_
      ·(try dsimp only); exact lq7 xN zo zg kW
      clear hK K hHeld; intro hHeld
      (try simp only [Act.put,List.setIfInBounds_toArray,List.set_cons_zero,List.set_cons_succ])
      refine wpAnyH_ready (rs:=[8,9]) (by kernel_rfl) (by simp) ?_
      refine AllReadyH.cons (o:=⟨some 33,_,_,_,_,_⟩) rfl (fun K hK => ?_) ?_
      ·skip
       go_simp
       refine hK.out _ _ ?_ ?_
       ·(try dsimp only); exact lq7 xN zo zg kW
       clear hK K hHeld; intro hHeld
       (try simp only [Act.put,List.setIfInBounds_toArray,List.set_cons_zero,List.set_cons_succ])
       refine wpAnyH_ready (rs:=[9]) (by kernel_rfl) (by simp) ?_
       refine AllReadyH.cons (o:=⟨some 7,_,_,_,_,_⟩) rfl (fun K hK => ?_) ?_
       ·have kL:=below_alloc (wC) (.cells #[.slice none 0 0,.bool false,.slice none 0 0] 27)
        have hA:=hA.below kL
        have hBz:=hBz.below kL
        have hC:=hC.below kL
        have zO : TB ((wC).alloc (.cells #[.slice none 0 0,.bool false,.slice none 0 0] 27)) (wC.heap.size) none 0 0 false none 0 0:=tb_new _ _ _ _ _ _ _ _
        have hbzO : w7.heap.size≤wC.heap.size:=kW.size
        have kW:=grow_step kL kW
        go_simp
        refine hK.out _ _ ?_ ?_
        ·(try dsimp only); exact lq7 xN zo zg kW
        clear hK K hHeld; intro hHeld
        (try simp only [Act.put,List.setIfInBounds_toArray,List.set_cons_zero,List.set_cons_succ])
        generalize (wC).alloc (.cells #[.slice none 0 0,.bool false,.slice none 0 0] 27) = wLzO at *
        refine wpAnyH_ready (rs:=[10]) (by kernel_rfl) (by simp) ?_
        refine AllReadyH.cons (o:=⟨none,_,_,_,_,_⟩) rfl (fun K hK => ?_) ?_
        ·skip
         have f0:=zO.c0
         have f1:=zO.c1
         have f2:=zO.c2
         have f3:=zO.f 0
         have f4:=zO.f 1
         have f5:=zO.f 2
         go_simp
         have gS:=tb_set wLzO (wC.heap.size) (.slice none 0 0) (.bool sC) (.slice aC lC cC)
         have hC:=hC.grownU gS (tb_noU zO)
         have zO:=tb_fin zO none 0 0 sC aC lC cC
         have kW:=((kW.setCell (p:=⟨wC.heap.size,0,none⟩) hbzO (.slice none 0 0)).setCell (p:=⟨wC.heap.size,1,none⟩) hbzO (.bool sC)).setCell (p:=⟨wC.heap.size,2,none⟩) hbzO (.slice aC lC cC)
         refine hK.out _ _ ?_ ?_
         ·(try dsimp only); exact lq7 xN zo zg kW
         clear hK K hHeld; intro hHeld
         (try simp only [Act.put,List.setIfInBounds_toArray,List.set_cons_zero,List.set_cons_succ])
         refine wpAnyH_done (by kernel_rfl) ?_ _
         exact ⟨rfl,_,sA,aA,lA,cA,sB,aB,lB,cB,sC,aC,lC,cC,rfl,zO,hC,by omega,hbzO,kW⟩
        exact AllReadyH.nil
       exact AllReadyH.nil
      refine AllReadyH.cons (o:=⟨some 7,_,_,_,_,_⟩) rfl (fun K hK => ?_) ?_
      ·have kL:=below_alloc (wC) (.cells #[.slice none 0 0,.bool false,.slice none 0 0] 27)
       have hA:=hA.below kL
       have hBz:=hBz.below kL
       have hC:=hC.below kL
       have zO : TB ((wC).alloc (.cells #[.slice none 0 0,.bool false,.slice none 0 0] 27)) (wC.heap.size) none 0 0 false none 0 0:=tb_new _ _ _ _ _ _ _ _
       have hbzO : w7.heap.size≤wC.heap.size:=kW.size
       have kW:=grow_step kL kW
       go_simp
       refine hK.out _ _ ?_ ?_
       ·(try dsimp only); exact lq7 xN zo zg kW
       clear hK K hHeld; intro hHeld
       (try simp only [Act.put,List.setIfInBounds_toArray,List.set_cons_zero,List.set_cons_succ])
       generalize (wC).alloc (.cells #[.slice none 0 0,.bool false,.slice none 0 0] 27) = wLzO at *
       refine wpAnyH_ready (rs:=[8]) (by kernel_rfl) (by simp) ?_
       refine AllReadyH.cons (o:=⟨some 33,_,_,_,_,_⟩) rfl (fun K hK => ?_) ?_
       ·skip
        go_simp
        refine hK.out _ _ ?_ ?_
        ·(try dsimp only); exact lq7 xN zo zg kW
        clear hK K hHeld; intro hHeld
        (try simp only [Act.put,List.setIfInBounds_toArray,List.set_cons_zero,List.set_cons_succ])
        refine wpAnyH_ready (rs:=[10]) (by kernel_rfl) (by simp) ?_
        refine AllReadyH.cons (o:=⟨none,_,_,_,_,_⟩) rfl (fun K hK => ?_) ?_
        ·skip
         have f0:=zO.c0
         have f1:=zO.c1
         have f2:=zO.c2
         have f3:=zO.f 0
         have f4:=zO.f 1
         have f5:=zO.f 2
         go_simp
         have gS:=tb_set wLzO (wC.heap.size) (.slice none 0 0) (.bool sC) (.slice aC lC cC)
         have hC:=hC.grownU gS (tb_noU zO)
         have zO:=tb_fin zO none 0 0 sC aC lC cC
         have kW:=((kW.setCell (p:=⟨wC.heap.size,0,none⟩) hbzO (.slice none 0 0)).setCell (p:=⟨wC.heap.size,1,none⟩) hbzO (.bool sC)).setCell (p:=⟨wC.heap.size,2,none⟩) hbzO (.slice aC lC cC)
         refine hK.out _ _ ?_ ?_
         ·(try dsimp only); exact lq7 xN zo zg kW
         clear hK K hHeld; intro hHeld
         (try simp only [Act.put,List.setIfInBounds_toArray,List.set_cons_zero,List.set_cons_succ])
         refine wpAnyH_done (by kernel_rfl) ?_ _
         exact ⟨rfl,_,sA,aA,lA,cA,sB,aB,lB,cB,sC,aC,lC,cC,rfl,zO,hC,by omega,hbzO,kW⟩
        exact AllReadyH.nil
       exact AllReadyH.nil
      exact AllReadyH.nil
     refine AllReadyH.cons (o:=⟨some 7,_,_,_,_,_⟩) rfl (fun K hK => ?_) ?_
     ·have kL:=below_alloc (wB) (.cells #[.slice none 0 0,.bool false,.slice none 0 0] 27)
      have hA:=hA.below kL
      have hBz:=hBz.below kL
      have zO : TB ((wB).alloc (.cells #[.slice none 0 0,.bool false,.slice none 0 0] 27)) (wB.heap.size) none 0 0 false none 0 0:=tb_new _ _ _ _ _ _ _ _
      have hbzO : w7.heap.size≤wB.heap.size:=kW.size
      have kW:=grow_step kL kW
      go_simp
      refine hK.out _ _ ?_ ?_
      ·(try dsimp only); exact lq7 xN zo zg kW
      clear hK K hHeld; intro hHeld
      (try simp only [Act.put,List.setIfInBounds_toArray,List.set_cons_zero,List.set_cons_succ])
      generalize (wB).alloc (.cells #[.slice none 0 0,.bool false,.slice none 0 0] 27) = wLzO at *
      refine wpAnyH_ready (rs:=[7]) (by kernel_rfl) (by simp) ?_
      refine AllReadyH.cons (o:=⟨some 32,_,_,_,_,_⟩) rfl (fun K hK => ?_) ?_
      ·go_simp
       go_at_call 77; refine Calls.mono (radd2_n hBz.zm (hz6.zm.below kW) (by omega) (by omega)) ?_; rintro e wC ⟨sC,aC,lC,cC,rfl,hC,kC,hlC⟩
       have hA:=hA.below kC
       have hBz:=hBz.below kC
       have zO:=zO.below kC
       have kW:=grow_step kC kW
       (try go_wp2_with fail)
       refine hK.out _ _ ?_ ?_
       ·(try dsimp only); exact lq7 xN zo zg kW
       clear hK K hHeld; intro hHeld
       (try simp only [Act.put,List.setIfInBounds_toArray,List.set_cons_zero,List.set_cons_succ])
       refine wpAnyH_ready (rs:=[8]) (by kernel_rfl) (by simp) ?_
       refine AllReadyH.cons (o:=⟨some 33,_,_,_,_,_⟩) rfl (fun K hK => ?_) ?_
       ·skip
        go_simp
        refine hK.out _ _ ?_ ?_
        ·(try dsimp only); exact lq7 xN zo zg kW
        clear hK K hHeld; intro hHeld
        (try simp only [Act.put,List.setIfInBounds_toArray,List.set_cons_zero,List.set_cons_succ])
        refine wpAnyH_ready (rs:=[10]) (by kernel_rfl) (by simp) ?_
        refine AllReadyH.cons (o:=⟨none,_,_,_,_,_⟩) rfl (fun K hK => ?_) ?_
        ·skip
         have f0:=zO.c0
         have f1:=zO.c1
         have f2:=zO.c2
         have f3:=zO.f 0
         have f4:=zO.f 1
         have f5:=zO.f 2
         go_simp
         have gS:=tb_set wC (wB.heap.size) (.slice none 0 0) (.bool sC) (.slice aC lC cC)
         have hC:=hC.grownU gS (tb_noU zO)
         have zO:=tb_fin zO none 0 0 sC aC lC cC
         have kW:=((kW.setCell (p:=⟨wB.heap.size,0,none⟩) hbzO (.slice none 0 0)).setCell (p:=⟨wB.heap.size,1,none⟩) hbzO (.bool sC)).setCell (p:=⟨wB.heap.size,2,none⟩) hbzO (.slice aC lC cC)
         refine hK.out _ _ ?_ ?_
         ·(try dsimp only); exact lq7 xN zo zg kW
         clear hK K hHeld; intro hHeld
         (try simp only [Act.put,List.setIfInBounds_toArray,List.set_cons_zero,List.set_cons_succ])
         refine wpAnyH_done (by kernel_rfl) ?_ _
         exact ⟨rfl,_,sA,aA,lA,cA,sB,aB,lB,cB,sC,aC,lC,cC,rfl,zO,hC,by omega,hbzO,kW⟩
        exact AllReadyH.nil
       exact AllReadyH.nil
      exact AllReadyH.nil
     exact AllReadyH.nil
    refine AllReadyH.cons (o:=⟨some 7,_,_,_,_,_⟩) rfl (fun K hK => ?_) ?_
    ·have kL:=below_alloc (wA) (.cells #[.slice none 0 0,.bool false,.slice none 0 0] 27)
     have hA:=hA.below kL
     have zO : TB ((wA).alloc (.cells #[.slice none 0 0,.bool false,.slice none 0 0] 27)) (wA.heap.size) none 0 0 false none 0 0:=tb_new _ _ _ _ _ _ _ _
     have hbzO : w7.heap.size≤wA.heap.size:=kW.size
     have kW:=grow_step kL kW
     go_simp
     refine hK.out _ _ ?_ ?_
     ·(try dsimp only); exact lq7 xN zo zg kW
     clear hK K hHeld; intro hHeld
     (try simp only [Act.put,List.setIfInBounds_toArray,List.set_cons_zero,List.set_cons_succ])
     generalize (wA).alloc (.cells #[.slice none 0 0,.bool false,.slice none 0 0] 27) = wLzO at *
     refine wpAnyH_ready (rs:=[5]) (by kernel_rfl) (by simp) ?_
     refine AllReadyH.cons (o:=⟨some 30,_,_,_,_,_⟩) rfl (fun K hK => ?_) ?_
     ·go_simp
      go_at_call 78; refine Calls.mono (rfloor6_n hA.zm (hzg.zm.below kW) (by omega) (by omega) hpos9) ?_; rintro e wB ⟨sB,aB,lB,cB,rfl,hBz,kB,hlB⟩
      have hA:=hA.below kB
      have zO:=zO.below kB
      have kW:=grow_step kB kW
      (try go_wp2_with fail)
      refine hK.out _ _ ?_ ?_
      ·(try dsimp only); exact lq7 xN zo zg kW
      clear hK K hHeld; intro hHeld
      (try simp only [Act.put,List.setIfInBounds_toArray,List.set_cons_zero,List.set_cons_succ])
      refine wpAnyH_ready (rs:=[7]) (by kernel_rfl) (by simp) ?_
      refine AllReadyH.cons (o:=⟨some 32,_,_,_,_,_⟩) rfl (fun K hK => ?_) ?_
      ·go_simp
       go_at_call 77; refine Calls.mono (radd2_n hBz.zm (hz6.zm.below kW) (by omega) (by omega)) ?_; rintro e wC ⟨sC,aC,lC,cC,rfl,hC,kC,hlC⟩
       have hA:=hA.below kC
       have zO:=zO.below kC
       have hBz:=hBz.below kC
       have kW:=grow_step kC kW
       (try go_wp2_with fail)
       refine hK.out _ _ ?_ ?_
       ·(try dsimp only); exact lq7 xN zo zg kW
       clear hK K hHeld; intro hHeld
       (try simp only [Act.put,List.setIfInBounds_toArray,List.set_cons_zero,List.set_cons_succ])
       refine wpAnyH_ready (rs:=[8]) (by kernel_rfl) (by simp) ?_
       refine AllReadyH.cons (o:=⟨some 33,_,_,_,_,_⟩) rfl (fun K hK => ?_) ?_
       ·skip
        go_simp
        refine hK.out _ _ ?_ ?_
        ·(try dsimp only); exact lq7 xN zo zg kW
        clear hK K hHeld; intro hHeld
        (try simp only [Act.put,List.setIfInBounds_toArray,List.set_cons_zero,List.set_cons_succ])
        refine wpAnyH_ready (rs:=[10]) (by kernel_rfl) (by simp) ?_
        refine AllReadyH.cons (o:=⟨none,_,_,_,_,_⟩) rfl (fun K hK => ?_) ?_
        ·skip
         have f0:=zO.c0
         have f1:=zO.c1
         have f2:=zO.c2
         have f3:=zO.f 0
         have f4:=zO.f 1
         have f5:=zO.f 2
         go_simp
         have gS:=tb_set wC (wA.heap.size) (.slice none 0 0) (.bool sC) (.slice aC lC cC)
         have hC:=hC.grownU gS (tb_noU zO)
         have zO:=tb_fin zO none 0 0 sC aC lC cC
         have kW:=((kW.setCell (p:=⟨wA.heap.size,0,none⟩) hbzO (.slice none 0 0)).setCell (p:=⟨wA.heap.size,1,none⟩) hbzO (.bool sC)).setCell (p:=⟨wA.heap.size,2,none⟩) hbzO (.slice aC lC cC)
         refine hK.out _ _ ?_ ?_
         ·(try dsimp only); exact lq7 xN zo zg kW
         clear hK K hHeld; intro hHeld
         (try simp only [Act.put,List.setIfInBounds_toArray,List.set_cons_zero,List.set_cons_succ])
         refine wpAnyH_done (by kernel_rfl) ?_ _
         exact ⟨rfl,_,sA,aA,lA,cA,sB,aB,lB,cB,sC,aC,lC,cC,rfl,zO,hC,by omega,hbzO,kW⟩
        exact AllReadyH.nil
       exact AllReadyH.nil
      exact AllReadyH.nil
     exact AllReadyH.nil
    exact AllReadyH.nil
   refine AllReadyH.cons (o:=⟨some 7,_,_,_,_,_⟩) rfl (fun K hK => ?_) ?_
   ·have kL:=below_alloc (wQ) (.cells #[.slice none 0 0,.bool false,.slice none 0 0] 27)
    have zO : TB ((wQ).alloc (.cells #[.slice none 0 0,.bool false,.slice none 0 0] 27)) (wQ.heap.size) none 0 0 false none 0 0:=tb_new _ _ _ _ _ _ _ _
    have hbzO : w7.heap.size≤wQ.heap.size:=kW.size
    have kW:=grow_step kL kW
    go_simp
    refine hK.out _ _ ?_ ?_
    ·(try dsimp only); exact lq7 xN zo zg kW
    clear hK K hHeld; intro hHeld
    (try simp only [Act.put,List.setIfInBounds_toArray,List.set_cons_zero,List.set_cons_succ])
    generalize (wQ).alloc (.cells #[.slice none 0 0,.bool false,.slice none 0 0] 27) = wLzO at *
    refine wpAnyH_ready (rs:=[3]) (by kernel_rfl) (by simp) ?_
    refine AllReadyH.cons (o:=⟨some 28,_,_,_,_,_⟩) rfl (fun K hK => ?_) ?_
    ·go_simp
     go_at_call 79; refine Calls.mono (rsub2_n (hz2.zm.below kW) (hz6.zm.below kW) (by omega) (by omega)) ?_; rintro e wA ⟨sA,aA,lA,cA,rfl,hA,kA,hlA⟩
     have zO:=zO.below kA
     have kW:=grow_step kA kW
     (try go_wp2_with fail)
     refine hK.out _ _ ?_ ?_
     ·(try dsimp only); exact lq7 xN zo zg kW
     clear hK K hHeld; intro hHeld
     (try simp only [Act.put,List.setIfInBounds_toArray,List.set_cons_zero,List.set_cons_succ])
     refine wpAnyH_ready (rs:=[5]) (by kernel_rfl) (by simp) ?_
     refine AllReadyH.cons (o:=⟨some 30,_,_,_,_,_⟩) rfl (fun K hK => ?_) ?_
     ·go_simp
      go_at_call 78; refine Calls.mono (rfloor6_n hA.zm (hzg.zm.below kW) (by omega) (by omega) hpos9) ?_; rintro e wB ⟨sB,aB,lB,cB,rfl,hBz,kB,hlB⟩
      have zO:=zO.below kB
      have hA:=hA.below kB
      have kW:=grow_step kB kW
      (try go_wp2_with fail)
      refine hK.out _ _ ?_ ?_
      ·(try dsimp only); exact lq7 xN zo zg kW
      clear hK K hHeld; intro hHeld
      (try simp only [Act.put,List.setIfInBounds_toArray,List.set_cons_zero,List.set_cons_succ])
      refine wpAnyH_ready (rs:=[7]) (by kernel_rfl) (by simp) ?_
      refine AllReadyH.cons (o:=⟨some 32,_,_,_,_,_⟩) rfl (fun K hK => ?_) ?_
      ·go_simp
       go_at_call 77; refine Calls.mono (radd2_n hBz.zm (hz6.zm.below kW) (by omega) (by omega)) ?_; rintro e wC ⟨sC,aC,lC,cC,rfl,hC,kC,hlC⟩
       have zO:=zO.below kC
       have hA:=hA.below kC
       have hBz:=hBz.below kC
       have kW:=grow_step kC kW
       (try go_wp2_with fail)
       refine hK.out _ _ ?_ ?_
       ·(try dsimp only); exact lq7 xN zo zg kW
       clear hK K hHeld; intro hHeld
       (try simp only [Act.put,List.setIfInBounds_toArray,List.set_cons_zero,List.set_cons_succ])
       refine wpAnyH_ready (rs:=[8]) (by kernel_rfl) (by simp) ?_
       refine AllReadyH.cons (o:=⟨some 33,_,_,_,_,_⟩) rfl (fun K hK => ?_) ?_
       ·skip
        go_simp
        refine hK.out _ _ ?_ ?_
        ·(try dsimp only); exact lq7 xN zo zg kW
        clear hK K hHeld; intro hHeld
        (try simp only [Act.put,List.setIfInBounds_toArray,List.set_cons_zero,List.set_cons_succ])
        refine wpAnyH_ready (rs:=[10]) (by kernel_rfl) (by simp) ?_
        refine AllReadyH.cons (o:=⟨none,_,_,_,_,_⟩) rfl (fun K hK => ?_) ?_
        ·skip
         have f0:=zO.c0
         have f1:=zO.c1
         have f2:=zO.c2
         have f3:=zO.f 0
         have f4:=zO.f 1
         have f5:=zO.f 2
         go_simp
         have gS:=tb_set wC (wQ.heap.size) (.slice none 0 0) (.bool sC) (.slice aC lC cC)
         have hC:=hC.grownU gS (tb_noU zO)
         have zO:=tb_fin zO none 0 0 sC aC lC cC
         have kW:=((kW.setCell (p:=⟨wQ.heap.size,0,none⟩) hbzO (.slice none 0 0)).setCell (p:=⟨wQ.heap.size,1,none⟩) hbzO (.bool sC)).setCell (p:=⟨wQ.heap.size,2,none⟩) hbzO (.slice aC lC cC)
         refine hK.out _ _ ?_ ?_
         ·(try dsimp only); exact lq7 xN zo zg kW
         clear hK K hHeld; intro hHeld
         (try simp only [Act.put,List.setIfInBounds_toArray,List.set_cons_zero,List.set_cons_succ])
         refine wpAnyH_done (by kernel_rfl) ?_ _
         exact ⟨rfl,_,sA,aA,lA,cA,sB,aB,lB,cB,sC,aC,lC,cC,rfl,zO,hC,by omega,hbzO,kW⟩
        exact AllReadyH.nil
       exact AllReadyH.nil
      exact AllReadyH.nil
     exact AllReadyH.nil
    exact AllReadyH.nil
   exact AllReadyH.nil
  rintro e a' wo ⟨rfl,o,sA,aA,lA,cA,sB,aB,lB,cB,sC,aC,lC,cC,rfl,yo,hzC,hlC,hoW,k7⟩
  have hr7 : r < w7.heap.size:=(Array.getElem?_eq_some_iff.1 y1).1
  have x1:=xN.below k7
  have z1:=zg.below k7
  have hxl:=xN.lt
  have hgl:=zg.lt
  replace y1:=(k7.block r hr7).trans y1
  have hd:=hzg.zm.below k7
  have hbo : Hid (Below w.heap.size w wo):=grow_step k7 kk.out
  have hP7:=hide hP2
  have hk7:=hide k7
  clear hz2 hzg hz6 zo kk xN zg k7 hP2
  go_wp2_with fail
  go_loopw [8] (fun i wr => ∃ (t : Nat) (ad' : Option Addr) (cap' : Nat) (L' : List Raw),t≤n1∧i = .int .i64 t∧TB wr o ad' t cap' sC aC lC cC∧Hid (RS wo.heap.size wr (.slice ad' t cap') t cap' L')∧Hid (Rok wr (B + n + 4) L')∧Hid ((L'.take t).map Raw.p = mapP (fun x => x / ((gcdL 0 qs : Nat) : Int)) (qs.take t))∧Hid (wo.grownBy wr (some o))) (fun i _ => n1 - (intOf i).toNat)
  case atStart => exact ⟨0,none,0,[],Nat.zero_le _,rfl,yo,.inl ⟨rfl,rfl,rfl,rfl⟩,(fun x hx => absurd hx (by simp)),(show _ = _ from rfl),⟨rfl,rfl,rfl,Nat.le_refl _,fun _ _ _ => rfl⟩⟩
  case round =>
   obtain ⟨t,ad',cap',L',ht,rfl,yr,hR,hok,hlays,hg⟩:=hrel
   have xr:=x1.grown hg.out (by omega)
   have u0:=xr.c0
   have e0:=yr.c0
   have f0:=yr.f 0
   have hol:=yo.lt
   by_cases htn : t < n1
   ·obtain ⟨hpn,hPr⟩:=hP7.out.pr
    rcases hPr with hPr | ⟨bp,f,rfl,hPr⟩
    ·omega
    have hbp:=hPr.1
    obtain ⟨s3,a3,l3,c3,g0,g1,g2,hz3,hl3,hv⟩:=(hPr.below hk7.out).2 t (by omega)
    have hbpo : bp ≠ o:=by omega
    have hbpl : bp < wo.heap.size:=(hPr.below hk7.out).1
    have hpo : bn ≠ o:=by omega
    have hqo : bg ≠ o:=by omega
    have hps : Hid (qs.take (t + 1) = qs.take t ++ [qs[t]]):=List.take_succ_eq_append_getElem (l:=qs) (i:=t) (by omega)
    generalize qs[t] = pp at *
    obtain ⟨pv,pz⟩:=pp
    dsimp only at *
    obtain ⟨w0,hw0,hbr,hnext⟩:=own_base yo hg.out yr
    replace hz3:=hz3.grownU hg.out (tb_noU yo)
    have hd3:=hd.grownU hg.out (tb_noU yo)
    have hRq : RS w0.heap.size wr (.slice ad' t cap') t cap' L':=hw0 ▸ hR.out
    have hokq:=hok.out
    clear hPr
    have HH:=hide (And.intro hbr (And.intro hz3 (And.intro hd3 (And.intro hRq (And.intro hokq (And.intro hnext hw0))))))
    clear hbr hz3 hd3 hRq hokq hnext hw0
    go_wp2_with fail
    obtain ⟨hbr,hz3,hd3,hRq,hokq,hnext,hw0⟩:=HH.out
    clear HH
    refine wp_region_held_drew (S:=(fun w' => w'.cell? ⟨bn,0,none⟩ = some (.slice (some ⟨bp,f,none⟩) n1 cp1)∧w'.cell? ⟨bp,f + t * 3,none⟩ = some (.int .i64 pv)∧w'.cell? ⟨bp,f + t * 3 + 1,none⟩ = some (.bool s3)∧w'.cell? ⟨bp,f + t * 3 + 2,none⟩ = some (.slice a3 l3 c3)∧w'.cell? ⟨bg,0,none⟩ = some (.bool sg)∧w'.cell? ⟨bg,1,none⟩ = some (.slice ag lg cg)∧wo.grownBy w' (some o))) (by kernel_rfl) (nk2 x1 hpo g0 g1 g2 hbpl hbpo z1 hqo (gb_below hg.out (grow_drew (Below.refl wr.heap.size wr)))) (fun hHeld => ?_)
    show wpAnyH _ _ _ _ _ 21 _ _ _
    have kW:=grow_drew (Below.refl wr.heap.size wr)
    have yr:=yr.below kW
    have hRq:=hRq.below kW
    have hokq:=hokq.below kW
    generalize wr.drew = wQ at *
    refine wpAnyH_take (i:=0) (oi:=⟨some 41,_,_,_,_,_⟩) (v:=?_) rfl (by kernel_rfl) (by kernel_rfl) (by kernel_rfl) (fun _ _ _ h => h) (Or.inl ⟨by rfl,?_⟩) (by assumption) ?_
    rotate_left
    ·intro wq hSw; (try dsimp only at hSw); go_simp; (try with_reducible rfl)
    (try simp only [Act.put,List.setIfInBounds_toArray,List.set_cons_zero,List.set_cons_succ])
    refine wpAnyH_take (i:=2) (oi:=⟨some 43,_,_,_,_,_⟩) (v:=?_) rfl (by kernel_rfl) (by kernel_rfl) (by kernel_rfl) (fun _ _ _ h => h) (Or.inl ⟨by rfl,?_⟩) (by assumption) ?_
    rotate_left
    ·intro wq hSw; (try dsimp only at hSw); go_simp; (try with_reducible rfl)
    (try simp only [Act.put,List.setIfInBounds_toArray,List.set_cons_zero,List.set_cons_succ])
    refine wpAnyH_take (i:=3) (oi:=⟨some 44,_,_,_,_,_⟩) (v:=?_) rfl (by kernel_rfl) (by kernel_rfl) (by kernel_rfl) (fun _ _ _ h => h) (Or.inl ⟨by rfl,?_⟩) (by assumption) ?_
    rotate_left
    ·intro wq hSw; (try dsimp only at hSw); go_simp; (try with_reducible rfl)
    (try simp only [Act.put,List.setIfInBounds_toArray,List.set_cons_zero,List.set_cons_succ])
    refine wpAnyH_take (i:=4) (oi:=⟨some 45,_,_,_,_,_⟩) (v:=?_) rfl (by kernel_rfl) (by kernel_rfl) (by kernel_rfl) (fun _ _ _ h => h) (Or.inl ⟨by rfl,?_⟩) (by assumption) ?_
    rotate_left
    ·intro wq hSw; (try dsimp only at hSw); go_simp; (try with_reducible rfl)
    (try simp only [Act.put,List.setIfInBounds_toArray,List.set_cons_zero,List.set_cons_succ])
    refine wpAnyH_take (i:=5) (oi:=⟨some 46,_,_,_,_,_⟩) (v:=?_) rfl (by kernel_rfl) (by kernel_rfl) (by kernel_rfl) (fun _ _ _ h => h) (Or.inl ⟨by rfl,?_⟩) (by assumption) ?_
    rotate_left
    ·intro wq hSw; (try dsimp only at hSw); go_simp; (try with_reducible rfl)
    (try simp only [Act.put,List.setIfInBounds_toArray,List.set_cons_zero,List.set_cons_succ])
    refine wpAnyH_take (i:=6) (oi:=⟨some 47,_,_,_,_,_⟩) (v:=?_) rfl (by kernel_rfl) (by kernel_rfl) (by kernel_rfl) (fun _ _ _ h => h) (Or.inl ⟨by rfl,?_⟩) (by assumption) ?_
    rotate_left
    ·intro wq hSw; (try dsimp only at hSw); go_simp; (try with_reducible rfl)
    (try simp only [Act.put,List.setIfInBounds_toArray,List.set_cons_zero,List.set_cons_succ])
    refine wpAnyH_take (i:=7) (oi:=⟨some 48,_,_,_,_,_⟩) (v:=?_) rfl (by kernel_rfl) (by kernel_rfl) (by kernel_rfl) (fun _ _ _ h => h) (Or.inl ⟨by rfl,?_⟩) (by assumption) ?_
    rotate_left
    ·intro wq hSw; (try dsimp only at hSw); go_simp; (try with_reducible rfl)
    (try simp only [Act.put,List.setIfInBounds_toArray,List.set_cons_zero,List.set_cons_succ])
    refine wpAnyH_take (i:=8) (oi:=⟨some 49,_,_,_,_,_⟩) (v:=?_) rfl (by kernel_rfl) (by kernel_rfl) (by kernel_rfl) (fun _ _ _ h => h) (Or.inl ⟨by rfl,?_⟩) (by assumption) ?_
    rotate_left
    ·intro wq hSw; (try dsimp only at hSw); go_simp; (try with_reducible rfl)
    (try simp only [Act.put,List.setIfInBounds_toArray,List.set_cons_zero,List.set_cons_succ])
    refine wpAnyH_take (i:=9) (oi:=⟨some 50,_,_,_,_,_⟩) (v:=?_) rfl (by kernel_rfl) (by kernel_rfl) (by kernel_rfl) (fun _ _ _ h => h) (Or.inl ⟨by rfl,?_⟩) (by assumption) ?_
    rotate_left
    ·intro wq hSw; (try dsimp only at hSw); go_simp; (try with_reducible rfl)
    (try simp only [Act.put,List.setIfInBounds_toArray,List.set_cons_zero,List.set_cons_succ])
    refine wpAnyH_take (i:=10) (oi:=⟨some 51,_,_,_,_,_⟩) (v:=?_) rfl (by kernel_rfl) (by kernel_rfl) (by kernel_rfl) (fun _ _ _ h => h) (Or.inl ⟨by rfl,?_⟩) (by assumption) ?_
    rotate_left
    ·intro wq hSw; (try dsimp only at hSw); go_simp; (try with_reducible rfl)
    (try simp only [Act.put,List.setIfInBounds_toArray,List.set_cons_zero,List.set_cons_succ])
    refine wpAnyH_take (i:=11) (oi:=⟨some 52,_,_,_,_,_⟩) (v:=?_) rfl (by kernel_rfl) (by kernel_rfl) (by kernel_rfl) (fun _ _ _ h => h) (Or.inl ⟨by rfl,?_⟩) (by assumption) ?_
    rotate_left
    ·intro wq hSw; (try dsimp only at hSw); go_simp; (try with_reducible rfl)
    (try simp only [Act.put,List.setIfInBounds_toArray,List.set_cons_zero,List.set_cons_succ])
    refine wpAnyH_take (i:=12) (oi:=⟨some 53,_,_,_,_,_⟩) (v:=?_) rfl (by kernel_rfl) (by kernel_rfl) (by kernel_rfl) (fun _ _ _ h => h) (Or.inl ⟨by rfl,?_⟩) (by assumption) ?_
    rotate_left
    ·intro wq hSw; (try dsimp only at hSw); go_simp; (try with_reducible rfl)
    (try simp only [Act.put,List.setIfInBounds_toArray,List.set_cons_zero,List.set_cons_succ])
    refine wpAnyH_take (i:=13) (oi:=⟨some 54,_,_,_,_,_⟩) (v:=?_) rfl (by kernel_rfl) (by kernel_rfl) (by kernel_rfl) (fun _ _ _ h => h) (Or.inl ⟨by rfl,?_⟩) (by assumption) ?_
    rotate_left
    ·intro wq hSw; (try dsimp only at hSw); go_simp; (try with_reducible rfl)
    (try simp only [Act.put,List.setIfInBounds_toArray,List.set_cons_zero,List.set_cons_succ])
    refine wpAnyH_take (i:=14) (oi:=⟨some 55,_,_,_,_,_⟩) (v:=?_) rfl (by kernel_rfl) (by kernel_rfl) (by kernel_rfl) (fun _ _ _ h => h) (Or.inl ⟨by rfl,?_⟩) (by assumption) ?_
    rotate_left
    ·intro wq hSw; (try dsimp only at hSw); go_simp; (try with_reducible rfl)
    (try simp only [Act.put,List.setIfInBounds_toArray,List.set_cons_zero,List.set_cons_succ])
    refine wpAnyH_ready (rs:=[1,15]) (by kernel_rfl) (by simp) ?_
    refine AllReadyH.cons (o:=⟨some 42,_,_,_,_,_⟩) rfl (fun K hK => ?_) ?_
    ·have f0:=yr.c0
     go_simp
     refine hK.out _ _ ?_ ?_
     ·(try dsimp only); exact nk2 x1 hpo g0 g1 g2 hbpl hbpo z1 hqo (gb_below hg.out kW)
     clear hK K hHeld; intro hHeld
     (try simp only [Act.put,List.setIfInBounds_toArray,List.set_cons_zero,List.set_cons_succ])
     refine wpAnyH_ready (rs:=[15]) (by kernel_rfl) (by simp) ?_
     refine AllReadyH.cons (o:=⟨some 56,_,_,_,_,_⟩) rfl (fun K hK => ?_) ?_
     ·go_simp
      go_at_call 78; refine Calls.mono (rfloor6_n (hz3.below kW) (hd3.below kW) (by omega) (by omega) hpos9) ?_; rintro e wA ⟨sN,aN,lN,cN,rfl,hN,kA,hlN⟩
      have yr:=yr.below kA
      have hRq:=hRq.below kA
      have hokq:=hokq.below kA
      have kW:=grow_step kA kW
      (try go_wp2_with fail)
      refine hK.out _ _ ?_ ?_
      ·(try dsimp only); exact nk2 x1 hpo g0 g1 g2 hbpl hbpo z1 hqo (gb_below hg.out kW)
      clear hK K hHeld; intro hHeld
      (try simp only [Act.put,List.setIfInBounds_toArray,List.set_cons_zero,List.set_cons_succ])
      refine wpAnyH_ready (rs:=[16]) (by kernel_rfl) (by simp) ?_
      refine AllReadyH.cons (o:=⟨some 57,_,_,_,_,_⟩) rfl (fun K hK => ?_) ?_
      ·go_simp
       refine hK.out _ _ ?_ ?_
       ·(try dsimp only); exact nk2 x1 hpo g0 g1 g2 hbpl hbpo z1 hqo (gb_below hg.out kW)
       clear hK K hHeld; intro hHeld
       (try simp only [Act.put,List.setIfInBounds_toArray,List.set_cons_zero,List.set_cons_succ])
       refine wpAnyH_ready (rs:=[17]) (by kernel_rfl) (by simp) ?_
       refine AllReadyH.cons (o:=⟨some 58,_,_,_,_,_⟩) rfl (fun K hK => ?_) ?_
       ·have kL:=below_alloc (wA) (.cells #[.int .i64 pv,.bool sN,.slice aN lN cN] 59)
        have yr:=yr.below kL
        have hRq:=hRq.below kL
        have hokq:=hokq.below kL
        have hN:=hN.below kL
        have hv3:=v3_new wA pv sN aN lN cN
        have kW:=grow_step kL kW
        go_simp
        refine hK.out _ _ ?_ ?_
        ·(try dsimp only); exact nk2 x1 hpo g0 g1 g2 hbpl hbpo z1 hqo (gb_below hg.out kW)
        clear hK K hHeld; intro hHeld
        (try simp only [Act.put,List.setIfInBounds_toArray,List.set_cons_zero,List.set_cons_succ])
        generalize (wA).alloc (.cells #[.int .i64 pv,.bool sN,.slice aN lN cN] 59) = wL at *
        refine wpAnyH_ready (rs:=[18]) (by kernel_rfl) (by simp) ?_
        refine AllReadyH.cons (o:=⟨some 59,_,_,_,_,_⟩) rfl (fun K hK => ?_) ?_
        ·skip
         refine anyH_append rfl _ _ 25 rfl _ _ rfl rfl _ (run_append_rs (w0:=w0) hRq (grow_step kW hbr) ⟨pv,sN,aN,lN,cN,pz / ((gcdL 0 qs : Nat) : Int)⟩ ⟨wA.heap.size,0,none⟩ hv3 (by omega) _) ?_
         rintro v5 w8 ⟨cap5,L5,hR5,htk,hmem,hb5,hg5, -⟩
         obtain ⟨ad5,rfl⟩:=hR5.row
         obtain ⟨hgS,y8⟩:=hnext w8 hb5
         refine hK.out _ _ ?_ ?_
         ·(try dsimp only); exact nk2 x1 hpo g0 g1 g2 hbpl hbpo z1 hqo hgS
         clear hK K hHeld; intro hHeld
         (try simp only [Act.put,List.setIfInBounds_toArray,List.set_cons_zero,List.set_cons_succ])
         refine wpAnyH_ready (rs:=[19]) (by kernel_rfl) (by simp) ?_
         refine AllReadyH.cons (o:=⟨some 60,_,_,_,_,_⟩) rfl (fun K hK => ?_) ?_
         ·go_simp
          refine hK.out _ _ ?_ ?_
          ·(try dsimp only); exact nk2 x1 hpo g0 g1 g2 hbpl hbpo z1 hqo hgS
          clear hK K hHeld; intro hHeld
          (try simp only [Act.put,List.setIfInBounds_toArray,List.set_cons_zero,List.set_cons_succ])
          refine wpAnyH_ready (rs:=[20]) (by kernel_rfl) (by simp) ?_
          refine AllReadyH.cons (o:=⟨none,_,_,_,_,_⟩) rfl (fun K hK => ?_) ?_
          ·have f0:=y8.c0
           have f1:=y8.f 0
           go_simp
           have hgS:=gb_trans hgS (gb_set w8 o 0 (.slice ad5 (t + 1) cap5))
           refine hK.out _ _ ?_ ?_
           ·(try dsimp only); exact nk2 x1 hpo g0 g1 g2 hbpl hbpo z1 hqo hgS
           clear hK K hHeld; intro hHeld
           (try simp only [Act.put,List.setIfInBounds_toArray,List.set_cons_zero,List.set_cons_succ])
           refine wpAnyH_done (by kernel_rfl) ?_ _
           have y3:=tb_set0 y8 ad5 (t + 1) cap5
           have hR3:=hide (RS.grown (o:=o) (hw0 ▸ hR5 : RS wo.heap.size w8 (.slice ad5 (t + 1) cap5) (t + 1) cap5 L5) (gb_set w8 o 0 (.slice ad5 (t + 1) cap5)) hol)
           have ok5 : Rok w8 (B + n + 4) L5:=fun y hy => by
            rcases hmem y hy with h | rfl | rfl
            ·exact ⟨hRq.zn hg5 (hokq y h).1,(hokq y h).2⟩
            ·exact ⟨hRq.zn hg5 hN,by show lN≤_; omega,hv⟩
            ·exact zr_ok _ _
           have hok3 : Hid (Rok (w8.setCell ⟨o,0,none⟩ (.slice ad5 (t + 1) cap5)) (B + n + 4) L5):=ok5.grownU (gb_set w8 o 0 (.slice ad5 (t + 1) cap5)) (tb_noU y8)
           have hlays3 : Hid ((L5.take (t + 1)).map Raw.p = mapP (fun x => x / ((gcdL 0 qs : Nat) : Int)) (qs.take (t + 1))):=(show _ = _ by rw [htk,List.map_append,hps.out,mapP_snoc,hlays.out]; rfl)
           replace hgS:=hide hgS
           clear hHeld hR5 ok5 hmem htk hb5 hg5 y8 hRq hokq hN yr hv3 kW kA hbr hnext
           go_wp2_with fail
           exact ⟨⟨t + 1,ad5,cap5,L5,by omega,by go_num,y3,hR3,hok3,hlays3,hgS⟩,by simp [intOf]; omega⟩
          exact AllReadyH.nil
         exact AllReadyH.nil
        exact AllReadyH.nil
       exact AllReadyH.nil
      exact AllReadyH.nil
     exact AllReadyH.nil
    refine AllReadyH.cons (o:=⟨some 56,_,_,_,_,_⟩) rfl (fun K hK => ?_) ?_
    ·go_simp
     go_at_call 78; refine Calls.mono (rfloor6_n (hz3.below kW) (hd3.below kW) (by omega) (by omega) hpos9) ?_; rintro e wA ⟨sN,aN,lN,cN,rfl,hN,kA,hlN⟩
     have yr:=yr.below kA
     have hRq:=hRq.below kA
     have hokq:=hokq.below kA
     have kW:=grow_step kA kW
     (try go_wp2_with fail)
     refine hK.out _ _ ?_ ?_
     ·(try dsimp only); exact nk2 x1 hpo g0 g1 g2 hbpl hbpo z1 hqo (gb_below hg.out kW)
     clear hK K hHeld; intro hHeld
     (try simp only [Act.put,List.setIfInBounds_toArray,List.set_cons_zero,List.set_cons_succ])
     refine wpAnyH_ready (rs:=[1,16]) (by kernel_rfl) (by simp) ?_
     refine AllReadyH.cons (o:=⟨some 42,_,_,_,_,_⟩) rfl (fun K hK => ?_) ?_
     ·have f0:=yr.c0
      go_simp
      refine hK.out _ _ ?_ ?_
      ·(try dsimp only); exact nk2 x1 hpo g0 g1 g2 hbpl hbpo z1 hqo (gb_below hg.out kW)
      clear hK K hHeld; intro hHeld
      (try simp only [Act.put,List.setIfInBounds_toArray,List.set_cons_zero,List.set_cons_succ])
      refine wpAnyH_ready (rs:=[16]) (by kernel_rfl) (by simp) ?_
      refine AllReadyH.cons (o:=⟨some 57,_,_,_,_,_⟩) rfl (fun K hK => ?_) ?_
      ·go_simp
       refine hK.out _ _ ?_ ?_
       ·(try dsimp only); exact nk2 x1 hpo g0 g1 g2 hbpl hbpo z1 hqo (gb_below hg.out kW)
       clear hK K hHeld; intro hHeld
       (try simp only [Act.put,List.setIfInBounds_toArray,List.set_cons_zero,List.set_cons_succ])
       refine wpAnyH_ready (rs:=[17]) (by kernel_rfl) (by simp) ?_
       refine AllReadyH.cons (o:=⟨some 58,_,_,_,_,_⟩) rfl (fun K hK => ?_) ?_
       ·have kL:=below_alloc (wA) (.cells #[.int .i64 pv,.bool sN,.slice aN lN cN] 59)
        have yr:=yr.below kL
        have hRq:=hRq.below kL
        have hokq:=hokq.below kL
        have hN:=hN.below kL
        have hv3:=v3_new wA pv sN aN lN cN
        have kW:=grow_step kL kW
        go_simp
        refine hK.out _ _ ?_ ?_
        ·(try dsimp only); exact nk2 x1 hpo g0 g1 g2 hbpl hbpo z1 hqo (gb_below hg.out kW)
        clear hK K hHeld; intro hHeld
        (try simp only [Act.put,List.setIfInBounds_toArray,List.set_cons_zero,List.set_cons_succ])
        generalize (wA).alloc (.cells #[.int .i64 pv,.bool sN,.slice aN lN cN] 59) = wL at *
        refine wpAnyH_ready (rs:=[18]) (by kernel_rfl) (by simp) ?_
        refine AllReadyH.cons (o:=⟨some 59,_,_,_,_,_⟩) rfl (fun K hK => ?_) ?_
        ·skip
         refine anyH_append rfl _ _ 25 rfl _ _ rfl rfl _ (run_append_rs (w0:=w0) hRq (grow_step kW hbr) ⟨pv,sN,aN,lN,cN,pz / ((gcdL 0 qs : Nat) : Int)⟩ ⟨wA.heap.size,0,none⟩ hv3 (by omega) _) ?_
         rintro v5 w8 ⟨cap5,L5,hR5,htk,hmem,hb5,hg5, -⟩
         obtain ⟨ad5,rfl⟩:=hR5.row
         obtain ⟨hgS,y8⟩:=hnext w8 hb5
         refine hK.out _ _ ?_ ?_
         ·(try dsimp only); exact nk2 x1 hpo g0 g1 g2 hbpl hbpo z1 hqo hgS
         clear hK K hHeld; intro hHeld
         (try simp only [Act.put,List.setIfInBounds_toArray,List.set_cons_zero,List.set_cons_succ])
         refine wpAnyH_ready (rs:=[19]) (by kernel_rfl) (by simp) ?_
         refine AllReadyH.cons (o:=⟨some 60,_,_,_,_,_⟩) rfl (fun K hK => ?_) ?_
         ·go_simp
          refine hK.out _ _ ?_ ?_
          ·(try dsimp only); exact nk2 x1 hpo g0 g1 g2 hbpl hbpo z1 hqo hgS
          clear hK K hHeld; intro hHeld
          (try simp only [Act.put,List.setIfInBounds_toArray,List.set_cons_zero,List.set_cons_succ])
          refine wpAnyH_ready (rs:=[20]) (by kernel_rfl) (by simp) ?_
          refine AllReadyH.cons (o:=⟨none,_,_,_,_,_⟩) rfl (fun K hK => ?_) ?_
          ·have f0:=y8.c0
           have f1:=y8.f 0
           go_simp
           have hgS:=gb_trans hgS (gb_set w8 o 0 (.slice ad5 (t + 1) cap5))
           refine hK.out _ _ ?_ ?_
           ·(try dsimp only); exact nk2 x1 hpo g0 g1 g2 hbpl hbpo z1 hqo hgS
           clear hK K hHeld; intro hHeld
           (try simp only [Act.put,List.setIfInBounds_toArray,List.set_cons_zero,List.set_cons_succ])
           refine wpAnyH_done (by kernel_rfl) ?_ _
           have y3:=tb_set0 y8 ad5 (t + 1) cap5
           have hR3:=hide (RS.grown (o:=o) (hw0 ▸ hR5 : RS wo.heap.size w8 (.slice ad5 (t + 1) cap5) (t + 1) cap5 L5) (gb_set w8 o 0 (.slice ad5 (t + 1) cap5)) hol)
           have ok5 : Rok w8 (B + n + 4) L5:=fun y hy => by
            rcases hmem y hy with h | rfl | rfl
            ·exact ⟨hRq.zn hg5 (hokq y h).1,(hokq y h).2⟩
            ·exact ⟨hRq.zn hg5 hN,by show lN≤_; omega,hv⟩
            ·exact zr_ok _ _
           have hok3 : Hid (Rok (w8.setCell ⟨o,0,none⟩ (.slice ad5 (t + 1) cap5)) (B + n + 4) L5):=ok5.grownU (gb_set w8 o 0 (.slice ad5 (t + 1) cap5)) (tb_noU y8)
           have hlays3 : Hid ((L5.take (t + 1)).map Raw.p = mapP (fun x => x / ((gcdL 0 qs : Nat) : Int)) (qs.take (t + 1))):=(show _ = _ by rw [htk,List.map_append,hps.out,mapP_snoc,hlays.out]; rfl)
           replace hgS:=hide hgS
           clear hHeld hR5 ok5 hmem htk hb5 hg5 y8 hRq hokq hN yr hv3 kW kA hbr hnext
           go_wp2_with fail
           exact ⟨⟨t + 1,ad5,cap5,L5,by omega,by go_num,y3,hR3,hok3,hlays3,hgS⟩,by simp [intOf]; omega⟩
          exact AllReadyH.nil
         exact AllReadyH.nil
        exact AllReadyH.nil
       exact AllReadyH.nil
      exact AllReadyH.nil
     refine AllReadyH.cons (o:=⟨some 57,_,_,_,_,_⟩) rfl (fun K hK => ?_) ?_
     ·go_simp
      refine hK.out _ _ ?_ ?_
      ·(try dsimp only); exact nk2 x1 hpo g0 g1 g2 hbpl hbpo z1 hqo (gb_below hg.out kW)
      clear hK K hHeld; intro hHeld
      (try simp only [Act.put,List.setIfInBounds_toArray,List.set_cons_zero,List.set_cons_succ])
      refine wpAnyH_ready (rs:=[1,17]) (by kernel_rfl) (by simp) ?_
      refine AllReadyH.cons (o:=⟨some 42,_,_,_,_,_⟩) rfl (fun K hK => ?_) ?_
      ·have f0:=yr.c0
       go_simp
       refine hK.out _ _ ?_ ?_
       ·(try dsimp only); exact nk2 x1 hpo g0 g1 g2 hbpl hbpo z1 hqo (gb_below hg.out kW)
       clear hK K hHeld; intro hHeld
       (try simp only [Act.put,List.setIfInBounds_toArray,List.set_cons_zero,List.set_cons_succ])
       refine wpAnyH_ready (rs:=[17]) (by kernel_rfl) (by simp) ?_
       refine AllReadyH.cons (o:=⟨some 58,_,_,_,_,_⟩) rfl (fun K hK => ?_) ?_
       ·have kL:=below_alloc (wA) (.cells #[.int .i64 pv,.bool sN,.slice aN lN cN] 59)
        have yr:=yr.below kL
        have hRq:=hRq.below kL
        have hokq:=hokq.below kL
        have hN:=hN.below kL
        have hv3:=v3_new wA pv sN aN lN cN
        have kW:=grow_step kL kW
        go_simp
        refine hK.out _ _ ?_ ?_
        ·(try dsimp only); exact nk2 x1 hpo g0 g1 g2 hbpl hbpo z1 hqo (gb_below hg.out kW)
        clear hK K hHeld; intro hHeld
        (try simp only [Act.put,List.setIfInBounds_toArray,List.set_cons_zero,List.set_cons_succ])
        generalize (wA).alloc (.cells #[.int .i64 pv,.bool sN,.slice aN lN cN] 59) = wL at *
        refine wpAnyH_ready (rs:=[18]) (by kernel_rfl) (by simp) ?_
        refine AllReadyH.cons (o:=⟨some 59,_,_,_,_,_⟩) rfl (fun K hK => ?_) ?_
        ·skip
         refine anyH_append rfl _ _ 25 rfl _ _ rfl rfl _ (run_append_rs (w0:=w0) hRq (grow_step kW hbr) ⟨pv,sN,aN,lN,cN,pz / ((gcdL 0 qs : Nat) : Int)⟩ ⟨wA.heap.size,0,none⟩ hv3 (by omega) _) ?_
         rintro v5 w8 ⟨cap5,L5,hR5,htk,hmem,hb5,hg5, -⟩
         obtain ⟨ad5,rfl⟩:=hR5.row
         obtain ⟨hgS,y8⟩:=hnext w8 hb5
         refine hK.out _ _ ?_ ?_
         ·(try dsimp only); exact nk2 x1 hpo g0 g1 g2 hbpl hbpo z1 hqo hgS
         clear hK K hHeld; intro hHeld
         (try simp only [Act.put,List.setIfInBounds_toArray,List.set_cons_zero,List.set_cons_succ])
         refine wpAnyH_ready (rs:=[19]) (by kernel_rfl) (by simp) ?_
         refine AllReadyH.cons (o:=⟨some 60,_,_,_,_,_⟩) rfl (fun K hK => ?_) ?_
         ·go_simp
          refine hK.out _ _ ?_ ?_
          ·(try dsimp only); exact nk2 x1 hpo g0 g1 g2 hbpl hbpo z1 hqo hgS
          clear hK K hHeld; intro hHeld
          (try simp only [Act.put,List.setIfInBounds_toArray,List.set_cons_zero,List.set_cons_succ])
          refine wpAnyH_ready (rs:=[20]) (by kernel_rfl) (by simp) ?_
          refine AllReadyH.cons (o:=⟨none,_,_,_,_,_⟩) rfl (fun K hK => ?_) ?_
          ·have f0:=y8.c0
           have f1:=y8.f 0
           go_simp
           have hgS:=gb_trans hgS (gb_set w8 o 0 (.slice ad5 (t + 1) cap5))
           refine hK.out _ _ ?_ ?_
           ·(try dsimp only); exact nk2 x1 hpo g0 g1 g2 hbpl hbpo z1 hqo hgS
           clear hK K hHeld; intro hHeld
           (try simp only [Act.put,List.setIfInBounds_toArray,List.set_cons_zero,List.set_cons_succ])
           refine wpAnyH_done (by kernel_rfl) ?_ _
           have y3:=tb_set0 y8 ad5 (t + 1) cap5
           have hR3:=hide (RS.grown (o:=o) (hw0 ▸ hR5 : RS wo.heap.size w8 (.slice ad5 (t + 1) cap5) (t + 1) cap5 L5) (gb_set w8 o 0 (.slice ad5 (t + 1) cap5)) hol)
           have ok5 : Rok w8 (B + n + 4) L5:=fun y hy => by
            rcases hmem y hy with h | rfl | rfl
            ·exact ⟨hRq.zn hg5 (hokq y h).1,(hokq y h).2⟩
            ·exact ⟨hRq.zn hg5 hN,by show lN≤_; omega,hv⟩
            ·exact zr_ok _ _
           have hok3 : Hid (Rok (w8.setCell ⟨o,0,none⟩ (.slice ad5 (t + 1) cap5)) (B + n + 4) L5):=ok5.grownU (gb_set w8 o 0 (.slice ad5 (t + 1) cap5)) (tb_noU y8)
           have hlays3 : Hid ((L5.take (t + 1)).map Raw.p = mapP (fun x => x / ((gcdL 0 qs : Nat) : Int)) (qs.take (t + 1))):=(show _ = _ by rw [htk,List.map_append,hps.out,mapP_snoc,hlays.out]; rfl)
           replace hgS:=hide hgS
           clear hHeld hR5 ok5 hmem htk hb5 hg5 y8 hRq hokq hN yr hv3 kW kA hbr hnext
           go_wp2_with fail
           exact ⟨⟨t + 1,ad5,cap5,L5,by omega,by go_num,y3,hR3,hok3,hlays3,hgS⟩,by simp [intOf]; omega⟩
          exact AllReadyH.nil
         exact AllReadyH.nil
        exact AllReadyH.nil
       exact AllReadyH.nil
      refine AllReadyH.cons (o:=⟨some 58,_,_,_,_,_⟩) rfl (fun K hK => ?_) ?_
      ·have kL:=below_alloc (wA) (.cells #[.int .i64 pv,.bool sN,.slice aN lN cN] 59)
       have yr:=yr.below kL
       have hRq:=hRq.below kL
       have hokq:=hokq.below kL
       have hN:=hN.below kL
       have hv3:=v3_new wA pv sN aN lN cN
       have kW:=grow_step kL kW
       go_simp
       refine hK.out _ _ ?_ ?_
       ·(try dsimp only); exact nk2 x1 hpo g0 g1 g2 hbpl hbpo z1 hqo (gb_below hg.out kW)
       clear hK K hHeld; intro hHeld
       (try simp only [Act.put,List.setIfInBounds_toArray,List.set_cons_zero,List.set_cons_succ])
       generalize (wA).alloc (.cells #[.int .i64 pv,.bool sN,.slice aN lN cN] 59) = wL at *
       refine wpAnyH_ready (rs:=[1]) (by kernel_rfl) (by simp) ?_
       refine AllReadyH.cons (o:=⟨some 42,_,_,_,_,_⟩) rfl (fun K hK => ?_) ?_
       ·have f0:=yr.c0
        go_simp
        refine hK.out _ _ ?_ ?_
        ·(try dsimp only); exact nk2 x1 hpo g0 g1 g2 hbpl hbpo z1 hqo (gb_below hg.out kW)
        clear hK K hHeld; intro hHeld
        (try simp only [Act.put,List.setIfInBounds_toArray,List.set_cons_zero,List.set_cons_succ])
        refine wpAnyH_ready (rs:=[18]) (by kernel_rfl) (by simp) ?_
        refine AllReadyH.cons (o:=⟨some 59,_,_,_,_,_⟩) rfl (fun K hK => ?_) ?_
        ·skip
         refine anyH_append rfl _ _ 25 rfl _ _ rfl rfl _ (run_append_rs (w0:=w0) hRq (grow_step kW hbr) ⟨pv,sN,aN,lN,cN,pz / ((gcdL 0 qs : Nat) : Int)⟩ ⟨wA.heap.size,0,none⟩ hv3 (by omega) _) ?_
         rintro v5 w8 ⟨cap5,L5,hR5,htk,hmem,hb5,hg5, -⟩
         obtain ⟨ad5,rfl⟩:=hR5.row
         obtain ⟨hgS,y8⟩:=hnext w8 hb5
         refine hK.out _ _ ?_ ?_
         ·(try dsimp only); exact nk2 x1 hpo g0 g1 g2 hbpl hbpo z1 hqo hgS
         clear hK K hHeld; intro hHeld
         (try simp only [Act.put,List.setIfInBounds_toArray,List.set_cons_zero,List.set_cons_succ])
         refine wpAnyH_ready (rs:=[19]) (by kernel_rfl) (by simp) ?_
         refine AllReadyH.cons (o:=⟨some 60,_,_,_,_,_⟩) rfl (fun K hK => ?_) ?_
         ·go_simp
          refine hK.out _ _ ?_ ?_
          ·(try dsimp only); exact nk2 x1 hpo g0 g1 g2 hbpl hbpo z1 hqo hgS
          clear hK K hHeld; intro hHeld
          (try simp only [Act.put,List.setIfInBounds_toArray,List.set_cons_zero,List.set_cons_succ])
          refine wpAnyH_ready (rs:=[20]) (by kernel_rfl) (by simp) ?_
          refine AllReadyH.cons (o:=⟨none,_,_,_,_,_⟩) rfl (fun K hK => ?_) ?_
          ·have f0:=y8.c0
           have f1:=y8.f 0
           go_simp
           have hgS:=gb_trans hgS (gb_set w8 o 0 (.slice ad5 (t + 1) cap5))
           refine hK.out _ _ ?_ ?_
           ·(try dsimp only); exact nk2 x1 hpo g0 g1 g2 hbpl hbpo z1 hqo hgS
           clear hK K hHeld; intro hHeld
           (try simp only [Act.put,List.setIfInBounds_toArray,List.set_cons_zero,List.set_cons_succ])
           refine wpAnyH_done (by kernel_rfl) ?_ _
           have y3:=tb_set0 y8 ad5 (t + 1) cap5
           have hR3:=hide (RS.grown (o:=o) (hw0 ▸ hR5 : RS wo.heap.size w8 (.slice ad5 (t + 1) cap5) (t + 1) cap5 L5) (gb_set w8 o 0 (.slice ad5 (t + 1) cap5)) hol)
           have ok5 : Rok w8 (B + n + 4) L5:=fun y hy => by
            rcases hmem y hy with h | rfl | rfl
            ·exact ⟨hRq.zn hg5 (hokq y h).1,(hokq y h).2⟩
            ·exact ⟨hRq.zn hg5 hN,by show lN≤_; omega,hv⟩
            ·exact zr_ok _ _
           have hok3 : Hid (Rok (w8.setCell ⟨o,0,none⟩ (.slice ad5 (t + 1) cap5)) (B + n + 4) L5):=ok5.grownU (gb_set w8 o 0 (.slice ad5 (t + 1) cap5)) (tb_noU y8)
           have hlays3 : Hid ((L5.take (t + 1)).map Raw.p = mapP (fun x => x / ((gcdL 0 qs : Nat) : Int)) (qs.take (t + 1))):=(show _ = _ by rw [htk,List.map_append,hps.out,mapP_snoc,hlays.out]; rfl)
           replace hgS:=hide hgS
           clear hHeld hR5 ok5 hmem htk hb5 hg5 y8 hRq hokq hN yr hv3 kW kA hbr hnext
           go_wp2_with fail
           exact ⟨⟨t + 1,ad5,cap5,L5,by omega,by go_num,y3,hR3,hok3,hlays3,hgS⟩,by simp [intOf]; omega⟩
          exact AllReadyH.nil
         exact AllReadyH.nil
        exact AllReadyH.nil
       exact AllReadyH.nil
      exact AllReadyH.nil
     exact AllReadyH.nil
    exact AllReadyH.nil
   ·obtain rfl : n1 = t:=by omega
    have hlen:=hP7.out.1
    have hall : (L'.take n1).map Raw.p = mapP (fun x => x / ((gcdL 0 qs : Nat) : Int)) qs:=by rw [hlays.out,List.take_of_length_le (by omega)]
    have hne9 : ∀ q ∈ qs,q.2 / ((gcdL 0 qs : Nat) : Int) ≠ 0:=fun q hq e => by
     have h9:=Int.mul_ediv_cancel' ((gcdL_dvd 0 qs).2 q hq)
     rw [e,Int.mul_zero] at h9
     exact hS.out.2 q hq h9.symm
    have hpn:=rs_pn hR.out hok.out
    rw [hall,← eachP_mapP (F:=fun x => x / ((gcdL 0 qs : Nat) : Int)) hne9] at hpn
    have hzr:=hzC.grownU hg.out (tb_noU yo)
    have hro : r ≠ o:=by omega
    have hrw : r < wo.heap.size:=by have:=hk7.out.size; omega
    have yr0 : AB wr r 0 false none 0 0 none 0 0 false none 0 0:=(hg.out.block r hrw (by simpa using hro)).trans y1
    have hwo : w.heap.size≤o:=by have:=hp.out; omega
    have hbr : Below w.heap.size w wr:=below_grown hbo.out hg.out hwo
    have hnew : ∀ b off,ad' = some ⟨b,off,none⟩→wo.heap.size≤b:=fun b off e => by
     rcases hR.out with ⟨h1,_⟩ | ⟨g9,h1,hg9,_⟩
     ·simp at h1
      rw [h1.1] at e
      cases e
     ·simp at h1
      rw [h1] at e
      simp at e
      omega
    have g6:=ab_set wr r (.int .i64 2) (.bool false) (.slice none 0 0) (.slice ad' n1 cap') (.bool sC) (.slice aC lC cC)
    have hF : Hid (lessF qs k = ⟨2,0,eachP (fun x => x / ((gcdL 0 qs : Nat) : Int)) qs,(k - 1) / ((gcdL 0 qs : Nat) : Int) + 1⟩):=(show _ = _ by
     unfold lessF
     rw [if_neg (fun e => h0 (by rw [← hlen,e]; rfl))])
    have HH:=hide (And.intro (ab_fin yr0 2 false none 0 0 ad' n1 cap' sC aC lC cC) (And.intro (hpn.away (fun b off e => by have h9:=hnew b off e; omega) g6 (ab_noU yr0)) (And.intro (hzr.grownU g6 (ab_noU yr0)) (And.intro (below_grown hbr g6 (show w.heap.size≤r by have:=hp.out; omega)) (fun b off e => Nat.le_trans hbo.out.size (hnew b off e) : ∀ b off,ad' = some ⟨b,off,none⟩→w.heap.size≤b)))))
    have e1:=yr.c1
    have e2:=yr.c2
    have i0:=yr0.c0
    have i1:=yr0.c1
    have i2:=yr0.c2
    have i3:=yr0.c3
    have i4:=yr0.c4
    have i5:=yr0.c5
    have j0:=yr0.f 0
    have j1:=yr0.f 1
    have j2:=yr0.f 2
    have j3:=yr0.f 3
    have j4:=yr0.f 4
    have j5:=yr0.f 5
    clear hall hne9 hpn hzr hro yr0 hbr hnew g6 hR hok hlays hg hP7 hk7 hbo yo hzC hd z1 y1 x1 yr xr
    go_wp2
    obtain ⟨yf,hPf,hzf,kf,hnf⟩:=HH.out
    refine bodyPost_ret (results_cell_row rfl _ _ r 29 _ (0,0) _ rfl yf Tryz.underlying29 rfl (by kernel_rfl)) rfl ?_
    refine ⟨?_,kf⟩
    rw [hqs.out,hF.out]
    exact ⟨false,none,0,0,ad',n1,cap',sC,aC,lC,cC,by simp,zn_zero _,by omega,hPf.mono (by omega),by omega,hzf,by omega,hnf⟩
end Go.Proofs.YtepdckgfolkjjaaGreatDoor

namespace Go.Proofs.YtepdckgfolkjjaaGreatDoor
open Go.RowKit Go.Sort Go.Shelf
open Tm At

def ordA (k1 k2 d1 d2 : Int) (ps qs : List (Int × Int)) (c1 c2 : Int) : Int:=if cmpI k1 k2 ≠ 0 then cmpI k1 k2 else if cmpI d1 d2 ≠ 0 then cmpI d1 d2 else ordT ps qs c1 c2

set_option maxRecDepth 100000 in
set_option maxHeartbeats 6400000 in
theorem aorder_n {w : World} {kd : Int} {sd : Bool} {ad : Option Addr} {ld cd : Nat} {ap : Option Addr} {np cp : Nat} {sk : Bool} {ak : Option Addr} {lk ck : Nat} {d k : Int} {ps : List (Int × Int)} {kd2 : Int} {sd2 : Bool} {ad2 : Option Addr} {ld2 cd2 : Nat} {ap2 : Option Addr} {np2 cp2 : Nat} {sk2 : Bool} {ak2 : Option Addr} {lk2 ck2 : Nat} {d2 k2 : Int} {qs : List (Int × Int)} {B : Nat}
  (hd : Zm w sd ad ld cd d) (hld : ld≤B) (hP : Pr w ap np ps B) (hk : Zm w sk ak lk ck k) (hlk : lk≤B) (hd2 : Zm w sd2 ad2 ld2 cd2 d2) (hld2 : ld2≤B) (hP2 : Pr w ap2 np2 qs B) (hk2 : Zm w sk2 ak2 lk2 ck2 k2) (hlk2 : lk2≤B) (hB : B + np≤268435456) (hB2 : B + np2≤268435456) :
  Calls Tryz.prog 14 #[.agg #[.int .i64 kd,.bool sd,.slice ad ld cd,.slice ap np cp,.bool sk,.slice ak lk ck],.agg #[.int .i64 kd2,.bool sd2,.slice ad2 ld2 cd2,.slice ap2 np2 cp2,.bool sk2,.slice ak2 lk2 ck2]] w fun e w' => ∃ ps' qs',e = .returned (.int .i64 (ordA kd kd2 d d2 ps' qs' k k2))∧Std ps'∧Std qs'∧(∀ v,csum ps' v = csum ps v)∧(∀ v,csum qs' v = csum qs v)∧Below w.heap.size w w':=by
 go_enter Tryz.func14,Tryz.ntmps14
 go_wp2_with fail
 have x:=(AB.new w kd sd ad ld cd ap np cp sk ak lk ck).below (below_alloc _ (.cells #[.int .i64 kd2,.bool sd2,.slice ad2 ld2 cd2,.slice ap2 np2 cp2,.bool sk2,.slice ak2 lk2 ck2] 29))
 have y:=AB.new (w.alloc (.cells #[.int .i64 kd,.bool sd,.slice ad ld cd,.slice ap np cp,.bool sk,.slice ak lk ck] 29)) kd2 sd2 ad2 ld2 cd2 ap2 np2 cp2 sk2 ak2 lk2 ck2
 have b0 : Below w.heap.size w ((w.alloc (.cells #[.int .i64 kd,.bool sd,.slice ad ld cd,.slice ap np cp,.bool sk,.slice ak lk ck] 29)).alloc (.cells #[.int .i64 kd2,.bool sd2,.slice ad2 ld2 cd2,.slice ap2 np2 cp2,.bool sk2,.slice ak2 lk2 ck2] 29)):=below_alloc' (below_alloc _ _) _
 rw [show (w.alloc (.cells #[.int .i64 kd,.bool sd,.slice ad ld cd,.slice ap np cp,.bool sk,.slice ak lk ck] 29)).heap.size = w.heap.size + 1 from by simp] at y
 generalize (w.alloc (.cells #[.int .i64 kd,.bool sd,.slice ad ld cd,.slice ap np cp,.bool sk,.slice ak lk ck] 29)).alloc (.cells #[.int .i64 kd2,.bool sd2,.slice ad2 ld2 cd2,.slice ap2 np2 cp2,.bool sk2,.slice ak2 lk2 ck2] 29) = wb at *
 replace hd:=hd.below b0
 replace hP:=hP.below b0
 replace hk:=hk.below b0
 replace hd2:=hd2.below b0
 replace hP2:=hP2.below b0
 replace hk2:=hk2.below b0
 generalize hp : w.heap.size = p at *
 replace b0 : Hid (Below w.heap.size w wb):=hp ▸ b0
 clear hp
 generalize p + 1 = q at *
 refine (compare_n).mono ?_
 rintro e w1 ⟨rfl,k1⟩
 replace x:=x.below k1
 replace y:=y.below k1
 replace hd:=hd.below k1
 replace hP:=hP.below k1
 replace hk:=hk.below k1
 replace hd2:=hd2.below k1
 replace hP2:=hP2.below k1
 replace hk2:=hk2.below k1
 have kk:=hide (grow_step k1 b0.out)
 clear k1 b0
 by_cases hc1 : cmpI kd kd2 = 0
 ·rw [hc1]
  have e1:=x.c1
  have e2:=x.c2
  have f1:=y.c1
  have f2:=y.c2
  go_wp2_with fail
  refine (zcmp_n hd hd2 (by omega) (by omega)).mono ?_
  rintro e w2 ⟨rfl,k2⟩
  replace x:=x.below k2
  replace y:=y.below k2
  replace hP:=hP.below k2
  replace hk:=hk.below k2
  replace hP2:=hP2.below k2
  replace hk2:=hk2.below k2
  replace kk:=hide (grow_step k2 kk.out)
  clear k2 e1 e2 f1 f2 hd hd2
  by_cases hc2 : cmpI d d2 = 0
  ·rw [hc2]
   have e3:=x.c3
   have e4:=x.c4
   have e5:=x.c5
   have f3:=y.c3
   have f4:=y.c4
   have f5:=y.c5
   go_wp2_with fail
   refine (torder_n hP hk hlk hP2 hk2 hlk2 hB hB2).mono ?_
   rintro e w3 ⟨ps',qs',rfl,h1,h2,h3,h4,k3⟩
   have hfin : Hid (ordT ps' qs' k k2 = ordA kd kd2 d d2 ps' qs' k k2):=(show _ = _ by unfold ordA; rw [if_neg (by simp [hc1]),if_neg (by simp [hc2])])
   replace kk:=hide (grow_step k3 kk.out)
   generalize ordT ps' qs' k k2 = o at *
   replace h1:=hide h1
   replace h2:=hide h2
   replace h3:=hide h3
   replace h4:=hide h4
   clear k3 e3 e4 e5 f3 f4 f5
   go_wp2
   go_ret
   exact ⟨ps',qs',by rw [← hfin.out]; first | rfl | simp,h1.out,h2.out,h3.out,h4.out,kk.out⟩
  ·have hfin : Hid (cmpI d d2 = ordA kd kd2 d d2 (nz (lays [] ps)) (nz (lays [] qs)) k k2):=(show _ = _ by unfold ordA; rw [if_neg (by simp [hc1]),if_pos hc2])
   generalize cmpI d d2 = o at *
   have i0 : (o == 0) = false:=by rw [beq_eq_false_iff_ne]; exact hc2
   go_wp2
   go_ret
   exact ⟨_,_,by rw [← hfin.out]; first | rfl | simp,std_lays ps,std_lays qs,fun v => csum_nzl ps v,fun v => csum_nzl qs v,kk.out⟩
 ·have hfin : Hid (cmpI kd kd2 = ordA kd kd2 d d2 (nz (lays [] ps)) (nz (lays [] qs)) k k2):=(show _ = _ by unfold ordA; rw [if_pos hc1])
  generalize cmpI kd kd2 = o at *
  have i0 : (o == 0) = false:=by rw [beq_eq_false_iff_ne]; exact hc1
  go_wp2
  go_ret
  exact ⟨_,_,by rw [← hfin.out]; first | rfl | simp,std_lays ps,std_lays qs,fun v => csum_nzl ps v,fun v => csum_nzl qs v,kk.out⟩

end Go.Proofs.YtepdckgfolkjjaaGreatDoor
