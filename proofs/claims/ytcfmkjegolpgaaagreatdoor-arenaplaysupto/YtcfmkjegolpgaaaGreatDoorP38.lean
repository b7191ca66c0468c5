/-
 The reference once more: each answer's numbers lie in new memory (layer 6: Norm).
-/
import Derived.Test.YtcfmkjegolpgaaaGreatDoorP36
import Derived.Test.YtcfmkjegolpgaaaGreatDoorP37
import Derived.Test.YtcfmkjegolpgaaaGreatDoorP34
namespace Go.Proofs.YtcfmkjegolpgaaaGreatDoor.Low
open Go.RowKit Go.Sort Go.Shelf
open Tm At
open Lw (Lo)

def AN (Fw : Nat) (w : World) (e : Ending) (f : Atm ⊕ Int) (B B0 : Nat) : Prop:=match f with
 | .inl f => AE Fw w e f B B0
 | .inr er => AZ e er
set_option maxRecDepth 100000 in
set_option maxHeartbeats 6400000 in
theorem rnorm6_n {Fw : Nat} {w : World} {kd : Int} {sd : Bool} {ad : Option Addr} {ld cd : Nat} {ap : Option Addr} {np cp : Nat} {sk : Bool} {ak : Option Addr} {lk ck : Nat} {d k : Int} {ps : List (Int × Int)} {B : Nat}
  (hF : FLE Fw w) (hd : Zm Fw w sd ad ld cd d) (hld : ld≤B) (hP : Pr Fw w ap np ps B) (hk : Zm Fw w sk ak lk ck k) (hlk : lk≤B) (hn : np≤262144) (hB : B + np≤4194000) :
  Calls Tryz.prog 39 #[.agg #[.int .i64 kd,.bool sd,.slice ad ld cd,.slice ap np cp,.bool sk,.slice ak lk ck]] w fun e w' => AN Fw w' e (formA kd d (nz (lays [] ps)) k) (8 * B + 16 * np + 100) w.heap.size∧Below w.heap.size w w':=by
 by_cases h0 : kd = 0
 ·subst h0
  have y:=AB.new (w.alloc (.cells #[.int .i64 0,.bool sd,.slice ad ld cd,.slice ap np cp,.bool sk,.slice ak lk ck] 42)) 0 false none 0 0 none 0 0 false none 0 0
  rw [show (w.alloc (.cells #[.int .i64 0,.bool sd,.slice ad ld cd,.slice ap np cp,.bool sk,.slice ak lk ck] 42)).heap.size = w.heap.size + 1 from by simp] at y
  have b0 : Below w.heap.size w ((w.alloc (.cells #[.int .i64 0,.bool sd,.slice ad ld cd,.slice ap np cp,.bool sk,.slice ak lk ck] 42)).alloc (.cells #[.int .i64 0,.bool false,.slice none 0 0,.slice none 0 0,.bool false,.slice none 0 0] 42)):=below_alloc' (below_alloc _ _) _
  have HH:=hide (And.intro y b0)
  clear y b0
  go_enter Tryz.func39,Tryz.ntmps39
  go_wp2
  obtain ⟨y,b0⟩:=HH.out
  refine bodyPost_ret (results_ct rfl _ _ (w.heap.size + 1) 42 _ (0,0) _ rfl y Tryz.underlying42 rfl (by kernel_rfl)) rfl ?_
  exact ⟨⟨false,none,0,0,none,0,0,false,none,0,0,rfl,zn_zero _,by omega,pn_nil _ _ _,by omega,zn_zero _,by omega,fun _ _ h => by cases h⟩,b0⟩
 by_cases h1 : kd = 1
 ·subst h1
  have y:=AB.new (w.alloc (.cells #[.int .i64 1,.bool sd,.slice ad ld cd,.slice ap np cp,.bool sk,.slice ak lk ck] 42)) 1 false none 0 0 none 0 0 false none 0 0
  rw [show (w.alloc (.cells #[.int .i64 1,.bool sd,.slice ad ld cd,.slice ap np cp,.bool sk,.slice ak lk ck] 42)).heap.size = w.heap.size + 1 from by simp] at y
  have b0 : Below w.heap.size w ((w.alloc (.cells #[.int .i64 1,.bool sd,.slice ad ld cd,.slice ap np cp,.bool sk,.slice ak lk ck] 42)).alloc (.cells #[.int .i64 1,.bool false,.slice none 0 0,.slice none 0 0,.bool false,.slice none 0 0] 42)):=below_alloc' (below_alloc _ _) _
  have HH:=hide (And.intro y b0)
  clear y b0
  go_enter Tryz.func39,Tryz.ntmps39
  go_wp2
  obtain ⟨y,b0⟩:=HH.out
  refine bodyPost_ret (results_ct rfl _ _ (w.heap.size + 1) 42 _ (0,0) _ rfl y Tryz.underlying42 rfl (by kernel_rfl)) rfl ?_
  exact ⟨⟨false,none,0,0,none,0,0,false,none,0,0,rfl,zn_zero _,by omega,pn_nil _ _ _,by omega,zn_zero _,by omega,fun _ _ h => by cases h⟩,b0⟩
 by_cases h2 : kd = 2
 ·subst h2
  clear h0 h1
  have x:=(AB.new w 2 sd ad ld cd ap np cp sk ak lk ck).below (below_alloc _ (.cells #[.int .i64 0,.bool false,.slice none 0 0,.slice none 0 0,.bool false,.slice none 0 0] 42))
  have y:=AB.new (w.alloc (.cells #[.int .i64 2,.bool sd,.slice ad ld cd,.slice ap np cp,.bool sk,.slice ak lk ck] 42)) 0 false none 0 0 none 0 0 false none 0 0
  rw [show (w.alloc (.cells #[.int .i64 2,.bool sd,.slice ad ld cd,.slice ap np cp,.bool sk,.slice ak lk ck] 42)).heap.size = w.heap.size + 1 from by simp] at y
  have b0 : Below w.heap.size w ((w.alloc (.cells #[.int .i64 2,.bool sd,.slice ad ld cd,.slice ap np cp,.bool sk,.slice ak lk ck] 42)).alloc (.cells #[.int .i64 0,.bool false,.slice none 0 0,.slice none 0 0,.bool false,.slice none 0 0] 42)):=below_alloc' (below_alloc _ _) _
  have HH:=hide (And.intro x (And.intro y (And.intro b0 (And.intro (hP.below b0) (And.intro (hd.below b0) (hk.below b0))))))
  clear x y b0
  go_enter Tryz.func39,Tryz.ntmps39
  go_wp2_with fail
  obtain ⟨x,y,b0,hP,hd,hk⟩:=HH.out; have hF9 : FLE Fw _:=hF.le b0
  clear HH
  generalize (w.alloc (.cells #[.int .i64 2,.bool sd,.slice ad ld cd,.slice ap np cp,.bool sk,.slice ak lk ck] 42)).alloc (.cells #[.int .i64 0,.bool false,.slice none 0 0,.slice none 0 0,.bool false,.slice none 0 0] 42) = wb at *
  have hr : w.heap.size≤w.heap.size + 1:=by omega
  generalize w.heap.size + 1 = r at *
  generalize hp : w.heap.size = p at *
  replace hp:=hide hp
  refine (rless6_n hF9 hP hk hlk (by omega) (by omega)).mono ?_
  rintro e w1 ⟨⟨sd1,ad1,ld1,cd1,ap1,np1,cp1,sk1,ak1,lk1,ck1,rfl,hz1,hlz1,hPn1,hnp1,hk1,hlk1,hnew1⟩,k1⟩
  have hfm : Hid (formA 2 d (nz (lays [] ps)) k = .inl (lessF (nz (lays [] ps)) k)):=(show _ = _ by unfold formA; rw [if_neg (by decide),if_pos rfl])
  generalize lessF (nz (lays [] ps)) k = ff at *
  have hrl:=y.lt
  replace y:=y.below k1
  have e0:=y.c0
  have e1:=y.c1
  have e2:=y.c2
  have e3:=y.c3
  have e4:=y.c4
  have e5:=y.c5
  have f0:=y.f 0
  have f1:=y.f 1
  have f2:=y.f 2
  have f3:=y.f 3
  have f4:=y.f 4
  have f5:=y.f 5
  have g6:=ab_set w1 r (.int .i64 ff.kind) (.bool sd1) (.slice ad1 ld1 cd1) (.slice ap1 np1 cp1) (.bool sk1) (.slice ak1 lk1 ck1)
  have hPf:=hide (hPn1.away (fun b off e => by have:=hnew1 b off e; omega) g6 (ab_noU y))
  have hzf:=hide (hk1.grownU g6 (ab_noU y))
  have hdf:=hide (hz1.grownU g6 (ab_noU y))
  have kf:=hide (below_grown (grow_step k1 (show Below w.heap.size w wb from hp.out.symm ▸ b0)) g6 (by have:=hp.out; omega))
  have hnw : Hid (∀ b off,ap1 = some ⟨b,off,none⟩→w.heap.size≤b):=(fun b off e => by have h1:=hnew1 b off e; have h2:=hp.out; omega)
  clear g6 hPn1 hk1 hz1 hnew1 hP hd hk x b0 k1
  go_wp2
  refine bodyPost_ret (results_ct rfl _ _ r 42 _ (0,0) _ rfl (ab_fin y ff.kind sd1 ad1 ld1 cd1 ap1 np1 cp1 sk1 ak1 lk1 ck1) Tryz.underlying42 rfl (by kernel_rfl)) rfl ?_
  refine ⟨?_,kf.out⟩
  rw [hfm.out]
  exact ⟨sd1,ad1,ld1,cd1,ap1,np1,cp1,sk1,ak1,lk1,ck1,by simp,hdf.out,by omega,hPf.out.mono (by omega),by omega,hzf.out,by omega,hnw.out⟩
 by_cases h3 : kd = 3
 ·subst h3
  clear h0 h1 h2
  have x:=(AB.new w 3 sd ad ld cd ap np cp sk ak lk ck).below (below_alloc _ (.cells #[.int .i64 0,.bool false,.slice none 0 0,.slice none 0 0,.bool false,.slice none 0 0] 42))
  have y:=AB.new (w.alloc (.cells #[.int .i64 3,.bool sd,.slice ad ld cd,.slice ap np cp,.bool sk,.slice ak lk ck] 42)) 0 false none 0 0 none 0 0 false none 0 0
  rw [show (w.alloc (.cells #[.int .i64 3,.bool sd,.slice ad ld cd,.slice ap np cp,.bool sk,.slice ak lk ck] 42)).heap.size = w.heap.size + 1 from by simp] at y
  have b0 : Below w.heap.size w ((w.alloc (.cells #[.int .i64 3,.bool sd,.slice ad ld cd,.slice ap np cp,.bool sk,.slice ak lk ck] 42)).alloc (.cells #[.int .i64 0,.bool false,.slice none 0 0,.slice none 0 0,.bool false,.slice none 0 0] 42)):=below_alloc' (below_alloc _ _) _
  have HH:=hide (And.intro x (And.intro y (And.intro b0 (And.intro (hP.below b0) (And.intro (hd.below b0) (hk.below b0))))))
  clear x y b0
  go_enter Tryz.func39,Tryz.ntmps39
  go_wp2_with fail
  obtain ⟨x,y,b0,hP,hd,hk⟩:=HH.out; have hF9 : FLE Fw _:=hF.le b0
  clear HH
  generalize (w.alloc (.cells #[.int .i64 3,.bool sd,.slice ad ld cd,.slice ap np cp,.bool sk,.slice ak lk ck] 42)).alloc (.cells #[.int .i64 0,.bool false,.slice none 0 0,.slice none 0 0,.bool false,.slice none 0 0] 42) = wb at *
  have hr : w.heap.size≤w.heap.size + 1:=by omega
  generalize w.heap.size + 1 = r at *
  generalize hp : w.heap.size = p at *
  replace hp:=hide hp
  by_cases hd0 : d = 0
  ·subst hd0
   have hfm : Hid (formA 3 0 (nz (lays [] ps)) k = .inr 11):=(show _ = _ by unfold formA; rw [if_neg (by decide),if_neg (by decide),if_pos (by decide),if_pos rfl])
   refine (rparted_false (B:=B) hF9 hd hld hP hk hlk (by omega) (by omega)).mono ?_
   rintro e w1 ⟨hRP,k1⟩
   obtain ⟨-,hz⟩ : (0 : Int) = 0∧AZ e 11:=by
    rcases hRP with h | ⟨h, -⟩
    ·exact h
    ·exact absurd rfl h
   unfold AZ at hz
   subst hz
   replace y:=y.below k1
   have e0:=y.c0
   have e1:=y.c1
   have e2:=y.c2
   have e3:=y.c3
   have e4:=y.c4
   have e5:=y.c5
   have f0:=y.f 0
   have f1:=y.f 1
   have f2:=y.f 2
   have f3:=y.f 3
   have f4:=y.f 4
   have f5:=y.f 5
   have g6:=ab_set w1 r (.int .i64 0) (.bool false) (.slice none 0 0) (.slice none 0 0) (.bool false) (.slice none 0 0)
   have kf:=hide (below_grown (grow_step k1 (show Below w.heap.size w wb from hp.out.symm ▸ b0)) g6 (by have:=hp.out; omega))
   clear g6 hP hd hk x b0 k1
   go_wp2
   refine bodyPost_ret (results_ct rfl _ _ r 42 _ (0,0) _ rfl (ab_fin y 0 false none 0 0 none 0 0 false none 0 0) Tryz.underlying42 rfl (by kernel_rfl)) rfl ?_
   exact ⟨by rw [hfm.out]; exact rfl,kf.out⟩
  ·refine (rparted_false (B:=B) hF9 hd hld hP hk hlk (by omega) (by omega)).mono ?_
   rintro e w1 ⟨hRP,k1⟩
   rcases hRP with ⟨h, -⟩ | ⟨-,hAE⟩
   ·exact absurd h hd0
   obtain ⟨sd1,ad1,ld1,cd1,ap1,np1,cp1,sk1,ak1,lk1,ck1,rfl,hz1,hlz1,hPn1,hnp1,hk1,hlk1,hnew1⟩:=hAE
   have hfm : Hid (formA 3 d (nz (lays [] ps)) k = .inl (divF 3 d (nz (lays [] ps)) k)):=(show _ = _ by unfold formA; rw [if_neg (by decide),if_neg (by decide),if_pos (by decide),if_neg hd0])
   generalize divF 3 d (nz (lays [] ps)) k = ff at *
   have hrl:=y.lt
   replace y:=y.below k1
   have e0:=y.c0
   have e1:=y.c1
   have e2:=y.c2
   have e3:=y.c3
   have e4:=y.c4
   have e5:=y.c5
   have f0:=y.f 0
   have f1:=y.f 1
   have f2:=y.f 2
   have f3:=y.f 3
   have f4:=y.f 4
   have f5:=y.f 5
   have g6:=ab_set w1 r (.int .i64 ff.kind) (.bool sd1) (.slice ad1 ld1 cd1) (.slice ap1 np1 cp1) (.bool sk1) (.slice ak1 lk1 ck1)
   have hPf:=hide (hPn1.away (fun b off e => by have:=hnew1 b off e; omega) g6 (ab_noU y))
   have hzf:=hide (hk1.grownU g6 (ab_noU y))
   have hdf:=hide (hz1.grownU g6 (ab_noU y))
   have kf:=hide (below_grown (grow_step k1 (show Below w.heap.size w wb from hp.out.symm ▸ b0)) g6 (by have:=hp.out; omega))
   have hnw : Hid (∀ b off,ap1 = some ⟨b,off,none⟩→w.heap.size≤b):=(fun b off e => by have h1:=hnew1 b off e; have h2:=hp.out; omega)
   clear g6 hPn1 hk1 hz1 hnew1 hP hd hk x b0 k1
   go_wp2
   refine bodyPost_ret (results_ct rfl _ _ r 42 _ (0,0) _ rfl (ab_fin y ff.kind sd1 ad1 ld1 cd1 ap1 np1 cp1 sk1 ak1 lk1 ck1) Tryz.underlying42 rfl (by kernel_rfl)) rfl ?_
   refine ⟨?_,kf.out⟩
   rw [hfm.out]
   exact ⟨sd1,ad1,ld1,cd1,ap1,np1,cp1,sk1,ak1,lk1,ck1,by simp,hdf.out,by omega,hPf.out.mono (by omega),by omega,hzf.out,by omega,hnw.out⟩
 by_cases h4 : kd = 4
 ·subst h4
  clear h0 h1 h2 h3
  have x:=(AB.new w 4 sd ad ld cd ap np cp sk ak lk ck).below (below_alloc _ (.cells #[.int .i64 0,.bool false,.slice none 0 0,.slice none 0 0,.bool false,.slice none 0 0] 42))
  have y:=AB.new (w.alloc (.cells #[.int .i64 4,.bool sd,.slice ad ld cd,.slice ap np cp,.bool sk,.slice ak lk ck] 42)) 0 false none 0 0 none 0 0 false none 0 0
  rw [show (w.alloc (.cells #[.int .i64 4,.bool sd,.slice ad ld cd,.slice ap np cp,.bool sk,.slice ak lk ck] 42)).heap.size = w.heap.size + 1 from by simp] at y
  have b0 : Below w.heap.size w ((w.alloc (.cells #[.int .i64 4,.bool sd,.slice ad ld cd,.slice ap np cp,.bool sk,.slice ak lk ck] 42)).alloc (.cells #[.int .i64 0,.bool false,.slice none 0 0,.slice none 0 0,.bool false,.slice none 0 0] 42)):=below_alloc' (below_alloc _ _) _
  have HH:=hide (And.intro x (And.intro y (And.intro b0 (And.intro (hP.below b0) (And.intro (hd.below b0) (hk.below b0))))))
  clear x y b0
  go_enter Tryz.func39,Tryz.ntmps39
  go_wp2_with fail
  obtain ⟨x,y,b0,hP,hd,hk⟩:=HH.out; have hF9 : FLE Fw _:=hF.le b0
  clear HH
  generalize (w.alloc (.cells #[.int .i64 4,.bool sd,.slice ad ld cd,.slice ap np cp,.bool sk,.slice ak lk ck] 42)).alloc (.cells #[.int .i64 0,.bool false,.slice none 0 0,.slice none 0 0,.bool false,.slice none 0 0] 42) = wb at *
  have hr : w.heap.size≤w.heap.size + 1:=by omega
  generalize w.heap.size + 1 = r at *
  generalize hp : w.heap.size = p at *
  replace hp:=hide hp
  by_cases hd0 : d = 0
  ·subst hd0
   have hfm : Hid (formA 4 0 (nz (lays [] ps)) k = .inr 11):=(show _ = _ by unfold formA; rw [if_neg (by decide),if_neg (by decide),if_pos (by decide),if_pos rfl])
   refine (rparted_true (B:=B) hF9 hd hld hP hk hlk (by omega) (by omega)).mono ?_
   rintro e w1 ⟨hRP,k1⟩
   obtain ⟨-,hz⟩ : (0 : Int) = 0∧AZ e 11:=by
    rcases hRP with h | ⟨h, -⟩
    ·exact h
    ·exact absurd rfl h
   unfold AZ at hz
   subst hz
   replace y:=y.below k1
   have e0:=y.c0
   have e1:=y.c1
   have e2:=y.c2
   have e3:=y.c3
   have e4:=y.c4
   have e5:=y.c5
   have f0:=y.f 0
   have f1:=y.f 1
   have f2:=y.f 2
   have f3:=y.f 3
   have f4:=y.f 4
   have f5:=y.f 5
   have g6:=ab_set w1 r (.int .i64 0) (.bool false) (.slice none 0 0) (.slice none 0 0) (.bool false) (.slice none 0 0)
   have kf:=hide (below_grown (grow_step k1 (show Below w.heap.size w wb from hp.out.symm ▸ b0)) g6 (by have:=hp.out; omega))
   clear g6 hP hd hk x b0 k1
   go_wp2
   refine bodyPost_ret (results_ct rfl _ _ r 42 _ (0,0) _ rfl (ab_fin y 0 false none 0 0 none 0 0 false none 0 0) Tryz.underlying42 rfl (by kernel_rfl)) rfl ?_
   exact ⟨by rw [hfm.out]; exact rfl,kf.out⟩
  ·refine (rparted_true (B:=B) hF9 hd hld hP hk hlk (by omega) (by omega)).mono ?_
   rintro e w1 ⟨hRP,k1⟩
   rcases hRP with ⟨h, -⟩ | ⟨-,hAE⟩
   ·exact absurd h hd0
   obtain ⟨sd1,ad1,ld1,cd1,ap1,np1,cp1,sk1,ak1,lk1,ck1,rfl,hz1,hlz1,hPn1,hnp1,hk1,hlk1,hnew1⟩:=hAE
   have hfm : Hid (formA 4 d (nz (lays [] ps)) k = .inl (divF 4 d (nz (lays [] ps)) k)):=(show _ = _ by unfold formA; rw [if_neg (by decide),if_neg (by decide),if_pos (by decide),if_neg hd0])
   generalize divF 4 d (nz (lays [] ps)) k = ff at *
   have hrl:=y.lt
   replace y:=y.below k1
   have e0:=y.c0
   have e1:=y.c1
   have e2:=y.c2
   have e3:=y.c3
   have e4:=y.c4
   have e5:=y.c5
   have f0:=y.f 0
   have f1:=y.f 1
   have f2:=y.f 2
   have f3:=y.f 3
   have f4:=y.f 4
   have f5:=y.f 5
   have g6:=ab_set w1 r (.int .i64 ff.kind) (.bool sd1) (.slice ad1 ld1 cd1) (.slice ap1 np1 cp1) (.bool sk1) (.slice ak1 lk1 ck1)
   have hPf:=hide (hPn1.away (fun b off e => by have:=hnew1 b off e; omega) g6 (ab_noU y))
   have hzf:=hide (hk1.grownU g6 (ab_noU y))
   have hdf:=hide (hz1.grownU g6 (ab_noU y))
   have kf:=hide (below_grown (grow_step k1 (show Below w.heap.size w wb from hp.out.symm ▸ b0)) g6 (by have:=hp.out; omega))
   have hnw : Hid (∀ b off,ap1 = some ⟨b,off,none⟩→w.heap.size≤b):=(fun b off e => by have h1:=hnew1 b off e; have h2:=hp.out; omega)
   clear g6 hPn1 hk1 hz1 hnew1 hP hd hk x b0 k1
   go_wp2
   refine bodyPost_ret (results_ct rfl _ _ r 42 _ (0,0) _ rfl (ab_fin y ff.kind sd1 ad1 ld1 cd1 ap1 np1 cp1 sk1 ak1 lk1 ck1) Tryz.underlying42 rfl (by kernel_rfl)) rfl ?_
   refine ⟨?_,kf.out⟩
   rw [hfm.out]
   exact ⟨sd1,ad1,ld1,cd1,ap1,np1,cp1,sk1,ak1,lk1,ck1,by simp,hdf.out,by omega,hPf.out.mono (by omega),by omega,hzf.out,by omega,hnw.out⟩
 ·have i0 : (kd == 0) = false:=by rw [beq_eq_false_iff_ne]; exact h0
  have i1 : (kd == 1) = false:=by rw [beq_eq_false_iff_ne]; exact h1
  have i2 : (kd == 2) = false:=by rw [beq_eq_false_iff_ne]; exact h2
  have i3 : (kd == 3) = false:=by rw [beq_eq_false_iff_ne]; exact h3
  have i4 : (kd == 4) = false:=by rw [beq_eq_false_iff_ne]; exact h4
  have hfm : Hid (formA kd d (nz (lays [] ps)) k = .inr 1):=(show _ = _ by unfold formA; rw [if_neg (by omega),if_neg h2,if_neg (by omega)])
  clear h0 h1 h2 h3 h4
  have y:=AB.new (w.alloc (.cells #[.int .i64 kd,.bool sd,.slice ad ld cd,.slice ap np cp,.bool sk,.slice ak lk ck] 42)) 0 false none 0 0 none 0 0 false none 0 0
  rw [show (w.alloc (.cells #[.int .i64 kd,.bool sd,.slice ad ld cd,.slice ap np cp,.bool sk,.slice ak lk ck] 42)).heap.size = w.heap.size + 1 from by simp] at y
  have b0 : Below w.heap.size w ((w.alloc (.cells #[.int .i64 kd,.bool sd,.slice ad ld cd,.slice ap np cp,.bool sk,.slice ak lk ck] 42)).alloc (.cells #[.int .i64 0,.bool false,.slice none 0 0,.slice none 0 0,.bool false,.slice none 0 0] 42)):=below_alloc' (below_alloc _ _) _
  have HH:=hide (And.intro y b0)
  clear y b0
  go_enter Tryz.func39,Tryz.ntmps39
  go_wp2
  obtain ⟨y,b0⟩:=HH.out
  refine bodyPost_ret (results_ct rfl _ _ (w.heap.size + 1) 42 _ (0,0) _ rfl y Tryz.underlying42 rfl (by kernel_rfl)) rfl ?_
  exact ⟨by rw [hfm.out]; rfl,b0⟩
end Go.Proofs.YtcfmkjegolpgaaaGreatDoor.Low
