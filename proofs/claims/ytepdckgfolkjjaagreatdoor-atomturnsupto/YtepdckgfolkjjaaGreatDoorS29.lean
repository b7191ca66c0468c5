/-
 Several texts in one: GC,GD.
-/
import Derived.Test.YtepdckgfolkjjaaGreatDoorS28
import Derived.Test.YtepdckgfolkjjaaGreatDoorS23
namespace Go.Proofs.YtepdckgfolkjjaaGreatDoor.Fx
open Go.RowKit Go.Sort Go.Shelf
open Tm At
open Low (FLE)

variable {w : World} {ad ap ak : Option Addr} {ld cd np cp lk ck Fw B : Nat} {kd : Int}
def XF (F : Nat) (w : World) (ad : Option Addr) (ld cd : Nat) (ap : Option Addr) (np cp : Nat) (ak : Option Addr) (lk ck : Nat) : Prop:=ld≤cd∧Fresh.Fr F w ad cd∧Fresh.NW F w ap np cp ak lk ck
theorem XF.ab {F : Nat} {w' : World} {m : Nat} {s0 : Bool} {a0 : Option Addr} {l0 c0 : Nat} {ad0 : Option Addr} {n0 cp0 : Nat} {t0 : Bool} {b0 : Option Addr} {m0 d0 : Nat} (h : XF F w ad ld cd ap np cp ak lk ck) (y : AB w m kd s0 a0 l0 c0 ad0 n0 cp0 t0 b0 m0 d0) (hg : w.grownBy w' (some m)) : XF F w' ad ld cd ap np cp ak lk ck:=⟨h.1,h.2.1.grownN hg (nr_ab y),nw_ab h.2.2 y hg⟩
def NGF (F : Nat) (w : World) (e : Ending) (f : Atm ⊕ Int) (B B0 : Nat) : Prop:=match f with
 | .inl f => AWF F w e (negA f) B B0
 | .inr _ => A0v e
def PTF (F : Nat) (w : World) (e : Ending) (f : Atm ⊕ Int) (v : Int) (us : List (Int × Int)) (uk : Int) (B B0 : Nat) : Prop:=match f with
 | .inl f => ∃ rs f',Std rs∧(∀ u,csum rs u = csum (wo v f.ps ++ scl (csum f.ps v) us) u)∧formA f.kind f.d rs (f.k + csum f.ps v * uk) = .inl f'∧AWF F w e f' B B0
 | .inr _ => A0v e
theorem ab_put {p : Nat} {k0 : Int} {s0 : Bool} {a0 : Option Addr} {l0 c0 : Nat} {ad0 : Option Addr} {n0 cp0 : Nat} {t0 : Bool} {b0 : Option Addr} {m0 d0 : Nat} {sd1 : Bool} {ad1 : Option Addr} {ld1 cd1 : Nat} {ap1 : Option Addr} {np1 cp1 : Nat} {sk1 : Bool} {ak1 : Option Addr} {lk1 ck1 : Nat} {zd zk : Int} {qs : List (Int × Int)}
  (x : AB w p k0 s0 a0 l0 c0 ad0 n0 cp0 t0 b0 m0 d0) (hz : Zn w sd1 ad1 ld1 cd1 zd) (hP : Pn w ap1 np1 qs B) (hk : Zn w sk1 ak1 lk1 ck1 zk∧XF Fw w ad1 ld1 cd1 ap1 np1 cp1 ak1 lk1 ck1) (hb : ∀ b off,ap1 = some ⟨b,off,none⟩→b ≠ p) (fk : Int) :
  w.grownBy ((((((w.setCell ⟨p,0,none⟩ (.int .i64 fk)).setCell ⟨p,1,none⟩ (.bool sd1)).setCell ⟨p,2,none⟩ (.slice ad1 ld1 cd1)).setCell ⟨p,3,none⟩ (.slice ap1 np1 cp1)).setCell ⟨p,4,none⟩ (.bool sk1)).setCell ⟨p,5,none⟩ (.slice ak1 lk1 ck1)) (some p)∧AB ((((((w.setCell ⟨p,0,none⟩ (.int .i64 fk)).setCell ⟨p,1,none⟩ (.bool sd1)).setCell ⟨p,2,none⟩ (.slice ad1 ld1 cd1)).setCell ⟨p,3,none⟩ (.slice ap1 np1 cp1)).setCell ⟨p,4,none⟩ (.bool sk1)).setCell ⟨p,5,none⟩ (.slice ak1 lk1 ck1)) p fk sd1 ad1 ld1 cd1 ap1 np1 cp1 sk1 ak1 lk1 ck1∧Zn ((((((w.setCell ⟨p,0,none⟩ (.int .i64 fk)).setCell ⟨p,1,none⟩ (.bool sd1)).setCell ⟨p,2,none⟩ (.slice ad1 ld1 cd1)).setCell ⟨p,3,none⟩ (.slice ap1 np1 cp1)).setCell ⟨p,4,none⟩ (.bool sk1)).setCell ⟨p,5,none⟩ (.slice ak1 lk1 ck1)) sd1 ad1 ld1 cd1 zd∧Pn ((((((w.setCell ⟨p,0,none⟩ (.int .i64 fk)).setCell ⟨p,1,none⟩ (.bool sd1)).setCell ⟨p,2,none⟩ (.slice ad1 ld1 cd1)).setCell ⟨p,3,none⟩ (.slice ap1 np1 cp1)).setCell ⟨p,4,none⟩ (.bool sk1)).setCell ⟨p,5,none⟩ (.slice ak1 lk1 ck1)) ap1 np1 qs B∧(Zn ((((((w.setCell ⟨p,0,none⟩ (.int .i64 fk)).setCell ⟨p,1,none⟩ (.bool sd1)).setCell ⟨p,2,none⟩ (.slice ad1 ld1 cd1)).setCell ⟨p,3,none⟩ (.slice ap1 np1 cp1)).setCell ⟨p,4,none⟩ (.bool sk1)).setCell ⟨p,5,none⟩ (.slice ak1 lk1 ck1)) sk1 ak1 lk1 ck1 zk∧XF Fw ((((((w.setCell ⟨p,0,none⟩ (.int .i64 fk)).setCell ⟨p,1,none⟩ (.bool sd1)).setCell ⟨p,2,none⟩ (.slice ad1 ld1 cd1)).setCell ⟨p,3,none⟩ (.slice ap1 np1 cp1)).setCell ⟨p,4,none⟩ (.bool sk1)).setCell ⟨p,5,none⟩ (.slice ak1 lk1 ck1)) ad1 ld1 cd1 ap1 np1 cp1 ak1 lk1 ck1):=by
 have g6:=ab_set w p (.int .i64 fk) (.bool sd1) (.slice ad1 ld1 cd1) (.slice ap1 np1 cp1) (.bool sk1) (.slice ak1 lk1 ck1)
 have hU:=ab_noU x
 exact ⟨g6,ab_fin x fk sd1 ad1 ld1 cd1 ap1 np1 cp1 sk1 ak1 lk1 ck1,hz.grownU g6 hU,hP.away hb g6 hU,⟨hk.1.grownU g6 hU,hk.2.ab x g6⟩⟩
theorem ab_kind {p : Nat} {k0 : Int} {sd1 : Bool} {ad1 : Option Addr} {ld1 cd1 : Nat} {ap1 : Option Addr} {np1 cp1 : Nat} {sk1 : Bool} {ak1 : Option Addr} {lk1 ck1 : Nat} {zd zk : Int} {qs : List (Int × Int)}
  (x : AB w p k0 sd1 ad1 ld1 cd1 ap1 np1 cp1 sk1 ak1 lk1 ck1) (hz : Zn w sd1 ad1 ld1 cd1 zd) (hP : Pn w ap1 np1 qs B) (hk : Zn w sk1 ak1 lk1 ck1 zk∧XF Fw w ad1 ld1 cd1 ap1 np1 cp1 ak1 lk1 ck1) (hb : ∀ b off,ap1 = some ⟨b,off,none⟩→b ≠ p) (fk : Int) :
  w.grownBy (w.setCell ⟨p,0,none⟩ (.int .i64 fk)) (some p)∧AB (w.setCell ⟨p,0,none⟩ (.int .i64 fk)) p fk sd1 ad1 ld1 cd1 ap1 np1 cp1 sk1 ak1 lk1 ck1∧Zn (w.setCell ⟨p,0,none⟩ (.int .i64 fk)) sd1 ad1 ld1 cd1 zd∧Pn (w.setCell ⟨p,0,none⟩ (.int .i64 fk)) ap1 np1 qs B∧(Zn (w.setCell ⟨p,0,none⟩ (.int .i64 fk)) sk1 ak1 lk1 ck1 zk∧XF Fw (w.setCell ⟨p,0,none⟩ (.int .i64 fk)) ad1 ld1 cd1 ap1 np1 cp1 ak1 lk1 ck1):=by
 have g:=gb_set w p 0 (.int .i64 fk)
 have hU:=ab_noU x
 exact ⟨g,heap_setCell_same _ p 0 _ _ _ x,hz.grownU g hU,hP.away hb g hU,⟨hk.1.grownU g hU,hk.2.ab x g⟩⟩
set_option maxRecDepth 100000 in
set_option maxHeartbeats 6400000 in
theorem anegate_n {sd : Bool} {sk : Bool} {d k : Int} {ps : List (Int × Int)}
  (hF : FLE Fw w) (hd : Zm w sd ad ld cd d) (hld : ld≤B) (hP : Pr w ap np ps B) (hk : Zm w sk ak lk ck k) (hlk : lk≤B) (hn : np≤262144) (hB : B + 5 * np + 64≤4194000) :
  Calls Tryz.prog 6 #[.agg #[.int .i64 kd,.bool sd,.slice ad ld cd,.slice ap np cp,.bool sk,.slice ak lk ck]] w fun e w' => ∃ qs,Std qs∧(∀ v,csum qs v = csum ps v)∧NGF Fw w' e (formA kd d qs k) (B + 5 * np + 64) w.heap.size∧Below w.heap.size w w':=by
 go_enter Tryz.func6,Tryz.ntmps6
 go_wp2_with fail
 have x:=(AB.new w kd sd ad ld cd ap np cp sk ak lk ck).below (below_alloc _ (.cells #[.int .i64 0,.bool false,.slice none 0 0,.slice none 0 0,.bool false,.slice none 0 0] 29))
 have y:=AB.new (w.alloc (.cells #[.int .i64 kd,.bool sd,.slice ad ld cd,.slice ap np cp,.bool sk,.slice ak lk ck] 29)) 0 false none 0 0 none 0 0 false none 0 0
 rw [show (w.alloc (.cells #[.int .i64 kd,.bool sd,.slice ad ld cd,.slice ap np cp,.bool sk,.slice ak lk ck] 29)).heap.size = w.heap.size + 1 from by simp] at y
 have b0 : Below w.heap.size w ((w.alloc (.cells #[.int .i64 kd,.bool sd,.slice ad ld cd,.slice ap np cp,.bool sk,.slice ak lk ck] 29)).alloc (.cells #[.int .i64 0,.bool false,.slice none 0 0,.slice none 0 0,.bool false,.slice none 0 0] 29)):=below_alloc' (below_alloc _ _) _
 generalize (w.alloc (.cells #[.int .i64 kd,.bool sd,.slice ad ld cd,.slice ap np cp,.bool sk,.slice ak lk ck] 29)).alloc (.cells #[.int .i64 0,.bool false,.slice none 0 0,.slice none 0 0,.bool false,.slice none 0 0] 29) = wb at *
 replace hd:=hd.below b0
 replace hP:=hP.below b0
 replace hk:=hk.below b0
 have hpr : w.heap.size < w.heap.size + 1:=by omega
 generalize w.heap.size + 1 = r at *
 generalize hp : w.heap.size = p at *
 replace b0 : Hid (Below w.heap.size w wb):=hp ▸ b0
 replace hp:=hide hp
 have hnps:=hP.1
 refine (anorm_n (Fw:=Fw) (hF.le b0.out) hd hld hP hk hlk hn (by omega)).mono ?_
 rintro e w1 ⟨qs,hS,hc,hA,k1⟩
 have hrb:=y.lt
 replace x:=x.below k1
 replace y:=y.below k1
 have kk:=hide (grow_step k1 b0.out)
 clear hd hP hk k1
 have hpl:=x.lt
 have hrl:=y.lt
 have hne1 : ¬ r = p:=by omega
 have hne2 : ¬ p = r:=by omega
 have hwp : w.heap.size≤p:=by have:=hp.out; omega
 have hwr : w.heap.size≤r:=by omega
 cases hf : formA kd d qs k with
 | inr er =>
  rw [hf] at hA
  have her:=formA_er hf
  have he : _ = _:=hA
  subst he
  have g6:=ab_set w1 p (.int .i64 0) (.bool false) (.slice none 0 0) (.slice none 0 0) (.bool false) (.slice none 0 0)
  have y2:=y.neq g6 (by omega)
  have kf:=below_grown kk.out g6 hwp
  have hres : Hid (∃ qs,Std qs∧(∀ v,csum qs v = csum ps v)∧∀ w',NGF Fw w' (.returned (.agg #[.int .i64 0,.bool false,.slice none 0 0,.slice none 0 0,.bool false,.slice none 0 0])) (formA kd d qs k) (B + 5 * np + 64) w.heap.size):=⟨qs,hS,hc,fun w' => by rw [hf]; rfl⟩
  have HH:=hide (And.intro y2 kf)
  have e0:=x.c0
  have e1:=x.c1
  have e2:=x.c2
  have e3:=x.c3
  have e4:=x.c4
  have e5:=x.c5
  have f0:=x.f 0
  have f1:=x.f 1
  have f2:=x.f 2
  have f3:=x.f 3
  have f4:=x.f 4
  have f5:=x.f 5
  have g0:=y.c0
  have g1:=y.c1
  have g2:=y.c2
  have g3:=y.c3
  have g4:=y.c4
  have g5:=y.c5
  have h0:=y.f 0
  have h1:=y.f 1
  have h2:=y.f 2
  have h3:=y.f 3
  have h4:=y.f 4
  have h5:=y.f 5
  clear hf hS hc hA kk g6 y2 kf x y
  rcases her with rfl | rfl
  ·go_wp2
   refine bodyPost_ret (results_cell_row rfl _ _ r 29 _ (0,0) _ rfl (ab_fin HH.out.1 0 false none 0 0 none 0 0 false none 0 0) Tryz.underlying29 rfl (by kernel_rfl)) rfl ?_
   obtain ⟨q,h1,h2,h3⟩:=hres.out
   exact ⟨q,h1,h2,by simpa using h3 _,below_grown HH.out.2 (ab_set _ _ _ _ _ _ _ _) hwr⟩
  ·go_wp2
   refine bodyPost_ret (results_cell_row rfl _ _ r 29 _ (0,0) _ rfl (ab_fin HH.out.1 0 false none 0 0 none 0 0 false none 0 0) Tryz.underlying29 rfl (by kernel_rfl)) rfl ?_
   obtain ⟨q,h1,h2,h3⟩:=hres.out
   exact ⟨q,h1,h2,by simpa using h3 _,below_grown HH.out.2 (ab_set _ _ _ _ _ _ _ _) hwr⟩
 | inl f =>
  rw [hf] at hA
  have hfit:=formA_fit hS hf
  have hlen : f.ps.length≤np:=by have h1:=(formA_prt hS hf).1; have h2:=std_len hS hc; omega
  obtain ⟨fk,fd,fps,fkk⟩:=f
  obtain ⟨sd1,ad1,ld1,cd1,ap1,np1,cp1,sk1,ak1,lk1,ck1,rfl,hz1,hlz1,hPn1,hnp1,hk1,hlk1,hnew1,hx1⟩:=hA
  dsimp only at hz1 hPn1 hk1 hlen
  replace hk1 : _∧XF Fw w1 ad1 ld1 cd1 ap1 np1 cp1 ak1 lk1 ck1:=⟨hk1,hx1⟩
  clear hx1
  have hnp2 : np1≤np:=by have:=hPn1.1; omega
  have hres : Hid (∀ e w',AWF Fw w' e (negA ⟨fk,fd,fps,fkk⟩) (B + 5 * np + 64) w.heap.size→∃ qs,Std qs∧(∀ v,csum qs v = csum ps v)∧NGF Fw w' e (formA kd d qs k) (B + 5 * np + 64) w.heap.size):=fun e w' he => ⟨qs,hS,hc,by rw [hf]; exact he⟩
  have hbp : ∀ b off,ap1 = some ⟨b,off,none⟩→b ≠ p:=fun b off e => by have h1:=hnew1 b off e; omega
  have hbr : ∀ b off,ap1 = some ⟨b,off,none⟩→b ≠ r:=fun b off e => by have h1:=hnew1 b off e; omega
  have hbw : ∀ b off,ap1 = some ⟨b,off,none⟩→w.heap.size≤b:=fun b off e => by have h1:=hnew1 b off e; omega
  obtain ⟨g6,x2,hz2,hP2,hk2⟩:=ab_put x hz1 hPn1 hk1 hbp fk
  have y2:=y.neq g6 (by omega)
  have kf:=below_grown kk.out g6 hwp
  rcases hfit.kind5 with hk5 | hk5 | hk5 | hk5 | hk5
  ·dsimp only at hk5
   subst hk5
   have hneg : Hid (negA ⟨0,fd,fps,fkk⟩ = ⟨1,fd,fps,fkk⟩):=(show _ = _ by simp [negA])
   obtain ⟨gg1,x3,hz3,hP3,hk3⟩:=ab_kind x2 hz2 hP2 hk2 hbp 1
   have y3:=y2.neq gg1 hne1
   have kf3:=below_grown kf gg1 hwp
   obtain ⟨g7,y4,hz4,hP4,hk4⟩:=ab_put y3 hz3 hP3 hk3 hbr 1
   have kf4:=below_grown kf3 g7 hwr
   have HH:=hide (And.intro y4 (And.intro hz4 (And.intro hP4 (And.intro hk4 (And.intro hbw kf4)))))
   have e0:=x.c0
   have e1:=x.c1
   have e2:=x.c2
   have e3:=x.c3
   have e4:=x.c4
   have e5:=x.c5
   have f0:=x.f 0
   have f1:=x.f 1
   have f2:=x.f 2
   have f3:=x.f 3
   have f4:=x.f 4
   have f5:=x.f 5
   have g0:=y.c0
   have g1:=y.c1
   have g2:=y.c2
   have g3:=y.c3
   have g4:=y.c4
   have g5:=y.c5
   have h0:=y.f 0
   have h1:=y.f 1
   have h2:=y.f 2
   have h3:=y.f 3
   have h4:=y.f 4
   have h5:=y.f 5
   clear hf hS hc kk g6 y2 kf x y x2 hz2 hP2 hk2 gg1 x3 hz3 hP3 hk3 y3 kf3 g7 y4 hz4 hP4 hk4 kf4 hz1 hPn1 hk1 hnew1 hbp hbr hbw hfit
   go_wp2
   obtain ⟨y4,hz4,hP4,hk4,hbw,kf4⟩:=HH.out
   refine bodyPost_ret (results_cell_row rfl _ _ r 29 _ (0,0) _ rfl y4 Tryz.underlying29 rfl (by kernel_rfl)) rfl ?_
   obtain ⟨q,h1,h2,h3⟩:=hres.out (.returned (.agg #[.int .i64 1,.bool sd1,.slice ad1 ld1 cd1,.slice ap1 np1 cp1,.bool sk1,.slice ak1 lk1 ck1])) _ (by rw [hneg.out]; exact ⟨sd1,ad1,ld1,cd1,ap1,np1,cp1,sk1,ak1,lk1,ck1,rfl,hz4,by omega,hP4.mono (by omega),by omega,hk4.1,by omega,hbw,hk4.2⟩)
   exact ⟨q,h1,h2,by first | exact h3 | simpa using h3,kf4⟩
  ·dsimp only at hk5
   subst hk5
   have hneg : Hid (negA ⟨1,fd,fps,fkk⟩ = ⟨0,fd,fps,fkk⟩):=(show _ = _ by simp [negA])
   obtain ⟨gg1,x3,hz3,hP3,hk3⟩:=ab_kind x2 hz2 hP2 hk2 hbp 0
   have y3:=y2.neq gg1 hne1
   have kf3:=below_grown kf gg1 hwp
   obtain ⟨g7,y4,hz4,hP4,hk4⟩:=ab_put y3 hz3 hP3 hk3 hbr 0
   have kf4:=below_grown kf3 g7 hwr
   have HH:=hide (And.intro y4 (And.intro hz4 (And.intro hP4 (And.intro hk4 (And.intro hbw kf4)))))
   have e0:=x.c0
   have e1:=x.c1
   have e2:=x.c2
   have e3:=x.c3
   have e4:=x.c4
   have e5:=x.c5
   have f0:=x.f 0
   have f1:=x.f 1
   have f2:=x.f 2
   have f3:=x.f 3
   have f4:=x.f 4
   have f5:=x.f 5
   have g0:=y.c0
   have g1:=y.c1
   have g2:=y.c2
   have g3:=y.c3
   have g4:=y.c4
   have g5:=y.c5
   have h0:=y.f 0
   have h1:=y.f 1
   have h2:=y.f 2
   have h3:=y.f 3
   have h4:=y.f 4
   have h5:=y.f 5
   clear hf hS hc kk g6 y2 kf x y x2 hz2 hP2 hk2 gg1 x3 hz3 hP3 hk3 y3 kf3 g7 y4 hz4 hP4 hk4 kf4 hz1 hPn1 hk1 hnew1 hbp hbr hbw hfit
   go_wp2
   obtain ⟨y4,hz4,hP4,hk4,hbw,kf4⟩:=HH.out
   refine bodyPost_ret (results_cell_row rfl _ _ r 29 _ (0,0) _ rfl y4 Tryz.underlying29 rfl (by kernel_rfl)) rfl ?_
   obtain ⟨q,h1,h2,h3⟩:=hres.out (.returned (.agg #[.int .i64 0,.bool sd1,.slice ad1 ld1 cd1,.slice ap1 np1 cp1,.bool sk1,.slice ak1 lk1 ck1])) _ (by rw [hneg.out]; exact ⟨sd1,ad1,ld1,cd1,ap1,np1,cp1,sk1,ak1,lk1,ck1,rfl,hz4,by omega,hP4.mono (by omega),by omega,hk4.1,by omega,hbw,hk4.2⟩)
   exact ⟨q,h1,h2,by first | exact h3 | simpa using h3,kf4⟩
  ·dsimp only at hk5
   subst hk5
   have hneg : Hid (lessF (scl (-1) fps) (1 - fkk) = negA ⟨2,fd,fps,fkk⟩):=lessF_neg hfit rfl
   have hstd:=hide (std_neg hfit.std)
   have HH:=hide (And.intro x2 (And.intro y2 (And.intro hP2 (And.intro hk2 kf))))
   have e0:=x.c0
   have e1:=x.c1
   have e2:=x.c2
   have e3:=x.c3
   have e4:=x.c4
   have e5:=x.c5
   have f0:=x.f 0
   have f1:=x.f 1
   have f2:=x.f 2
   have f3:=x.f 3
   have f4:=x.f 4
   have f5:=x.f 5
   have g0:=y.c0
   have g1:=y.c1
   have g2:=y.c2
   have g3:=y.c3
   have g4:=y.c4
   have g5:=y.c5
   have h0:=y.f 0
   have h1:=y.f 1
   have h2:=y.f 2
   have h3:=y.f 3
   have h4:=y.f 4
   have h5:=y.f 5
   clear hf hS hc kk g6 y2 kf x y x2 hz2 hP2 hk2 hz1 hPn1 hk1 hnew1 hbp hbr hbw hfit
   go_wp2_with fail
   obtain ⟨x2,y2,hP2,hk2,kf⟩:=HH.out
   clear HH e0 e1 e2 e3 e4 e5 f0 f1 f2 f3 f4 f5 g0 g1 g2 g3 g4 g5 h0 h1 h2 h3 h4 h5
   generalize ((((((w1.setCell ⟨p,0,none⟩ (.int .i64 2)).setCell ⟨p,1,none⟩ (.bool sd1)).setCell ⟨p,2,none⟩ (.slice ad1 ld1 cd1)).setCell ⟨p,3,none⟩ (.slice ap1 np1 cp1)).setCell ⟨p,4,none⟩ (.bool sk1)).setCell ⟨p,5,none⟩ (.slice ak1 lk1 ck1)) = w2 at *
   have hrb2:=Nat.le_of_lt y2.lt
   have hP2':=hP2.pr
   have hk2':=hk2.1.zm
   go_region_held3 (fun w' => w'.cell? ⟨p,3,none⟩ = some (.slice ap1 np1 cp1)∧w'.cell? ⟨p,4,none⟩ = some (.bool sk1)∧w'.cell? ⟨p,5,none⟩ = some (.slice ak1 lk1 ck1)∧Below r w2 w')
    ((refine aq3r x2 hpr ?_; first | (refine Below.mono ?_ hrb2; focus ((with_reducible repeat' first | exact Below.refl _ _ | assumption | refine grow_step (by assumption) ?_ | refine grow_drew ?_ | refine grow_alloc ?_ _ | refine grow_drewN ?_ _); done)) | (refine ((((((Below.mono ?_ hrb2).setCell (Nat.le_refl _) _).setCell (Nat.le_refl _) _).setCell (Nat.le_refl _) _).setCell (Nat.le_refl _) _).setCell (Nat.le_refl _) _).setCell (Nat.le_refl _) _; focus ((with_reducible repeat' first | exact Below.refl _ _ | assumption | refine grow_step (by assumption) ?_ | refine grow_drew ?_ | refine grow_alloc ?_ _ | refine grow_drewN ?_ _); done))))
    (first | (go_at_call 21; refine (zof_n 1 (by decide) (by decide) _).mono ?_; rintro e wA ⟨sA,aA,lA,cA,rfl,hzA,kA,hlA⟩) | (go_at_call 26; refine (tconst_n (B:=B + np + 16) (Zn.zm (Zn.below hzA gw)) (by omega) (by omega)).mono ?_; rintro e wC ⟨sC,aC,lC,cC,rfl,hTC⟩; have kC:=hTC.below; have tC:=hTC.tw) | (go_at_call 27; refine (tsub_n (B:=B + np + 16) (Pr.below tC.1 gw) (Zm.below tC.2.1 gw) tC.2.2 (Pr.below hP2' gw) (Zm.below hk2' gw) hlk1 (by omega)).mono ?_; rintro e wS ⟨ad3,n3,cp3,s3,a3,l3,c3,us,rfl,hTS,hnS,hStdS,hcsS⟩; have kS:=hTS.below; have tS:=hTS.tw) | (go_at_call 24; refine (less_n (Fw:=Fw) (B:=B + np + 16 + np1 + 3 + (0 + np1) + 2) (hF.le (grow_step (show Below w2.heap.size w2 _ from gw) kf)) (Pr.below tS.1 gw) (Zm.below tS.2.1 gw) tS.2.2 (by omega) (by omega)).mono ?_; rintro e wL ⟨qsL,hSL,hcL,hAL,kL⟩; obtain ⟨sdL,adL,ldL,cdL,apL,npL,cpL,skL,akL,lkL,ckL,rfl,hzL,hlzL,hPnL,hnpL,hkL,hlkL,hnewL,hxL⟩:=hAL; replace hkL : _∧XF Fw wL adL ldL cdL apL npL cpL akL lkL ckL:=⟨hkL,hxL⟩; clear hxL; have kW:=mid kL (show Below w2.heap.size w2 _ from gw); have y1':=AB.below y2 kW; have y':=y1'.below kL; have i0:=y'.c0; have i1:=y'.c1; have i2:=y'.c2; have i3:=y'.c3; have i4:=y'.c4; have i5:=y'.c5; have j0:=y'.f 0; have j1:=y'.f 1; have j2:=y'.f 2; have j3:=y'.f 3; have j4:=y'.f 4; have j5:=y'.f 5))
   all_goals
    have hqs : qsL = scl (-1) fps:=std_unique hSL hstd.out (fun v => by rw [hcL,hcsS,csum_append]; simp [csum])
    generalize hF : lessF qsL (1 - fkk) = F at *
    have hFn : Hid (F = negA ⟨2,fd,fps,fkk⟩):=(show _ = _ by rw [← hF,hqs]; exact hneg.out)
    have hs9:=kW.size
    have hs8:=y2.lt
    obtain ⟨g7,y4,hz4,hP4,hk4⟩:=ab_put y' hzL hPnL hkL (fun b off e => by have h9:=hnewL b off e; omega) F.kind
    have kf4:=below_grown (grow_step (grow_step kL kW) kf) g7 hwr
    have hbw : ∀ b off,apL = some ⟨b,off,none⟩→w.heap.size≤b:=fun b off e => by have h9:=hnewL b off e; omega
    have HH:=hide (And.intro y4 (And.intro hz4 (And.intro hP4 (And.intro hk4 (And.intro hbw kf4)))))
    clear hF hqs hneg hstd g7 y4 hz4 hP4 hk4 kf4 hbw hzL hPnL hkL hnewL hSL hcL hStdS hcsS hTS hTC tS tC kS kC kL kW kf x2 y2 y1' y' hP2 hk2 hP2' hk2' hzA kA
    go_wp2
    obtain ⟨y4,hz4,hP4,hk4,hbw,kf4⟩:=HH.out
    refine bodyPost_ret (results_cell_row rfl _ _ r 29 _ (0,0) _ rfl y4 Tryz.underlying29 rfl (by kernel_rfl)) rfl ?_
    obtain ⟨q,h1,h2,h3⟩:=hres.out (.returned (.agg #[.int .i64 F.kind,.bool sdL,.slice adL ldL cdL,.slice apL npL cpL,.bool skL,.slice akL lkL ckL])) _ (by rw [← hFn.out]; exact ⟨sdL,adL,ldL,cdL,apL,npL,cpL,skL,akL,lkL,ckL,rfl,hz4,by omega,hP4.mono (by omega),by omega,hk4.1,by omega,hbw,hk4.2⟩)
    exact ⟨q,h1,h2,by first | exact h3 | simpa using h3,kf4⟩
  ·dsimp only at hk5
   subst hk5
   have hneg : Hid (negA ⟨3,fd,fps,fkk⟩ = ⟨4,fd,fps,fkk⟩):=(show _ = _ by simp [negA])
   obtain ⟨gg1,x3,hz3,hP3,hk3⟩:=ab_kind x2 hz2 hP2 hk2 hbp 4
   have y3:=y2.neq gg1 hne1
   have kf3:=below_grown kf gg1 hwp
   obtain ⟨g7,y4,hz4,hP4,hk4⟩:=ab_put y3 hz3 hP3 hk3 hbr 4
   have kf4:=below_grown kf3 g7 hwr
   have HH:=hide (And.intro y4 (And.intro hz4 (And.intro hP4 (And.intro hk4 (And.intro hbw kf4)))))
   have e0:=x.c0
   have e1:=x.c1
   have e2:=x.c2
   have e3:=x.c3
   have e4:=x.c4
   have e5:=x.c5
   have f0:=x.f 0
   have f1:=x.f 1
   have f2:=x.f 2
   have f3:=x.f 3
   have f4:=x.f 4
   have f5:=x.f 5
   have g0:=y.c0
   have g1:=y.c1
   have g2:=y.c2
   have g3:=y.c3
   have g4:=y.c4
   have g5:=y.c5
   have h0:=y.f 0
   have h1:=y.f 1
   have h2:=y.f 2
   have h3:=y.f 3
   have h4:=y.f 4
   have h5:=y.f 5
   clear hf hS hc kk g6 y2 kf x y x2 hz2 hP2 hk2 gg1 x3 hz3 hP3 hk3 y3 kf3 g7 y4 hz4 hP4 hk4 kf4 hz1 hPn1 hk1 hnew1 hbp hbr hbw hfit
   go_wp2
   obtain ⟨y4,hz4,hP4,hk4,hbw,kf4⟩:=HH.out
   refine bodyPost_ret (results_cell_row rfl _ _ r 29 _ (0,0) _ rfl y4 Tryz.underlying29 rfl (by kernel_rfl)) rfl ?_
   obtain ⟨q,h1,h2,h3⟩:=hres.out (.returned (.agg #[.int .i64 4,.bool sd1,.slice ad1 ld1 cd1,.slice ap1 np1 cp1,.bool sk1,.slice ak1 lk1 ck1])) _ (by rw [hneg.out]; exact ⟨sd1,ad1,ld1,cd1,ap1,np1,cp1,sk1,ak1,lk1,ck1,rfl,hz4,by omega,hP4.mono (by omega),by omega,hk4.1,by omega,hbw,hk4.2⟩)
   exact ⟨q,h1,h2,by first | exact h3 | simpa using h3,kf4⟩
  ·dsimp only at hk5
   subst hk5
   have hneg : Hid (negA ⟨4,fd,fps,fkk⟩ = ⟨3,fd,fps,fkk⟩):=(show _ = _ by simp [negA])
   obtain ⟨gg1,x3,hz3,hP3,hk3⟩:=ab_kind x2 hz2 hP2 hk2 hbp 3
   have y3:=y2.neq gg1 hne1
   have kf3:=below_grown kf gg1 hwp
   obtain ⟨g7,y4,hz4,hP4,hk4⟩:=ab_put y3 hz3 hP3 hk3 hbr 3
   have kf4:=below_grown kf3 g7 hwr
   have HH:=hide (And.intro y4 (And.intro hz4 (And.intro hP4 (And.intro hk4 (And.intro hbw kf4)))))
   have e0:=x.c0
   have e1:=x.c1
   have e2:=x.c2
   have e3:=x.c3
   have e4:=x.c4
   have e5:=x.c5
   have f0:=x.f 0
   have f1:=x.f 1
   have f2:=x.f 2
   have f3:=x.f 3
   have f4:=x.f 4
   have f5:=x.f 5
   have g0:=y.c0
   have g1:=y.c1
   have g2:=y.c2
   have g3:=y.c3
   have g4:=y.c4
   have g5:=y.c5
   have h0:=y.f 0
   have h1:=y.f 1
   have h2:=y.f 2
   have h3:=y.f 3
   have h4:=y.f 4
   have h5:=y.f 5
   clear hf hS hc kk g6 y2 kf x y x2 hz2 hP2 hk2 gg1 x3 hz3 hP3 hk3 y3 kf3 g7 y4 hz4 hP4 hk4 kf4 hz1 hPn1 hk1 hnew1 hbp hbr hbw hfit
   go_wp2
   obtain ⟨y4,hz4,hP4,hk4,hbw,kf4⟩:=HH.out
   refine bodyPost_ret (results_cell_row rfl _ _ r 29 _ (0,0) _ rfl y4 Tryz.underlying29 rfl (by kernel_rfl)) rfl ?_
   obtain ⟨q,h1,h2,h3⟩:=hres.out (.returned (.agg #[.int .i64 3,.bool sd1,.slice ad1 ld1 cd1,.slice ap1 np1 cp1,.bool sk1,.slice ak1 lk1 ck1])) _ (by rw [hneg.out]; exact ⟨sd1,ad1,ld1,cd1,ap1,np1,cp1,sk1,ak1,lk1,ck1,rfl,hz4,by omega,hP4.mono (by omega),by omega,hk4.1,by omega,hbw,hk4.2⟩)
   exact ⟨q,h1,h2,by first | exact h3 | simpa using h3,kf4⟩
set_option maxRecDepth 100000 in
set_option maxHeartbeats 6400000 in
theorem aput_n {sd : Bool} {sk : Bool} {d k : Int} {ps : List (Int × Int)} {v : Int} {apu : Option Addr} {nu cpu : Nat} {su : Bool} {au : Option Addr} {lu cu : Nat} {us : List (Int × Int)} {uk : Int}
  (hF : FLE Fw w) (hd : Zm w sd ad ld cd d) (hld : ld≤B) (hP : Pr w ap np ps B) (hk : Zm w sk ak lk ck k) (hlk : lk≤B) (hv : I64 v) (hPu : Pr w apu nu us B) (hku : Zm w su au lu cu uk) (hlu : lu≤B) (hn : np + nu≤262144) (hB : 2 * B + 6 * (np + nu) + 128≤4194000) :
  Calls Tryz.prog 7 #[.agg #[.int .i64 kd,.bool sd,.slice ad ld cd,.slice ap np cp,.bool sk,.slice ak lk ck],.int .i64 v,.agg #[.slice apu nu cpu,.bool su,.slice au lu cu]] w fun e w' => ∃ qs,Std qs∧(∀ v,csum qs v = csum ps v)∧PTF Fw w' e (formA kd d qs k) v us uk (2 * B + 6 * (np + nu) + 128) w.heap.size∧Below w.heap.size w w':=by
 go_enter Tryz.func7,Tryz.ntmps7
 go_wp2_with fail
 have x:=((AB.new w kd sd ad ld cd ap np cp sk ak lk ck).below (below_alloc _ (.cells #[.slice apu nu cpu,.bool su,.slice au lu cu] 27))).below (below_alloc _ (.cells #[.int .i64 0,.bool false,.slice none 0 0,.slice none 0 0,.bool false,.slice none 0 0] 29))
 have t:=(tb_new (w.alloc (.cells #[.int .i64 kd,.bool sd,.slice ad ld cd,.slice ap np cp,.bool sk,.slice ak lk ck] 29)) apu nu cpu su au lu cu).below (below_alloc _ (.cells #[.int .i64 0,.bool false,.slice none 0 0,.slice none 0 0,.bool false,.slice none 0 0] 29))
 have y:=AB.new ((w.alloc (.cells #[.int .i64 kd,.bool sd,.slice ad ld cd,.slice ap np cp,.bool sk,.slice ak lk ck] 29)).alloc (.cells #[.slice apu nu cpu,.bool su,.slice au lu cu] 27)) 0 false none 0 0 none 0 0 false none 0 0
 rw [show (w.alloc (.cells #[.int .i64 kd,.bool sd,.slice ad ld cd,.slice ap np cp,.bool sk,.slice ak lk ck] 29)).heap.size = w.heap.size + 1 from by simp] at t
 rw [show ((w.alloc (.cells #[.int .i64 kd,.bool sd,.slice ad ld cd,.slice ap np cp,.bool sk,.slice ak lk ck] 29)).alloc (.cells #[.slice apu nu cpu,.bool su,.slice au lu cu] 27)).heap.size = w.heap.size + 1 + 1 from by simp] at y
 have b0 : Below w.heap.size w (((w.alloc (.cells #[.int .i64 kd,.bool sd,.slice ad ld cd,.slice ap np cp,.bool sk,.slice ak lk ck] 29)).alloc (.cells #[.slice apu nu cpu,.bool su,.slice au lu cu] 27)).alloc (.cells #[.int .i64 0,.bool false,.slice none 0 0,.slice none 0 0,.bool false,.slice none 0 0] 29)):=below_alloc' (below_alloc' (below_alloc _ _) _) _
 generalize ((w.alloc (.cells #[.int .i64 kd,.bool sd,.slice ad ld cd,.slice ap np cp,.bool sk,.slice ak lk ck] 29)).alloc (.cells #[.slice apu nu cpu,.bool su,.slice au lu cu] 27)).alloc (.cells #[.int .i64 0,.bool false,.slice none 0 0,.slice none 0 0,.bool false,.slice none 0 0] 29) = wb at *
 have hPu0:=hide hPu
 have hku0:=hide hku
 replace hd:=hd.below b0
 replace hP:=hP.below b0
 replace hk:=hk.below b0
 clear hPu hku
 have hpq : w.heap.size < w.heap.size + 1:=by omega
 have hqr : w.heap.size + 1 < w.heap.size + 1 + 1:=by omega
 generalize w.heap.size + 1 + 1 = r at *
 generalize w.heap.size + 1 = q at *
 generalize hp : w.heap.size = p at *
 replace b0 : Hid (Below w.heap.size w wb):=hp ▸ b0
 replace hp:=hide hp
 have hnps:=hP.1
 refine (anorm_n (Fw:=Fw) (hF.le b0.out) hd hld hP hk hlk (by omega) (by omega)).mono ?_
 rintro e w1 ⟨qs,hS,hc,hA,k1⟩
 have hrb:=y.lt
 replace x:=x.below k1
 replace y:=y.below k1
 replace t:=t.below k1
 have kk:=hide (grow_step k1 b0.out)
 clear hd hP hk k1
 have hpl:=x.lt
 have hql:=t.lt
 have hrl:=y.lt
 have hne1 : ¬ r = p:=by omega
 have hne2 : ¬ p = r:=by omega
 have hne3 : ¬ q = p:=by omega
 have hne4 : ¬ p = q:=by omega
 have hne5 : ¬ q = r:=by omega
 have hne6 : ¬ r = q:=by omega
 have hwp : w.heap.size≤p:=by have:=hp.out; omega
 have hwr : w.heap.size≤r:=by omega
 cases hf : formA kd d qs k with
 | inr er =>
  rw [hf] at hA
  have her:=formA_er hf
  have he : _ = _:=hA
  subst he
  have g6:=ab_set w1 p (.int .i64 0) (.bool false) (.slice none 0 0) (.slice none 0 0) (.bool false) (.slice none 0 0)
  have y2:=y.neq g6 (by omega)
  have kf:=below_grown kk.out g6 hwp
  have hres : Hid (∃ qs,Std qs∧(∀ v,csum qs v = csum ps v)∧∀ w',PTF Fw w' (.returned (.agg #[.int .i64 0,.bool false,.slice none 0 0,.slice none 0 0,.bool false,.slice none 0 0])) (formA kd d qs k) v us uk (2 * B + 6 * (np + nu) + 128) w.heap.size):=⟨qs,hS,hc,fun w' => by rw [hf]; rfl⟩
  have HH:=hide (And.intro y2 kf)
  have e0:=x.c0
  have e1:=x.c1
  have e2:=x.c2
  have e3:=x.c3
  have e4:=x.c4
  have e5:=x.c5
  have f0:=x.f 0
  have f1:=x.f 1
  have f2:=x.f 2
  have f3:=x.f 3
  have f4:=x.f 4
  have f5:=x.f 5
  have g0:=y.c0
  have g1:=y.c1
  have g2:=y.c2
  have g3:=y.c3
  have g4:=y.c4
  have g5:=y.c5
  have h0:=y.f 0
  have h1:=y.f 1
  have h2:=y.f 2
  have h3:=y.f 3
  have h4:=y.f 4
  have h5:=y.f 5
  clear hf hS hc hA kk g6 y2 kf x y t
  rcases her with rfl | rfl
  ·go_wp2
   refine bodyPost_ret (results_cell_row rfl _ _ r 29 _ (0,0) _ rfl (ab_fin HH.out.1 0 false none 0 0 none 0 0 false none 0 0) Tryz.underlying29 rfl (by kernel_rfl)) rfl ?_
   obtain ⟨q,h1,h2,h3⟩:=hres.out
   exact ⟨q,h1,h2,by simpa using h3 _,below_grown HH.out.2 (ab_set _ _ _ _ _ _ _ _) hwr⟩
  ·go_wp2
   refine bodyPost_ret (results_cell_row rfl _ _ r 29 _ (0,0) _ rfl (ab_fin HH.out.1 0 false none 0 0 none 0 0 false none 0 0) Tryz.underlying29 rfl (by kernel_rfl)) rfl ?_
   obtain ⟨q,h1,h2,h3⟩:=hres.out
   exact ⟨q,h1,h2,by simpa using h3 _,below_grown HH.out.2 (ab_set _ _ _ _ _ _ _ _) hwr⟩
 | inl f =>
  rw [hf] at hA
  have hfit:=formA_fit hS hf
  have hlen : f.ps.length≤np:=by have h1:=(formA_prt hS hf).1; have h2:=std_len hS hc; omega
  have hform:=fun qs k => hfit.form qs k
  obtain ⟨fk,fd,fps,fkk⟩:=f
  obtain ⟨sd1,ad1,ld1,cd1,ap1,np1,cp1,sk1,ak1,lk1,ck1,rfl,hz1,hlz1,hPn1,hnp1,hk1,hlk1,hnew1, -⟩:=hA
  dsimp only at hz1 hPn1 hk1 hlen hform
  have hnp2 : np1≤np:=by have:=hPn1.1; omega
  have hres : Hid (∀ e w' rs f',Std rs→(∀ u,csum rs u = csum (wo v fps ++ scl (csum fps v) us) u)→formA fk fd rs (fkk + csum fps v * uk) = .inl f'→AWF Fw w' e f' (2 * B + 6 * (np + nu) + 128) w.heap.size→∃ qs,Std qs∧(∀ v,csum qs v = csum ps v)∧PTF Fw w' e (formA kd d qs k) v us uk (2 * B + 6 * (np + nu) + 128) w.heap.size):=fun e w' rs f' h1 h2 h3 h4 => ⟨qs,hS,hc,by rw [hf]; exact ⟨rs,f',h1,h2,h3,h4⟩⟩
  have hbp : ∀ b off,ap1 = some ⟨b,off,none⟩→b ≠ p:=fun b off e => by have h1:=hnew1 b off e; omega
  obtain ⟨g6,x2,hz2,hP2,hk2⟩:=Go.Proofs.YtepdckgfolkjjaaGreatDoor.ab_put x hz1 hPn1 hk1 hbp fk cp1
  have y2:=y.neq g6 (by omega)
  have t2:=t.neq g6 (by omega)
  have kf:=below_grown kk.out g6 hwp
  have u0:=t.c0
  have u1:=t.c1
  have u2:=t.c2
  have HH:=hide (And.intro x2 (And.intro y2 (And.intro t2 (And.intro hz2 (And.intro hP2 (And.intro hk2 kf))))))
  replace hform:=hide hform
  have e0:=x.c0
  have e1:=x.c1
  have e2:=x.c2
  have e3:=x.c3
  have e4:=x.c4
  have e5:=x.c5
  have f0:=x.f 0
  have f1:=x.f 1
  have f2:=x.f 2
  have f3:=x.f 3
  have f4:=x.f 4
  have f5:=x.f 5
  clear hf hS hc kk g6 y2 kf x y t t2 x2 hz2 hP2 hk2 hz1 hPn1 hk1 hnew1 hbp hfit
  go_wp2_with fail
  obtain ⟨x2,y2,t2,hz2,hP2,hk2,kf⟩:=HH.out
  clear HH e0 e1 e2 e3 e4 e5 f0 f1 f2 f3 f4 f5 u0 u1 u2
  generalize ((((((w1.setCell ⟨p,0,none⟩ (.int .i64 fk)).setCell ⟨p,1,none⟩ (.bool sd1)).setCell ⟨p,2,none⟩ (.slice ad1 ld1 cd1)).setCell ⟨p,3,none⟩ (.slice ap1 np1 cp1)).setCell ⟨p,4,none⟩ (.bool sk1)).setCell ⟨p,5,none⟩ (.slice ak1 lk1 ck1)) = w2 at *
  refine (tput_n (B:=B + np + 16) hv hP2.pr hk2.zm hlk1 ((hPu0.out.below kf).mono (by omega)) (hku0.out.below kf) (by omega) (by omega)).mono ?_
  rintro e w3 ⟨ad3,n3,cp3,s3,a3,l3,c3,rs,rfl,hT,hn3,hStd,hcs⟩
  have k3:=hT.below
  have hs2:=x2.lt
  have hs3:=y2.lt
  have hnewT:=hT.new
  have x3:=x2.below k3
  have y3:=y2.below k3
  obtain ⟨g3,x4⟩:=tb3_put x3 ad3 n3 cp3 s3 a3 l3 c3
  have hU:=ab_noU x3
  have hz4:=(hz2.below k3).grownU g3 hU
  have hP4:=hT.pn.away (fun b off e => by have h9:=hnewT b off e; omega) g3 hU
  have hk4:=hT.zn.grownU g3 hU
  have hl4:=hT.le
  have y4:=y3.neq g3 (by omega)
  have kf4:=below_grown (grow_step k3 kf) g3 hwp
  have e0:=x3.c0
  have e1:=x3.c1
  have e2:=x3.c2
  have e3:=x3.c3
  have e4:=x3.c4
  have e5:=x3.c5
  have f3:=x3.f 3
  have f4:=x3.f 4
  have f5:=x3.f 5
  have HH:=hide (And.intro x4 (And.intro y4 (And.intro hz4 (And.intro hP4 (And.intro hk4 kf4)))))
  replace hStd:=hide hStd
  replace hcs:=hide hcs
  clear x2 y2 t2 hz2 hP2 hk2 kf hT k3 hnewT x3 y3 g3 x4 hU hz4 hP4 hk4 y4 kf4
  go_wp2_with fail
  obtain ⟨x4,y4,hz4,hP4,hk4,kf4⟩:=HH.out
  clear HH e0 e1 e2 e3 e4 e5 f3 f4 f5
  generalize ((w3.setCell ⟨p,3,none⟩ (.slice ad3 n3 cp3)).setCell ⟨p,4,none⟩ (.bool s3)).setCell ⟨p,5,none⟩ (.slice a3 l3 c3) = w4 at *
  refine (anorm_n (Fw:=Fw) (B:=B + np + 16 + np1 + (B + np + 16 + nu + 1) + (np1 + nu) + 2) (hF.le kf4) hz4.zm (by omega) hP4.pr hk4.zm hl4 (by omega) (by omega)).mono ?_
  rintro e w5 ⟨q5,hS5,hc5,hA5,k5⟩
  obtain ⟨f',hf'⟩:=hform.out q5 (fkk + csum fps v * uk)
  rw [hf'] at hA5
  have hdone:=hide (fun e w' => hres.out e w' q5 f' hS5 (fun u => (hc5 u).trans (hcs.out u)) hf')
  clear hres hform hf' hS5 hc5 hcs hStd
  obtain ⟨sdL,adL,ldL,cdL,apL,npL,cpL,skL,akL,lkL,ckL,rfl,hzL,hlzL,hPnL,hnpL,hkL,hlkL,hnewL,hxL⟩:=hA5
  have hs4:=x4.lt
  have hs5:=y4.lt
  replace hkL : _∧XF Fw w5 adL ldL cdL apL npL cpL akL lkL ckL:=⟨hkL,hxL⟩
  clear hxL
  replace x4:=x4.below k5
  replace y4:=y4.below k5
  obtain ⟨g5,x6,hz6,hP6,hk6⟩:=ab_put x4 hzL hPnL hkL (fun b off e => by have h9:=hnewL b off e; omega) f'.kind
  have y6:=y4.neq g5 (by omega)
  have kf6:=below_grown (grow_step k5 kf4) g5 hwp
  obtain ⟨g7,y7,hz7,hP7,hk7⟩:=ab_put y6 hz6 hP6 hk6 (fun b off e => by have h9:=hnewL b off e; omega) f'.kind
  have kf7:=below_grown kf6 g7 hwr
  have hbw : ∀ b off,apL = some ⟨b,off,none⟩→w.heap.size≤b:=fun b off e => by have h9:=hnewL b off e; omega
  have hbd : ldL≤2 * B + 6 * (np + nu) + 128∧npL≤2 * B + 6 * (np + nu) + 128∧lkL≤2 * B + 6 * (np + nu) + 128∧B + np + 16 + np1 + (B + np + 16 + nu + 1) + (np1 + nu) + 2 + n3 + 16≤2 * B + 6 * (np + nu) + 128:=by omega
  have HI:=hide (And.intro x6 y6)
  have HH:=hide (And.intro y7 (And.intro hz7 (And.intro hP7 (And.intro hk7 (And.intro hbw (And.intro kf7 hbd))))))
  have e0:=x4.c0
  have e1:=x4.c1
  have e2:=x4.c2
  have e3:=x4.c3
  have e4:=x4.c4
  have e5:=x4.c5
  have f0:=x4.f 0
  have f1:=x4.f 1
  have f2:=x4.f 2
  have f3:=x4.f 3
  have f4:=x4.f 4
  have f5:=x4.f 5
  have g0:=y4.c0
  have g1:=y4.c1
  have g2:=y4.c2
  have g3:=y4.c3
  have g4:=y4.c4
  have g5:=y4.c5
  have h0:=y4.f 0
  have h1:=y4.f 1
  have h2:=y4.f 2
  have h3:=y4.f 3
  have h4:=y4.f 4
  have h5:=y4.f 5
  clear x4 y4 hz4 hP4 hk4 kf4 hzL hPnL hkL hnewL k5 g5 x6 hz6 hP6 hk6 y6 kf6 g7 y7 hz7 hP7 hk7 kf7 hbw hbd hld hlk hlu hn hB hlz1 hnp1 hlk1 hnp2 hlen hn3 hl4 hlzL hnpL hlkL hs2 hs3 hs4 hs5 hnps hrb hpl hql hrl hpq hqr hwp hwr hp b0 hPu0 hku0 hv
  iterate 19 (first | go_skip | go_guarded | go_step | go_upon | go_simp)
  obtain ⟨x6,y6⟩:=HI.out
  clear HI e0 e1 e2 e3 e4 e5 f0 f1 f2 f3 f4 f5 g0 g1 g2 g3 g4 g5 h0 h1 h2 h3 h4 h5
  generalize ((((((w5.setCell ⟨p,0,none⟩ (.int .i64 f'.kind)).setCell ⟨p,1,none⟩ (.bool sdL)).setCell ⟨p,2,none⟩ (.slice adL ldL cdL)).setCell ⟨p,3,none⟩ (.slice apL npL cpL)).setCell ⟨p,4,none⟩ (.bool skL)).setCell ⟨p,5,none⟩ (.slice akL lkL ckL)) = w6 at *
  have e0:=x6.c0
  have e1:=x6.c1
  have e2:=x6.c2
  have e3:=x6.c3
  have e4:=x6.c4
  have e5:=x6.c5
  have g0:=y6.c0
  have g1:=y6.c1
  have g2:=y6.c2
  have g3:=y6.c3
  have g4:=y6.c4
  have g5:=y6.c5
  have h0:=y6.f 0
  have h1:=y6.f 1
  have h2:=y6.f 2
  have h3:=y6.f 3
  have h4:=y6.f 4
  have h5:=y6.f 5
  clear x6 y6
  go_wp2
  obtain ⟨y4,hz4,hP4,hk4,hbw,kf4,hb1,hb2,hb3,hb4⟩:=HH.out
  refine bodyPost_ret (results_cell_row rfl _ _ r 29 _ (0,0) _ rfl y4 Tryz.underlying29 rfl (by kernel_rfl)) rfl ?_
  obtain ⟨q,h1,h2,h3⟩:=hdone.out (.returned (.agg #[.int .i64 f'.kind,.bool sdL,.slice adL ldL cdL,.slice apL npL cpL,.bool skL,.slice akL lkL ckL])) _ ⟨sdL,adL,ldL,cdL,apL,npL,cpL,skL,akL,lkL,ckL,rfl,hz4,hb1,hP4.mono hb4,hb2,hk4.1,hb3,hbw,hk4.2⟩
  exact ⟨q,h1,h2,by first | exact h3 | simpa using h3,kf4⟩
end Go.Proofs.YtepdckgfolkjjaaGreatDoor.Fx

namespace Go.Proofs.YtepdckgfolkjjaaGreatDoor.Ov
open Go.RowKit Go.Sort Go.Shelf
open Tm At

variable {F G cap n cp l c b i g ld cd np lk ck : Nat} {w w' wb : World} {ad a ap ak : Option Addr} {xs : List Int} {L : List Raw} {kd : Int} {sd sk : Bool}
structure Keep (F G : Nat) (w w' : World) : Prop where
 os : w'.os = w.os
 tape : w'.tape = w.tape
 output : w'.output = w.output
 size : w.heap.size≤w'.heap.size
 block : ∀ k,k < w.heap.size→¬ (F≤k∧k < G)→w'.heap[k]? = w.heap[k]?
theorem Keep.refl (F G : Nat) (w : World) : Keep F G w w:=⟨rfl,rfl,rfl,Nat.le_refl _,fun _ _ _ => rfl⟩
theorem Keep.trans {w1 w2 : World} (h : Keep F G w w1) (k : Keep F G w1 w2) : Keep F G w w2 :=
 ⟨k.os.trans h.os,k.tape.trans h.tape,k.output.trans h.output,Nat.le_trans h.size k.size,fun i hi hn => (k.block i (Nat.lt_of_lt_of_le hi h.size) hn).trans (h.block i hi hn)⟩
theorem keep_below (h : Below w.heap.size w w') : Keep F G w w':=⟨h.os,h.tape,h.output,h.size,fun k hk _ => h.block k hk⟩
theorem keep_grown {m : Nat} (h : w.grownBy w' (some m)) (hm : F≤m∧m < G) : Keep F G w w':=⟨h.os,h.tape,h.output,h.size,fun k hk hn => h.block k hk (fun e => by cases e; exact hn hm)⟩
def FG (F G : Nat) (w : World) (ad : Option Addr) (cap : Nat) : Prop:=(ad = none∧cap = 0) ∨ ∃ b xs,ad = some ⟨b,0,none⟩∧F≤b∧b < G∧Row w b xs∧xs.length = cap∧cap≤9223372036854775807
def NG (F G : Nat) (w : World) (ad : Option Addr) (n cp : Nat) (a : Option Addr) (l c : Nat) : Prop :=
 ((ad = none∧n = 0∧cp = 0) ∨ ∃ g L,ad = some ⟨g,0,none⟩∧F≤g∧g < G∧RB w g L∧L.length = cp∧n≤cp∧cp≤maxLen∧∀ x ∈ L,x.l≤x.c∧FG F G w x.a x.c)∧l≤c∧FG F G w a c
theorem fg_of (h : Fresh.Fr F w ad cap) : FG F w.heap.size w ad cap:=by
 rcases h with h | ⟨b,xs,h1,h2,h3,h4⟩
 ·exact .inl h
 ·exact .inr ⟨b,xs,h1,h2,Fresh.row_lt h3,h3,h4⟩
theorem ng_of (h : Fresh.NW F w ad n cp a l c) : NG F w.heap.size w ad n cp a l c:=by
 obtain ⟨L,h1,h2,h3,h4⟩:=h
 refine ⟨?_,h3,fg_of h4⟩
 rcases h1 with ⟨e,h5,h6,_⟩ | ⟨g,e,hb,hr,hl,hn,hm⟩
 ·cases e; exact .inl ⟨rfl,rfl,rfl⟩
 ·cases e
  exact .inr ⟨g,L,rfl,hb,hr.lt,hr,hl,hn,hm,fun x hx => ⟨(h2 x hx).1,fg_of (h2 x hx).2⟩⟩
theorem FG.keep {F' G' : Nat} (h : FG F G w ad cap) (hk : Keep F' G' w w') (hd : G≤F' ∨ G'≤F) : FG F G w' ad cap:=by
 rcases h with h | ⟨b,xs,h1,h2,h3,h4,h5⟩
 ·exact .inl h
 ·exact .inr ⟨b,xs,h1,h2,h3,(hk.block b (Fresh.row_lt h4) (by omega)).trans h4,h5⟩
theorem NG.keep {F' G' : Nat} (h : NG F G w ad n cp a l c) (hk : Keep F' G' w w') (hd : G≤F' ∨ G'≤F) : NG F G w' ad n cp a l c:=by
 refine ⟨?_,h.2.1,h.2.2.keep hk hd⟩
 rcases h.1 with h1 | ⟨g,L,e,h2,h3,h4,h5,h6,h7,h8⟩
 ·exact .inl h1
 ·exact .inr ⟨g,L,e,h2,h3,(hk.block g h4.lt (by omega)).trans h4,h5,h6,h7,fun x hx => ⟨(h8 x hx).1,(h8 x hx).2.keep hk hd⟩⟩
theorem NG.below (h : NG F G w ad n cp a l c) (hb : Below w.heap.size w w') : NG F G w' ad n cp a l c:=h.keep (keep_below (F:=G) (G:=G) hb) (.inl (Nat.le_refl _))
theorem fg_set (h : FG F G w ad cap) (hr : Row w b xs) (z : Int) : FG F G (w.setCell ⟨b,i,none⟩ (.int .u32 z)) ad cap:=by
 rcases h with h | ⟨b',ys,h1,h2,h3,h4,h5,h6⟩
 ·exact .inl h
 ·by_cases e : b' = b
  ·subst e
   exact .inr ⟨b',ys.set i z,h1,h2,h3,h4.set i z,by rw [List.length_set]; exact h5,h6⟩
  ·exact .inr ⟨b',ys,h1,h2,h3,(Below.heap_setCell _ _ _ _ e).trans h4,h5,h6⟩
theorem rb_row (h : RB w g L) (hr : Row w b xs) : g ≠ b:=by
 rintro rfl
 exact Fresh.nr_rb h xs hr
def z9 : Raw:=⟨-9,false,none,0,0,0⟩
theorem FG.grownN {m : Nat} (h : FG F G w ad cap) (hg : w.grownBy w' (some m)) (hm : Fresh.NR w m) : FG F G w' ad cap:=by
 rcases h with h | ⟨b,xs,h1,h2,h3,h4,h5⟩
 ·exact .inl h
 ·exact .inr ⟨b,xs,h1,h2,h3,(hg.block b (Fresh.row_lt h4) (fun e => by cases e; exact hm xs h4)).trans h4,h5⟩
theorem FG.below (h : FG F G w ad cap) (hb : Below w.heap.size w w') : FG F G w' ad cap:=h.keep (keep_below (F:=G) (G:=G) hb) (.inl (Nat.le_refl _))
theorem NG.limb (h : NG F G w ad n cp a l c) (hr : Row w b xs) (z : Int) : NG F G (w.setCell ⟨b,i,none⟩ (.int .u32 z)) ad n cp a l c:=by
 refine ⟨?_,h.2.1,fg_set h.2.2 hr z⟩
 rcases h.1 with h1 | ⟨g,L,e,h2,h3,h4,h5,h6,h7,h8⟩
 ·exact .inl h1
 ·exact .inr ⟨g,L,e,h2,h3,h4.grown (gb_set w b i (.int .u32 z)) (rb_row h4 hr),h5,h6,h7,fun x hx => ⟨(h8 x hx).1,fg_set (h8 x hx).2 hr z⟩⟩
theorem ab_row {p : Nat} (h : AB w p kd sd ad ld cd ap np cp sk ak lk ck) (hr : Row w b xs) : p ≠ b:=by
 rintro rfl
 exact Fx.nr_ab h xs hr
theorem ab_limb {p : Nat} (h : AB w p kd sd ad ld cd ap np cp sk ak lk ck) (hr : Row w b xs) (z : Int) : AB (w.setCell ⟨b,i,none⟩ (.int .u32 z)) p kd sd ad ld cd ap np cp sk ak lk ck:=h.neq (gb_set w b i (.int .u32 z)) (ab_row h hr)
def OQ (F G : Nat) (wb w : World) (g : Nat) (L : List Raw) (cp : Nat) (a : Option Addr) (c : Nat) : Prop :=
 FG F G w a c∧Keep F G wb w∧F≤g∧g < G∧RB w g L∧L.length = cp∧∀ x ∈ L,x.l≤x.c∧FG F G w x.a x.c
def OV (F G : Nat) (wb w : World) (ad : Option Addr) (cp : Nat) (a : Option Addr) (c : Nat) : Prop :=
 (cp = 0∧FG F G w a c∧Keep F G wb w) ∨ ∃ g L,ad = some ⟨g,0,none⟩∧OQ F G wb w g L cp a c
theorem OV.tb (h : OV F G wb w ad cp a c) : FG F G w a c∧Keep F G wb w:=by
 rcases h with h | ⟨g,L,rfl,h⟩
 ·exact h.2
 ·exact ⟨h.1,h.2.1⟩
theorem OQ.limb (h : OQ F G wb w g L cp a c) (hr : Row w b xs) (hb : F≤b∧b < G) (z : Int) : OQ F G wb (w.setCell ⟨b,i,none⟩ (.int .u32 z)) g L cp a c:=by
 have hg:=gb_set w b i (.int .u32 z)
 obtain ⟨h2,h3,h4,h5,h6,h7,h8⟩:=h
 exact ⟨fg_set h2 hr z,h3.trans (keep_grown hg hb),h4,h5,h6.grown hg (rb_row h6 hr),h7,fun x hx => ⟨(h8 x hx).1,fg_set (h8 x hx).2 hr z⟩⟩
theorem OV.limb (h : OV F G wb w ad cp a c) (hr : Row w b xs) (hb : F≤b∧b < G) (z : Int) : OV F G wb (w.setCell ⟨b,i,none⟩ (.int .u32 z)) ad cp a c:=by
 have hg:=gb_set w b i (.int .u32 z)
 rcases h with ⟨h0,h2,h3⟩ | ⟨g,L,e,h⟩
 ·exact .inl ⟨h0,fg_set h2 hr z,h3.trans (keep_grown hg hb)⟩
 ·exact .inr ⟨g,L,e,h.limb hr hb z⟩
theorem part_gb (w : World) (g t : Nat) : w.grownBy (((w.setCell ⟨g,t * 3,none⟩ (.int .i64 (-9))).setCell ⟨g,t * 3 + 1,none⟩ (.bool false)).setCell ⟨g,t * 3 + 2,none⟩ (.slice none 0 0)) (some g):=gb_trans (gb_trans (gb_set _ _ _ _) (gb_set _ _ _ _)) (gb_set _ _ _ _)
theorem OQ.part {t : Nat} (h : OQ F G wb w g L cp a c) (ht : t < cp) :
  OQ F G wb (((w.setCell ⟨g,t * 3,none⟩ (.int .i64 (-9))).setCell ⟨g,t * 3 + 1,none⟩ (.bool false)).setCell ⟨g,t * 3 + 2,none⟩ (.slice none 0 0)) g (L.set t z9) cp a c:=by
 have hg:=part_gb w g t
 obtain ⟨h2,h3,h4,h5,h6,h7,h8⟩:=h
 have hn:=Fresh.nr_rb h6
 refine ⟨h2.grownN hg hn,h3.trans (keep_grown hg ⟨h4,h5⟩),h4,h5,rb_set3 h6 (by omega) z9,by rw [List.length_set]; exact h7,fun x hx => ?_⟩
 rcases List.mem_or_eq_of_mem_set hx with h | rfl
 ·exact ⟨(h8 x h).1,(h8 x h).2.grownN hg hn⟩
 ·exact ⟨Nat.le_refl _,.inl ⟨rfl,rfl⟩⟩

set_option maxRecDepth 100000 in
set_option maxHeartbeats 1600000 in
theorem over6_n (hlc : ld≤cd) (hD : FG F G w ad cd) (h : NG F G w ap np cp ak lk ck) :
  Calls Tryz.prog 12 #[.agg #[.int .i64 kd,.bool sd,.slice ad ld cd,.slice ap np cp,.bool sk,.slice ak lk ck]] w fun e w' => (∃ v,e = .returned v)∧Keep F G w w':=by
 go_enter Tryz.func12,Tryz.ntmps12
 go_wp2_with fail
 have x:=AB.new w kd sd ad ld cd ap np cp sk ak lk ck
 have b0:=below_alloc w (.cells #[.int .i64 kd,.bool sd,.slice ad ld cd,.slice ap np cp,.bool sk,.slice ak lk ck] 29)
 replace h:=h.below b0
 replace hD:=hD.below b0
 have kb : Hid (Keep F G w (w.alloc (.cells #[.int .i64 kd,.bool sd,.slice ad ld cd,.slice ap np cp,.bool sk,.slice ak lk ck] 29))):=keep_below b0
 clear b0
 generalize w.alloc (.cells #[.int .i64 kd,.bool sd,.slice ad ld cd,.slice ap np cp,.bool sk,.slice ak lk ck] 29) = wb at *
 generalize hp : w.heap.size = p at *
 replace hp:=hide hp
 have hI : Hid (AB wb p kd sd ad ld cd ap np cp sk ak lk ck∧FG F G wb ad cd∧NG F G wb ap np cp ak lk ck∧Keep F G wb wb):=⟨x,hD,h,Keep.refl _ _ _⟩
 clear x hD h
 go_loopw [2] (fun i wr => ∃ t : Nat,t≤ld∧i = .int .i64 t∧Hid (AB wr p kd sd ad ld cd ap np cp sk ak lk ck∧FG F G wr ad cd∧NG F G wr ap np cp ak lk ck∧Keep F G wb wr)) (fun i _ => ld - (intOf i).toNat)
 case atStart => exact ⟨0,Nat.zero_le _,rfl,hI⟩
 case round =>
  obtain ⟨t,ht,rfl,hO⟩:=hrel
  obtain ⟨x,hD,h,hK⟩:=hO.out
  have e2:=x.c2
  by_cases htl : t < ld
  ·rcases hD with ⟨h1,h2⟩ | ⟨b,zs,h1,h2,h3,h4,h5,h6⟩
   ·omega
   have hnext : Hid (AB (wr.setCell ⟨b,t,none⟩ (.int .u32 9)) p kd sd ad ld cd ap np cp sk ak lk ck∧FG F G (wr.setCell ⟨b,t,none⟩ (.int .u32 9)) ad cd∧NG F G (wr.setCell ⟨b,t,none⟩ (.int .u32 9)) ap np cp ak lk ck∧Keep F G wb (wr.setCell ⟨b,t,none⟩ (.int .u32 9))) :=
    ⟨ab_limb x h4 9,fg_set (.inr ⟨b,zs,h1,h2,h3,h4,h5,h6⟩) h4 9,h.limb h4 9,hK.trans (keep_grown (gb_set _ _ _ _) ⟨h2,h3⟩)⟩
   have e3:=h4.cell (i:=t) (by omega)
   have e4:=h4.frozen t
   subst h1
   generalize lz zs t = zk at e3
   clear h4 x h hK hO
   go_wp2_with fail
   exact ⟨⟨t + 1,by omega,by go_num,hnext⟩,by simp [intOf]; omega⟩
  ·obtain rfl : ld = t:=by omega
   have e3:=x.c3
   obtain ⟨hP,hlk,hKk⟩:=h
   have hI : OV F G wr wr ap cp ak ck:=by
    rcases hP with ⟨h1,h2,h3⟩ | ⟨g,L,rfl,h2,h3,h4,h5,h6,h7,h8⟩
    ·exact .inl ⟨h3,hKk,Keep.refl _ _ _⟩
    ·exact .inr ⟨g,L,rfl,hKk,Keep.refl _ _ _,h2,h3,h4,h5,h8⟩
   have hnp : np≤cp:=by
    rcases hP with ⟨_,h2,h3⟩ | ⟨_,_,_,_,_,_,_,h6,_,_⟩
    ·omega
    ·exact h6
   have hcm : cp≤9223372036854775807:=by
    rcases hP with ⟨_,_,h3⟩ | ⟨_,_,_,_,_,_,_,_,h7,_⟩
    ·omega
    ·unfold maxLen at h7; omega
   have kb2:=hide (kb.out.trans hK)
   replace hI : Hid (AB wr p kd sd ad ld cd ap np cp sk ak lk ck∧OV F G wr wr ap cp ak ck):=⟨x,hI⟩
   clear hP hKk hD hK kb hO x
   go_wp2_with fail
   clear e2 e3
   generalize wr = wr0 at *
   go_loopw [4] (fun i wr => ∃ t : Nat,t≤cp∧i = .int .i64 t∧Hid (AB wr p kd sd ad ld cd ap np cp sk ak lk ck∧OV F G wr0 wr ap cp ak ck)) (fun i _ => cp - (intOf i).toNat)
   case atStart => exact ⟨0,Nat.zero_le _,rfl,hI⟩
   case round =>
    obtain ⟨t,ht,rfl,hO⟩:=hrel
    by_cases htc : t < cp
    ·obtain ⟨x,hV⟩:=hO.out
     rcases hV with h0 | ⟨g,L,rfl,hQ⟩
     ·omega
     have htL : t < L.length:=by have:=hQ.2.2.2.2.2.1; omega
     have c2:=hQ.2.2.2.2.1.c2 htL
     have hxl:=(hQ.2.2.2.2.2.2 L[t] (List.getElem_mem htL)).1
     generalize hxr : L[t] = xr at *
     replace hxr:=hide hxr
     have hQ2 : Hid (AB wr p kd sd ad ld cd (some ⟨g,0,none⟩) np cp sk ak lk ck∧OQ F G wr0 wr g L cp ak ck):=⟨x,hQ⟩
     clear hO x hQ
     go_wp2_with fail
     clear c2
     go_loopw [5] (fun i wr => ∃ k : Nat,k≤xr.l∧i = .int .i64 k∧Hid (AB wr p kd sd ad ld cd (some ⟨g,0,none⟩) np cp sk ak lk ck∧OQ F G wr0 wr g L cp ak ck)) (fun i _ => xr.l - (intOf i).toNat)
     case atStart => exact ⟨0,Nat.zero_le _,rfl,hQ2⟩
     case round =>
      obtain ⟨k,hk,rfl,hO2⟩:=hrel
      have hR:=hO2.out.2.2.2.2.2.1
      have e2:=hxr.out ▸ hR.c2 htL
      by_cases hkl : k < xr.l
      ·rcases hxr.out ▸ (hO2.out.2.2.2.2.2.2.2 L[t] (List.getElem_mem htL)).2 with ⟨h1,h2⟩ | ⟨b,zs,h1,h2,h3,h4,h5,h6⟩
       ·omega
       have hnext:=hide (And.intro (ab_limb (i:=k) hO2.out.1 h4 9) (hO2.out.2.limb (i:=k) h4 ⟨h2,h3⟩ 9))
       have e3:=h4.cell (i:=k) (by omega)
       have e4:=h4.frozen k
       rw [h1] at e2
       generalize lz zs k = zk at e3
       clear hR h4
       go_wp2_with fail
       exact ⟨⟨k + 1,by omega,by go_num,hnext⟩,by simp [intOf]; omega⟩
      ·obtain rfl : k = xr.l:=by omega
       have hne : p ≠ g:=fun e => (Fx.rb_cells hR hO2.out.1 (by decide)) e.symm
       have hnext:=hide (And.intro (hO2.out.1.neq (part_gb wr g t) hne) (OQ.part (t:=t) hO2.out.2 htc))
       have e0:=hR.c0 htL
       have e1:=hR.c1 htL
       have f0:=hR.f (t * 3)
       have f1:=hR.f (t * 3 + 1)
       have f2:=hR.f (t * 3 + 2)
       clear hR
       go_wp2_with fail
       exact ⟨⟨t + 1,by omega,by go_num,hnext.out.1,.inr ⟨g,_,rfl,hnext.out.2⟩⟩,by simp [intOf]; omega⟩
    ·obtain rfl : cp = t:=by omega
     go_wp2_with fail
     go_loopw [6] (fun i wr => ∃ k : Nat,k≤lk∧i = .int .i64 k∧Hid (AB wr p kd sd ad ld cd ap np cp sk ak lk ck∧OV F G wr0 wr ap cp ak ck)) (fun i _ => lk - (intOf i).toNat)
     case atStart => exact ⟨0,Nat.zero_le _,rfl,hO⟩
     case round =>
      obtain ⟨k,hk,rfl,hO2⟩:=hrel
      have e2:=hO2.out.1.c5
      by_cases hkl : k < lk
      ·rcases hO2.out.2.tb.1 with ⟨h1,h2⟩ | ⟨b,zs,h1,h2,h3,h4,h5,h6⟩
       ·omega
       have hnext:=hide (And.intro (ab_limb (i:=k) hO2.out.1 h4 9) (hO2.out.2.limb (i:=k) h4 ⟨h2,h3⟩ 9))
       have e3:=h4.cell (i:=k) (by omega)
       have e4:=h4.frozen k
       subst h1
       generalize lz zs k = zk at e3
       clear h4
       go_wp2_with fail
       exact ⟨⟨k + 1,by omega,by go_num,hnext⟩,by simp [intOf]; omega⟩
      ·obtain rfl : k = lk:=by omega
       have kf:=hide (kb2.out.trans hO2.out.2.tb.2)
       go_wp2
       exact ⟨rfl,_,results_none rfl _ _ _,⟨_,rfl⟩,kf.out⟩
end Go.Proofs.YtepdckgfolkjjaaGreatDoor.Ov
