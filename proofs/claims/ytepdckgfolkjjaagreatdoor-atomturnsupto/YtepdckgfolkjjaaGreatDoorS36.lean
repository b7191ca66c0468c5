/-
 Several texts in one: GG,LAtomTurns.
-/
import Derived.Test.YtepdckgfolkjjaaGreatDoorS29
import Derived.Test.YtepdckgfolkjjaaGreatDoorS35
import Derived.Test.YtepdckgfolkjjaaGreatDoorS28
namespace Go.Proofs.YtepdckgfolkjjaaGreatDoor.Tu
open Go.RowKit Go.Sort Go.Shelf
open Tm At
open Ov (Keep FG ng_of fg_of)

variable {f : Atm ⊕ Int} {v uk kd : Int} {us : List (Int × Int)} {w w' : World} {sd sk sd2 sk2 : Bool} {ad ap ak ad2 ap2 ak2 : Option Addr} {ld cd np lk ck B cp ld2 cd2 np2 cp2 lk2 ck2 F B0 F' G' G p : Nat} {e : Ending}
def fo (f : Atm ⊕ Int) : Atm:=match f with
 | .inl f => f
 | .inr _ => ⟨0,0,[],0⟩
def fe (f : Atm ⊕ Int) : Int:=match f with
 | .inl _ => 0
 | .inr e => e
def ngv (f : Atm ⊕ Int) : Atm:=match f with
 | .inl f => negA f
 | .inr _ => ⟨0,0,[],0⟩
def PV (f : Atm ⊕ Int) (v : Int) (us : List (Int × Int)) (uk : Int) (g : Atm) : Prop:=match f with
 | .inl f => ∃ rs,Std rs∧(∀ u,csum rs u = csum (wo v f.ps ++ scl (csum f.ps v) us) u)∧formA f.kind f.d rs (f.k + csum f.ps v * uk) = .inl g
 | .inr _ => g = ⟨0,0,[],0⟩
theorem pv_one {g g' : Atm} (h : PV f v us uk g) (h' : PV f v us uk g') : g = g':=by
 cases f with
 | inl f =>
  obtain ⟨rs,h1,h2,h3⟩:=h
  obtain ⟨rs',h1',h2',h3'⟩:=h'
  obtain rfl:=std_unique h1 h1' (fun u => (h2 u).trans (h2' u).symm)
  exact Sum.inl.inj (h3.symm.trans h3')
 | inr e => exact (show g = _ from h).trans (show g' = _ from h').symm
theorem pv_std {g : Atm} (h : PV f v us uk g) : Std g.ps:=by
 cases f with
 | inl f =>
  obtain ⟨rs,h1,h2,h3⟩:=h
  exact (formA_fit h1 h3).std
 | inr e => rw [show g = _ from h]; exact std_nil
theorem fo_std {d : Int} {qs : List (Int × Int)} {k : Int} (hS : Std qs) : Std (fo (formA kd d qs k)).ps:=by
 cases hf : formA kd d qs k with
 | inl f => exact (formA_fit hS hf).std
 | inr e => exact std_nil
theorem ngv_std {d : Int} {qs : List (Int × Int)} {k : Int} (hS : Std qs) : Std (ngv (formA kd d qs k)).ps:=by
 cases hf : formA kd d qs k with
 | inl f => exact (formA_fit hS hf).neg.std
 | inr e => exact std_nil
structure AV (w : World) (f : Atm) (sd : Bool) (ad : Option Addr) (ld cd : Nat) (ap : Option Addr) (np : Nat) (sk : Bool) (ak : Option Addr) (lk ck : Nat) (B : Nat) : Prop where
 zd : Zn w sd ad ld cd f.d
 hld : ld≤B
 pn : Pn w ap np f.ps B
 hnp : np≤B
 zk : Zn w sk ak lk ck f.k
 hlk : lk≤B
theorem AV.below {f : Atm} (h : AV w f sd ad ld cd ap np sk ak lk ck B) (b : Below w.heap.size w w') : AV w' f sd ad ld cd ap np sk ak lk ck B :=
 ⟨h.zd.below b,h.hld,h.pn.below b,h.hnp,h.zk.below b,h.hlk⟩
theorem AV.mono {f : Atm} {B' : Nat} (h : AV w f sd ad ld cd ap np sk ak lk ck B) (b : B≤B') : AV w f sd ad ld cd ap np sk ak lk ck B' :=
 ⟨h.zd,Nat.le_trans h.hld b,h.pn.mono b,Nat.le_trans h.hnp b,h.zk,Nat.le_trans h.hlk b⟩
theorem av_nil (w : World) (B : Nat) : AV w ⟨0,0,[],0⟩ false none 0 0 none 0 false none 0 0 B:=⟨zn_zero _,Nat.zero_le _,pn_nil _ _ _,Nat.zero_le _,zn_zero _,Nat.zero_le _⟩
theorem av_same {f : Atm} {B2 : Nat} (hS : Std f.ps) (h : AV w f sd ad ld cd ap np sk ak lk ck B) (h2 : AV w f sd2 ad2 ld2 cd2 ap2 np2 sk2 ak2 lk2 ck2 B2) (hB : B≤67108864) (hB2 : B2≤67108864) :
  Calls Tryz.prog 8 #[.agg #[.int .i64 f.kind,.bool sd,.slice ad ld cd,.slice ap np cp,.bool sk,.slice ak lk ck],.agg #[.int .i64 f.kind,.bool sd2,.slice ad2 ld2 cd2,.slice ap2 np2 cp2,.bool sk2,.slice ak2 lk2 ck2]] w fun e w' => e = .returned (.bool true)∧Below w.heap.size w w':=by
 have g:=h.mono hB
 have g2:=h2.mono hB2
 have b1:=h.hnp
 have b2:=h2.hnp
 exact Rf.same6_t hS g.zd g.hld g.pn g.zk g.hlk g2.zd g2.hld g2.pn g2.zk g2.hlk (by omega) (by omega)
theorem xf_nil : Fx.XF F w none 0 0 none 0 0 none 0 0:=⟨Nat.le_refl _,.inl ⟨rfl,rfl⟩,Fx.nw_nil⟩
theorem ngf_av (h : Fx.NGF F w e f B B0) : ∃ sd ad ld cd ap np cp sk ak lk ck,e = .returned (.agg #[.int .i64 (ngv f).kind,.bool sd,.slice ad ld cd,.slice ap np cp,.bool sk,.slice ak lk ck])∧AV w (ngv f) sd ad ld cd ap np sk ak lk ck B∧Fx.XF F w ad ld cd ap np cp ak lk ck:=by
 cases f with
 | inl f =>
  obtain ⟨sd,ad,ld,cd,ap,np,cp,sk,ak,lk,ck,he,h1,h2,h3,h4,h5,h6,_,h8⟩:=h
  exact ⟨sd,ad,ld,cd,ap,np,cp,sk,ak,lk,ck,he,⟨h1,h2,h3,h4,h5,h6⟩,h8⟩
 | inr er => exact ⟨false,none,0,0,none,0,0,false,none,0,0,(show e = _ from h),av_nil _ _,xf_nil⟩
theorem ng_av (h : Go.Proofs.YtepdckgfolkjjaaGreatDoor.NG w e f B B0) : ∃ sd ad ld cd ap np cp sk ak lk ck,e = .returned (.agg #[.int .i64 (ngv f).kind,.bool sd,.slice ad ld cd,.slice ap np cp,.bool sk,.slice ak lk ck])∧AV w (ngv f) sd ad ld cd ap np sk ak lk ck B:=by
 cases f with
 | inl f =>
  obtain ⟨sd,ad,ld,cd,ap,np,cp,sk,ak,lk,ck,he,h1,h2,h3,h4,h5,h6,_⟩:=h
  exact ⟨sd,ad,ld,cd,ap,np,cp,sk,ak,lk,ck,he,h1,h2,h3,h4,h5,h6⟩
 | inr er => exact ⟨false,none,0,0,none,0,0,false,none,0,0,(show e = _ from h),av_nil _ _⟩
theorem ptf_av (h : Fx.PTF F w e f v us uk B B0) : ∃ g,PV f v us uk g∧∃ sd ad ld cd ap np cp sk ak lk ck,e = .returned (.agg #[.int .i64 g.kind,.bool sd,.slice ad ld cd,.slice ap np cp,.bool sk,.slice ak lk ck])∧AV w g sd ad ld cd ap np sk ak lk ck B∧Fx.XF F w ad ld cd ap np cp ak lk ck:=by
 cases f with
 | inl f =>
  obtain ⟨rs,g,r1,r2,r3,sd,ad,ld,cd,ap,np,cp,sk,ak,lk,ck,he,h1,h2,h3,h4,h5,h6,_,h8⟩:=h
  exact ⟨g,⟨rs,r1,r2,r3⟩,sd,ad,ld,cd,ap,np,cp,sk,ak,lk,ck,he,⟨h1,h2,h3,h4,h5,h6⟩,h8⟩
 | inr er => exact ⟨⟨0,0,[],0⟩,rfl,false,none,0,0,none,0,0,false,none,0,0,(show e = _ from h),av_nil _ _,xf_nil⟩
theorem pt_av (h : PT w e f v us uk B B0) : ∃ g,PV f v us uk g∧∃ sd ad ld cd ap np cp sk ak lk ck,e = .returned (.agg #[.int .i64 g.kind,.bool sd,.slice ad ld cd,.slice ap np cp,.bool sk,.slice ak lk ck])∧AV w g sd ad ld cd ap np sk ak lk ck B:=by
 cases f with
 | inl f =>
  obtain ⟨rs,g,r1,r2,r3,sd,ad,ld,cd,ap,np,cp,sk,ak,lk,ck,he,h1,h2,h3,h4,h5,h6,_⟩:=h
  exact ⟨g,⟨rs,r1,r2,r3⟩,sd,ad,ld,cd,ap,np,cp,sk,ak,lk,ck,he,h1,h2,h3,h4,h5,h6⟩
 | inr er => exact ⟨⟨0,0,[],0⟩,rfl,false,none,0,0,none,0,0,false,none,0,0,(show e = _ from h),av_nil _ _⟩
theorem anf_av (h : Fx.ANF F w e f B B0) : ∃ sd ad ld cd ap np cp sk ak lk ck,e = .returned (.tuple #[.agg #[.int .i64 (fo f).kind,.bool sd,.slice ad ld cd,.slice ap np cp,.bool sk,.slice ak lk ck],.int .i64 (fe f)])∧AV w (fo f) sd ad ld cd ap np sk ak lk ck B∧Fx.XF F w ad ld cd ap np cp ak lk ck:=by
 cases f with
 | inl f =>
  obtain ⟨sd,ad,ld,cd,ap,np,cp,sk,ak,lk,ck,he,h1,h2,h3,h4,h5,h6,_,h8⟩:=h
  exact ⟨sd,ad,ld,cd,ap,np,cp,sk,ak,lk,ck,he,⟨h1,h2,h3,h4,h5,h6⟩,h8⟩
 | inr er => exact ⟨false,none,0,0,none,0,0,false,none,0,0,(show e = _ from h),av_nil _ _,xf_nil⟩
structure LV (F : Nat) (w : World) (f : Atm) (sd : Bool) (ad : Option Addr) (ld cd : Nat) (ap : Option Addr) (np : Nat) (sk : Bool) (ak : Option Addr) (lk ck : Nat) (B : Nat) : Prop where
 zd : Low.Zn F w sd ad ld cd f.d
 hld : ld≤B
 pn : Low.Pn F w ap np f.ps B
 hnp : np≤B
 zk : Low.Zn F w sk ak lk ck f.k
 hlk : lk≤B
 hnew : ∀ b off,ap = some ⟨b,off,none⟩→F≤b
theorem LV.av {f : Atm} (h : LV F w f sd ad ld cd ap np sk ak lk ck B) : AV w f sd ad ld cd ap np sk ak lk ck B:=⟨h.zd.old,h.hld,h.pn.old,h.hnp,h.zk.old,h.hlk⟩
theorem LV.below {f : Atm} (h : LV F w f sd ad ld cd ap np sk ak lk ck B) (b : Below w.heap.size w w') : LV F w' f sd ad ld cd ap np sk ak lk ck B :=
 ⟨h.zd.below b,h.hld,h.pn.below b,h.hnp,h.zk.below b,h.hlk,h.hnew⟩
theorem lan_av (h : Low.AN F w e f B F) : ∃ sd ad ld cd ap np cp sk ak lk ck,e = .returned (.tuple #[.agg #[.int .i64 (fo f).kind,.bool sd,.slice ad ld cd,.slice ap np cp,.bool sk,.slice ak lk ck],.int .i64 (fe f)])∧LV F w (fo f) sd ad ld cd ap np sk ak lk ck B:=by
 cases f with
 | inl f =>
  obtain ⟨sd,ad,ld,cd,ap,np,cp,sk,ak,lk,ck,he,h1,h2,h3,h4,h5,h6,h7⟩:=h
  exact ⟨sd,ad,ld,cd,ap,np,cp,sk,ak,lk,ck,he,h1,h2,h3,h4,h5,h6,h7⟩
 | inr er => exact ⟨false,none,0,0,none,0,0,false,none,0,0,(show e = _ from h),Low.zn_zero _,Nat.zero_le _,Low.pn_nil _ _ _,Nat.zero_le _,Low.zn_zero _,Nat.zero_le _,fun _ _ h => by cases h⟩
theorem rd_keep {a : Option Addr} {l c : Nat} {zs : List Int} (h : Rd w a l c zs) (hl : Lw.Lo F a l) (hk : Keep F' G' w w') (hG : G'≤F) : Rd w' a l c zs:=by
 obtain ⟨h1,h2,h3,h4,h5⟩:=h
 refine ⟨h1,h2,h3,h4,?_⟩
 rcases h5 with h5 | ⟨a',ha,h5 | ⟨b,off,rfl,hb,h5⟩⟩
 ·exact .inl h5
 ·exact .inr ⟨a',ha,.inl h5⟩
 ·refine .inr ⟨_,ha,?_⟩
  rcases hl with h0 | ⟨b2,o2,e2,hF⟩
  ·exact .inl h0
  ·rw [ha] at e2
   cases e2
   refine .inr ⟨b,off,rfl,Nat.lt_of_lt_of_le hb hk.size,fun i hi => ?_⟩
   rw [← h5 i hi]
   exact World.cell?_of_block (hk.block b hb (by omega))
theorem zn_keep {s : Bool} {a : Option Addr} {l c : Nat} {z : Int} (h : Low.Zn F w s a l c z) (hk : Keep F' G' w w') (hG : G'≤F) : Low.Zn F w' s a l c z:=by
 obtain ⟨⟨n,⟨zs,h1,h2,h3⟩,h4⟩,h5⟩:=h
 exact ⟨⟨n,⟨zs,rd_keep h1 h5 hk hG,h2,h3⟩,h4⟩,h5⟩
theorem LV.keep {f : Atm} (h : LV F w f sd ad ld cd ap np sk ak lk ck B) (hk : Keep F' G' w w') (hG : G'≤F) : LV F w' f sd ad ld cd ap np sk ak lk ck B:=by
 refine ⟨zn_keep h.zd hk hG,h.hld,⟨h.pn.1,?_⟩,h.hnp,zn_keep h.zk hk hG,h.hlk,h.hnew⟩
 rcases h.pn.2 with h2 | ⟨b,off,e,hb,h2⟩
 ·exact .inl h2
 ·have hF:=h.hnew b off e
  have eb:=hk.block b hb (by omega)
  refine .inr ⟨b,off,e,Nat.lt_of_lt_of_le hb hk.size,fun i hi => ?_⟩
  obtain ⟨s,a,l,c,e0,e1,e2,hz,hl⟩:=h2 i hi
  exact ⟨s,a,l,c,(World.cell?_of_block (a:=⟨b,off + i * 3,none⟩) eb).trans e0,(World.cell?_of_block (a:=⟨b,off + i * 3 + 1,none⟩) eb).trans e1,(World.cell?_of_block (a:=⟨b,off + i * 3 + 2,none⟩) eb).trans e2,zn_keep hz hk hG,hl⟩
def OX (F G : Nat) (w : World) (ad : Option Addr) (ld cd : Nat) (ap : Option Addr) (np cp : Nat) (ak : Option Addr) (lk ck : Nat) : Prop:=ld≤cd∧FG F G w ad cd∧Ov.NG F G w ap np cp ak lk ck
theorem ox_of (h : Fx.XF F w ad ld cd ap np cp ak lk ck) : OX F w.heap.size w ad ld cd ap np cp ak lk ck:=⟨h.1,fg_of h.2.1,ng_of h.2.2⟩
theorem OX.below (h : OX F G w ad ld cd ap np cp ak lk ck) (hb : Below w.heap.size w w') : OX F G w' ad ld cd ap np cp ak lk ck:=⟨h.1,h.2.1.below hb,h.2.2.below hb⟩
theorem OX.keep (h : OX F G w ad ld cd ap np cp ak lk ck) (hk : Keep F' G' w w') (hG : G'≤F) : OX F G w' ad ld cd ap np cp ak lk ck:=⟨h.1,h.2.1.keep hk (.inr hG),h.2.2.keep hk (.inr hG)⟩
theorem xf_new (h : Fx.XF F w ad ld cd ap np cp ak lk ck) : ∀ b off,ap = some ⟨b,off,none⟩→F≤b:=by
 intro b off e
 obtain ⟨L,h1, -⟩:=h.2.2
 rcases h1 with ⟨h1,_⟩ | ⟨g,h1,hg,_⟩
 ·simp at h1; rw [h1.1] at e; cases e
 ·simp at h1; rw [h1] at e; simp at e; omega
theorem ab_keep (h : AB w p kd sd ad ld cd ap np cp sk ak lk ck) (hk : Keep F G w w') (hp : ¬ (F≤p∧p < G)) : AB w' p kd sd ad ld cd ap np cp sk ak lk ck:=(hk.block p h.lt hp).trans h
theorem keep_old {w0 : World} (h : Below w0.heap.size w0 w) (hk : Keep F G w w') (hB : w0.heap.size≤F) : Below w0.heap.size w0 w' :=
 ⟨hk.os.trans h.os,hk.tape.trans h.tape,hk.output.trans h.output,Nat.le_trans h.size hk.size,fun k hkl => (hk.block k (Nat.lt_of_lt_of_le hkl h.size) (by omega)).trans (h.block k hkl)⟩
theorem s12 {q : Nat} {kd2 : Int} (x : AB w p kd sd ad ld cd ap np cp sk ak lk ck) (y : AB w q kd2 sd2 ad2 ld2 cd2 ap2 np2 cp2 sk2 ak2 lk2 ck2) (k : Below w.heap.size w w') :
  w'.cell? ⟨p,0,none⟩ = some (.int .i64 kd)∧w'.cell? ⟨p,1,none⟩ = some (.bool sd)∧w'.cell? ⟨p,2,none⟩ = some (.slice ad ld cd)∧w'.cell? ⟨p,3,none⟩ = some (.slice ap np cp)∧w'.cell? ⟨p,4,none⟩ = some (.bool sk)∧w'.cell? ⟨p,5,none⟩ = some (.slice ak lk ck)∧w'.cell? ⟨q,0,none⟩ = some (.int .i64 kd2)∧w'.cell? ⟨q,1,none⟩ = some (.bool sd2)∧w'.cell? ⟨q,2,none⟩ = some (.slice ad2 ld2 cd2)∧w'.cell? ⟨q,3,none⟩ = some (.slice ap2 np2 cp2)∧w'.cell? ⟨q,4,none⟩ = some (.bool sk2)∧w'.cell? ⟨q,5,none⟩ = some (.slice ak2 lk2 ck2)∧Below w.heap.size w w':=by
 have x':=x.below k
 have y':=y.below k
 exact ⟨x'.c0,x'.c1,x'.c2,x'.c3,x'.c4,x'.c5,y'.c0,y'.c1,y'.c2,y'.c3,y'.c4,y'.c5,k⟩
theorem s15 {q t : Nat} {kd2 : Int} {apu : Option Addr} {nu cpu : Nat} {su : Bool} {au : Option Addr} {lu cu : Nat} (x : AB w p kd sd ad ld cd ap np cp sk ak lk ck) (y : AB w q kd2 sd2 ad2 ld2 cd2 ap2 np2 cp2 sk2 ak2 lk2 ck2) (z : TB w t apu nu cpu su au lu cu) (k : Below w.heap.size w w') :
  w'.cell? ⟨p,0,none⟩ = some (.int .i64 kd)∧w'.cell? ⟨p,1,none⟩ = some (.bool sd)∧w'.cell? ⟨p,2,none⟩ = some (.slice ad ld cd)∧w'.cell? ⟨p,3,none⟩ = some (.slice ap np cp)∧w'.cell? ⟨p,4,none⟩ = some (.bool sk)∧w'.cell? ⟨p,5,none⟩ = some (.slice ak lk ck)∧w'.cell? ⟨q,0,none⟩ = some (.int .i64 kd2)∧w'.cell? ⟨q,1,none⟩ = some (.bool sd2)∧w'.cell? ⟨q,2,none⟩ = some (.slice ad2 ld2 cd2)∧w'.cell? ⟨q,3,none⟩ = some (.slice ap2 np2 cp2)∧w'.cell? ⟨q,4,none⟩ = some (.bool sk2)∧w'.cell? ⟨q,5,none⟩ = some (.slice ak2 lk2 ck2)∧w'.cell? ⟨t,0,none⟩ = some (.slice apu nu cpu)∧w'.cell? ⟨t,1,none⟩ = some (.bool su)∧w'.cell? ⟨t,2,none⟩ = some (.slice au lu cu)∧Below w.heap.size w w':=by
 have x':=x.below k
 have y':=y.below k
 have z':=z.below k
 exact ⟨x'.c0,x'.c1,x'.c2,x'.c3,x'.c4,x'.c5,y'.c0,y'.c1,y'.c2,y'.c3,y'.c4,y'.c5,z'.c0,z'.c1,z'.c2,k⟩
end Go.Proofs.YtepdckgfolkjjaaGreatDoor.Tu

namespace Go.Proofs.YtepdckgfolkjjaaGreatDoor
open Go.RowKit Go.Sort Go.Shelf
open Tm At Tu

set_option maxRecDepth 100000 in
set_option maxHeartbeats 6400000 in
theorem atomTurns_walk {w : World} {kd : Int} {sd : Bool} {ad : Option Addr} {ld cd : Nat} {ap : Option Addr} {np cp : Nat} {sk : Bool} {ak : Option Addr} {lk ck : Nat} {d k : Int} {ps : List (Int × Int)} {B : Nat} {v : Int} {apu : Option Addr} {nu cpu : Nat} {su : Bool} {au : Option Addr} {lu cu : Nat} {us : List (Int × Int)} {uk : Int}
  (hd : Zm w sd ad ld cd d) (hld : ld≤B) (hP : Pr w ap np ps B) (hk : Zm w sk ak lk ck k) (hlk : lk≤B) (hv : I64 v) (hPu : Pr w apu nu us B) (hku : Zm w su au lu cu uk) (hlu : lu≤B) (hn : np + nu≤209716) (hB : B≤1048576) (htab : Tab w) :
  Calls Tryz.prog 3 #[.agg #[.int .i64 kd,.bool sd,.slice ad ld cd,.slice ap np cp,.bool sk,.slice ak lk ck],.int .i64 v,.agg #[.slice apu nu cpu,.bool su,.slice au lu cu]] w fun x w' => x = .returned (.bool true)∧Below w.heap.size w w':=by
 go_enter Tryz.func3,Tryz.ntmps3
 go_wp2_with fail
 have r:=(AB.new w kd sd ad ld cd ap np cp sk ak lk ck).below (below_alloc _ (.cells #[.slice apu nu cpu,.bool su,.slice au lu cu] 27))
 have t:=tb_new (w.alloc (.cells #[.int .i64 kd,.bool sd,.slice ad ld cd,.slice ap np cp,.bool sk,.slice ak lk ck] 29)) apu nu cpu su au lu cu
 have b0 : Below w.heap.size w ((w.alloc (.cells #[.int .i64 kd,.bool sd,.slice ad ld cd,.slice ap np cp,.bool sk,.slice ak lk ck] 29)).alloc (.cells #[.slice apu nu cpu,.bool su,.slice au lu cu] 27)):=below_alloc' (below_alloc _ _) _
 rw [show (w.alloc (.cells #[.int .i64 kd,.bool sd,.slice ad ld cd,.slice ap np cp,.bool sk,.slice ak lk ck] 29)).heap.size = w.heap.size + 1 from by simp] at t
 generalize (w.alloc (.cells #[.int .i64 kd,.bool sd,.slice ad ld cd,.slice ap np cp,.bool sk,.slice ak lk ck] 29)).alloc (.cells #[.slice apu nu cpu,.bool su,.slice au lu cu] 27) = wb at *
 replace htab:=htab.below b0
 have hR0 : Hid (Zm w sd ad ld cd d∧Pr w ap np ps B∧Zm w sk ak lk ck k∧Pr w apu nu us B∧Zm w su au lu cu uk):=⟨hd,hP,hk,hPu,hku⟩
 clear hd hP hk hPu hku
 generalize hp : w.heap.size = p at *
 replace b0 : Hid (Below w.heap.size w wb):=hp ▸ b0
 replace hp:=hide hp
 generalize hpt : p + 1 = pt at *
 replace hpt:=hide hpt
 have HS:=hide (fo_std (kd:=kd) (d:=d) (k:=k) (std_lays ps))
 have HSN:=hide (ngv_std (kd:=kd) (d:=d) (k:=k) (std_lays ps))
 generalize hFA : formA kd d (nz (lays [] ps)) k = FA at *
 replace hFA:=hide hFA
 refine (Fp.awake6_n wb htab).mono ?_
 rintro e w1 ⟨rfl,k1⟩
 have kk:=hide (grow_step k1 b0.out)
 replace r:=r.below k1
 replace t:=t.below k1
 have hr1:=r.lt
 have ht1:=t.lt
 clear k1 b0 htab
 have e0:=r.c0
 have e1:=r.c1
 have e2:=r.c2
 have e3:=r.c3
 have e4:=r.c4
 have e5:=r.c5
 go_wp2_with fail
 clear e0 e1 e2 e3 e4 e5
 refine (Fx.anegate_n (Fw:=w1.heap.size) (Nat.le_refl _) (hR0.out.1.below kk.out) hld (hR0.out.2.1.below kk.out) (hR0.out.2.2.1.below kk.out) hlk (by omega) (by omega)).mono ?_
 rintro e w2 ⟨qs,hS,hc,hN,k2⟩
 obtain rfl : qs = nz (lays [] ps):=std_unique hS (std_lays ps) (fun v => (hc v).trans (csum_nzl ps v).symm)
 rw [hFA.out] at hN
 obtain ⟨sdN,adN,ldN,cdN,apN,npN,cpN,skN,akN,lkN,ckN,rfl,hNA,hNX⟩:=ngf_av hN
 replace hNX:=ox_of hNX
 have n:=AB.new w2 (ngv FA).kind sdN adN ldN cdN apN npN cpN skN akN lkN ckN
 have ka:=below_alloc w2 (.cells #[.int .i64 (ngv FA).kind,.bool sdN,.slice adN ldN cdN,.slice apN npN cpN,.bool skN,.slice akN lkN ckN] 29)
 replace r:=(r.below k2).below ka
 replace t:=(t.below k2).below ka
 replace hNA:=hNA.below ka
 replace hNX:=hNX.below ka
 have hs1:=k2.size
 replace kk:=hide (grow_step ka (grow_step k2 kk.out))
 clear hS hc hN k2 ka
 have u0:=t.c0
 have u1:=t.c1
 have u2:=t.c2
 have e0:=r.c0
 have e1:=r.c1
 have e2:=r.c2
 have e3:=r.c3
 have e4:=r.c4
 have e5:=r.c5
 have HH:=hide (And.intro r (And.intro t (And.intro n (And.intro hNA hNX))))
 clear r t n hNA hNX
 go_wp2_with fail
 obtain ⟨r,t,n,hNA,hNX⟩:=HH.out
 clear HH e0 e1 e2 e3 e4 e5 u0 u1 u2
 generalize hw3 : w2.alloc (.cells #[.int .i64 (ngv FA).kind,.bool sdN,.slice adN ldN cdN,.slice apN npN cpN,.bool skN,.slice akN lkN ckN] 29) = w3 at *
 have hs3 : w3.heap.size = w2.heap.size + 1:=by rw [← hw3]; simp
 clear hw3
 generalize hF1 : w1.heap.size = F1 at *
 generalize hG1 : w2.heap.size = G1 at *
 refine (Fx.aput_n (Fw:=w3.heap.size) (Nat.le_refl _) (hR0.out.1.below kk.out) hld (hR0.out.2.1.below kk.out) (hR0.out.2.2.1.below kk.out) hlk hv (hR0.out.2.2.2.1.below kk.out) (hR0.out.2.2.2.2.below kk.out) hlu (by omega) (by omega)).mono ?_
 rintro e w4 ⟨qs,hS,hc,hN,k4⟩
 obtain rfl : qs = nz (lays [] ps):=std_unique hS (std_lays ps) (fun v => (hc v).trans (csum_nzl ps v).symm)
 rw [hFA.out] at hN
 obtain ⟨gp,hPV,sdP,adP,ldP,cdP,apP,npP,cpP,skP,akP,lkP,ckP,rfl,hPA,hPX⟩:=ptf_av hN
 replace hPX:=ox_of hPX
 have q:=AB.new w4 gp.kind sdP adP ldP cdP apP npP cpP skP akP lkP ckP
 have ka:=below_alloc w4 (.cells #[.int .i64 gp.kind,.bool sdP,.slice adP ldP cdP,.slice apP npP cpP,.bool skP,.slice akP lkP ckP] 29)
 replace r:=(r.below k4).below ka
 replace t:=(t.below k4).below ka
 replace n:=(n.below k4).below ka
 replace hNA:=(hNA.below k4).below ka
 replace hNX:=(hNX.below k4).below ka
 replace hPA:=hPA.below ka
 replace hPX:=hPX.below ka
 have hs4:=k4.size
 replace kk:=hide (grow_step ka (grow_step k4 kk.out))
 clear hS hc hN k4 ka
 have HH:=hide (And.intro r (And.intro t (And.intro n (And.intro hNA (And.intro hNX (And.intro q (And.intro hPA hPX)))))))
 clear r t n hNA hNX q hPA hPX
 replace hPV:=hide hPV
 go_wp2_with fail
 obtain ⟨r,t,n,hNA,hNX,q,hPA,hPX⟩:=HH.out
 clear HH
 generalize hw5 : w4.alloc (.cells #[.int .i64 gp.kind,.bool sdP,.slice adP ldP cdP,.slice apP npP cpP,.bool skP,.slice akP lkP ckP] 29) = w5 at *
 have hs5 : w5.heap.size = w4.heap.size + 1:=by rw [← hw5]; simp
 clear hw5
 generalize hG2 : w4.heap.size = G2 at *
 go_region_held3 (fun w' => w'.cell? ⟨G1,0,none⟩ = some (.int .i64 (ngv FA).kind)∧w'.cell? ⟨G1,1,none⟩ = some (.bool sdN)∧w'.cell? ⟨G1,2,none⟩ = some (.slice adN ldN cdN)∧w'.cell? ⟨G1,3,none⟩ = some (.slice apN npN cpN)∧w'.cell? ⟨G1,4,none⟩ = some (.bool skN)∧w'.cell? ⟨G1,5,none⟩ = some (.slice akN lkN ckN)∧w'.cell? ⟨p,0,none⟩ = some (.int .i64 kd)∧w'.cell? ⟨p,1,none⟩ = some (.bool sd)∧w'.cell? ⟨p,2,none⟩ = some (.slice ad ld cd)∧w'.cell? ⟨p,3,none⟩ = some (.slice ap np cp)∧w'.cell? ⟨p,4,none⟩ = some (.bool sk)∧w'.cell? ⟨p,5,none⟩ = some (.slice ak lk ck)∧Below w5.heap.size w5 w')
  ((refine s12 n r ?_; (with_reducible repeat' first | exact Below.refl _ _ | assumption | refine grow_step (by assumption) ?_ | refine grow_drew ?_ | refine grow_alloc ?_ _ | refine grow_drewN ?_ _)))
  (first | (go_at_call 9; refine Calls.mono (Rf.rnegate6_n (hR0.out.1.below (grow_step (show Below w5.heap.size w5 _ from gw) kk.out)) hld (hR0.out.2.1.below (grow_step (show Below w5.heap.size w5 _ from gw) kk.out)) (hR0.out.2.2.1.below (grow_step (show Below w5.heap.size w5 _ from gw) kk.out)) hlk (by omega) (by omega)) ?_; rintro e wA ⟨hN,kA⟩; rw [hFA.out] at hN; obtain ⟨sdM,adM,ldM,cdM,apM,npM,cpM,skM,akM,lkM,ckM,rfl,hMA⟩:=ng_av hN) | (go_at_call 8; refine Calls.mono (av_same HSN.out (hNA.below gw) (hMA.below gw) (by omega) (by omega)) ?_; rintro e wB ⟨rfl,kB⟩))
 rename_i hH
 obtain ⟨-, -, -, -, -, -, -, -, -, -, -, -,k6⟩:=hH
 replace r:=r.below k6
 replace t:=t.below k6
 replace n:=n.below k6
 replace q:=q.below k6
 replace hNA:=hNA.below k6
 replace hNX:=hNX.below k6
 replace hPA:=hPA.below k6
 replace hPX:=hPX.below k6
 have hs6:=k6.size
 replace kk:=hide (grow_step k6 kk.out)
 clear hMA hN kA kB k6 hNA
 have HH:=hide (And.intro r (And.intro t (And.intro n (And.intro hNX (And.intro q (And.intro hPA hPX))))))
 clear r t n hNX q hPA hPX
 go_wp2_with fail
 obtain ⟨r,t,n,hNX,q,hPA,hPX⟩:=HH.out
 clear HH
 go_region_held3 (fun w' => w'.cell? ⟨G2,0,none⟩ = some (.int .i64 gp.kind)∧w'.cell? ⟨G2,1,none⟩ = some (.bool sdP)∧w'.cell? ⟨G2,2,none⟩ = some (.slice adP ldP cdP)∧w'.cell? ⟨G2,3,none⟩ = some (.slice apP npP cpP)∧w'.cell? ⟨G2,4,none⟩ = some (.bool skP)∧w'.cell? ⟨G2,5,none⟩ = some (.slice akP lkP ckP)∧w'.cell? ⟨p,0,none⟩ = some (.int .i64 kd)∧w'.cell? ⟨p,1,none⟩ = some (.bool sd)∧w'.cell? ⟨p,2,none⟩ = some (.slice ad ld cd)∧w'.cell? ⟨p,3,none⟩ = some (.slice ap np cp)∧w'.cell? ⟨p,4,none⟩ = some (.bool sk)∧w'.cell? ⟨p,5,none⟩ = some (.slice ak lk ck)∧w'.cell? ⟨pt,0,none⟩ = some (.slice apu nu cpu)∧w'.cell? ⟨pt,1,none⟩ = some (.bool su)∧w'.cell? ⟨pt,2,none⟩ = some (.slice au lu cu)∧Below wB.heap.size wB w')
  ((refine s15 q r t ?_; (with_reducible repeat' first | exact Below.refl _ _ | assumption | refine grow_step (by assumption) ?_ | refine grow_drew ?_ | refine grow_alloc ?_ _ | refine grow_drewN ?_ _)))
  (first | (go_at_call 10; refine Calls.mono (Rf.rput6_n (hR0.out.1.below (grow_step (show Below wB.heap.size wB _ from gw) kk.out)) hld (hR0.out.2.1.below (grow_step (show Below wB.heap.size wB _ from gw) kk.out)) (hR0.out.2.2.1.below (grow_step (show Below wB.heap.size wB _ from gw) kk.out)) hlk (hR0.out.2.2.2.1.below (grow_step (show Below wB.heap.size wB _ from gw) kk.out)) (hR0.out.2.2.2.2.below (grow_step (show Below wB.heap.size wB _ from gw) kk.out)) hlu (by omega) (by omega)) ?_; rintro e wC ⟨hN,kC⟩; rw [hFA.out] at hN; obtain ⟨gq,hPV2,sdM,adM,ldM,cdM,apM,npM,cpM,skM,akM,lkM,ckM,rfl,hMA⟩:=pt_av hN; obtain rfl:=pv_one hPV2 hPV.out) | (go_at_call 8; refine Calls.mono (av_same (pv_std hPV.out) (hPA.below gw) (hMA.below gw) (by omega) (by omega)) ?_; rintro e wD ⟨rfl,kD⟩))
 rename_i hH
 obtain ⟨-, -, -, -, -, -, -, -, -, -, -, -, -, -, -,k7⟩:=hH
 replace r:=r.below k7
 replace n:=n.below k7
 replace q:=q.below k7
 replace hNX:=hNX.below k7
 replace hPX:=hPX.below k7
 have hs7:=k7.size
 replace kk:=hide (grow_step k7 kk.out)
 clear hMA hN kC kD k7 hPA t hPV hPV2
 have e0:=r.c0
 have e1:=r.c1
 have e2:=r.c2
 have e3:=r.c3
 have e4:=r.c4
 have e5:=r.c5
 have HH:=hide (And.intro r (And.intro n (And.intro hNX (And.intro q hPX))))
 clear r n hNX q hPX
 go_wp2_with fail
 obtain ⟨r,n,hNX,q,hPX⟩:=HH.out
 clear HH e0 e1 e2 e3 e4 e5
 refine (Rf.rnorm6_t (F:=wD.heap.size) (Nat.le_refl _) (hR0.out.1.below kk.out) hld (hR0.out.2.1.below kk.out) (hR0.out.2.2.1.below kk.out) hlk (by omega) (by omega)).mono ?_
 rintro e w8 ⟨hN,k8⟩
 rw [hFA.out] at hN
 obtain ⟨sdW,adW,ldW,cdW,apW,npW,cpW,skW,akW,lkW,ckW,rfl,hWV⟩:=lan_av hN
 have o:=AB.new w8 (fo FA).kind sdW adW ldW cdW apW npW cpW skW akW lkW ckW
 have ka:=below_alloc w8 (.cells #[.int .i64 (fo FA).kind,.bool sdW,.slice adW ldW cdW,.slice apW npW cpW,.bool skW,.slice akW lkW ckW] 29)
 replace r:=(r.below k8).below ka
 replace n:=(n.below k8).below ka
 replace q:=(q.below k8).below ka
 replace hNX:=(hNX.below k8).below ka
 replace hPX:=(hPX.below k8).below ka
 replace hWV:=hWV.below ka
 have hs8:=k8.size
 replace kk:=hide (grow_step ka (grow_step k8 kk.out))
 clear hN k8 ka
 have e0:=n.c0
 have e1:=n.c1
 have e2:=n.c2
 have e3:=n.c3
 have e4:=n.c4
 have e5:=n.c5
 have HH:=hide (And.intro r (And.intro n (And.intro hNX (And.intro q (And.intro hPX (And.intro o hWV))))))
 clear r n hNX q hPX o hWV
 go_wp2_with fail
 obtain ⟨r,n,hNX,q,hPX,o,hWV⟩:=HH.out
 clear HH e0 e1 e2 e3 e4 e5
 generalize hw9 : w8.alloc (.cells #[.int .i64 (fo FA).kind,.bool sdW,.slice adW ldW cdW,.slice apW npW cpW,.bool skW,.slice akW lkW ckW] 29) = w9 at *
 clear hw9
 generalize w8.heap.size = O at *
 generalize hF3 : wD.heap.size = F3 at *
 refine (Ov.over6_n hNX.1 hNX.2.1 hNX.2.2).mono ?_
 rintro e w10 ⟨⟨ve,rfl⟩,hK1⟩
 replace r:=ab_keep r hK1 (by omega)
 replace q:=ab_keep q hK1 (by omega)
 replace o:=ab_keep o hK1 (by omega)
 replace hPX:=hPX.keep hK1 (by omega)
 replace hWV:=hWV.keep hK1 (by omega)
 have hwF : w.heap.size≤F1:=by have:=hp.out; omega
 replace kk:=hide (keep_old kk.out hK1 hwF)
 clear hNX n hK1
 have e0:=q.c0
 have e1:=q.c1
 have e2:=q.c2
 have e3:=q.c3
 have e4:=q.c4
 have e5:=q.c5
 have HH:=hide (And.intro r (And.intro q (And.intro hPX (And.intro o hWV))))
 clear r q hPX o hWV
 go_wp2_with fail
 obtain ⟨r,q,hPX,o,hWV⟩:=HH.out
 clear HH e0 e1 e2 e3 e4 e5
 refine (Ov.over6_n hPX.1 hPX.2.1 hPX.2.2).mono ?_
 rintro e w11 ⟨⟨ve2,rfl⟩,hK1⟩
 replace r:=ab_keep r hK1 (by omega)
 replace o:=ab_keep o hK1 (by omega)
 replace hWV:=hWV.keep hK1 (by omega)
 replace kk:=hide (keep_old kk.out hK1 (by omega))
 have hWA:=hWV.av
 clear hPX q hK1 hWV
 have e0:=r.c0
 have e1:=r.c1
 have e2:=r.c2
 have e3:=r.c3
 have e4:=r.c4
 have e5:=r.c5
 have HH:=hide (And.intro r (And.intro o hWA))
 clear r o hWA
 go_wp2_with fail
 clear e0 e1 e2 e3 e4 e5
 refine (Fx.anorm_n (Fw:=w11.heap.size) (Nat.le_refl _) (hR0.out.1.below kk.out) hld (hR0.out.2.1.below kk.out) (hR0.out.2.2.1.below kk.out) hlk (by omega) (by omega)).mono ?_
 rintro e w12 ⟨qs,hS,hc,hN,k12⟩
 obtain rfl : qs = nz (lays [] ps):=std_unique hS (std_lays ps) (fun v => (hc v).trans (csum_nzl ps v).symm)
 rw [hFA.out] at hN
 obtain ⟨sdZ,adZ,ldZ,cdZ,apZ,npZ,cpZ,skZ,akZ,lkZ,ckZ,rfl,hMA,hMX⟩:=anf_av hN
 replace hMX:=ox_of hMX
 have m:=AB.new w12 (fo FA).kind sdZ adZ ldZ cdZ apZ npZ cpZ skZ akZ lkZ ckZ
 have ka:=below_alloc w12 (.cells #[.int .i64 (fo FA).kind,.bool sdZ,.slice adZ ldZ cdZ,.slice apZ npZ cpZ,.bool skZ,.slice akZ lkZ ckZ] 29)
 have K11:=hide (grow_step ka k12)
 have hs9:=kk.out.size
 replace kk:=hide (grow_step ka (grow_step k12 kk.out))
 have hs12:=k12.size
 replace hMA:=hMA.below ka
 replace hMX:=hMX.below ka
 obtain ⟨r,o,hWA⟩:=HH.out
 have o2:=o.below K11.out
 clear hS hc hN k12 ka
 have e0:=m.c0
 have e1:=m.c1
 have e2:=m.c2
 have e3:=m.c3
 have e4:=m.c4
 have e5:=m.c5
 have f0:=o2.c0
 have f1:=o2.c1
 have f2:=o2.c2
 have f3:=o2.c3
 have f4:=o2.c4
 have f5:=o2.c5
 have HJ:=hide (And.intro m (And.intro hMA hMX))
 clear r o hWA m hMA hMX o2
 go_wp2_with fail
 obtain ⟨m,hMA,hMX⟩:=HJ.out
 clear HJ e0 e1 e2 e3 e4 e5 f0 f1 f2 f3 f4 f5
 generalize hw13 : w12.alloc (.cells #[.int .i64 (fo FA).kind,.bool sdZ,.slice adZ ldZ cdZ,.slice apZ npZ cpZ,.bool skZ,.slice akZ lkZ ckZ] 29) = w13 at *
 clear hw13
 generalize hG4 : w12.heap.size = G4 at *
 refine (av_same HS.out hMA (HH.out.2.2.below K11.out) (by omega) (by omega)).mono ?_
 rintro e w14 ⟨rfl,k14⟩
 replace m:=m.below k14
 replace hMX:=hMX.below k14
 replace K11:=hide (grow_step k14 K11.out)
 replace kk:=hide (grow_step k14 kk.out)
 clear k14 hMA
 have e0:=m.c0
 have e1:=m.c1
 have e2:=m.c2
 have e3:=m.c3
 have e4:=m.c4
 have e5:=m.c5
 have HJ:=hide (And.intro m hMX)
 clear m hMX
 go_wp2_with fail
 obtain ⟨m,hMX⟩:=HJ.out
 clear HJ e0 e1 e2 e3 e4 e5
 refine (Ov.over6_n hMX.1 hMX.2.1 hMX.2.2).mono ?_
 rintro e w15 ⟨⟨ve3,rfl⟩,hK1⟩
 replace m:=ab_keep m hK1 (by omega)
 replace K11:=hide (keep_old K11.out hK1 (Nat.le_refl _))
 replace kk:=hide (keep_old kk.out hK1 hs9)
 clear hMX hK1
 have r:=HH.out.1.below K11.out
 have e0:=r.c0
 have e1:=r.c1
 have e2:=r.c2
 have e3:=r.c3
 have e4:=r.c4
 have e5:=r.c5
 have HJ:=hide m
 clear m r
 go_wp2_with fail
 clear e0 e1 e2 e3 e4 e5
 refine (Fx.anorm_n (Fw:=w15.heap.size) (Nat.le_refl _) (hR0.out.1.below kk.out) hld (hR0.out.2.1.below kk.out) (hR0.out.2.2.1.below kk.out) hlk (by omega) (by omega)).mono ?_
 rintro e w16 ⟨qs,hS,hc,hN,k16⟩
 obtain rfl : qs = nz (lays [] ps):=std_unique hS (std_lays ps) (fun v => (hc v).trans (csum_nzl ps v).symm)
 rw [hFA.out] at hN
 obtain ⟨sdY,adY,ldY,cdY,apY,npY,cpY,skY,akY,lkY,ckY,rfl,hYA,hYX⟩:=anf_av hN
 have hml:=HJ.out.lt
 have m:=HJ.out.below k16
 obtain ⟨gg,m7,hz7,hP7,hk7⟩:=ab_put m hYA.zd hYA.pn hYA.zk (fun b off e => by have h9:=xf_new hYX b off e; omega) (fo FA).kind cpY
 have K17:=hide (below_grown (grow_step k16 K11.out) gg (by omega))
 have kk17:=hide (below_grown (grow_step k16 kk.out) gg (by omega))
 have o7:=HH.out.2.1.below K17.out
 have e0:=m.c0
 have e1:=m.c1
 have e2:=m.c2
 have e3:=m.c3
 have e4:=m.c4
 have e5:=m.c5
 have j0:=m.f 0
 have j1:=m.f 1
 have j2:=m.f 2
 have j3:=m.f 3
 have j4:=m.f 4
 have j5:=m.f 5
 have HK : Hid (_∧_∧_∧_∧_):=⟨m7,o7,K17.out,kk17.out,(⟨hz7,hYA.hld,hP7,hYA.hnp,hk7,hYA.hlk⟩ : AV _ (fo FA) sdY adY ldY cdY apY npY skY akY lkY ckY _)⟩
 clear hS hc hN k16 hYA hYX m gg m7 hz7 hP7 hk7 K17 o7 HJ kk kk17 K11
 iterate 18 (first | go_skip | go_guarded | go_step | go_upon | go_simp)
 obtain ⟨m,o2,K17,kk,hYA⟩:=HK.out
 clear HK e0 e1 e2 e3 e4 e5 j0 j1 j2 j3 j4 j5
 generalize ((((((w16.setCell ⟨G4,0,none⟩ (.int .i64 (fo FA).kind)).setCell ⟨G4,1,none⟩ (.bool sdY)).setCell ⟨G4,2,none⟩ (.slice adY ldY cdY)).setCell ⟨G4,3,none⟩ (.slice apY npY cpY)).setCell ⟨G4,4,none⟩ (.bool skY)).setCell ⟨G4,5,none⟩ (.slice akY lkY ckY)) = w17 at *
 have e0:=m.c0
 have e1:=m.c1
 have e2:=m.c2
 have e3:=m.c3
 have e4:=m.c4
 have e5:=m.c5
 have f0:=o2.c0
 have f1:=o2.c1
 have f2:=o2.c2
 have f3:=o2.c3
 have f4:=o2.c4
 have f5:=o2.c5
 have HJ:=hide (And.intro K17 (And.intro kk hYA))
 clear m o2 K17 kk hYA
 go_wp2_with fail
 obtain ⟨K17,kk,hYA⟩:=HJ.out
 clear HJ e0 e1 e2 e3 e4 e5 f0 f1 f2 f3 f4 f5
 refine (av_same HS.out hYA (HH.out.2.2.below K17) (by omega) (by omega)).mono ?_
 rintro e w18 ⟨rfl,k18⟩
 have kf:=hide (grow_step k18 kk)
 clear k18 kk K17 hYA HH
 go_wp2
 go_ret
 exact ⟨rfl,kf.out⟩
end Go.Proofs.YtepdckgfolkjjaaGreatDoor
