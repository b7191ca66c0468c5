/-
 Several texts in one: ZD,ZF1,G1.
-/
import Derived.Test.YtcfmkjegolpgaaaGreatDoorP15
import Derived.Test.YtcfmkjegolpgaaaGreatDoorP17
import Derived.Deep.DeepCutAuto
set_option maxRecDepth 100000
set_option maxHeartbeats 1600000
namespace Go.Proofs.YtcfmkjegolpgaaaGreatDoor
open Go.RowKit

variable {wb w' : World} {p1 p2 p3 l1 c1 l2 c2 l3 c3 : Nat} {s1 s2 s3 : Bool} {a1 a2 a3 : Option Addr}
theorem fd_rest {a b q r : Int} (h : FD a b q r) : FD a b q (a - q * b):=by
 have e : a - q * b = r:=by have:=h.1; omega
 rw [e]; exact h
theorem zc3 (x1 : ZB wb p1 s1 a1 l1 c1) (x2 : ZB wb p2 s2 a2 l2 c2) (x3 : ZB wb p3 s3 a3 l3 c3) (k : Below wb.heap.size wb w') :
  w'.cell? ⟨p1,0,none⟩ = some (.bool s1)∧w'.cell? ⟨p1,1,none⟩ = some (.slice a1 l1 c1)∧w'.cell? ⟨p2,0,none⟩ = some (.bool s2)∧w'.cell? ⟨p2,1,none⟩ = some (.slice a2 l2 c2)∧w'.cell? ⟨p3,0,none⟩ = some (.bool s3)∧w'.cell? ⟨p3,1,none⟩ = some (.slice a3 l3 c3) :=
 ⟨(x1.below k).c0,(x1.below k).c1,(x2.below k).c0,(x2.below k).c1,(x3.below k).c0,(x3.below k).c1⟩
theorem zc3r {r : Nat} {v v' : Value} (x1 : ZB wb p1 s1 a1 l1 c1) (x2 : ZB wb p2 s2 a2 l2 c2) (x3 : ZB wb p3 s3 a3 l3 c3) (h1 : p1 ≠ r) (h2 : p2 ≠ r) (h3 : p3 ≠ r) (k : Below wb.heap.size wb w') :
  ((w'.setCell ⟨r,0,none⟩ v).setCell ⟨r,1,none⟩ v').cell? ⟨p1,0,none⟩ = some (.bool s1)∧((w'.setCell ⟨r,0,none⟩ v).setCell ⟨r,1,none⟩ v').cell? ⟨p1,1,none⟩ = some (.slice a1 l1 c1)∧((w'.setCell ⟨r,0,none⟩ v).setCell ⟨r,1,none⟩ v').cell? ⟨p2,0,none⟩ = some (.bool s2)∧((w'.setCell ⟨r,0,none⟩ v).setCell ⟨r,1,none⟩ v').cell? ⟨p2,1,none⟩ = some (.slice a2 l2 c2)∧((w'.setCell ⟨r,0,none⟩ v).setCell ⟨r,1,none⟩ v').cell? ⟨p3,0,none⟩ = some (.bool s3)∧((w'.setCell ⟨r,0,none⟩ v).setCell ⟨r,1,none⟩ v').cell? ⟨p3,1,none⟩ = some (.slice a3 l3 c3):=by
 have y1:=(x1.below k).only (only2 r w' v v') h1
 have y2:=(x2.below k).only (only2 r w' v v') h2
 have y3:=(x3.below k).only (only2 r w' v v') h3
 exact ⟨y1.c0,y1.c1,y2.c0,y2.c1,y3.c0,y3.c1⟩
theorem zc3t {r t : Nat} {v v' u u' : Value} (x1 : ZB wb p1 s1 a1 l1 c1) (x2 : ZB wb p2 s2 a2 l2 c2) (x3 : ZB wb p3 s3 a3 l3 c3) (h1 : p1 ≠ r) (h2 : p2 ≠ r) (h3 : p3 ≠ r) (g1 : p1 ≠ t) (g2 : p2 ≠ t) (g3 : p3 ≠ t) (k : Below wb.heap.size wb w') :
  ((((w'.setCell ⟨r,0,none⟩ v).setCell ⟨r,1,none⟩ v').setCell ⟨t,0,none⟩ u).setCell ⟨t,1,none⟩ u').cell? ⟨p1,0,none⟩ = some (.bool s1)∧((((w'.setCell ⟨r,0,none⟩ v).setCell ⟨r,1,none⟩ v').setCell ⟨t,0,none⟩ u).setCell ⟨t,1,none⟩ u').cell? ⟨p1,1,none⟩ = some (.slice a1 l1 c1)∧((((w'.setCell ⟨r,0,none⟩ v).setCell ⟨r,1,none⟩ v').setCell ⟨t,0,none⟩ u).setCell ⟨t,1,none⟩ u').cell? ⟨p2,0,none⟩ = some (.bool s2)∧((((w'.setCell ⟨r,0,none⟩ v).setCell ⟨r,1,none⟩ v').setCell ⟨t,0,none⟩ u).setCell ⟨t,1,none⟩ u').cell? ⟨p2,1,none⟩ = some (.slice a2 l2 c2)∧((((w'.setCell ⟨r,0,none⟩ v).setCell ⟨r,1,none⟩ v').setCell ⟨t,0,none⟩ u).setCell ⟨t,1,none⟩ u').cell? ⟨p3,0,none⟩ = some (.bool s3)∧((((w'.setCell ⟨r,0,none⟩ v).setCell ⟨r,1,none⟩ v').setCell ⟨t,0,none⟩ u).setCell ⟨t,1,none⟩ u').cell? ⟨p3,1,none⟩ = some (.slice a3 l3 c3):=by
 have y1:=((x1.below k).only (only2 r w' v v') h1).only (only2 t _ u u') g1
 have y2:=((x2.below k).only (only2 r w' v v') h2).only (only2 t _ u u') g2
 have y3:=((x3.below k).only (only2 r w' v v') h3).only (only2 t _ u u') g3
 exact ⟨y1.c0,y1.c1,y2.c0,y2.c1,y3.c0,y3.c1⟩

end Go.Proofs.YtcfmkjegolpgaaaGreatDoor

namespace Go.Proofs.YtcfmkjegolpgaaaGreatDoor.Fresh
open Go.RowKit

variable {w w' : World} {B cap r l c : Nat} {ad a : Option Addr} {s : Bool} {n z : Int}
def Fr (B : Nat) (w : World) (ad : Option Addr) (cap : Nat) : Prop:=(ad = none∧cap = 0) ∨ ∃ b xs,ad = some ⟨b,0,none⟩∧B≤b∧Row w b xs∧xs.length = cap∧cap≤9223372036854775807
theorem row_lt {b : Nat} {xs : List Int} (h : Row w b xs) : b < w.heap.size:=(Array.getElem?_eq_some_iff.1 h).1
theorem Fr.below (h : Fr B w ad cap) (hb : Below w.heap.size w w') : Fr B w' ad cap:=by
 rcases h with h | ⟨b,xs,h1,h2,h3,h4⟩
 ·exact .inl h
 exact .inr ⟨b,xs,h1,h2,(hb.block b (row_lt h3)).trans h3,h4⟩
theorem Fr.only (h : Fr B w ad cap) (y : ZB w r s a l c) (ho : Only r w w') : Fr B w' ad cap:=by
 rcases h with h | ⟨b,xs,h1,h2,h3,h4⟩
 ·exact .inl h
 refine .inr ⟨b,xs,h1,h2,(ho.block b (fun e => ?_)).trans h3,h4⟩
 subst e
 have e:=Option.some.inj ((show w.heap[b]? = _ from y).symm.trans h3)
 injection e with _ e
 exact absurd e (by decide)
theorem Fr.mono {B' : Nat} (h : Fr B w ad cap) (hB : B'≤B) : Fr B' w ad cap:=by
 rcases h with h | ⟨b,xs,h1,h2,h3⟩
 ·exact .inl h
 exact .inr ⟨b,xs,h1,Nat.le_trans hB h2,h3⟩
def Nm (B : Nat) (w : World) (ad : Option Addr) (len cap : Nat) (n : Int) : Prop:=Go.Proofs.YtcfmkjegolpgaaaGreatDoor.Nm w ad len cap n∧B≤w.heap.size
def Cn (B : Nat) (w : World) (ad : Option Addr) (len cap : Nat) (n : Int) : Prop:=Go.Proofs.YtcfmkjegolpgaaaGreatDoor.Cn w ad len cap n∧B≤w.heap.size∧Fr B w ad cap
theorem Nm.below {len : Nat} (h : Nm B w ad len cap n) (hb : Below w.heap.size w w') : Nm B w' ad len cap n:=⟨h.1.below hb,Nat.le_trans h.2 hb.size⟩
theorem Cn.below {len : Nat} (h : Cn B w ad len cap n) (hb : Below w.heap.size w w') : Cn B w' ad len cap n:=⟨h.1.below hb,Nat.le_trans h.2.1 hb.size,h.2.2.below hb⟩
theorem Cn.len {len : Nat} (h : Cn B w ad len cap n) : n = 0 ↔ len = 0:=h.1.len
theorem out_cn {len : Nat} {zs : List Int} (hB : B≤w.heap.size) (h : Out w w' ad len cap zs) (hc : Canon zs) (hv : val zs = n) : Cn B w' ad len cap n:=by
 refine ⟨Go.Proofs.YtcfmkjegolpgaaaGreatDoor.out_cn h hc hv,Nat.le_trans hB h.1.size,?_⟩
 obtain ⟨_,⟨rfl,_,rfl,_⟩ | ⟨b,xs,rfl,hb,hr,_,hn,_,hm,_⟩⟩:=h
 ·exact .inl ⟨rfl,rfl⟩
 exact .inr ⟨b,xs,rfl,Nat.le_trans hB hb,hr,hn,hm⟩
theorem nm_nil (hB : B≤w.heap.size) : Nm B w none 0 0 0:=⟨Go.Proofs.YtcfmkjegolpgaaaGreatDoor.nm_nil w,hB⟩

theorem add_n {a1 a2 : Option Addr} {l1 c1 l2 c2 : Nat} {m : Int} (h1 : Nm B w a1 l1 c1 m) (h2 : Nm B w a2 l2 c2 n) (hl1 : l1≤1099511627776) (hl2 : l2≤1099511627776) :
  Calls Tryz.prog 144 #[.slice a1 l1 c1,.slice a2 l2 c2] w fun e w' => ∃ ad len cap,e = .returned (.slice ad len cap)∧Cn B w' ad len cap (m + n)∧Below w.heap.size w w'∧len≤max l1 l2 + 1:=by
 obtain ⟨⟨xs,h1,rfl⟩,hB⟩:=h1
 obtain ⟨⟨ys,h2,rfl⟩,_⟩:=h2
 refine (add_any h1 h2 hl1 hl2).mono ?_
 rintro e w' ⟨ad,len,cap,zs,rfl,ho,hc,hv,hl⟩
 exact ⟨ad,len,cap,rfl,out_cn hB ho hc hv,ho.1,hl⟩
def Zm (B : Nat) (w : World) (s : Bool) (ad : Option Addr) (len cap : Nat) (z : Int) : Prop:=∃ n,Nm B w ad len cap n∧z = sg s n
def Zn (B : Nat) (w : World) (s : Bool) (ad : Option Addr) (len cap : Nat) (z : Int) : Prop:=∃ n,Cn B w ad len cap n∧z = sg s n∧(s = true→n ≠ 0)
theorem Zn.zn {len : Nat} (h : Zn B w s ad len cap z) : Go.Proofs.YtcfmkjegolpgaaaGreatDoor.Zn w s ad len cap z:=by
 obtain ⟨n,h1,h2⟩:=h
 exact ⟨n,h1.1,h2⟩
theorem zm_of {len : Nat} (h : Go.Proofs.YtcfmkjegolpgaaaGreatDoor.Zm w s ad len cap z) (hB : B≤w.heap.size) : Zm B w s ad len cap z:=by
 obtain ⟨n,h1,h2⟩:=h
 exact ⟨n,⟨h1,hB⟩,h2⟩
theorem zb_cn {len : Nat} (y : ZB w r s a l c) (ho : Only r w w') (h : Cn B w ad len cap n) : Cn B w' ad len cap n:=by
 obtain ⟨⟨zs,h1,h2,h3⟩,h4,h5⟩:=h
 exact ⟨⟨zs,h1.only ho (zb_apart y h1),h2,h3⟩,Nat.le_trans h4 (Nat.le_of_eq ho.size.symm),h5.only y ho⟩
theorem zb_zn {s1 : Bool} {len : Nat} (y : ZB w r s a l c) (h : Zn B w s1 ad len cap z) (s' : Bool) (a' : Option Addr) (l' c' : Nat) :
  Zn B ((w.setCell ⟨r,0,none⟩ (.bool s')).setCell ⟨r,1,none⟩ (.slice a' l' c')) s1 ad len cap z:=by
 obtain ⟨n,h1,h4⟩:=h
 exact ⟨n,zb_cn y ((Only.set r 0 w _).trans (Only.set r 1 _ _)) h1,h4⟩
theorem bare_n2 (h : Nm B w a l c n) (hl : l≤1099511627776) :
  Calls Tryz.prog 148 #[.slice a l c] w fun e w' => ∃ ad len cap,e = .returned (.slice ad len cap)∧Cn B w' ad len cap n∧Below w.heap.size w w'∧len≤l + 1:=by
 go_enter Tryz.func148,Tryz.ntmps148
 go_wp2_with fail
 refine (add_n h (nm_nil h.2) hl (by decide)).mono ?_
 rintro e w' ⟨ad,len,cap,rfl,hc,hb,hl'⟩
 go_wp2
 go_ret
 exact ⟨ad,len,cap,rfl,by simpa using hc,hb,by omega⟩
theorem stand_n (h : Cn B w a l c n) :
  Calls Tryz.prog 90 #[.bool s,.slice a l c] w fun e w' => ∃ s',e = .returned (.agg #[.bool s',.slice a l c])∧Zn B w' s' a l c (sg s n)∧Below w.heap.size w w':=by
 have hn:=h.len
 go_enter Tryz.func90,Tryz.ntmps90
 cases s
 ·go_wp2
  refine bodyPost_ret (results_cell_row rfl _ _ w.heap.size 37 _ (0,0) _ rfl (zb_new w _ _ _ _) Tryz.underlying37 rfl k_f) rfl ?_
  exact ⟨false,by simp,⟨n,h.below (below_alloc _ _),rfl,fun h => by cases h⟩,below_alloc _ _⟩
 go_wp2
 refine bodyPost_ret (results_cell_row rfl _ _ w.heap.size 37 _ (0,0) _ rfl (zb_new w _ _ _ _) Tryz.underlying37 rfl k_f) rfl ?_
 refine ⟨decide (0 < l),by simp,⟨n,h.below (below_alloc _ _),?_,fun h => ?_⟩,below_alloc _ _⟩
 ·by_cases h0 : 0 < l
  ·simp [h0]
  have : n = 0:=hn.2 o_m
  simp [sg,this]
 have h0 : 0 < l:=of_decide_eq_true h
 intro h1; have:=hn.1 h1; omega
theorem norm_n (h : Zm B w s a l c z) (hl : l≤1099511627776) :
  Calls Tryz.prog 182 #[.agg #[.bool s,.slice a l c]] w fun e w' => ∃ s' ad len cap,e = .returned (.agg #[.bool s',.slice ad len cap])∧Zn B w' s' ad len cap z∧Below w.heap.size w w'∧len≤l + 1:=by
 obtain ⟨n,hn,rfl⟩:=h
 go_enter Tryz.func182,Tryz.ntmps182
 go_wp2_with fail
 have x:=(zb_new w s a l c).below (below_alloc _ (.cells #[.bool false,.slice none 0 0] 37))
 have y:=zb_new (w.alloc (.cells #[.bool s,.slice a l c] 37)) false none 0 0
 have b0 : Below w.heap.size w ((w.alloc (.cells #[.bool s,.slice a l c] 37)).alloc (.cells #[.bool false,.slice none 0 0] 37)):=below_alloc' (below_alloc _ _) _
 rw [show (w.alloc (.cells #[.bool s,.slice a l c] 37)).heap.size = w.heap.size + 1 from by simp] at y
 generalize (w.alloc (.cells #[.bool s,.slice a l c] 37)).alloc (.cells #[.bool false,.slice none 0 0] 37) = wb at *
 have hpr : w.heap.size < w.heap.size + 1:=by omega
 replace hn:=hn.below b0
 generalize hp : w.heap.size = p at *
 replace hp:=hide hp
 generalize p + 1 = r at *
 have hrb:=Nat.le_of_lt y.lt
 go_region_held3 (fun w' => w'.cell? ⟨p,0,none⟩ = some (.bool s)∧w'.cell? ⟨p,1,none⟩ = some (.slice a l c)∧Below r wb w')
  ((refine zs1 x hpr ?_; first | (refine Below.mono ?_ hrb; focus ((with_reducible repeat' first | exact Below.refl _ _ | assumption | refine grow_step (by assumption) ?_ | refine grow_drew ?_ | refine grow_alloc ?_ _ | refine grow_drewN ?_ _); done)) | (refine ((Below.mono ?_ hrb).setCell (Nat.le_refl _) _).setCell (Nat.le_refl _) _; focus ((with_reducible repeat' first | exact Below.refl _ _ | assumption | refine grow_step (by assumption) ?_ | refine grow_drew ?_ | refine grow_alloc ?_ _ | refine grow_drewN ?_ _); done))))
  (first | (go_at_call 148; refine (bare_n2 (Nm.below hn gw) hl).mono ?_; rintro e w' ⟨ad,len,cap,rfl,hc,hg,hl'⟩) | (go_at_call 90; refine (stand_n (Cn.below hc gw)).mono ?_; rintro e w' ⟨s',rfl,hz,hg⟩; have y' : ZB w' r false none 0 0:=ZB.below y gw; have y0:=y'.c0; have y1:=y'.c1; have y2:=y'.f 0; have y3:=y'.f 1))
 go_wp2
 rename_i hH
 refine bodyPost_ret (results_cell_row rfl _ _ r 37 _ (0,0) _ rfl (zb_fin y' s' ad len cap) Tryz.underlying37 rfl k_f) rfl ?_
 exact ⟨s',ad,len,cap,by simp,zb_zn y' hz _ _ _ _,hp.out.symm ▸ (b0.trans (hH.2.2.mono (Nat.le_of_lt hpr))),hl'⟩
end Go.Proofs.YtcfmkjegolpgaaaGreatDoor.Fresh

namespace Go.Proofs.YtcfmkjegolpgaaaGreatDoor.Lw
open Go.RowKit

variable {F cap l c l1 c1 l2 c2 Fw : Nat} {w w' : World} {ad a a1 a2 : Option Addr} {n z m z1 z2 : Int} {s s1 s2 : Bool}
def Lo (F : Nat) (ad : Option Addr) (len : Nat) : Prop:=len = 0 ∨ ∃ b off,ad = some ⟨b,off,none⟩∧F≤b
def Nm (F : Nat) (w : World) (ad : Option Addr) (len cap : Nat) (n : Int) : Prop:=Go.Proofs.YtcfmkjegolpgaaaGreatDoor.Nm w ad len cap n∧F≤w.heap.size
def Cn (F : Nat) (w : World) (ad : Option Addr) (len cap : Nat) (n : Int) : Prop:=Go.Proofs.YtcfmkjegolpgaaaGreatDoor.Cn w ad len cap n∧F≤w.heap.size∧Lo F ad len
theorem Cn.nm {len : Nat} (h : Cn F w ad len cap n) : Nm F w ad len cap n:=⟨h.1.nm,h.2.1⟩
theorem Nm.below {len : Nat} (h : Nm F w ad len cap n) (hb : Below w.heap.size w w') : Nm F w' ad len cap n:=⟨h.1.below hb,Nat.le_trans h.2 hb.size⟩
theorem Cn.below {len : Nat} (h : Cn F w ad len cap n) (hb : Below w.heap.size w w') : Cn F w' ad len cap n:=⟨h.1.below hb,Nat.le_trans h.2.1 hb.size,h.2.2⟩
theorem Nm.nonneg {len : Nat} (h : Nm F w ad len cap n) : 0≤n:=h.1.nonneg
theorem Cn.len {len : Nat} (h : Cn F w ad len cap n) : n = 0 ↔ len = 0:=h.1.len
theorem out_cn {len : Nat} {zs : List Int} (hF : F≤w.heap.size) (h : Out w w' ad len cap zs) (hc : Canon zs) (hv : val zs = n) : Cn F w' ad len cap n:=by
 refine ⟨Go.Proofs.YtcfmkjegolpgaaaGreatDoor.out_cn h hc hv,Nat.le_trans hF h.1.size,?_⟩
 rcases h.2 with ⟨_,h1,_⟩ | ⟨b,xs,h1,h2,_⟩
 ·exact .inl h1
 exact .inr ⟨b,0,h1,Nat.le_trans hF h2⟩
def Zm (F : Nat) (w : World) (s : Bool) (ad : Option Addr) (len cap : Nat) (z : Int) : Prop:=∃ n,Nm F w ad len cap n∧z = sg s n
def Zn (F : Nat) (w : World) (s : Bool) (ad : Option Addr) (len cap : Nat) (z : Int) : Prop:=∃ n,Cn F w ad len cap n∧z = sg s n∧(s = true→n ≠ 0)
theorem Zm.old {len : Nat} (h : Zm F w s ad len cap z) : Go.Proofs.YtcfmkjegolpgaaaGreatDoor.Zm w s ad len cap z:=by
 obtain ⟨n,h1,h2⟩:=h; exact ⟨n,h1.1,h2⟩
theorem Zm.le {len : Nat} (h : Zm F w s ad len cap z) : F≤w.heap.size:=by
 obtain ⟨n,h1,h2⟩:=h; exact h1.2
theorem Zn.old {len : Nat} (h : Zn F w s ad len cap z) : Go.Proofs.YtcfmkjegolpgaaaGreatDoor.Zn w s ad len cap z:=by
 obtain ⟨n,h1,h2⟩:=h; exact ⟨n,h1.1,h2⟩
theorem Zn.le {len : Nat} (h : Zn F w s ad len cap z) : F≤w.heap.size:=by
 obtain ⟨n,h1,h2⟩:=h; exact h1.2.1
theorem Zn.lo {len : Nat} (h : Zn F w s ad len cap z) : Lo F ad len:=by
 obtain ⟨n,h1,h2⟩:=h; exact h1.2.2
theorem Zn.mk {len : Nat} (h : Go.Proofs.YtcfmkjegolpgaaaGreatDoor.Zn w s ad len cap z) (hF : F≤w.heap.size) (hl : Lo F ad len) : Zn F w s ad len cap z:=by
 obtain ⟨n,h1,h2⟩:=h; exact ⟨n,⟨h1,hF,hl⟩,h2⟩
theorem Zm.mk {len : Nat} (h : Go.Proofs.YtcfmkjegolpgaaaGreatDoor.Zm w s ad len cap z) (hF : F≤w.heap.size) : Zm F w s ad len cap z:=by
 obtain ⟨n,h1,h2⟩:=h; exact ⟨n,⟨h1,hF⟩,h2⟩
theorem Zn.zm {len : Nat} (h : Zn F w s ad len cap z) : Zm F w s ad len cap z:=.mk h.old.zm h.le
theorem Zm.below {len : Nat} (h : Zm F w s ad len cap z) (hb : Below w.heap.size w w') : Zm F w' s ad len cap z:=.mk (h.old.below hb) (Nat.le_trans h.le hb.size)
theorem Zn.below {len : Nat} (h : Zn F w s ad len cap z) (hb : Below w.heap.size w w') : Zn F w' s ad len cap z:=.mk (h.old.below hb) (Nat.le_trans h.le hb.size) h.lo
theorem zb_zn {r : Nat} {len : Nat} (y : ZB w r s a l c) (h : Zn F w s1 ad len cap z) (s' : Bool) (a' : Option Addr) (l' c' : Nat) :
  Zn F ((w.setCell ⟨r,0,none⟩ (.bool s')).setCell ⟨r,1,none⟩ (.slice a' l' c')) s1 ad len cap z:=.mk (Go.Proofs.YtcfmkjegolpgaaaGreatDoor.zb_zn y h.old s' a' l' c') (Nat.le_trans h.le (Nat.le_of_eq (by simp))) h.lo
theorem zm_of (h : Nm F w a l c n) : Zm F w s a l c (sg s n):=⟨n,h,rfl⟩
theorem trim_n (h : Nm F w a l c n) (hl : l≤1099511627776) :
  Calls Tryz.prog 176 #[.slice a l c] w fun e w' => ∃ ad len cap,e = .returned (.slice ad len cap)∧Cn F w' ad len cap n∧Below w.heap.size w w'∧len≤l:=by
 obtain ⟨⟨xs,h1,rfl⟩,hF⟩:=h
 refine (trim_any h1 o_m).mono ?_
 rintro e w' ⟨rfl,ho, -⟩
 exact ⟨_,_,_,rfl,out_cn hF ho (canon_trim h1.2.2.2.1) (val_trim xs),ho.1,tl_le _ _⟩
theorem rcmp_n (h1 : Nm F w a1 l1 c1 m) (h2 : Nm F w a2 l2 c2 n) :
  Calls Tryz.prog 161 #[.slice a1 l1 c1,.slice a2 l2 c2] w fun e w' => e = .returned (.int .i64 (cmpI m n))∧Below w.heap.size w w':=Go.Proofs.YtcfmkjegolpgaaaGreatDoor.rcmp_n h1.1 h2.1
theorem rsign_n (h : Zm F w s a l c z) (hl : l≤1099511627776) :
  Calls Tryz.prog 117 #[.agg #[.bool s,.slice a l c]] w fun e w' => e = .returned (.int .i64 (cmpI z 0))∧Below w.heap.size w w':=Go.Proofs.YtcfmkjegolpgaaaGreatDoor.rsign_n h.old hl
theorem zn_stand (h : Cn Fw w a l c n) : Zn Fw w (s && decide (0 < l)) a l c (sg s n):=by
 have hn:=h.len
 refine ⟨n,h,?_,?_⟩
 ·cases s
  ·rfl
  by_cases h0 : 0 < l
  ·simp [h0]
  have : n = 0:=hn.2 o_m
  simp [sg,this]
 cases s
 ·intro h; cases h
 intro h h1
 have h0 : 0 < l:=of_decide_eq_true (by simpa using h)
 have:=hn.1 h1; omega
theorem radd_n (h1 : Nm Fw w a1 l1 c1 m) (h2 : Nm Fw w a2 l2 c2 n) (hl1 : l1≤17179869184) (hl2 : l2≤17179869184) :
  Calls Tryz.prog 160 #[.slice a1 l1 c1,.slice a2 l2 c2] w fun e w' => ∃ ad len cap,e = .returned (.slice ad len cap)∧Cn Fw w' ad len cap (m + n)∧Below w.heap.size w w'∧len≤max l1 l2 + 1:=by
 obtain ⟨⟨xs,h1,rfl⟩,hF⟩:=h1
 obtain ⟨⟨ys,h2,rfl⟩, -⟩:=h2
 refine (refadd_any h1 h2 o_m o_m).mono ?_
 rintro e w' ⟨ad,len,cap,zs,rfl,ho,hc,hv,hl⟩
 exact ⟨ad,len,cap,rfl,out_cn hF ho hc hv,ho.1,hl⟩
theorem rsub_n (h1 : Nm Fw w a1 l1 c1 m) (h2 : Nm Fw w a2 l2 c2 n) (hl1 : l1≤17179869184) (hge : n≤m) :
  Calls Tryz.prog 162 #[.slice a1 l1 c1,.slice a2 l2 c2] w fun e w' => ∃ ad len cap,e = .returned (.slice ad len cap)∧Cn Fw w' ad len cap (m - n)∧Below w.heap.size w w'∧len≤l1:=by
 obtain ⟨⟨xs,h1,rfl⟩,hF⟩:=h1
 obtain ⟨⟨ys,h2,rfl⟩, -⟩:=h2
 refine (refsub_any h1 h2 o_m hge).mono ?_
 rintro e w' ⟨ad,len,cap,zs,rfl,ho,hc,hv,hl⟩
 exact ⟨ad,len,cap,rfl,out_cn hF ho hc hv,ho.1,hl⟩
theorem rmul_n (h1 : Nm Fw w a1 l1 c1 m) (h2 : Nm Fw w a2 l2 c2 n) (hl1 : l1≤17179869184) (hl2 : l2≤17179869184) :
  Calls Tryz.prog 194 #[.slice a1 l1 c1,.slice a2 l2 c2] w fun e w' => ∃ ad len cap,e = .returned (.slice ad len cap)∧Cn Fw w' ad len cap (m * n)∧Below w.heap.size w w'∧len≤l1 + l2:=by
 obtain ⟨⟨xs,h1,rfl⟩,hF⟩:=h1
 obtain ⟨⟨ys,h2,rfl⟩, -⟩:=h2
 refine (refmul_any h1 h2 hl1 hl2).mono ?_
 rintro e w' ⟨ad,len,cap,zs,rfl,ho,hc,hv,hl⟩
 exact ⟨ad,len,cap,rfl,out_cn hF ho hc hv,ho.1,hl⟩
theorem rdm_n (h1 : Nm Fw w a1 l1 c1 m) (h2 : Nm Fw w a2 l2 c2 n) (hl1 : l1≤17179869184) (hl2 : l2≤17179869184) (hn : 0 < n) :
  Calls Tryz.prog 193 #[.slice a1 l1 c1,.slice a2 l2 c2] w fun e w' => ∃ aq lq cq ar lr cr,e = .returned (.tuple #[.slice aq lq cq,.slice ar lr cr])∧Cn Fw w' aq lq cq (m / n)∧Cn Fw w' ar lr cr (m % n)∧Below w.heap.size w w'∧lq≤l1∧lr≤l2:=by
 obtain ⟨⟨xs,h1,rfl⟩,hF⟩:=h1
 obtain ⟨⟨ys,h2,rfl⟩, -⟩:=h2
 refine (refdivmod_out h1 h2 hl1 hl2 hn).mono ?_
 rintro e w' ⟨aq,lq,cq,zq,ar,lr,cr,zr,rfl,o1,c1,v1,o2,c2,v2,h3,h4⟩
 exact ⟨aq,lq,cq,ar,lr,cr,rfl,out_cn hF o1 c1 v1,out_cn hF o2 c2 v2,o1.1,h3,h4⟩
theorem rnorm_n (h : Zm Fw w s a l c z) (hl : l≤1099511627776) :
  Calls Tryz.prog 135 #[.agg #[.bool s,.slice a l c]] w fun e w' => ∃ s' ad len cap,e = .returned (.agg #[.bool s',.slice ad len cap])∧Zn Fw w' s' ad len cap z∧Below w.heap.size w w'∧len≤l:=by
 obtain ⟨n,hn,rfl⟩:=h
 go_enter Tryz.func135,Tryz.ntmps135
 go_wp2_with fail
 have x:=(zb_new w s a l c).below (below_alloc _ (.cells #[.bool false,.slice none 0 0] 37))
 have y:=zb_new (w.alloc (.cells #[.bool s,.slice a l c] 37)) false none 0 0
 have b0 : Below w.heap.size w ((w.alloc (.cells #[.bool s,.slice a l c] 37)).alloc (.cells #[.bool false,.slice none 0 0] 37)):=below_alloc' (below_alloc _ _) _
 rw [show (w.alloc (.cells #[.bool s,.slice a l c] 37)).heap.size = w.heap.size + 1 from by simp] at y
 generalize (w.alloc (.cells #[.bool s,.slice a l c] 37)).alloc (.cells #[.bool false,.slice none 0 0] 37) = wb at *
 have hpr : w.heap.size < w.heap.size + 1:=by omega
 replace hn:=hn.below b0
 generalize hp : w.heap.size = p at *
 replace hp:=hide hp
 generalize p + 1 = r at *
 have hrb:=Nat.le_of_lt y.lt
 refine (trim_n hn hl).mono ?_
 rintro e w' ⟨ad,len,cap,rfl,hc,hg,hl'⟩
 have y' : ZB w' r false none 0 0:=ZB.below y gw; have y0:=y'.c0; have y1:=y'.c1; have y2:=y'.f 0; have y3:=y'.f 1
 have u0:=(x.below hg).c0
 have hB : Below p w w':=b0.trans (hg.mono (Nat.le_of_lt (Nat.lt_of_lt_of_le hpr hrb)))
 have hz:=zn_stand (s:=s) hc
 cases s
 ·generalize hs' : (false && decide (0 < len)) = s' at hz
  simp at hs'
  subst hs'
  go_wp2
  refine bodyPost_ret (results_cell_row rfl _ _ r 37 _ (0,0) _ rfl (zb_fin y' false ad len cap) Tryz.underlying37 rfl k_f) rfl ?_
  exact ⟨false,ad,len,cap,by simp,zb_zn y' hz _ _ _ _,hp.out.symm ▸ (hB.setCell (Nat.le_of_lt hpr) _).setCell (Nat.le_of_lt hpr) _,hl'⟩
 rw [Bool.true_and] at hz
 go_wp2
 refine bodyPost_ret (results_cell_row rfl _ _ r 37 _ (0,0) _ rfl (zb_fin y' (decide (0 < len)) ad len cap) Tryz.underlying37 rfl k_f) rfl ?_
 exact ⟨_,ad,len,cap,by simp,zb_zn y' hz _ _ _ _,hp.out.symm ▸ (hB.setCell (Nat.le_of_lt hpr) _).setCell (Nat.le_of_lt hpr) _,hl'⟩
theorem rof_n (n : Int) (h0 : -9223372036854775808≤n) (h1 : n≤9223372036854775807) (w : World) (hF : Fw≤w.heap.size) :
  Calls Tryz.prog 121 #[.int .i64 n] w fun e w' => ∃ s' ad len cap,e = .returned (.agg #[.bool s',.slice ad len cap])∧Zn Fw w' s' ad len cap n∧Below w.heap.size w w'∧len≤2:=by
 go_enter Tryz.func121,Tryz.ntmps121
 by_cases hn : n < 0
 ·go_wp2_with fail
  rw [Go.and_low32 (-(n + 1) + 1) o_m o_m]
  have hN:=nm_lit2 (w.alloc (.cells #[.bool false,.slice none 0 0] 37)) ((-(n + 1) + 1) % 4294967296 % 4294967296) ((-(n + 1) + 1) / 4294967296) o_m o_m o_m o_m
  have y:=(zb_new w false none 0 0).below (below_alloc _ (.cells #[.int .u32 ((-(n + 1) + 1) % 4294967296 % 4294967296),.int .u32 ((-(n + 1) + 1) / 4294967296)] 108))
  have b0 : Below w.heap.size w ((w.alloc (.cells #[.bool false,.slice none 0 0] 37)).alloc (.cells #[.int .u32 ((-(n + 1) + 1) % 4294967296 % 4294967296),.int .u32 ((-(n + 1) + 1) / 4294967296)] 108)):=below_alloc' (below_alloc _ _) _
  rw [show (w.alloc (.cells #[.bool false,.slice none 0 0] 37)).heap.size = w.heap.size + 1 from by simp] at hN
  have hFb:=hide (Nat.le_trans hF b0.size)
  generalize (w.alloc (.cells #[.bool false,.slice none 0 0] 37)).alloc (.cells #[.int .u32 ((-(n + 1) + 1) % 4294967296 % 4294967296),.int .u32 ((-(n + 1) + 1) / 4294967296)] 108) = wb at *
  have e1 : (-(n + 1) + 1) % 4294967296 % 4294967296 + (-(n + 1) + 1) / 4294967296 * 4294967296 = (-(n + 1) + 1):=by omega
  rw [e1] at hN
  clear e1
  generalize hp : w.heap.size = r at *
  replace hp:=hide hp
  refine (rnorm_n ⟨_,⟨hN,hFb.out⟩,rfl⟩ (by decide)).mono ?_
  rintro e w' ⟨s',ad,len,cap,rfl,hz,hg,hl'⟩
  have y' : ZB w' r false none 0 0:=ZB.below y gw; have y0:=y'.c0; have y1:=y'.c1; have y2:=y'.f 0; have y3:=y'.f 1
  have hB : Below r w w':=b0.trans (hg.mono (Nat.le_of_lt y.lt))
  go_wp2
  refine bodyPost_ret (results_cell_row rfl _ _ r 37 _ (0,0) _ rfl (zb_fin y' s' ad len cap) Tryz.underlying37 rfl k_f) rfl ?_
  rw [show sg true (-(n + 1) + 1) = n from by show -(-(n + 1) + 1) = n; omega] at hz
  exact ⟨s',ad,len,cap,by simp,zb_zn y' hz _ _ _ _,hp.out.symm ▸ (hB.setCell (Nat.le_refl _) _).setCell (Nat.le_refl _) _,hl'⟩
 go_wp2_with fail
 rw [Go.and_low32 n o_m o_m]
 have hN:=nm_lit2 (w.alloc (.cells #[.bool false,.slice none 0 0] 37)) (n % 4294967296 % 4294967296) (n / 4294967296) o_m o_m o_m o_m
 have y:=(zb_new w false none 0 0).below (below_alloc _ (.cells #[.int .u32 (n % 4294967296 % 4294967296),.int .u32 (n / 4294967296)] 108))
 have b0 : Below w.heap.size w ((w.alloc (.cells #[.bool false,.slice none 0 0] 37)).alloc (.cells #[.int .u32 (n % 4294967296 % 4294967296),.int .u32 (n / 4294967296)] 108)):=below_alloc' (below_alloc _ _) _
 rw [show (w.alloc (.cells #[.bool false,.slice none 0 0] 37)).heap.size = w.heap.size + 1 from by simp] at hN
 have hFb:=hide (Nat.le_trans hF b0.size)
 generalize (w.alloc (.cells #[.bool false,.slice none 0 0] 37)).alloc (.cells #[.int .u32 (n % 4294967296 % 4294967296),.int .u32 (n / 4294967296)] 108) = wb at *
 have e1 : n % 4294967296 % 4294967296 + n / 4294967296 * 4294967296 = n:=by omega
 rw [e1] at hN
 clear e1
 generalize hp : w.heap.size = r at *
 replace hp:=hide hp
 refine (rnorm_n ⟨_,⟨hN,hFb.out⟩,rfl⟩ (by decide)).mono ?_
 rintro e w' ⟨s',ad,len,cap,rfl,hz,hg,hl'⟩
 have y' : ZB w' r false none 0 0:=ZB.below y gw; have y0:=y'.c0; have y1:=y'.c1; have y2:=y'.f 0; have y3:=y'.f 1
 have hB : Below r w w':=b0.trans (hg.mono (Nat.le_of_lt y.lt))
 go_wp2
 refine bodyPost_ret (results_cell_row rfl _ _ r 37 _ (0,0) _ rfl (zb_fin y' s' ad len cap) Tryz.underlying37 rfl k_f) rfl ?_
 rw [show sg false n = n from rfl] at hz
 exact ⟨s',ad,len,cap,by simp,zb_zn y' hz _ _ _ _,hp.out.symm ▸ (hB.setCell (Nat.le_refl _) _).setCell (Nat.le_refl _) _,hl'⟩
theorem rneg_n (h : Zm Fw w s a l c z) (hl : l≤1099511627776) :
  Calls Tryz.prog 164 #[.agg #[.bool s,.slice a l c]] w fun e w' => ∃ s' ad len cap,e = .returned (.agg #[.bool s',.slice ad len cap])∧Zn Fw w' s' ad len cap (-z)∧Below w.heap.size w w'∧len≤l:=by
 obtain ⟨n,hn,rfl⟩:=h
 rw [← sg_not]
 go_enter Tryz.func164,Tryz.ntmps164
 go_wp2_with fail
 have x:=(zb_new w s a l c).below (below_alloc _ (.cells #[.bool false,.slice none 0 0] 37))
 have y:=zb_new (w.alloc (.cells #[.bool s,.slice a l c] 37)) false none 0 0
 have b0 : Below w.heap.size w ((w.alloc (.cells #[.bool s,.slice a l c] 37)).alloc (.cells #[.bool false,.slice none 0 0] 37)):=below_alloc' (below_alloc _ _) _
 rw [show (w.alloc (.cells #[.bool s,.slice a l c] 37)).heap.size = w.heap.size + 1 from by simp] at y
 generalize (w.alloc (.cells #[.bool s,.slice a l c] 37)).alloc (.cells #[.bool false,.slice none 0 0] 37) = wb at *
 have hpr : w.heap.size < w.heap.size + 1:=by omega
 replace hn:=hn.below b0
 generalize hp : w.heap.size = p at *
 replace hp:=hide hp
 generalize p + 1 = r at *
 have hrb:=Nat.le_of_lt y.lt
 refine (rnorm_n ⟨n,hn,rfl⟩ hl).mono ?_
 rintro e w' ⟨s',ad,len,cap,rfl,hz,hg,hl'⟩
 have y' : ZB w' r false none 0 0:=ZB.below y gw; have y0:=y'.c0; have y1:=y'.c1; have y2:=y'.f 0; have y3:=y'.f 1
 have hB : Below p w w':=b0.trans (hg.mono (Nat.le_of_lt (Nat.lt_of_lt_of_le hpr hrb)))
 go_wp2
 refine bodyPost_ret (results_cell_row rfl _ _ r 37 _ (0,0) _ rfl (zb_fin y' s' ad len cap) Tryz.underlying37 rfl k_f) rfl ?_
 exact ⟨s',ad,len,cap,by simp,zb_zn y' hz _ _ _ _,hp.out.symm ▸ (hB.setCell (Nat.le_of_lt hpr) _).setCell (Nat.le_of_lt hpr) _,hl'⟩
theorem rabs_n (h : Zm Fw w s a l c z) (hl : l≤1099511627776) :
  Calls Tryz.prog 125 #[.agg #[.bool s,.slice a l c]] w fun e w' => ∃ s' ad len cap,e = .returned (.agg #[.bool s',.slice ad len cap])∧Zn Fw w' s' ad len cap ((z.natAbs : Int))∧Below w.heap.size w w'∧len≤l:=by
 obtain ⟨n,hn,rfl⟩:=h
 rw [← sg_abs (s:=s) hn.nonneg]
 go_enter Tryz.func125,Tryz.ntmps125
 go_wp2_with fail
 have x:=(zb_new w s a l c).below (below_alloc _ (.cells #[.bool false,.slice none 0 0] 37))
 have y:=zb_new (w.alloc (.cells #[.bool s,.slice a l c] 37)) false none 0 0
 have b0 : Below w.heap.size w ((w.alloc (.cells #[.bool s,.slice a l c] 37)).alloc (.cells #[.bool false,.slice none 0 0] 37)):=below_alloc' (below_alloc _ _) _
 rw [show (w.alloc (.cells #[.bool s,.slice a l c] 37)).heap.size = w.heap.size + 1 from by simp] at y
 generalize (w.alloc (.cells #[.bool s,.slice a l c] 37)).alloc (.cells #[.bool false,.slice none 0 0] 37) = wb at *
 have hpr : w.heap.size < w.heap.size + 1:=by omega
 replace hn:=hn.below b0
 generalize hp : w.heap.size = p at *
 replace hp:=hide hp
 generalize p + 1 = r at *
 have hrb:=Nat.le_of_lt y.lt
 refine (rnorm_n ⟨n,hn,rfl⟩ hl).mono ?_
 rintro e w' ⟨s',ad,len,cap,rfl,hz,hg,hl'⟩
 have y' : ZB w' r false none 0 0:=ZB.below y gw; have y0:=y'.c0; have y1:=y'.c1; have y2:=y'.f 0; have y3:=y'.f 1
 have hB : Below p w w':=b0.trans (hg.mono (Nat.le_of_lt (Nat.lt_of_lt_of_le hpr hrb)))
 go_wp2
 refine bodyPost_ret (results_cell_row rfl _ _ r 37 _ (0,0) _ rfl (zb_fin y' s' ad len cap) Tryz.underlying37 rfl k_f) rfl ?_
 exact ⟨s',ad,len,cap,by simp,zb_zn y' hz _ _ _ _,hp.out.symm ▸ (hB.setCell (Nat.le_of_lt hpr) _).setCell (Nat.le_of_lt hpr) _,hl'⟩
theorem rmul2_n (h1 : Zm Fw w s1 a1 l1 c1 z1) (h2 : Zm Fw w s2 a2 l2 c2 z2) (hl1 : l1≤17179869184) (hl2 : l2≤17179869184) :
  Calls Tryz.prog 165 #[.agg #[.bool s1,.slice a1 l1 c1],.agg #[.bool s2,.slice a2 l2 c2]] w fun e w' => ∃ s' ad len cap,e = .returned (.agg #[.bool s',.slice ad len cap])∧Zn Fw w' s' ad len cap (z1 * z2)∧Below w.heap.size w w'∧len≤l1 + l2:=by
 obtain ⟨m,hm,rfl⟩:=h1
 obtain ⟨n,hn,rfl⟩:=h2
 rw [← sg_mul]
 go_enter Tryz.func165,Tryz.ntmps165
 go_wp2_with fail
 have x:=(zb_new w s1 a1 l1 c1).below (below_alloc' (below_alloc _ (.cells #[.bool s2,.slice a2 l2 c2] 37)) (.cells #[.bool false,.slice none 0 0] 37))
 have x2:=(zb_new (w.alloc (.cells #[.bool s1,.slice a1 l1 c1] 37)) s2 a2 l2 c2).below (below_alloc _ (.cells #[.bool false,.slice none 0 0] 37))
 have y:=zb_new ((w.alloc (.cells #[.bool s1,.slice a1 l1 c1] 37)).alloc (.cells #[.bool s2,.slice a2 l2 c2] 37)) false none 0 0
 have b0 : Below w.heap.size w (((w.alloc (.cells #[.bool s1,.slice a1 l1 c1] 37)).alloc (.cells #[.bool s2,.slice a2 l2 c2] 37)).alloc (.cells #[.bool false,.slice none 0 0] 37)):=below_alloc' (below_alloc' (below_alloc _ _) _) _
 rw [show ((w.alloc (.cells #[.bool s1,.slice a1 l1 c1] 37)).alloc (.cells #[.bool s2,.slice a2 l2 c2] 37)).heap.size = w.heap.size + 2 from by simp] at y
 rw [show (w.alloc (.cells #[.bool s1,.slice a1 l1 c1] 37)).heap.size = w.heap.size + 1 from by simp] at x2
 generalize ((w.alloc (.cells #[.bool s1,.slice a1 l1 c1] 37)).alloc (.cells #[.bool s2,.slice a2 l2 c2] 37)).alloc (.cells #[.bool false,.slice none 0 0] 37) = wb at *
 have hpr : w.heap.size < w.heap.size + 2:=by omega
 have hqr : w.heap.size + 1 < w.heap.size + 2:=by omega
 have hpq : w.heap.size < w.heap.size + 1:=by omega
 replace hm:=hm.below b0
 replace hn:=hn.below b0
 generalize hp : w.heap.size = p at *
 replace hp:=hide hp
 generalize p + 2 = r at *
 generalize p + 1 = q at *
 have hrb:=Nat.le_of_lt y.lt
 go_region_held3 (fun w' => w'.cell? ⟨p,0,none⟩ = some (.bool s1)∧w'.cell? ⟨p,1,none⟩ = some (.slice a1 l1 c1)∧w'.cell? ⟨q,0,none⟩ = some (.bool s2)∧w'.cell? ⟨q,1,none⟩ = some (.slice a2 l2 c2)∧Below r wb w')
  ((refine zs2 x x2 hpr hqr ?_; first | (refine Below.mono ?_ hrb; focus ((with_reducible repeat' first | exact Below.refl _ _ | assumption | refine grow_step (by assumption) ?_ | refine grow_drew ?_ | refine grow_alloc ?_ _ | refine grow_drewN ?_ _); done)) | (refine ((Below.mono ?_ hrb).setCell (Nat.le_refl _) _).setCell (Nat.le_refl _) _; focus ((with_reducible repeat' first | exact Below.refl _ _ | assumption | refine grow_step (by assumption) ?_ | refine grow_drew ?_ | refine grow_alloc ?_ _ | refine grow_drewN ?_ _); done))))
  (first | (go_at_call 194; with_reducible refine (rmul_n (Nm.below hm gw) (Nm.below hn gw) (by omega) (by omega)).mono ?_; rintro e w' ⟨ad,len,cap,rfl,hc,hg,hl'⟩) | (go_at_call 135; with_reducible refine (rnorm_n (zm_of (Nm.below (Cn.nm hc) gw)) (by omega)).mono ?_; rintro e w' ⟨s',ad',len',cap',rfl,hz,hg,hl2'⟩; have y' : ZB w' r false none 0 0:=ZB.below y gw; have y0:=y'.c0; have y1:=y'.c1; have y2:=y'.f 0; have y3:=y'.f 1))
 go_wp2
 rename_i hH
 refine bodyPost_ret (results_cell_row rfl _ _ r 37 _ (0,0) _ rfl (zb_fin y' s' ad' len' cap') Tryz.underlying37 rfl k_f) rfl ?_
 exact ⟨s',ad',len',cap',by simp,zb_zn y' hz _ _ _ _,hp.out.symm ▸ (b0.trans (hH.2.2.2.2.mono (Nat.le_of_lt hpr))),by omega⟩
theorem radd2_n (h1 : Zm Fw w s1 a1 l1 c1 z1) (h2 : Zm Fw w s2 a2 l2 c2 z2) (hl1 : l1≤17179869184) (hl2 : l2≤17179869184) :
  Calls Tryz.prog 122 #[.agg #[.bool s1,.slice a1 l1 c1],.agg #[.bool s2,.slice a2 l2 c2]] w fun e w' => ∃ s' ad len cap,e = .returned (.agg #[.bool s',.slice ad len cap])∧Zn Fw w' s' ad len cap (z1 + z2)∧Below w.heap.size w w'∧len≤max l1 l2 + 1:=by
 obtain ⟨m,hm,rfl⟩:=h1
 obtain ⟨n,hn,rfl⟩:=h2
 by_cases hs : s1 = s2
 ·have hs' : (s1 == s2) = true:=by simp [hs]
  rw [show sg s1 m + sg s2 n = sg s1 (m + n) from by rw [← hs,sg_add]]
  clear hs
  go_enter Tryz.func122,Tryz.ntmps122
  go_wp2_with fail
  have x:=(zb_new w s1 a1 l1 c1).below (below_alloc' (below_alloc _ (.cells #[.bool s2,.slice a2 l2 c2] 37)) (.cells #[.bool false,.slice none 0 0] 37))
  have x2:=(zb_new (w.alloc (.cells #[.bool s1,.slice a1 l1 c1] 37)) s2 a2 l2 c2).below (below_alloc _ (.cells #[.bool false,.slice none 0 0] 37))
  have y:=zb_new ((w.alloc (.cells #[.bool s1,.slice a1 l1 c1] 37)).alloc (.cells #[.bool s2,.slice a2 l2 c2] 37)) false none 0 0
  have b0 : Below w.heap.size w (((w.alloc (.cells #[.bool s1,.slice a1 l1 c1] 37)).alloc (.cells #[.bool s2,.slice a2 l2 c2] 37)).alloc (.cells #[.bool false,.slice none 0 0] 37)):=below_alloc' (below_alloc' (below_alloc _ _) _) _
  rw [show ((w.alloc (.cells #[.bool s1,.slice a1 l1 c1] 37)).alloc (.cells #[.bool s2,.slice a2 l2 c2] 37)).heap.size = w.heap.size + 2 from by simp] at y
  rw [show (w.alloc (.cells #[.bool s1,.slice a1 l1 c1] 37)).heap.size = w.heap.size + 1 from by simp] at x2
  generalize ((w.alloc (.cells #[.bool s1,.slice a1 l1 c1] 37)).alloc (.cells #[.bool s2,.slice a2 l2 c2] 37)).alloc (.cells #[.bool false,.slice none 0 0] 37) = wb at *
  have hpr : w.heap.size < w.heap.size + 2:=by omega
  have hqr : w.heap.size + 1 < w.heap.size + 2:=by omega
  have hpq : w.heap.size < w.heap.size + 1:=by omega
  replace hm:=hm.below b0
  replace hn:=hn.below b0
  generalize hp : w.heap.size = p at *
  replace hp:=hide hp
  generalize p + 2 = r at *
  generalize p + 1 = q at *
  have hrb:=Nat.le_of_lt y.lt
  go_region_held3 (fun w' => w'.cell? ⟨p,0,none⟩ = some (.bool s1)∧w'.cell? ⟨p,1,none⟩ = some (.slice a1 l1 c1)∧w'.cell? ⟨q,0,none⟩ = some (.bool s2)∧w'.cell? ⟨q,1,none⟩ = some (.slice a2 l2 c2)∧Below r wb w')
   ((refine zs2 x x2 hpr hqr ?_; first | (refine Below.mono ?_ hrb; focus ((with_reducible repeat' first | exact Below.refl _ _ | assumption | refine grow_step (by assumption) ?_ | refine grow_drew ?_ | refine grow_alloc ?_ _ | refine grow_drewN ?_ _); done)) | (refine ((Below.mono ?_ hrb).setCell (Nat.le_refl _) _).setCell (Nat.le_refl _) _; focus ((with_reducible repeat' first | exact Below.refl _ _ | assumption | refine grow_step (by assumption) ?_ | refine grow_drew ?_ | refine grow_alloc ?_ _ | refine grow_drewN ?_ _); done))))
   (first | (go_at_call 160; with_reducible refine (radd_n (Nm.below hm gw) (Nm.below hn gw) (by omega) (by omega)).mono ?_; rintro e w' ⟨ad,len,cap,rfl,hc,hg,hl'⟩) | (go_at_call 135; with_reducible refine (rnorm_n (zm_of (Nm.below (Cn.nm hc) gw)) (by omega)).mono ?_; rintro e w' ⟨s',ad',len',cap',rfl,hz,hg,hl2'⟩; have y' : ZB w' r false none 0 0:=ZB.below y gw; have y0:=y'.c0; have y1:=y'.c1; have y2:=y'.f 0; have y3:=y'.f 1))
  go_wp2
  rename_i hH
  refine bodyPost_ret (results_cell_row rfl _ _ r 37 _ (0,0) _ rfl (zb_fin y' s' ad' len' cap') Tryz.underlying37 rfl k_f) rfl ?_
  exact ⟨s',ad',len',cap',by simp,zb_zn y' hz _ _ _ _,hp.out.symm ▸ (b0.trans (hH.2.2.2.2.mono (Nat.le_of_lt hpr))),by omega⟩
 have hs' : (s1 == s2) = false:=by simp [hs]
 have hcm : (m < n→cmpI m n < 0)∧(¬ m < n→0≤cmpI m n):=by unfold cmpI; omega
 by_cases hlt : m < n
 ·rw [← sg_sub2 hs]
  clear hs
  have hcc:=hcm.1 hlt
  clear hcm
  go_enter Tryz.func122,Tryz.ntmps122
  go_wp2_with fail
  have x:=(zb_new w s1 a1 l1 c1).below (below_alloc' (below_alloc _ (.cells #[.bool s2,.slice a2 l2 c2] 37)) (.cells #[.bool false,.slice none 0 0] 37))
  have x2:=(zb_new (w.alloc (.cells #[.bool s1,.slice a1 l1 c1] 37)) s2 a2 l2 c2).below (below_alloc _ (.cells #[.bool false,.slice none 0 0] 37))
  have y:=zb_new ((w.alloc (.cells #[.bool s1,.slice a1 l1 c1] 37)).alloc (.cells #[.bool s2,.slice a2 l2 c2] 37)) false none 0 0
  have b0 : Below w.heap.size w (((w.alloc (.cells #[.bool s1,.slice a1 l1 c1] 37)).alloc (.cells #[.bool s2,.slice a2 l2 c2] 37)).alloc (.cells #[.bool false,.slice none 0 0] 37)):=below_alloc' (below_alloc' (below_alloc _ _) _) _
  rw [show ((w.alloc (.cells #[.bool s1,.slice a1 l1 c1] 37)).alloc (.cells #[.bool s2,.slice a2 l2 c2] 37)).heap.size = w.heap.size + 2 from by simp] at y
  rw [show (w.alloc (.cells #[.bool s1,.slice a1 l1 c1] 37)).heap.size = w.heap.size + 1 from by simp] at x2
  generalize ((w.alloc (.cells #[.bool s1,.slice a1 l1 c1] 37)).alloc (.cells #[.bool s2,.slice a2 l2 c2] 37)).alloc (.cells #[.bool false,.slice none 0 0] 37) = wb at *
  have hpr : w.heap.size < w.heap.size + 2:=by omega
  have hqr : w.heap.size + 1 < w.heap.size + 2:=by omega
  have hpq : w.heap.size < w.heap.size + 1:=by omega
  replace hm:=hm.below b0
  replace hn:=hn.below b0
  generalize hp : w.heap.size = p at *
  replace hp:=hide hp
  generalize p + 2 = r at *
  generalize p + 1 = q at *
  have hrb:=Nat.le_of_lt y.lt
  refine (rcmp_n hm hn).mono ?_
  rintro e w1 ⟨rfl,k1⟩
  generalize cmpI m n = cc at *
  have bb : Below p w w1:=b0.trans (k1.mono (Nat.le_of_lt (Nat.lt_of_lt_of_le hpr hrb)))
  replace x:=x.below k1
  replace x2:=x2.below k1
  replace y:=y.below k1
  replace hm:=hm.below k1
  replace hn:=hn.below k1
  replace hrb:=Nat.le_of_lt y.lt
  replace b0:=bb
  clear k1 bb
  generalize w1 = wb at *
  go_wp2_with fail
  go_region_held3 (fun w' => w'.cell? ⟨p,0,none⟩ = some (.bool s1)∧w'.cell? ⟨p,1,none⟩ = some (.slice a1 l1 c1)∧w'.cell? ⟨q,0,none⟩ = some (.bool s2)∧w'.cell? ⟨q,1,none⟩ = some (.slice a2 l2 c2)∧Below r wb w')
   ((refine zs2 x x2 hpr hqr ?_; first | (refine Below.mono ?_ hrb; focus ((with_reducible repeat' first | exact Below.refl _ _ | assumption | refine grow_step (by assumption) ?_ | refine grow_drew ?_ | refine grow_alloc ?_ _ | refine grow_drewN ?_ _); done)) | (refine ((Below.mono ?_ hrb).setCell (Nat.le_refl _) _).setCell (Nat.le_refl _) _; focus ((with_reducible repeat' first | exact Below.refl _ _ | assumption | refine grow_step (by assumption) ?_ | refine grow_drew ?_ | refine grow_alloc ?_ _ | refine grow_drewN ?_ _); done))))
   (first | (go_at_call 162; with_reducible refine (rsub_n (Nm.below hn gw) (Nm.below hm gw) (by omega) (by omega)).mono ?_; rintro e w' ⟨ad,len,cap,rfl,hc,hg,hl'⟩) | (go_at_call 135; with_reducible refine (rnorm_n (zm_of (Nm.below (Cn.nm hc) gw)) (by omega)).mono ?_; rintro e w' ⟨s',ad',len',cap',rfl,hz,hg,hl2'⟩; have y' : ZB w' r false none 0 0:=ZB.below y gw; have y0:=y'.c0; have y1:=y'.c1; have y2:=y'.f 0; have y3:=y'.f 1))
  go_wp2
  rename_i hH
  refine bodyPost_ret (results_cell_row rfl _ _ r 37 _ (0,0) _ rfl (zb_fin y' s' ad' len' cap') Tryz.underlying37 rfl k_f) rfl ?_
  exact ⟨s',ad',len',cap',by simp,zb_zn y' hz _ _ _ _,hp.out.symm ▸ (b0.trans (hH.2.2.2.2.mono (Nat.le_of_lt hpr))),by omega⟩
 rw [← sg_sub1 hs]
 clear hs
 have hcc:=hcm.2 hlt
 clear hcm
 go_enter Tryz.func122,Tryz.ntmps122
 go_wp2_with fail
 have x:=(zb_new w s1 a1 l1 c1).below (below_alloc' (below_alloc _ (.cells #[.bool s2,.slice a2 l2 c2] 37)) (.cells #[.bool false,.slice none 0 0] 37))
 have x2:=(zb_new (w.alloc (.cells #[.bool s1,.slice a1 l1 c1] 37)) s2 a2 l2 c2).below (below_alloc _ (.cells #[.bool false,.slice none 0 0] 37))
 have y:=zb_new ((w.alloc (.cells #[.bool s1,.slice a1 l1 c1] 37)).alloc (.cells #[.bool s2,.slice a2 l2 c2] 37)) false none 0 0
 have b0 : Below w.heap.size w (((w.alloc (.cells #[.bool s1,.slice a1 l1 c1] 37)).alloc (.cells #[.bool s2,.slice a2 l2 c2] 37)).alloc (.cells #[.bool false,.slice none 0 0] 37)):=below_alloc' (below_alloc' (below_alloc _ _) _) _
 rw [show ((w.alloc (.cells #[.bool s1,.slice a1 l1 c1] 37)).alloc (.cells #[.bool s2,.slice a2 l2 c2] 37)).heap.size = w.heap.size + 2 from by simp] at y
 rw [show (w.alloc (.cells #[.bool s1,.slice a1 l1 c1] 37)).heap.size = w.heap.size + 1 from by simp] at x2
 generalize ((w.alloc (.cells #[.bool s1,.slice a1 l1 c1] 37)).alloc (.cells #[.bool s2,.slice a2 l2 c2] 37)).alloc (.cells #[.bool false,.slice none 0 0] 37) = wb at *
 have hpr : w.heap.size < w.heap.size + 2:=by omega
 have hqr : w.heap.size + 1 < w.heap.size + 2:=by omega
 have hpq : w.heap.size < w.heap.size + 1:=by omega
 replace hm:=hm.below b0
 replace hn:=hn.below b0
 generalize hp : w.heap.size = p at *
 replace hp:=hide hp
 generalize p + 2 = r at *
 generalize p + 1 = q at *
 have hrb:=Nat.le_of_lt y.lt
 refine (rcmp_n hm hn).mono ?_
 rintro e w1 ⟨rfl,k1⟩
 generalize cmpI m n = cc at *
 have bb : Below p w w1:=b0.trans (k1.mono (Nat.le_of_lt (Nat.lt_of_lt_of_le hpr hrb)))
 replace x:=x.below k1
 replace x2:=x2.below k1
 replace y:=y.below k1
 replace hm:=hm.below k1
 replace hn:=hn.below k1
 replace hrb:=Nat.le_of_lt y.lt
 replace b0:=bb
 clear k1 bb
 generalize w1 = wb at *
 go_wp2_with fail
 go_region_held3 (fun w' => w'.cell? ⟨p,0,none⟩ = some (.bool s1)∧w'.cell? ⟨p,1,none⟩ = some (.slice a1 l1 c1)∧w'.cell? ⟨q,0,none⟩ = some (.bool s2)∧w'.cell? ⟨q,1,none⟩ = some (.slice a2 l2 c2)∧Below r wb w')
  ((refine zs2 x x2 hpr hqr ?_; first | (refine Below.mono ?_ hrb; focus ((with_reducible repeat' first | exact Below.refl _ _ | assumption | refine grow_step (by assumption) ?_ | refine grow_drew ?_ | refine grow_alloc ?_ _ | refine grow_drewN ?_ _); done)) | (refine ((Below.mono ?_ hrb).setCell (Nat.le_refl _) _).setCell (Nat.le_refl _) _; focus ((with_reducible repeat' first | exact Below.refl _ _ | assumption | refine grow_step (by assumption) ?_ | refine grow_drew ?_ | refine grow_alloc ?_ _ | refine grow_drewN ?_ _); done))))
  (first | (go_at_call 162; with_reducible refine (rsub_n (Nm.below hm gw) (Nm.below hn gw) (by omega) (by omega)).mono ?_; rintro e w' ⟨ad,len,cap,rfl,hc,hg,hl'⟩) | (go_at_call 135; with_reducible refine (rnorm_n (zm_of (Nm.below (Cn.nm hc) gw)) (by omega)).mono ?_; rintro e w' ⟨s',ad',len',cap',rfl,hz,hg,hl2'⟩; have y' : ZB w' r false none 0 0:=ZB.below y gw; have y0:=y'.c0; have y1:=y'.c1; have y2:=y'.f 0; have y3:=y'.f 1))
 go_wp2
 rename_i hH
 refine bodyPost_ret (results_cell_row rfl _ _ r 37 _ (0,0) _ rfl (zb_fin y' s' ad' len' cap') Tryz.underlying37 rfl k_f) rfl ?_
 exact ⟨s',ad',len',cap',by simp,zb_zn y' hz _ _ _ _,hp.out.symm ▸ (b0.trans (hH.2.2.2.2.mono (Nat.le_of_lt hpr))),by omega⟩
theorem rsub2_n (h1 : Zm Fw w s1 a1 l1 c1 z1) (h2 : Zm Fw w s2 a2 l2 c2 z2) (hl1 : l1≤17179869184) (hl2 : l2≤17179869184) :
  Calls Tryz.prog 124 #[.agg #[.bool s1,.slice a1 l1 c1],.agg #[.bool s2,.slice a2 l2 c2]] w fun e w' => ∃ s' ad len cap,e = .returned (.agg #[.bool s',.slice ad len cap])∧Zn Fw w' s' ad len cap (z1 - z2)∧Below w.heap.size w w'∧len≤max l1 l2 + 1:=by
 have hm:=h1
 have hn:=h2
 rw [show z1 - z2 = z1 + -z2 from by omega]
 go_enter Tryz.func124,Tryz.ntmps124
 go_wp2_with fail
 have x:=(zb_new w s1 a1 l1 c1).below (below_alloc' (below_alloc _ (.cells #[.bool s2,.slice a2 l2 c2] 37)) (.cells #[.bool false,.slice none 0 0] 37))
 have x2:=(zb_new (w.alloc (.cells #[.bool s1,.slice a1 l1 c1] 37)) s2 a2 l2 c2).below (below_alloc _ (.cells #[.bool false,.slice none 0 0] 37))
 have y:=zb_new ((w.alloc (.cells #[.bool s1,.slice a1 l1 c1] 37)).alloc (.cells #[.bool s2,.slice a2 l2 c2] 37)) false none 0 0
 have b0 : Below w.heap.size w (((w.alloc (.cells #[.bool s1,.slice a1 l1 c1] 37)).alloc (.cells #[.bool s2,.slice a2 l2 c2] 37)).alloc (.cells #[.bool false,.slice none 0 0] 37)):=below_alloc' (below_alloc' (below_alloc _ _) _) _
 rw [show ((w.alloc (.cells #[.bool s1,.slice a1 l1 c1] 37)).alloc (.cells #[.bool s2,.slice a2 l2 c2] 37)).heap.size = w.heap.size + 2 from by simp] at y
 rw [show (w.alloc (.cells #[.bool s1,.slice a1 l1 c1] 37)).heap.size = w.heap.size + 1 from by simp] at x2
 generalize ((w.alloc (.cells #[.bool s1,.slice a1 l1 c1] 37)).alloc (.cells #[.bool s2,.slice a2 l2 c2] 37)).alloc (.cells #[.bool false,.slice none 0 0] 37) = wb at *
 have hpr : w.heap.size < w.heap.size + 2:=by omega
 have hqr : w.heap.size + 1 < w.heap.size + 2:=by omega
 have hpq : w.heap.size < w.heap.size + 1:=by omega
 replace hm:=hm.below b0
 replace hn:=hn.below b0
 generalize hp : w.heap.size = p at *
 replace hp:=hide hp
 generalize p + 2 = r at *
 generalize p + 1 = q at *
 have hrb:=Nat.le_of_lt y.lt
 go_region_held3 (fun w' => w'.cell? ⟨p,0,none⟩ = some (.bool s1)∧w'.cell? ⟨p,1,none⟩ = some (.slice a1 l1 c1)∧w'.cell? ⟨q,0,none⟩ = some (.bool s2)∧w'.cell? ⟨q,1,none⟩ = some (.slice a2 l2 c2)∧Below r wb w')
  ((refine zs2 x x2 hpr hqr ?_; first | (refine Below.mono ?_ hrb; focus ((with_reducible repeat' first | exact Below.refl _ _ | assumption | refine grow_step (by assumption) ?_ | refine grow_drew ?_ | refine grow_alloc ?_ _ | refine grow_drewN ?_ _); done)) | (refine ((Below.mono ?_ hrb).setCell (Nat.le_refl _) _).setCell (Nat.le_refl _) _; focus ((with_reducible repeat' first | exact Below.refl _ _ | assumption | refine grow_step (by assumption) ?_ | refine grow_drew ?_ | refine grow_alloc ?_ _ | refine grow_drewN ?_ _); done))))
  (first | (go_at_call 164; with_reducible refine (rneg_n (Zm.below hn gw) (by omega)).mono ?_; rintro e w' ⟨sn,an,ln,cn,rfl,hz2,hg,hl'⟩) | (go_at_call 122; with_reducible refine (radd2_n (Zm.below hm gw) (Zn.zm (Zn.below hz2 gw)) (by omega) (by omega)).mono ?_; rintro e w' ⟨s',ad',len',cap',rfl,hz,hg,hl2'⟩; have y' : ZB w' r false none 0 0:=ZB.below y gw; have y0:=y'.c0; have y1:=y'.c1; have y2:=y'.f 0; have y3:=y'.f 1))
 go_wp2
 rename_i hH
 refine bodyPost_ret (results_cell_row rfl _ _ r 37 _ (0,0) _ rfl (zb_fin y' s' ad' len' cap') Tryz.underlying37 rfl k_f) rfl ?_
 exact ⟨s',ad',len',cap',by simp,zb_zn y' hz _ _ _ _,hp.out.symm ▸ (b0.trans (hH.2.2.2.2.mono (Nat.le_of_lt hpr))),by omega⟩
theorem rdivmod_n (h1 : Zm Fw w s1 a1 l1 c1 z1) (h2 : Zm Fw w s2 a2 l2 c2 z2) (hl1 : l1≤4294967296) (hl2 : l2≤4294967296) (hz : z2 ≠ 0) :
  Calls Tryz.prog 163 #[.agg #[.bool s1,.slice a1 l1 c1],.agg #[.bool s2,.slice a2 l2 c2]] w fun e w' => ∃ sq aq lq cq sr ar lr cr qv rv,e = .returned (.tuple #[.agg #[.bool sq,.slice aq lq cq],.agg #[.bool sr,.slice ar lr cr],.int .i64 0])∧Zn Fw w' sq aq lq cq qv∧Zn Fw w' sr ar lr cr rv∧FD z1 z2 qv rv∧Below w.heap.size w w'∧lq≤l1 + 3∧lr≤l1 + l2 + 5:=by
 have hm:=h1
 have hn:=h2
 clear h1 h2
 go_enter Tryz.func163,Tryz.ntmps163
 go_wp2_with fail
 have x:=(zb_new w s1 a1 l1 c1).below (below_alloc' (below_alloc' (below_alloc _ (.cells #[.bool s2,.slice a2 l2 c2] 37)) (.cells #[.bool false,.slice none 0 0] 37)) (.cells #[.bool false,.slice none 0 0] 37))
 have x2:=(zb_new (w.alloc (.cells #[.bool s1,.slice a1 l1 c1] 37)) s2 a2 l2 c2).below (below_alloc' (below_alloc _ (.cells #[.bool false,.slice none 0 0] 37)) (.cells #[.bool false,.slice none 0 0] 37))
 have y:=(zb_new ((w.alloc (.cells #[.bool s1,.slice a1 l1 c1] 37)).alloc (.cells #[.bool s2,.slice a2 l2 c2] 37)) false none 0 0).below (below_alloc _ (.cells #[.bool false,.slice none 0 0] 37))
 have yt:=zb_new (((w.alloc (.cells #[.bool s1,.slice a1 l1 c1] 37)).alloc (.cells #[.bool s2,.slice a2 l2 c2] 37)).alloc (.cells #[.bool false,.slice none 0 0] 37)) false none 0 0
 have b0 : Below w.heap.size w ((((w.alloc (.cells #[.bool s1,.slice a1 l1 c1] 37)).alloc (.cells #[.bool s2,.slice a2 l2 c2] 37)).alloc (.cells #[.bool false,.slice none 0 0] 37)).alloc (.cells #[.bool false,.slice none 0 0] 37)):=below_alloc' (below_alloc' (below_alloc' (below_alloc _ _) _) _) _
 rw [show (((w.alloc (.cells #[.bool s1,.slice a1 l1 c1] 37)).alloc (.cells #[.bool s2,.slice a2 l2 c2] 37)).alloc (.cells #[.bool false,.slice none 0 0] 37)).heap.size = w.heap.size + 3 from by simp] at yt
 rw [show ((w.alloc (.cells #[.bool s1,.slice a1 l1 c1] 37)).alloc (.cells #[.bool s2,.slice a2 l2 c2] 37)).heap.size = w.heap.size + 2 from by simp] at y
 rw [show (w.alloc (.cells #[.bool s1,.slice a1 l1 c1] 37)).heap.size = w.heap.size + 1 from by simp] at x2
 generalize (((w.alloc (.cells #[.bool s1,.slice a1 l1 c1] 37)).alloc (.cells #[.bool s2,.slice a2 l2 c2] 37)).alloc (.cells #[.bool false,.slice none 0 0] 37)).alloc (.cells #[.bool false,.slice none 0 0] 37) = wb at *
 have hpr : w.heap.size < w.heap.size + 2:=by omega
 have hqr : w.heap.size + 1 < w.heap.size + 2:=by omega
 have hrt : w.heap.size + 2 < w.heap.size + 3:=by omega
 replace hm:=hm.below b0
 replace hn:=hn.below b0
 generalize hp : w.heap.size = p at *
 replace hp:=hide hp
 generalize p + 3 = t at *
 generalize p + 2 = r at *
 generalize p + 1 = q at *
 have hrb:=Nat.le_of_lt y.lt
 refine (rsign_n hn o_m).mono ?_
 rintro e w1 ⟨rfl,k1⟩
 have hv7:=cmpI_ne hz
 have hb7:=cmpI_bd z2 0
 generalize cmpI z2 0 = v7 at *
 replace b0:=b0.trans (k1.mono (Nat.le_of_lt x.lt))
 replace x:=x.below k1
 replace x2:=x2.below k1
 replace y:=y.below k1
 replace yt:=yt.below k1
 replace hm:=hm.below k1
 replace hn:=hn.below k1
 go_upto_region 4 with (fail)
 have u0:=x.c0
 have u1:=x.c1
 go_wp2_with fail
 refine (rnorm_n hm o_m).mono ?_
 rintro e w2 ⟨sx,ax,lx,cx,rfl,nx,k2,hlx⟩
 replace b0:=b0.trans (k2.mono (Nat.le_of_lt x.lt))
 clear u0 u1
 replace x:=x.below k2
 replace x2:=x2.below k2
 replace y:=y.below k2
 replace yt:=yt.below k2
 replace hn:=hn.below k2
 clear hm
 go_upto_region 5 with (fail)
 have x8:=zb_new w2 sx ax lx cx
 have k3:=below_alloc w2 (.cells #[.bool sx,.slice ax lx cx] 37)
 replace b0:=b0.trans (k3.mono (Nat.le_of_lt x.lt))
 have g1 : r ≠ w2.heap.size:=Nat.ne_of_lt y.lt
 have g2 : t ≠ w2.heap.size:=Nat.ne_of_lt yt.lt
 replace x:=x.below k3
 replace x2:=x2.below k3
 replace y:=y.below k3
 replace yt:=yt.below k3
 replace hn:=hn.below k3
 replace nx:=nx.below k3
 generalize w2.alloc (.cells #[.bool sx,.slice ax lx cx] 37) = w3 at *
 generalize w2.heap.size = p8 at *
 clear k3
 have u0:=x2.c0
 have u1:=x2.c1
 go_wp2_with fail
 refine (rnorm_n hn o_m).mono ?_
 rintro e w4 ⟨sy,ay,ly,cy,rfl,ny,k4,hly⟩
 replace b0:=b0.trans (k4.mono (Nat.le_of_lt x.lt))
 clear u0 u1
 replace x:=x.below k4
 replace y:=y.below k4
 replace yt:=yt.below k4
 replace x8:=x8.below k4
 replace nx:=nx.below k4
 clear hn x2
 go_upto_region 6 with (fail)
 have x9:=zb_new w4 sy ay ly cy
 have k5:=below_alloc w4 (.cells #[.bool sy,.slice ay ly cy] 37)
 replace b0:=b0.trans (k5.mono (Nat.le_of_lt x.lt))
 have g3 : r ≠ w4.heap.size:=Nat.ne_of_lt y.lt
 have g4 : t ≠ w4.heap.size:=Nat.ne_of_lt yt.lt
 replace x:=x.below k5
 replace y:=y.below k5
 replace yt:=yt.below k5
 replace x8:=x8.below k5
 replace nx:=nx.below k5
 replace ny:=ny.below k5
 generalize w4.alloc (.cells #[.bool sy,.slice ay ly cy] 37) = w5 at *
 generalize w4.heap.size = p9 at *
 clear k5
 have nx':=nx
 have ny':=ny
 obtain ⟨M,hcM,e1,hs1⟩:=nx'
 obtain ⟨N,hcN,e2,hs2⟩:=ny'
 have hN0 : 0 < N:=by
  have:=hcN.nm.nonneg
  have : N ≠ 0:=fun h => hz (by rw [e2,h]; cases sy <;> simp [sg])
  omega
 have u1:=x8.c1
 have u3:=x9.c1
 go_wp2_with fail
 refine (rdm_n hcM.nm hcN.nm o_m o_m hN0).mono ?_
 rintro e w6 ⟨am,lm,cm,an,ln,cn,rfl,hcm,hcn,k6,hlm,hln⟩
 replace b0:=b0.trans (k6.mono (Nat.le_of_lt x.lt))
 clear u1 u3 hcM hcN
 replace x:=x.below k6
 replace y:=y.below k6
 replace yt:=yt.below k6
 replace x8:=x8.below k6
 replace x9:=x9.below k6
 replace nx:=nx.below k6
 replace ny:=ny.below k6
 clear k6
 go_upto_region 7 with (fail)
 have u0:=x8.c0
 have u2:=x9.c0
 go_wp2_with fail
 refine (rnorm_n (zm_of hcm.nm) o_m).mono ?_
 rintro e w7 ⟨sq,aq,lq,cq,rfl,nq,k7,hlq⟩
 replace b0:=b0.trans (k7.mono (Nat.le_of_lt x.lt))
 clear u0 u2 hcm
 replace x:=x.below k7
 replace y:=y.below k7
 replace yt:=yt.below k7
 replace x8:=x8.below k7
 replace x9:=x9.below k7
 replace nx:=nx.below k7
 replace ny:=ny.below k7
 replace hcn:=hcn.below k7
 clear k7
 go_upto_region 8 with (fail)
 have x12:=zb_new w7 sq aq lq cq
 have k8:=below_alloc w7 (.cells #[.bool sq,.slice aq lq cq] 37)
 replace b0:=b0.trans (k8.mono (Nat.le_of_lt x.lt))
 have g5 : r ≠ w7.heap.size:=Nat.ne_of_lt y.lt
 have g6 : t ≠ w7.heap.size:=Nat.ne_of_lt yt.lt
 have g7 : p8 ≠ w7.heap.size:=Nat.ne_of_lt x8.lt
 have g8 : p9 ≠ w7.heap.size:=Nat.ne_of_lt x9.lt
 have g9 : p < w7.heap.size:=x.lt
 have hrt' : r ≠ t:=by omega
 replace x:=x.below k8
 replace y:=y.below k8
 replace yt:=yt.below k8
 replace x8:=x8.below k8
 replace x9:=x9.below k8
 replace nx:=nx.below k8
 replace ny:=ny.below k8
 replace nq:=nq.below k8
 replace hcn:=hcn.below k8
 generalize w7.alloc (.cells #[.bool sq,.slice aq lq cq] 37) = w8 at *
 generalize w7.heap.size = p12 at *
 clear k8
 have u0:=x8.c0
 have u2:=x9.c0
 by_cases hs : sx = sy
 ·have hs' : (sx == sy) = true:=by simp [hs]
  have HF : FD z1 z2 (M / N) (sg sy (M % N)):=by rw [e1,e2,hs]; exact fd_same hN0
  rw [hs',show sg (!true) (M / N) = M / N from rfl] at nq
  clear hs hcn
  go_wp2_with fail
  clear u0 u2
  have HFD:=fd_rest HF
  go_region_held3 (fun w' => w'.cell? ⟨p8,0,none⟩ = some (.bool sx)∧w'.cell? ⟨p8,1,none⟩ = some (.slice ax lx cx)∧w'.cell? ⟨p9,0,none⟩ = some (.bool sy)∧w'.cell? ⟨p9,1,none⟩ = some (.slice ay ly cy)∧w'.cell? ⟨p12,0,none⟩ = some (.bool sq)∧w'.cell? ⟨p12,1,none⟩ = some (.slice aq lq cq))
   (first | (refine zc3 x8 x9 x12 ?_; focus ((with_reducible repeat' first | exact Below.refl _ _ | assumption | refine grow_step (by assumption) ?_ | refine grow_drew ?_ | refine grow_alloc ?_ _ | refine grow_drewN ?_ _); done)) | (refine zc3r x8 x9 x12 (Ne.symm g1) (Ne.symm g3) (Ne.symm g5) ?_; focus ((with_reducible repeat' first | exact Below.refl _ _ | assumption | refine grow_step (by assumption) ?_ | refine grow_drew ?_ | refine grow_alloc ?_ _ | refine grow_drewN ?_ _); done)) | (refine zc3t x8 x9 x12 (Ne.symm g1) (Ne.symm g3) (Ne.symm g5) (Ne.symm g2) (Ne.symm g4) (Ne.symm g6) ?_; focus ((with_reducible repeat' first | exact Below.refl _ _ | assumption | refine grow_step (by assumption) ?_ | refine grow_drew ?_ | refine grow_alloc ?_ _ | refine grow_drewN ?_ _); done)))
   (first | (go_at_call 165; with_reducible refine (rmul2_n (Zn.zm (Zn.below nq gw)) (Zn.zm (Zn.below ny gw)) (by omega) (by omega)).mono ?_; rintro e wA ⟨sM,aM,lM,cM,rfl,nM,hg,hlM⟩) | (go_at_call 124; with_reducible refine (rsub2_n (Zn.zm (Zn.below nx gw)) (Zn.zm (Zn.below nM gw)) (by omega) (by omega)).mono ?_; rintro e w' ⟨sr,ar,lr,cr,rfl,nr,hg',hlr⟩; have y' : ZB w' r false none 0 0:=ZB.below y gw; have y0:=y'.c0; have y1:=y'.c1; have y2:=y'.f 0; have y3:=y'.f 1; have yt' : ZB w' t false none 0 0:=ZB.below yt gw; have t0:=yt'.c0; have t1:=yt'.c1; have t2:=yt'.f 0; have t3:=yt'.f 1; have nq':=Zn.below nq (show Below _ _ w' from gw); have kB:=show Below w8.heap.size w8 w' from gw))
  have hB : Below p w w':=b0.trans (kB.mono (Nat.le_of_lt x.lt))
  go_wp2
  have y4:=zb_fin y' sq aq lq cq
  have t4:=zb_fin (yt'.only (only2 r w' (.bool sq) (.slice aq lq cq)) (Ne.symm hrt')) sr ar lr cr
  refine bodyPost_ret (results_c2t rfl _ _ r t 37 _ _ (0,0) _ rfl rfl (y4.only (only2 t _ _ _) hrt') t4 Tryz.underlying37 rfl k_f k_f) rfl ?_
  have zq:=zb_zn (yt'.only (only2 r w' (.bool sq) (.slice aq lq cq)) (Ne.symm hrt')) (zb_zn y' nq' sq aq lq cq) sr ar lr cr
  have zr:=zb_zn (yt'.only (only2 r w' (.bool sq) (.slice aq lq cq)) (Ne.symm hrt')) (zb_zn y' nr sq aq lq cq) sr ar lr cr
  exact ⟨sq,aq,lq,cq,sr,ar,lr,cr,_,_,by simp,zq,zr,HFD,hp.out.symm ▸ (((hB.setCell (Nat.le_of_lt hpr) _).setCell (Nat.le_of_lt hpr) _).setCell (by show p≤t; omega) _).setCell (by show p≤t; omega) _,by omega,by omega⟩
 have hs' : (sx == sy) = false:=by simp [hs]
 rw [hs',show sg (!false) (M / N) = sg true (M / N) from rfl] at nq
 go_wp2_with fail
 refine (trim_n hcn.nm o_m).mono ?_
 rintro e w9 ⟨aT,lT,cT,rfl,hcT,k9, -⟩
 have hT:=hcT.len
 replace b0:=b0.trans (k9.mono (Nat.le_of_lt x.lt))
 clear u0 u2 hcT hcn
 replace x:=x.below k9
 replace y:=y.below k9
 replace yt:=yt.below k9
 replace x8:=x8.below k9
 replace x9:=x9.below k9
 replace x12:=x12.below k9
 replace nx:=nx.below k9
 replace ny:=ny.below k9
 replace nq:=nq.below k9
 clear k9
 by_cases hr0 : M % N = 0
 ·obtain rfl : lT = 0:=hT.1 hr0
  have HF : FD z1 z2 (sg true (M / N)) (sg sy (M % N)):=by rw [e1,e2]; exact fd_zero hs hN0 hr0
  clear hs
  go_wp2_with fail
  have HFD:=fd_rest HF
  go_region_held3 (fun w' => w'.cell? ⟨p8,0,none⟩ = some (.bool sx)∧w'.cell? ⟨p8,1,none⟩ = some (.slice ax lx cx)∧w'.cell? ⟨p9,0,none⟩ = some (.bool sy)∧w'.cell? ⟨p9,1,none⟩ = some (.slice ay ly cy)∧w'.cell? ⟨p12,0,none⟩ = some (.bool sq)∧w'.cell? ⟨p12,1,none⟩ = some (.slice aq lq cq))
   (first | (refine zc3 x8 x9 x12 ?_; focus ((with_reducible repeat' first | exact Below.refl _ _ | assumption | refine grow_step (by assumption) ?_ | refine grow_drew ?_ | refine grow_alloc ?_ _ | refine grow_drewN ?_ _); done)) | (refine zc3r x8 x9 x12 (Ne.symm g1) (Ne.symm g3) (Ne.symm g5) ?_; focus ((with_reducible repeat' first | exact Below.refl _ _ | assumption | refine grow_step (by assumption) ?_ | refine grow_drew ?_ | refine grow_alloc ?_ _ | refine grow_drewN ?_ _); done)) | (refine zc3t x8 x9 x12 (Ne.symm g1) (Ne.symm g3) (Ne.symm g5) (Ne.symm g2) (Ne.symm g4) (Ne.symm g6) ?_; focus ((with_reducible repeat' first | exact Below.refl _ _ | assumption | refine grow_step (by assumption) ?_ | refine grow_drew ?_ | refine grow_alloc ?_ _ | refine grow_drewN ?_ _); done)))
   (first | (go_at_call 165; with_reducible refine (rmul2_n (Zn.zm (Zn.below nq gw)) (Zn.zm (Zn.below ny gw)) (by omega) (by omega)).mono ?_; rintro e wA ⟨sM,aM,lM,cM,rfl,nM,hg,hlM⟩) | (go_at_call 124; with_reducible refine (rsub2_n (Zn.zm (Zn.below nx gw)) (Zn.zm (Zn.below nM gw)) (by omega) (by omega)).mono ?_; rintro e w' ⟨sr,ar,lr,cr,rfl,nr,hg',hlr⟩; have y' : ZB w' r false none 0 0:=ZB.below y gw; have y0:=y'.c0; have y1:=y'.c1; have y2:=y'.f 0; have y3:=y'.f 1; have yt' : ZB w' t false none 0 0:=ZB.below yt gw; have t0:=yt'.c0; have t1:=yt'.c1; have t2:=yt'.f 0; have t3:=yt'.f 1; have nq':=Zn.below nq (show Below _ _ w' from gw); have kB:=show Below w9.heap.size w9 w' from gw))
  have hB : Below p w w':=b0.trans (kB.mono (Nat.le_of_lt x.lt))
  go_wp2
  have y4:=zb_fin y' sq aq lq cq
  have t4:=zb_fin (yt'.only (only2 r w' (.bool sq) (.slice aq lq cq)) (Ne.symm hrt')) sr ar lr cr
  refine bodyPost_ret (results_c2t rfl _ _ r t 37 _ _ (0,0) _ rfl rfl (y4.only (only2 t _ _ _) hrt') t4 Tryz.underlying37 rfl k_f k_f) rfl ?_
  have zq:=zb_zn (yt'.only (only2 r w' (.bool sq) (.slice aq lq cq)) (Ne.symm hrt')) (zb_zn y' nq' sq aq lq cq) sr ar lr cr
  have zr:=zb_zn (yt'.only (only2 r w' (.bool sq) (.slice aq lq cq)) (Ne.symm hrt')) (zb_zn y' nr sq aq lq cq) sr ar lr cr
  exact ⟨sq,aq,lq,cq,sr,ar,lr,cr,_,_,by simp,zq,zr,HFD,hp.out.symm ▸ (((hB.setCell (Nat.le_of_lt hpr) _).setCell (Nat.le_of_lt hpr) _).setCell (by show p≤t; omega) _).setCell (by show p≤t; omega) _,by omega,by omega⟩
 have hT0 : 0 < lT:=Nat.pos_of_ne_zero (fun h => hr0 (hT.2 h))
 have HF : FD z1 z2 (sg true (M / N) - 1) (sg sy (N - M % N)):=by
  rw [e1,e2,show sg true (M / N) - 1 = sg true (M / N + 1) from by show -(M / N) - 1 = -(M / N + 1); omega]
  exact fd_up hs hN0 hr0
 clear hs hr0 hT
 have u0:=x12.c0
 have u1:=x12.c1
 have HL : lq≤17179869184:=by omega
 go_wp2_with fail
 go_region_with (first | (go_at_call 121; with_reducible refine (rof_n 1 (by decide) (by decide) _ (Nat.le_trans nq.le (Below.size (show Below w9.heap.size w9 _ from gw)))).mono ?_; rintro e wA ⟨s5,a5,l5,c5,rfl,z5,hg,hl5⟩; have K9:=(show Below w9.heap.size w9 wA from gw); have HL5 : l5≤17179869184:=(by omega); have v0:=(ZB.below x12 K9).c0; have v1:=(ZB.below x12 K9).c1) | (go_at_call 124; refine (rsub2_n (Zn.zm (Zn.below nq K9)) (Zn.zm z5) HL HL5).mono ?_; rintro e wB ⟨sQ,aQ,lQ,cQ,rfl,nQ,hg',hlQ⟩; have kB:=grow_step hg' K9; have xB:=ZB.below x12 kB; have y0:=xB.c0; have y1:=xB.c1; have y2:=xB.f 0; have y3:=xB.f 1))
 all_goals (
  have o:=only2 p12 wB (.bool sQ) (.slice aQ lQ cQ)
  have b1:=b0.trans (kB.mono (Nat.le_of_lt x.lt))
  have b2:=(b1.setCell (p:=⟨p12,0,none⟩) (Nat.le_of_lt g9) (.bool sQ)).setCell (p:=⟨p12,1,none⟩) (Nat.le_of_lt g9) (.slice aQ lQ cQ)
  have X:=(x.below kB).only o (Nat.ne_of_lt g9)
  have Y:=(y.below kB).only o g5
  have YT:=(yt.below kB).only o g6
  have X8:=(x8.below kB).only o g7
  have X9:=(x9.below kB).only o g8
  have NX:=zb_zn xB (nx.below kB) sQ aQ lQ cQ
  have NY:=zb_zn xB (ny.below kB) sQ aQ lQ cQ
  have NQ:=zb_zn xB nQ sQ aQ lQ cQ
  have X12:=zb_fin xB sQ aQ lQ cQ
  generalize (wB.setCell ⟨p12,0,none⟩ (.bool sQ)).setCell ⟨p12,1,none⟩ (.slice aQ lQ cQ) = wQ at *
  clear b0 b1 x y yt x8 x9 x12 nx ny nq nQ u0 u1 v0 v1 y0 y1 y2 y3 o xB
  have b0:=b2
  have x:=X
  have y:=Y
  have yt:=YT
  have x8:=X8
  have x9:=X9
  have x12:=X12
  have nx:=NX
  have ny:=NY
  have nq:=NQ
  clear b2 X Y YT X8 X9 X12 NX NY NQ
  go_wp2_with fail
  have HFD:=fd_rest HF
  go_region_held3 (fun w' => w'.cell? ⟨p8,0,none⟩ = some (.bool sx)∧w'.cell? ⟨p8,1,none⟩ = some (.slice ax lx cx)∧w'.cell? ⟨p9,0,none⟩ = some (.bool sy)∧w'.cell? ⟨p9,1,none⟩ = some (.slice ay ly cy)∧w'.cell? ⟨p12,0,none⟩ = some (.bool sQ)∧w'.cell? ⟨p12,1,none⟩ = some (.slice aQ lQ cQ))
   (first | (refine zc3 x8 x9 x12 ?_; focus ((with_reducible repeat' first | exact Below.refl _ _ | assumption | refine grow_step (by assumption) ?_ | refine grow_drew ?_ | refine grow_alloc ?_ _ | refine grow_drewN ?_ _); done)) | (refine zc3r x8 x9 x12 (Ne.symm g1) (Ne.symm g3) (Ne.symm g5) ?_; focus ((with_reducible repeat' first | exact Below.refl _ _ | assumption | refine grow_step (by assumption) ?_ | refine grow_drew ?_ | refine grow_alloc ?_ _ | refine grow_drewN ?_ _); done)) | (refine zc3t x8 x9 x12 (Ne.symm g1) (Ne.symm g3) (Ne.symm g5) (Ne.symm g2) (Ne.symm g4) (Ne.symm g6) ?_; focus ((with_reducible repeat' first | exact Below.refl _ _ | assumption | refine grow_step (by assumption) ?_ | refine grow_drew ?_ | refine grow_alloc ?_ _ | refine grow_drewN ?_ _); done)))
   (first | (go_at_call 165; with_reducible refine (rmul2_n (Zn.zm (Zn.below nq gw)) (Zn.zm (Zn.below ny gw)) (by omega) (by omega)).mono ?_; rintro e wA ⟨sM,aM,lM,cM,rfl,nM,hg,hlM⟩) | (go_at_call 124; with_reducible refine (rsub2_n (Zn.zm (Zn.below nx gw)) (Zn.zm (Zn.below nM gw)) (by omega) (by omega)).mono ?_; rintro e w' ⟨sr,ar,lr,cr,rfl,nr,hg',hlr⟩; have y' : ZB w' r false none 0 0:=ZB.below y gw; have y0:=y'.c0; have y1:=y'.c1; have y2:=y'.f 0; have y3:=y'.f 1; have yt' : ZB w' t false none 0 0:=ZB.below yt gw; have t0:=yt'.c0; have t1:=yt'.c1; have t2:=yt'.f 0; have t3:=yt'.f 1; have nq':=Zn.below nq (show Below _ _ w' from gw); have kB:=show Below wQ.heap.size wQ w' from gw))
  have hB : Below p w w':=b0.trans (kB.mono (Nat.le_of_lt x.lt))
  go_wp2
  have y4:=zb_fin y' sQ aQ lQ cQ
  have t4:=zb_fin (yt'.only (only2 r w' (.bool sQ) (.slice aQ lQ cQ)) (Ne.symm hrt')) sr ar lr cr
  refine bodyPost_ret (results_c2t rfl _ _ r t 37 _ _ (0,0) _ rfl rfl (y4.only (only2 t _ _ _) hrt') t4 Tryz.underlying37 rfl k_f k_f) rfl ?_
  have zq:=zb_zn (yt'.only (only2 r w' (.bool sQ) (.slice aQ lQ cQ)) (Ne.symm hrt')) (zb_zn y' nq' sQ aQ lQ cQ) sr ar lr cr
  have zr:=zb_zn (yt'.only (only2 r w' (.bool sQ) (.slice aQ lQ cQ)) (Ne.symm hrt')) (zb_zn y' nr sQ aQ lQ cQ) sr ar lr cr
  exact ⟨sQ,aQ,lQ,cQ,sr,ar,lr,cr,_,_,by simp,zq,zr,HFD,hp.out.symm ▸ (((hB.setCell (Nat.le_of_lt hpr) _).setCell (Nat.le_of_lt hpr) _).setCell (by show p≤t; omega) _).setCell (by show p≤t; omega) _,by omega,by omega⟩)
theorem fd_div {a b q r : Int} (h : FD a b q r) (hb : 0 < b) : q = a / b∧r = a % b:=by
 obtain ⟨h1,h2⟩:=h
 rcases h2 with ⟨h3,h4⟩ | ⟨h3,h4⟩
 ·subst h1
  rw [Int.add_comm,Int.add_mul_ediv_right _ _ o_m,Int.ediv_eq_zero_of_lt h3 h4,Int.add_mul_emod_self_right,Int.emod_eq_of_lt h3 h4]
  exact ⟨by omega,rfl⟩
 omega
theorem rfloor6_n (h1 : Zm Fw w s1 a1 l1 c1 z1) (h2 : Zm Fw w s2 a2 l2 c2 z2) (hl1 : l1≤4294967296) (hl2 : l2≤4294967296) (hz : 0 < z2) :
  Calls Tryz.prog 123 #[.agg #[.bool s1,.slice a1 l1 c1],.agg #[.bool s2,.slice a2 l2 c2]] w fun e w' => ∃ s a l c,e = .returned (.agg #[.bool s,.slice a l c])∧Zn Fw w' s a l c (z1 / z2)∧Below w.heap.size w w'∧l≤l1 + 3:=by
 go_enter Tryz.func123,Tryz.ntmps123
 go_wp2_with fail
 have y:=zb_new ((w.alloc (.cells #[.bool s1,.slice a1 l1 c1] 37)).alloc (.cells #[.bool s2,.slice a2 l2 c2] 37)) false none 0 0
 have b0 : Below w.heap.size w (((w.alloc (.cells #[.bool s1,.slice a1 l1 c1] 37)).alloc (.cells #[.bool s2,.slice a2 l2 c2] 37)).alloc (.cells #[.bool false,.slice none 0 0] 37)):=below_alloc' (below_alloc' (below_alloc _ _) _) _
 rw [show ((w.alloc (.cells #[.bool s1,.slice a1 l1 c1] 37)).alloc (.cells #[.bool s2,.slice a2 l2 c2] 37)).heap.size = w.heap.size + 1 + 1 from by simp] at y
 generalize ((w.alloc (.cells #[.bool s1,.slice a1 l1 c1] 37)).alloc (.cells #[.bool s2,.slice a2 l2 c2] 37)).alloc (.cells #[.bool false,.slice none 0 0] 37) = wb at *
 have hr : w.heap.size≤w.heap.size + 1 + 1:=by omega
 generalize w.heap.size + 1 + 1 = r at *
 refine (rdivmod_n (h1.below b0) (h2.below b0) hl1 hl2 o_m).mono ?_
 rintro e w1 ⟨sq,aq,lq,cq,sr,ar,lr,cr,qv,rv,rfl,hzq,hzr,hFD,k1,hlq,hlr⟩
 have hval : qv = z1 / z2∧rv = z1 % z2:=fd_div hFD hz
 obtain ⟨rfl,rfl⟩:=hval
 have kk:=hide (grow_step k1 b0)
 have y1:=y.below k1
 clear k1 b0 y h1 h2
 have ka:=below_alloc w1 (.cells #[.bool sq,.slice aq lq cq] 37)
 have kb:=below_alloc (w1.alloc (.cells #[.bool sq,.slice aq lq cq] 37)) (.cells #[.bool sr,.slice ar lr cr] 37)
 have kc:=grow_step kb ka
 have y2:=y1.below kc
 have y3:=y2.c0
 have y4:=y2.c1
 have y5:=y2.f 0
 have y6:=y2.f 1
 have hz9:=hide (zb_zn y2 (hzq.below kc) sq aq lq cq)
 have hk9:=hide (((grow_step kc kk.out).setCell (p:=⟨r,0,none⟩) hr (.bool sq)).setCell (p:=⟨r,1,none⟩) hr (.slice aq lq cq))
 clear ka kb kc
 go_wp2
 refine bodyPost_ret (results_cell_row rfl _ _ r 37 _ (0,0) _ rfl (zb_fin y2 sq aq lq cq) Tryz.underlying37 rfl k_f) rfl ?_
 exact ⟨sq,aq,lq,cq,by simp,hz9.out,hk9.out,by omega⟩
theorem rmod6_n (h1 : Zm Fw w s1 a1 l1 c1 z1) (h2 : Zm Fw w s2 a2 l2 c2 z2) (hl1 : l1≤4294967296) (hl2 : l2≤4294967296) (hz : 0 < z2) :
  Calls Tryz.prog 127 #[.agg #[.bool s1,.slice a1 l1 c1],.agg #[.bool s2,.slice a2 l2 c2]] w fun e w' => ∃ s a l c,e = .returned (.agg #[.bool s,.slice a l c])∧Zn Fw w' s a l c (z1 % z2)∧Below w.heap.size w w'∧l≤l1 + l2 + 5:=by
 go_enter Tryz.func127,Tryz.ntmps127
 go_wp2_with fail
 have y:=zb_new ((w.alloc (.cells #[.bool s1,.slice a1 l1 c1] 37)).alloc (.cells #[.bool s2,.slice a2 l2 c2] 37)) false none 0 0
 have b0 : Below w.heap.size w (((w.alloc (.cells #[.bool s1,.slice a1 l1 c1] 37)).alloc (.cells #[.bool s2,.slice a2 l2 c2] 37)).alloc (.cells #[.bool false,.slice none 0 0] 37)):=below_alloc' (below_alloc' (below_alloc _ _) _) _
 rw [show ((w.alloc (.cells #[.bool s1,.slice a1 l1 c1] 37)).alloc (.cells #[.bool s2,.slice a2 l2 c2] 37)).heap.size = w.heap.size + 1 + 1 from by simp] at y
 generalize ((w.alloc (.cells #[.bool s1,.slice a1 l1 c1] 37)).alloc (.cells #[.bool s2,.slice a2 l2 c2] 37)).alloc (.cells #[.bool false,.slice none 0 0] 37) = wb at *
 have hr : w.heap.size≤w.heap.size + 1 + 1:=by omega
 generalize w.heap.size + 1 + 1 = r at *
 refine (rdivmod_n (h1.below b0) (h2.below b0) hl1 hl2 o_m).mono ?_
 rintro e w1 ⟨sq,aq,lq,cq,sr,ar,lr,cr,qv,rv,rfl,hzq,hzr,hFD,k1,hlq,hlr⟩
 have hval : qv = z1 / z2∧rv = z1 % z2:=fd_div hFD hz
 obtain ⟨rfl,rfl⟩:=hval
 have kk:=hide (grow_step k1 b0)
 have y1:=y.below k1
 clear k1 b0 y h1 h2
 have ka:=below_alloc w1 (.cells #[.bool sq,.slice aq lq cq] 37)
 have kb:=below_alloc (w1.alloc (.cells #[.bool sq,.slice aq lq cq] 37)) (.cells #[.bool sr,.slice ar lr cr] 37)
 have kc:=grow_step kb ka
 have y2:=y1.below kc
 have y3:=y2.c0
 have y4:=y2.c1
 have y5:=y2.f 0
 have y6:=y2.f 1
 have hz9:=hide (zb_zn y2 (hzr.below kc) sr ar lr cr)
 have hk9:=hide (((grow_step kc kk.out).setCell (p:=⟨r,0,none⟩) hr (.bool sr)).setCell (p:=⟨r,1,none⟩) hr (.slice ar lr cr))
 clear ka kb kc
 go_wp2
 refine bodyPost_ret (results_cell_row rfl _ _ r 37 _ (0,0) _ rfl (zb_fin y2 sr ar lr cr) Tryz.underlying37 rfl k_f) rfl ?_
 exact ⟨sr,ar,lr,cr,by simp,hz9.out,hk9.out,by omega⟩
end Go.Proofs.YtcfmkjegolpgaaaGreatDoor.Lw
namespace Go.Proofs.YtcfmkjegolpgaaaGreatDoor.Low
open Go.RowKit
open Lw (Lo)

variable {F len cap l c l1 c1 l2 c2 : Nat} {w w' : World} {s s1 s2 : Bool} {ad a a1 a2 : Option Addr} {z z1 z2 : Int}
def Zm (F : Nat) (w : World) (s : Bool) (ad : Option Addr) (len cap : Nat) (z : Int) : Prop:=Go.Proofs.YtcfmkjegolpgaaaGreatDoor.Zm w s ad len cap z∧(len = 0 ∨ F≤w.heap.size)
def Zn (F : Nat) (w : World) (s : Bool) (ad : Option Addr) (len cap : Nat) (z : Int) : Prop:=Go.Proofs.YtcfmkjegolpgaaaGreatDoor.Zn w s ad len cap z∧Lo F ad len
theorem Zm.old (h : Zm F w s ad len cap z) : Go.Proofs.YtcfmkjegolpgaaaGreatDoor.Zm w s ad len cap z:=h.1
theorem Zn.old (h : Zn F w s ad len cap z) : Go.Proofs.YtcfmkjegolpgaaaGreatDoor.Zn w s ad len cap z:=h.1
theorem Zm.mk (h : Go.Proofs.YtcfmkjegolpgaaaGreatDoor.Zm w s ad len cap z) (hF : F≤w.heap.size) : Zm F w s ad len cap z:=⟨h,.inr hF⟩
theorem Zn.zm (h : Zn F w s ad len cap z) : Zm F w s ad len cap z:=by
 refine ⟨h.1.zm,?_⟩
 rcases h.2 with h0 | ⟨b,off,rfl,hb⟩
 ·exact .inl h0
 obtain ⟨⟨n,⟨zs,⟨_,_,_,_,h5⟩,_⟩,_⟩,_⟩:=h
 rcases h5 with ⟨h6,_⟩ | ⟨a,ha,h6 | ⟨b',off',rfl,h7,_⟩⟩
 ·cases h6
 ·exact .inl h6
 cases ha; exact .inr (Nat.le_trans hb (Nat.le_of_lt h7))
theorem Zm.below (h : Zm F w s ad len cap z) (hb : Below w.heap.size w w') : Zm F w' s ad len cap z:=⟨h.1.below hb,h.2.imp id (fun h => Nat.le_trans h hb.size)⟩
theorem Zn.below (h : Zn F w s ad len cap z) (hb : Below w.heap.size w w') : Zn F w' s ad len cap z:=⟨h.1.below hb,h.2⟩
theorem zm_zero (h : Go.Proofs.YtcfmkjegolpgaaaGreatDoor.Zm w s ad 0 cap z) : z = 0:=by
 obtain ⟨n,⟨zs,⟨h1,_⟩,h2⟩,h3⟩:=h
 obtain rfl:=List.length_eq_zero_iff.1 h1
 have : n = 0:=h2.symm.trans (by simp [val,vl])
 rw [h3,this]
 cases s <;> simp [sg]
theorem zn_len (h : Go.Proofs.YtcfmkjegolpgaaaGreatDoor.Zn w s ad len cap z) (hz : z = 0) : len = 0:=by
 obtain ⟨n,h1,h2,h3⟩:=h
 refine h1.len.1 ?_
 cases s <;> simp [sg] at h2 <;> omega
theorem of_lw (h : Lw.Zn F w s ad len cap z) : Zn F w s ad len cap z:=⟨h.old,h.lo⟩
theorem rnorm_n (h : Zm F w s a l c z) (hl : l≤1099511627776) :
  Calls Tryz.prog 135 #[.agg #[.bool s,.slice a l c]] w fun e w' => ∃ s' ad len cap,e = .returned (.agg #[.bool s',.slice ad len cap])∧Zn F w' s' ad len cap z∧Below w.heap.size w w'∧len≤l:=by
 rcases h.2 with h0 | hF
 ·refine (Lw.rnorm_n (Fw:=0) (.mk h.1 (Nat.zero_le _)) hl).mono ?_
  rintro e w' ⟨s',ad,len,cap,h1,h2,h3,h4⟩
  exact ⟨s',ad,len,cap,h1,⟨h2.old,.inl o_m⟩,h3,h4⟩
 refine (Lw.rnorm_n (.mk h.1 hF) hl).mono ?_
 rintro e w' ⟨s',ad,len,cap,h1,h2,h3⟩
 exact ⟨s',ad,len,cap,h1,of_lw h2,h3⟩
theorem rabs_n (h : Zm F w s a l c z) (hl : l≤1099511627776) :
  Calls Tryz.prog 125 #[.agg #[.bool s,.slice a l c]] w fun e w' => ∃ s' ad len cap,e = .returned (.agg #[.bool s',.slice ad len cap])∧Zn F w' s' ad len cap ((z.natAbs : Int))∧Below w.heap.size w w'∧len≤l:=by
 rcases h.2 with h0 | hF
 ·refine (Lw.rabs_n (Fw:=0) (.mk h.1 (Nat.zero_le _)) hl).mono ?_
  rintro e w' ⟨s',ad,len,cap,h1,h2,h3,h4⟩
  exact ⟨s',ad,len,cap,h1,⟨h2.old,.inl o_m⟩,h3,h4⟩
 refine (Lw.rabs_n (.mk h.1 hF) hl).mono ?_
 rintro e w' ⟨s',ad,len,cap,h1,h2,h3⟩
 exact ⟨s',ad,len,cap,h1,of_lw h2,h3⟩
theorem rsign_n (h : Zm F w s a l c z) (hl : l≤1099511627776) :
  Calls Tryz.prog 117 #[.agg #[.bool s,.slice a l c]] w fun e w' => e = .returned (.int .i64 (cmpI z 0))∧Below w.heap.size w w':=Go.Proofs.YtcfmkjegolpgaaaGreatDoor.rsign_n h.old hl
theorem radd2_n (h1 : Zm F w s1 a1 l1 c1 z1) (h2 : Zm F w s2 a2 l2 c2 z2) (hl1 : l1≤17179869184) (hl2 : l2≤17179869184) :
  Calls Tryz.prog 122 #[.agg #[.bool s1,.slice a1 l1 c1],.agg #[.bool s2,.slice a2 l2 c2]] w fun e w' => ∃ s' ad len cap,e = .returned (.agg #[.bool s',.slice ad len cap])∧Zn F w' s' ad len cap (z1 + z2)∧Below w.heap.size w w'∧len≤max l1 l2 + 1:=by
 by_cases hF : F≤w.heap.size
 ·refine (Lw.radd2_n (.mk h1.1 hF) (.mk h2.1 hF) hl1 hl2).mono ?_
  rintro e w' ⟨s',ad,len,cap,h1,h2,h3⟩
  exact ⟨s',ad,len,cap,h1,of_lw h2,h3⟩
 have e1:=h1.2.resolve_right hF
 have e2:=h2.2.resolve_right hF
 subst e1 e2
 have v1:=zm_zero h1.1
 have v2:=zm_zero h2.1
 subst v1 v2
 refine (Lw.radd2_n (Fw:=0) (.mk h1.1 (Nat.zero_le _)) (.mk h2.1 (Nat.zero_le _)) hl1 hl2).mono ?_
 rintro e w' ⟨s',ad,len,cap,h1,h2,h3⟩
 exact ⟨s',ad,len,cap,h1,⟨h2.old,.inl (zn_len h2.old (by decide))⟩,h3⟩
theorem rsub2_n (h1 : Zm F w s1 a1 l1 c1 z1) (h2 : Zm F w s2 a2 l2 c2 z2) (hl1 : l1≤17179869184) (hl2 : l2≤17179869184) :
  Calls Tryz.prog 124 #[.agg #[.bool s1,.slice a1 l1 c1],.agg #[.bool s2,.slice a2 l2 c2]] w fun e w' => ∃ s' ad len cap,e = .returned (.agg #[.bool s',.slice ad len cap])∧Zn F w' s' ad len cap (z1 - z2)∧Below w.heap.size w w'∧len≤max l1 l2 + 1:=by
 by_cases hF : F≤w.heap.size
 ·refine (Lw.rsub2_n (.mk h1.1 hF) (.mk h2.1 hF) hl1 hl2).mono ?_
  rintro e w' ⟨s',ad,len,cap,h1,h2,h3⟩
  exact ⟨s',ad,len,cap,h1,of_lw h2,h3⟩
 have e1:=h1.2.resolve_right hF
 have e2:=h2.2.resolve_right hF
 subst e1 e2
 have v1:=zm_zero h1.1
 have v2:=zm_zero h2.1
 subst v1 v2
 refine (Lw.rsub2_n (Fw:=0) (.mk h1.1 (Nat.zero_le _)) (.mk h2.1 (Nat.zero_le _)) hl1 hl2).mono ?_
 rintro e w' ⟨s',ad,len,cap,h1,h2,h3⟩
 exact ⟨s',ad,len,cap,h1,⟨h2.old,.inl (zn_len h2.old (by decide))⟩,h3⟩
theorem rmul2_n (h1 : Zm F w s1 a1 l1 c1 z1) (h2 : Zm F w s2 a2 l2 c2 z2) (hl1 : l1≤17179869184) (hl2 : l2≤17179869184) :
  Calls Tryz.prog 165 #[.agg #[.bool s1,.slice a1 l1 c1],.agg #[.bool s2,.slice a2 l2 c2]] w fun e w' => ∃ s' ad len cap,e = .returned (.agg #[.bool s',.slice ad len cap])∧Zn F w' s' ad len cap (z1 * z2)∧Below w.heap.size w w'∧len≤l1 + l2:=by
 by_cases hF : F≤w.heap.size
 ·refine (Lw.rmul2_n (.mk h1.1 hF) (.mk h2.1 hF) hl1 hl2).mono ?_
  rintro e w' ⟨s',ad,len,cap,h1,h2,h3⟩
  exact ⟨s',ad,len,cap,h1,of_lw h2,h3⟩
 have e1:=h1.2.resolve_right hF
 have e2:=h2.2.resolve_right hF
 subst e1 e2
 have v1:=zm_zero h1.1
 have v2:=zm_zero h2.1
 subst v1 v2
 refine (Lw.rmul2_n (Fw:=0) (.mk h1.1 (Nat.zero_le _)) (.mk h2.1 (Nat.zero_le _)) hl1 hl2).mono ?_
 rintro e w' ⟨s',ad,len,cap,h1,h2,h3⟩
 exact ⟨s',ad,len,cap,h1,⟨h2.old,.inl (zn_len h2.old (by decide))⟩,h3⟩
theorem rfloor6_n (h1 : Zm F w s1 a1 l1 c1 z1) (h2 : Go.Proofs.YtcfmkjegolpgaaaGreatDoor.Zm w s2 a2 l2 c2 z2) (hl1 : l1≤4294967296) (hl2 : l2≤4294967296) (hz : 0 < z2) :
  Calls Tryz.prog 123 #[.agg #[.bool s1,.slice a1 l1 c1],.agg #[.bool s2,.slice a2 l2 c2]] w fun e w' => ∃ s a l c,e = .returned (.agg #[.bool s,.slice a l c])∧Zn F w' s a l c (z1 / z2)∧Below w.heap.size w w'∧l≤l1 + 3:=by
 rcases h1.2 with e1 | hF
 ·subst e1
  have v1:=zm_zero h1.1
  subst v1
  refine (Lw.rfloor6_n (Fw:=0) (.mk h1.1 (Nat.zero_le _)) (.mk h2 (Nat.zero_le _)) hl1 hl2 hz).mono ?_
  rintro e w' ⟨s',ad,len,cap,h1,h2,h3⟩
  exact ⟨s',ad,len,cap,h1,⟨h2.old,.inl (zn_len h2.old (by simp))⟩,h3⟩
 refine (Lw.rfloor6_n (.mk h1.1 hF) (.mk h2 hF) hl1 hl2 hz).mono ?_
 rintro e w' ⟨s',ad,len,cap,h1,h2,h3⟩
 exact ⟨s',ad,len,cap,h1,of_lw h2,h3⟩
theorem rmod6_n (h1 : Zm F w s1 a1 l1 c1 z1) (h2 : Go.Proofs.YtcfmkjegolpgaaaGreatDoor.Zm w s2 a2 l2 c2 z2) (hl1 : l1≤4294967296) (hl2 : l2≤4294967296) (hz : 0 < z2) :
  Calls Tryz.prog 127 #[.agg #[.bool s1,.slice a1 l1 c1],.agg #[.bool s2,.slice a2 l2 c2]] w fun e w' => ∃ s a l c,e = .returned (.agg #[.bool s,.slice a l c])∧Zn F w' s a l c (z1 % z2)∧Below w.heap.size w w'∧l≤l1 + l2 + 5:=by
 rcases h1.2 with e1 | hF
 ·subst e1
  have v1:=zm_zero h1.1
  subst v1
  refine (Lw.rmod6_n (Fw:=0) (.mk h1.1 (Nat.zero_le _)) (.mk h2 (Nat.zero_le _)) hl1 hl2 hz).mono ?_
  rintro e w' ⟨s',ad,len,cap,h1,h2,h3⟩
  exact ⟨s',ad,len,cap,h1,⟨h2.old,.inl (zn_len h2.old (by simp))⟩,h3⟩
 refine (Lw.rmod6_n (.mk h1.1 hF) (.mk h2 hF) hl1 hl2 hz).mono ?_
 rintro e w' ⟨s',ad,len,cap,h1,h2,h3⟩
 exact ⟨s',ad,len,cap,h1,of_lw h2,h3⟩
def FLE (F : Nat) (w : World) : Prop:=F≤w.heap.size
theorem FLE.le (h : FLE F w) (k : Below w.heap.size w w') : F≤w'.heap.size:=Nat.le_trans h k.size
theorem rof_n (n : Int) (h0 : -9223372036854775808≤n) (h1 : n≤9223372036854775807) (w : World) (hF : F≤w.heap.size) :
  Calls Tryz.prog 121 #[.int .i64 n] w fun e w' => ∃ s' ad len cap,e = .returned (.agg #[.bool s',.slice ad len cap])∧Zn F w' s' ad len cap n∧Below w.heap.size w w'∧len≤2:=by
 refine (Lw.rof_n n h0 h1 w hF).mono ?_
 rintro e w' ⟨s',ad,len,cap,h1,h2,h3⟩
 exact ⟨s',ad,len,cap,h1,of_lw h2,h3⟩
end Go.Proofs.YtcfmkjegolpgaaaGreatDoor.Low
