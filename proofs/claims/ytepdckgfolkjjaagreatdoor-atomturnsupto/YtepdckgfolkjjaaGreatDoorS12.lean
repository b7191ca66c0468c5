/-
 Several texts in one: ZD,ZF1,ZF2.
-/
import Derived.Test.YtepdckgfolkjjaaGreatDoorS09
import Derived.Test.YtepdckgfolkjjaaGreatDoorS11
import Derived.Deep.DeepCutAuto
namespace Go.Proofs.YtepdckgfolkjjaaGreatDoor
open Go.RowKit

variable {wb w' : World} {p1 p2 p3 l1 c1 l2 c2 l3 c3 : Nat} {s1 s2 s3 : Bool} {a1 a2 a3 : Option Addr}
theorem fd_rest {a b q r : Int} (h : FD a b q r) : FD a b q (a - q * b):=by
 have e : a - q * b = r:=by have:=h.1; omega
 rw [e]; exact h
theorem zc3 (x1 : ZB wb p1 s1 a1 l1 c1) (x2 : ZB wb p2 s2 a2 l2 c2) (x3 : ZB wb p3 s3 a3 l3 c3) (k : Below wb.heap.size wb w') :
  w'.cell? ⟨p1,0,none⟩ = some (.bool s1)∧w'.cell? ⟨p1,1,none⟩ = some (.slice a1 l1 c1)∧w'.cell? ⟨p2,0,none⟩ = some (.bool s2)∧w'.cell? ⟨p2,1,none⟩ = some (.slice a2 l2 c2)∧w'.cell? ⟨p3,0,none⟩ = some (.bool s3)∧w'.cell? ⟨p3,1,none⟩ = some (.slice a3 l3 c3) :=
 ⟨(x1.below k).c0,(x1.below k).c1,(x2.below k).c0,(x2.below k).c1,(x3.below k).c0,(x3.below k).c1⟩
theorem zc3r {r : Nat} {v v' : Value} (x1 : ZB wb p1 s1 a1 l1 c1) (x2 : ZB wb p2 s2 a2 l2 c2) (x3 : ZB wb p3 s3 a3 l3 c3) (h1 : p1 ≠ r) (h2 : p2 ≠ r) (h3 : p3 ≠ r) (k : Below wb.heap.size wb w') :
  ((w'.setCell ⟨r,0,none⟩ v).setCell ⟨r,1,none⟩ v').cell? ⟨p1,0,none⟩ = some (.bool s1)∧((w'.setCell ⟨r,0,none⟩ v).setCell ⟨r,1,none⟩ v').cell? ⟨p1,1,none⟩ = some (.slice a1 l1 c1)∧((w'.setCell ⟨r,0,none⟩ v).setCell ⟨r,1,none⟩ v').cell? ⟨p2,0,none⟩ = some (.bool s2)∧((w'.setCell ⟨r,0,none⟩ v).setCell ⟨r,1,none⟩ v').cell? ⟨p2,1,none⟩ = some (.slice a2 l2 c2)∧((w'.setCell ⟨r,0,none⟩ v).setCell ⟨r,1,none⟩ v').cell? ⟨p3,0,none⟩ = some (.bool s3)∧((w'.setCell ⟨r,0,none⟩ v).setCell ⟨r,1,none⟩ v').cell? ⟨p3,1,none⟩ = some (.slice a3 l3 c3):=by
 have y1:=(x1.below k).only (only2 r w' v v') h1
 have y2:=(x2.below k).only (only2 r w' v v') h2
 have y3:=(x3.below k).only (only2 r w' v v') h3
 exact ⟨y1.c0,y1.c1,y2.c0,y2.c1,y3.c0,y3.c1⟩
theorem zc3t {r t : Nat} {v v' u u' : Value} (x1 : ZB wb p1 s1 a1 l1 c1) (x2 : ZB wb p2 s2 a2 l2 c2) (x3 : ZB wb p3 s3 a3 l3 c3) (h1 : p1 ≠ r) (h2 : p2 ≠ r) (h3 : p3 ≠ r) (g1 : p1 ≠ t) (g2 : p2 ≠ t) (g3 : p3 ≠ t) (k : Below wb.heap.size wb w') :
  ((((w'.setCell ⟨r,0,none⟩ v).setCell ⟨r,1,none⟩ v').setCell ⟨t,0,none⟩ u).setCell ⟨t,1,none⟩ u').cell? ⟨p1,0,none⟩ = some (.bool s1)∧((((w'.setCell ⟨r,0,none⟩ v).setCell ⟨r,1,none⟩ v').setCell ⟨t,0,none⟩ u).setCell ⟨t,1,none⟩ u').cell? ⟨p1,1,none⟩ = some (.slice a1 l1 c1)∧((((w'.setCell ⟨r,0,none⟩ v).setCell ⟨r,1,none⟩ v').setCell ⟨t,0,none⟩ u).setCell ⟨t,1,none⟩ u').cell? ⟨p2,0,none⟩ = some (.bool s2)∧((((w'.setCell ⟨r,0,none⟩ v).setCell ⟨r,1,none⟩ v').setCell ⟨t,0,none⟩ u).setCell ⟨t,1,none⟩ u').cell? ⟨p2,1,none⟩ = some (.slice a2 l2 c2)∧((((w'.setCell ⟨r,0,none⟩ v).setCell ⟨r,1,none⟩ v').setCell ⟨t,0,none⟩ u).setCell ⟨t,1,none⟩ u').cell? ⟨p3,0,none⟩ = some (.bool s3)∧((((w'.setCell ⟨r,0,none⟩ v).setCell ⟨r,1,none⟩ v').setCell ⟨t,0,none⟩ u).setCell ⟨t,1,none⟩ u').cell? ⟨p3,1,none⟩ = some (.slice a3 l3 c3):=by
 have y1:=((x1.below k).only (only2 r w' v v') h1).only (only2 t _ u u') g1
 have y2:=((x2.below k).only (only2 r w' v v') h2).only (only2 t _ u u') g2
 have y3:=((x3.below k).only (only2 r w' v v') h3).only (only2 t _ u u') g3
 exact ⟨y1.c0,y1.c1,y2.c0,y2.c1,y3.c0,y3.c1⟩

end Go.Proofs.YtepdckgfolkjjaaGreatDoor

namespace Go.Proofs.YtepdckgfolkjjaaGreatDoor.Fresh
open Go.RowKit

variable {w w' : World} {B cap r l c l1 c1 l2 c2 : Nat} {ad a a1 a2 : Option Addr} {s s1 s2 : Bool} {n m z z1 z2 : Int}
def Fr (B : Nat) (w : World) (ad : Option Addr) (cap : Nat) : Prop:=(ad = none∧cap = 0) ∨ ∃ b xs,ad = some ⟨b,0,none⟩∧B≤b∧Row w b xs∧xs.length = cap∧cap≤9223372036854775807
theorem row_lt {b : Nat} {xs : List Int} (h : Row w b xs) : b < w.heap.size:=(Array.getElem?_eq_some_iff.1 h).1
theorem Fr.below (h : Fr B w ad cap) (hb : Below w.heap.size w w') : Fr B w' ad cap:=by
 rcases h with h | ⟨b,xs,h1,h2,h3,h4⟩
 ·exact .inl h
 ·exact .inr ⟨b,xs,h1,h2,(hb.block b (row_lt h3)).trans h3,h4⟩
theorem Fr.only (h : Fr B w ad cap) (y : ZB w r s a l c) (ho : Only r w w') : Fr B w' ad cap:=by
 rcases h with h | ⟨b,xs,h1,h2,h3,h4⟩
 ·exact .inl h
 ·refine .inr ⟨b,xs,h1,h2,(ho.block b (fun e => ?_)).trans h3,h4⟩
  subst e
  have e:=Option.some.inj ((show w.heap[b]? = _ from y).symm.trans h3)
  injection e with _ e
  exact absurd e (by decide)
theorem Fr.mono {B' : Nat} (h : Fr B w ad cap) (hB : B'≤B) : Fr B' w ad cap:=by
 rcases h with h | ⟨b,xs,h1,h2,h3⟩
 ·exact .inl h
 ·exact .inr ⟨b,xs,h1,Nat.le_trans hB h2,h3⟩
def Nm (B : Nat) (w : World) (ad : Option Addr) (len cap : Nat) (n : Int) : Prop:=Go.Proofs.YtepdckgfolkjjaaGreatDoor.Nm w ad len cap n∧B≤w.heap.size
def Cn (B : Nat) (w : World) (ad : Option Addr) (len cap : Nat) (n : Int) : Prop:=Go.Proofs.YtepdckgfolkjjaaGreatDoor.Cn w ad len cap n∧B≤w.heap.size∧Fr B w ad cap
theorem Cn.nm {len : Nat} (h : Cn B w ad len cap n) : Nm B w ad len cap n:=⟨h.1.nm,h.2.1⟩
theorem Nm.below {len : Nat} (h : Nm B w ad len cap n) (hb : Below w.heap.size w w') : Nm B w' ad len cap n:=⟨h.1.below hb,Nat.le_trans h.2 hb.size⟩
theorem Cn.below {len : Nat} (h : Cn B w ad len cap n) (hb : Below w.heap.size w w') : Cn B w' ad len cap n:=⟨h.1.below hb,Nat.le_trans h.2.1 hb.size,h.2.2.below hb⟩
theorem Nm.nonneg {len : Nat} (h : Nm B w ad len cap n) : 0≤n:=h.1.nonneg
theorem Cn.len {len : Nat} (h : Cn B w ad len cap n) : n = 0 ↔ len = 0:=h.1.len
theorem out_cn {len : Nat} {zs : List Int} (hB : B≤w.heap.size) (h : Out w w' ad len cap zs) (hc : Canon zs) (hv : val zs = n) : Cn B w' ad len cap n:=by
 refine ⟨Go.Proofs.YtepdckgfolkjjaaGreatDoor.out_cn h hc hv,Nat.le_trans hB h.1.size,?_⟩
 obtain ⟨_,⟨rfl,_,rfl,_⟩ | ⟨b,xs,rfl,hb,hr,_,hn,_,hm,_⟩⟩:=h
 ·exact .inl ⟨rfl,rfl⟩
 ·exact .inr ⟨b,xs,rfl,Nat.le_trans hB hb,hr,hn,hm⟩
theorem nm_nil (hB : B≤w.heap.size) : Nm B w none 0 0 0:=⟨Go.Proofs.YtepdckgfolkjjaaGreatDoor.nm_nil w,hB⟩

theorem add_n (h1 : Nm B w a1 l1 c1 m) (h2 : Nm B w a2 l2 c2 n) (hl1 : l1≤1099511627776) (hl2 : l2≤1099511627776) :
  Calls Tryz.prog 109 #[.slice a1 l1 c1,.slice a2 l2 c2] w fun e w' => ∃ ad len cap,e = .returned (.slice ad len cap)∧Cn B w' ad len cap (m + n)∧Below w.heap.size w w'∧len≤max l1 l2 + 1:=by
 obtain ⟨⟨xs,h1,rfl⟩,hB⟩:=h1
 obtain ⟨⟨ys,h2,rfl⟩,_⟩:=h2
 refine (add_any h1 h2 hl1 hl2).mono ?_
 rintro e w' ⟨ad,len,cap,zs,rfl,ho,hc,hv,hl⟩
 exact ⟨ad,len,cap,rfl,out_cn hB ho hc hv,ho.1,hl⟩
theorem mul_n (h1 : Nm B w a1 l1 c1 m) (h2 : Nm B w a2 l2 c2 n) (hl1 : l1≤1099511627776) (hl2 : l2≤1099511627776) :
  Calls Tryz.prog 107 #[.slice a1 l1 c1,.slice a2 l2 c2] w fun e w' => ∃ ad len cap,e = .returned (.slice ad len cap)∧Cn B w' ad len cap (m * n)∧Below w.heap.size w w'∧len≤l1 + l2:=by
 obtain ⟨⟨xs,h1,rfl⟩,hB⟩:=h1
 obtain ⟨⟨ys,h2,rfl⟩,_⟩:=h2
 refine (mul_any h1 h2 hl1 hl2).mono ?_
 rintro e w' ⟨ad,len,cap,zs,rfl,ho,hc,hv,hl⟩
 exact ⟨ad,len,cap,rfl,out_cn hB ho hc hv,ho.1,hl⟩
theorem sub_n (h1 : Nm B w a1 l1 c1 m) (h2 : Nm B w a2 l2 c2 n) (hl1 : l1≤1099511627776) (hge : n≤m) :
  Calls Tryz.prog 110 #[.slice a1 l1 c1,.slice a2 l2 c2] w fun e w' => ∃ ad len cap,e = .returned (.tuple #[.slice ad len cap,.int .i64 0])∧Cn B w' ad len cap (m - n)∧Below w.heap.size w w'∧len≤l1:=by
 obtain ⟨⟨xs,h1,rfl⟩,hB⟩:=h1
 obtain ⟨⟨ys,h2,rfl⟩,_⟩:=h2
 refine (sub_any h1 h2 hl1 hge).mono ?_
 rintro e w' ⟨ad,len,cap,zs,rfl,ho,hc,hv,hl⟩
 exact ⟨ad,len,cap,rfl,out_cn hB ho hc hv,ho.1,hl⟩
theorem of_n (n : Int) (h0 : 0≤n) (h1 : n < 18446744073709551616) (w : World) (hB : B≤w.heap.size) :
  Calls Tryz.prog 54 #[.int .u64 n] w fun e w' => ∃ ad len cap,e = .returned (.slice ad len cap)∧Cn B w' ad len cap n∧Below w.heap.size w w'∧len≤2:=by
 refine (of_any n h0 h1 w).mono ?_
 rintro e w' ⟨ad,len,cap,zs,rfl,ho,hc,hv,hl⟩
 exact ⟨ad,len,cap,rfl,out_cn hB ho hc hv,ho.1,hl⟩
theorem sub_new (h1 : Nm B w a1 l1 c1 m) (h2 : Nm B w a2 l2 c2 n) (hl1 : l1≤1099511627776) (hge : n≤m) :
  Calls Tryz.prog 110 #[.slice a1 l1 c1,.slice a2 l2 c2] w fun e w' => ∃ ad len cap,e = .returned (.tuple #[.slice ad len cap,.int .i64 0])∧Cn B w' ad len cap (m - n)∧Below w.heap.size w w'∧len≤l1∧∀ b,blk ad = some b→w.heap.size≤b:=by
 obtain ⟨⟨xs,h1,rfl⟩,hB⟩:=h1
 obtain ⟨⟨ys,h2,rfl⟩,_⟩:=h2
 refine (sub_any h1 h2 hl1 hge).mono ?_
 rintro e w' ⟨ad,len,cap,zs,rfl,ho,hc,hv,hl⟩
 exact ⟨ad,len,cap,rfl,out_cn hB ho hc hv,ho.1,hl,fun b hb => (ho.lt hb).1⟩
theorem divmod_n (h1 : Nm B w a1 l1 c1 m) (h2 : Nm B w a2 l2 c2 n) (hl1 : l1≤1099511627776) (hn0 : 0 < n) :
  Calls Tryz.prog 136 #[.slice a1 l1 c1,.slice a2 l2 c2] w fun e w' => ∃ aq lq cq ar lr cr,e = .returned (.tuple #[.slice aq lq cq,.slice ar lr cr,.int .i64 0])∧Cn B w' aq lq cq (m / n)∧Cn B w' ar lr cr (m % n)∧Below w.heap.size w w'∧lq≤l1∧lr≤l2∧(∀ b,blk ar = some b→blk aq ≠ some b):=by
 obtain ⟨⟨xs,h1,rfl⟩,hB⟩:=h1
 obtain ⟨⟨ys,h2,rfl⟩,_⟩:=h2
 refine (divmod_any h1 h2 hl1 hn0).mono ?_
 rintro e w' ⟨aq,lq,cq,zq,ar,lr,cr,zr,rfl,hoq,hcq,hvq,hor,hcr,hvr,hlq,hap⟩
 refine ⟨aq,lq,cq,ar,lr,cr,rfl,out_cn hB hoq hcq hvq,out_cn hB hor hcr hvr,hoq.1,hlq,?_,fun b hb e => ?_⟩
 ·rw [← hor.rd.1]
  exact canon_short hcr h2.2.2.2.1 h2.1 (by rw [hvr]; exact Int.le_of_lt (Int.emod_lt_of_pos _ hn0))
 ·rcases hap with rfl | h
  ·cases e
  ·exact h (e.trans hb.symm)
theorem cmp_n (h1 : Nm B w a1 l1 c1 m) (h2 : Nm B w a2 l2 c2 n) :
  Calls Tryz.prog 92 #[.slice a1 l1 c1,.slice a2 l2 c2] w fun e w' => e = .returned (.int .i64 (cmpI m n))∧Below w.heap.size w w':=Go.Proofs.YtepdckgfolkjjaaGreatDoor.cmp_n h1.1 h2.1
theorem cmp_lt (h1 : Nm B w a1 l1 c1 m) (h2 : Nm B w a2 l2 c2 n) (he : m < n) :
  Calls Tryz.prog 92 #[.slice a1 l1 c1,.slice a2 l2 c2] w fun e w' => e = .returned (.int .i64 (-1))∧Below w.heap.size w w':=Go.Proofs.YtepdckgfolkjjaaGreatDoor.cmp_lt h1.1 h2.1 he

def Zm (B : Nat) (w : World) (s : Bool) (ad : Option Addr) (len cap : Nat) (z : Int) : Prop:=∃ n,Nm B w ad len cap n∧z = sg s n
def Zn (B : Nat) (w : World) (s : Bool) (ad : Option Addr) (len cap : Nat) (z : Int) : Prop:=∃ n,Cn B w ad len cap n∧z = sg s n∧(s = true→n ≠ 0)
theorem Zn.zn {len : Nat} (h : Zn B w s ad len cap z) : Go.Proofs.YtepdckgfolkjjaaGreatDoor.Zn w s ad len cap z:=by
 obtain ⟨n,h1,h2⟩:=h
 exact ⟨n,h1.1,h2⟩
theorem Zn.fr {len : Nat} (h : Zn B w s ad len cap z) : Fr B w ad cap:=by
 obtain ⟨n,h1,h2⟩:=h
 exact h1.2.2
theorem zm_of {len : Nat} (h : Go.Proofs.YtepdckgfolkjjaaGreatDoor.Zm w s ad len cap z) (hB : B≤w.heap.size) : Zm B w s ad len cap z:=by
 obtain ⟨n,h1,h2⟩:=h
 exact ⟨n,⟨h1,hB⟩,h2⟩
theorem zb_cn {len : Nat} (y : ZB w r s a l c) (ho : Only r w w') (h : Cn B w ad len cap n) : Cn B w' ad len cap n:=by
 obtain ⟨⟨zs,h1,h2,h3⟩,h4,h5⟩:=h
 exact ⟨⟨zs,h1.only ho (zb_apart y h1),h2,h3⟩,Nat.le_trans h4 (Nat.le_of_eq ho.size.symm),h5.only y ho⟩
theorem zb_zn {len : Nat} (y : ZB w r s a l c) (h : Zn B w s1 ad len cap z) (s' : Bool) (a' : Option Addr) (l' c' : Nat) :
  Zn B ((w.setCell ⟨r,0,none⟩ (.bool s')).setCell ⟨r,1,none⟩ (.slice a' l' c')) s1 ad len cap z:=by
 obtain ⟨n,h1,h4⟩:=h
 exact ⟨n,zb_cn y ((Only.set r 0 w _).trans (Only.set r 1 _ _)) h1,h4⟩
theorem zb_nm {len : Nat} (y : ZB w r s a l c) (ho : Only r w w') (h : Nm B w ad len cap n) : Nm B w' ad len cap n:=⟨Go.Proofs.YtepdckgfolkjjaaGreatDoor.zb_nm y ho h.1,Nat.le_trans h.2 (Nat.le_of_eq ho.size.symm)⟩

theorem bare_n2 (h : Nm B w a l c n) (hl : l≤1099511627776) :
  Calls Tryz.prog 113 #[.slice a l c] w fun e w' => ∃ ad len cap,e = .returned (.slice ad len cap)∧Cn B w' ad len cap n∧Below w.heap.size w w'∧len≤l + 1:=by
 go_enter Tryz.func113,Tryz.ntmps113
 go_wp2_with fail
 refine (add_n h (nm_nil h.2) hl (by decide)).mono ?_
 rintro e w' ⟨ad,len,cap,rfl,hc,hb,hl'⟩
 go_wp2
 go_ret
 exact ⟨ad,len,cap,rfl,by simpa using hc,hb,by omega⟩
theorem stand_n (h : Cn B w a l c n) :
  Calls Tryz.prog 53 #[.bool s,.slice a l c] w fun e w' => ∃ s',e = .returned (.agg #[.bool s',.slice a l c])∧Zn B w' s' a l c (sg s n)∧Below w.heap.size w w':=by
 have hn:=h.len
 go_enter Tryz.func53,Tryz.ntmps53
 cases s
 ·go_wp2
  refine bodyPost_ret (results_cell_row rfl _ _ w.heap.size 24 _ (0,0) _ rfl (zb_new w _ _ _ _) Tryz.underlying24 rfl (by kernel_rfl)) rfl ?_
  exact ⟨false,by simp,⟨n,h.below (below_alloc _ _),rfl,fun h => by cases h⟩,below_alloc _ _⟩
 ·go_wp2
  refine bodyPost_ret (results_cell_row rfl _ _ w.heap.size 24 _ (0,0) _ rfl (zb_new w _ _ _ _) Tryz.underlying24 rfl (by kernel_rfl)) rfl ?_
  refine ⟨decide (0 < l),by simp,⟨n,h.below (below_alloc _ _),?_,fun h => ?_⟩,below_alloc _ _⟩
  ·by_cases h0 : 0 < l
   ·simp [h0]
   ·have : n = 0:=hn.2 (by omega)
    simp [sg,this]
  ·have h0 : 0 < l:=of_decide_eq_true h
   intro h1; have:=hn.1 h1; omega
set_option maxRecDepth 100000 in
set_option maxHeartbeats 1600000 in
theorem norm_n (h : Zm B w s a l c z) (hl : l≤1099511627776) :
  Calls Tryz.prog 66 #[.agg #[.bool s,.slice a l c]] w fun e w' => ∃ s' ad len cap,e = .returned (.agg #[.bool s',.slice ad len cap])∧Zn B w' s' ad len cap z∧Below w.heap.size w w'∧len≤l + 1:=by
 obtain ⟨n,hn,rfl⟩:=h
 go_enter Tryz.func66,Tryz.ntmps66
 go_wp2_with fail
 have x:=(zb_new w s a l c).below (below_alloc _ (.cells #[.bool false,.slice none 0 0] 24))
 have y:=zb_new (w.alloc (.cells #[.bool s,.slice a l c] 24)) false none 0 0
 have b0 : Below w.heap.size w ((w.alloc (.cells #[.bool s,.slice a l c] 24)).alloc (.cells #[.bool false,.slice none 0 0] 24)):=below_alloc' (below_alloc _ _) _
 rw [show (w.alloc (.cells #[.bool s,.slice a l c] 24)).heap.size = w.heap.size + 1 from by simp] at y
 generalize (w.alloc (.cells #[.bool s,.slice a l c] 24)).alloc (.cells #[.bool false,.slice none 0 0] 24) = wb at *
 have hpr : w.heap.size < w.heap.size + 1:=by omega
 replace hn:=hn.below b0
 generalize hp : w.heap.size = p at *
 replace hp:=hide hp
 generalize p + 1 = r at *
 have hrb:=Nat.le_of_lt y.lt
 go_region_held3 (fun w' => w'.cell? ⟨p,0,none⟩ = some (.bool s)∧w'.cell? ⟨p,1,none⟩ = some (.slice a l c)∧Below r wb w')
  ((refine zs1 x hpr ?_; first | (refine Below.mono ?_ hrb; focus ((with_reducible repeat' first | exact Below.refl _ _ | assumption | refine grow_step (by assumption) ?_ | refine grow_drew ?_ | refine grow_alloc ?_ _ | refine grow_drewN ?_ _); done)) | (refine ((Below.mono ?_ hrb).setCell (Nat.le_refl _) _).setCell (Nat.le_refl _) _; focus ((with_reducible repeat' first | exact Below.refl _ _ | assumption | refine grow_step (by assumption) ?_ | refine grow_drew ?_ | refine grow_alloc ?_ _ | refine grow_drewN ?_ _); done))))
  (first | (go_at_call 113; refine (bare_n2 (Nm.below hn gw) hl).mono ?_; rintro e w' ⟨ad,len,cap,rfl,hc,hg,hl'⟩) | (go_at_call 53; refine (stand_n (Cn.below hc gw)).mono ?_; rintro e w' ⟨s',rfl,hz,hg⟩; have y' : ZB w' r false none 0 0:=ZB.below y gw; have y0:=y'.c0; have y1:=y'.c1; have y2:=y'.f 0; have y3:=y'.f 1))
 go_wp2
 rename_i hH
 refine bodyPost_ret (results_cell_row rfl _ _ r 24 _ (0,0) _ rfl (zb_fin y' s' ad len cap) Tryz.underlying24 rfl (by kernel_rfl)) rfl ?_
 exact ⟨s',ad,len,cap,by simp,zb_zn y' hz _ _ _ _,hp.out.symm ▸ (b0.trans (hH.2.2.mono (Nat.le_of_lt hpr))),hl'⟩
set_option maxRecDepth 100000 in
set_option maxHeartbeats 1600000 in
theorem neg_n (h : Zm B w s a l c z) (hl : l≤1099511627776) :
  Calls Tryz.prog 90 #[.agg #[.bool s,.slice a l c]] w fun e w' => ∃ s' ad len cap,e = .returned (.agg #[.bool s',.slice ad len cap])∧Zn B w' s' ad len cap (-z)∧Below w.heap.size w w'∧len≤l + 1:=by
 obtain ⟨n,hn,rfl⟩:=h
 rw [← sg_not]
 go_enter Tryz.func90,Tryz.ntmps90
 go_wp2_with fail
 have x:=(zb_new w s a l c).below (below_alloc _ (.cells #[.bool false,.slice none 0 0] 24))
 have y:=zb_new (w.alloc (.cells #[.bool s,.slice a l c] 24)) false none 0 0
 have b0 : Below w.heap.size w ((w.alloc (.cells #[.bool s,.slice a l c] 24)).alloc (.cells #[.bool false,.slice none 0 0] 24)):=below_alloc' (below_alloc _ _) _
 rw [show (w.alloc (.cells #[.bool s,.slice a l c] 24)).heap.size = w.heap.size + 1 from by simp] at y
 generalize (w.alloc (.cells #[.bool s,.slice a l c] 24)).alloc (.cells #[.bool false,.slice none 0 0] 24) = wb at *
 have hpr : w.heap.size < w.heap.size + 1:=by omega
 replace hn:=hn.below b0
 generalize hp : w.heap.size = p at *
 replace hp:=hide hp
 generalize p + 1 = r at *
 have hrb:=Nat.le_of_lt y.lt
 go_region_held3 (fun w' => w'.cell? ⟨p,0,none⟩ = some (.bool s)∧w'.cell? ⟨p,1,none⟩ = some (.slice a l c)∧Below r wb w')
  ((refine zs1 x hpr ?_; first | (refine Below.mono ?_ hrb; focus ((with_reducible repeat' first | exact Below.refl _ _ | assumption | refine grow_step (by assumption) ?_ | refine grow_drew ?_ | refine grow_alloc ?_ _ | refine grow_drewN ?_ _); done)) | (refine ((Below.mono ?_ hrb).setCell (Nat.le_refl _) _).setCell (Nat.le_refl _) _; focus ((with_reducible repeat' first | exact Below.refl _ _ | assumption | refine grow_step (by assumption) ?_ | refine grow_drew ?_ | refine grow_alloc ?_ _ | refine grow_drewN ?_ _); done))))
  (first | (go_at_call 113; refine (bare_n2 (Nm.below hn gw) hl).mono ?_; rintro e w' ⟨ad,len,cap,rfl,hc,hg,hl'⟩) | (go_at_call 53; refine (stand_n (Cn.below hc gw)).mono ?_; rintro e w' ⟨s',rfl,hz,hg⟩; have y' : ZB w' r false none 0 0:=ZB.below y gw; have y0:=y'.c0; have y1:=y'.c1; have y2:=y'.f 0; have y3:=y'.f 1))
 go_wp2
 rename_i hH
 refine bodyPost_ret (results_cell_row rfl _ _ r 24 _ (0,0) _ rfl (zb_fin y' s' ad len cap) Tryz.underlying24 rfl (by kernel_rfl)) rfl ?_
 exact ⟨s',ad,len,cap,by simp,zb_zn y' hz _ _ _ _,hp.out.symm ▸ (b0.trans (hH.2.2.mono (Nat.le_of_lt hpr))),hl'⟩
set_option maxRecDepth 100000 in
set_option maxHeartbeats 1600000 in
theorem zmul_n (h1 : Zm B w s1 a1 l1 c1 z1) (h2 : Zm B w s2 a2 l2 c2 z2) (hl1 : l1≤1099511627776) (hl2 : l2≤1099511627776) :
  Calls Tryz.prog 56 #[.agg #[.bool s1,.slice a1 l1 c1],.agg #[.bool s2,.slice a2 l2 c2]] w fun e w' => ∃ s' ad len cap,e = .returned (.agg #[.bool s',.slice ad len cap])∧Zn B w' s' ad len cap (z1 * z2)∧Below w.heap.size w w'∧len≤l1 + l2:=by
 obtain ⟨m,hm,rfl⟩:=h1
 obtain ⟨n,hn,rfl⟩:=h2
 rw [← sg_mul]
 go_enter Tryz.func56,Tryz.ntmps56
 go_wp2_with fail
 have x:=(zb_new w s1 a1 l1 c1).below (below_alloc' (below_alloc _ (.cells #[.bool s2,.slice a2 l2 c2] 24)) (.cells #[.bool false,.slice none 0 0] 24))
 have x2:=(zb_new (w.alloc (.cells #[.bool s1,.slice a1 l1 c1] 24)) s2 a2 l2 c2).below (below_alloc _ (.cells #[.bool false,.slice none 0 0] 24))
 have y:=zb_new ((w.alloc (.cells #[.bool s1,.slice a1 l1 c1] 24)).alloc (.cells #[.bool s2,.slice a2 l2 c2] 24)) false none 0 0
 have b0 : Below w.heap.size w (((w.alloc (.cells #[.bool s1,.slice a1 l1 c1] 24)).alloc (.cells #[.bool s2,.slice a2 l2 c2] 24)).alloc (.cells #[.bool false,.slice none 0 0] 24)):=below_alloc' (below_alloc' (below_alloc _ _) _) _
 rw [show ((w.alloc (.cells #[.bool s1,.slice a1 l1 c1] 24)).alloc (.cells #[.bool s2,.slice a2 l2 c2] 24)).heap.size = w.heap.size + 2 from by simp] at y
 rw [show (w.alloc (.cells #[.bool s1,.slice a1 l1 c1] 24)).heap.size = w.heap.size + 1 from by simp] at x2
 generalize ((w.alloc (.cells #[.bool s1,.slice a1 l1 c1] 24)).alloc (.cells #[.bool s2,.slice a2 l2 c2] 24)).alloc (.cells #[.bool false,.slice none 0 0] 24) = wb at *
 have hpr : w.heap.size < w.heap.size + 2:=by omega
 have hqr : w.heap.size + 1 < w.heap.size + 2:=by omega
 have hpq : w.heap.size < w.heap.size + 1:=by omega
 replace hm:=hm.below b0
 replace hn:=hn.below b0
 generalize hp : w.heap.size = p at *
 replace hp:=hide hp
 generalize p + 2 = r at *
 generalize p + 1 = q at *
 have hrb:=Nat.le_of_lt y.lt
 go_region_held3 (fun w' => w'.cell? ⟨p,0,none⟩ = some (.bool s1)∧w'.cell? ⟨p,1,none⟩ = some (.slice a1 l1 c1)∧w'.cell? ⟨q,0,none⟩ = some (.bool s2)∧w'.cell? ⟨q,1,none⟩ = some (.slice a2 l2 c2)∧Below r wb w')
  ((refine zs2 x x2 hpr hqr ?_; first | (refine Below.mono ?_ hrb; focus ((with_reducible repeat' first | exact Below.refl _ _ | assumption | refine grow_step (by assumption) ?_ | refine grow_drew ?_ | refine grow_alloc ?_ _ | refine grow_drewN ?_ _); done)) | (refine ((Below.mono ?_ hrb).setCell (Nat.le_refl _) _).setCell (Nat.le_refl _) _; focus ((with_reducible repeat' first | exact Below.refl _ _ | assumption | refine grow_step (by assumption) ?_ | refine grow_drew ?_ | refine grow_alloc ?_ _ | refine grow_drewN ?_ _); done))))
  (first | (go_at_call 107; refine (mul_n (Nm.below hm gw) (Nm.below hn gw) hl1 hl2).mono ?_; rintro e w' ⟨ad,len,cap,rfl,hc,hg,hl'⟩) | (go_at_call 53; refine (stand_n (Cn.below hc gw)).mono ?_; rintro e w' ⟨s',rfl,hz,hg⟩; have y' : ZB w' r false none 0 0:=ZB.below y gw; have y0:=y'.c0; have y1:=y'.c1; have y2:=y'.f 0; have y3:=y'.f 1))
 go_wp2

 rename_i hH
 refine bodyPost_ret (results_cell_row rfl _ _ r 24 _ (0,0) _ rfl (zb_fin y' s' ad len cap) Tryz.underlying24 rfl (by kernel_rfl)) rfl ?_
 exact ⟨s',ad,len,cap,by simp,zb_zn y' hz _ _ _ _,hp.out.symm ▸ (b0.trans (hH.2.2.2.2.mono (Nat.le_of_lt hpr))),hl'⟩
set_option maxRecDepth 100000 in
set_option maxHeartbeats 1600000 in
theorem zadd_n (h1 : Zm B w s1 a1 l1 c1 z1) (h2 : Zm B w s2 a2 l2 c2 z2) (hl1 : l1≤1099511627776) (hl2 : l2≤1099511627776) :
  Calls Tryz.prog 59 #[.agg #[.bool s1,.slice a1 l1 c1],.agg #[.bool s2,.slice a2 l2 c2]] w fun e w' => ∃ s' ad len cap,e = .returned (.agg #[.bool s',.slice ad len cap])∧Zn B w' s' ad len cap (z1 + z2)∧Below w.heap.size w w'∧len≤max l1 l2 + 1:=by
 obtain ⟨m,hm,rfl⟩:=h1
 obtain ⟨n,hn,rfl⟩:=h2
 by_cases hs : s1 = s2
 ·have hs' : (s1 == s2) = true:=by simp [hs]
  rw [show sg s1 m + sg s2 n = sg s1 (m + n) from by rw [← hs,sg_add]]
  clear hs
  go_enter Tryz.func59,Tryz.ntmps59
  go_wp2_with fail
  have x:=(zb_new w s1 a1 l1 c1).below (below_alloc' (below_alloc _ (.cells #[.bool s2,.slice a2 l2 c2] 24)) (.cells #[.bool false,.slice none 0 0] 24))
  have x2:=(zb_new (w.alloc (.cells #[.bool s1,.slice a1 l1 c1] 24)) s2 a2 l2 c2).below (below_alloc _ (.cells #[.bool false,.slice none 0 0] 24))
  have y:=zb_new ((w.alloc (.cells #[.bool s1,.slice a1 l1 c1] 24)).alloc (.cells #[.bool s2,.slice a2 l2 c2] 24)) false none 0 0
  have b0 : Below w.heap.size w (((w.alloc (.cells #[.bool s1,.slice a1 l1 c1] 24)).alloc (.cells #[.bool s2,.slice a2 l2 c2] 24)).alloc (.cells #[.bool false,.slice none 0 0] 24)):=below_alloc' (below_alloc' (below_alloc _ _) _) _
  rw [show ((w.alloc (.cells #[.bool s1,.slice a1 l1 c1] 24)).alloc (.cells #[.bool s2,.slice a2 l2 c2] 24)).heap.size = w.heap.size + 2 from by simp] at y
  rw [show (w.alloc (.cells #[.bool s1,.slice a1 l1 c1] 24)).heap.size = w.heap.size + 1 from by simp] at x2
  generalize ((w.alloc (.cells #[.bool s1,.slice a1 l1 c1] 24)).alloc (.cells #[.bool s2,.slice a2 l2 c2] 24)).alloc (.cells #[.bool false,.slice none 0 0] 24) = wb at *
  have hpr : w.heap.size < w.heap.size + 2:=by omega
  have hqr : w.heap.size + 1 < w.heap.size + 2:=by omega
  have hpq : w.heap.size < w.heap.size + 1:=by omega
  replace hm:=hm.below b0
  replace hn:=hn.below b0
  generalize hp : w.heap.size = p at *
  replace hp:=hide hp
  generalize p + 2 = r at *
  generalize p + 1 = q at *
  have hrb:=Nat.le_of_lt y.lt
  go_region_held3 (fun w' => w'.cell? ⟨p,0,none⟩ = some (.bool s1)∧w'.cell? ⟨p,1,none⟩ = some (.slice a1 l1 c1)∧w'.cell? ⟨q,0,none⟩ = some (.bool s2)∧w'.cell? ⟨q,1,none⟩ = some (.slice a2 l2 c2)∧Below r wb w')
   ((refine zs2 x x2 hpr hqr ?_; first | (refine Below.mono ?_ hrb; focus ((with_reducible repeat' first | exact Below.refl _ _ | assumption | refine grow_step (by assumption) ?_ | refine grow_drew ?_ | refine grow_alloc ?_ _ | refine grow_drewN ?_ _); done)) | (refine ((Below.mono ?_ hrb).setCell (Nat.le_refl _) _).setCell (Nat.le_refl _) _; focus ((with_reducible repeat' first | exact Below.refl _ _ | assumption | refine grow_step (by assumption) ?_ | refine grow_drew ?_ | refine grow_alloc ?_ _ | refine grow_drewN ?_ _); done))))
   (first | (go_at_call 109; refine (add_n (Nm.below hm gw) (Nm.below hn gw) hl1 hl2).mono ?_; rintro e w' ⟨ad,len,cap,rfl,hc,hg,hl'⟩) | (go_at_call 53; refine (stand_n (Cn.below hc gw)).mono ?_; rintro e w' ⟨s',rfl,hz,hg⟩; have y' : ZB w' r false none 0 0:=ZB.below y gw; have y0:=y'.c0; have y1:=y'.c1; have y2:=y'.f 0; have y3:=y'.f 1))
  go_wp2
  rename_i hH
  refine bodyPost_ret (results_cell_row rfl _ _ r 24 _ (0,0) _ rfl (zb_fin y' s' ad len cap) Tryz.underlying24 rfl (by kernel_rfl)) rfl ?_
  exact ⟨s',ad,len,cap,by simp,zb_zn y' hz _ _ _ _,hp.out.symm ▸ (b0.trans (hH.2.2.2.2.mono (Nat.le_of_lt hpr))),hl'⟩
 ·have hs' : (s1 == s2) = false:=by simp [hs]
  by_cases hlt : m < n
  ·rw [← sg_sub2 hs]
   clear hs
   go_enter Tryz.func59,Tryz.ntmps59
   go_wp2_with fail
   have x:=(zb_new w s1 a1 l1 c1).below (below_alloc' (below_alloc _ (.cells #[.bool s2,.slice a2 l2 c2] 24)) (.cells #[.bool false,.slice none 0 0] 24))
   have x2:=(zb_new (w.alloc (.cells #[.bool s1,.slice a1 l1 c1] 24)) s2 a2 l2 c2).below (below_alloc _ (.cells #[.bool false,.slice none 0 0] 24))
   have y:=zb_new ((w.alloc (.cells #[.bool s1,.slice a1 l1 c1] 24)).alloc (.cells #[.bool s2,.slice a2 l2 c2] 24)) false none 0 0
   have b0 : Below w.heap.size w (((w.alloc (.cells #[.bool s1,.slice a1 l1 c1] 24)).alloc (.cells #[.bool s2,.slice a2 l2 c2] 24)).alloc (.cells #[.bool false,.slice none 0 0] 24)):=below_alloc' (below_alloc' (below_alloc _ _) _) _
   rw [show ((w.alloc (.cells #[.bool s1,.slice a1 l1 c1] 24)).alloc (.cells #[.bool s2,.slice a2 l2 c2] 24)).heap.size = w.heap.size + 2 from by simp] at y
   rw [show (w.alloc (.cells #[.bool s1,.slice a1 l1 c1] 24)).heap.size = w.heap.size + 1 from by simp] at x2
   generalize ((w.alloc (.cells #[.bool s1,.slice a1 l1 c1] 24)).alloc (.cells #[.bool s2,.slice a2 l2 c2] 24)).alloc (.cells #[.bool false,.slice none 0 0] 24) = wb at *
   have hpr : w.heap.size < w.heap.size + 2:=by omega
   have hqr : w.heap.size + 1 < w.heap.size + 2:=by omega
   have hpq : w.heap.size < w.heap.size + 1:=by omega
   replace hm:=hm.below b0
   replace hn:=hn.below b0
   generalize hp : w.heap.size = p at *
   replace hp:=hide hp
   generalize p + 2 = r at *
   generalize p + 1 = q at *
   have hrb:=Nat.le_of_lt y.lt
   refine (cmp_lt hm hn hlt).mono ?_
   rintro e w1 ⟨rfl,k1⟩
   replace x:=x.below k1
   replace x2:=x2.below k1
   replace y:=y.below k1
   replace hm:=hm.below k1
   replace hn:=hn.below k1
   replace b0:=b0.trans (k1.mono (Nat.le_of_lt (Nat.lt_of_lt_of_le hpr hrb)))
   clear hrb k1
   have u0:=x.c0
   have u1:=x.c1
   have u2:=x2.c0
   have u3:=x2.c1
   have v0:=x.f 0
   have v1:=x.f 1
   have v2:=x2.f 0
   have v3:=x2.f 1
   have hpq' : p ≠ q:=by omega
   go_wp2_with fail
   have o1:=only2 p w1 (.bool s2) (.slice a2 l2 c2)
   replace hm:=zb_nm x o1 hm
   replace hn:=zb_nm x o1 hn
   replace x2:=x2.only o1 (Ne.symm hpq')
   replace y:=y.only o1 (by omega)
   replace b0:=(b0.setCell (p:=⟨p,0,none⟩) (Nat.le_refl _) (.bool s2)).setCell (p:=⟨p,1,none⟩) (Nat.le_refl _) (.slice a2 l2 c2)
   replace x:=zb_fin x s2 a2 l2 c2
   generalize (w1.setCell ⟨p,0,none⟩ (.bool s2)).setCell ⟨p,1,none⟩ (.slice a2 l2 c2) = w2 at *
   have o2:=only2 q w2 (.bool s1) (.slice a1 l1 c1)
   replace hm:=zb_nm x2 o2 hm
   replace hn:=zb_nm x2 o2 hn
   replace x:=x.only o2 hpq'
   replace y:=y.only o2 (by omega)
   replace b0:=(b0.setCell (p:=⟨q,0,none⟩) (Nat.le_of_lt hpq) (.bool s1)).setCell (p:=⟨q,1,none⟩) (Nat.le_of_lt hpq) (.slice a1 l1 c1)
   replace x2:=zb_fin x2 s1 a1 l1 c1
   generalize (w2.setCell ⟨q,0,none⟩ (.bool s1)).setCell ⟨q,1,none⟩ (.slice a1 l1 c1) = w3 at *
   clear o1 o2 u0 u1 u2 u3 v0 v1 v2 v3
   refine (sub_n hn hm hl2 (by omega)).mono ?_
   rintro e w4 ⟨ad,len,cap,rfl,hc,k2,hl'⟩
   have u0:=(x.below k2).c0
   go_wp2_with fail
   refine (stand_n hc).mono ?_
   rintro e w' ⟨s',rfl,hz,hg⟩
   have y' : ZB w' r false none 0 0:=ZB.below y (grow_step hg k2)
   have y0:=y'.c0
   have y1:=y'.c1
   have y2:=y'.f 0
   have y3:=y'.f 1
   have hB : Below p w w':=b0.trans ((grow_step hg k2).mono (Nat.le_of_lt x.lt))
   go_wp2
   refine bodyPost_ret (results_cell_row rfl _ _ r 24 _ (0,0) _ rfl (zb_fin y' s' ad len cap) Tryz.underlying24 rfl (by kernel_rfl)) rfl ?_
   exact ⟨s',ad,len,cap,by simp,zb_zn y' hz _ _ _ _,hp.out.symm ▸ (hB.setCell (Nat.le_of_lt hpr) _).setCell (Nat.le_of_lt hpr) _,by omega⟩
  ·rw [← sg_sub1 hs]
   clear hs
   go_enter Tryz.func59,Tryz.ntmps59
   go_wp2_with fail
   have x:=(zb_new w s1 a1 l1 c1).below (below_alloc' (below_alloc _ (.cells #[.bool s2,.slice a2 l2 c2] 24)) (.cells #[.bool false,.slice none 0 0] 24))
   have x2:=(zb_new (w.alloc (.cells #[.bool s1,.slice a1 l1 c1] 24)) s2 a2 l2 c2).below (below_alloc _ (.cells #[.bool false,.slice none 0 0] 24))
   have y:=zb_new ((w.alloc (.cells #[.bool s1,.slice a1 l1 c1] 24)).alloc (.cells #[.bool s2,.slice a2 l2 c2] 24)) false none 0 0
   have b0 : Below w.heap.size w (((w.alloc (.cells #[.bool s1,.slice a1 l1 c1] 24)).alloc (.cells #[.bool s2,.slice a2 l2 c2] 24)).alloc (.cells #[.bool false,.slice none 0 0] 24)):=below_alloc' (below_alloc' (below_alloc _ _) _) _
   rw [show ((w.alloc (.cells #[.bool s1,.slice a1 l1 c1] 24)).alloc (.cells #[.bool s2,.slice a2 l2 c2] 24)).heap.size = w.heap.size + 2 from by simp] at y
   rw [show (w.alloc (.cells #[.bool s1,.slice a1 l1 c1] 24)).heap.size = w.heap.size + 1 from by simp] at x2
   generalize ((w.alloc (.cells #[.bool s1,.slice a1 l1 c1] 24)).alloc (.cells #[.bool s2,.slice a2 l2 c2] 24)).alloc (.cells #[.bool false,.slice none 0 0] 24) = wb at *
   have hpr : w.heap.size < w.heap.size + 2:=by omega
   have hqr : w.heap.size + 1 < w.heap.size + 2:=by omega
   have hpq : w.heap.size < w.heap.size + 1:=by omega
   replace hm:=hm.below b0
   replace hn:=hn.below b0
   generalize hp : w.heap.size = p at *
   replace hp:=hide hp
   generalize p + 2 = r at *
   generalize p + 1 = q at *
   have hrb:=Nat.le_of_lt y.lt
   refine (cmp_n hm hn).mono ?_
   rintro e w1 ⟨rfl,k1⟩
   have hcn : ¬ cmpI m n < 0:=by unfold cmpI; rw [if_neg (by omega)]; split <;> decide
   generalize cmpI m n = cc at *
   replace x:=x.below k1
   replace x2:=x2.below k1
   replace y:=y.below k1
   replace hm:=hm.below k1
   replace hn:=hn.below k1
   replace b0:=b0.trans (k1.mono (Nat.le_of_lt (Nat.lt_of_lt_of_le hpr hrb)))
   clear hrb k1
   have u0:=x.c0
   have u1:=x.c1
   have u2:=x2.c0
   have u3:=x2.c1
   go_wp2_with fail
   refine (sub_n hm hn hl1 hlt).mono ?_
   rintro e w4 ⟨ad,len,cap,rfl,hc,k2,hl'⟩
   clear u0 u1 u2 u3
   have u0:=(x.below k2).c0
   go_wp2_with fail
   refine (stand_n hc).mono ?_
   rintro e w' ⟨s',rfl,hz,hg⟩
   have y' : ZB w' r false none 0 0:=ZB.below y (grow_step hg k2)
   have y0:=y'.c0
   have y1:=y'.c1
   have y2:=y'.f 0
   have y3:=y'.f 1
   have hB : Below p w w':=b0.trans ((grow_step hg k2).mono (Nat.le_of_lt x.lt))
   go_wp2
   refine bodyPost_ret (results_cell_row rfl _ _ r 24 _ (0,0) _ rfl (zb_fin y' s' ad len cap) Tryz.underlying24 rfl (by kernel_rfl)) rfl ?_
   exact ⟨s',ad,len,cap,by simp,zb_zn y' hz _ _ _ _,hp.out.symm ▸ (hB.setCell (Nat.le_of_lt hpr) _).setCell (Nat.le_of_lt hpr) _,by omega⟩

theorem Zn.below {len : Nat} (h : Zn B w s ad len cap z) (hb : Below w.heap.size w w') : Zn B w' s ad len cap z:=by
 obtain ⟨n,h1,h2⟩:=h
 exact ⟨n,h1.below hb,h2⟩
theorem fr_lt {b : Nat} (h : Fr B w ad cap) (e : blk ad = some b) : b < w.heap.size:=by
 rcases h with ⟨rfl,_⟩ | ⟨x,xs,rfl,_,h3,_⟩
 ·cases e
 ·cases e
  exact row_lt h3

set_option maxRecDepth 100000 in
set_option maxHeartbeats 1600000 in
theorem zdivmod_n (h1 : Zm B w s1 a1 l1 c1 z1) (h2 : Zm B w s2 a2 l2 c2 z2) (hl1 : l1≤1099511627776) (hl2 : l2≤1099511627776) (hz : z2 ≠ 0) :
  Calls Tryz.prog 111 #[.agg #[.bool s1,.slice a1 l1 c1],.agg #[.bool s2,.slice a2 l2 c2]] w fun e w' => ∃ sq aq lq cq sr ar lr cr qv rv,e = .returned (.tuple #[.agg #[.bool sq,.slice aq lq cq],.agg #[.bool sr,.slice ar lr cr],.int .i64 0])∧Zn B w' sq aq lq cq qv∧Zn B w' sr ar lr cr rv∧FD z1 z2 qv rv∧Below w.heap.size w w'∧lq≤l1 + 3∧lr≤l2∧(∀ b,blk ar = some b→blk aq ≠ some b):=by
 obtain ⟨m,hm,rfl⟩:=h1
 obtain ⟨n,hn,rfl⟩:=h2
 have hn0 : 0 < n:=by
  have:=hn.nonneg
  have : n ≠ 0:=fun h => hz (by cases s2 <;> simp [sg,h])
  omega
 go_enter Tryz.func111,Tryz.ntmps111
 go_wp2_with fail
 have x:=(zb_new w s1 a1 l1 c1).below (below_alloc' (below_alloc' (below_alloc _ (.cells #[.bool s2,.slice a2 l2 c2] 24)) (.cells #[.bool false,.slice none 0 0] 24)) (.cells #[.bool false,.slice none 0 0] 24))
 have x2:=(zb_new (w.alloc (.cells #[.bool s1,.slice a1 l1 c1] 24)) s2 a2 l2 c2).below (below_alloc' (below_alloc _ (.cells #[.bool false,.slice none 0 0] 24)) (.cells #[.bool false,.slice none 0 0] 24))
 have y:=(zb_new ((w.alloc (.cells #[.bool s1,.slice a1 l1 c1] 24)).alloc (.cells #[.bool s2,.slice a2 l2 c2] 24)) false none 0 0).below (below_alloc _ (.cells #[.bool false,.slice none 0 0] 24))
 have yt:=zb_new (((w.alloc (.cells #[.bool s1,.slice a1 l1 c1] 24)).alloc (.cells #[.bool s2,.slice a2 l2 c2] 24)).alloc (.cells #[.bool false,.slice none 0 0] 24)) false none 0 0
 have b0 : Below w.heap.size w ((((w.alloc (.cells #[.bool s1,.slice a1 l1 c1] 24)).alloc (.cells #[.bool s2,.slice a2 l2 c2] 24)).alloc (.cells #[.bool false,.slice none 0 0] 24)).alloc (.cells #[.bool false,.slice none 0 0] 24)):=below_alloc' (below_alloc' (below_alloc' (below_alloc _ _) _) _) _
 rw [show (((w.alloc (.cells #[.bool s1,.slice a1 l1 c1] 24)).alloc (.cells #[.bool s2,.slice a2 l2 c2] 24)).alloc (.cells #[.bool false,.slice none 0 0] 24)).heap.size = w.heap.size + 3 from by simp] at yt
 rw [show ((w.alloc (.cells #[.bool s1,.slice a1 l1 c1] 24)).alloc (.cells #[.bool s2,.slice a2 l2 c2] 24)).heap.size = w.heap.size + 2 from by simp] at y
 rw [show (w.alloc (.cells #[.bool s1,.slice a1 l1 c1] 24)).heap.size = w.heap.size + 1 from by simp] at x2
 generalize (((w.alloc (.cells #[.bool s1,.slice a1 l1 c1] 24)).alloc (.cells #[.bool s2,.slice a2 l2 c2] 24)).alloc (.cells #[.bool false,.slice none 0 0] 24)).alloc (.cells #[.bool false,.slice none 0 0] 24) = wb at *
 have hpr : w.heap.size < w.heap.size + 2:=by omega
 have hqr : w.heap.size + 1 < w.heap.size + 2:=by omega
 have hrt : w.heap.size + 2 < w.heap.size + 3:=by omega
 replace hm:=hm.below b0
 replace hn:=hn.below b0
 generalize hp : w.heap.size = p at *
 replace hp:=hide hp
 generalize p + 3 = t at *
 generalize p + 2 = r at *
 generalize p + 1 = q at *
 have hrb:=Nat.le_of_lt y.lt
 refine (divmod_n hm hn hl1 hn0).mono ?_
 rintro e w1 ⟨aq,lq,cq,ar,lr,cr,rfl,hcq,hcr,k1,hlq,hlr,hap⟩
 have u0:=(x.below k1).c0
 have u2:=(x2.below k1).c0
 have hr0:=hcr.len
 have hrt' : r ≠ t:=by omega
 by_cases hs : s1 = s2
 ·have hs' : (s1 == s2) = true:=by simp [hs]
  have HFD : FD (sg s1 m) (sg s2 n) (sg false (m / n)) (sg s2 (m % n)):=by
   subst hs; exact fd_same hn0
  clear hs
  go_wp2_with fail
  go_region_held3 (fun w' => w'.cell? ⟨p,0,none⟩ = some (.bool s1)∧w'.cell? ⟨p,1,none⟩ = some (.slice a1 l1 c1)∧w'.cell? ⟨q,0,none⟩ = some (.bool s2)∧w'.cell? ⟨q,1,none⟩ = some (.slice a2 l2 c2)∧Below r wb w')
   ((refine zs2 x x2 hpr hqr ?_; first | (refine Below.mono ?_ hrb; focus ((with_reducible repeat' first | exact Below.refl _ _ | assumption | refine grow_step (by assumption) ?_ | refine grow_drew ?_ | refine grow_alloc ?_ _ | refine grow_drewN ?_ _); done)) | (refine ((Below.mono ?_ hrb).setCell (Nat.le_refl _) _).setCell (Nat.le_refl _) _; focus ((with_reducible repeat' first | exact Below.refl _ _ | assumption | refine grow_step (by assumption) ?_ | refine grow_drew ?_ | refine grow_alloc ?_ _ | refine grow_drewN ?_ _); done)) | (refine Below.setCell (Below.setCell (((Below.mono ?_ hrb).setCell (Nat.le_refl _) _).setCell (Nat.le_refl _) _) (Nat.le_of_lt hrt) _) (Nat.le_of_lt hrt) _; focus ((with_reducible repeat' first | exact Below.refl _ _ | assumption | refine grow_step (by assumption) ?_ | refine grow_drew ?_ | refine grow_alloc ?_ _ | refine grow_drewN ?_ _); done))))
   (first | (go_at_call 53; with_reducible refine (stand_n (Cn.below hcq gw)).mono ?_; rintro e w' ⟨sq,rfl,hzq,hg⟩) | (go_at_call 53; with_reducible refine (stand_n (Cn.below hcr gw)).mono ?_; rintro e w' ⟨sr,rfl,hzr,hg⟩; have y' : ZB w' r false none 0 0:=ZB.below y gw; have y0:=y'.c0; have y1:=y'.c1; have y2:=y'.f 0; have y3:=y'.f 1; have yt' : ZB w' t false none 0 0:=ZB.below yt gw; have t0:=yt'.c0; have t1:=yt'.c1; have t2:=yt'.f 0; have t3:=yt'.f 1; have hzq':=Zn.below hzq hg))
  go_wp2
  rename_i hH
  have y4:=zb_fin y' sq aq lq cq
  have t4:=zb_fin (yt'.only (only2 r w' (.bool sq) (.slice aq lq cq)) (Ne.symm hrt')) sr ar lr cr
  refine bodyPost_ret (results_c2t rfl _ _ r t 24 _ _ (0,0) _ rfl rfl (y4.only (only2 t _ _ _) hrt') t4 Tryz.underlying24 rfl (by kernel_rfl) (by kernel_rfl)) rfl ?_
  have zq:=zb_zn (yt'.only (only2 r w' (.bool sq) (.slice aq lq cq)) (Ne.symm hrt')) (zb_zn y' hzq' sq aq lq cq) sr ar lr cr
  have zr:=zb_zn (yt'.only (only2 r w' (.bool sq) (.slice aq lq cq)) (Ne.symm hrt')) (zb_zn y' hzr sq aq lq cq) sr ar lr cr
  exact ⟨sq,aq,lq,cq,sr,ar,lr,cr,_,_,by simp,zq,zr,HFD,hp.out.symm ▸ (b0.trans (hH.2.2.2.2.mono (Nat.le_of_lt hpr))),by omega,by omega,hap⟩
 ·have hs' : (s1 == s2) = false:=by simp [hs]
  by_cases hz0 : m % n = 0
  ·obtain rfl : lr = 0:=hr0.1 hz0
   have HFD : FD (sg s1 m) (sg s2 n) (sg true (m / n)) (sg s2 (m % n)):=by
    exact fd_zero hs hn0 hz0
   clear hs
   go_wp2_with fail
   go_region_held3 (fun w' => w'.cell? ⟨p,0,none⟩ = some (.bool s1)∧w'.cell? ⟨p,1,none⟩ = some (.slice a1 l1 c1)∧w'.cell? ⟨q,0,none⟩ = some (.bool s2)∧w'.cell? ⟨q,1,none⟩ = some (.slice a2 l2 c2)∧Below r wb w')
    ((refine zs2 x x2 hpr hqr ?_; first | (refine Below.mono ?_ hrb; focus ((with_reducible repeat' first | exact Below.refl _ _ | assumption | refine grow_step (by assumption) ?_ | refine grow_drew ?_ | refine grow_alloc ?_ _ | refine grow_drewN ?_ _); done)) | (refine ((Below.mono ?_ hrb).setCell (Nat.le_refl _) _).setCell (Nat.le_refl _) _; focus ((with_reducible repeat' first | exact Below.refl _ _ | assumption | refine grow_step (by assumption) ?_ | refine grow_drew ?_ | refine grow_alloc ?_ _ | refine grow_drewN ?_ _); done)) | (refine Below.setCell (Below.setCell (((Below.mono ?_ hrb).setCell (Nat.le_refl _) _).setCell (Nat.le_refl _) _) (Nat.le_of_lt hrt) _) (Nat.le_of_lt hrt) _; focus ((with_reducible repeat' first | exact Below.refl _ _ | assumption | refine grow_step (by assumption) ?_ | refine grow_drew ?_ | refine grow_alloc ?_ _ | refine grow_drewN ?_ _); done))))
    (first | (go_at_call 53; with_reducible refine (stand_n (Cn.below hcq gw)).mono ?_; rintro e w' ⟨sq,rfl,hzq,hg⟩) | (go_at_call 53; with_reducible refine (stand_n (Cn.below hcr gw)).mono ?_; rintro e w' ⟨sr,rfl,hzr,hg⟩; have y' : ZB w' r false none 0 0:=ZB.below y gw; have y0:=y'.c0; have y1:=y'.c1; have y2:=y'.f 0; have y3:=y'.f 1; have yt' : ZB w' t false none 0 0:=ZB.below yt gw; have t0:=yt'.c0; have t1:=yt'.c1; have t2:=yt'.f 0; have t3:=yt'.f 1; have hzq':=Zn.below hzq hg))
   go_wp2
   rename_i hH
   have y4:=zb_fin y' sq aq lq cq
   have t4:=zb_fin (yt'.only (only2 r w' (.bool sq) (.slice aq lq cq)) (Ne.symm hrt')) sr ar 0 cr
   refine bodyPost_ret (results_c2t rfl _ _ r t 24 _ _ (0,0) _ rfl rfl (y4.only (only2 t _ _ _) hrt') t4 Tryz.underlying24 rfl (by kernel_rfl) (by kernel_rfl)) rfl ?_
   have zq:=zb_zn (yt'.only (only2 r w' (.bool sq) (.slice aq lq cq)) (Ne.symm hrt')) (zb_zn y' hzq' sq aq lq cq) sr ar 0 cr
   have zr:=zb_zn (yt'.only (only2 r w' (.bool sq) (.slice aq lq cq)) (Ne.symm hrt')) (zb_zn y' hzr sq aq lq cq) sr ar 0 cr
   exact ⟨sq,aq,lq,cq,sr,ar,0,cr,_,_,by simp,zq,zr,HFD,hp.out.symm ▸ (b0.trans (hH.2.2.2.2.mono (Nat.le_of_lt hpr))),by omega,by omega,hap⟩
  ·have hlr0 : 0 < lr:=Nat.pos_of_ne_zero (fun h => hz0 (hr0.2 h))
   have HFD : FD (sg s1 m) (sg s2 n) (sg true (m / n + 1)) (sg s2 (n - m % n)):=by
    exact fd_up hs hn0 hz0
   clear hs
   go_wp2_with fail
   refine (of_n 1 (by decide) (by decide) w1 hcq.2.1).mono ?_
   rintro e w2 ⟨ao,lo,co,rfl,hco,k2,hlo⟩
   go_wp2_with fail
   refine (add_n (hcq.below k2).nm hco.nm (by omega) (by omega)).mono ?_
   rintro e w3 ⟨aq',lq',cq',rfl,hcq',k3,hlq'⟩
   have k4:=grow_step k3 (grow_step k2 k1)
   have u3:=(x2.below k4).c1
   clear u0 u2
   go_wp2_with fail
   refine (sub_new (hn.below k4) (hcr.below (grow_step k3 k2)).nm hl2 (by have:=Int.emod_lt_of_pos m hn0; omega)).mono ?_
   rintro e w4 ⟨ar',lr',cr',rfl,hcr',k5,hlr',hnew⟩
   have hap' : ∀ b,blk ar' = some b→blk aq' ≠ some b:=fun b hb e => absurd (fr_lt hcq'.2.2 e) (by have:=hnew b hb; omega)
   replace hcq':=hcq'.below k5
   replace k5:=grow_step k5 k4
   replace hr0:=hcr'.len
   clear hcq hcr k1 k2 k3 k4 hco u3
   go_wp2_with fail
   go_region_held3 (fun w' => w'.cell? ⟨p,0,none⟩ = some (.bool s1)∧w'.cell? ⟨p,1,none⟩ = some (.slice a1 l1 c1)∧w'.cell? ⟨q,0,none⟩ = some (.bool s2)∧w'.cell? ⟨q,1,none⟩ = some (.slice a2 l2 c2)∧Below r wb w')
    ((refine zs2 x x2 hpr hqr ?_; first | (refine Below.mono ?_ hrb; focus ((with_reducible repeat' first | exact Below.refl _ _ | assumption | refine grow_step (by assumption) ?_ | refine grow_drew ?_ | refine grow_alloc ?_ _ | refine grow_drewN ?_ _); done)) | (refine ((Below.mono ?_ hrb).setCell (Nat.le_refl _) _).setCell (Nat.le_refl _) _; focus ((with_reducible repeat' first | exact Below.refl _ _ | assumption | refine grow_step (by assumption) ?_ | refine grow_drew ?_ | refine grow_alloc ?_ _ | refine grow_drewN ?_ _); done)) | (refine Below.setCell (Below.setCell (((Below.mono ?_ hrb).setCell (Nat.le_refl _) _).setCell (Nat.le_refl _) _) (Nat.le_of_lt hrt) _) (Nat.le_of_lt hrt) _; focus ((with_reducible repeat' first | exact Below.refl _ _ | assumption | refine grow_step (by assumption) ?_ | refine grow_drew ?_ | refine grow_alloc ?_ _ | refine grow_drewN ?_ _); done))))
    (first | (go_at_call 53; with_reducible refine (stand_n (Cn.below hcq' gw)).mono ?_; rintro e w' ⟨sq,rfl,hzq,hg⟩) | (go_at_call 53; with_reducible refine (stand_n (Cn.below hcr' gw)).mono ?_; rintro e w' ⟨sr,rfl,hzr,hg⟩; have y' : ZB w' r false none 0 0:=ZB.below y gw; have y0:=y'.c0; have y1:=y'.c1; have y2:=y'.f 0; have y3:=y'.f 1; have yt' : ZB w' t false none 0 0:=ZB.below yt gw; have t0:=yt'.c0; have t1:=yt'.c1; have t2:=yt'.f 0; have t3:=yt'.f 1; have hzq':=Zn.below hzq hg))
   go_wp2
   rename_i hH
   have y4:=zb_fin y' sq aq' lq' cq'
   have t4:=zb_fin (yt'.only (only2 r w' (.bool sq) (.slice aq' lq' cq')) (Ne.symm hrt')) sr ar' lr' cr'
   refine bodyPost_ret (results_c2t rfl _ _ r t 24 _ _ (0,0) _ rfl rfl (y4.only (only2 t _ _ _) hrt') t4 Tryz.underlying24 rfl (by kernel_rfl) (by kernel_rfl)) rfl ?_
   have zq:=zb_zn (yt'.only (only2 r w' (.bool sq) (.slice aq' lq' cq')) (Ne.symm hrt')) (zb_zn y' hzq' sq aq' lq' cq') sr ar' lr' cr'
   have zr:=zb_zn (yt'.only (only2 r w' (.bool sq) (.slice aq' lq' cq')) (Ne.symm hrt')) (zb_zn y' hzr sq aq' lq' cq') sr ar' lr' cr'
   exact ⟨sq,aq',lq',cq',sr,ar',lr',cr',_,_,by simp,zq,zr,HFD,hp.out.symm ▸ (b0.trans (hH.2.2.2.2.mono (Nat.le_of_lt hpr))),by omega,by omega,hap'⟩
end Go.Proofs.YtepdckgfolkjjaaGreatDoor.Fresh
