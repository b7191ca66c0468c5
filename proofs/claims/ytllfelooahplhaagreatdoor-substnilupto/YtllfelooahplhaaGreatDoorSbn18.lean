/-
 Several texts in one: ZD,ZF1.
-/
import Derived.Test.YtllfelooahplhaaGreatDoorSbn14
import Derived.Test.YtllfelooahplhaaGreatDoorSbn17
import Derived.Deep.DeepCutAuto
set_option maxRecDepth 100000
set_option maxHeartbeats 1600000
namespace Go.Proofs.YtllfelooahplhaaGreatDoor
open Go.RowKit

end Go.Proofs.YtllfelooahplhaaGreatDoor

namespace Go.Proofs.YtllfelooahplhaaGreatDoor.Fresh
open Go.RowKit

variable {w w':World}{B cap r l c l1 c1 l2 c2:Nat}{ad a a1 a2:Option Addr}{s s1:Bool}{n m z:Int}
def Fr (B:Nat)(w:World)(ad:Option Addr)(cap:Nat):Prop:=(ad=none∧cap=0)∨ ∃b xs,ad=some ⟨b,0,none⟩∧B≤b∧Row w b xs∧xs.length=cap∧cap≤9223372036854775807
theorem row_lt {b:Nat}{xs:List Int}(h:Row w b xs):b<w.heap.size:=(Array.getElem?_eq_some_iff.1 h).1
theorem Fr.below (h:Fr B w ad cap)(hb:Below w.heap.size w w'):Fr B w' ad cap:=by
 rcases h with h|⟨b,xs,h1,h2,h3,h4⟩
 ·exact .inl h
 exact .inr ⟨b,xs,h1,h2,(hb.block b (row_lt h3)).trans h3,h4⟩
theorem Fr.only (h:Fr B w ad cap)(y:ZB w r s a l c)(ho:Only r w w'):Fr B w' ad cap:=by
 rcases h with h|⟨b,xs,h1,h2,h3,h4⟩
 ·exact .inl h
 refine .inr ⟨b,xs,h1,h2,(ho.block b (fun e=> ?_)).trans h3,h4⟩
 subst e
 have e:=Option.some.inj ((show w.heap[b]? =_ from y).symm.trans h3)
 injection e with _ e
 exact absurd e (by decide)
theorem Fr.mono {B':Nat}(h:Fr B w ad cap)(hB:B'≤B):Fr B' w ad cap:=by
 rcases h with h|⟨b,xs,h1,h2,h3⟩
 ·exact .inl h
 exact .inr ⟨b,xs,h1,Nat.le_trans hB h2,h3⟩
def Nm (B:Nat)(w:World)(ad:Option Addr)(len cap:Nat)(n:Int):Prop:=Go.Proofs.YtllfelooahplhaaGreatDoor.Nm w ad len cap n∧B≤w.heap.size
def Cn (B:Nat)(w:World)(ad:Option Addr)(len cap:Nat)(n:Int):Prop:=Go.Proofs.YtllfelooahplhaaGreatDoor.Cn w ad len cap n∧B≤w.heap.size∧Fr B w ad cap
theorem Cn.nm {len:Nat}(h:Cn B w ad len cap n):Nm B w ad len cap n:=⟨h.1.nm,h.2.1⟩
theorem Nm.below {len:Nat}(h:Nm B w ad len cap n)(hb:Below w.heap.size w w'):Nm B w' ad len cap n:=⟨h.1.below hb,Nat.le_trans h.2 hb.size⟩
theorem Cn.below {len:Nat}(h:Cn B w ad len cap n)(hb:Below w.heap.size w w'):Cn B w' ad len cap n:=⟨h.1.below hb,Nat.le_trans h.2.1 hb.size,h.2.2.below hb⟩
theorem Cn.len {len:Nat}(h:Cn B w ad len cap n):n=0↔len=0:=h.1.len
theorem out_cn {len:Nat}{zs:List Int}(hB:B≤w.heap.size)(h:Out w w' ad len cap zs)(hc:Canon zs)(hv:val zs=n):Cn B w' ad len cap n:=by
 refine⟨Go.Proofs.YtllfelooahplhaaGreatDoor.out_cn h hc hv,Nat.le_trans hB h.1.size,?_⟩
 obtain⟨_,⟨rfl,_,rfl,_⟩|⟨b,xs,rfl,hb,hr,_,hn,_,hm,_⟩⟩:=h
 ·exact .inl ⟨rfl,rfl⟩
 exact .inr ⟨b,xs,rfl,Nat.le_trans hB hb,hr,hn,hm⟩
theorem nm_nil (hB:B≤w.heap.size):Nm B w none 0 0 0:=⟨Go.Proofs.YtllfelooahplhaaGreatDoor.nm_nil w,hB⟩

theorem add_n (h1:Nm B w a1 l1 c1 m)(h2:Nm B w a2 l2 c2 n)(hl1:l1≤1099511627776)(hl2:l2≤1099511627776):
  Calls Tryz.prog 111 #[.slice a1 l1 c1,.slice a2 l2 c2] w fun e w'=> ∃ad len cap,e= .returned (.slice ad len cap)∧Cn B w' ad len cap (m+n)∧Below w.heap.size w w'∧len≤max l1 l2+1:=by
 obtain⟨⟨xs,h1,rfl⟩,hB⟩:=h1
 obtain⟨⟨ys,h2,rfl⟩,_⟩:=h2
 refine(add_any h1 h2 hl1 hl2).mono ?_
 rintro e w' ⟨ad,len,cap,zs,rfl,ho,hc,hv,hl⟩
 exact⟨ad,len,cap,rfl,out_cn hB ho hc hv,ho.1,hl⟩
theorem mul_n (h1:Nm B w a1 l1 c1 m)(h2:Nm B w a2 l2 c2 n)(hl1:l1≤1099511627776)(hl2:l2≤1099511627776):
  Calls Tryz.prog 113 #[.slice a1 l1 c1,.slice a2 l2 c2] w fun e w'=> ∃ad len cap,e= .returned (.slice ad len cap)∧Cn B w' ad len cap (m*n)∧Below w.heap.size w w'∧len≤l1+l2:=by
 obtain⟨⟨xs,h1,rfl⟩,hB⟩:=h1
 obtain⟨⟨ys,h2,rfl⟩,_⟩:=h2
 refine(mul_any h1 h2 hl1 hl2).mono ?_
 rintro e w' ⟨ad,len,cap,zs,rfl,ho,hc,hv,hl⟩
 exact⟨ad,len,cap,rfl,out_cn hB ho hc hv,ho.1,hl⟩
theorem sub_n (h1:Nm B w a1 l1 c1 m)(h2:Nm B w a2 l2 c2 n)(hl1:l1≤1099511627776)(hge:n≤m):
  Calls Tryz.prog 112 #[.slice a1 l1 c1,.slice a2 l2 c2] w fun e w'=> ∃ad len cap,e= .returned (.tuple #[.slice ad len cap,.int .i64 0])∧Cn B w' ad len cap (m-n)∧Below w.heap.size w w'∧len≤l1:=by
 obtain⟨⟨xs,h1,rfl⟩,hB⟩:=h1
 obtain⟨⟨ys,h2,rfl⟩,_⟩:=h2
 refine(sub_any h1 h2 hl1 hge).mono ?_
 rintro e w' ⟨ad,len,cap,zs,rfl,ho,hc,hv,hl⟩
 exact⟨ad,len,cap,rfl,out_cn hB ho hc hv,ho.1,hl⟩
theorem of_n (n:Int)(h0:0≤n)(h1:n<18446744073709551616)(w:World)(hB:B≤w.heap.size):
  Calls Tryz.prog 108 #[.int .u64 n] w fun e w'=> ∃ad len cap,e= .returned (.slice ad len cap)∧Cn B w' ad len cap n∧Below w.heap.size w w'∧len≤2:=by
 refine(of_any n h0 h1 w).mono ?_
 rintro e w' ⟨ad,len,cap,zs,rfl,ho,hc,hv,hl⟩
 exact⟨ad,len,cap,rfl,out_cn hB ho hc hv,ho.1,hl⟩
theorem cmp_n (h1:Nm B w a1 l1 c1 m)(h2:Nm B w a2 l2 c2 n):
  Calls Tryz.prog 92 #[.slice a1 l1 c1,.slice a2 l2 c2] w fun e w'=>e= .returned (.int .i64 (cmpI m n))∧Below w.heap.size w w':=Go.Proofs.YtllfelooahplhaaGreatDoor.cmp_n h1.1 h2.1
theorem cmp_lt (h1:Nm B w a1 l1 c1 m)(h2:Nm B w a2 l2 c2 n)(he:m<n):
  Calls Tryz.prog 92 #[.slice a1 l1 c1,.slice a2 l2 c2] w fun e w'=>e= .returned (.int .i64 (-1))∧Below w.heap.size w w':=Go.Proofs.YtllfelooahplhaaGreatDoor.cmp_lt h1.1 h2.1 he

def Zm (B:Nat)(w:World)(s:Bool)(ad:Option Addr)(len cap:Nat)(z:Int):Prop:=∃n,Nm B w ad len cap n∧z=sg s n
def Zn (B:Nat)(w:World)(s:Bool)(ad:Option Addr)(len cap:Nat)(z:Int):Prop:=∃n,Cn B w ad len cap n∧z=sg s n∧(s=true→n≠0)
theorem Zn.zn {len:Nat}(h:Zn B w s ad len cap z):Go.Proofs.YtllfelooahplhaaGreatDoor.Zn w s ad len cap z:=by
 obtain⟨n,h1,h2⟩:=h
 exact⟨n,h1.1,h2⟩
theorem Zn.fr {len:Nat}(h:Zn B w s ad len cap z):Fr B w ad cap:=by
 obtain⟨n,h1,h2⟩:=h
 exact h1.2.2
theorem zm_of {len:Nat}(h:Go.Proofs.YtllfelooahplhaaGreatDoor.Zm w s ad len cap z)(hB:B≤w.heap.size):Zm B w s ad len cap z:=by
 obtain⟨n,h1,h2⟩:=h
 exact⟨n,⟨h1,hB⟩,h2⟩
theorem zb_cn {len:Nat}(y:ZB w r s a l c)(ho:Only r w w')(h:Cn B w ad len cap n):Cn B w' ad len cap n:=by
 obtain⟨⟨zs,h1,h2,h3⟩,h4,h5⟩:=h
 exact⟨⟨zs,h1.only ho (zb_apart y h1),h2,h3⟩,Nat.le_trans h4 (Nat.le_of_eq ho.size.symm),h5.only y ho⟩
theorem zb_zn {len:Nat}(y:ZB w r s a l c)(h:Zn B w s1 ad len cap z)(s':Bool)(a':Option Addr)(l' c':Nat):
  Zn B ((w.setCell ⟨r,0,none⟩ (.bool s')).setCell ⟨r,1,none⟩ (.slice a' l' c')) s1 ad len cap z:=by
 obtain⟨n,h1,h4⟩:=h
 exact⟨n,zb_cn y ((Only.set r 0 w _).trans (Only.set r 1 _ _)) h1,h4⟩
theorem zb_nm {len:Nat}(y:ZB w r s a l c)(ho:Only r w w')(h:Nm B w ad len cap n):Nm B w' ad len cap n:=⟨Go.Proofs.YtllfelooahplhaaGreatDoor.zb_nm y ho h.1,Nat.le_trans h.2 (Nat.le_of_eq ho.size.symm)⟩

theorem bare_n2 (h:Nm B w a l c n)(hl:l≤1099511627776):
  Calls Tryz.prog 109 #[.slice a l c] w fun e w'=> ∃ad len cap,e= .returned (.slice ad len cap)∧Cn B w' ad len cap n∧Below w.heap.size w w'∧len≤l+1:=by
 go_enter Tryz.func109,Tryz.ntmps109
 go_wp2_with fail
 refine(add_n h (nm_nil h.2) hl (by decide)).mono ?_
 rintro e w' ⟨ad,len,cap,rfl,hc,hb,hl'⟩
 go_wp2
 go_ret
 exact⟨ad,len,cap,rfl,by simpa using hc,hb,by omega⟩
theorem stand_n (h:Cn B w a l c n):
  Calls Tryz.prog 107 #[.bool s,.slice a l c] w fun e w'=> ∃s',e= .returned (.agg #[.bool s',.slice a l c])∧Zn B w' s' a l c (sg s n)∧Below w.heap.size w w':=by
 have hn:=h.len
 go_enter Tryz.func107,Tryz.ntmps107
 cases s
 ·go_wp2
  refine bodyPost_ret (results_cell_row rfl _ _ w.heap.size 45 _ (0,0) _ rfl (zb_new w _ _ _ _) Tryz.underlying45 rfl k_f) rfl ?_
  exact⟨false,by simp,⟨n,h.below (below_alloc _ _),rfl,fun h=>by cases h⟩,below_alloc _ _⟩
 go_wp2
 refine bodyPost_ret (results_cell_row rfl _ _ w.heap.size 45 _ (0,0) _ rfl (zb_new w _ _ _ _) Tryz.underlying45 rfl k_f) rfl ?_
 refine⟨decide (0<l),by simp,⟨n,h.below (below_alloc _ _),?_,fun h=> ?_⟩,below_alloc _ _⟩
 ·by_cases h0:0<l
  ·simp[h0]
  have:n=0:=hn.2 o_m
  simp[sg,this]
 have h0:0<l:=of_decide_eq_true h
 intro h1;have:=hn.1 h1;omega
theorem norm_n (h:Zm B w s a l c z)(hl:l≤1099511627776):
  Calls Tryz.prog 61 #[.agg #[.bool s,.slice a l c]] w fun e w'=> ∃s' ad len cap,e= .returned (.agg #[.bool s',.slice ad len cap])∧Zn B w' s' ad len cap z∧Below w.heap.size w w'∧len≤l+1:=by
 obtain⟨n,hn,rfl⟩:=h
 go_enter Tryz.func61,Tryz.ntmps61
 go_wp2_with fail
 have x:=(zb_new w s a l c).below (below_alloc _ (.cells #[.bool false,.slice none 0 0] 45))
 have y:=zb_new (w.alloc (.cells #[.bool s,.slice a l c] 45)) false none 0 0
 have b0:Below w.heap.size w ((w.alloc (.cells #[.bool s,.slice a l c] 45)).alloc (.cells #[.bool false,.slice none 0 0] 45)):=below_alloc' (below_alloc _ _) _
 rw[show(w.alloc (.cells #[.bool s,.slice a l c] 45)).heap.size=w.heap.size+1 from by simp]at y
 generalize (w.alloc (.cells #[.bool s,.slice a l c] 45)).alloc (.cells #[.bool false,.slice none 0 0] 45)=wb at*
 have hpr:w.heap.size<w.heap.size+1:=by omega
 replace hn:=hn.below b0
 generalize hp:w.heap.size=p at*
 replace hp:=hide hp
 generalize p+1=r at*
 have hrb:=Nat.le_of_lt y.lt
 go_region_held3 (fun w'=>w'.cell? ⟨p,0,none⟩=some (.bool s)∧w'.cell? ⟨p,1,none⟩=some (.slice a l c)∧Below r wb w')
  ((refine zs1 x hpr ?_;first|(refine Below.mono ?_ hrb;focus ((with_reducible repeat' first|exact Below.refl _ _|assumption|refine grow_step (by assumption) ?_|refine grow_drew ?_|refine grow_alloc ?_ _|refine grow_drewN ?_ _);done))|(refine((Below.mono ?_ hrb).setCell (Nat.le_refl _) _).setCell (Nat.le_refl _) _;focus ((with_reducible repeat' first|exact Below.refl _ _|assumption|refine grow_step (by assumption) ?_|refine grow_drew ?_|refine grow_alloc ?_ _|refine grow_drewN ?_ _);done))))
  (first|(go_at_call 109;refine(bare_n2 (Nm.below hn gw) hl).mono ?_;rintro e w' ⟨ad,len,cap,rfl,hc,hg,hl'⟩)|(go_at_call 107;refine(stand_n (Cn.below hc gw)).mono ?_;rintro e w' ⟨s',rfl,hz,hg⟩;have y':ZB w' r false none 0 0:=ZB.below y gw;have y0:=y'.c0;have y1:=y'.c1;have y2:=y'.f 0;have y3:=y'.f 1))
 go_wp2
 rename_i hH
 refine bodyPost_ret (results_cell_row rfl _ _ r 45 _ (0,0) _ rfl (zb_fin y' s' ad len cap) Tryz.underlying45 rfl k_f) rfl ?_
 exact⟨s',ad,len,cap,by simp,zb_zn y' hz _ _ _ _,hp.out.symm▸(b0.trans (hH.2.2.mono (Nat.le_of_lt hpr))),hl'⟩
theorem zmul_n {s2:Bool}{z1 z2:Int}(h1:Zm B w s1 a1 l1 c1 z1)(h2:Zm B w s2 a2 l2 c2 z2)(hl1:l1≤1099511627776)(hl2:l2≤1099511627776):
  Calls Tryz.prog 65 #[.agg #[.bool s1,.slice a1 l1 c1],.agg #[.bool s2,.slice a2 l2 c2]] w fun e w'=> ∃s' ad len cap,e= .returned (.agg #[.bool s',.slice ad len cap])∧Zn B w' s' ad len cap (z1*z2)∧Below w.heap.size w w'∧len≤l1+l2:=by
 obtain⟨m,hm,rfl⟩:=h1
 obtain⟨n,hn,rfl⟩:=h2
 rw[←sg_mul]
 go_enter Tryz.func65,Tryz.ntmps65
 go_wp2_with fail
 have x:=(zb_new w s1 a1 l1 c1).below (below_alloc' (below_alloc _ (.cells #[.bool s2,.slice a2 l2 c2] 45)) (.cells #[.bool false,.slice none 0 0] 45))
 have x2:=(zb_new (w.alloc (.cells #[.bool s1,.slice a1 l1 c1] 45)) s2 a2 l2 c2).below (below_alloc _ (.cells #[.bool false,.slice none 0 0] 45))
 have y:=zb_new ((w.alloc (.cells #[.bool s1,.slice a1 l1 c1] 45)).alloc (.cells #[.bool s2,.slice a2 l2 c2] 45)) false none 0 0
 have b0:Below w.heap.size w (((w.alloc (.cells #[.bool s1,.slice a1 l1 c1] 45)).alloc (.cells #[.bool s2,.slice a2 l2 c2] 45)).alloc (.cells #[.bool false,.slice none 0 0] 45)):=below_alloc' (below_alloc' (below_alloc _ _) _) _
 rw[show((w.alloc (.cells #[.bool s1,.slice a1 l1 c1] 45)).alloc (.cells #[.bool s2,.slice a2 l2 c2] 45)).heap.size=w.heap.size+2 from by simp]at y
 rw[show(w.alloc (.cells #[.bool s1,.slice a1 l1 c1] 45)).heap.size=w.heap.size+1 from by simp]at x2
 generalize ((w.alloc (.cells #[.bool s1,.slice a1 l1 c1] 45)).alloc (.cells #[.bool s2,.slice a2 l2 c2] 45)).alloc (.cells #[.bool false,.slice none 0 0] 45)=wb at*
 have hpr:w.heap.size<w.heap.size+2:=by omega
 have hqr:w.heap.size+1<w.heap.size+2:=by omega
 have hpq:w.heap.size<w.heap.size+1:=by omega
 replace hm:=hm.below b0
 replace hn:=hn.below b0
 generalize hp:w.heap.size=p at*
 replace hp:=hide hp
 generalize p+2=r at*
 generalize p+1=q at*
 have hrb:=Nat.le_of_lt y.lt
 go_region_held3 (fun w'=>w'.cell? ⟨p,0,none⟩=some (.bool s1)∧w'.cell? ⟨p,1,none⟩=some (.slice a1 l1 c1)∧w'.cell? ⟨q,0,none⟩=some (.bool s2)∧w'.cell? ⟨q,1,none⟩=some (.slice a2 l2 c2)∧Below r wb w')
  ((refine zs2 x x2 hpr hqr ?_;first|(refine Below.mono ?_ hrb;focus ((with_reducible repeat' first|exact Below.refl _ _|assumption|refine grow_step (by assumption) ?_|refine grow_drew ?_|refine grow_alloc ?_ _|refine grow_drewN ?_ _);done))|(refine((Below.mono ?_ hrb).setCell (Nat.le_refl _) _).setCell (Nat.le_refl _) _;focus ((with_reducible repeat' first|exact Below.refl _ _|assumption|refine grow_step (by assumption) ?_|refine grow_drew ?_|refine grow_alloc ?_ _|refine grow_drewN ?_ _);done))))
  (first|(go_at_call 113;refine(mul_n (Nm.below hm gw) (Nm.below hn gw) hl1 hl2).mono ?_;rintro e w' ⟨ad,len,cap,rfl,hc,hg,hl'⟩)|(go_at_call 107;refine(stand_n (Cn.below hc gw)).mono ?_;rintro e w' ⟨s',rfl,hz,hg⟩;have y':ZB w' r false none 0 0:=ZB.below y gw;have y0:=y'.c0;have y1:=y'.c1;have y2:=y'.f 0;have y3:=y'.f 1))
 go_wp2

 rename_i hH
 refine bodyPost_ret (results_cell_row rfl _ _ r 45 _ (0,0) _ rfl (zb_fin y' s' ad len cap) Tryz.underlying45 rfl k_f) rfl ?_
 exact⟨s',ad,len,cap,by simp,zb_zn y' hz _ _ _ _,hp.out.symm▸(b0.trans (hH.2.2.2.2.mono (Nat.le_of_lt hpr))),hl'⟩
theorem zadd_n {s2:Bool}{z1 z2:Int}(h1:Zm B w s1 a1 l1 c1 z1)(h2:Zm B w s2 a2 l2 c2 z2)(hl1:l1≤1099511627776)(hl2:l2≤1099511627776):
  Calls Tryz.prog 64 #[.agg #[.bool s1,.slice a1 l1 c1],.agg #[.bool s2,.slice a2 l2 c2]] w fun e w'=> ∃s' ad len cap,e= .returned (.agg #[.bool s',.slice ad len cap])∧Zn B w' s' ad len cap (z1+z2)∧Below w.heap.size w w'∧len≤max l1 l2+1:=by
 obtain⟨m,hm,rfl⟩:=h1
 obtain⟨n,hn,rfl⟩:=h2
 by_cases hs:s1=s2
 ·have hs':(s1==s2)=true:=by simp[hs]
  rw[show sg s1 m+sg s2 n=sg s1 (m+n) from by rw[←hs,sg_add]]
  clear hs
  go_enter Tryz.func64,Tryz.ntmps64
  go_wp2_with fail
  have x:=(zb_new w s1 a1 l1 c1).below (below_alloc' (below_alloc _ (.cells #[.bool s2,.slice a2 l2 c2] 45)) (.cells #[.bool false,.slice none 0 0] 45))
  have x2:=(zb_new (w.alloc (.cells #[.bool s1,.slice a1 l1 c1] 45)) s2 a2 l2 c2).below (below_alloc _ (.cells #[.bool false,.slice none 0 0] 45))
  have y:=zb_new ((w.alloc (.cells #[.bool s1,.slice a1 l1 c1] 45)).alloc (.cells #[.bool s2,.slice a2 l2 c2] 45)) false none 0 0
  have b0:Below w.heap.size w (((w.alloc (.cells #[.bool s1,.slice a1 l1 c1] 45)).alloc (.cells #[.bool s2,.slice a2 l2 c2] 45)).alloc (.cells #[.bool false,.slice none 0 0] 45)):=below_alloc' (below_alloc' (below_alloc _ _) _) _
  rw[show((w.alloc (.cells #[.bool s1,.slice a1 l1 c1] 45)).alloc (.cells #[.bool s2,.slice a2 l2 c2] 45)).heap.size=w.heap.size+2 from by simp]at y
  rw[show(w.alloc (.cells #[.bool s1,.slice a1 l1 c1] 45)).heap.size=w.heap.size+1 from by simp]at x2
  generalize ((w.alloc (.cells #[.bool s1,.slice a1 l1 c1] 45)).alloc (.cells #[.bool s2,.slice a2 l2 c2] 45)).alloc (.cells #[.bool false,.slice none 0 0] 45)=wb at*
  have hpr:w.heap.size<w.heap.size+2:=by omega
  have hqr:w.heap.size+1<w.heap.size+2:=by omega
  have hpq:w.heap.size<w.heap.size+1:=by omega
  replace hm:=hm.below b0
  replace hn:=hn.below b0
  generalize hp:w.heap.size=p at*
  replace hp:=hide hp
  generalize p+2=r at*
  generalize p+1=q at*
  have hrb:=Nat.le_of_lt y.lt
  go_region_held3 (fun w'=>w'.cell? ⟨p,0,none⟩=some (.bool s1)∧w'.cell? ⟨p,1,none⟩=some (.slice a1 l1 c1)∧w'.cell? ⟨q,0,none⟩=some (.bool s2)∧w'.cell? ⟨q,1,none⟩=some (.slice a2 l2 c2)∧Below r wb w')
   ((refine zs2 x x2 hpr hqr ?_;first|(refine Below.mono ?_ hrb;focus ((with_reducible repeat' first|exact Below.refl _ _|assumption|refine grow_step (by assumption) ?_|refine grow_drew ?_|refine grow_alloc ?_ _|refine grow_drewN ?_ _);done))|(refine((Below.mono ?_ hrb).setCell (Nat.le_refl _) _).setCell (Nat.le_refl _) _;focus ((with_reducible repeat' first|exact Below.refl _ _|assumption|refine grow_step (by assumption) ?_|refine grow_drew ?_|refine grow_alloc ?_ _|refine grow_drewN ?_ _);done))))
   (first|(go_at_call 111;refine(add_n (Nm.below hm gw) (Nm.below hn gw) hl1 hl2).mono ?_;rintro e w' ⟨ad,len,cap,rfl,hc,hg,hl'⟩)|(go_at_call 107;refine(stand_n (Cn.below hc gw)).mono ?_;rintro e w' ⟨s',rfl,hz,hg⟩;have y':ZB w' r false none 0 0:=ZB.below y gw;have y0:=y'.c0;have y1:=y'.c1;have y2:=y'.f 0;have y3:=y'.f 1))
  go_wp2
  rename_i hH
  refine bodyPost_ret (results_cell_row rfl _ _ r 45 _ (0,0) _ rfl (zb_fin y' s' ad len cap) Tryz.underlying45 rfl k_f) rfl ?_
  exact⟨s',ad,len,cap,by simp,zb_zn y' hz _ _ _ _,hp.out.symm▸(b0.trans (hH.2.2.2.2.mono (Nat.le_of_lt hpr))),hl'⟩
 have hs':(s1==s2)=false:=by simp[hs]
 by_cases hlt:m<n
 ·rw[←sg_sub2 hs]
  clear hs
  go_enter Tryz.func64,Tryz.ntmps64
  go_wp2_with fail
  have x:=(zb_new w s1 a1 l1 c1).below (below_alloc' (below_alloc _ (.cells #[.bool s2,.slice a2 l2 c2] 45)) (.cells #[.bool false,.slice none 0 0] 45))
  have x2:=(zb_new (w.alloc (.cells #[.bool s1,.slice a1 l1 c1] 45)) s2 a2 l2 c2).below (below_alloc _ (.cells #[.bool false,.slice none 0 0] 45))
  have y:=zb_new ((w.alloc (.cells #[.bool s1,.slice a1 l1 c1] 45)).alloc (.cells #[.bool s2,.slice a2 l2 c2] 45)) false none 0 0
  have b0:Below w.heap.size w (((w.alloc (.cells #[.bool s1,.slice a1 l1 c1] 45)).alloc (.cells #[.bool s2,.slice a2 l2 c2] 45)).alloc (.cells #[.bool false,.slice none 0 0] 45)):=below_alloc' (below_alloc' (below_alloc _ _) _) _
  rw[show((w.alloc (.cells #[.bool s1,.slice a1 l1 c1] 45)).alloc (.cells #[.bool s2,.slice a2 l2 c2] 45)).heap.size=w.heap.size+2 from by simp]at y
  rw[show(w.alloc (.cells #[.bool s1,.slice a1 l1 c1] 45)).heap.size=w.heap.size+1 from by simp]at x2
  generalize ((w.alloc (.cells #[.bool s1,.slice a1 l1 c1] 45)).alloc (.cells #[.bool s2,.slice a2 l2 c2] 45)).alloc (.cells #[.bool false,.slice none 0 0] 45)=wb at*
  have hpr:w.heap.size<w.heap.size+2:=by omega
  have hqr:w.heap.size+1<w.heap.size+2:=by omega
  have hpq:w.heap.size<w.heap.size+1:=by omega
  replace hm:=hm.below b0
  replace hn:=hn.below b0
  generalize hp:w.heap.size=p at*
  replace hp:=hide hp
  generalize p+2=r at*
  generalize p+1=q at*
  have hrb:=Nat.le_of_lt y.lt
  refine(cmp_lt hm hn hlt).mono ?_
  rintro e w1 ⟨rfl,k1⟩
  replace x:=x.below k1
  replace x2:=x2.below k1
  replace y:=y.below k1
  replace hm:=hm.below k1
  replace hn:=hn.below k1
  replace b0:=b0.trans (k1.mono (Nat.le_of_lt (Nat.lt_of_lt_of_le hpr hrb)))
  clear hrb k1
  have u0:=x.c0
  have u1:=x.c1
  have u2:=x2.c0
  have u3:=x2.c1
  have v0:=x.f 0
  have v1:=x.f 1
  have v2:=x2.f 0
  have v3:=x2.f 1
  have hpq':p≠q:=by omega
  go_wp2_with fail
  have o1:=only2 p w1 (.bool s2) (.slice a2 l2 c2)
  replace hm:=zb_nm x o1 hm
  replace hn:=zb_nm x o1 hn
  replace x2:=x2.only o1 (Ne.symm hpq')
  replace y:=y.only o1 o_m
  replace b0:=(b0.setCell (p:=⟨p,0,none⟩) (Nat.le_refl _) (.bool s2)).setCell (p:=⟨p,1,none⟩) (Nat.le_refl _) (.slice a2 l2 c2)
  replace x:=zb_fin x s2 a2 l2 c2
  generalize (w1.setCell ⟨p,0,none⟩ (.bool s2)).setCell ⟨p,1,none⟩ (.slice a2 l2 c2)=w2 at*
  have o2:=only2 q w2 (.bool s1) (.slice a1 l1 c1)
  replace hm:=zb_nm x2 o2 hm
  replace hn:=zb_nm x2 o2 hn
  replace x:=x.only o2 hpq'
  replace y:=y.only o2 o_m
  replace b0:=(b0.setCell (p:=⟨q,0,none⟩) (Nat.le_of_lt hpq) (.bool s1)).setCell (p:=⟨q,1,none⟩) (Nat.le_of_lt hpq) (.slice a1 l1 c1)
  replace x2:=zb_fin x2 s1 a1 l1 c1
  generalize (w2.setCell ⟨q,0,none⟩ (.bool s1)).setCell ⟨q,1,none⟩ (.slice a1 l1 c1)=w3 at*
  clear o1 o2 u0 u1 u2 u3 v0 v1 v2 v3
  refine(sub_n hn hm hl2 o_m).mono ?_
  rintro e w4 ⟨ad,len,cap,rfl,hc,k2,hl'⟩
  have u0:=(x.below k2).c0
  go_wp2_with fail
  refine(stand_n hc).mono ?_
  rintro e w' ⟨s',rfl,hz,hg⟩
  have y':ZB w' r false none 0 0:=ZB.below y (grow_step hg k2)
  have y0:=y'.c0
  have y1:=y'.c1
  have y2:=y'.f 0
  have y3:=y'.f 1
  have hB:Below p w w':=b0.trans ((grow_step hg k2).mono (Nat.le_of_lt x.lt))
  go_wp2
  refine bodyPost_ret (results_cell_row rfl _ _ r 45 _ (0,0) _ rfl (zb_fin y' s' ad len cap) Tryz.underlying45 rfl k_f) rfl ?_
  exact⟨s',ad,len,cap,by simp,zb_zn y' hz _ _ _ _,hp.out.symm▸(hB.setCell (Nat.le_of_lt hpr) _).setCell (Nat.le_of_lt hpr) _,by omega⟩
 rw[←sg_sub1 hs]
 clear hs
 go_enter Tryz.func64,Tryz.ntmps64
 go_wp2_with fail
 have x:=(zb_new w s1 a1 l1 c1).below (below_alloc' (below_alloc _ (.cells #[.bool s2,.slice a2 l2 c2] 45)) (.cells #[.bool false,.slice none 0 0] 45))
 have x2:=(zb_new (w.alloc (.cells #[.bool s1,.slice a1 l1 c1] 45)) s2 a2 l2 c2).below (below_alloc _ (.cells #[.bool false,.slice none 0 0] 45))
 have y:=zb_new ((w.alloc (.cells #[.bool s1,.slice a1 l1 c1] 45)).alloc (.cells #[.bool s2,.slice a2 l2 c2] 45)) false none 0 0
 have b0:Below w.heap.size w (((w.alloc (.cells #[.bool s1,.slice a1 l1 c1] 45)).alloc (.cells #[.bool s2,.slice a2 l2 c2] 45)).alloc (.cells #[.bool false,.slice none 0 0] 45)):=below_alloc' (below_alloc' (below_alloc _ _) _) _
 rw[show((w.alloc (.cells #[.bool s1,.slice a1 l1 c1] 45)).alloc (.cells #[.bool s2,.slice a2 l2 c2] 45)).heap.size=w.heap.size+2 from by simp]at y
 rw[show(w.alloc (.cells #[.bool s1,.slice a1 l1 c1] 45)).heap.size=w.heap.size+1 from by simp]at x2
 generalize ((w.alloc (.cells #[.bool s1,.slice a1 l1 c1] 45)).alloc (.cells #[.bool s2,.slice a2 l2 c2] 45)).alloc (.cells #[.bool false,.slice none 0 0] 45)=wb at*
 have hpr:w.heap.size<w.heap.size+2:=by omega
 have hqr:w.heap.size+1<w.heap.size+2:=by omega
 have hpq:w.heap.size<w.heap.size+1:=by omega
 replace hm:=hm.below b0
 replace hn:=hn.below b0
 generalize hp:w.heap.size=p at*
 replace hp:=hide hp
 generalize p+2=r at*
 generalize p+1=q at*
 have hrb:=Nat.le_of_lt y.lt
 refine(cmp_n hm hn).mono ?_
 rintro e w1 ⟨rfl,k1⟩
 have hcn: ¬cmpI m n<0:=by unfold cmpI;rw[if_neg o_m];split <;> decide
 generalize cmpI m n=cc at*
 replace x:=x.below k1
 replace x2:=x2.below k1
 replace y:=y.below k1
 replace hm:=hm.below k1
 replace hn:=hn.below k1
 replace b0:=b0.trans (k1.mono (Nat.le_of_lt (Nat.lt_of_lt_of_le hpr hrb)))
 clear hrb k1
 have u0:=x.c0
 have u1:=x.c1
 have u2:=x2.c0
 have u3:=x2.c1
 go_wp2_with fail
 refine(sub_n hm hn hl1 hlt).mono ?_
 rintro e w4 ⟨ad,len,cap,rfl,hc,k2,hl'⟩
 clear u0 u1 u2 u3
 have u0:=(x.below k2).c0
 go_wp2_with fail
 refine(stand_n hc).mono ?_
 rintro e w' ⟨s',rfl,hz,hg⟩
 have y':ZB w' r false none 0 0:=ZB.below y (grow_step hg k2)
 have y0:=y'.c0
 have y1:=y'.c1
 have y2:=y'.f 0
 have y3:=y'.f 1
 have hB:Below p w w':=b0.trans ((grow_step hg k2).mono (Nat.le_of_lt x.lt))
 go_wp2
 refine bodyPost_ret (results_cell_row rfl _ _ r 45 _ (0,0) _ rfl (zb_fin y' s' ad len cap) Tryz.underlying45 rfl k_f) rfl ?_
 exact⟨s',ad,len,cap,by simp,zb_zn y' hz _ _ _ _,hp.out.symm▸(hB.setCell (Nat.le_of_lt hpr) _).setCell (Nat.le_of_lt hpr) _,by omega⟩
theorem zof_n (n:Int)(h0: -9223372036854775808≤n)(h1:n≤9223372036854775807)(w:World)(hB:B≤w.heap.size):
  Calls Tryz.prog 59 #[.int .i64 n] w fun e w'=> ∃s' ad len cap,e= .returned (.agg #[.bool s',.slice ad len cap])∧Zn B w' s' ad len cap n∧Below w.heap.size w w'∧len≤2:=by
 go_enter Tryz.func59,Tryz.ntmps59
 by_cases hn:n<0
 ·go_wp2_with fail
  have y:=zb_new w false none 0 0
  have b0:=below_alloc w (.cells #[.bool false,.slice none 0 0] 45)
  rw[wrap_neg h0 hn]
  generalize w.alloc (.cells #[.bool false,.slice none 0 0] 45)=wb at*
  generalize hp:w.heap.size=r at*
  replace hp:=hide hp
  refine(of_n (-n) o_m o_m wb (Nat.le_of_lt (Nat.lt_of_le_of_lt hB y.lt))).mono ?_
  rintro e w1 ⟨ad,len,cap,rfl,hc,k1,hl'⟩
  go_wp2_with fail
  refine(stand_n hc).mono ?_
  rintro e w' ⟨s',rfl,hz,hg⟩
  have y':ZB w' r false none 0 0:=ZB.below y gw;have y0:=y'.c0;have y1:=y'.c1;have y2:=y'.f 0;have y3:=y'.f 1
  have hB:Below r w w':=b0.trans ((grow_step hg k1).mono (Nat.le_of_lt y.lt))
  go_wp2
  refine bodyPost_ret (results_cell_row rfl _ _ r 45 _ (0,0) _ rfl (zb_fin y' s' ad len cap) Tryz.underlying45 rfl k_f) rfl ?_
  rw[show sg true (-n)=n from by simp[sg]]at hz
  exact⟨s',ad,len,cap,by simp,zb_zn y' hz _ _ _ _,hp.out.symm▸(hB.setCell (Nat.le_refl _) _).setCell (Nat.le_refl _) _,hl'⟩
 go_wp2_with fail
 have y:=zb_new w false none 0 0
 have b0:=below_alloc w (.cells #[.bool false,.slice none 0 0] 45)
 generalize w.alloc (.cells #[.bool false,.slice none 0 0] 45)=wb at*
 generalize hp:w.heap.size=r at*
 replace hp:=hide hp
 refine(of_n n o_m o_m wb (Nat.le_of_lt (Nat.lt_of_le_of_lt hB y.lt))).mono ?_
 rintro e w1 ⟨ad,len,cap,rfl,hc,k1,hl'⟩
 go_wp2_with fail
 refine(stand_n hc).mono ?_
 rintro e w' ⟨s',rfl,hz,hg⟩
 have y':ZB w' r false none 0 0:=ZB.below y gw;have y0:=y'.c0;have y1:=y'.c1;have y2:=y'.f 0;have y3:=y'.f 1
 have hB:Below r w w':=b0.trans ((grow_step hg k1).mono (Nat.le_of_lt y.lt))
 go_wp2
 refine bodyPost_ret (results_cell_row rfl _ _ r 45 _ (0,0) _ rfl (zb_fin y' s' ad len cap) Tryz.underlying45 rfl k_f) rfl ?_
 rw[show sg false n=n from by simp[sg]]at hz
 exact⟨s',ad,len,cap,by simp,zb_zn y' hz _ _ _ _,hp.out.symm▸(hB.setCell (Nat.le_refl _) _).setCell (Nat.le_refl _) _,hl'⟩
end Go.Proofs.YtllfelooahplhaaGreatDoor.Fresh
