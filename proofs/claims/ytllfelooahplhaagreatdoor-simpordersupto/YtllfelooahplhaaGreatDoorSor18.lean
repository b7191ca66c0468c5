/-
 Several texts in one: ZD,ZF1.
-/
import Derived.Test.YtllfelooahplhaaGreatDoorSor14
import Derived.Test.YtllfelooahplhaaGreatDoorSor17
import Derived.Deep.DeepCutAuto
set_option maxRecDepth 100000
set_option maxHeartbeats 1600000
namespace Go.Proofs.YtllfelooahplhaaGreatDoor
open Go.RowKit

end Go.Proofs.YtllfelooahplhaaGreatDoor

namespace Go.Proofs.YtllfelooahplhaaGreatDoor.Fresh
open Go.RowKit

variable {w w':World}{B cap r l c l1 c1 l2 c2:Nat}{ad a a1 a2:Option Addr}{s:Bool}{n z:Int}
def Fr (B:Nat)(w:World)(ad:Option Addr)(cap:Nat):Prop:=(ad=none∧cap=0)∨ ∃b xs,ad=some ⟨b,0,none⟩∧B≤b∧Row w b xs∧xs.length=cap∧cap≤9223372036854775807
theorem row_lt {b:Nat}{xs:List Int}(h:Row w b xs):b<w.heap.size:=(Array.getElem?_eq_some_iff.1 h).1
theorem Fr.below (h:Fr B w ad cap)(hb:Below w.heap.size w w'):Fr B w' ad cap:=by
 rcases h with h|⟨b,xs,h1,h2,h3,h4⟩
 ·exact .inl h
 exact .inr ⟨b,xs,h1,h2,(hb.block b (row_lt h3)).trans h3,h4⟩
theorem Fr.only (h:Fr B w ad cap)(y:ZB w r s a l c)(ho:Only r w w'):Fr B w' ad cap:=by
 rcases h with h|⟨b,xs,h1,h2,h3,h4⟩
 ·exact .inl h
 refine .inr ⟨b,xs,h1,h2,(ho.block b (fun e=> ?_)).trans h3,h4⟩
 subst e
 have e:=Option.some.inj ((show w.heap[b]? =_ from y).symm.trans h3)
 injection e with _ e
 exact absurd e (by decide)
theorem Fr.mono {B':Nat}(h:Fr B w ad cap)(hB:B'≤B):Fr B' w ad cap:=by
 rcases h with h|⟨b,xs,h1,h2,h3⟩
 ·exact .inl h
 exact .inr ⟨b,xs,h1,Nat.le_trans hB h2,h3⟩
def Nm (B:Nat)(w:World)(ad:Option Addr)(len cap:Nat)(n:Int):Prop:=Go.Proofs.YtllfelooahplhaaGreatDoor.Nm w ad len cap n∧B≤w.heap.size
def Cn (B:Nat)(w:World)(ad:Option Addr)(len cap:Nat)(n:Int):Prop:=Go.Proofs.YtllfelooahplhaaGreatDoor.Cn w ad len cap n∧B≤w.heap.size∧Fr B w ad cap
theorem Nm.below {len:Nat}(h:Nm B w ad len cap n)(hb:Below w.heap.size w w'):Nm B w' ad len cap n:=⟨h.1.below hb,Nat.le_trans h.2 hb.size⟩
theorem Cn.below {len:Nat}(h:Cn B w ad len cap n)(hb:Below w.heap.size w w'):Cn B w' ad len cap n:=⟨h.1.below hb,Nat.le_trans h.2.1 hb.size,h.2.2.below hb⟩
theorem Cn.len {len:Nat}(h:Cn B w ad len cap n):n=0↔len=0:=h.1.len
theorem out_cn {len:Nat}{zs:List Int}(hB:B≤w.heap.size)(h:Out w w' ad len cap zs)(hc:Canon zs)(hv:val zs=n):Cn B w' ad len cap n:=by
 refine⟨Go.Proofs.YtllfelooahplhaaGreatDoor.out_cn h hc hv,Nat.le_trans hB h.1.size,?_⟩
 obtain⟨_,⟨rfl,_,rfl,_⟩|⟨b,xs,rfl,hb,hr,_,hn,_,hm,_⟩⟩:=h
 ·exact .inl ⟨rfl,rfl⟩
 exact .inr ⟨b,xs,rfl,Nat.le_trans hB hb,hr,hn,hm⟩
theorem nm_nil (hB:B≤w.heap.size):Nm B w none 0 0 0:=⟨Go.Proofs.YtllfelooahplhaaGreatDoor.nm_nil w,hB⟩

theorem add_n {m:Int}(h1:Nm B w a1 l1 c1 m)(h2:Nm B w a2 l2 c2 n)(hl1:l1≤1099511627776)(hl2:l2≤1099511627776):
  Calls Tryz.prog 111 #[.slice a1 l1 c1,.slice a2 l2 c2] w fun e w'=> ∃ad len cap,e= .returned (.slice ad len cap)∧Cn B w' ad len cap (m+n)∧Below w.heap.size w w'∧len≤max l1 l2+1:=by
 obtain⟨⟨xs,h1,rfl⟩,hB⟩:=h1
 obtain⟨⟨ys,h2,rfl⟩,_⟩:=h2
 refine(add_any h1 h2 hl1 hl2).mono ?_
 rintro e w' ⟨ad,len,cap,zs,rfl,ho,hc,hv,hl⟩
 exact⟨ad,len,cap,rfl,out_cn hB ho hc hv,ho.1,hl⟩
theorem mul_n {m:Int}(h1:Nm B w a1 l1 c1 m)(h2:Nm B w a2 l2 c2 n)(hl1:l1≤1099511627776)(hl2:l2≤1099511627776):
  Calls Tryz.prog 113 #[.slice a1 l1 c1,.slice a2 l2 c2] w fun e w'=> ∃ad len cap,e= .returned (.slice ad len cap)∧Cn B w' ad len cap (m*n)∧Below w.heap.size w w'∧len≤l1+l2:=by
 obtain⟨⟨xs,h1,rfl⟩,hB⟩:=h1
 obtain⟨⟨ys,h2,rfl⟩,_⟩:=h2
 refine(mul_any h1 h2 hl1 hl2).mono ?_
 rintro e w' ⟨ad,len,cap,zs,rfl,ho,hc,hv,hl⟩
 exact⟨ad,len,cap,rfl,out_cn hB ho hc hv,ho.1,hl⟩
def Zm (B:Nat)(w:World)(s:Bool)(ad:Option Addr)(len cap:Nat)(z:Int):Prop:=∃n,Nm B w ad len cap n∧z=sg s n
def Zn (B:Nat)(w:World)(s:Bool)(ad:Option Addr)(len cap:Nat)(z:Int):Prop:=∃n,Cn B w ad len cap n∧z=sg s n∧(s=true→n≠0)
theorem Zn.zn {len:Nat}(h:Zn B w s ad len cap z):Go.Proofs.YtllfelooahplhaaGreatDoor.Zn w s ad len cap z:=by
 obtain⟨n,h1,h2⟩:=h
 exact⟨n,h1.1,h2⟩
theorem zm_of {len:Nat}(h:Go.Proofs.YtllfelooahplhaaGreatDoor.Zm w s ad len cap z)(hB:B≤w.heap.size):Zm B w s ad len cap z:=by
 obtain⟨n,h1,h2⟩:=h
 exact⟨n,⟨h1,hB⟩,h2⟩
theorem zb_cn {len:Nat}(y:ZB w r s a l c)(ho:Only r w w')(h:Cn B w ad len cap n):Cn B w' ad len cap n:=by
 obtain⟨⟨zs,h1,h2,h3⟩,h4,h5⟩:=h
 exact⟨⟨zs,h1.only ho (zb_apart y h1),h2,h3⟩,Nat.le_trans h4 (Nat.le_of_eq ho.size.symm),h5.only y ho⟩
theorem zb_zn {s1:Bool}{len:Nat}(y:ZB w r s a l c)(h:Zn B w s1 ad len cap z)(s':Bool)(a':Option Addr)(l' c':Nat):
  Zn B ((w.setCell ⟨r,0,none⟩ (.bool s')).setCell ⟨r,1,none⟩ (.slice a' l' c')) s1 ad len cap z:=by
 obtain⟨n,h1,h4⟩:=h
 exact⟨n,zb_cn y ((Only.set r 0 w _).trans (Only.set r 1 _ _)) h1,h4⟩
theorem bare_n2 (h:Nm B w a l c n)(hl:l≤1099511627776):
  Calls Tryz.prog 109 #[.slice a l c] w fun e w'=> ∃ad len cap,e= .returned (.slice ad len cap)∧Cn B w' ad len cap n∧Below w.heap.size w w'∧len≤l+1:=by
 go_enter Tryz.func109,Tryz.ntmps109
 go_wp2_with fail
 refine(add_n h (nm_nil h.2) hl (by decide)).mono ?_
 rintro e w' ⟨ad,len,cap,rfl,hc,hb,hl'⟩
 go_wp2
 go_ret
 exact⟨ad,len,cap,rfl,by simpa using hc,hb,by omega⟩
theorem stand_n (h:Cn B w a l c n):
  Calls Tryz.prog 107 #[.bool s,.slice a l c] w fun e w'=> ∃s',e= .returned (.agg #[.bool s',.slice a l c])∧Zn B w' s' a l c (sg s n)∧Below w.heap.size w w':=by
 have hn:=h.len
 go_enter Tryz.func107,Tryz.ntmps107
 cases s
 ·go_wp2
  refine bodyPost_ret (results_cell_row rfl _ _ w.heap.size 45 _ (0,0) _ rfl (zb_new w _ _ _ _) Tryz.underlying45 rfl k_f) rfl ?_
  exact⟨false,by simp,⟨n,h.below (below_alloc _ _),rfl,fun h=>by cases h⟩,below_alloc _ _⟩
 go_wp2
 refine bodyPost_ret (results_cell_row rfl _ _ w.heap.size 45 _ (0,0) _ rfl (zb_new w _ _ _ _) Tryz.underlying45 rfl k_f) rfl ?_
 refine⟨decide (0<l),by simp,⟨n,h.below (below_alloc _ _),?_,fun h=> ?_⟩,below_alloc _ _⟩
 ·by_cases h0:0<l
  ·simp[h0]
  have:n=0:=hn.2 o_m
  simp[sg,this]
 have h0:0<l:=of_decide_eq_true h
 intro h1;have:=hn.1 h1;omega
theorem norm_n (h:Zm B w s a l c z)(hl:l≤1099511627776):
  Calls Tryz.prog 61 #[.agg #[.bool s,.slice a l c]] w fun e w'=> ∃s' ad len cap,e= .returned (.agg #[.bool s',.slice ad len cap])∧Zn B w' s' ad len cap z∧Below w.heap.size w w'∧len≤l+1:=by
 obtain⟨n,hn,rfl⟩:=h
 go_enter Tryz.func61,Tryz.ntmps61
 go_wp2_with fail
 have x:=(zb_new w s a l c).below (below_alloc _ (.cells #[.bool false,.slice none 0 0] 45))
 have y:=zb_new (w.alloc (.cells #[.bool s,.slice a l c] 45)) false none 0 0
 have b0:Below w.heap.size w ((w.alloc (.cells #[.bool s,.slice a l c] 45)).alloc (.cells #[.bool false,.slice none 0 0] 45)):=below_alloc' (below_alloc _ _) _
 rw[show(w.alloc (.cells #[.bool s,.slice a l c] 45)).heap.size=w.heap.size+1 from by simp]at y
 generalize (w.alloc (.cells #[.bool s,.slice a l c] 45)).alloc (.cells #[.bool false,.slice none 0 0] 45)=wb at*
 have hpr:w.heap.size<w.heap.size+1:=by omega
 replace hn:=hn.below b0
 generalize hp:w.heap.size=p at*
 replace hp:=hide hp
 generalize p+1=r at*
 have hrb:=Nat.le_of_lt y.lt
 go_region_held3 (fun w'=>w'.cell? ⟨p,0,none⟩=some (.bool s)∧w'.cell? ⟨p,1,none⟩=some (.slice a l c)∧Below r wb w')
  ((refine zs1 x hpr ?_;first|(refine Below.mono ?_ hrb;focus ((with_reducible repeat' first|exact Below.refl _ _|assumption|refine grow_step (by assumption) ?_|refine grow_drew ?_|refine grow_alloc ?_ _|refine grow_drewN ?_ _);done))|(refine((Below.mono ?_ hrb).setCell (Nat.le_refl _) _).setCell (Nat.le_refl _) _;focus ((with_reducible repeat' first|exact Below.refl _ _|assumption|refine grow_step (by assumption) ?_|refine grow_drew ?_|refine grow_alloc ?_ _|refine grow_drewN ?_ _);done))))
  (first|(go_at_call 109;refine(bare_n2 (Nm.below hn gw) hl).mono ?_;rintro e w' ⟨ad,len,cap,rfl,hc,hg,hl'⟩)|(go_at_call 107;refine(stand_n (Cn.below hc gw)).mono ?_;rintro e w' ⟨s',rfl,hz,hg⟩;have y':ZB w' r false none 0 0:=ZB.below y gw;have y0:=y'.c0;have y1:=y'.c1;have y2:=y'.f 0;have y3:=y'.f 1))
 go_wp2
 rename_i hH
 refine bodyPost_ret (results_cell_row rfl _ _ r 45 _ (0,0) _ rfl (zb_fin y' s' ad len cap) Tryz.underlying45 rfl k_f) rfl ?_
 exact⟨s',ad,len,cap,by simp,zb_zn y' hz _ _ _ _,hp.out.symm▸(b0.trans (hH.2.2.mono (Nat.le_of_lt hpr))),hl'⟩
theorem zmul_n {s1 s2:Bool}{z1 z2:Int}(h1:Zm B w s1 a1 l1 c1 z1)(h2:Zm B w s2 a2 l2 c2 z2)(hl1:l1≤1099511627776)(hl2:l2≤1099511627776):
  Calls Tryz.prog 65 #[.agg #[.bool s1,.slice a1 l1 c1],.agg #[.bool s2,.slice a2 l2 c2]] w fun e w'=> ∃s' ad len cap,e= .returned (.agg #[.bool s',.slice ad len cap])∧Zn B w' s' ad len cap (z1*z2)∧Below w.heap.size w w'∧len≤l1+l2:=by
 obtain⟨m,hm,rfl⟩:=h1
 obtain⟨n,hn,rfl⟩:=h2
 rw[←sg_mul]
 go_enter Tryz.func65,Tryz.ntmps65
 go_wp2_with fail
 have x:=(zb_new w s1 a1 l1 c1).below (below_alloc' (below_alloc _ (.cells #[.bool s2,.slice a2 l2 c2] 45)) (.cells #[.bool false,.slice none 0 0] 45))
 have x2:=(zb_new (w.alloc (.cells #[.bool s1,.slice a1 l1 c1] 45)) s2 a2 l2 c2).below (below_alloc _ (.cells #[.bool false,.slice none 0 0] 45))
 have y:=zb_new ((w.alloc (.cells #[.bool s1,.slice a1 l1 c1] 45)).alloc (.cells #[.bool s2,.slice a2 l2 c2] 45)) false none 0 0
 have b0:Below w.heap.size w (((w.alloc (.cells #[.bool s1,.slice a1 l1 c1] 45)).alloc (.cells #[.bool s2,.slice a2 l2 c2] 45)).alloc (.cells #[.bool false,.slice none 0 0] 45)):=below_alloc' (below_alloc' (below_alloc _ _) _) _
 rw[show((w.alloc (.cells #[.bool s1,.slice a1 l1 c1] 45)).alloc (.cells #[.bool s2,.slice a2 l2 c2] 45)).heap.size=w.heap.size+2 from by simp]at y
 rw[show(w.alloc (.cells #[.bool s1,.slice a1 l1 c1] 45)).heap.size=w.heap.size+1 from by simp]at x2
 generalize ((w.alloc (.cells #[.bool s1,.slice a1 l1 c1] 45)).alloc (.cells #[.bool s2,.slice a2 l2 c2] 45)).alloc (.cells #[.bool false,.slice none 0 0] 45)=wb at*
 have hpr:w.heap.size<w.heap.size+2:=by omega
 have hqr:w.heap.size+1<w.heap.size+2:=by omega
 have hpq:w.heap.size<w.heap.size+1:=by omega
 replace hm:=hm.below b0
 replace hn:=hn.below b0
 generalize hp:w.heap.size=p at*
 replace hp:=hide hp
 generalize p+2=r at*
 generalize p+1=q at*
 have hrb:=Nat.le_of_lt y.lt
 go_region_held3 (fun w'=>w'.cell? ⟨p,0,none⟩=some (.bool s1)∧w'.cell? ⟨p,1,none⟩=some (.slice a1 l1 c1)∧w'.cell? ⟨q,0,none⟩=some (.bool s2)∧w'.cell? ⟨q,1,none⟩=some (.slice a2 l2 c2)∧Below r wb w')
  ((refine zs2 x x2 hpr hqr ?_;first|(refine Below.mono ?_ hrb;focus ((with_reducible repeat' first|exact Below.refl _ _|assumption|refine grow_step (by assumption) ?_|refine grow_drew ?_|refine grow_alloc ?_ _|refine grow_drewN ?_ _);done))|(refine((Below.mono ?_ hrb).setCell (Nat.le_refl _) _).setCell (Nat.le_refl _) _;focus ((with_reducible repeat' first|exact Below.refl _ _|assumption|refine grow_step (by assumption) ?_|refine grow_drew ?_|refine grow_alloc ?_ _|refine grow_drewN ?_ _);done))))
  (first|(go_at_call 113;refine(mul_n (Nm.below hm gw) (Nm.below hn gw) hl1 hl2).mono ?_;rintro e w' ⟨ad,len,cap,rfl,hc,hg,hl'⟩)|(go_at_call 107;refine(stand_n (Cn.below hc gw)).mono ?_;rintro e w' ⟨s',rfl,hz,hg⟩;have y':ZB w' r false none 0 0:=ZB.below y gw;have y0:=y'.c0;have y1:=y'.c1;have y2:=y'.f 0;have y3:=y'.f 1))
 go_wp2

 rename_i hH
 refine bodyPost_ret (results_cell_row rfl _ _ r 45 _ (0,0) _ rfl (zb_fin y' s' ad len cap) Tryz.underlying45 rfl k_f) rfl ?_
 exact⟨s',ad,len,cap,by simp,zb_zn y' hz _ _ _ _,hp.out.symm▸(b0.trans (hH.2.2.2.2.mono (Nat.le_of_lt hpr))),hl'⟩
end Go.Proofs.YtllfelooahplhaaGreatDoor.Fresh
