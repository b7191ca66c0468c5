/-
 Several texts in one: Z1,Z2,ZF1,Z2P,Z3.
-/
import Derived.Test.YtaafoppaepcaeaaGreatCd06
import Derived.Deep.RegionHeld3
set_option maxRecDepth 100000
set_option maxHeartbeats 1600000
namespace Go.Proofs.YtaafoppaepcaeaaGreat
open Go.RowKit

variable {s s1 s2:Bool}{n z:Int}{w w' wb:World}{ad a:Option Addr}{len cap l c b r p:Nat}
def sg (s:Bool)(n:Int):Int:=if s then -n else n
theorem sg_not (s:Bool)(n:Int):sg (!s) n= -sg s n:=by cases s <;> simp[sg]
theorem sg_abs (h:0≤n):sg false n=((sg s n).natAbs:Int):=by cases s <;> simp[sg] <;> omega
theorem sg_mul (s1 s2:Bool)(m n:Int):sg (!(s1==s2)) (m*n)=sg s1 m*sg s2 n:=by cases s1 <;> cases s2 <;> simp[sg,Int.neg_mul,Int.mul_neg]
def Zm (w:World)(s:Bool)(ad:Option Addr)(len cap:Nat)(z:Int):Prop:=∃n,Nm w ad len cap n∧z=sg s n
def Zn (w:World)(s:Bool)(ad:Option Addr)(len cap:Nat)(z:Int):Prop:=∃n,Cn w ad len cap n∧z=sg s n∧(s=true→n≠0)

theorem Zn.zm (h:Zn w s ad len cap z):Zm w s ad len cap z:=by
 obtain⟨n,h1,h2,_⟩:=h;exact⟨n,h1.nm,h2⟩
theorem Zm.below (h:Zm w s ad len cap z)(hb:Below w.heap.size w w'):Zm w' s ad len cap z:=by
 obtain⟨n,h1,h2⟩:=h;exact⟨n,h1.below hb,h2⟩
theorem Zn.below (h:Zn w s ad len cap z)(hb:Below w.heap.size w w'):Zn w' s ad len cap z:=by
 obtain⟨n,h1,h2⟩:=h;exact⟨n,h1.below hb,h2⟩

theorem nm_nil (w:World):Nm w none 0 0 0:=⟨[],⟨rfl,by decide,by decide,fun z hz=>(by cases hz),Or.inl ⟨rfl,rfl,rfl⟩⟩,rfl⟩

theorem bare_n2 (h:Nm w a l c n)(hl:l≤1099511627776):
  Calls Tryz.prog 125 #[.slice a l c] w fun e w'=> ∃ad len cap,e= .returned (.slice ad len cap)∧Cn w' ad len cap n∧Below w.heap.size w w'∧len≤l+1:=by
 go_enter Tryz.func125,Tryz.ntmps125
 go_wp2_with fail
 refine(add_n h (nm_nil w) hl (by decide)).mono ?_
 rintro e w' ⟨ad,len,cap,rfl,hc,hb,hl'⟩
 go_wp2
 go_ret
 exact⟨ad,len,cap,rfl,by simpa using hc,hb,by omega⟩

def ZB (w:World)(b:Nat)(s:Bool)(a:Option Addr)(l c:Nat):Prop:=w.heap[b]? =some (.cells #[.bool s,.slice a l c] 38 (0,0))
theorem ZB.c0 (h:ZB w b s a l c):w.cell? ⟨b,0,none⟩=some (.bool s):=cell_of_row w b 0 _ _ (0,0) h
theorem ZB.c1 (h:ZB w b s a l c):w.cell? ⟨b,1,none⟩=some (.slice a l c):=cell_of_row w b 1 _ _ (0,0) h
theorem ZB.f (h:ZB w b s a l c)(i:Nat):w.frozen? ⟨b,i,none⟩=false:=frozen_of_row w b i _ _ h
theorem ZB.lt (h:ZB w b s a l c):b<w.heap.size:=by
 have h':w.heap[b]? =some _:=h
 rcases Nat.lt_or_ge b w.heap.size with hb|hb
 ·exact hb
 rw[Array.getElem?_eq_none hb]at h';cases h'
theorem ZB.below (h:ZB w b s a l c)(hb:Below w.heap.size w w'):ZB w' b s a l c:=(hb.block b h.lt).trans h
theorem zb_new (w:World)(s:Bool)(a:Option Addr)(l c:Nat):ZB (w.alloc (.cells #[.bool s,.slice a l c] 38)) w.heap.size s a l c:=heap_alloc_new w _
theorem zb_fin (h:ZB w b s a l c)(s':Bool)(a':Option Addr)(l' c':Nat):
  ZB ((w.setCell ⟨b,0,none⟩ (.bool s')).setCell ⟨b,1,none⟩ (.slice a' l' c')) b s' a' l' c':=
 heap_setCell_same _ b 1 _ _ _ (heap_setCell_same w b 0 _ _ _ h)
theorem zb_apart {zs:List Int}(y:ZB w r s a l c)(h:Rd w ad len cap zs):
  ∀x off,ad=some ⟨x,off,none⟩→len=0∨x≠r:=by
 intro x off hx
 obtain⟨_,_,_,_,h5⟩:=h
 rcases h5 with⟨h5,_⟩|⟨a0,h5,h6⟩
 ·rw[h5]at hx;cases hx
 rw[hx]at h5
 injection h5 with h5
 subst h5
 rcases h6 with h6|⟨b,o,h6,_,h7⟩
 ·exact Or.inl h6
 injection h6 with e1 e2 _
 subst e1 e2
 by_cases h0:len=0
 ·exact Or.inl h0
 refine Or.inr fun e=> ?_
 subst e
 have h8:=h7 0 o_m
 rw[Nat.add_zero,cell_of_row w x off _ _ (0,0) y]at h8
 match off with
 |0=>simp at h8
 |1=>simp at h8
 |k+2=>simp at h8
theorem zb_zn (y:ZB w r s a l c)(h:Zn w s1 ad len cap z)(s':Bool)(a':Option Addr)(l' c':Nat):
  Zn ((w.setCell ⟨r,0,none⟩ (.bool s')).setCell ⟨r,1,none⟩ (.slice a' l' c')) s1 ad len cap z:=by
 obtain⟨n,⟨zs,h1,h2,h3⟩,h4⟩:=h
 exact⟨n,⟨zs,h1.only ((Only.set r 0 w _).trans (Only.set r 1 _ _)) (zb_apart y h1),h2,h3⟩,h4⟩

theorem stand_n (h:Cn w a l c n):
  Calls Tryz.prog 105 #[.bool s,.slice a l c] w fun e w'=> ∃s',e= .returned (.agg #[.bool s',.slice a l c])∧Zn w' s' a l c (sg s n)∧Below w.heap.size w w':=by
 have hn:=h.len
 go_enter Tryz.func105,Tryz.ntmps105
 cases s
 ·go_wp2
  refine bodyPost_ret (results_cell_row rfl _ _ w.heap.size 38 _ (0,0) _ rfl (zb_new w _ _ _ _) Tryz.underlying38 rfl k_f) rfl ?_
  exact⟨false,by simp,⟨n,h.below (below_alloc _ _),rfl,fun h=>by cases h⟩,below_alloc _ _⟩
 go_wp2
 refine bodyPost_ret (results_cell_row rfl _ _ w.heap.size 38 _ (0,0) _ rfl (zb_new w _ _ _ _) Tryz.underlying38 rfl k_f) rfl ?_
 refine⟨decide (0<l),by simp,⟨n,h.below (below_alloc _ _),?_,fun h=> ?_⟩,below_alloc _ _⟩
 ·by_cases h0:0<l
  ·simp[h0]
  have:n=0:=hn.2 o_m
  simp[sg,this]
 have h0:0<l:=of_decide_eq_true h
 intro h1;have:=hn.1 h1;omega

theorem zs1 (x:ZB wb p s a l c)(hp:p<r)(k:Below r wb w'):
  w'.cell? ⟨p,0,none⟩=some (.bool s)∧w'.cell? ⟨p,1,none⟩=some (.slice a l c)∧Below r wb w':=
 ⟨ZB.c0 ((k.block p hp).trans x),ZB.c1 ((k.block p hp).trans x),k⟩
theorem zs2 {q l1 c1 l2 c2:Nat}{a1 a2:Option Addr}(x:ZB wb p s1 a1 l1 c1)(x2:ZB wb q s2 a2 l2 c2)(hp:p<r)(hq:q<r)(k:Below r wb w'):
  w'.cell? ⟨p,0,none⟩=some (.bool s1)∧w'.cell? ⟨p,1,none⟩=some (.slice a1 l1 c1)∧w'.cell? ⟨q,0,none⟩=some (.bool s2)∧w'.cell? ⟨q,1,none⟩=some (.slice a2 l2 c2)∧Below r wb w':=
 ⟨ZB.c0 ((k.block p hp).trans x),ZB.c1 ((k.block p hp).trans x),ZB.c0 ((k.block q hq).trans x2),ZB.c1 ((k.block q hq).trans x2),k⟩

theorem zk1 (x:ZB wb p s a l c)(k:Below wb.heap.size wb w'):
  w'.cell? ⟨p,0,none⟩=some (.bool s)∧w'.cell? ⟨p,1,none⟩=some (.slice a l c)∧Below wb.heap.size wb w':=
 ⟨(x.below k).c0,(x.below k).c1,k⟩

theorem ZB.only {b':Nat}(h:ZB w b s a l c)(ho:Only b' w w')(hne:b≠b'):ZB w' b s a l c:=(ho.block b hne).trans h
theorem zb_nm (y:ZB w r s a l c)(ho:Only r w w')(h:Nm w ad len cap n):Nm w' ad len cap n:=by
 obtain⟨zs,h1,h3⟩:=h
 exact⟨zs,h1.only ho (zb_apart y h1),h3⟩
theorem only2 (b:Nat)(w:World)(v v':Value):Only b w ((w.setCell ⟨b,0,none⟩ v).setCell ⟨b,1,none⟩ v'):=(Only.set b 0 w v).trans (Only.set b 1 _ v')

theorem sg_add (s:Bool)(m n:Int):sg s (m+n)=sg s m+sg s n:=by cases s <;> simp[sg] <;> omega
theorem sg_sub1 (h:s1≠s2)(m n:Int):sg s1 (m-n)=sg s1 m+sg s2 n:=by cases s1 <;> cases s2 <;> simp[sg]at h ⊢ <;> omega
theorem sg_sub2 (h:s1≠s2)(m n:Int):sg s2 (n-m)=sg s1 m+sg s2 n:=by cases s1 <;> cases s2 <;> simp[sg]at h ⊢ <;> omega

theorem zsign_n (h:Zm w s a l c z)(hl:l≤1099511627776):
  Calls Tryz.prog 82 #[.agg #[.bool s,.slice a l c]] w fun e w'=>e= .returned (.int .i64 (cmpI z 0))∧Below w.heap.size w w':=by
 obtain⟨n,hn,rfl⟩:=h
 have h0:=hn.nonneg
 go_enter Tryz.func82,Tryz.ntmps82
 go_wp2_with fail
 have x:=zb_new w s a l c
 have b0:=below_alloc w (.cells #[.bool s,.slice a l c] 38)
 replace hn:=hn.below b0
 generalize w.alloc (.cells #[.bool s,.slice a l c] 38)=wb at*
 generalize hp:w.heap.size=p at*
 replace hp:=hide hp
 refine(bits_n hn hl).mono ?_
 rintro e w1 ⟨k,rfl,hk,k1⟩
 have u0:=(x.below k1).c0
 have hB:Below p w w1:=b0.trans (k1.mono (Nat.le_of_lt x.lt))
 by_cases hz:n=0
 ·have hk0:k=0:=hk.2 hz
  subst hk0
  go_wp2
  go_ret
  exact⟨ret_int (by rw[hz,cmpI_eq (by cases s <;> simp[sg])]),hp.out.symm▸hB⟩
 have hk0:0<k:=Nat.pos_of_ne_zero (fun h=>hz (hk.1 h))
 cases s
 ·go_wp2
  go_ret
  exact⟨ret_int (by rw[cmpI_gt (by simp[sg];omega)]),hp.out.symm▸hB⟩
 go_wp2
 go_ret
 exact⟨ret_int (by rw[cmpI_lt (by simp[sg];omega)]),hp.out.symm▸hB⟩

theorem compare_n {x y:Int}:
  Calls Tryz.prog 117 #[.int .i64 x,.int .i64 y] w fun e w'=>e= .returned (.int .i64 (cmpI x y))∧Below w.heap.size w w':=by
 have isnan: ∀(v:Int) (u:World),Calls Tryz.prog 146 #[.int .i64 v] u fun e w'=>e= .returned (.bool false)∧w'=u:=by
  intro v u
  go_enter Tryz.func146,Tryz.ntmps146
  go_wp2
  go_ret
  exact⟨ret_bool (by simp),rfl⟩
 go_enter Tryz.func117,Tryz.ntmps117
 go_wp2_with fail
 refine(isnan x w).mono ?_
 rintro e w1 ⟨rfl,rfl⟩
 go_wp2_with fail
 refine(isnan y _).mono ?_
 rintro e w1 ⟨rfl,rfl⟩
 by_cases h1:x<y
 ·go_wp2
  go_ret
  exact⟨ret_int (by rw[cmpI_lt h1]),Below.refl _ _⟩
 by_cases h2:y<x
 ·go_wp2
  go_ret
  exact⟨ret_int (by rw[cmpI_gt h2]),Below.refl _ _⟩
 go_wp2
 go_ret
 exact⟨ret_int (by rw[cmpI_eq o_m]),Below.refl _ _⟩

theorem cmpI_sg (z:Int): -1≤cmpI z 0∧cmpI z 0≤1:=by unfold cmpI;split <;> (try split) <;> decide
theorem cmp_both_neg {m v:Int}(h0:0≤m)(h0':0≤n)(h1:cmpI (sg s1 m) 0=v)(h2:cmpI (sg s2 n) 0=v)(hv:v<0):cmpI n m=cmpI (sg s1 m) (sg s2 n):=by
 unfold cmpI at*
 cases s1 <;> cases s2 <;> simp only[sg,if_true,if_false,Bool.false_eq_true]at* <;> omega
theorem cmp_both_pos {m v:Int}(h0:0≤m)(h0':0≤n)(h1:cmpI (sg s1 m) 0=v)(h2:cmpI (sg s2 n) 0=v)(hv: ¬v<0):cmpI m n=cmpI (sg s1 m) (sg s2 n):=by
 unfold cmpI at*
 cases s1 <;> cases s2 <;> simp only[sg,if_true,if_false,Bool.false_eq_true]at* <;> omega
theorem cmp_apart {a b v1 v2:Int}(h1:cmpI a 0=v1)(h2:cmpI b 0=v2)(hv:v1≠v2):cmpI v1 v2=cmpI a b:=by
 unfold cmpI at*
 omega

theorem zcmp_n {a1 a2:Option Addr}{l1 c1 l2 c2:Nat}{z1 z2:Int}(h1:Zm w s1 a1 l1 c1 z1)(h2:Zm w s2 a2 l2 c2 z2)(hl1:l1≤1099511627776)(hl2:l2≤1099511627776):
  Calls Tryz.prog 71 #[.agg #[.bool s1,.slice a1 l1 c1],.agg #[.bool s2,.slice a2 l2 c2]] w fun e w'=>e= .returned (.int .i64 (cmpI z1 z2))∧Below w.heap.size w w':=by
 obtain⟨m,hm,rfl⟩:=h1
 obtain⟨n,hn,rfl⟩:=h2
 have h0:=hm.nonneg
 have h0':=hn.nonneg
 go_enter Tryz.func71,Tryz.ntmps71
 go_wp2_with fail
 have x:=(zb_new w s1 a1 l1 c1).below (below_alloc _ (.cells #[.bool s2,.slice a2 l2 c2] 38))
 have x2:=zb_new (w.alloc (.cells #[.bool s1,.slice a1 l1 c1] 38)) s2 a2 l2 c2
 have b0:Below w.heap.size w ((w.alloc (.cells #[.bool s1,.slice a1 l1 c1] 38)).alloc (.cells #[.bool s2,.slice a2 l2 c2] 38)):=below_alloc' (below_alloc _ _) _
 rw[show(w.alloc (.cells #[.bool s1,.slice a1 l1 c1] 38)).heap.size=w.heap.size+1 from by simp]at x2
 replace hm:=hm.below b0
 replace hn:=hn.below b0
 generalize (w.alloc (.cells #[.bool s1,.slice a1 l1 c1] 38)).alloc (.cells #[.bool s2,.slice a2 l2 c2] 38)=wb at*
 generalize hp:w.heap.size=p at*
 replace hp:=hide hp
 generalize p+1=q at*
 have hpb:=Nat.le_of_lt x.lt
 refine(zsign_n ⟨m,hm,rfl⟩ hl1).mono ?_
 rintro e w1 ⟨rfl,k1⟩
 have u2:=(x2.below k1).c0
 have u3:=(x2.below k1).c1
 go_wp2_with fail
 refine(zsign_n ⟨n,hn.below k1,rfl⟩ hl2).mono ?_
 rintro e w2 ⟨rfl,k2⟩
 replace k2:=grow_step k2 k1
 clear u2 u3 k1
 go_wp2_with fail
 refine(compare_n (x:=cmpI (sg s1 m) 0) (y:=cmpI (sg s2 n) 0)).mono ?_
 rintro e w3 ⟨rfl,k3⟩
 replace k3:=grow_step k3 k2
 clear k2
 have u1:=(x.below k3).c1
 have u3:=(x2.below k3).c1
 replace hm:=hm.below k3
 replace hn:=hn.below k3
 replace b0:Below p w w3:=b0.trans (k3.mono hpb)
 have hc1:=cmpI_sg (sg s1 m)
 have hc2:=cmpI_sg (sg s2 n)
 generalize hv1:cmpI (sg s1 m) 0=v1 at*
 generalize hv2:cmpI (sg s2 n) 0=v2 at*
 replace hv1:=hide hv1
 replace hv2:=hide hv2
 by_cases he:v1=v2
 ·have e0:cmpI v1 v2=0:=cmpI_eq he
  rw[e0]
  by_cases hneg:v1<0
  ·go_wp2_with fail
   refine(cmp_n hn hm).mono ?_
   rintro e w4 ⟨rfl,k4⟩
   go_wp2
   go_ret
   exact⟨ret_int (cmp_both_neg h0 h0' (unhide hv1) (he▸unhide hv2) hneg),hp.out.symm▸b0.trans (k4.mono (Nat.le_trans hpb k3.size))⟩
  go_wp2_with fail
  refine(cmp_n hm hn).mono ?_
  rintro e w4 ⟨rfl,k4⟩
  go_wp2
  go_ret
  exact⟨ret_int (cmp_both_pos h0 h0' (unhide hv1) (he▸unhide hv2) o_m),hp.out.symm▸b0.trans (k4.mono (Nat.le_trans hpb k3.size))⟩
 have e1:cmpI v1 v2≠0:=by unfold cmpI;split <;> (try split) <;> omega
 have e2:=hide (cmp_apart (unhide hv1) (unhide hv2) he)
 generalize cmpI v1 v2=v3 at*
 go_wp2
 go_ret
 exact⟨ret_int (unhide e2),hp.out.symm▸b0⟩

theorem wrap_neg (h0: -9223372036854775808≤n)(hn:n<0):IntKind.u64.wrap (wrap64 (-n))= -n:=by
 rw[IntKind.wrap_u64]
 unfold wrap64
 omega

end Go.Proofs.YtaafoppaepcaeaaGreat

namespace Go.Proofs.YtaafoppaepcaeaaGreat.Fresh
open Go.RowKit

variable {w w':World}{B cap r l c l1 c1 l2 c2:Nat}{ad a a1 a2:Option Addr}{s s1 s2:Bool}{n m z z1 z2:Int}
def Fr (B:Nat)(w:World)(ad:Option Addr)(cap:Nat):Prop:=(ad=none∧cap=0)∨ ∃b xs,ad=some ⟨b,0,none⟩∧B≤b∧Row w b xs∧xs.length=cap∧cap≤9223372036854775807
theorem row_lt {b:Nat}{xs:List Int}(h:Row w b xs):b<w.heap.size:=(Array.getElem?_eq_some_iff.1 h).1
theorem Fr.below (h:Fr B w ad cap)(hb:Below w.heap.size w w'):Fr B w' ad cap:=by
 rcases h with h|⟨b,xs,h1,h2,h3,h4⟩
 ·exact .inl h
 exact .inr ⟨b,xs,h1,h2,(hb.block b (row_lt h3)).trans h3,h4⟩
theorem Fr.only (h:Fr B w ad cap)(y:ZB w r s a l c)(ho:Only r w w'):Fr B w' ad cap:=by
 rcases h with h|⟨b,xs,h1,h2,h3,h4⟩
 ·exact .inl h
 refine .inr ⟨b,xs,h1,h2,(ho.block b (fun e=> ?_)).trans h3,h4⟩
 subst e
 have e:=Option.some.inj ((show w.heap[b]? =_ from y).symm.trans h3)
 injection e with _ e
 exact absurd e (by decide)
theorem Fr.mono {B':Nat}(h:Fr B w ad cap)(hB:B'≤B):Fr B' w ad cap:=by
 rcases h with h|⟨b,xs,h1,h2,h3⟩
 ·exact .inl h
 exact .inr ⟨b,xs,h1,Nat.le_trans hB h2,h3⟩
def Nm (B:Nat)(w:World)(ad:Option Addr)(len cap:Nat)(n:Int):Prop:=Go.Proofs.YtaafoppaepcaeaaGreat.Nm w ad len cap n∧B≤w.heap.size
def Cn (B:Nat)(w:World)(ad:Option Addr)(len cap:Nat)(n:Int):Prop:=Go.Proofs.YtaafoppaepcaeaaGreat.Cn w ad len cap n∧B≤w.heap.size∧Fr B w ad cap
theorem Nm.below {len:Nat}(h:Nm B w ad len cap n)(hb:Below w.heap.size w w'):Nm B w' ad len cap n:=⟨h.1.below hb,Nat.le_trans h.2 hb.size⟩
theorem Cn.below {len:Nat}(h:Cn B w ad len cap n)(hb:Below w.heap.size w w'):Cn B w' ad len cap n:=⟨h.1.below hb,Nat.le_trans h.2.1 hb.size,h.2.2.below hb⟩
theorem Nm.nonneg {len:Nat}(h:Nm B w ad len cap n):0≤n:=h.1.nonneg
theorem Cn.len {len:Nat}(h:Cn B w ad len cap n):n=0↔len=0:=h.1.len
theorem out_cn {len:Nat}{zs:List Int}(hB:B≤w.heap.size)(h:Out w w' ad len cap zs)(hc:Canon zs)(hv:val zs=n):Cn B w' ad len cap n:=by
 refine⟨Go.Proofs.YtaafoppaepcaeaaGreat.out_cn h hc hv,Nat.le_trans hB h.1.size,?_⟩
 obtain⟨_,⟨rfl,_,rfl,_⟩|⟨b,xs,rfl,hb,hr,_,hn,_,hm,_⟩⟩:=h
 ·exact .inl ⟨rfl,rfl⟩
 exact .inr ⟨b,xs,rfl,Nat.le_trans hB hb,hr,hn,hm⟩
theorem nm_nil (hB:B≤w.heap.size):Nm B w none 0 0 0:=⟨Go.Proofs.YtaafoppaepcaeaaGreat.nm_nil w,hB⟩

theorem add_n (h1:Nm B w a1 l1 c1 m)(h2:Nm B w a2 l2 c2 n)(hl1:l1≤1099511627776)(hl2:l2≤1099511627776):
  Calls Tryz.prog 109 #[.slice a1 l1 c1,.slice a2 l2 c2] w fun e w'=> ∃ad len cap,e= .returned (.slice ad len cap)∧Cn B w' ad len cap (m+n)∧Below w.heap.size w w'∧len≤max l1 l2+1:=by
 obtain⟨⟨xs,h1,rfl⟩,hB⟩:=h1
 obtain⟨⟨ys,h2,rfl⟩,_⟩:=h2
 refine(add_any h1 h2 hl1 hl2).mono ?_
 rintro e w' ⟨ad,len,cap,zs,rfl,ho,hc,hv,hl⟩
 exact⟨ad,len,cap,rfl,out_cn hB ho hc hv,ho.1,hl⟩
theorem mul_n (h1:Nm B w a1 l1 c1 m)(h2:Nm B w a2 l2 c2 n)(hl1:l1≤1099511627776)(hl2:l2≤1099511627776):
  Calls Tryz.prog 144 #[.slice a1 l1 c1,.slice a2 l2 c2] w fun e w'=> ∃ad len cap,e= .returned (.slice ad len cap)∧Cn B w' ad len cap (m*n)∧Below w.heap.size w w'∧len≤l1+l2:=by
 obtain⟨⟨xs,h1,rfl⟩,hB⟩:=h1
 obtain⟨⟨ys,h2,rfl⟩,_⟩:=h2
 refine(mul_any h1 h2 hl1 hl2).mono ?_
 rintro e w' ⟨ad,len,cap,zs,rfl,ho,hc,hv,hl⟩
 exact⟨ad,len,cap,rfl,out_cn hB ho hc hv,ho.1,hl⟩
theorem sub_n (h1:Nm B w a1 l1 c1 m)(h2:Nm B w a2 l2 c2 n)(hl1:l1≤1099511627776)(hge:n≤m):
  Calls Tryz.prog 111 #[.slice a1 l1 c1,.slice a2 l2 c2] w fun e w'=> ∃ad len cap,e= .returned (.tuple #[.slice ad len cap,.int .i64 0])∧Cn B w' ad len cap (m-n)∧Below w.heap.size w w'∧len≤l1:=by
 obtain⟨⟨xs,h1,rfl⟩,hB⟩:=h1
 obtain⟨⟨ys,h2,rfl⟩,_⟩:=h2
 refine(sub_any h1 h2 hl1 hge).mono ?_
 rintro e w' ⟨ad,len,cap,zs,rfl,ho,hc,hv,hl⟩
 exact⟨ad,len,cap,rfl,out_cn hB ho hc hv,ho.1,hl⟩
theorem of_n (n:Int)(h0:0≤n)(h1:n<18446744073709551616)(w:World)(hB:B≤w.heap.size):
  Calls Tryz.prog 106 #[.int .u64 n] w fun e w'=> ∃ad len cap,e= .returned (.slice ad len cap)∧Cn B w' ad len cap n∧Below w.heap.size w w'∧len≤2:=by
 refine(of_any n h0 h1 w).mono ?_
 rintro e w' ⟨ad,len,cap,zs,rfl,ho,hc,hv,hl⟩
 exact⟨ad,len,cap,rfl,out_cn hB ho hc hv,ho.1,hl⟩
theorem cmp_n (h1:Nm B w a1 l1 c1 m)(h2:Nm B w a2 l2 c2 n):
  Calls Tryz.prog 110 #[.slice a1 l1 c1,.slice a2 l2 c2] w fun e w'=>e= .returned (.int .i64 (cmpI m n))∧Below w.heap.size w w':=Go.Proofs.YtaafoppaepcaeaaGreat.cmp_n h1.1 h2.1
theorem cmp_lt (h1:Nm B w a1 l1 c1 m)(h2:Nm B w a2 l2 c2 n)(he:m<n):
  Calls Tryz.prog 110 #[.slice a1 l1 c1,.slice a2 l2 c2] w fun e w'=>e= .returned (.int .i64 (-1))∧Below w.heap.size w w':=Go.Proofs.YtaafoppaepcaeaaGreat.cmp_lt h1.1 h2.1 he

def Zm (B:Nat)(w:World)(s:Bool)(ad:Option Addr)(len cap:Nat)(z:Int):Prop:=∃n,Nm B w ad len cap n∧z=sg s n
def Zn (B:Nat)(w:World)(s:Bool)(ad:Option Addr)(len cap:Nat)(z:Int):Prop:=∃n,Cn B w ad len cap n∧z=sg s n∧(s=true→n≠0)
theorem Zn.zn {len:Nat}(h:Zn B w s ad len cap z):Go.Proofs.YtaafoppaepcaeaaGreat.Zn w s ad len cap z:=by
 obtain⟨n,h1,h2⟩:=h
 exact⟨n,h1.1,h2⟩
theorem zm_of {len:Nat}(h:Go.Proofs.YtaafoppaepcaeaaGreat.Zm w s ad len cap z)(hB:B≤w.heap.size):Zm B w s ad len cap z:=by
 obtain⟨n,h1,h2⟩:=h
 exact⟨n,⟨h1,hB⟩,h2⟩
theorem zb_cn {len:Nat}(y:ZB w r s a l c)(ho:Only r w w')(h:Cn B w ad len cap n):Cn B w' ad len cap n:=by
 obtain⟨⟨zs,h1,h2,h3⟩,h4,h5⟩:=h
 exact⟨⟨zs,h1.only ho (zb_apart y h1),h2,h3⟩,Nat.le_trans h4 (Nat.le_of_eq ho.size.symm),h5.only y ho⟩
theorem zb_zn {len:Nat}(y:ZB w r s a l c)(h:Zn B w s1 ad len cap z)(s':Bool)(a':Option Addr)(l' c':Nat):
  Zn B ((w.setCell ⟨r,0,none⟩ (.bool s')).setCell ⟨r,1,none⟩ (.slice a' l' c')) s1 ad len cap z:=by
 obtain⟨n,h1,h4⟩:=h
 exact⟨n,zb_cn y ((Only.set r 0 w _).trans (Only.set r 1 _ _)) h1,h4⟩
theorem zb_nm {len:Nat}(y:ZB w r s a l c)(ho:Only r w w')(h:Nm B w ad len cap n):Nm B w' ad len cap n:=⟨Go.Proofs.YtaafoppaepcaeaaGreat.zb_nm y ho h.1,Nat.le_trans h.2 (Nat.le_of_eq ho.size.symm)⟩

theorem bare_n2 (h:Nm B w a l c n)(hl:l≤1099511627776):
  Calls Tryz.prog 125 #[.slice a l c] w fun e w'=> ∃ad len cap,e= .returned (.slice ad len cap)∧Cn B w' ad len cap n∧Below w.heap.size w w'∧len≤l+1:=by
 go_enter Tryz.func125,Tryz.ntmps125
 go_wp2_with fail
 refine(add_n h (nm_nil h.2) hl (by decide)).mono ?_
 rintro e w' ⟨ad,len,cap,rfl,hc,hb,hl'⟩
 go_wp2
 go_ret
 exact⟨ad,len,cap,rfl,by simpa using hc,hb,by omega⟩
theorem stand_n (h:Cn B w a l c n):
  Calls Tryz.prog 105 #[.bool s,.slice a l c] w fun e w'=> ∃s',e= .returned (.agg #[.bool s',.slice a l c])∧Zn B w' s' a l c (sg s n)∧Below w.heap.size w w':=by
 have hn:=h.len
 go_enter Tryz.func105,Tryz.ntmps105
 cases s
 ·go_wp2
  refine bodyPost_ret (results_cell_row rfl _ _ w.heap.size 38 _ (0,0) _ rfl (zb_new w _ _ _ _) Tryz.underlying38 rfl k_f) rfl ?_
  exact⟨false,by simp,⟨n,h.below (below_alloc _ _),rfl,fun h=>by cases h⟩,below_alloc _ _⟩
 go_wp2
 refine bodyPost_ret (results_cell_row rfl _ _ w.heap.size 38 _ (0,0) _ rfl (zb_new w _ _ _ _) Tryz.underlying38 rfl k_f) rfl ?_
 refine⟨decide (0<l),by simp,⟨n,h.below (below_alloc _ _),?_,fun h=> ?_⟩,below_alloc _ _⟩
 ·by_cases h0:0<l
  ·simp[h0]
  have:n=0:=hn.2 o_m
  simp[sg,this]
 have h0:0<l:=of_decide_eq_true h
 intro h1;have:=hn.1 h1;omega
theorem norm_n (h:Zm B w s a l c z)(hl:l≤1099511627776):
  Calls Tryz.prog 87 #[.agg #[.bool s,.slice a l c]] w fun e w'=> ∃s' ad len cap,e= .returned (.agg #[.bool s',.slice ad len cap])∧Zn B w' s' ad len cap z∧Below w.heap.size w w'∧len≤l+1:=by
 obtain⟨n,hn,rfl⟩:=h
 go_enter Tryz.func87,Tryz.ntmps87
 go_wp2_with fail
 have x:=(zb_new w s a l c).below (below_alloc _ (.cells #[.bool false,.slice none 0 0] 38))
 have y:=zb_new (w.alloc (.cells #[.bool s,.slice a l c] 38)) false none 0 0
 have b0:Below w.heap.size w ((w.alloc (.cells #[.bool s,.slice a l c] 38)).alloc (.cells #[.bool false,.slice none 0 0] 38)):=below_alloc' (below_alloc _ _) _
 rw[show(w.alloc (.cells #[.bool s,.slice a l c] 38)).heap.size=w.heap.size+1 from by simp]at y
 generalize (w.alloc (.cells #[.bool s,.slice a l c] 38)).alloc (.cells #[.bool false,.slice none 0 0] 38)=wb at*
 have hpr:w.heap.size<w.heap.size+1:=by omega
 replace hn:=hn.below b0
 generalize hp:w.heap.size=p at*
 replace hp:=hide hp
 generalize p+1=r at*
 have hrb:=Nat.le_of_lt y.lt
 go_region_held3 (fun w'=>w'.cell? ⟨p,0,none⟩=some (.bool s)∧w'.cell? ⟨p,1,none⟩=some (.slice a l c)∧Below r wb w')
  ((refine zs1 x hpr ?_;first|(refine Below.mono ?_ hrb;focus ((with_reducible repeat' first|exact Below.refl _ _|assumption|refine grow_step (by assumption) ?_|refine grow_drew ?_|refine grow_alloc ?_ _|refine grow_drewN ?_ _);done))|(refine((Below.mono ?_ hrb).setCell (Nat.le_refl _) _).setCell (Nat.le_refl _) _;focus ((with_reducible repeat' first|exact Below.refl _ _|assumption|refine grow_step (by assumption) ?_|refine grow_drew ?_|refine grow_alloc ?_ _|refine grow_drewN ?_ _);done))))
  (first|(go_at_call 125;refine(bare_n2 (Nm.below hn gw) hl).mono ?_;rintro e w' ⟨ad,len,cap,rfl,hc,hg,hl'⟩)|(go_at_call 105;refine(stand_n (Cn.below hc gw)).mono ?_;rintro e w' ⟨s',rfl,hz,hg⟩;have y':ZB w' r false none 0 0:=ZB.below y gw;have y0:=y'.c0;have y1:=y'.c1;have y2:=y'.f 0;have y3:=y'.f 1))
 go_wp2
 rename_i hH
 refine bodyPost_ret (results_cell_row rfl _ _ r 38 _ (0,0) _ rfl (zb_fin y' s' ad len cap) Tryz.underlying38 rfl k_f) rfl ?_
 exact⟨s',ad,len,cap,by simp,zb_zn y' hz _ _ _ _,hp.out.symm▸(b0.trans (hH.2.2.mono (Nat.le_of_lt hpr))),hl'⟩
theorem abs_n (h:Zm B w s a l c z)(hl:l≤1099511627776):
  Calls Tryz.prog 84 #[.agg #[.bool s,.slice a l c]] w fun e w'=> ∃s' ad len cap,e= .returned (.agg #[.bool s',.slice ad len cap])∧Zn B w' s' ad len cap (z.natAbs:Int)∧Below w.heap.size w w'∧len≤l+1:=by
 obtain⟨n,hn,rfl⟩:=h
 rw[←sg_abs (s:=s) hn.nonneg]
 go_enter Tryz.func84,Tryz.ntmps84
 go_wp2_with fail
 have x:=(zb_new w s a l c).below (below_alloc _ (.cells #[.bool false,.slice none 0 0] 38))
 have y:=zb_new (w.alloc (.cells #[.bool s,.slice a l c] 38)) false none 0 0
 have b0:Below w.heap.size w ((w.alloc (.cells #[.bool s,.slice a l c] 38)).alloc (.cells #[.bool false,.slice none 0 0] 38)):=below_alloc' (below_alloc _ _) _
 rw[show(w.alloc (.cells #[.bool s,.slice a l c] 38)).heap.size=w.heap.size+1 from by simp]at y
 generalize (w.alloc (.cells #[.bool s,.slice a l c] 38)).alloc (.cells #[.bool false,.slice none 0 0] 38)=wb at*
 have hpr:w.heap.size<w.heap.size+1:=by omega
 replace hn:=hn.below b0
 generalize hp:w.heap.size=p at*
 replace hp:=hide hp
 generalize p+1=r at*
 have hrb:=Nat.le_of_lt y.lt
 have x1:=x.c1
 refine(bare_n2 hn hl).mono ?_
 rintro e w1 ⟨ad,len,cap,rfl,hc,k1,hl'⟩
 go_wp2_with fail
 refine(stand_n hc).mono ?_
 rintro e w' ⟨s',rfl,hz,hg⟩
 have y':ZB w' r false none 0 0:=ZB.below y gw;have y0:=y'.c0;have y1:=y'.c1;have y2:=y'.f 0;have y3:=y'.f 1
 have hB:Below p w w':=b0.trans ((grow_step hg k1).mono (Nat.le_of_lt (Nat.lt_of_lt_of_le hpr hrb)))
 go_wp2
 refine bodyPost_ret (results_cell_row rfl _ _ r 38 _ (0,0) _ rfl (zb_fin y' s' ad len cap) Tryz.underlying38 rfl k_f) rfl ?_
 exact⟨s',ad,len,cap,by simp,zb_zn y' hz _ _ _ _,hp.out.symm▸(hB.setCell (Nat.le_of_lt hpr) _).setCell (Nat.le_of_lt hpr) _,hl'⟩
theorem zmul_n (h1:Zm B w s1 a1 l1 c1 z1)(h2:Zm B w s2 a2 l2 c2 z2)(hl1:l1≤1099511627776)(hl2:l2≤1099511627776):
  Calls Tryz.prog 112 #[.agg #[.bool s1,.slice a1 l1 c1],.agg #[.bool s2,.slice a2 l2 c2]] w fun e w'=> ∃s' ad len cap,e= .returned (.agg #[.bool s',.slice ad len cap])∧Zn B w' s' ad len cap (z1*z2)∧Below w.heap.size w w'∧len≤l1+l2:=by
 obtain⟨m,hm,rfl⟩:=h1
 obtain⟨n,hn,rfl⟩:=h2
 rw[←sg_mul]
 go_enter Tryz.func112,Tryz.ntmps112
 go_wp2_with fail
 have x:=(zb_new w s1 a1 l1 c1).below (below_alloc' (below_alloc _ (.cells #[.bool s2,.slice a2 l2 c2] 38)) (.cells #[.bool false,.slice none 0 0] 38))
 have x2:=(zb_new (w.alloc (.cells #[.bool s1,.slice a1 l1 c1] 38)) s2 a2 l2 c2).below (below_alloc _ (.cells #[.bool false,.slice none 0 0] 38))
 have y:=zb_new ((w.alloc (.cells #[.bool s1,.slice a1 l1 c1] 38)).alloc (.cells #[.bool s2,.slice a2 l2 c2] 38)) false none 0 0
 have b0:Below w.heap.size w (((w.alloc (.cells #[.bool s1,.slice a1 l1 c1] 38)).alloc (.cells #[.bool s2,.slice a2 l2 c2] 38)).alloc (.cells #[.bool false,.slice none 0 0] 38)):=below_alloc' (below_alloc' (below_alloc _ _) _) _
 rw[show((w.alloc (.cells #[.bool s1,.slice a1 l1 c1] 38)).alloc (.cells #[.bool s2,.slice a2 l2 c2] 38)).heap.size=w.heap.size+2 from by simp]at y
 rw[show(w.alloc (.cells #[.bool s1,.slice a1 l1 c1] 38)).heap.size=w.heap.size+1 from by simp]at x2
 generalize ((w.alloc (.cells #[.bool s1,.slice a1 l1 c1] 38)).alloc (.cells #[.bool s2,.slice a2 l2 c2] 38)).alloc (.cells #[.bool false,.slice none 0 0] 38)=wb at*
 have hpr:w.heap.size<w.heap.size+2:=by omega
 have hqr:w.heap.size+1<w.heap.size+2:=by omega
 have hpq:w.heap.size<w.heap.size+1:=by omega
 replace hm:=hm.below b0
 replace hn:=hn.below b0
 generalize hp:w.heap.size=p at*
 replace hp:=hide hp
 generalize p+2=r at*
 generalize p+1=q at*
 have hrb:=Nat.le_of_lt y.lt
 go_region_held3 (fun w'=>w'.cell? ⟨p,0,none⟩=some (.bool s1)∧w'.cell? ⟨p,1,none⟩=some (.slice a1 l1 c1)∧w'.cell? ⟨q,0,none⟩=some (.bool s2)∧w'.cell? ⟨q,1,none⟩=some (.slice a2 l2 c2)∧Below r wb w')
  ((refine zs2 x x2 hpr hqr ?_;first|(refine Below.mono ?_ hrb;focus ((with_reducible repeat' first|exact Below.refl _ _|assumption|refine grow_step (by assumption) ?_|refine grow_drew ?_|refine grow_alloc ?_ _|refine grow_drewN ?_ _);done))|(refine((Below.mono ?_ hrb).setCell (Nat.le_refl _) _).setCell (Nat.le_refl _) _;focus ((with_reducible repeat' first|exact Below.refl _ _|assumption|refine grow_step (by assumption) ?_|refine grow_drew ?_|refine grow_alloc ?_ _|refine grow_drewN ?_ _);done))))
  (first|(go_at_call 144;refine(mul_n (Nm.below hm gw) (Nm.below hn gw) hl1 hl2).mono ?_;rintro e w' ⟨ad,len,cap,rfl,hc,hg,hl'⟩)|(go_at_call 105;refine(stand_n (Cn.below hc gw)).mono ?_;rintro e w' ⟨s',rfl,hz,hg⟩;have y':ZB w' r false none 0 0:=ZB.below y gw;have y0:=y'.c0;have y1:=y'.c1;have y2:=y'.f 0;have y3:=y'.f 1))
 go_wp2

 rename_i hH
 refine bodyPost_ret (results_cell_row rfl _ _ r 38 _ (0,0) _ rfl (zb_fin y' s' ad len cap) Tryz.underlying38 rfl k_f) rfl ?_
 exact⟨s',ad,len,cap,by simp,zb_zn y' hz _ _ _ _,hp.out.symm▸(b0.trans (hH.2.2.2.2.mono (Nat.le_of_lt hpr))),hl'⟩
theorem zadd_n (h1:Zm B w s1 a1 l1 c1 z1)(h2:Zm B w s2 a2 l2 c2 z2)(hl1:l1≤1099511627776)(hl2:l2≤1099511627776):
  Calls Tryz.prog 64 #[.agg #[.bool s1,.slice a1 l1 c1],.agg #[.bool s2,.slice a2 l2 c2]] w fun e w'=> ∃s' ad len cap,e= .returned (.agg #[.bool s',.slice ad len cap])∧Zn B w' s' ad len cap (z1+z2)∧Below w.heap.size w w'∧len≤max l1 l2+1:=by
 obtain⟨m,hm,rfl⟩:=h1
 obtain⟨n,hn,rfl⟩:=h2
 by_cases hs:s1=s2
 ·have hs':(s1==s2)=true:=by simp[hs]
  rw[show sg s1 m+sg s2 n=sg s1 (m+n) from by rw[←hs,sg_add]]
  clear hs
  go_enter Tryz.func64,Tryz.ntmps64
  go_wp2_with fail
  have x:=(zb_new w s1 a1 l1 c1).below (below_alloc' (below_alloc _ (.cells #[.bool s2,.slice a2 l2 c2] 38)) (.cells #[.bool false,.slice none 0 0] 38))
  have x2:=(zb_new (w.alloc (.cells #[.bool s1,.slice a1 l1 c1] 38)) s2 a2 l2 c2).below (below_alloc _ (.cells #[.bool false,.slice none 0 0] 38))
  have y:=zb_new ((w.alloc (.cells #[.bool s1,.slice a1 l1 c1] 38)).alloc (.cells #[.bool s2,.slice a2 l2 c2] 38)) false none 0 0
  have b0:Below w.heap.size w (((w.alloc (.cells #[.bool s1,.slice a1 l1 c1] 38)).alloc (.cells #[.bool s2,.slice a2 l2 c2] 38)).alloc (.cells #[.bool false,.slice none 0 0] 38)):=below_alloc' (below_alloc' (below_alloc _ _) _) _
  rw[show((w.alloc (.cells #[.bool s1,.slice a1 l1 c1] 38)).alloc (.cells #[.bool s2,.slice a2 l2 c2] 38)).heap.size=w.heap.size+2 from by simp]at y
  rw[show(w.alloc (.cells #[.bool s1,.slice a1 l1 c1] 38)).heap.size=w.heap.size+1 from by simp]at x2
  generalize ((w.alloc (.cells #[.bool s1,.slice a1 l1 c1] 38)).alloc (.cells #[.bool s2,.slice a2 l2 c2] 38)).alloc (.cells #[.bool false,.slice none 0 0] 38)=wb at*
  have hpr:w.heap.size<w.heap.size+2:=by omega
  have hqr:w.heap.size+1<w.heap.size+2:=by omega
  have hpq:w.heap.size<w.heap.size+1:=by omega
  replace hm:=hm.below b0
  replace hn:=hn.below b0
  generalize hp:w.heap.size=p at*
  replace hp:=hide hp
  generalize p+2=r at*
  generalize p+1=q at*
  have hrb:=Nat.le_of_lt y.lt
  go_region_held3 (fun w'=>w'.cell? ⟨p,0,none⟩=some (.bool s1)∧w'.cell? ⟨p,1,none⟩=some (.slice a1 l1 c1)∧w'.cell? ⟨q,0,none⟩=some (.bool s2)∧w'.cell? ⟨q,1,none⟩=some (.slice a2 l2 c2)∧Below r wb w')
   ((refine zs2 x x2 hpr hqr ?_;first|(refine Below.mono ?_ hrb;focus ((with_reducible repeat' first|exact Below.refl _ _|assumption|refine grow_step (by assumption) ?_|refine grow_drew ?_|refine grow_alloc ?_ _|refine grow_drewN ?_ _);done))|(refine((Below.mono ?_ hrb).setCell (Nat.le_refl _) _).setCell (Nat.le_refl _) _;focus ((with_reducible repeat' first|exact Below.refl _ _|assumption|refine grow_step (by assumption) ?_|refine grow_drew ?_|refine grow_alloc ?_ _|refine grow_drewN ?_ _);done))))
   (first|(go_at_call 109;refine(add_n (Nm.below hm gw) (Nm.below hn gw) hl1 hl2).mono ?_;rintro e w' ⟨ad,len,cap,rfl,hc,hg,hl'⟩)|(go_at_call 105;refine(stand_n (Cn.below hc gw)).mono ?_;rintro e w' ⟨s',rfl,hz,hg⟩;have y':ZB w' r false none 0 0:=ZB.below y gw;have y0:=y'.c0;have y1:=y'.c1;have y2:=y'.f 0;have y3:=y'.f 1))
  go_wp2
  rename_i hH
  refine bodyPost_ret (results_cell_row rfl _ _ r 38 _ (0,0) _ rfl (zb_fin y' s' ad len cap) Tryz.underlying38 rfl k_f) rfl ?_
  exact⟨s',ad,len,cap,by simp,zb_zn y' hz _ _ _ _,hp.out.symm▸(b0.trans (hH.2.2.2.2.mono (Nat.le_of_lt hpr))),hl'⟩
 have hs':(s1==s2)=false:=by simp[hs]
 by_cases hlt:m<n
 ·rw[←sg_sub2 hs]
  clear hs
  go_enter Tryz.func64,Tryz.ntmps64
  go_wp2_with fail
  have x:=(zb_new w s1 a1 l1 c1).below (below_alloc' (below_alloc _ (.cells #[.bool s2,.slice a2 l2 c2] 38)) (.cells #[.bool false,.slice none 0 0] 38))
  have x2:=(zb_new (w.alloc (.cells #[.bool s1,.slice a1 l1 c1] 38)) s2 a2 l2 c2).below (below_alloc _ (.cells #[.bool false,.slice none 0 0] 38))
  have y:=zb_new ((w.alloc (.cells #[.bool s1,.slice a1 l1 c1] 38)).alloc (.cells #[.bool s2,.slice a2 l2 c2] 38)) false none 0 0
  have b0:Below w.heap.size w (((w.alloc (.cells #[.bool s1,.slice a1 l1 c1] 38)).alloc (.cells #[.bool s2,.slice a2 l2 c2] 38)).alloc (.cells #[.bool false,.slice none 0 0] 38)):=below_alloc' (below_alloc' (below_alloc _ _) _) _
  rw[show((w.alloc (.cells #[.bool s1,.slice a1 l1 c1] 38)).alloc (.cells #[.bool s2,.slice a2 l2 c2] 38)).heap.size=w.heap.size+2 from by simp]at y
  rw[show(w.alloc (.cells #[.bool s1,.slice a1 l1 c1] 38)).heap.size=w.heap.size+1 from by simp]at x2
  generalize ((w.alloc (.cells #[.bool s1,.slice a1 l1 c1] 38)).alloc (.cells #[.bool s2,.slice a2 l2 c2] 38)).alloc (.cells #[.bool false,.slice none 0 0] 38)=wb at*
  have hpr:w.heap.size<w.heap.size+2:=by omega
  have hqr:w.heap.size+1<w.heap.size+2:=by omega
  have hpq:w.heap.size<w.heap.size+1:=by omega
  replace hm:=hm.below b0
  replace hn:=hn.below b0
  generalize hp:w.heap.size=p at*
  replace hp:=hide hp
  generalize p+2=r at*
  generalize p+1=q at*
  have hrb:=Nat.le_of_lt y.lt
  refine(cmp_lt hm hn hlt).mono ?_
  rintro e w1 ⟨rfl,k1⟩
  replace x:=x.below k1
  replace x2:=x2.below k1
  replace y:=y.below k1
  replace hm:=hm.below k1
  replace hn:=hn.below k1
  replace b0:=b0.trans (k1.mono (Nat.le_of_lt (Nat.lt_of_lt_of_le hpr hrb)))
  clear hrb k1
  have u0:=x.c0
  have u1:=x.c1
  have u2:=x2.c0
  have u3:=x2.c1
  have v0:=x.f 0
  have v1:=x.f 1
  have v2:=x2.f 0
  have v3:=x2.f 1
  have hpq':p≠q:=by omega
  go_wp2_with fail
  have o1:=only2 p w1 (.bool s2) (.slice a2 l2 c2)
  replace hm:=zb_nm x o1 hm
  replace hn:=zb_nm x o1 hn
  replace x2:=x2.only o1 (Ne.symm hpq')
  replace y:=y.only o1 o_m
  replace b0:=(b0.setCell (p:=⟨p,0,none⟩) (Nat.le_refl _) (.bool s2)).setCell (p:=⟨p,1,none⟩) (Nat.le_refl _) (.slice a2 l2 c2)
  replace x:=zb_fin x s2 a2 l2 c2
  generalize (w1.setCell ⟨p,0,none⟩ (.bool s2)).setCell ⟨p,1,none⟩ (.slice a2 l2 c2)=w2 at*
  have o2:=only2 q w2 (.bool s1) (.slice a1 l1 c1)
  replace hm:=zb_nm x2 o2 hm
  replace hn:=zb_nm x2 o2 hn
  replace x:=x.only o2 hpq'
  replace y:=y.only o2 o_m
  replace b0:=(b0.setCell (p:=⟨q,0,none⟩) (Nat.le_of_lt hpq) (.bool s1)).setCell (p:=⟨q,1,none⟩) (Nat.le_of_lt hpq) (.slice a1 l1 c1)
  replace x2:=zb_fin x2 s1 a1 l1 c1
  generalize (w2.setCell ⟨q,0,none⟩ (.bool s1)).setCell ⟨q,1,none⟩ (.slice a1 l1 c1)=w3 at*
  clear o1 o2 u0 u1 u2 u3 v0 v1 v2 v3
  refine(sub_n hn hm hl2 o_m).mono ?_
  rintro e w4 ⟨ad,len,cap,rfl,hc,k2,hl'⟩
  have u0:=(x.below k2).c0
  go_wp2_with fail
  refine(stand_n hc).mono ?_
  rintro e w' ⟨s',rfl,hz,hg⟩
  have y':ZB w' r false none 0 0:=ZB.below y (grow_step hg k2)
  have y0:=y'.c0
  have y1:=y'.c1
  have y2:=y'.f 0
  have y3:=y'.f 1
  have hB:Below p w w':=b0.trans ((grow_step hg k2).mono (Nat.le_of_lt x.lt))
  go_wp2
  refine bodyPost_ret (results_cell_row rfl _ _ r 38 _ (0,0) _ rfl (zb_fin y' s' ad len cap) Tryz.underlying38 rfl k_f) rfl ?_
  exact⟨s',ad,len,cap,by simp,zb_zn y' hz _ _ _ _,hp.out.symm▸(hB.setCell (Nat.le_of_lt hpr) _).setCell (Nat.le_of_lt hpr) _,by omega⟩
 rw[←sg_sub1 hs]
 clear hs
 go_enter Tryz.func64,Tryz.ntmps64
 go_wp2_with fail
 have x:=(zb_new w s1 a1 l1 c1).below (below_alloc' (below_alloc _ (.cells #[.bool s2,.slice a2 l2 c2] 38)) (.cells #[.bool false,.slice none 0 0] 38))
 have x2:=(zb_new (w.alloc (.cells #[.bool s1,.slice a1 l1 c1] 38)) s2 a2 l2 c2).below (below_alloc _ (.cells #[.bool false,.slice none 0 0] 38))
 have y:=zb_new ((w.alloc (.cells #[.bool s1,.slice a1 l1 c1] 38)).alloc (.cells #[.bool s2,.slice a2 l2 c2] 38)) false none 0 0
 have b0:Below w.heap.size w (((w.alloc (.cells #[.bool s1,.slice a1 l1 c1] 38)).alloc (.cells #[.bool s2,.slice a2 l2 c2] 38)).alloc (.cells #[.bool false,.slice none 0 0] 38)):=below_alloc' (below_alloc' (below_alloc _ _) _) _
 rw[show((w.alloc (.cells #[.bool s1,.slice a1 l1 c1] 38)).alloc (.cells #[.bool s2,.slice a2 l2 c2] 38)).heap.size=w.heap.size+2 from by simp]at y
 rw[show(w.alloc (.cells #[.bool s1,.slice a1 l1 c1] 38)).heap.size=w.heap.size+1 from by simp]at x2
 generalize ((w.alloc (.cells #[.bool s1,.slice a1 l1 c1] 38)).alloc (.cells #[.bool s2,.slice a2 l2 c2] 38)).alloc (.cells #[.bool false,.slice none 0 0] 38)=wb at*
 have hpr:w.heap.size<w.heap.size+2:=by omega
 have hqr:w.heap.size+1<w.heap.size+2:=by omega
 have hpq:w.heap.size<w.heap.size+1:=by omega
 replace hm:=hm.below b0
 replace hn:=hn.below b0
 generalize hp:w.heap.size=p at*
 replace hp:=hide hp
 generalize p+2=r at*
 generalize p+1=q at*
 have hrb:=Nat.le_of_lt y.lt
 refine(cmp_n hm hn).mono ?_
 rintro e w1 ⟨rfl,k1⟩
 have hcn: ¬cmpI m n<0:=by unfold cmpI;rw[if_neg o_m];split <;> decide
 generalize cmpI m n=cc at*
 replace x:=x.below k1
 replace x2:=x2.below k1
 replace y:=y.below k1
 replace hm:=hm.below k1
 replace hn:=hn.below k1
 replace b0:=b0.trans (k1.mono (Nat.le_of_lt (Nat.lt_of_lt_of_le hpr hrb)))
 clear hrb k1
 have u0:=x.c0
 have u1:=x.c1
 have u2:=x2.c0
 have u3:=x2.c1
 go_wp2_with fail
 refine(sub_n hm hn hl1 hlt).mono ?_
 rintro e w4 ⟨ad,len,cap,rfl,hc,k2,hl'⟩
 clear u0 u1 u2 u3
 have u0:=(x.below k2).c0
 go_wp2_with fail
 refine(stand_n hc).mono ?_
 rintro e w' ⟨s',rfl,hz,hg⟩
 have y':ZB w' r false none 0 0:=ZB.below y (grow_step hg k2)
 have y0:=y'.c0
 have y1:=y'.c1
 have y2:=y'.f 0
 have y3:=y'.f 1
 have hB:Below p w w':=b0.trans ((grow_step hg k2).mono (Nat.le_of_lt x.lt))
 go_wp2
 refine bodyPost_ret (results_cell_row rfl _ _ r 38 _ (0,0) _ rfl (zb_fin y' s' ad len cap) Tryz.underlying38 rfl k_f) rfl ?_
 exact⟨s',ad,len,cap,by simp,zb_zn y' hz _ _ _ _,hp.out.symm▸(hB.setCell (Nat.le_of_lt hpr) _).setCell (Nat.le_of_lt hpr) _,by omega⟩
theorem zsub_n (h1:Zm B w s1 a1 l1 c1 z1)(h2:Zm B w s2 a2 l2 c2 z2)(hl1:l1≤1099511627776)(hl2:l2≤1099511627776):
  Calls Tryz.prog 76 #[.agg #[.bool s1,.slice a1 l1 c1],.agg #[.bool s2,.slice a2 l2 c2]] w fun e w'=> ∃s' ad len cap,e= .returned (.agg #[.bool s',.slice ad len cap])∧Zn B w' s' ad len cap (z1-z2)∧Below w.heap.size w w'∧len≤max l1 l2+1:=by
 obtain⟨m,hm,rfl⟩:=h1
 obtain⟨n,hn,rfl⟩:=h2
 rw[show sg s1 m-sg s2 n=sg s1 m+sg (!s2) n from by rw[sg_not];omega]
 go_enter Tryz.func76,Tryz.ntmps76
 go_wp2_with fail
 have x:=(zb_new w s1 a1 l1 c1).below (below_alloc' (below_alloc _ (.cells #[.bool !s2,.slice a2 l2 c2] 38)) (.cells #[.bool false,.slice none 0 0] 38))
 have x2:=(zb_new (w.alloc (.cells #[.bool s1,.slice a1 l1 c1] 38)) (!s2) a2 l2 c2).below (below_alloc _ (.cells #[.bool false,.slice none 0 0] 38))
 have y:=zb_new ((w.alloc (.cells #[.bool s1,.slice a1 l1 c1] 38)).alloc (.cells #[.bool !s2,.slice a2 l2 c2] 38)) false none 0 0
 have b0:Below w.heap.size w (((w.alloc (.cells #[.bool s1,.slice a1 l1 c1] 38)).alloc (.cells #[.bool !s2,.slice a2 l2 c2] 38)).alloc (.cells #[.bool false,.slice none 0 0] 38)):=below_alloc' (below_alloc' (below_alloc _ _) _) _
 rw[show((w.alloc (.cells #[.bool s1,.slice a1 l1 c1] 38)).alloc (.cells #[.bool !s2,.slice a2 l2 c2] 38)).heap.size=w.heap.size+2 from by simp]at y
 rw[show(w.alloc (.cells #[.bool s1,.slice a1 l1 c1] 38)).heap.size=w.heap.size+1 from by simp]at x2
 generalize ((w.alloc (.cells #[.bool s1,.slice a1 l1 c1] 38)).alloc (.cells #[.bool !s2,.slice a2 l2 c2] 38)).alloc (.cells #[.bool false,.slice none 0 0] 38)=wb at*
 have hpr:w.heap.size<w.heap.size+2:=by omega
 have hqr:w.heap.size+1<w.heap.size+2:=by omega
 have hpq:w.heap.size<w.heap.size+1:=by omega
 replace hm:=hm.below b0
 replace hn:=hn.below b0
 generalize hp:w.heap.size=p at*
 replace hp:=hide hp
 generalize p+2=r at*
 generalize p+1=q at*
 have hrb:=Nat.le_of_lt y.lt
 refine(zadd_n ⟨m,hm,rfl⟩ ⟨n,hn,rfl⟩ hl1 hl2).mono ?_
 rintro e w' ⟨s',ad,len,cap,rfl,hz,hg,hl'⟩
 have y':ZB w' r false none 0 0:=ZB.below y gw;have y0:=y'.c0;have y1:=y'.c1;have y2:=y'.f 0;have y3:=y'.f 1
 have hB:Below p w w':=b0.trans (hg.mono (Nat.le_of_lt (Nat.lt_of_lt_of_le hpr hrb)))
 go_wp2
 refine bodyPost_ret (results_cell_row rfl _ _ r 38 _ (0,0) _ rfl (zb_fin y' s' ad len cap) Tryz.underlying38 rfl k_f) rfl ?_
 exact⟨s',ad,len,cap,by simp,zb_zn y' hz _ _ _ _,hp.out.symm▸(hB.setCell (Nat.le_of_lt hpr) _).setCell (Nat.le_of_lt hpr) _,hl'⟩
theorem zof_n (n:Int)(h0: -9223372036854775808≤n)(h1:n≤9223372036854775807)(w:World)(hB:B≤w.heap.size):
  Calls Tryz.prog 62 #[.int .i64 n] w fun e w'=> ∃s' ad len cap,e= .returned (.agg #[.bool s',.slice ad len cap])∧Zn B w' s' ad len cap n∧Below w.heap.size w w'∧len≤2:=by
 go_enter Tryz.func62,Tryz.ntmps62
 by_cases hn:n<0
 ·go_wp2_with fail
  have y:=zb_new w false none 0 0
  have b0:=below_alloc w (.cells #[.bool false,.slice none 0 0] 38)
  rw[wrap_neg h0 hn]
  generalize w.alloc (.cells #[.bool false,.slice none 0 0] 38)=wb at*
  generalize hp:w.heap.size=r at*
  replace hp:=hide hp
  refine(of_n (-n) o_m o_m wb (Nat.le_of_lt (Nat.lt_of_le_of_lt hB y.lt))).mono ?_
  rintro e w1 ⟨ad,len,cap,rfl,hc,k1,hl'⟩
  go_wp2_with fail
  refine(stand_n hc).mono ?_
  rintro e w' ⟨s',rfl,hz,hg⟩
  have y':ZB w' r false none 0 0:=ZB.below y gw;have y0:=y'.c0;have y1:=y'.c1;have y2:=y'.f 0;have y3:=y'.f 1
  have hB:Below r w w':=b0.trans ((grow_step hg k1).mono (Nat.le_of_lt y.lt))
  go_wp2
  refine bodyPost_ret (results_cell_row rfl _ _ r 38 _ (0,0) _ rfl (zb_fin y' s' ad len cap) Tryz.underlying38 rfl k_f) rfl ?_
  rw[show sg true (-n)=n from by simp[sg]]at hz
  exact⟨s',ad,len,cap,by simp,zb_zn y' hz _ _ _ _,hp.out.symm▸(hB.setCell (Nat.le_refl _) _).setCell (Nat.le_refl _) _,hl'⟩
 go_wp2_with fail
 have y:=zb_new w false none 0 0
 have b0:=below_alloc w (.cells #[.bool false,.slice none 0 0] 38)
 generalize w.alloc (.cells #[.bool false,.slice none 0 0] 38)=wb at*
 generalize hp:w.heap.size=r at*
 replace hp:=hide hp
 refine(of_n n o_m o_m wb (Nat.le_of_lt (Nat.lt_of_le_of_lt hB y.lt))).mono ?_
 rintro e w1 ⟨ad,len,cap,rfl,hc,k1,hl'⟩
 go_wp2_with fail
 refine(stand_n hc).mono ?_
 rintro e w' ⟨s',rfl,hz,hg⟩
 have y':ZB w' r false none 0 0:=ZB.below y gw;have y0:=y'.c0;have y1:=y'.c1;have y2:=y'.f 0;have y3:=y'.f 1
 have hB:Below r w w':=b0.trans ((grow_step hg k1).mono (Nat.le_of_lt y.lt))
 go_wp2
 refine bodyPost_ret (results_cell_row rfl _ _ r 38 _ (0,0) _ rfl (zb_fin y' s' ad len cap) Tryz.underlying38 rfl k_f) rfl ?_
 rw[show sg false n=n from by simp[sg]]at hz
 exact⟨s',ad,len,cap,by simp,zb_zn y' hz _ _ _ _,hp.out.symm▸(hB.setCell (Nat.le_refl _) _).setCell (Nat.le_refl _) _,hl'⟩
end Go.Proofs.YtaafoppaepcaeaaGreat.Fresh

namespace Go.Proofs.YtaafoppaepcaeaaGreat
open Go.RowKit

variable {s s1 s2:Bool}{w:World}{a1 a2:Option Addr}{l1 c1 l2 c2:Nat}{z1 z2 m n:Int}
theorem norm_n {a:Option Addr}{l c:Nat}{z:Int}(h:Zm w s a l c z)(hl:l≤1099511627776):
  Calls Tryz.prog 87 #[.agg #[.bool s,.slice a l c]] w fun e w'=> ∃s' ad len cap,e= .returned (.agg #[.bool s',.slice ad len cap])∧Zn w' s' ad len cap z∧Below w.heap.size w w'∧len≤l+1:=
 (Fresh.norm_n (Fresh.zm_of h (Nat.zero_le _)) hl).mono fun _ _ ⟨s',ad,len,cap,h1,h2,h3⟩=>⟨s',ad,len,cap,h1,h2.zn,h3⟩
theorem abs_n {a:Option Addr}{l c:Nat}{z:Int}(h:Zm w s a l c z)(hl:l≤1099511627776):
  Calls Tryz.prog 84 #[.agg #[.bool s,.slice a l c]] w fun e w'=> ∃s' ad len cap,e= .returned (.agg #[.bool s',.slice ad len cap])∧Zn w' s' ad len cap (z.natAbs:Int)∧Below w.heap.size w w'∧len≤l+1:=
 (Fresh.abs_n (Fresh.zm_of h (Nat.zero_le _)) hl).mono fun _ _ ⟨s',ad,len,cap,h1,h2,h3⟩=>⟨s',ad,len,cap,h1,h2.zn,h3⟩
theorem zmul_n (h1:Zm w s1 a1 l1 c1 z1)(h2:Zm w s2 a2 l2 c2 z2)(hl1:l1≤1099511627776)(hl2:l2≤1099511627776):
  Calls Tryz.prog 112 #[.agg #[.bool s1,.slice a1 l1 c1],.agg #[.bool s2,.slice a2 l2 c2]] w fun e w'=> ∃s' ad len cap,e= .returned (.agg #[.bool s',.slice ad len cap])∧Zn w' s' ad len cap (z1*z2)∧Below w.heap.size w w'∧len≤l1+l2:=
 (Fresh.zmul_n (Fresh.zm_of h1 (Nat.zero_le _)) (Fresh.zm_of h2 (Nat.zero_le _)) hl1 hl2).mono fun _ _ ⟨s',ad,len,cap,h1,h2,h3⟩=>⟨s',ad,len,cap,h1,h2.zn,h3⟩
theorem zadd_n (h1:Zm w s1 a1 l1 c1 z1)(h2:Zm w s2 a2 l2 c2 z2)(hl1:l1≤1099511627776)(hl2:l2≤1099511627776):
  Calls Tryz.prog 64 #[.agg #[.bool s1,.slice a1 l1 c1],.agg #[.bool s2,.slice a2 l2 c2]] w fun e w'=> ∃s' ad len cap,e= .returned (.agg #[.bool s',.slice ad len cap])∧Zn w' s' ad len cap (z1+z2)∧Below w.heap.size w w'∧len≤max l1 l2+1:=
 (Fresh.zadd_n (Fresh.zm_of h1 (Nat.zero_le _)) (Fresh.zm_of h2 (Nat.zero_le _)) hl1 hl2).mono fun _ _ ⟨s',ad,len,cap,h1,h2,h3⟩=>⟨s',ad,len,cap,h1,h2.zn,h3⟩
theorem zsub_n (h1:Zm w s1 a1 l1 c1 z1)(h2:Zm w s2 a2 l2 c2 z2)(hl1:l1≤1099511627776)(hl2:l2≤1099511627776):
  Calls Tryz.prog 76 #[.agg #[.bool s1,.slice a1 l1 c1],.agg #[.bool s2,.slice a2 l2 c2]] w fun e w'=> ∃s' ad len cap,e= .returned (.agg #[.bool s',.slice ad len cap])∧Zn w' s' ad len cap (z1-z2)∧Below w.heap.size w w'∧len≤max l1 l2+1:=
 (Fresh.zsub_n (Fresh.zm_of h1 (Nat.zero_le _)) (Fresh.zm_of h2 (Nat.zero_le _)) hl1 hl2).mono fun _ _ ⟨s',ad,len,cap,h1,h2,h3⟩=>⟨s',ad,len,cap,h1,h2.zn,h3⟩
theorem zof_n (n:Int)(h0: -9223372036854775808≤n)(h1:n≤9223372036854775807)(w:World):
  Calls Tryz.prog 62 #[.int .i64 n] w fun e w'=> ∃s' ad len cap,e= .returned (.agg #[.bool s',.slice ad len cap])∧Zn w' s' ad len cap n∧Below w.heap.size w w'∧len≤2:=
 (Fresh.zof_n n h0 h1 w (Nat.zero_le _)).mono fun _ _ ⟨s',ad,len,cap,h1,h2,h3⟩=>⟨s',ad,len,cap,h1,h2.zn,h3⟩

def FD (a b q r:Int):Prop:=a=q*b+r∧((0≤r∧r<b)∨(b<r∧r≤0))

theorem fd_same (hn:0<n):FD (sg s m) (sg s n) (m / n) (sg s (m%n)):=by
 have h1:=Int.emod_add_mul_ediv m n
 have h2:=Int.emod_nonneg m (Int.ne_of_gt hn)
 have h3:=Int.emod_lt_of_pos m hn
 rw[Int.mul_comm]at h1
 cases s
 ·exact⟨by simp only[sg,Bool.false_eq_true,if_false];omega,Or.inl ⟨by simpa [sg] using h2,by simpa [sg] using h3⟩⟩
 refine⟨?_,Or.inr ⟨by simp only[sg,if_true];omega,by simp only[sg,if_true];omega⟩⟩
 simp only[sg,if_true,Int.mul_neg]
 omega
theorem fd_zero (hs:s1≠s2)(hn:0<n)(h0:m%n=0):FD (sg s1 m) (sg s2 n) (sg true (m / n)) (sg s2 (m%n)):=by
 have h1:=Int.emod_add_mul_ediv m n
 rw[Int.mul_comm,h0]at h1
 rw[h0]
 generalize m / n=k at*
 subst h1
 cases s1 <;> cases s2 <;> first|exact absurd rfl hs|(simp only[sg,if_true,if_false,Bool.false_eq_true,FD,Int.neg_mul,Int.mul_neg]at*;omega)
theorem fd_up (hs:s1≠s2)(hn:0<n)(h0:m%n≠0):FD (sg s1 m) (sg s2 n) (sg true (m / n+1)) (sg s2 (n-m%n)):=by
 have h1:=Int.emod_add_mul_ediv m n
 have h2:=Int.emod_nonneg m (Int.ne_of_gt hn)
 have h3:=Int.emod_lt_of_pos m hn
 rw[Int.mul_comm]at h1
 generalize m / n=k at*
 generalize m%n=j at*
 have e:(k+1)*n=k*n+n:=by rw[Int.add_mul,Int.one_mul]
 cases s1 <;> cases s2 <;> first|exact absurd rfl hs|(simp only[sg,if_true,if_false,Bool.false_eq_true,FD,Int.neg_mul,Int.mul_neg,e]at*;omega)

theorem results_c2t {P:Program}{fn:Func}{p1 p2 t3:Tmp}{ty:TypeId}(h:fn.results= #[.cell p1 ty,.cell p2 ty,.tmp t3])(tmps:Array Value)(w:World)(g1 g2:Nat)(t:TypeId)(cs1 cs2:Array Value)(fr:Nat × Nat)(d:TypeDesc)
  (hp1:tmps.getD p1 undef= .pointer (some ⟨g1,0,none⟩))(hp2:tmps.getD p2 undef= .pointer (some ⟨g2,0,none⟩))(hg1:w.heap[g1]? =some (.cells cs1 t fr))(hg2:w.heap[g2]? =some (.cells cs2 t fr))
  (hu:P.underlying ty=some d)(hd:(match d with| .struct _| .array _ _=>true|_=>false)=true)(hi1:(P.info? ty).map (·.size)=some cs1.size)(hi2:(P.info? ty).map (·.size)=some cs2.size):
  (results fn tmps).run P w= .ok (.tuple #[.agg cs1,.agg cs2,tmps.getD t3 undef]) w:=by
 have hp1':tmps[p1]?.getD undef= .pointer (some ⟨g1,0,none⟩):=by simpa using hp1
 have hp2':tmps[p2]?.getD undef= .pointer (some ⟨g2,0,none⟩):=by simpa using hp2
 simp[results,h,hp1',hp2',asAddr,run_loadVar_row w g1 t ty cs1 fr d hg1 hu hd hi1,run_loadVar_row w g2 t ty cs2 fr d hg2 hu hd hi2]

theorem zdivmod_n (h1:Zm w s1 a1 l1 c1 z1)(h2:Zm w s2 a2 l2 c2 z2)(hl1:l1≤1099511627776)(hl2:l2≤1099511627776)(hz:z2≠0):
  Calls Tryz.prog 127 #[.agg #[.bool s1,.slice a1 l1 c1],.agg #[.bool s2,.slice a2 l2 c2]] w fun e w'=> ∃sq aq lq cq sr ar lr cr qv rv,e= .returned (.tuple #[.agg #[.bool sq,.slice aq lq cq],.agg #[.bool sr,.slice ar lr cr],.int .i64 0])∧Zn w' sq aq lq cq qv∧Zn w' sr ar lr cr rv∧FD z1 z2 qv rv∧Below w.heap.size w w'∧lq≤l1+3∧lr≤l2:=by
 obtain⟨m,hm,rfl⟩:=h1
 obtain⟨n,hn,rfl⟩:=h2
 have hn0:0<n:=by
  have:=hn.nonneg
  have:n≠0:=fun h=>hz (by cases s2 <;> simp[sg,h])
  omega
 go_enter Tryz.func127,Tryz.ntmps127
 go_wp2_with fail
 have x:=(zb_new w s1 a1 l1 c1).below (below_alloc' (below_alloc' (below_alloc _ (.cells #[.bool s2,.slice a2 l2 c2] 38)) (.cells #[.bool false,.slice none 0 0] 38)) (.cells #[.bool false,.slice none 0 0] 38))
 have x2:=(zb_new (w.alloc (.cells #[.bool s1,.slice a1 l1 c1] 38)) s2 a2 l2 c2).below (below_alloc' (below_alloc _ (.cells #[.bool false,.slice none 0 0] 38)) (.cells #[.bool false,.slice none 0 0] 38))
 have y:=(zb_new ((w.alloc (.cells #[.bool s1,.slice a1 l1 c1] 38)).alloc (.cells #[.bool s2,.slice a2 l2 c2] 38)) false none 0 0).below (below_alloc _ (.cells #[.bool false,.slice none 0 0] 38))
 have yt:=zb_new (((w.alloc (.cells #[.bool s1,.slice a1 l1 c1] 38)).alloc (.cells #[.bool s2,.slice a2 l2 c2] 38)).alloc (.cells #[.bool false,.slice none 0 0] 38)) false none 0 0
 have b0:Below w.heap.size w ((((w.alloc (.cells #[.bool s1,.slice a1 l1 c1] 38)).alloc (.cells #[.bool s2,.slice a2 l2 c2] 38)).alloc (.cells #[.bool false,.slice none 0 0] 38)).alloc (.cells #[.bool false,.slice none 0 0] 38)):=below_alloc' (below_alloc' (below_alloc' (below_alloc _ _) _) _) _
 rw[show(((w.alloc (.cells #[.bool s1,.slice a1 l1 c1] 38)).alloc (.cells #[.bool s2,.slice a2 l2 c2] 38)).alloc (.cells #[.bool false,.slice none 0 0] 38)).heap.size=w.heap.size+3 from by simp]at yt
 rw[show((w.alloc (.cells #[.bool s1,.slice a1 l1 c1] 38)).alloc (.cells #[.bool s2,.slice a2 l2 c2] 38)).heap.size=w.heap.size+2 from by simp]at y
 rw[show(w.alloc (.cells #[.bool s1,.slice a1 l1 c1] 38)).heap.size=w.heap.size+1 from by simp]at x2
 generalize (((w.alloc (.cells #[.bool s1,.slice a1 l1 c1] 38)).alloc (.cells #[.bool s2,.slice a2 l2 c2] 38)).alloc (.cells #[.bool false,.slice none 0 0] 38)).alloc (.cells #[.bool false,.slice none 0 0] 38)=wb at*
 have hpr:w.heap.size<w.heap.size+2:=by omega
 have hqr:w.heap.size+1<w.heap.size+2:=by omega
 have hrt:w.heap.size+2<w.heap.size+3:=by omega
 replace hm:=hm.below b0
 replace hn:=hn.below b0
 generalize hp:w.heap.size=p at*
 replace hp:=hide hp
 generalize p+3=t at*
 generalize p+2=r at*
 generalize p+1=q at*
 have hrb:=Nat.le_of_lt y.lt
 refine(divmod_n hm hn hl1 hn0).mono ?_
 rintro e w1 ⟨aq,lq,cq,ar,lr,cr,rfl,hcq,hcr,k1,hlq,hlr⟩
 have u0:=(x.below k1).c0
 have u2:=(x2.below k1).c0
 have hr0:=hcr.len
 have hrt':r≠t:=by omega
 by_cases hs:s1=s2
 ·have hs':(s1==s2)=true:=by simp[hs]
  have HFD:FD (sg s1 m) (sg s2 n) (sg false (m / n)) (sg s2 (m%n)):=by
   subst hs;exact fd_same hn0
  clear hs
  go_wp2_with fail
  go_region_held3 (fun w'=>w'.cell? ⟨p,0,none⟩=some (.bool s1)∧w'.cell? ⟨p,1,none⟩=some (.slice a1 l1 c1)∧w'.cell? ⟨q,0,none⟩=some (.bool s2)∧w'.cell? ⟨q,1,none⟩=some (.slice a2 l2 c2)∧Below r wb w')
   ((refine zs2 x x2 hpr hqr ?_;first|(refine Below.mono ?_ hrb;focus ((with_reducible repeat' first|exact Below.refl _ _|assumption|refine grow_step (by assumption) ?_|refine grow_drew ?_|refine grow_alloc ?_ _|refine grow_drewN ?_ _);done))|(refine((Below.mono ?_ hrb).setCell (Nat.le_refl _) _).setCell (Nat.le_refl _) _;focus ((with_reducible repeat' first|exact Below.refl _ _|assumption|refine grow_step (by assumption) ?_|refine grow_drew ?_|refine grow_alloc ?_ _|refine grow_drewN ?_ _);done))|(refine Below.setCell (Below.setCell (((Below.mono ?_ hrb).setCell (Nat.le_refl _) _).setCell (Nat.le_refl _) _) (Nat.le_of_lt hrt) _) (Nat.le_of_lt hrt) _;focus ((with_reducible repeat' first|exact Below.refl _ _|assumption|refine grow_step (by assumption) ?_|refine grow_drew ?_|refine grow_alloc ?_ _|refine grow_drewN ?_ _);done))))
   (first|(go_at_call 105;with_reducible refine(stand_n (Cn.below hcq gw)).mono ?_;rintro e w' ⟨sq,rfl,hzq,hg⟩)|(go_at_call 105;with_reducible refine(stand_n (Cn.below hcr gw)).mono ?_;rintro e w' ⟨sr,rfl,hzr,hg⟩;have y':ZB w' r false none 0 0:=ZB.below y gw;have y0:=y'.c0;have y1:=y'.c1;have y2:=y'.f 0;have y3:=y'.f 1;have yt':ZB w' t false none 0 0:=ZB.below yt gw;have t0:=yt'.c0;have t1:=yt'.c1;have t2:=yt'.f 0;have t3:=yt'.f 1;have hzq':=Zn.below hzq hg))
  go_wp2
  rename_i hH
  have y4:=zb_fin y' sq aq lq cq
  have t4:=zb_fin (yt'.only (only2 r w' (.bool sq) (.slice aq lq cq)) (Ne.symm hrt')) sr ar lr cr
  refine bodyPost_ret (results_c2t rfl _ _ r t 38 _ _ (0,0) _ rfl rfl (y4.only (only2 t _ _ _) hrt') t4 Tryz.underlying38 rfl k_f k_f) rfl ?_
  have zq:=zb_zn (yt'.only (only2 r w' (.bool sq) (.slice aq lq cq)) (Ne.symm hrt')) (zb_zn y' hzq' sq aq lq cq) sr ar lr cr
  have zr:=zb_zn (yt'.only (only2 r w' (.bool sq) (.slice aq lq cq)) (Ne.symm hrt')) (zb_zn y' hzr sq aq lq cq) sr ar lr cr
  exact⟨sq,aq,lq,cq,sr,ar,lr,cr,_,_,by simp,zq,zr,HFD,hp.out.symm▸(b0.trans (hH.2.2.2.2.mono (Nat.le_of_lt hpr))),by omega,by omega⟩
 have hs':(s1==s2)=false:=by simp[hs]
 by_cases hz0:m%n=0
 ·obtain rfl:lr=0:=hr0.1 hz0
  have HFD:FD (sg s1 m) (sg s2 n) (sg true (m / n)) (sg s2 (m%n)):=by
   exact fd_zero hs hn0 hz0
  clear hs
  go_wp2_with fail
  go_region_held3 (fun w'=>w'.cell? ⟨p,0,none⟩=some (.bool s1)∧w'.cell? ⟨p,1,none⟩=some (.slice a1 l1 c1)∧w'.cell? ⟨q,0,none⟩=some (.bool s2)∧w'.cell? ⟨q,1,none⟩=some (.slice a2 l2 c2)∧Below r wb w')
   ((refine zs2 x x2 hpr hqr ?_;first|(refine Below.mono ?_ hrb;focus ((with_reducible repeat' first|exact Below.refl _ _|assumption|refine grow_step (by assumption) ?_|refine grow_drew ?_|refine grow_alloc ?_ _|refine grow_drewN ?_ _);done))|(refine((Below.mono ?_ hrb).setCell (Nat.le_refl _) _).setCell (Nat.le_refl _) _;focus ((with_reducible repeat' first|exact Below.refl _ _|assumption|refine grow_step (by assumption) ?_|refine grow_drew ?_|refine grow_alloc ?_ _|refine grow_drewN ?_ _);done))|(refine Below.setCell (Below.setCell (((Below.mono ?_ hrb).setCell (Nat.le_refl _) _).setCell (Nat.le_refl _) _) (Nat.le_of_lt hrt) _) (Nat.le_of_lt hrt) _;focus ((with_reducible repeat' first|exact Below.refl _ _|assumption|refine grow_step (by assumption) ?_|refine grow_drew ?_|refine grow_alloc ?_ _|refine grow_drewN ?_ _);done))))
   (first|(go_at_call 105;with_reducible refine(stand_n (Cn.below hcq gw)).mono ?_;rintro e w' ⟨sq,rfl,hzq,hg⟩)|(go_at_call 105;with_reducible refine(stand_n (Cn.below hcr gw)).mono ?_;rintro e w' ⟨sr,rfl,hzr,hg⟩;have y':ZB w' r false none 0 0:=ZB.below y gw;have y0:=y'.c0;have y1:=y'.c1;have y2:=y'.f 0;have y3:=y'.f 1;have yt':ZB w' t false none 0 0:=ZB.below yt gw;have t0:=yt'.c0;have t1:=yt'.c1;have t2:=yt'.f 0;have t3:=yt'.f 1;have hzq':=Zn.below hzq hg))
  go_wp2
  rename_i hH
  have y4:=zb_fin y' sq aq lq cq
  have t4:=zb_fin (yt'.only (only2 r w' (.bool sq) (.slice aq lq cq)) (Ne.symm hrt')) sr ar 0 cr
  refine bodyPost_ret (results_c2t rfl _ _ r t 38 _ _ (0,0) _ rfl rfl (y4.only (only2 t _ _ _) hrt') t4 Tryz.underlying38 rfl k_f k_f) rfl ?_
  have zq:=zb_zn (yt'.only (only2 r w' (.bool sq) (.slice aq lq cq)) (Ne.symm hrt')) (zb_zn y' hzq' sq aq lq cq) sr ar 0 cr
  have zr:=zb_zn (yt'.only (only2 r w' (.bool sq) (.slice aq lq cq)) (Ne.symm hrt')) (zb_zn y' hzr sq aq lq cq) sr ar 0 cr
  exact⟨sq,aq,lq,cq,sr,ar,0,cr,_,_,by simp,zq,zr,HFD,hp.out.symm▸(b0.trans (hH.2.2.2.2.mono (Nat.le_of_lt hpr))),by omega,by omega⟩
 have hlr0:0<lr:=Nat.pos_of_ne_zero (fun h=>hz0 (hr0.2 h))
 have HFD:FD (sg s1 m) (sg s2 n) (sg true (m / n+1)) (sg s2 (n-m%n)):=by
  exact fd_up hs hn0 hz0
 clear hs
 go_wp2_with fail
 refine(of_n 1 (by decide) (by decide) w1).mono ?_
 rintro e w2 ⟨ao,lo,co,rfl,hco,k2,hlo⟩
 go_wp2_with fail
 refine(add_n (hcq.below k2).nm hco.nm o_m o_m).mono ?_
 rintro e w3 ⟨aq',lq',cq',rfl,hcq',k3,hlq'⟩
 have k4:=grow_step k3 (grow_step k2 k1)
 have u3:=(x2.below k4).c1
 clear u0 u2
 go_wp2_with fail
 refine(sub_n (hn.below k4) (hcr.below (grow_step k3 k2)).nm hl2 (by have:=Int.emod_lt_of_pos m hn0;omega)).mono ?_
 rintro e w4 ⟨ar',lr',cr',rfl,hcr',k5,hlr'⟩
 replace hcq':=hcq'.below k5
 replace k5:=grow_step k5 k4
 replace hr0:=hcr'.len
 clear hcq hcr k1 k2 k3 k4 hco u3
 go_wp2_with fail
 go_region_held3 (fun w'=>w'.cell? ⟨p,0,none⟩=some (.bool s1)∧w'.cell? ⟨p,1,none⟩=some (.slice a1 l1 c1)∧w'.cell? ⟨q,0,none⟩=some (.bool s2)∧w'.cell? ⟨q,1,none⟩=some (.slice a2 l2 c2)∧Below r wb w')
  ((refine zs2 x x2 hpr hqr ?_;first|(refine Below.mono ?_ hrb;focus ((with_reducible repeat' first|exact Below.refl _ _|assumption|refine grow_step (by assumption) ?_|refine grow_drew ?_|refine grow_alloc ?_ _|refine grow_drewN ?_ _);done))|(refine((Below.mono ?_ hrb).setCell (Nat.le_refl _) _).setCell (Nat.le_refl _) _;focus ((with_reducible repeat' first|exact Below.refl _ _|assumption|refine grow_step (by assumption) ?_|refine grow_drew ?_|refine grow_alloc ?_ _|refine grow_drewN ?_ _);done))|(refine Below.setCell (Below.setCell (((Below.mono ?_ hrb).setCell (Nat.le_refl _) _).setCell (Nat.le_refl _) _) (Nat.le_of_lt hrt) _) (Nat.le_of_lt hrt) _;focus ((with_reducible repeat' first|exact Below.refl _ _|assumption|refine grow_step (by assumption) ?_|refine grow_drew ?_|refine grow_alloc ?_ _|refine grow_drewN ?_ _);done))))
  (first|(go_at_call 105;with_reducible refine(stand_n (Cn.below hcq' gw)).mono ?_;rintro e w' ⟨sq,rfl,hzq,hg⟩)|(go_at_call 105;with_reducible refine(stand_n (Cn.below hcr' gw)).mono ?_;rintro e w' ⟨sr,rfl,hzr,hg⟩;have y':ZB w' r false none 0 0:=ZB.below y gw;have y0:=y'.c0;have y1:=y'.c1;have y2:=y'.f 0;have y3:=y'.f 1;have yt':ZB w' t false none 0 0:=ZB.below yt gw;have t0:=yt'.c0;have t1:=yt'.c1;have t2:=yt'.f 0;have t3:=yt'.f 1;have hzq':=Zn.below hzq hg))
 go_wp2
 rename_i hH
 have y4:=zb_fin y' sq aq' lq' cq'
 have t4:=zb_fin (yt'.only (only2 r w' (.bool sq) (.slice aq' lq' cq')) (Ne.symm hrt')) sr ar' lr' cr'
 refine bodyPost_ret (results_c2t rfl _ _ r t 38 _ _ (0,0) _ rfl rfl (y4.only (only2 t _ _ _) hrt') t4 Tryz.underlying38 rfl k_f k_f) rfl ?_
 have zq:=zb_zn (yt'.only (only2 r w' (.bool sq) (.slice aq' lq' cq')) (Ne.symm hrt')) (zb_zn y' hzq' sq aq' lq' cq') sr ar' lr' cr'
 have zr:=zb_zn (yt'.only (only2 r w' (.bool sq) (.slice aq' lq' cq')) (Ne.symm hrt')) (zb_zn y' hzr sq aq' lq' cq') sr ar' lr' cr'
 exact⟨sq,aq',lq',cq',sr,ar',lr',cr',_,_,by simp,zq,zr,HFD,hp.out.symm▸(b0.trans (hH.2.2.2.2.mono (Nat.le_of_lt hpr))),by omega,by omega⟩

end Go.Proofs.YtaafoppaepcaeaaGreat
