/-
 Several texts in one: Z4,Z5,Z6,Z7,Z8,ZF2,Z9.
-/
import Derived.Test.YtaafoppaepcaeaaGreatCd07
import Derived.Test.YtaafoppaepcaeaaGreatCd08
import Derived.Laws.MathBits
import Derived.Deep.LoopGhost
set_option maxRecDepth 100000
set_option maxHeartbeats 1600000
namespace Go.Proofs.YtaafoppaepcaeaaGreat
open Go.RowKit

variable {a a1 a2:Option Addr}{l c l1 c1 l2 c2 b off cap:Nat}{n m z z1 z2:Int}{w:World}{s s1 s2:Bool}
theorem trim_n (h:Nm w a l c n)(hl:l≤1099511627776):
  Calls Tryz.prog 114 #[.slice a l c] w fun e w'=> ∃ad len cap,e= .returned (.slice ad len cap)∧Cn w' ad len cap n∧Below w.heap.size w w'∧len≤l:=by
 obtain⟨xs,h1,rfl⟩:=h
 refine(trim_any h1 o_m).mono ?_
 rintro e w' ⟨rfl,ho,-⟩
 exact⟨_,_,_,rfl,out_cn ho (canon_trim h1.2.2.2.1) (val_trim xs),ho.1,tl_le _ _⟩
theorem rcmp_n (h1:Nm w a1 l1 c1 m)(h2:Nm w a2 l2 c2 n):
  Calls Tryz.prog 94 #[.slice a1 l1 c1,.slice a2 l2 c2] w fun e w'=>e= .returned (.int .i64 (cmpI m n))∧Below w.heap.size w w':=by
 obtain⟨xs,h1,rfl⟩:=h1
 obtain⟨ys,h2,rfl⟩:=h2
 refine(refcmp_any h1 h2).mono ?_
 rintro e w' ⟨rfl,rfl⟩
 exact⟨rfl,Below.refl _ _⟩

theorem zn_same {w':World}{s':Bool}{a':Option Addr}{l' c':Nat}(h:Zn w s a l c z)(h':Zn w' s' a' l' c' z):s=s'∧l=l':=by
 obtain⟨n,hc,e,hs⟩:=h
 obtain⟨n',hc',e',hs'⟩:=h'
 have h0:=hc.nm.nonneg
 have h0':=hc'.nm.nonneg
 have hn:s=s'∧n=n':=by
  cases s <;> cases s' <;> simp[sg]at e e' hs hs' ⊢ <;> omega
 obtain⟨rfl,rfl⟩:=hn
 obtain⟨zs,r1,r2,r3⟩:=hc
 obtain⟨ys,q1,q2,q3⟩:=hc'
 obtain rfl:=canon_inj r2 q2 (r3.trans q3.symm)
 exact⟨rfl,r1.1.symm.trans q1.1⟩

theorem zn_stand (h:Cn w a l c n):Zn w (s&&decide (0<l)) a l c (sg s n):=by
 have hn:=h.len
 refine⟨n,h,?_,?_⟩
 ·cases s
  ·rfl
  by_cases h0:0<l
  ·simp[h0]
  have:n=0:=hn.2 o_m
  simp[sg,this]
 cases s
 ·intro h;cases h
 intro h h1
 have h0:0<l:=of_decide_eq_true (by simpa using h)
 have:=hn.1 h1;omega

theorem rnorm_n (h:Zm w s a l c z)(hl:l≤1099511627776):
  Calls Tryz.prog 67 #[.agg #[.bool s,.slice a l c]] w fun e w'=> ∃s' ad len cap,e= .returned (.agg #[.bool s',.slice ad len cap])∧Zn w' s' ad len cap z∧Below w.heap.size w w'∧len≤l:=by
 obtain⟨n,hn,rfl⟩:=h
 go_enter Tryz.func67,Tryz.ntmps67
 go_wp2_with fail
 have x:=(zb_new w s a l c).below (below_alloc _ (.cells #[.bool false,.slice none 0 0] 38))
 have y:=zb_new (w.alloc (.cells #[.bool s,.slice a l c] 38)) false none 0 0
 have b0:Below w.heap.size w ((w.alloc (.cells #[.bool s,.slice a l c] 38)).alloc (.cells #[.bool false,.slice none 0 0] 38)):=below_alloc' (below_alloc _ _) _
 rw[show(w.alloc (.cells #[.bool s,.slice a l c] 38)).heap.size=w.heap.size+1 from by simp]at y
 generalize (w.alloc (.cells #[.bool s,.slice a l c] 38)).alloc (.cells #[.bool false,.slice none 0 0] 38)=wb at*
 have hpr:w.heap.size<w.heap.size+1:=by omega
 replace hn:=hn.below b0
 generalize hp:w.heap.size=p at*
 replace hp:=hide hp
 generalize p+1=r at*
 have hrb:=Nat.le_of_lt y.lt
 refine(trim_n hn hl).mono ?_
 rintro e w' ⟨ad,len,cap,rfl,hc,hg,hl'⟩
 have y':ZB w' r false none 0 0:=ZB.below y gw;have y0:=y'.c0;have y1:=y'.c1;have y2:=y'.f 0;have y3:=y'.f 1
 have u0:=(x.below hg).c0
 have hB:Below p w w':=b0.trans (hg.mono (Nat.le_of_lt (Nat.lt_of_lt_of_le hpr hrb)))
 have hz:=zn_stand (s:=s) hc
 cases s
 ·generalize hs':(false&&decide (0<len))=s' at hz
  simp at hs'
  subst hs'
  go_wp2
  refine bodyPost_ret (results_cell_row rfl _ _ r 38 _ (0,0) _ rfl (zb_fin y' false ad len cap) Tryz.underlying38 rfl k_f) rfl ?_
  exact⟨false,ad,len,cap,by simp,zb_zn y' hz _ _ _ _,hp.out.symm▸(hB.setCell (Nat.le_of_lt hpr) _).setCell (Nat.le_of_lt hpr) _,hl'⟩
 rw[Bool.true_and]at hz
 go_wp2
 refine bodyPost_ret (results_cell_row rfl _ _ r 38 _ (0,0) _ rfl (zb_fin y' (decide (0<len)) ad len cap) Tryz.underlying38 rfl k_f) rfl ?_
 exact⟨_,ad,len,cap,by simp,zb_zn y' hz _ _ _ _,hp.out.symm▸(hB.setCell (Nat.le_of_lt hpr) _).setCell (Nat.le_of_lt hpr) _,hl'⟩

theorem rsign_n (h:Zm w s a l c z)(hl:l≤1099511627776):
  Calls Tryz.prog 90 #[.agg #[.bool s,.slice a l c]] w fun e w'=>e= .returned (.int .i64 (cmpI z 0))∧Below w.heap.size w w':=by
 go_enter Tryz.func90,Tryz.ntmps90
 go_wp2_with fail
 have x:=zb_new w s a l c
 have b0:=below_alloc w (.cells #[.bool s,.slice a l c] 38)
 have hn:=h.below b0
 generalize w.alloc (.cells #[.bool s,.slice a l c] 38)=wb at*
 generalize hp:w.heap.size=p at*
 replace hp:=hide hp
 refine(rnorm_n hn hl).mono ?_
 rintro e w1 ⟨s',ad,len,cap,rfl,hz,k1,-⟩
 obtain⟨n,hc,hv,hs⟩:=hz
 have h0:=hc.nm.nonneg
 have hlen:=hc.len
 have hB:Below p w w1:=b0.trans (k1.mono (Nat.le_of_lt x.lt))
 have hB':p≤w1.heap.size:=Nat.le_trans (Nat.le_of_lt x.lt) k1.size
 by_cases hn0:n=0
 ·have hlen0:len=0:=hlen.1 hn0
  subst hlen0
  go_wp2
  go_ret
  exact⟨ret_int (by rw[hv,hn0,cmpI_eq (by cases s' <;> simp[sg])]),hp.out.symm▸hB.alloc hB' _⟩
 have hlen0:0<len:=Nat.pos_of_ne_zero (fun h=>hn0 (hlen.2 h))
 cases s'
 ·go_wp2
  go_ret
  exact⟨ret_int (by rw[hv,cmpI_gt (by simp[sg];omega)]),hp.out.symm▸hB.alloc hB' _⟩
 go_wp2
 go_ret
 exact⟨ret_int (by rw[hv,cmpI_lt (by simp[sg];omega)]),hp.out.symm▸hB.alloc hB' _⟩

theorem cmp_both_neg' {v:Int}(h0:0≤m)(h0':0≤n)(h1:cmpI (sg s1 m) 0=v)(h2:cmpI (sg s2 n) 0=v)(hv:v<0): -cmpI m n=cmpI (sg s1 m) (sg s2 n):=by
 unfold cmpI at*
 cases s1 <;> cases s2 <;> simp only[sg,if_true,if_false,Bool.false_eq_true]at* <;> omega

theorem rcmp2_n (h1:Zm w s1 a1 l1 c1 z1)(h2:Zm w s2 a2 l2 c2 z2)(hl1:l1≤1099511627776)(hl2:l2≤1099511627776):
  Calls Tryz.prog 99 #[.agg #[.bool s1,.slice a1 l1 c1],.agg #[.bool s2,.slice a2 l2 c2]] w fun e w'=>e= .returned (.int .i64 (cmpI z1 z2))∧Below w.heap.size w w':=by
 obtain⟨m,hm,rfl⟩:=h1
 obtain⟨n,hn,rfl⟩:=h2
 have h0:=hm.nonneg
 have h0':=hn.nonneg
 go_enter Tryz.func99,Tryz.ntmps99
 go_wp2_with fail
 have x:=(zb_new w s1 a1 l1 c1).below (below_alloc _ (.cells #[.bool s2,.slice a2 l2 c2] 38))
 have x2:=zb_new (w.alloc (.cells #[.bool s1,.slice a1 l1 c1] 38)) s2 a2 l2 c2
 have b0:Below w.heap.size w ((w.alloc (.cells #[.bool s1,.slice a1 l1 c1] 38)).alloc (.cells #[.bool s2,.slice a2 l2 c2] 38)):=below_alloc' (below_alloc _ _) _
 rw[show(w.alloc (.cells #[.bool s1,.slice a1 l1 c1] 38)).heap.size=w.heap.size+1 from by simp]at x2
 replace hm:=hm.below b0
 replace hn:=hn.below b0
 generalize (w.alloc (.cells #[.bool s1,.slice a1 l1 c1] 38)).alloc (.cells #[.bool s2,.slice a2 l2 c2] 38)=wb at*
 generalize hp:w.heap.size=p at*
 replace hp:=hide hp
 generalize p+1=q at*
 have hpb:=Nat.le_of_lt x.lt
 refine(rsign_n ⟨m,hm,rfl⟩ hl1).mono ?_
 rintro e w1 ⟨rfl,k1⟩
 have u2:=(x2.below k1).c0
 have u3:=(x2.below k1).c1
 go_wp2_with fail
 refine(rsign_n ⟨n,hn.below k1,rfl⟩ hl2).mono ?_
 rintro e w2 ⟨rfl,k2⟩
 replace k2:=grow_step k2 k1
 clear u2 u3 k1
 have u1:=(x.below k2).c1
 have u3:=(x2.below k2).c1
 replace hm:=hm.below k2
 replace hn:=hn.below k2
 replace b0:Below p w w2:=b0.trans (k2.mono hpb)
 have hc1:=cmpI_sg (sg s1 m)
 have hc2:=cmpI_sg (sg s2 n)
 have HA:=fun hv=>hide (cmp_apart (a:=sg s1 m) (b:=sg s2 n) rfl rfl hv)
 generalize hv1:cmpI (sg s1 m) 0=v1 at*
 generalize hv2:cmpI (sg s2 n) 0=v2 at*
 replace hv1:=hide hv1
 replace hv2:=hide hv2
 by_cases he:v1=v2
 ·subst he
  have hcb: -1≤cmpI m n∧cmpI m n≤1:=by unfold cmpI;split <;> (try split) <;> decide
  by_cases hneg:v1<0
  ·go_wp2_with fail
   refine(rcmp_n hm hn).mono ?_
   rintro e w4 ⟨rfl,k4⟩
   have HE:=hide (cmp_both_neg' h0 h0' (unhide hv1) (unhide hv2) hneg)
   generalize cmpI m n=cc at*
   go_wp2
   go_ret
   exact⟨ret_int (unhide HE),hp.out.symm▸b0.trans (k4.mono (Nat.le_trans hpb k2.size))⟩
  go_wp2_with fail
  refine(rcmp_n hm hn).mono ?_
  rintro e w4 ⟨rfl,k4⟩
  go_wp2
  go_ret
  exact⟨ret_int (cmp_both_pos h0 h0' (unhide hv1) (unhide hv2) o_m),hp.out.symm▸b0.trans (k4.mono (Nat.le_trans hpb k2.size))⟩
 have e2:=HA he
 clear HA
 by_cases h12:v1<v2
 ·rw[cmpI_lt h12]at e2
  go_wp2
  go_ret
  exact⟨ret_int (unhide e2),hp.out.symm▸b0⟩
 rw[cmpI_gt o_m]at e2
 go_wp2
 go_ret
 exact⟨ret_int (unhide e2),hp.out.symm▸b0⟩

theorem nm_lit2 (w:World)(lo hi:Int)(h0:0≤lo)(h1:lo<4294967296)(h2:0≤hi)(h3:hi<4294967296):
  Nm (w.alloc (.cells #[.int .u32 lo,.int .u32 hi] 60)) (some ⟨w.heap.size,0,none⟩) 2 2 (lo+hi*4294967296):=by
 have hl:Limbs [lo,hi]:=fun z hz=>by
  simp at hz
  rcases hz with rfl|rfl
  ·exact⟨h0,h1⟩
  exact⟨h2,h3⟩
 have h:=(row_alloc w [lo,hi]).rd hl (off:=0) (len:=2) (cap:=2) (by simp) (Nat.le_refl _) (by decide)
 refine⟨[lo,hi],h,?_⟩
 simp[val,vl,lz,pw]

theorem rof_n (n:Int)(h0: -9223372036854775808≤n)(h1:n≤9223372036854775807)(w:World):
  Calls Tryz.prog 33 #[.int .i64 n] w fun e w'=> ∃s' ad len cap,e= .returned (.agg #[.bool s',.slice ad len cap])∧Zn w' s' ad len cap n∧Below w.heap.size w w'∧len≤2:=by
 go_enter Tryz.func33,Tryz.ntmps33
 by_cases hn:n<0
 ·go_wp2_with fail
  rw[Go.and_low32 (-(n+1)+1) o_m o_m]
  have hN:=nm_lit2 (w.alloc (.cells #[.bool false,.slice none 0 0] 38)) ((-(n+1)+1)%4294967296%4294967296) ((-(n+1)+1) / 4294967296) o_m o_m o_m o_m
  have y:=(zb_new w false none 0 0).below (below_alloc _ (.cells #[.int .u32 ((-(n+1)+1)%4294967296%4294967296),.int .u32 ((-(n+1)+1) / 4294967296)] 60))
  have b0:Below w.heap.size w ((w.alloc (.cells #[.bool false,.slice none 0 0] 38)).alloc (.cells #[.int .u32 ((-(n+1)+1)%4294967296%4294967296),.int .u32 ((-(n+1)+1) / 4294967296)] 60)):=below_alloc' (below_alloc _ _) _
  rw[show(w.alloc (.cells #[.bool false,.slice none 0 0] 38)).heap.size=w.heap.size+1 from by simp]at hN
  generalize (w.alloc (.cells #[.bool false,.slice none 0 0] 38)).alloc (.cells #[.int .u32 ((-(n+1)+1)%4294967296%4294967296),.int .u32 ((-(n+1)+1) / 4294967296)] 60)=wb at*
  have e1:(-(n+1)+1)%4294967296%4294967296+(-(n+1)+1) / 4294967296*4294967296=(-(n+1)+1):=by omega
  rw[e1]at hN
  clear e1
  generalize hp:w.heap.size=r at*
  replace hp:=hide hp
  refine(rnorm_n ⟨_,hN,rfl⟩ (by decide)).mono ?_
  rintro e w' ⟨s',ad,len,cap,rfl,hz,hg,hl'⟩
  have y':ZB w' r false none 0 0:=ZB.below y gw;have y0:=y'.c0;have y1:=y'.c1;have y2:=y'.f 0;have y3:=y'.f 1
  have hB:Below r w w':=b0.trans (hg.mono (Nat.le_of_lt y.lt))
  go_wp2
  refine bodyPost_ret (results_cell_row rfl _ _ r 38 _ (0,0) _ rfl (zb_fin y' s' ad len cap) Tryz.underlying38 rfl k_f) rfl ?_
  rw[show sg true (-(n+1)+1)=n from by show -(-(n+1)+1)=n;omega]at hz
  exact⟨s',ad,len,cap,by simp,zb_zn y' hz _ _ _ _,hp.out.symm▸(hB.setCell (Nat.le_refl _) _).setCell (Nat.le_refl _) _,hl'⟩
 go_wp2_with fail
 rw[Go.and_low32 n o_m o_m]
 have hN:=nm_lit2 (w.alloc (.cells #[.bool false,.slice none 0 0] 38)) (n%4294967296%4294967296) (n / 4294967296) o_m o_m o_m o_m
 have y:=(zb_new w false none 0 0).below (below_alloc _ (.cells #[.int .u32 (n%4294967296%4294967296),.int .u32 (n / 4294967296)] 60))
 have b0:Below w.heap.size w ((w.alloc (.cells #[.bool false,.slice none 0 0] 38)).alloc (.cells #[.int .u32 (n%4294967296%4294967296),.int .u32 (n / 4294967296)] 60)):=below_alloc' (below_alloc _ _) _
 rw[show(w.alloc (.cells #[.bool false,.slice none 0 0] 38)).heap.size=w.heap.size+1 from by simp]at hN
 generalize (w.alloc (.cells #[.bool false,.slice none 0 0] 38)).alloc (.cells #[.int .u32 (n%4294967296%4294967296),.int .u32 (n / 4294967296)] 60)=wb at*
 have e1:n%4294967296%4294967296+n / 4294967296*4294967296=n:=by omega
 rw[e1]at hN
 clear e1
 generalize hp:w.heap.size=r at*
 replace hp:=hide hp
 refine(rnorm_n ⟨_,hN,rfl⟩ (by decide)).mono ?_
 rintro e w' ⟨s',ad,len,cap,rfl,hz,hg,hl'⟩
 have y':ZB w' r false none 0 0:=ZB.below y gw;have y0:=y'.c0;have y1:=y'.c1;have y2:=y'.f 0;have y3:=y'.f 1
 have hB:Below r w w':=b0.trans (hg.mono (Nat.le_of_lt y.lt))
 go_wp2
 refine bodyPost_ret (results_cell_row rfl _ _ r 38 _ (0,0) _ rfl (zb_fin y' s' ad len cap) Tryz.underlying38 rfl k_f) rfl ?_
 rw[show sg false n=n from rfl]at hz
 exact⟨s',ad,len,cap,by simp,zb_zn y' hz _ _ _ _,hp.out.symm▸(hB.setCell (Nat.le_refl _) _).setCell (Nat.le_refl _) _,hl'⟩


theorem results_ct {P:Program}{fn:Func}{p1 t3:Tmp}{ty:TypeId}(h:fn.results= #[.cell p1 ty,.tmp t3])(tmps:Array Value)(w:World)(g1:Nat)(t:TypeId)(cs1:Array Value)(fr:Nat × Nat)(d:TypeDesc)
  (hp1:tmps.getD p1 undef= .pointer (some ⟨g1,0,none⟩))(hg1:w.heap[g1]? =some (.cells cs1 t fr))
  (hu:P.underlying ty=some d)(hd:(match d with| .struct _| .array _ _=>true|_=>false)=true)(hi1:(P.info? ty).map (·.size)=some cs1.size):
  (results fn tmps).run P w= .ok (.tuple #[.agg cs1,tmps.getD t3 undef]) w:=by
 have hp1':tmps[p1]?.getD undef= .pointer (some ⟨g1,0,none⟩):=by simpa using hp1
 simp[results,h,hp1',asAddr,run_loadVar_row w g1 t ty cs1 fr d hg1 hu hd hi1]



theorem cmpI_bd (m n:Int): -1≤cmpI m n∧cmpI m n≤1:=by unfold cmpI;omega
theorem zcmp_0 (h1:Zm w s1 a1 l1 c1 z1)(h2:Zm w s2 a2 l2 c2 z2)(hl1:l1≤1099511627776)(hl2:l2≤1099511627776)(he:z1=z2):
  Calls Tryz.prog 71 #[.agg #[.bool s1,.slice a1 l1 c1],.agg #[.bool s2,.slice a2 l2 c2]] w fun e w'=>e= .returned (.int .i64 0)∧Below w.heap.size w w':=by
 refine(zcmp_n h1 h2 hl1 hl2).mono ?_
 rintro e w' ⟨rfl,hb⟩
 exact⟨ret_int (cmpI_eq he),hb⟩
theorem zcmp_lt (h1:Zm w s1 a1 l1 c1 z1)(h2:Zm w s2 a2 l2 c2 z2)(hl1:l1≤1099511627776)(hl2:l2≤1099511627776)(he:z1<z2):
  Calls Tryz.prog 71 #[.agg #[.bool s1,.slice a1 l1 c1],.agg #[.bool s2,.slice a2 l2 c2]] w fun e w'=>e= .returned (.int .i64 (-1))∧Below w.heap.size w w':=by
 refine(zcmp_n h1 h2 hl1 hl2).mono ?_
 rintro e w' ⟨rfl,hb⟩
 exact⟨ret_int (cmpI_lt he),hb⟩

theorem cmpI_ne {b:Int}(hb:b≠0):cmpI b 0≠0:=by unfold cmpI;omega


structure ZL (w:World) (b off n:Nat) (S:Nat→Bool) (A:Nat→Option Addr) (L C:Nat→Nat) (M:Nat→Int):Prop where
 lt:b<w.heap.size
 c0: ∀i,i<n→w.cell? ⟨b,off+i*2,none⟩=some (.bool (S i))
 c1: ∀i,i<n→w.cell? ⟨b,off+i*2+1,none⟩=some (.slice (A i) (L i) (C i))
 nm: ∀i,i<n→Nm w (A i) (L i) (C i) (M i)
 le: ∀i,i<n→L i≤4294967296
theorem ZL.below {w':World}{n:Nat}{S:Nat→Bool}{A:Nat→Option Addr}{L C:Nat→Nat}{M:Nat→Int}(h:ZL w b off n S A L C M)(hb:Below w.heap.size w w'):ZL w' b off n S A L C M:=
 ⟨Nat.lt_of_lt_of_le h.lt hb.size,fun i hi=>(hb.cell (p:=⟨b,off+i*2,none⟩) h.lt).trans (h.c0 i hi),fun i hi=>(hb.cell (p:=⟨b,off+i*2+1,none⟩) h.lt).trans (h.c1 i hi),fun i hi=>(h.nm i hi).below hb,h.le⟩

def fold (op:Int→Int→Int)(g:Int)(M:Nat→Int):Nat→Int
 |0=>g
 |n+1=>op (fold op g M n) (M n)
def foldL (l:Nat)(L:Nat→Nat):Nat→Nat
 |0=>l
 |n+1=>foldL l L n+L n

theorem foldL_mono {l':Nat}(h:l≤l')(L:Nat→Nat)(n:Nat):foldL l L n≤foldL l' L n:=by
 induction n with
 |zero=>exact h
 |succ n ih=>exact Nat.add_le_add_right ih _

theorem fold1_Lcm {n pN pJ:Nat}{S:Nat→Bool}{A:Nat→Option Addr}{L C:Nat→Nat}{M:Nat→Int}{a0:Option Addr}{l0 c0:Nat}{g:Int}
  (hl:ZL w b off n S A L C M)(hb:foldL l0 L n≤1099511627776)(h0:Cn w a0 l0 c0 g)
  (hN:w.heap[pN]? =some (.cells #[.slice a0 l0 c0] 36 (0,0)))(hj:w.cell? ⟨pJ,0,none⟩=some (.func (.func 135) #[] #[]))(hjl:pJ<w.heap.size)(hn:n≤1099511627776):
  Calls Tryz.prog 151 #[.slice (some ⟨b,off,none⟩) n cap,.pointer (some ⟨pN,0,none⟩),.pointer (some ⟨pJ,0,none⟩)] w fun e w'=> ∃s' ad len cap,e= .returned (.agg #[.bool s',.slice ad len cap])∧Zn w' s' ad len cap (fold lcmI g M n)∧Below w.heap.size w w'∧len≤foldL l0 L n:=by
 have hNc:w.cell? ⟨pN,0,none⟩=some (.slice a0 l0 c0):=cell_of_row w pN 0 _ _ (0,0) hN
 have hNl:pN<w.heap.size:=World.block_lt_of_cell? w ⟨pN,0,none⟩ hNc
 go_enter Tryz.func151,Tryz.ntmps151
 go_wp2_with fail
 have y:=zb_new w false none 0 0
 have b0:=below_alloc w (.cells #[.bool false,.slice none 0 0] 38)
 replace hl:=hl.below b0
 replace h0:=h0.below b0
 replace hj:=(b0.cell (p:=⟨pJ,0,none⟩) hjl).trans hj
 clear hNc hNl hN
 replace hjl:pJ<(w.alloc (.cells #[.bool false,.slice none 0 0] 38)).heap.size:=Nat.lt_of_lt_of_le hjl b0.size
 generalize w.alloc (.cells #[.bool false,.slice none 0 0] 38)=wb at*
 generalize hp:w.heap.size=r at*
 replace hp:=hide hp
 have hmono: ∀k,k<n→foldL l0 L k+L k≤foldL l0 L n:=by
  intro k hk
  have key: ∀d,foldL l0 L (k+1)≤foldL l0 L (k+1+d):=by
   intro d
   induction d with
   |zero=>exact Nat.le_refl _
   |succ d ih=>exact Nat.le_trans ih (Nat.le_add_right _ _)
  have:=key (n-(k+1))
  rw[show k+1+(n-(k+1))=n from by omega]at this
  exact this
 replace hmono:=hide hmono
 go_loopw [5,11] (fun t i wr=> ∃(k:Nat) (at':Option Addr) (lt ct:Nat),k≤n∧i= .int .i64 k∧t= .slice at' lt ct∧Cn wr at' lt ct (fold lcmI g M k)∧lt≤foldL l0 L k∧Below wb.heap.size wb wr) (fun _ i _=>n-(intOf i).toNat)
 case atStart=>exact⟨0,a0,l0,c0,Nat.zero_le _,rfl,rfl,h0,Nat.le_refl _,Below.refl _ _⟩
 case round=>
  obtain⟨k,at',lt,ct,hk,rfl,rfl,hct,hlt,kr⟩:=hrel
  by_cases hkN:k<n
  ·have q:=hl.below kr
   have e0:=q.c0 k hkN
   have e1:=q.c1 k hkN
   have ej:=(kr.cell (p:=⟨pJ,0,none⟩) hjl).trans hj
   have hnm:=q.nm k hkN
   have hle:=hl.le k hkN
   have hmk:=unhide hmono k hkN
   have hlb:=q.lt
   have hjr:pJ<wr.heap.size:=Nat.lt_of_lt_of_le hjl kr.size
   have ka:=below_alloc wr (.cells #[.bool (S k),.slice (A k) (L k) (C k)] 38)
   go_wp2_with fail
   refine(lcm_n (hct.below ka).nm (hnm.below ka) o_m o_m).mono ?_
   rintro e w2 ⟨ad,len,cap',rfl,hc2,k2,hl2⟩
   go_wp2_with fail
   exact⟨⟨k+1,ad,len,cap',by omega,by go_num,rfl,hc2,by show len≤foldL l0 L k+L k;omega,grow_step k2 (grow_step ka kr)⟩,by simp[intOf];omega⟩
  obtain rfl:k=n:=by omega
  go_wp2_with fail
  refine(stand_n hct).mono ?_
  rintro e w' ⟨s',rfl,hz,hg⟩
  have y':ZB w' r false none 0 0:=ZB.below y (grow_step hg kr)
  have y0:=y'.c0
  have y1:=y'.c1
  have y2:=y'.f 0
  have y3:=y'.f 1
  have hB:Below r w w':=b0.trans ((grow_step hg kr).mono (Nat.le_of_lt y.lt))
  go_wp2
  refine bodyPost_ret (results_cell_row rfl _ _ r 38 _ (0,0) _ rfl (zb_fin y' s' at' lt ct) Tryz.underlying38 rfl k_f) rfl ?_
  exact⟨s',at',lt,ct,by simp,zb_zn y' hz _ _ _ _,hp.out.symm▸(hB.setCell (Nat.le_refl _) _).setCell (Nat.le_refl _) _,hlt⟩

theorem folded_Lcm {ad:Option Addr}{len:Nat}:
  Calls Tryz.prog 134 #[.slice ad len cap,.func (.func 135) #[] #[]] w fun e w'=> ∃pN pJ,e= .returned (.func (.func 151) #[] #[.pointer (some ⟨pN,0,none⟩),.pointer (some ⟨pJ,0,none⟩)])∧w'.heap[pN]? =some (.cells #[.slice ad len cap] 36 (0,0))∧w'.cell? ⟨pJ,0,none⟩=some (.func (.func 135) #[] #[])∧pJ<w'.heap.size∧Below w.heap.size w w':=by
 go_enter Tryz.func134,Tryz.ntmps134
 go_wp2
 go_ret
 refine⟨w.heap.size,w.heap.size+1,rfl,?_,?_,by simp,below_alloc' (below_alloc _ _) _⟩
 ·rw[Below.heap_alloc _ _ _ (by simp)]
  exact heap_alloc_new w _
 simp

theorem zlcm_any {n:Nat}{S:Nat→Bool}{A:Nat→Option Addr}{L C:Nat→Nat}{M:Nat→Int}(hl:ZL w b off n S A L C M)(hb:foldL 2 L n≤1099511627776)(hn:n≤1099511627776):
  Calls Tryz.prog 102 #[.slice (some ⟨b,off,none⟩) n cap] w fun e w'=> ∃s' ad len cap,e= .returned (.agg #[.bool s',.slice ad len cap])∧Zn w' s' ad len cap (fold lcmI 1 M n)∧Below w.heap.size w w'∧len≤foldL 2 L n:=by
 go_enter Tryz.func102,Tryz.ntmps102
 go_wp2_with fail
 have y:=zb_new w false none 0 0
 have b0:=below_alloc w (.cells #[.bool false,.slice none 0 0] 38)
 replace hl:=hl.below b0
 generalize w.alloc (.cells #[.bool false,.slice none 0 0] 38)=wb at*
 generalize hp:w.heap.size=r at*
 replace hp:=hide hp
 refine(of_n 1 (by decide) (by decide) _).mono ?_
 rintro e w1 ⟨a0,l0,c0,rfl,hc,k1,hl0⟩
 go_wp2_with fail
 refine(folded_Lcm (ad:=a0) (len:=l0) (cap:=c0)).mono ?_
 rintro e w2 ⟨pN,pJ,rfl,hN,hj,hjl,k2⟩
 go_wp2_with fail
 have hm:foldL l0 L n≤foldL 2 L n:=foldL_mono hl0 L n
 refine(fold1_Lcm (hl.below (grow_step k2 k1)) o_m (hc.below k2) hN hj hjl hn).mono ?_
 rintro e w' ⟨s',ad,len,cap',rfl,hz,hg,hl'⟩
 have y':ZB w' r false none 0 0:=ZB.below y (grow_step hg (grow_step k2 k1))
 have y0:=y'.c0
 have y1:=y'.c1
 have y2:=y'.f 0
 have y3:=y'.f 1
 have hB:Below r w w':=b0.trans ((grow_step hg (grow_step k2 k1)).mono (Nat.le_of_lt y.lt))
 go_wp2
 refine bodyPost_ret (results_cell_row rfl _ _ r 38 _ (0,0) _ rfl (zb_fin y' s' ad len cap') Tryz.underlying38 rfl k_f) rfl ?_
 exact⟨s',ad,len,cap',by simp,zb_zn y' hz _ _ _ _,hp.out.symm▸(hB.setCell (Nat.le_refl _) _).setCell (Nat.le_refl _) _,by omega⟩

theorem zl_two (hm:Nm w a1 l1 c1 m)(hn:Nm w a2 l2 c2 n)(h1:l1≤4294967296)(h2:l2≤4294967296):
  ZL (w.alloc (.cells #[.bool s1,.slice a1 l1 c1,.bool s2,.slice a2 l2 c2] 38)) w.heap.size 0 2 (fun i=>if i=0 then s1 else s2) (fun i=>if i=0 then a1 else a2) (fun i=>if i=0 then l1 else l2) (fun i=>if i=0 then c1 else c2) (fun i=>if i=0 then m else n):=by
 have hg:=heap_alloc_new w (.cells #[.bool s1,.slice a1 l1 c1,.bool s2,.slice a2 l2 c2] 38)
 have two: ∀{p:Nat→Prop},p 0→p 1→∀i,i<2→p i:=by
  intro p h0 h1 i hi
  match i,hi with
  |0,_=>exact h0
  |1,_=>exact h1
 refine⟨by simp,two ?_ ?_,two ?_ ?_,two ?_ ?_,two ?_ ?_⟩
 ·exact cell_of_row _ w.heap.size 0 _ _ (0,0) hg
 ·exact cell_of_row _ w.heap.size 2 _ _ (0,0) hg
 ·exact cell_of_row _ w.heap.size 1 _ _ (0,0) hg
 ·exact cell_of_row _ w.heap.size 3 _ _ (0,0) hg
 ·exact hm.below (below_alloc _ _)
 ·exact hn.below (below_alloc _ _)
 ·exact h1
 exact h2

theorem sg_natAbs (h:0≤n):n=((sg s n).natAbs:Int):=by cases s <;> simp[sg] <;> omega
theorem gcdI_one (m:Int):gcdI 1 m=1:=by unfold gcdI;simp
theorem lcmI_one (m:Int):lcmI 1 m=m:=by unfold lcmI;rw[gcdI_one];simp

theorem zlcm2 (h1:Zm w s1 a1 l1 c1 z1)(h2:Zm w s2 a2 l2 c2 z2)(hl1:l1≤4294967296)(hl2:l2≤4294967296):
  Calls Tryz.prog 102 #[.slice (some ⟨w.heap.size,0,none⟩) 2 2] (w.alloc (.cells #[.bool s1,.slice a1 l1 c1,.bool s2,.slice a2 l2 c2] 38)) fun e w'=> ∃s' ad len cap,e= .returned (.agg #[.bool s',.slice ad len cap])∧Zn w' s' ad len cap (lcmI z1.natAbs z2.natAbs)∧Below w.heap.size w w'∧len≤l1+l2+2:=by
 obtain⟨m,hm,rfl⟩:=h1
 obtain⟨n,hn,rfl⟩:=h2
 have e1:=sg_natAbs (s:=s1) hm.nonneg
 have e2:=sg_natAbs (s:=s2) hn.nonneg
 refine(zlcm_any (zl_two hm hn hl1 hl2) (by simp[foldL];omega) (by decide)).mono ?_
 rintro e w' ⟨s',ad,len,cap,rfl,hz,hb,hl⟩
 refine⟨s',ad,len,cap,rfl,?_,(below_alloc _ _).trans (hb.mono (below_alloc _ _).size),by simp[foldL]at hl;omega⟩
 rw[←e1,←e2]
 have:fold lcmI 1 (fun i=>if i=0 then m else n) 2=lcmI m n:=by simp[fold,lcmI_one]
 rwa [this]at hz

end Go.Proofs.YtaafoppaepcaeaaGreat

namespace Go.Proofs.YtaafoppaepcaeaaGreat.Fresh
open Go.RowKit

theorem Zn.below {B:Nat}{w w':World}{s:Bool}{ad:Option Addr}{len cap:Nat}{z:Int}(h:Zn B w s ad len cap z)(hb:Below w.heap.size w w'):Zn B w' s ad len cap z:=by
 obtain⟨n,h1,h2⟩:=h
 exact⟨n,h1.below hb,h2⟩
end Go.Proofs.YtaafoppaepcaeaaGreat.Fresh

namespace Go.Proofs.YtaafoppaepcaeaaGreat
open Go.RowKit

variable {s s1 s2:Bool}{a a1 a2:Option Addr}{l c l1 c1 l2 c2:Nat}{n m z1 z2:Int}{w:World}
theorem zm_of (h:Nm w a l c n):Zm w s a l c (sg s n):=⟨n,h,rfl⟩
theorem radd_n (h1:Nm w a1 l1 c1 m)(h2:Nm w a2 l2 c2 n)(hl1:l1≤17179869184)(hl2:l2≤17179869184):
  Calls Tryz.prog 93 #[.slice a1 l1 c1,.slice a2 l2 c2] w fun e w'=> ∃ad len cap,e= .returned (.slice ad len cap)∧Cn w' ad len cap (m+n)∧Below w.heap.size w w'∧len≤max l1 l2+1:=by
 obtain⟨xs,h1,rfl⟩:=h1
 obtain⟨ys,h2,rfl⟩:=h2
 refine(refadd_any h1 h2 o_m o_m).mono ?_
 rintro e w' ⟨ad,len,cap,zs,rfl,ho,hc,hv,hl⟩
 exact⟨ad,len,cap,rfl,out_cn ho hc hv,ho.1,hl⟩
theorem rsub_n (h1:Nm w a1 l1 c1 m)(h2:Nm w a2 l2 c2 n)(hl1:l1≤17179869184)(hge:n≤m):
  Calls Tryz.prog 95 #[.slice a1 l1 c1,.slice a2 l2 c2] w fun e w'=> ∃ad len cap,e= .returned (.slice ad len cap)∧Cn w' ad len cap (m-n)∧Below w.heap.size w w'∧len≤l1:=by
 obtain⟨xs,h1,rfl⟩:=h1
 obtain⟨ys,h2,rfl⟩:=h2
 refine(refsub_any h1 h2 o_m hge).mono ?_
 rintro e w' ⟨ad,len,cap,zs,rfl,ho,hc,hv,hl⟩
 exact⟨ad,len,cap,rfl,out_cn ho hc hv,ho.1,hl⟩
theorem rmul_n (h1:Nm w a1 l1 c1 m)(h2:Nm w a2 l2 c2 n)(hl1:l1≤17179869184)(hl2:l2≤17179869184):
  Calls Tryz.prog 145 #[.slice a1 l1 c1,.slice a2 l2 c2] w fun e w'=> ∃ad len cap,e= .returned (.slice ad len cap)∧Cn w' ad len cap (m*n)∧Below w.heap.size w w'∧len≤l1+l2:=by
 obtain⟨xs,h1,rfl⟩:=h1
 obtain⟨ys,h2,rfl⟩:=h2
 refine(refmul_any h1 h2 hl1 hl2).mono ?_
 rintro e w' ⟨ad,len,cap,zs,rfl,ho,hc,hv,hl⟩
 exact⟨ad,len,cap,rfl,out_cn ho hc hv,ho.1,hl⟩

theorem rneg_n {z:Int}(h:Zm w s a l c z)(hl:l≤1099511627776):
  Calls Tryz.prog 100 #[.agg #[.bool s,.slice a l c]] w fun e w'=> ∃s' ad len cap,e= .returned (.agg #[.bool s',.slice ad len cap])∧Zn w' s' ad len cap (-z)∧Below w.heap.size w w'∧len≤l:=by
 obtain⟨n,hn,rfl⟩:=h
 rw[←sg_not]
 go_enter Tryz.func100,Tryz.ntmps100
 go_wp2_with fail
 have x:=(zb_new w s a l c).below (below_alloc _ (.cells #[.bool false,.slice none 0 0] 38))
 have y:=zb_new (w.alloc (.cells #[.bool s,.slice a l c] 38)) false none 0 0
 have b0:Below w.heap.size w ((w.alloc (.cells #[.bool s,.slice a l c] 38)).alloc (.cells #[.bool false,.slice none 0 0] 38)):=below_alloc' (below_alloc _ _) _
 rw[show(w.alloc (.cells #[.bool s,.slice a l c] 38)).heap.size=w.heap.size+1 from by simp]at y
 generalize (w.alloc (.cells #[.bool s,.slice a l c] 38)).alloc (.cells #[.bool false,.slice none 0 0] 38)=wb at*
 have hpr:w.heap.size<w.heap.size+1:=by omega
 replace hn:=hn.below b0
 generalize hp:w.heap.size=p at*
 replace hp:=hide hp
 generalize p+1=r at*
 have hrb:=Nat.le_of_lt y.lt
 refine(rnorm_n ⟨n,hn,rfl⟩ hl).mono ?_
 rintro e w' ⟨s',ad,len,cap,rfl,hz,hg,hl'⟩
 have y':ZB w' r false none 0 0:=ZB.below y gw;have y0:=y'.c0;have y1:=y'.c1;have y2:=y'.f 0;have y3:=y'.f 1
 have hB:Below p w w':=b0.trans (hg.mono (Nat.le_of_lt (Nat.lt_of_lt_of_le hpr hrb)))
 go_wp2
 refine bodyPost_ret (results_cell_row rfl _ _ r 38 _ (0,0) _ rfl (zb_fin y' s' ad len cap) Tryz.underlying38 rfl k_f) rfl ?_
 exact⟨s',ad,len,cap,by simp,zb_zn y' hz _ _ _ _,hp.out.symm▸(hB.setCell (Nat.le_of_lt hpr) _).setCell (Nat.le_of_lt hpr) _,hl'⟩

theorem rabs_n {z:Int}(h:Zm w s a l c z)(hl:l≤1099511627776):
  Calls Tryz.prog 128 #[.agg #[.bool s,.slice a l c]] w fun e w'=> ∃s' ad len cap,e= .returned (.agg #[.bool s',.slice ad len cap])∧Zn w' s' ad len cap ((z.natAbs:Int))∧Below w.heap.size w w'∧len≤l:=by
 obtain⟨n,hn,rfl⟩:=h
 rw[←sg_abs (s:=s) hn.nonneg]
 go_enter Tryz.func128,Tryz.ntmps128
 go_wp2_with fail
 have x:=(zb_new w s a l c).below (below_alloc _ (.cells #[.bool false,.slice none 0 0] 38))
 have y:=zb_new (w.alloc (.cells #[.bool s,.slice a l c] 38)) false none 0 0
 have b0:Below w.heap.size w ((w.alloc (.cells #[.bool s,.slice a l c] 38)).alloc (.cells #[.bool false,.slice none 0 0] 38)):=below_alloc' (below_alloc _ _) _
 rw[show(w.alloc (.cells #[.bool s,.slice a l c] 38)).heap.size=w.heap.size+1 from by simp]at y
 generalize (w.alloc (.cells #[.bool s,.slice a l c] 38)).alloc (.cells #[.bool false,.slice none 0 0] 38)=wb at*
 have hpr:w.heap.size<w.heap.size+1:=by omega
 replace hn:=hn.below b0
 generalize hp:w.heap.size=p at*
 replace hp:=hide hp
 generalize p+1=r at*
 have hrb:=Nat.le_of_lt y.lt
 refine(rnorm_n ⟨n,hn,rfl⟩ hl).mono ?_
 rintro e w' ⟨s',ad,len,cap,rfl,hz,hg,hl'⟩
 have y':ZB w' r false none 0 0:=ZB.below y gw;have y0:=y'.c0;have y1:=y'.c1;have y2:=y'.f 0;have y3:=y'.f 1
 have hB:Below p w w':=b0.trans (hg.mono (Nat.le_of_lt (Nat.lt_of_lt_of_le hpr hrb)))
 go_wp2
 refine bodyPost_ret (results_cell_row rfl _ _ r 38 _ (0,0) _ rfl (zb_fin y' s' ad len cap) Tryz.underlying38 rfl k_f) rfl ?_
 exact⟨s',ad,len,cap,by simp,zb_zn y' hz _ _ _ _,hp.out.symm▸(hB.setCell (Nat.le_of_lt hpr) _).setCell (Nat.le_of_lt hpr) _,hl'⟩

theorem rmul2_n (h1:Zm w s1 a1 l1 c1 z1)(h2:Zm w s2 a2 l2 c2 z2)(hl1:l1≤17179869184)(hl2:l2≤17179869184):
  Calls Tryz.prog 116 #[.agg #[.bool s1,.slice a1 l1 c1],.agg #[.bool s2,.slice a2 l2 c2]] w fun e w'=> ∃s' ad len cap,e= .returned (.agg #[.bool s',.slice ad len cap])∧Zn w' s' ad len cap (z1*z2)∧Below w.heap.size w w'∧len≤l1+l2:=by
 obtain⟨m,hm,rfl⟩:=h1
 obtain⟨n,hn,rfl⟩:=h2
 rw[←sg_mul]
 go_enter Tryz.func116,Tryz.ntmps116
 go_wp2_with fail
 have x:=(zb_new w s1 a1 l1 c1).below (below_alloc' (below_alloc _ (.cells #[.bool s2,.slice a2 l2 c2] 38)) (.cells #[.bool false,.slice none 0 0] 38))
 have x2:=(zb_new (w.alloc (.cells #[.bool s1,.slice a1 l1 c1] 38)) s2 a2 l2 c2).below (below_alloc _ (.cells #[.bool false,.slice none 0 0] 38))
 have y:=zb_new ((w.alloc (.cells #[.bool s1,.slice a1 l1 c1] 38)).alloc (.cells #[.bool s2,.slice a2 l2 c2] 38)) false none 0 0
 have b0:Below w.heap.size w (((w.alloc (.cells #[.bool s1,.slice a1 l1 c1] 38)).alloc (.cells #[.bool s2,.slice a2 l2 c2] 38)).alloc (.cells #[.bool false,.slice none 0 0] 38)):=below_alloc' (below_alloc' (below_alloc _ _) _) _
 rw[show((w.alloc (.cells #[.bool s1,.slice a1 l1 c1] 38)).alloc (.cells #[.bool s2,.slice a2 l2 c2] 38)).heap.size=w.heap.size+2 from by simp]at y
 rw[show(w.alloc (.cells #[.bool s1,.slice a1 l1 c1] 38)).heap.size=w.heap.size+1 from by simp]at x2
 generalize ((w.alloc (.cells #[.bool s1,.slice a1 l1 c1] 38)).alloc (.cells #[.bool s2,.slice a2 l2 c2] 38)).alloc (.cells #[.bool false,.slice none 0 0] 38)=wb at*
 have hpr:w.heap.size<w.heap.size+2:=by omega
 have hqr:w.heap.size+1<w.heap.size+2:=by omega
 have hpq:w.heap.size<w.heap.size+1:=by omega
 replace hm:=hm.below b0
 replace hn:=hn.below b0
 generalize hp:w.heap.size=p at*
 replace hp:=hide hp
 generalize p+2=r at*
 generalize p+1=q at*
 have hrb:=Nat.le_of_lt y.lt
 go_region_held3 (fun w'=>w'.cell? ⟨p,0,none⟩=some (.bool s1)∧w'.cell? ⟨p,1,none⟩=some (.slice a1 l1 c1)∧w'.cell? ⟨q,0,none⟩=some (.bool s2)∧w'.cell? ⟨q,1,none⟩=some (.slice a2 l2 c2)∧Below r wb w')
  ((refine zs2 x x2 hpr hqr ?_;first|(refine Below.mono ?_ hrb;focus ((with_reducible repeat' first|exact Below.refl _ _|assumption|refine grow_step (by assumption) ?_|refine grow_drew ?_|refine grow_alloc ?_ _|refine grow_drewN ?_ _);done))|(refine((Below.mono ?_ hrb).setCell (Nat.le_refl _) _).setCell (Nat.le_refl _) _;focus ((with_reducible repeat' first|exact Below.refl _ _|assumption|refine grow_step (by assumption) ?_|refine grow_drew ?_|refine grow_alloc ?_ _|refine grow_drewN ?_ _);done))))
  (first|(go_at_call 145;with_reducible refine(rmul_n (Nm.below hm gw) (Nm.below hn gw) (by omega) (by omega)).mono ?_;rintro e w' ⟨ad,len,cap,rfl,hc,hg,hl'⟩)|(go_at_call 67;with_reducible refine(rnorm_n (zm_of (Nm.below (Cn.nm hc) gw)) (by omega)).mono ?_;rintro e w' ⟨s',ad',len',cap',rfl,hz,hg,hl2'⟩;have y':ZB w' r false none 0 0:=ZB.below y gw;have y0:=y'.c0;have y1:=y'.c1;have y2:=y'.f 0;have y3:=y'.f 1))
 go_wp2
 rename_i hH
 refine bodyPost_ret (results_cell_row rfl _ _ r 38 _ (0,0) _ rfl (zb_fin y' s' ad' len' cap') Tryz.underlying38 rfl k_f) rfl ?_
 exact⟨s',ad',len',cap',by simp,zb_zn y' hz _ _ _ _,hp.out.symm▸(b0.trans (hH.2.2.2.2.mono (Nat.le_of_lt hpr))),by omega⟩

theorem radd2_n (h1:Zm w s1 a1 l1 c1 z1)(h2:Zm w s2 a2 l2 c2 z2)(hl1:l1≤17179869184)(hl2:l2≤17179869184):
  Calls Tryz.prog 48 #[.agg #[.bool s1,.slice a1 l1 c1],.agg #[.bool s2,.slice a2 l2 c2]] w fun e w'=> ∃s' ad len cap,e= .returned (.agg #[.bool s',.slice ad len cap])∧Zn w' s' ad len cap (z1+z2)∧Below w.heap.size w w'∧len≤max l1 l2+1:=by
 obtain⟨m,hm,rfl⟩:=h1
 obtain⟨n,hn,rfl⟩:=h2
 by_cases hs:s1=s2
 ·have hs':(s1==s2)=true:=by simp[hs]
  rw[show sg s1 m+sg s2 n=sg s1 (m+n) from by rw[←hs,sg_add]]
  clear hs
  go_enter Tryz.func48,Tryz.ntmps48
  go_wp2_with fail
  have x:=(zb_new w s1 a1 l1 c1).below (below_alloc' (below_alloc _ (.cells #[.bool s2,.slice a2 l2 c2] 38)) (.cells #[.bool false,.slice none 0 0] 38))
  have x2:=(zb_new (w.alloc (.cells #[.bool s1,.slice a1 l1 c1] 38)) s2 a2 l2 c2).below (below_alloc _ (.cells #[.bool false,.slice none 0 0] 38))
  have y:=zb_new ((w.alloc (.cells #[.bool s1,.slice a1 l1 c1] 38)).alloc (.cells #[.bool s2,.slice a2 l2 c2] 38)) false none 0 0
  have b0:Below w.heap.size w (((w.alloc (.cells #[.bool s1,.slice a1 l1 c1] 38)).alloc (.cells #[.bool s2,.slice a2 l2 c2] 38)).alloc (.cells #[.bool false,.slice none 0 0] 38)):=below_alloc' (below_alloc' (below_alloc _ _) _) _
  rw[show((w.alloc (.cells #[.bool s1,.slice a1 l1 c1] 38)).alloc (.cells #[.bool s2,.slice a2 l2 c2] 38)).heap.size=w.heap.size+2 from by simp]at y
  rw[show(w.alloc (.cells #[.bool s1,.slice a1 l1 c1] 38)).heap.size=w.heap.size+1 from by simp]at x2
  generalize ((w.alloc (.cells #[.bool s1,.slice a1 l1 c1] 38)).alloc (.cells #[.bool s2,.slice a2 l2 c2] 38)).alloc (.cells #[.bool false,.slice none 0 0] 38)=wb at*
  have hpr:w.heap.size<w.heap.size+2:=by omega
  have hqr:w.heap.size+1<w.heap.size+2:=by omega
  have hpq:w.heap.size<w.heap.size+1:=by omega
  replace hm:=hm.below b0
  replace hn:=hn.below b0
  generalize hp:w.heap.size=p at*
  replace hp:=hide hp
  generalize p+2=r at*
  generalize p+1=q at*
  have hrb:=Nat.le_of_lt y.lt
  go_region_held3 (fun w'=>w'.cell? ⟨p,0,none⟩=some (.bool s1)∧w'.cell? ⟨p,1,none⟩=some (.slice a1 l1 c1)∧w'.cell? ⟨q,0,none⟩=some (.bool s2)∧w'.cell? ⟨q,1,none⟩=some (.slice a2 l2 c2)∧Below r wb w')
   ((refine zs2 x x2 hpr hqr ?_;first|(refine Below.mono ?_ hrb;focus ((with_reducible repeat' first|exact Below.refl _ _|assumption|refine grow_step (by assumption) ?_|refine grow_drew ?_|refine grow_alloc ?_ _|refine grow_drewN ?_ _);done))|(refine((Below.mono ?_ hrb).setCell (Nat.le_refl _) _).setCell (Nat.le_refl _) _;focus ((with_reducible repeat' first|exact Below.refl _ _|assumption|refine grow_step (by assumption) ?_|refine grow_drew ?_|refine grow_alloc ?_ _|refine grow_drewN ?_ _);done))))
   (first|(go_at_call 93;with_reducible refine(radd_n (Nm.below hm gw) (Nm.below hn gw) (by omega) (by omega)).mono ?_;rintro e w' ⟨ad,len,cap,rfl,hc,hg,hl'⟩)|(go_at_call 67;with_reducible refine(rnorm_n (zm_of (Nm.below (Cn.nm hc) gw)) (by omega)).mono ?_;rintro e w' ⟨s',ad',len',cap',rfl,hz,hg,hl2'⟩;have y':ZB w' r false none 0 0:=ZB.below y gw;have y0:=y'.c0;have y1:=y'.c1;have y2:=y'.f 0;have y3:=y'.f 1))
  go_wp2
  rename_i hH
  refine bodyPost_ret (results_cell_row rfl _ _ r 38 _ (0,0) _ rfl (zb_fin y' s' ad' len' cap') Tryz.underlying38 rfl k_f) rfl ?_
  exact⟨s',ad',len',cap',by simp,zb_zn y' hz _ _ _ _,hp.out.symm▸(b0.trans (hH.2.2.2.2.mono (Nat.le_of_lt hpr))),by omega⟩
 have hs':(s1==s2)=false:=by simp[hs]
 have hcm:(m<n→cmpI m n<0)∧(¬m<n→0≤cmpI m n):=by unfold cmpI;omega
 by_cases hlt:m<n
 ·rw[←sg_sub2 hs]
  clear hs
  have hcc:=hcm.1 hlt
  clear hcm
  go_enter Tryz.func48,Tryz.ntmps48
  go_wp2_with fail
  have x:=(zb_new w s1 a1 l1 c1).below (below_alloc' (below_alloc _ (.cells #[.bool s2,.slice a2 l2 c2] 38)) (.cells #[.bool false,.slice none 0 0] 38))
  have x2:=(zb_new (w.alloc (.cells #[.bool s1,.slice a1 l1 c1] 38)) s2 a2 l2 c2).below (below_alloc _ (.cells #[.bool false,.slice none 0 0] 38))
  have y:=zb_new ((w.alloc (.cells #[.bool s1,.slice a1 l1 c1] 38)).alloc (.cells #[.bool s2,.slice a2 l2 c2] 38)) false none 0 0
  have b0:Below w.heap.size w (((w.alloc (.cells #[.bool s1,.slice a1 l1 c1] 38)).alloc (.cells #[.bool s2,.slice a2 l2 c2] 38)).alloc (.cells #[.bool false,.slice none 0 0] 38)):=below_alloc' (below_alloc' (below_alloc _ _) _) _
  rw[show((w.alloc (.cells #[.bool s1,.slice a1 l1 c1] 38)).alloc (.cells #[.bool s2,.slice a2 l2 c2] 38)).heap.size=w.heap.size+2 from by simp]at y
  rw[show(w.alloc (.cells #[.bool s1,.slice a1 l1 c1] 38)).heap.size=w.heap.size+1 from by simp]at x2
  generalize ((w.alloc (.cells #[.bool s1,.slice a1 l1 c1] 38)).alloc (.cells #[.bool s2,.slice a2 l2 c2] 38)).alloc (.cells #[.bool false,.slice none 0 0] 38)=wb at*
  have hpr:w.heap.size<w.heap.size+2:=by omega
  have hqr:w.heap.size+1<w.heap.size+2:=by omega
  have hpq:w.heap.size<w.heap.size+1:=by omega
  replace hm:=hm.below b0
  replace hn:=hn.below b0
  generalize hp:w.heap.size=p at*
  replace hp:=hide hp
  generalize p+2=r at*
  generalize p+1=q at*
  have hrb:=Nat.le_of_lt y.lt
  refine(rcmp_n hm hn).mono ?_
  rintro e w1 ⟨rfl,k1⟩
  generalize cmpI m n=cc at*
  have bb:Below p w w1:=b0.trans (k1.mono (Nat.le_of_lt (Nat.lt_of_lt_of_le hpr hrb)))
  replace x:=x.below k1
  replace x2:=x2.below k1
  replace y:=y.below k1
  replace hm:=hm.below k1
  replace hn:=hn.below k1
  replace hrb:=Nat.le_of_lt y.lt
  replace b0:=bb
  clear k1 bb
  generalize w1=wb at*
  go_wp2_with fail
  go_region_held3 (fun w'=>w'.cell? ⟨p,0,none⟩=some (.bool s1)∧w'.cell? ⟨p,1,none⟩=some (.slice a1 l1 c1)∧w'.cell? ⟨q,0,none⟩=some (.bool s2)∧w'.cell? ⟨q,1,none⟩=some (.slice a2 l2 c2)∧Below r wb w')
   ((refine zs2 x x2 hpr hqr ?_;first|(refine Below.mono ?_ hrb;focus ((with_reducible repeat' first|exact Below.refl _ _|assumption|refine grow_step (by assumption) ?_|refine grow_drew ?_|refine grow_alloc ?_ _|refine grow_drewN ?_ _);done))|(refine((Below.mono ?_ hrb).setCell (Nat.le_refl _) _).setCell (Nat.le_refl _) _;focus ((with_reducible repeat' first|exact Below.refl _ _|assumption|refine grow_step (by assumption) ?_|refine grow_drew ?_|refine grow_alloc ?_ _|refine grow_drewN ?_ _);done))))
   (first|(go_at_call 95;with_reducible refine(rsub_n (Nm.below hn gw) (Nm.below hm gw) (by omega) (by omega)).mono ?_;rintro e w' ⟨ad,len,cap,rfl,hc,hg,hl'⟩)|(go_at_call 67;with_reducible refine(rnorm_n (zm_of (Nm.below (Cn.nm hc) gw)) (by omega)).mono ?_;rintro e w' ⟨s',ad',len',cap',rfl,hz,hg,hl2'⟩;have y':ZB w' r false none 0 0:=ZB.below y gw;have y0:=y'.c0;have y1:=y'.c1;have y2:=y'.f 0;have y3:=y'.f 1))
  go_wp2
  rename_i hH
  refine bodyPost_ret (results_cell_row rfl _ _ r 38 _ (0,0) _ rfl (zb_fin y' s' ad' len' cap') Tryz.underlying38 rfl k_f) rfl ?_
  exact⟨s',ad',len',cap',by simp,zb_zn y' hz _ _ _ _,hp.out.symm▸(b0.trans (hH.2.2.2.2.mono (Nat.le_of_lt hpr))),by omega⟩
 rw[←sg_sub1 hs]
 clear hs
 have hcc:=hcm.2 hlt
 clear hcm
 go_enter Tryz.func48,Tryz.ntmps48
 go_wp2_with fail
 have x:=(zb_new w s1 a1 l1 c1).below (below_alloc' (below_alloc _ (.cells #[.bool s2,.slice a2 l2 c2] 38)) (.cells #[.bool false,.slice none 0 0] 38))
 have x2:=(zb_new (w.alloc (.cells #[.bool s1,.slice a1 l1 c1] 38)) s2 a2 l2 c2).below (below_alloc _ (.cells #[.bool false,.slice none 0 0] 38))
 have y:=zb_new ((w.alloc (.cells #[.bool s1,.slice a1 l1 c1] 38)).alloc (.cells #[.bool s2,.slice a2 l2 c2] 38)) false none 0 0
 have b0:Below w.heap.size w (((w.alloc (.cells #[.bool s1,.slice a1 l1 c1] 38)).alloc (.cells #[.bool s2,.slice a2 l2 c2] 38)).alloc (.cells #[.bool false,.slice none 0 0] 38)):=below_alloc' (below_alloc' (below_alloc _ _) _) _
 rw[show((w.alloc (.cells #[.bool s1,.slice a1 l1 c1] 38)).alloc (.cells #[.bool s2,.slice a2 l2 c2] 38)).heap.size=w.heap.size+2 from by simp]at y
 rw[show(w.alloc (.cells #[.bool s1,.slice a1 l1 c1] 38)).heap.size=w.heap.size+1 from by simp]at x2
 generalize ((w.alloc (.cells #[.bool s1,.slice a1 l1 c1] 38)).alloc (.cells #[.bool s2,.slice a2 l2 c2] 38)).alloc (.cells #[.bool false,.slice none 0 0] 38)=wb at*
 have hpr:w.heap.size<w.heap.size+2:=by omega
 have hqr:w.heap.size+1<w.heap.size+2:=by omega
 have hpq:w.heap.size<w.heap.size+1:=by omega
 replace hm:=hm.below b0
 replace hn:=hn.below b0
 generalize hp:w.heap.size=p at*
 replace hp:=hide hp
 generalize p+2=r at*
 generalize p+1=q at*
 have hrb:=Nat.le_of_lt y.lt
 refine(rcmp_n hm hn).mono ?_
 rintro e w1 ⟨rfl,k1⟩
 generalize cmpI m n=cc at*
 have bb:Below p w w1:=b0.trans (k1.mono (Nat.le_of_lt (Nat.lt_of_lt_of_le hpr hrb)))
 replace x:=x.below k1
 replace x2:=x2.below k1
 replace y:=y.below k1
 replace hm:=hm.below k1
 replace hn:=hn.below k1
 replace hrb:=Nat.le_of_lt y.lt
 replace b0:=bb
 clear k1 bb
 generalize w1=wb at*
 go_wp2_with fail
 go_region_held3 (fun w'=>w'.cell? ⟨p,0,none⟩=some (.bool s1)∧w'.cell? ⟨p,1,none⟩=some (.slice a1 l1 c1)∧w'.cell? ⟨q,0,none⟩=some (.bool s2)∧w'.cell? ⟨q,1,none⟩=some (.slice a2 l2 c2)∧Below r wb w')
  ((refine zs2 x x2 hpr hqr ?_;first|(refine Below.mono ?_ hrb;focus ((with_reducible repeat' first|exact Below.refl _ _|assumption|refine grow_step (by assumption) ?_|refine grow_drew ?_|refine grow_alloc ?_ _|refine grow_drewN ?_ _);done))|(refine((Below.mono ?_ hrb).setCell (Nat.le_refl _) _).setCell (Nat.le_refl _) _;focus ((with_reducible repeat' first|exact Below.refl _ _|assumption|refine grow_step (by assumption) ?_|refine grow_drew ?_|refine grow_alloc ?_ _|refine grow_drewN ?_ _);done))))
  (first|(go_at_call 95;with_reducible refine(rsub_n (Nm.below hm gw) (Nm.below hn gw) (by omega) (by omega)).mono ?_;rintro e w' ⟨ad,len,cap,rfl,hc,hg,hl'⟩)|(go_at_call 67;with_reducible refine(rnorm_n (zm_of (Nm.below (Cn.nm hc) gw)) (by omega)).mono ?_;rintro e w' ⟨s',ad',len',cap',rfl,hz,hg,hl2'⟩;have y':ZB w' r false none 0 0:=ZB.below y gw;have y0:=y'.c0;have y1:=y'.c1;have y2:=y'.f 0;have y3:=y'.f 1))
 go_wp2
 rename_i hH
 refine bodyPost_ret (results_cell_row rfl _ _ r 38 _ (0,0) _ rfl (zb_fin y' s' ad' len' cap') Tryz.underlying38 rfl k_f) rfl ?_
 exact⟨s',ad',len',cap',by simp,zb_zn y' hz _ _ _ _,hp.out.symm▸(b0.trans (hH.2.2.2.2.mono (Nat.le_of_lt hpr))),by omega⟩

theorem rsub2_n (h1:Zm w s1 a1 l1 c1 z1)(h2:Zm w s2 a2 l2 c2 z2)(hl1:l1≤17179869184)(hl2:l2≤17179869184):
  Calls Tryz.prog 53 #[.agg #[.bool s1,.slice a1 l1 c1],.agg #[.bool s2,.slice a2 l2 c2]] w fun e w'=> ∃s' ad len cap,e= .returned (.agg #[.bool s',.slice ad len cap])∧Zn w' s' ad len cap (z1-z2)∧Below w.heap.size w w'∧len≤max l1 l2+1:=by
 have hm:=h1
 have hn:=h2
 rw[show z1-z2=z1+ -z2 from by omega]
 go_enter Tryz.func53,Tryz.ntmps53
 go_wp2_with fail
 have x:=(zb_new w s1 a1 l1 c1).below (below_alloc' (below_alloc _ (.cells #[.bool s2,.slice a2 l2 c2] 38)) (.cells #[.bool false,.slice none 0 0] 38))
 have x2:=(zb_new (w.alloc (.cells #[.bool s1,.slice a1 l1 c1] 38)) s2 a2 l2 c2).below (below_alloc _ (.cells #[.bool false,.slice none 0 0] 38))
 have y:=zb_new ((w.alloc (.cells #[.bool s1,.slice a1 l1 c1] 38)).alloc (.cells #[.bool s2,.slice a2 l2 c2] 38)) false none 0 0
 have b0:Below w.heap.size w (((w.alloc (.cells #[.bool s1,.slice a1 l1 c1] 38)).alloc (.cells #[.bool s2,.slice a2 l2 c2] 38)).alloc (.cells #[.bool false,.slice none 0 0] 38)):=below_alloc' (below_alloc' (below_alloc _ _) _) _
 rw[show((w.alloc (.cells #[.bool s1,.slice a1 l1 c1] 38)).alloc (.cells #[.bool s2,.slice a2 l2 c2] 38)).heap.size=w.heap.size+2 from by simp]at y
 rw[show(w.alloc (.cells #[.bool s1,.slice a1 l1 c1] 38)).heap.size=w.heap.size+1 from by simp]at x2
 generalize ((w.alloc (.cells #[.bool s1,.slice a1 l1 c1] 38)).alloc (.cells #[.bool s2,.slice a2 l2 c2] 38)).alloc (.cells #[.bool false,.slice none 0 0] 38)=wb at*
 have hpr:w.heap.size<w.heap.size+2:=by omega
 have hqr:w.heap.size+1<w.heap.size+2:=by omega
 have hpq:w.heap.size<w.heap.size+1:=by omega
 replace hm:=hm.below b0
 replace hn:=hn.below b0
 generalize hp:w.heap.size=p at*
 replace hp:=hide hp
 generalize p+2=r at*
 generalize p+1=q at*
 have hrb:=Nat.le_of_lt y.lt
 go_region_held3 (fun w'=>w'.cell? ⟨p,0,none⟩=some (.bool s1)∧w'.cell? ⟨p,1,none⟩=some (.slice a1 l1 c1)∧w'.cell? ⟨q,0,none⟩=some (.bool s2)∧w'.cell? ⟨q,1,none⟩=some (.slice a2 l2 c2)∧Below r wb w')
  ((refine zs2 x x2 hpr hqr ?_;first|(refine Below.mono ?_ hrb;focus ((with_reducible repeat' first|exact Below.refl _ _|assumption|refine grow_step (by assumption) ?_|refine grow_drew ?_|refine grow_alloc ?_ _|refine grow_drewN ?_ _);done))|(refine((Below.mono ?_ hrb).setCell (Nat.le_refl _) _).setCell (Nat.le_refl _) _;focus ((with_reducible repeat' first|exact Below.refl _ _|assumption|refine grow_step (by assumption) ?_|refine grow_drew ?_|refine grow_alloc ?_ _|refine grow_drewN ?_ _);done))))
  (first|(go_at_call 100;with_reducible refine(rneg_n (Zm.below hn gw) (by omega)).mono ?_;rintro e w' ⟨sn,an,ln,cn,rfl,hz2,hg,hl'⟩)|(go_at_call 48;with_reducible refine(radd2_n (Zm.below hm gw) (Zn.zm (Zn.below hz2 gw)) (by omega) (by omega)).mono ?_;rintro e w' ⟨s',ad',len',cap',rfl,hz,hg,hl2'⟩;have y':ZB w' r false none 0 0:=ZB.below y gw;have y0:=y'.c0;have y1:=y'.c1;have y2:=y'.f 0;have y3:=y'.f 1))
 go_wp2
 rename_i hH
 refine bodyPost_ret (results_cell_row rfl _ _ r 38 _ (0,0) _ rfl (zb_fin y' s' ad' len' cap') Tryz.underlying38 rfl k_f) rfl ?_
 exact⟨s',ad',len',cap',by simp,zb_zn y' hz _ _ _ _,hp.out.symm▸(b0.trans (hH.2.2.2.2.mono (Nat.le_of_lt hpr))),by omega⟩

end Go.Proofs.YtaafoppaepcaeaaGreat
