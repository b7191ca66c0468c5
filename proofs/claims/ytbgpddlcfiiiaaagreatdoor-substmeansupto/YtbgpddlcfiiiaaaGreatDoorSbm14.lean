/-
 Several texts in one: Z4,Z5,Z9,Z6,Z7,Z8.
-/
import Derived.Test.YtbgpddlcfiiiaaaGreatDoorSbm12
import Derived.Test.YtbgpddlcfiiiaaaGreatDoorSbm13
import Derived.Laws.MathBits
import Derived.Deep.LoopGhost
set_option maxRecDepth 100000
set_option maxHeartbeats 1600000
namespace Go.Proofs.YtbgpddlcfiiiaaaGreatDoor
open Go.RowKit


variable {w:World}{b off n cap:Nat}
theorem results_ct {P:Program}{fn:Func}{p1 t3:Tmp}{ty:TypeId}(h:fn.results= #[.cell p1 ty,.tmp t3])(tmps:Array Value)(w:World)(g1:Nat)(t:TypeId)(cs1:Array Value)(fr:Nat × Nat)(d:TypeDesc)
  (hp1:tmps.getD p1 undef= .pointer (some ⟨g1,0,none⟩))(hg1:w.heap[g1]? =some (.cells cs1 t fr))
  (hu:P.underlying ty=some d)(hd:(match d with| .struct _| .array _ _=>true|_=>false)=true)(hi1:(P.info? ty).map (·.size)=some cs1.size):
  (results fn tmps).run P w= .ok (.tuple #[.agg cs1,tmps.getD t3 undef]) w:=by
 have hp1':tmps[p1]?.getD undef= .pointer (some ⟨g1,0,none⟩):=by simpa using hp1
 simp[results,h,hp1',asAddr,run_loadVar_row w g1 t ty cs1 fr d hg1 hu hd hi1]





structure ZL (w:World) (b off n:Nat) (S:Nat→Bool) (A:Nat→Option Addr) (L C:Nat→Nat) (M:Nat→Int):Prop where
 lt:b<w.heap.size
 c0: ∀i,i<n→w.cell? ⟨b,off+i*2,none⟩=some (.bool (S i))
 c1: ∀i,i<n→w.cell? ⟨b,off+i*2+1,none⟩=some (.slice (A i) (L i) (C i))
 nm: ∀i,i<n→Nm w (A i) (L i) (C i) (M i)
 le: ∀i,i<n→L i≤4294967296
theorem ZL.below {w':World}{S:Nat→Bool}{A:Nat→Option Addr}{L C:Nat→Nat}{M:Nat→Int}(h:ZL w b off n S A L C M)(hb:Below w.heap.size w w'):ZL w' b off n S A L C M:=
 ⟨Nat.lt_of_lt_of_le h.lt hb.size,fun i hi=>(hb.cell (p:=⟨b,off+i*2,none⟩) h.lt).trans (h.c0 i hi),fun i hi=>(hb.cell (p:=⟨b,off+i*2+1,none⟩) h.lt).trans (h.c1 i hi),fun i hi=>(h.nm i hi).below hb,h.le⟩

def fold (op:Int→Int→Int)(g:Int)(M:Nat→Int):Nat→Int
 |0=>g
 |n+1=>op (fold op g M n) (M n)
def foldL (l:Nat)(L:Nat→Nat):Nat→Nat
 |0=>l
 |n+1=>foldL l L n+L n

theorem foldL_mono {l l':Nat}(h:l≤l')(L:Nat→Nat)(n:Nat):foldL l L n≤foldL l' L n:=by
 induction n with
 |zero=>exact h
 |succ n ih=>exact Nat.add_le_add_right ih _

theorem fold1_Gcd {pN pJ:Nat}{S:Nat→Bool}{A:Nat→Option Addr}{L C:Nat→Nat}{M:Nat→Int}{a0:Option Addr}{l0 c0:Nat}{g:Int}
  (hl:ZL w b off n S A L C M)(hb:foldL l0 L n≤1099511627776)(h0:Cn w a0 l0 c0 g)
  (hN:w.heap[pN]? =some (.cells #[.slice a0 l0 c0] 24 (0,0)))(hj:w.cell? ⟨pJ,0,none⟩=some (.func (.func 196) #[] #[]))(hjl:pJ<w.heap.size)(hn:n≤1099511627776):
  Calls Tryz.prog 222 #[.slice (some ⟨b,off,none⟩) n cap,.pointer (some ⟨pN,0,none⟩),.pointer (some ⟨pJ,0,none⟩)] w fun e w'=> ∃s' ad len cap,e= .returned (.agg #[.bool s',.slice ad len cap])∧Zn w' s' ad len cap (fold gcdI g M n)∧Below w.heap.size w w'∧len≤foldL l0 L n:=by
 have hNc:w.cell? ⟨pN,0,none⟩=some (.slice a0 l0 c0):=cell_of_row w pN 0 _ _ (0,0) hN
 have hNl:pN<w.heap.size:=World.block_lt_of_cell? w ⟨pN,0,none⟩ hNc
 go_enter Tryz.func222,Tryz.ntmps222
 go_wp2_with fail
 have y:=zb_new w false none 0 0
 have b0:=below_alloc w (.cells #[.bool false,.slice none 0 0] 26)
 replace hl:=hl.below b0
 replace h0:=h0.below b0
 replace hj:=(b0.cell (p:=⟨pJ,0,none⟩) hjl).trans hj
 clear hNc hNl hN
 replace hjl:pJ<(w.alloc (.cells #[.bool false,.slice none 0 0] 26)).heap.size:=Nat.lt_of_lt_of_le hjl b0.size
 generalize w.alloc (.cells #[.bool false,.slice none 0 0] 26)=wb at*
 generalize hp:w.heap.size=r at*
 replace hp:=hide hp
 have hmono: ∀k,k<n→foldL l0 L k+L k≤foldL l0 L n:=by
  intro k hk
  have key: ∀d,foldL l0 L (k+1)≤foldL l0 L (k+1+d):=by
   intro d
   induction d with
   |zero=>exact Nat.le_refl _
   |succ d ih=>exact Nat.le_trans ih (Nat.le_add_right _ _)
  have:=key (n-(k+1))
  rw[show k+1+(n-(k+1))=n from by omega]at this
  exact this
 replace hmono:=hide hmono
 go_loopw [5,11] (fun t i wr=> ∃(k:Nat) (at':Option Addr) (lt ct:Nat),k≤n∧i= .int .i64 k∧t= .slice at' lt ct∧Cn wr at' lt ct (fold gcdI g M k)∧lt≤foldL l0 L k∧Below wb.heap.size wb wr) (fun _ i _=>n-(intOf i).toNat)
 case atStart=>exact⟨0,a0,l0,c0,Nat.zero_le _,rfl,rfl,h0,Nat.le_refl _,Below.refl _ _⟩
 case round=>
  obtain⟨k,at',lt,ct,hk,rfl,rfl,hct,hlt,kr⟩:=hrel
  by_cases hkN:k<n
  ·have q:=hl.below kr
   have e0:=q.c0 k hkN
   have e1:=q.c1 k hkN
   have ej:=(kr.cell (p:=⟨pJ,0,none⟩) hjl).trans hj
   have hnm:=q.nm k hkN
   have hle:=hl.le k hkN
   have hmk:=unhide hmono k hkN
   have hlb:=q.lt
   have hjr:pJ<wr.heap.size:=Nat.lt_of_lt_of_le hjl kr.size
   have ka:=below_alloc wr (.cells #[.bool (S k),.slice (A k) (L k) (C k)] 26)
   go_wp2_with fail
   refine(gcd_n (hct.below ka).nm (hnm.below ka) o_m o_m).mono ?_
   rintro e w2 ⟨ad,len,cap',rfl,hc2,k2,hl2⟩
   go_wp2_with fail
   exact⟨⟨k+1,ad,len,cap',by omega,by go_num,rfl,hc2,by show len≤foldL l0 L k+L k;omega,grow_step k2 (grow_step ka kr)⟩,by simp[intOf];omega⟩
  obtain rfl:k=n:=by omega
  go_wp2_with fail
  refine(stand_n hct).mono ?_
  rintro e w' ⟨s',rfl,hz,hg⟩
  have y':ZB w' r false none 0 0:=ZB.below y (grow_step hg kr)
  have y0:=y'.c0
  have y1:=y'.c1
  have y2:=y'.f 0
  have y3:=y'.f 1
  have hB:Below r w w':=b0.trans ((grow_step hg kr).mono (Nat.le_of_lt y.lt))
  go_wp2
  refine bodyPost_ret (results_cell_row rfl _ _ r 26 _ (0,0) _ rfl (zb_fin y' s' at' lt ct) Tryz.underlying26 rfl k_f) rfl ?_
  exact⟨s',at',lt,ct,by simp,zb_zn y' hz _ _ _ _,hp.out.symm▸(hB.setCell (Nat.le_refl _) _).setCell (Nat.le_refl _) _,hlt⟩

theorem folded_Gcd {ad:Option Addr}{len:Nat}:
  Calls Tryz.prog 195 #[.slice ad len cap,.func (.func 196) #[] #[]] w fun e w'=> ∃pN pJ,e= .returned (.func (.func 222) #[] #[.pointer (some ⟨pN,0,none⟩),.pointer (some ⟨pJ,0,none⟩)])∧w'.heap[pN]? =some (.cells #[.slice ad len cap] 24 (0,0))∧w'.cell? ⟨pJ,0,none⟩=some (.func (.func 196) #[] #[])∧pJ<w'.heap.size∧Below w.heap.size w w':=by
 go_enter Tryz.func195,Tryz.ntmps195
 go_wp2
 go_ret
 refine⟨w.heap.size,w.heap.size+1,rfl,?_,?_,by simp,below_alloc' (below_alloc _ _) _⟩
 ·rw[Below.heap_alloc _ _ _ (by simp)]
  exact heap_alloc_new w _
 simp

theorem zgcd_any {S:Nat→Bool}{A:Nat→Option Addr}{L C:Nat→Nat}{M:Nat→Int}(hl:ZL w b off n S A L C M)(hb:foldL 2 L n≤1099511627776)(hn:n≤1099511627776):
  Calls Tryz.prog 161 #[.slice (some ⟨b,off,none⟩) n cap] w fun e w'=> ∃s' ad len cap,e= .returned (.agg #[.bool s',.slice ad len cap])∧Zn w' s' ad len cap (fold gcdI 0 M n)∧Below w.heap.size w w'∧len≤foldL 2 L n:=by
 go_enter Tryz.func161,Tryz.ntmps161
 go_wp2_with fail
 have y:=zb_new w false none 0 0
 have b0:=below_alloc w (.cells #[.bool false,.slice none 0 0] 26)
 replace hl:=hl.below b0
 generalize w.alloc (.cells #[.bool false,.slice none 0 0] 26)=wb at*
 generalize hp:w.heap.size=r at*
 replace hp:=hide hp
 refine(of_n 0 (by decide) (by decide) _).mono ?_
 rintro e w1 ⟨a0,l0,c0,rfl,hc,k1,hl0⟩
 go_wp2_with fail
 refine(folded_Gcd (ad:=a0) (len:=l0) (cap:=c0)).mono ?_
 rintro e w2 ⟨pN,pJ,rfl,hN,hj,hjl,k2⟩
 go_wp2_with fail
 have hm:foldL l0 L n≤foldL 2 L n:=foldL_mono hl0 L n
 refine(fold1_Gcd (hl.below (grow_step k2 k1)) o_m (hc.below k2) hN hj hjl hn).mono ?_
 rintro e w' ⟨s',ad,len,cap',rfl,hz,hg,hl'⟩
 have y':ZB w' r false none 0 0:=ZB.below y (grow_step hg (grow_step k2 k1))
 have y0:=y'.c0
 have y1:=y'.c1
 have y2:=y'.f 0
 have y3:=y'.f 1
 have hB:Below r w w':=b0.trans ((grow_step hg (grow_step k2 k1)).mono (Nat.le_of_lt y.lt))
 go_wp2
 refine bodyPost_ret (results_cell_row rfl _ _ r 26 _ (0,0) _ rfl (zb_fin y' s' ad len cap') Tryz.underlying26 rfl k_f) rfl ?_
 exact⟨s',ad,len,cap',by simp,zb_zn y' hz _ _ _ _,hp.out.symm▸(hB.setCell (Nat.le_refl _) _).setCell (Nat.le_refl _) _,by omega⟩

end Go.Proofs.YtbgpddlcfiiiaaaGreatDoor
