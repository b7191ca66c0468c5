/-
 Several texts in one: VA,VB,VC,VD,VE,VF,VG,VH,VI,VJ,VK,VL,VM,VN,VO,VP,VQ,VR,UN.
-/
import Derived.Test.YtbgpddlcfiiiaaaGreatDoorSbm37
import Derived.Laws.EntriesVeiled
import Derived.Test.YtbgpddlcfiiiaaaGreatDoorSbm25
import Derived.Test.YtbgpddlcfiiiaaaGreatDoorSbm35
import Derived.Test.YtbgpddlcfiiiaaaGreatDoorSbm20
import Derived.Test.YtbgpddlcfiiiaaaGreatDoorSbm32
namespace Go.Proofs.YtbgpddlcfiiiaaaGreatDoor
open Go.RowKit Go.Sort Go.Shelf
open Tm At
namespace Nt

end Nt
namespace Nt

theorem lim_neg (k:Int):lim (-1*k)=lim k:=by
 unfold lim
 rw[show(-1*k).natAbs=k.natAbs by omega]
end Nt
namespace Nt
end Nt
namespace Nt
end Nt
namespace Nt
end Nt
namespace Nt
end Nt
namespace Nt

end Nt
namespace Nt

end Nt
namespace Nt

theorem putE_made {nn kk:Int}{s:St}{n:Nd}(h: ∀i:Nat,s.L[i]? ≠some n)(he:s.er=0)(hl:((nums n).any fun z=>decide (kk<(lim z:Int)))=false)(hc:1≤nn-s.c):putE nn kk s n=(⟨s.L++ [n],s.c+1,0⟩,(s.L.length:Int),0):=by
 have h7:mstep nn kk s.c s.er (nums n)=(0,s.c+1,0):=by
  unfold mstep
  rw[if_neg (by simp[he]),if_neg (by rw[hl];simp),if_neg o_m]
 unfold putE
 rw[if_neg (spot_no (fun⟨i,hi⟩=>h i hi)),h7,if_pos rfl]
theorem not_in2 {L:List Nd}{n:Nd}(h: ∀x∈L,x≠n)(i:Nat):L[i]? ≠some n:=fun hi=>h n (List.mem_of_getElem? hi) rfl
theorem lim_m1 :lim (-1)=1:=by
 have:=lim_neg 1
 rw[lim_1]at this
 exact this
theorem EA.step {w0 w w':World}{e:Ending}{pa pm:Nat}{nn kk:Int}{s s':St}{F:Nat→Prop}{r:St × Int × Int}{x er:Int}(h:EA w0 w pa pm nn kk s F)(ha:AO2 w w' e pa pm nn kk F r)(hr:r=(s',x,er))(hv:Gv kk s'.L):e= .returned (.tuple #[.int .i64 x,.int .i64 er])∧∃F',EA w0 w' pa pm nn kk s' F':=by
 subst hr
 obtain⟨F',h1,_⟩:=h.next ha hv
 exact⟨ha.1,F',h1⟩
end Nt
namespace Nt

end Nt
namespace Nt

end Nt
namespace Nt

end Nt
namespace Nt

def FinP (L:List Nd)(vs:List (Int × Int))(y:Int):Prop:=(ndI L y).kind≠7∧(ndI L y).kind≠8∧((ndI L y).kind<5→Tot (ndI L y).ps vs)
def Fin9 (L:List Nd)(vs:List (Int × Int))(i:Int):Prop:=Her L (FinP L vs) i
end Nt
namespace Nt

end Nt
namespace Nt

theorem finP_app {L L':List Nd}(hl: ∃t,L'=L++t)(vs:List (Int × Int))(y:Int)(ho:okI L y):FinP L' vs y↔FinP L vs y:=by
 obtain⟨t,rfl⟩:=hl
 unfold FinP
 rw[ndI_app ho]
theorem fin_le {L L':List Nd}(hw:Wk L)(hl: ∃t,L'=L++t){vs:List (Int × Int)}{i:Int}(ho:okI L i):Fin9 L' vs i↔Fin9 L vs i:=her_le hw hl (finP_app hl vs) ho
theorem fin_pln {L:List Nd}{vs:List (Int × Int)}{i:Int}(h:Fin9 L vs i):Pln L i:=fun y hy=>⟨(h y hy).1,(h y hy).2.1⟩
theorem gv_run {R:List Mk}(hm: ∀m∈R,Sm m):Gv 8 (runW 2000 8 (st0,[0,1]) R).1.L∧∀x∈(runW 2000 8 (st0,[0,1]) R).2,okI (runW 2000 8 (st0,[0,1]) R).1.L x:=by
 have hin:In st0 [0,1]:=⟨by simp,fun x hx=>by
  rcases(show x=0∨x=1 by simpa using hx)with rfl|rfl
  ·exact⟨by decide,by decide⟩
  exact⟨by decide,by decide⟩⟩
 have hgs:=run_gs (nn:=2000) (kk:=8) R (st0_gs 8) hin hm
 have hu:=run_uq (nn:=2000) (kk:=8) (ids:=[0,1]) R st0_uq
 obtain⟨⟨t,ht⟩,_⟩:=run_le 2000 8 R st0 [0,1]
 have h0:(runW 2000 8 (st0,[0,1]) R).1.L[0]? =some (cst 0):=by rw[ht];rfl
 have h1:(runW 2000 8 (st0,[0,1]) R).1.L[1]? =some (cst 1):=by rw[ht];rfl
 exact⟨gv_of hu h0 h1 hgs.1 (by decide) lim_0,fun x hx=>hgs.2.2 x hx⟩
end Nt
namespace Nt

end Nt
namespace Nt

end Nt
namespace Nt

theorem ml_sm9 {w:World}{ad:Option Addr}{n:Nat}{R:List Mk}{B:Nat}(h:ML w ad n R B): ∀m∈R,Sm m:=by
 intro m hm
 obtain⟨i,hi,rfl⟩:=List.getElem_of_mem hm
 rcases h.2 with h0|⟨b,off,_,_,h2⟩
 ·have:=h.1
  omega
 obtain⟨sd,ad,ld,cd,ap,np,cp,sk,ak,lk,ck,ka,kn,kc,_,_,_,hP,hnp,_⟩:=h2 i hi
 have h3:(R[i].xp).length=np:=hP.1
 have h4:=std_len (std_lays R[i].xp) fun v=>csum_nzl R[i].xp v
 unfold Sm
 omega
end Nt
end Go.Proofs.YtbgpddlcfiiiaaaGreatDoor

namespace Go.Proofs.YtbgpddlcfiiiaaaGreatDoor
open Tm At
namespace Nt
namespace Sb

def Few (M:Nat)(L:List Nd):Prop:=∀n∈L,n.ps.length≤M
theorem ask_few {ids:List Int}{m:Mk}{n:Nd}{M:Nat}(hm:(nz (lays [] m.xp)).length≤M)(h:ask ids m= .inr n):n.ps.length≤M:=by
 have hj: ∀kd l,joinA kd l= .inr n→n.ps.length≤M:=fun kd l h=>by
  unfold joinA at h
  split at h
  ·cases h
  ·cases h
  cases h
  simp
 unfold ask at h
 by_cases h0:whatI m.kind=0
 ·rw[if_pos h0]at h
  unfold atomA at h
  cases hf:formA m.xk m.xd (nz (lays [] m.xp)) m.xt with
  |inr e=>rw[hf]at h;cases h
  |inl f=>
   rw[hf]at h
   cases h
   exact Nat.le_trans (form_len hf) hm
 rw[if_neg h0]at h
 by_cases h1:whatI m.kind=1
 ·rw[if_pos h1]at h
  exact hj _ _ h
 rw[if_neg h1]at h
 by_cases h2:whatI m.kind=2
 ·rw[if_pos h2]at h
  exact hj _ _ h
 rw[if_neg h2]at h
 by_cases h3:whatI m.kind=3
 ·rw[if_pos h3]at h
  cases h
  simp
 rw[if_neg h3]at h
 cases h
 simp
theorem wants_few {nn kk:Int}{s:St}{ids:List Int}{m:Mk}{M:Nat}(h:Few M s.L)(hm:(nz (lays [] m.xp)).length≤M):Few M (wants nn kk s ids m).1.L:=by
 unfold wants
 cases ha:ask ids m with
 |inl o=>exact h
 |inr n=>
  show Few M (put nn kk s n).1.L
  rcases put_cases nn kk s n with⟨i,hi,e⟩|⟨h1,h2,e⟩|⟨h1,h2,r,h3,e⟩|⟨h1,h2,h3,h4,e⟩ <;> rw[e]
  ·exact h
  ·exact h
  ·exact h
  intro x hx
  rcases List.mem_append.1 hx with hx|hx
  ·exact h x hx
  obtain rfl:=List.mem_singleton.1 hx
  exact ask_few hm ha
theorem run_few {nn kk:Int}{M:Nat}: ∀(R:List Mk) {s:St}{ids:List Int},Few M s.L→(∀m∈R,(nz (lays [] m.xp)).length≤M)→Few M (runW nn kk (s,ids) R).1.L
 | [],_,_,h,_=>h
 |m::R,s,ids,h,hm=>run_few R (s:=(stepW nn kk (s,ids) m).1) (ids:=(stepW nn kk (s,ids) m).2) (wants_few h (hm m List.mem_cons_self)) fun x hx=>hm x (List.mem_cons_of_mem _ hx)
theorem few_st0 (M:Nat):Few M st0.L:=fun n hn=>by
 rcases(show n=cst 0∨n=cst 1 by simpa [st0] using hn)with rfl|rfl <;> simp[cst]
theorem Few.nd {M:Nat}{L:List Nd}(h:Few M L){i:Int}(ho:okI L i):(ndI L i).ps.length≤M:=h _ (List.mem_of_getElem? (ndI_some ho))
end Sb
end Nt
end Go.Proofs.YtbgpddlcfiiiaaaGreatDoor
