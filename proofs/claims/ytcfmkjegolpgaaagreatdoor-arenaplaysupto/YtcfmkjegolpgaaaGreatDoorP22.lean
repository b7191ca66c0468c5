/-
 Layer 6: the reference's common divisor of a list.
-/
import Derived.Test.YtcfmkjegolpgaaaGreatDoorP15
import Derived.Test.YtcfmkjegolpgaaaGreatDoorP17
import Derived.Test.YtcfmkjegolpgaaaGreatDoorP16
namespace Go.Proofs.YtcfmkjegolpgaaaGreatDoor
open Go.RowKit

variable {m n : Int} {w : World}
theorem rg6_n {a1 a2 : Option Addr} {l1 c1 l2 c2 : Nat} (h1 : Nm w a1 l1 c1 m) (h2 : Nm w a2 l2 c2 n) (hl1 : l1≤8589934592) (hl2 : l2≤8589934592) :
  Calls Tryz.prog 159 #[.slice a1 l1 c1,.slice a2 l2 c2] w fun e w' => ∃ ad len cap,e = .returned (.slice ad len cap)∧Cn w' ad len cap (gcdI m n)∧Below w.heap.size w w'∧len≤l1 + l2:=by
 obtain ⟨xs,h1,rfl⟩:=h1
 obtain ⟨ys,h2,rfl⟩:=h2
 refine (refgcd_any h1 h2 hl1 hl2).mono ?_
 rintro e w' ⟨ad,len,cap,zs,rfl,ho,hc,hv,hl⟩
 exact ⟨ad,len,cap,rfl,out_cn ho hc hv,ho.1,hl⟩
theorem cn_nilA (w : World) : Cn w none 0 0 0:=by
 obtain ⟨n,h1,h2,_⟩:=zn_zero w
 have e : n = 0:=by simpa [sg] using h2.symm
 rwa [e] at h1
theorem Cn.len_le {w' : World} {a : Option Addr} {l c : Nat} {a' : Option Addr} {l' c' : Nat} (h : Cn w a l c m) (h' : Nm w' a' l' c' n) (hle : m≤n) : l≤l':=by
 obtain ⟨zs,h1,h2,h3⟩:=h
 obtain ⟨xs,g1,g2⟩:=h'
 rcases Nat.lt_or_ge l' l with hlt | hge
 ·have:=val_lt_of_length g1.2.2.2.1 h2 (by rw [g1.1,h1.1]; exact hlt)
  omega
 exact hge
theorem gcdI_le (h : 0 < n) : gcdI m n≤n:=by
 unfold gcdI
 have:=Nat.gcd_le_right m.toNat (show 0 < n.toNat by omega)
 omega
theorem gcdI_nil (h : 0≤m) : gcdI m 0 = m:=by
 unfold gcdI
 simp
 omega

set_option maxRecDepth 100000 in
set_option maxHeartbeats 1600000 in
theorem rgcd6_list {b off n cap : Nat} {S : Nat→Bool} {A : Nat→Option Addr} {L C : Nat→Nat} {M : Nat→Int} (hl : ZL w b off n S A L C M) {Lm : Nat} (hL : ∀ i,i < n→L i≤Lm) (hb : Lm≤4294967296) (hn : n≤1099511627776) :
  Calls Tryz.prog 119 #[.slice (some ⟨b,off,none⟩) n cap] w fun e w' => ∃ s' ad len cap,e = .returned (.agg #[.bool s',.slice ad len cap])∧Zn w' s' ad len cap (fold gcdI 0 M n)∧Below w.heap.size w w'∧len≤Lm:=by
 go_enter Tryz.func119,Tryz.ntmps119
 go_wp2_with fail
 have y:=zb_new w false none 0 0
 have b0:=below_alloc w (.cells #[.bool false,.slice none 0 0] 37)
 replace hl:=hl.below b0
 generalize w.alloc (.cells #[.bool false,.slice none 0 0] 37) = wb at *
 generalize hp : w.heap.size = r at *
 replace hp:=hide hp
 go_loopw [3,4] (fun t i wr => ∃ (k : Nat) (at' : Option Addr) (lt ct : Nat),k≤n∧i = .int .i64 k∧t = .slice at' lt ct∧Cn wr at' lt ct (fold gcdI 0 M k)∧lt≤Lm∧Below wb.heap.size wb wr) (fun _ i _ => n - (intOf i).toNat)
 case atStart => exact ⟨0,none,0,0,Nat.zero_le _,rfl,rfl,cn_nilA _,Nat.zero_le _,Below.refl _ _⟩
 case round =>
  obtain ⟨k,at',lt,ct,hk,rfl,rfl,hct,hlt,kr⟩:=hrel
  by_cases hkN : k < n
  ·have q:=hl.below kr
   have e1:=q.c1 k hkN
   have hnm:=q.nm k hkN
   have hle:=hl.le k hkN
   have hmk:=hL k hkN
   have hlb:=q.lt
   go_wp2_with fail
   refine (rg6_n hct.nm hnm o_m o_m).mono ?_
   rintro e w2 ⟨ad,len,cap',rfl,hc2,k2, -⟩
   have hl2 : len≤Lm:=by
    have h0:=hnm.nonneg
    by_cases hz : M k = 0
    ·rw [hz,gcdI_nil hct.nm.nonneg] at hc2
     exact Nat.le_trans (hc2.len_le hct.nm (Int.le_refl _)) hlt
    exact Nat.le_trans (hc2.len_le hnm (gcdI_le o_m)) hmk
   go_wp2_with fail
   exact ⟨⟨k + 1,ad,len,cap',by omega,by go_num,rfl,hc2,hl2,grow_step k2 kr⟩,by simp [intOf]; omega⟩
  obtain rfl : k = n:=by omega
  go_wp2_with fail
  refine (rnorm_n ⟨_,hct.nm,rfl⟩ o_m).mono ?_
  rintro e w' ⟨s',ad,len,cap',rfl,hz,hg,hl'⟩
  have y' : ZB w' r false none 0 0:=ZB.below y (grow_step hg kr)
  have y0:=y'.c0
  have y1:=y'.c1
  have y2:=y'.f 0
  have y3:=y'.f 1
  have hB : Below r w w':=b0.trans ((grow_step hg kr).mono (Nat.le_of_lt y.lt))
  go_wp2
  refine bodyPost_ret (results_cell_row rfl _ _ r 37 _ (0,0) _ rfl (zb_fin y' s' ad len cap') Tryz.underlying37 rfl k_f) rfl ?_
  exact ⟨s',ad,len,cap',by simp,zb_zn y' hz _ _ _ _,hp.out.symm ▸ (hB.setCell (Nat.le_refl _) _).setCell (Nat.le_refl _) _,by omega⟩

end Go.Proofs.YtcfmkjegolpgaaaGreatDoor
