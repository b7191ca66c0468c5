/-
 Layer 2: numbers as words of the machine; how they stand.
-/
import Derived.Test.YtcfmkjegolpgaaaGreatDoorP15
import Derived.Laws.BitsAllLaws
import Derived.Deep.LoopGhost
import Derived.Deep.DeepCutAuto
set_option maxRecDepth 100000
set_option maxHeartbeats 1600000
namespace Go.Proofs.YtcfmkjegolpgaaaGreatDoor
open Go.RowKit

def StandsB (s : Bool) (l : Nat) (xs : List Int) : Bool:=(s == (s && decide (0 < tl xs l))) && decide (tl xs l = l)

theorem rnorm_any {s : Bool} {a : Option Addr} {l c : Nat} {xs : List Int} {w : World} (h : Rd w a l c xs) (hl : l≤1099511627776) :
  Calls Tryz.prog 135 #[.agg #[.bool s,.slice a l c]] w fun e w' => ∃ ad,e = .returned (.agg #[.bool (s && decide (0 < tl xs l)),.slice ad (tl xs l) (tl xs l)])∧Below w.heap.size w w':=by
 have hn:=h
 go_enter Tryz.func135,Tryz.ntmps135
 go_wp2_with fail
 have x:=(zb_new w s a l c).below (below_alloc _ (.cells #[.bool false,.slice none 0 0] 37))
 have y:=zb_new (w.alloc (.cells #[.bool s,.slice a l c] 37)) false none 0 0
 have b0 : Below w.heap.size w ((w.alloc (.cells #[.bool s,.slice a l c] 37)).alloc (.cells #[.bool false,.slice none 0 0] 37)):=below_alloc' (below_alloc _ _) _
 rw [show (w.alloc (.cells #[.bool s,.slice a l c] 37)).heap.size = w.heap.size + 1 from by simp] at y
 generalize (w.alloc (.cells #[.bool s,.slice a l c] 37)).alloc (.cells #[.bool false,.slice none 0 0] 37) = wb at *
 have hpr : w.heap.size < w.heap.size + 1:=by omega
 replace hn:=hn.below b0
 generalize hp : w.heap.size = p at *
 replace hp:=hide hp
 generalize p + 1 = r at *
 have hrb:=Nat.le_of_lt y.lt
 refine (trim_any hn o_m).mono ?_
 rintro e w' ⟨rfl,ho, -⟩
 have hg:=ho.1
 obtain ⟨len,hlen⟩ : ∃ n,n = tl xs l:=⟨_,rfl⟩
 rw [← hlen] at ho ⊢
 replace hlen:=hide hlen
 have y' : ZB w' r false none 0 0:=ZB.below y gw; have y0:=y'.c0; have y1:=y'.c1; have y2:=y'.f 0; have y3:=y'.f 1
 have u0:=(x.below hg).c0
 have hB : Below p w w':=b0.trans (hg.mono (Nat.le_of_lt (Nat.lt_of_lt_of_le hpr hrb)))
 cases s
 ·go_wp2
  refine bodyPost_ret (results_cell_row rfl _ _ r 37 _ (0,0) _ rfl (zb_fin y' false _ _ _) Tryz.underlying37 rfl k_f) rfl ?_
  exact ⟨some ⟨wb.heap.size,0,none⟩,by rw [← unhide hlen]; simp,hp.out.symm ▸ (hB.setCell (Nat.le_of_lt hpr) _).setCell (Nat.le_of_lt hpr) _⟩
 go_wp2
 refine bodyPost_ret (results_cell_row rfl _ _ r 37 _ (0,0) _ rfl (zb_fin y' (decide (0 < len)) _ _ _) Tryz.underlying37 rfl k_f) rfl ?_
 exact ⟨some ⟨wb.heap.size,0,none⟩,by rw [← unhide hlen]; simp,hp.out.symm ▸ (hB.setCell (Nat.le_of_lt hpr) _).setCell (Nat.le_of_lt hpr) _⟩

theorem rvalid_n {s : Bool} {a : Option Addr} {l c : Nat} {xs : List Int} {w : World} (h : Rd w a l c xs) (hl : l≤1099511627776) :
  Calls Tryz.prog 79 #[.agg #[.bool s,.slice a l c]] w fun e w' => e = .returned (.bool (StandsB s l xs))∧Below w.heap.size w w':=by
 go_enter Tryz.func79,Tryz.ntmps79
 go_wp2_with fail
 have x:=zb_new w s a l c
 have b0:=below_alloc w (.cells #[.bool s,.slice a l c] 37)
 have hn:=h.below b0
 generalize w.alloc (.cells #[.bool s,.slice a l c] 37) = wb at *
 generalize hp : w.heap.size = p at *
 replace hp:=hide hp
 refine (rnorm_any (s:=s) hn hl).mono ?_
 rintro e w1 ⟨ad,rfl,k1⟩
 have u0:=(x.below k1).c0
 have u1:=(x.below k1).c1
 have hpw : p < w1.heap.size:=Nat.lt_of_lt_of_le x.lt k1.size
 have hB : Below p w w1:=b0.trans (k1.mono (Nat.le_of_lt x.lt))
 obtain ⟨len,hlen⟩ : ∃ n,n = tl xs l:=⟨_,rfl⟩
 rw [← hlen]
 replace hlen:=hide hlen
 by_cases hs : (s && decide (0 < len)) = s
 ·have e1 : (s == (s && decide (0 < len))) = true:=by rw [hs]; simp
  have e2 : ((s && decide (0 < len)) == s) = true:=by rw [hs]; simp
  have E1:=hide e1
  clear e1
  generalize hsn : (s && decide (0 < len)) = s' at *
  replace hsn:=hide hsn
  go_wp2
  go_ret
  exact ⟨ret_bool (by unfold StandsB; rw [← unhide hlen,unhide hsn,unhide E1]; by_cases hl0 : len = l <;> simp [hl0] <;> omega),hp.out.symm ▸ hB.alloc (Nat.le_of_lt hpw) _⟩
 have e1 : (s == (s && decide (0 < len))) = false:=beq_eq_false_iff_ne.2 (fun e => hs e.symm)
 have e2 : ((s && decide (0 < len)) == s) = false:=beq_eq_false_iff_ne.2 hs
 have E1:=hide e1
 clear e1
 generalize hsn : (s && decide (0 < len)) = s' at *
 replace hsn:=hide hsn
 go_wp2
 go_ret
 exact ⟨ret_bool (by unfold StandsB; rw [← unhide hlen,unhide hsn,unhide E1]; simp),hp.out.symm ▸ hB.alloc (Nat.le_of_lt hpw) _⟩

end Go.Proofs.YtcfmkjegolpgaaaGreatDoor
