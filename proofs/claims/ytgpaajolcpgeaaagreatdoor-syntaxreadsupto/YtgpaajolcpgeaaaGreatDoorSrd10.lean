/-
 Several texts in one: Z4, Z5, Z6, Z7.
-/
import Derived.Test.YtgpaajolcpgeaaaGreatDoorSrd08
import Derived.Test.YtgpaajolcpgeaaaGreatDoorSrd09
import Derived.Laws.MathBits
namespace Go.Proofs.YtgpaajolcpgeaaaGreatDoor
open Go.RowKit

end Go.Proofs.YtgpaajolcpgeaaaGreatDoor

namespace Go.Proofs.YtgpaajolcpgeaaaGreatDoor
open Go.RowKit

/-- the text of a number -/
def zText (z : Int) : ByteArray := if z < 0 then ⟨#[45]⟩ ++ ⟨(Lib.decDigits (-z).toNat).toArray⟩ else ⟨(Lib.decDigits z.toNat).toArray⟩

theorem dec_bound {w : World} {a : Option Addr} {l c : Nat} {n : Int} (h : Nm w a l c n) : (Lib.decDigits n.toNat).length ≤ 10 * (l + 1) := by
 obtain ⟨zs, h1, rfl⟩ := h
 refine dec_length_le _ _ ?_ (by omega)
 have hv := (vl_bd h1.2.2.2.1 zs.length).2
 have h0 := val_nonneg h1.2.2.2.1
 have hp : ∀ k, pw k ≤ ((10 ^ (10 * k) : Nat) : Int) := by
  intro k
  induction k with
  | zero => decide
  | succ k ih =>
   rw [pw_succ, show 10 * (k + 1) = 10 * k + 10 from by omega, Nat.pow_add]
   have : (0 : Int) ≤ ((10 ^ (10 * k) : Nat) : Int) := Int.natCast_nonneg _
   rw [Int.natCast_mul]
   have e : ((10 ^ 10 : Nat) : Int) = 10000000000 := by decide
   rw [e]
   omega
 have h2 := hp (l + 1)
 have h3 : pw zs.length ≤ pw (l + 1) := pw_mono (by have := h1.1; omega)
 have hvl : val zs < pw (l + 1) := Int.lt_of_lt_of_le hv h3
 omega

set_option maxRecDepth 100000 in
set_option maxHeartbeats 1600000 in
theorem ztext_n {s : Bool} {a : Option Addr} {l c : Nat} {z : Int} {w : World} (h : Zm w s a l c z) (hl : l ≤ 1099511627776) (htab : Tab w) :
  Calls Tryz.prog 147 #[.agg #[.bool s, .slice a l c]] w fun e w' => e = .returned (.string (zText z)) ∧ Below w.heap.size w w' := by
 obtain ⟨n, hn, rfl⟩ := h
 have h0 := hn.nonneg
 go_enter Tryz.func147, Tryz.ntmps147
 go_wp2_with fail
 have x := zb_new w s a l c
 have b0 := below_alloc w (.cells #[.bool s, .slice a l c] 25)
 replace hn := hn.below b0
 replace htab := htab.below b0
 generalize w.alloc (.cells #[.bool s, .slice a l c] 25) = wb at *
 generalize hp : w.heap.size = p at *
 replace hp := hide hp
 refine (zsign_n ⟨n, hn, rfl⟩ hl).mono ?_
 rintro e w1 ⟨rfl, k1⟩
 have u1 := (x.below k1).c1
 replace hn := hn.below k1
 replace htab := htab.below k1
 have hB : Below p w w1 := b0.trans (k1.mono (Nat.le_of_lt x.lt))
 by_cases hz : sg s n < 0
 ·rw [cmpI_lt hz]
  have hd := dec_bound hn
  have hn' : -sg s n = n := by cases s <;> simp [sg] at hz ⊢; omega
  go_wp2_with fail
  refine (text_n hn hl htab).mono ?_
  rintro e w2 ⟨rfl, k2⟩
  go_wp2
  go_ret
  exact ⟨by unfold zText; rw [if_pos hz, hn']; rfl, hp.out.symm ▸ hB.trans (k2.mono (Nat.le_trans (Nat.le_of_lt x.lt) k1.size))⟩
 ·have hc : ¬ cmpI (sg s n) 0 < 0 := by unfold cmpI; rw [if_neg hz]; split <;> decide
  have hn' : sg s n = n := by cases s <;> simp [sg] at hz ⊢; omega
  rw [hn'] at hz hc ⊢
  generalize cmpI n 0 = cc at *
  go_wp2_with fail
  refine (text_n hn hl htab).mono ?_
  rintro e w2 ⟨rfl, k2⟩
  go_wp2
  go_ret
  exact ⟨by unfold zText; rw [if_neg (by omega), hn']; rfl, hp.out.symm ▸ hB.trans (k2.mono (Nat.le_trans (Nat.le_of_lt x.lt) k1.size))⟩

end Go.Proofs.YtgpaajolcpgeaaaGreatDoor

namespace Go.Proofs.YtgpaajolcpgeaaaGreatDoor
open Go.RowKit

end Go.Proofs.YtgpaajolcpgeaaaGreatDoor

namespace Go.Proofs.YtgpaajolcpgeaaaGreatDoor
open Go.RowKit

end Go.Proofs.YtgpaajolcpgeaaaGreatDoor
