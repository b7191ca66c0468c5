/-
 The law PeriodsAlgebra: its walk.
-/
import Derived.Test.YtojciccmjpabmaaPjb14
import Derived.Lib.BufferMore
namespace Go.Proofs.Ytojciccmjpabmaa
open Go.RowKit
namespace Pd

theorem pickl_n (c n : Int) (h0 : -9223372036854775808 ≤ c) (h1 : c ≤ 9223372036854775807) (hn0 : 0 < n) (hn1 : n ≤ 9223372036854775807) (w : World) :
  Calls Try.prog 19 #[.int .i64 c, .int .i64 n] w fun e w' => e = .returned (.int .i64 (pkN c n)) ∧ Below w.heap.size w w' := by
 have hne : (n == 0) = false := by rw [beq_eq_false_iff_ne]; omega
 by_cases hc : c < 0
 ·have hr := Int.emod_lt_of_pos (-(c + 1)) hn0
  have hr0 := Int.emod_nonneg (-(c + 1)) (show n ≠ 0 from by omega)
  go_enter Try.func19, Try.ntmps19
  go_wp2
  go_ret
  refine ⟨ret_int ?_, Below.refl _ _⟩
  unfold pkN
  rw [if_pos hc, Int.toNat_of_nonneg hr0, ← Int.tmod_eq_emod_of_nonneg (show 0 ≤ -(c + 1) from by omega), Int.neg_tmod]
 ·have hr := Int.emod_lt_of_pos c hn0
  have hr0 := Int.emod_nonneg c (show n ≠ 0 from by omega)
  go_enter Try.func19, Try.ntmps19
  go_wp2
  go_ret
  refine ⟨ret_int ?_, Below.refl _ _⟩
  unfold pkN
  rw [if_neg (by omega), Int.toNat_of_nonneg hr0]
/-- Same tells b -/
theorem same_b {w : World} {bA bB : Nat} {A B : PD} (hA : PS w bA A) (hB : PS w bB B) (hfA : A.cs.length ≤ 536869999) (hfB : B.cs.length ≤ 536869999) {b : Bool} (hb : b = true ↔ ∀ x, mem A x = mem B x) :
  Calls Try.prog 20 #[.pointer (some ⟨bA, 0, none⟩), .pointer (some ⟨bB, 0, none⟩)] w fun e w' => e = .returned (.bool b) ∧ Below w.heap.size w w' :=
 (same_n hA hB hfA hfB).mono fun _ _ ⟨b', h1, h2, h3⟩ => ⟨by rw [h1, Bool.eq_iff_iff.2 (h3.trans hb.symm)], h2⟩
theorem same_iff_t {f g : Int → Bool} (h : ∀ x, f x = g x) : true = true ↔ ∀ x, f x = g x := ⟨fun _ => h, fun _ => rfl⟩
theorem same_iff_f {f g : Int → Bool} (h : ∃ x, f x ≠ g x) : false = true ↔ ∀ x, f x = g x := ⟨fun e => (by cases e), fun h2 => (by obtain ⟨x, hx⟩ := h; exact absurd (h2 x) hx)⟩
theorem same_ex (f g : Int → Bool) : ∃ b : Bool, b = true ↔ ∀ x, f x = g x := by
 by_cases h : ∀ x, f x = g x
 ·exact ⟨true, same_iff_t h⟩
 ·exact ⟨false, ⟨fun e => (by cases e), fun e => absurd e h⟩⟩
theorem jerr_or (n : Nat) : jErr n = 0 ∨ jErr n = 180 := by
 unfold jErr
 split
 ·exact .inr rfl
 ·exact .inl rfl
set_option maxRecDepth 100000 in
set_option maxHeartbeats 12800000 in
theorem periodsAlgebra_walk {w : World} {la : Option Addr} {ln lc : Nat} {R0 : List MkD} {i j k : Int} (hR0 : MLs w la ln R0) (hn : ln ≤ 1048576) (hi : Iw i) (hj : Iw j) (hk : Iw k) :
  Calls Try.prog 5 #[.slice la ln lc, .agg #[.int .i64 i, .int .i64 j, .int .i64 k]] w fun e w' => e = .returned (.bool true) ∧ Below w.heap.size w w' := by
 have b0 := below_alloc w (.cells #[.int .i64 i, .int .i64 j, .int .i64 k] 44)
 have y0 := heap_alloc_new w (.cells #[.int .i64 i, .int .i64 j, .int .i64 k] 44)
 have hset := hide (sets_n (lc := lc) (hR0.below b0) hn)
 obtain ⟨i0, i1⟩ := hi
 obtain ⟨j0, j1⟩ := hj
 obtain ⟨k0, k1⟩ := hk
 have q0 := cell_of_row _ _ 0 _ _ (0, 0) y0
 have q1 := cell_of_row _ _ 1 _ _ (0, 0) y0
 have q2 := cell_of_row _ _ 2 _ _ (0, 0) y0
 have hbt : w.heap.size < (w.alloc (.cells #[.int .i64 i, .int .i64 j, .int .i64 k] 44)).heap.size := by simp
 replace b0 := hide b0
 clear hR0 y0
 go_enter Try.func5, Try.ntmps5
 go_upto_region 1 with (fail)
 generalize w.alloc (.cells #[.int .i64 i, .int .i64 j, .int .i64 k] 44) = w0 at *
 obtain ⟨bt, hbw⟩ : ∃ bt, w.heap.size = bt := ⟨_, rfl⟩
 rw [hbw] at q0 q1 q2 hbt ⊢
 replace hbw := hide hbw
 go_wp2_with fail
 refine hset.out.mono ?_
 rintro e w1 ⟨sa, sn, sc, Ds, rfl, hsa, hsl, hs1, hs2, hcs, -, kN⟩
 obtain ⟨ba, hbal, rfl, -⟩ := hsl.get (i := 0) hs1 (by have := hsl.1; omega)
 have hkn := hide (known_n w1)
 have hnil : ∀ W : World, (binOp .eql 24 (.slice (some ⟨ba, 0, none⟩) sn sc) (.slice none 0 0)).run Try.prog W = .ok (.bool false) W := fun W => Go.Lib.run_eql_slice_some_nil W _ _ _ Try.underlying24
 clear hsa
 replace hsl := hide hsl
 replace hcs := hide hcs
 clear hset
 go_wp2_with fail
 refine hkn.out.mono ?_
 rintro e w2 ⟨rfl, k2⟩
 have hs := hide (hsl.out.below k2)
 have k20 := grow_step k2 kN
 have p0 := (k20.cell (p := ⟨bt, 0, none⟩) hbt).trans q0
 have p1 := (k20.cell (p := ⟨bt, 1, none⟩) hbt).trans q1
 have p2 := (k20.cell (p := ⟨bt, 2, none⟩) hbt).trans q2
 have hbt2 := Nat.lt_of_lt_of_le hbt k20.size
 have kw : Hid (Below w.heap.size w w2) := hide (by rw [hbw.out]; exact (by have := b0.out; rw [hbw.out] at this; exact this.trans (k20.mono (Nat.le_of_lt hbt))))
 have hl := hs.out.1
 have hji := pkN_lt (c := i) (n := (sn : Int)) (by omega)
 have hjj := pkN_lt (c := j) (n := (sn : Int)) (by omega)
 have hjk := pkN_lt (c := k) (n := (sn : Int)) (by omega)
 have hci := hide (pickl_n i sn i0 i1 (by omega) (by omega) w2)
 obtain ⟨xi, hxi⟩ : ∃ xi, pkN i (sn : Int) = xi := ⟨_, rfl⟩
 obtain ⟨xj, hxj⟩ : ∃ xj, pkN j (sn : Int) = xj := ⟨_, rfl⟩
 obtain ⟨xk, hxk⟩ : ∃ xk, pkN k (sn : Int) = xk := ⟨_, rfl⟩
 rw [hxi] at hji hci
 rw [hxj] at hjj
 rw [hxk] at hjk
 obtain ⟨_, sA, e1, hba, dA, hA⟩ := hs.out.get (i := xi) (by omega) (by omega)
 cases e1
 obtain ⟨_, sB, e1, -, dB, hB⟩ := hs.out.get (i := xj) (by omega) (by omega)
 cases e1
 obtain ⟨_, sC, e1, -, dC, hC⟩ := hs.out.get (i := xk) (by omega) (by omega)
 cases e1
 have lA := hcs.out _ (List.getElem_mem (show xi < Ds.length by omega))
 have lB := hcs.out _ (List.getElem_mem (show xj < Ds.length by omega))
 have lC := hcs.out _ (List.getElem_mem (show xk < Ds.length by omega))
 generalize Ds[xi]'(by omega) = A at *
 generalize Ds[xj]'(by omega) = B at *
 generalize Ds[xk]'(by omega) = C at *
 replace hA := hide hA
 replace hB := hide hB
 replace hC := hide hC
 clear hkn hsl k2 k20 q0 q1 q2 hbt hs hl kN
 go_wp2_with fail
 refine hci.out.mono ?_
 rintro e w3 ⟨rfl, kN⟩
 have u1 := (kN.cell (p := ⟨bt, 1, none⟩) hbt2).trans p1
 have u2 := (kN.cell (p := ⟨bt, 2, none⟩) hbt2).trans p2
 have gA := (kN.cell (p := ⟨ba, xi, none⟩) hba).trans dA
 have gB := (kN.cell (p := ⟨ba, xj, none⟩) hba).trans dB
 have gC := (kN.cell (p := ⟨ba, xk, none⟩) hba).trans dC
 have hbt3 := Nat.lt_of_lt_of_le hbt2 kN.size
 have hba3 := Nat.lt_of_lt_of_le hba kN.size
 replace hA := hide (hA.out.below kN)
 replace hB := hide (hB.out.below kN)
 replace hC := hide (hC.out.below kN)
 replace kw := hide (grow_step kN kw.out)
 have hcj := hide (pickl_n j sn j0 j1 (by omega) (by omega) w3)
 rw [hxj] at hcj
 clear hci p0 p1 p2 dA dB dC hbt2 hba kN
 go_wp2_with fail
 refine hcj.out.mono ?_
 rintro e w4 ⟨rfl, kN⟩
 have v2 := (kN.cell (p := ⟨bt, 2, none⟩) hbt3).trans u2
 have fB := (kN.cell (p := ⟨ba, xj, none⟩) hba3).trans gB
 have fC := (kN.cell (p := ⟨ba, xk, none⟩) hba3).trans gC
 have hba4 := Nat.lt_of_lt_of_le hba3 kN.size
 replace hA := hide (hA.out.below kN)
 replace hB := hide (hB.out.below kN)
 replace hC := hide (hC.out.below kN)
 replace kw := hide (grow_step kN kw.out)
 have hck := hide (pickl_n k sn k0 k1 (by omega) (by omega) w4)
 rw [hxk] at hck
 clear hcj u1 u2 gA gB gC hbt3 hba3 kN
 go_wp2_with fail
 refine hck.out.mono ?_
 rintro e w5 ⟨rfl, kN⟩
 have eC := (kN.cell (p := ⟨ba, xk, none⟩) hba4).trans fC
 replace hA := hide (hA.out.below kN)
 replace hB := hide (hB.out.below kN)
 replace hC := hide (hC.out.below kN)
 replace kw := hide (grow_step kN kw.out)
 clear hck v2 fB fC hba4 kN
 obtain ⟨bAB, hAB⟩ := same_ex (mem A) (mem B)
 obtain ⟨bBC, hBC⟩ := same_ex (mem B) (mem C)
 have hBA : bAB = true ↔ ∀ x, mem B x = mem A x := hAB.trans ⟨fun h x => (h x).symm, fun h x => (h x).symm⟩
 replace hAB := hide hAB
 replace hBA := hide hBA
 replace hBC := hide hBC
 have hc := hide (rest_n hA.out (by omega))
 go_wp2_with fail
 refine hc.out.mono ?_
 rintro e wN ⟨sR, R, rfl, hR, kN, pR, cR, mR⟩
 clear hc eC
 replace hA := hide (hA.out.below kN)
 replace hB := hide (hB.out.below kN)
 replace hC := hide (hC.out.below kN)
 replace kw := hide (grow_step kN kw.out)
 have lR : R.cs.length ≤ A.cs.length := by rw [cR]; exact Nat.le_refl _
 clear cR
 replace pR := hide pR
 replace mR := hide mR
 clear kN
 replace hR := hide hR
 have hc := hide (rest_n hR.out (by omega))
 go_wp2_with fail
 refine hc.out.mono ?_
 rintro e wN ⟨sQ, Q, rfl, hQ, kN, pQ, cQ, mQ⟩
 clear hc
 replace hA := hide (hA.out.below kN)
 replace hB := hide (hB.out.below kN)
 replace hC := hide (hC.out.below kN)
 replace hR := hide (hR.out.below kN)
 replace kw := hide (grow_step kN kw.out)
 have lQ : Q.cs.length ≤ R.cs.length := by rw [cQ]; exact Nat.le_refl _
 clear cQ
 replace pQ := hide pQ
 replace mQ := hide mQ
 clear kN
 replace hQ := hide hQ
 have hc := hide (rest_n hR.out (by omega))
 go_wp2_with fail
 refine hc.out.mono ?_
 rintro e wN ⟨sT, T, rfl, hT, kN, pT, cT, mT⟩
 clear hc
 replace hA := hide (hA.out.below kN)
 replace hB := hide (hB.out.below kN)
 replace hC := hide (hC.out.below kN)
 replace hR := hide (hR.out.below kN)
 replace hQ := hide (hQ.out.below kN)
 replace kw := hide (grow_step kN kw.out)
 have lT : T.cs.length ≤ R.cs.length := by rw [cT]; exact Nat.le_refl _
 clear cT
 replace pT := hide pT
 replace mT := hide mT
 clear kN
 replace hT := hide hT
 have hc := hide (same_b hT.out hA.out (by omega) (by omega) (b := true) (same_iff_t (fun x => by rw [mT.out, mR.out]; simp)))
 go_wp2_with fail
 refine hc.out.mono ?_
 rintro e wN ⟨rfl, kN⟩
 clear hc
 replace hA := hide (hA.out.below kN)
 replace hB := hide (hB.out.below kN)
 replace hC := hide (hC.out.below kN)
 replace hR := hide (hR.out.below kN)
 replace hQ := hide (hQ.out.below kN)
 replace hT := hide (hT.out.below kN)
 replace kw := hide (grow_step kN kw.out)
 clear kN
 have hc := hide (same_b hA.out hA.out (by omega) (by omega) (b := true) (same_iff_t (fun _ => rfl)))
 go_wp2_with fail
 refine hc.out.mono ?_
 rintro e wN ⟨rfl, kN⟩
 clear hc
 replace hA := hide (hA.out.below kN)
 replace hB := hide (hB.out.below kN)
 replace hC := hide (hC.out.below kN)
 replace hR := hide (hR.out.below kN)
 replace hQ := hide (hQ.out.below kN)
 replace hT := hide (hT.out.below kN)
 replace kw := hide (grow_step kN kw.out)
 clear kN
 have hc := hide (same_b hA.out hB.out (by omega) (by omega) hAB.out)
 go_wp2_with fail
 refine hc.out.mono ?_
 rintro e wN ⟨rfl, kN⟩
 clear hc
 replace hA := hide (hA.out.below kN)
 replace hB := hide (hB.out.below kN)
 replace hC := hide (hC.out.below kN)
 replace hR := hide (hR.out.below kN)
 replace hQ := hide (hQ.out.below kN)
 replace hT := hide (hT.out.below kN)
 replace kw := hide (grow_step kN kw.out)
 clear kN
 have hc := hide (same_b hB.out hA.out (by omega) (by omega) hBA.out)
 go_wp2_with fail
 refine hc.out.mono ?_
 rintro e wN ⟨rfl, kN⟩
 clear hc
 replace hA := hide (hA.out.below kN)
 replace hB := hide (hB.out.below kN)
 replace hC := hide (hC.out.below kN)
 replace hR := hide (hR.out.below kN)
 replace hQ := hide (hQ.out.below kN)
 replace hT := hide (hT.out.below kN)
 replace kw := hide (grow_step kN kw.out)
 clear kN
 have hc := hide (same_b hA.out hR.out (by omega) (by omega) (b := false) (same_iff_f ⟨0, by rw [mR.out]; simp⟩))
 go_wp2_with fail
 refine hc.out.mono ?_
 rintro e wN ⟨rfl, kN⟩
 clear hc
 replace hA := hide (hA.out.below kN)
 replace hB := hide (hB.out.below kN)
 replace hC := hide (hC.out.below kN)
 replace hR := hide (hR.out.below kN)
 replace hQ := hide (hQ.out.below kN)
 replace hT := hide (hT.out.below kN)
 replace kw := hide (grow_step kN kw.out)
 clear kN
 have hways : (bAB = false ∨ (bAB = true ∧ bBC = false)) ∨ (bAB = true ∧ bBC = true) := by cases bAB <;> cases bBC <;> simp
 rcases hways with (rfl | ⟨rfl, rfl⟩) | ⟨rfl, rfl⟩
 ·have hc := hide (same_b hA.out hB.out (by omega) (by omega) hAB.out)
  go_wp2_with fail
  refine hc.out.mono ?_
  rintro e wN ⟨rfl, kN⟩
  clear hc
  replace hA := hide (hA.out.below kN)
  replace hB := hide (hB.out.below kN)
  replace hC := hide (hC.out.below kN)
  replace hR := hide (hR.out.below kN)
  replace hQ := hide (hQ.out.below kN)
  replace hT := hide (hT.out.below kN)
  replace kw := hide (grow_step kN kw.out)
  clear kN
  go_upto_region 12 with (fail)
  rcases jerr_or (Nat.lcm A.p B.p) with herr | herr
  rotate_left
  ·have herr2 : jErr (Nat.lcm B.p A.p) = 180 := by rw [Nat.lcm_comm]; exact herr
   have hc := hide (meet_n hA.out hB.out (by omega) (by omega))
   rw [herr] at hc
   go_wp2_with fail
   refine hc.out.mono ?_
   rintro e wN ⟨kN, ⟨-, rfl⟩ | ⟨h0, -⟩⟩
   rotate_left
   ·exact absurd h0 (by decide)
   clear hc
   replace hA := hide (hA.out.below kN)
   replace hB := hide (hB.out.below kN)
   replace hC := hide (hC.out.below kN)
   replace hR := hide (hR.out.below kN)
   replace hQ := hide (hQ.out.below kN)
   replace hT := hide (hT.out.below kN)
   replace kw := hide (grow_step kN kw.out)
   clear kN
   have hc := hide (meet_n hB.out hA.out (by omega) (by omega))
   rw [herr2] at hc
   go_wp2_with fail
   refine hc.out.mono ?_
   rintro e wN ⟨kN, ⟨-, rfl⟩ | ⟨h0, -⟩⟩
   rotate_left
   ·exact absurd h0 (by decide)
   clear hc
   replace hA := hide (hA.out.below kN)
   replace hB := hide (hB.out.below kN)
   replace hC := hide (hC.out.below kN)
   replace hR := hide (hR.out.below kN)
   replace hQ := hide (hQ.out.below kN)
   replace hT := hide (hT.out.below kN)
   replace kw := hide (grow_step kN kw.out)
   clear kN
   go_wp2
   exact bodyPost_ret (results_tmp rfl _ _ _) rfl ⟨rfl, kw.out⟩
  ·have herr2 : jErr (Nat.lcm B.p A.p) = 0 := by rw [Nat.lcm_comm]; exact herr
   have hc := hide (meet_n hA.out hB.out (by omega) (by omega))
   rw [herr] at hc
   go_wp2_with fail
   refine hc.out.mono ?_
   rintro e wN ⟨kN, ⟨h0, -⟩ | ⟨-, sX, X, rfl, hX, pX, lX, mX, -⟩⟩
   ·exact absurd rfl h0
   clear hc
   replace hA := hide (hA.out.below kN)
   replace hB := hide (hB.out.below kN)
   replace hC := hide (hC.out.below kN)
   replace hR := hide (hR.out.below kN)
   replace hQ := hide (hQ.out.below kN)
   replace hT := hide (hT.out.below kN)
   replace kw := hide (grow_step kN kw.out)
   clear kN
   replace pX := hide pX
   replace mX := hide mX
   replace hX := hide hX
   have hc := hide (meet_n hB.out hA.out (by omega) (by omega))
   rw [herr2] at hc
   go_wp2_with fail
   refine hc.out.mono ?_
   rintro e wN ⟨kN, ⟨h0, -⟩ | ⟨-, sY, Y, rfl, hY, pY, lY, mY, -⟩⟩
   ·exact absurd rfl h0
   clear hc
   replace hA := hide (hA.out.below kN)
   replace hB := hide (hB.out.below kN)
   replace hC := hide (hC.out.below kN)
   replace hR := hide (hR.out.below kN)
   replace hQ := hide (hQ.out.below kN)
   replace hT := hide (hT.out.below kN)
   replace hX := hide (hX.out.below kN)
   replace kw := hide (grow_step kN kw.out)
   clear kN
   replace pY := hide pY
   replace mY := hide mY
   replace hY := hide hY
   have hc := hide (rest_n hB.out (by omega))
   go_wp2_with fail
   refine hc.out.mono ?_
   rintro e wN ⟨sS, S, rfl, hS, kN, pS, cS, mS⟩
   clear hc
   replace hA := hide (hA.out.below kN)
   replace hB := hide (hB.out.below kN)
   replace hC := hide (hC.out.below kN)
   replace hR := hide (hR.out.below kN)
   replace hQ := hide (hQ.out.below kN)
   replace hT := hide (hT.out.below kN)
   replace hX := hide (hX.out.below kN)
   replace hY := hide (hY.out.below kN)
   replace kw := hide (grow_step kN kw.out)
   have lS : S.cs.length ≤ B.cs.length := by rw [cS]; exact Nat.le_refl _
   clear cS
   replace pS := hide pS
   replace mS := hide mS
   clear kN
   replace hS := hide hS
   have herr3 : jErr (Nat.lcm R.p S.p) = 0 := by rw [pR.out, pS.out]; exact herr
   have hc := hide (join_n hR.out hS.out (by omega) (by omega))
   rw [herr3] at hc
   go_wp2_with fail
   refine hc.out.mono ?_
   rintro e wN ⟨kN, ⟨h0, -⟩ | ⟨-, sU, U, rfl, hU, pU, lU, mU, -⟩⟩
   ·exact absurd rfl h0
   clear hc
   replace hA := hide (hA.out.below kN)
   replace hB := hide (hB.out.below kN)
   replace hC := hide (hC.out.below kN)
   replace hR := hide (hR.out.below kN)
   replace hQ := hide (hQ.out.below kN)
   replace hT := hide (hT.out.below kN)
   replace hX := hide (hX.out.below kN)
   replace hY := hide (hY.out.below kN)
   replace hS := hide (hS.out.below kN)
   replace kw := hide (grow_step kN kw.out)
   clear kN
   replace pU := hide pU
   replace mU := hide mU
   replace hU := hide hU
   have hc := hide (same_b hX.out hY.out (by omega) (by omega) (b := true) (same_iff_t (fun x => by rw [mX.out, mY.out, Bool.and_comm])))
   go_wp2_with fail
   refine hc.out.mono ?_
   rintro e wN ⟨rfl, kN⟩
   clear hc
   replace hA := hide (hA.out.below kN)
   replace hB := hide (hB.out.below kN)
   replace hC := hide (hC.out.below kN)
   replace hR := hide (hR.out.below kN)
   replace hQ := hide (hQ.out.below kN)
   replace hT := hide (hT.out.below kN)
   replace hX := hide (hX.out.below kN)
   replace hY := hide (hY.out.below kN)
   replace hS := hide (hS.out.below kN)
   replace hU := hide (hU.out.below kN)
   replace kw := hide (grow_step kN kw.out)
   clear kN
   have hc := hide (rest_n hX.out (by omega))
   go_wp2_with fail
   refine hc.out.mono ?_
   rintro e wN ⟨sV, V, rfl, hV, kN, pV, cV, mV⟩
   clear hc
   replace hA := hide (hA.out.below kN)
   replace hB := hide (hB.out.below kN)
   replace hC := hide (hC.out.below kN)
   replace hR := hide (hR.out.below kN)
   replace hQ := hide (hQ.out.below kN)
   replace hT := hide (hT.out.below kN)
   replace hX := hide (hX.out.below kN)
   replace hY := hide (hY.out.below kN)
   replace hS := hide (hS.out.below kN)
   replace hU := hide (hU.out.below kN)
   replace kw := hide (grow_step kN kw.out)
   have lV : V.cs.length ≤ X.cs.length := by rw [cV]; exact Nat.le_refl _
   clear cV
   replace pV := hide pV
   replace mV := hide mV
   clear kN
   replace hV := hide hV
   have hc := hide (same_b hU.out hV.out (by omega) (by omega) (b := true) (same_iff_t (fun x => by rw [mU.out, mV.out, mX.out, mR.out, mS.out]; cases mem A x <;> cases mem B x <;> rfl)))
   go_wp2_with fail
   refine hc.out.mono ?_
   rintro e wN ⟨rfl, kN⟩
   clear hc
   replace hA := hide (hA.out.below kN)
   replace hB := hide (hB.out.below kN)
   replace hC := hide (hC.out.below kN)
   replace hR := hide (hR.out.below kN)
   replace hQ := hide (hQ.out.below kN)
   replace hT := hide (hT.out.below kN)
   replace hX := hide (hX.out.below kN)
   replace hY := hide (hY.out.below kN)
   replace hS := hide (hS.out.below kN)
   replace hU := hide (hU.out.below kN)
   replace hV := hide (hV.out.below kN)
   replace kw := hide (grow_step kN kw.out)
   clear kN
   rcases jerr_or (Nat.lcm X.p C.p) with her4 | her4 <;> rcases jerr_or (Nat.lcm B.p C.p) with her5 | her5
   rotate_left
   ·have hc := hide (meet_n hX.out hC.out (by omega) (by omega))
    rw [her4] at hc
    go_wp2_with fail
    refine hc.out.mono ?_
    rintro e wN ⟨kN, ⟨h0, -⟩ | ⟨-, sP, P, rfl, hP, pP, lP, mP, -⟩⟩
    ·exact absurd rfl h0
    clear hc
    replace hA := hide (hA.out.below kN)
    replace hB := hide (hB.out.below kN)
    replace hC := hide (hC.out.below kN)
    replace hR := hide (hR.out.below kN)
    replace hQ := hide (hQ.out.below kN)
    replace hT := hide (hT.out.below kN)
    replace hX := hide (hX.out.below kN)
    replace hY := hide (hY.out.below kN)
    replace hS := hide (hS.out.below kN)
    replace hU := hide (hU.out.below kN)
    replace hV := hide (hV.out.below kN)
    replace kw := hide (grow_step kN kw.out)
    clear kN
    replace pP := hide pP
    replace mP := hide mP
    replace hP := hide hP
    have hc := hide (meet_n hB.out hC.out (by omega) (by omega))
    rw [her5] at hc
    go_wp2_with fail
    refine hc.out.mono ?_
    rintro e wN ⟨kN, ⟨-, rfl⟩ | ⟨h0, -⟩⟩
    rotate_left
    ·exact absurd h0 (by decide)
    clear hc
    replace hA := hide (hA.out.below kN)
    replace hB := hide (hB.out.below kN)
    replace hC := hide (hC.out.below kN)
    replace hR := hide (hR.out.below kN)
    replace hQ := hide (hQ.out.below kN)
    replace hT := hide (hT.out.below kN)
    replace hX := hide (hX.out.below kN)
    replace hY := hide (hY.out.below kN)
    replace hS := hide (hS.out.below kN)
    replace hU := hide (hU.out.below kN)
    replace hV := hide (hV.out.below kN)
    replace hP := hide (hP.out.below kN)
    replace kw := hide (grow_step kN kw.out)
    clear kN
    go_wp2
    exact bodyPost_ret (results_tmp rfl _ _ _) rfl ⟨rfl, kw.out⟩
   ·have hc := hide (meet_n hX.out hC.out (by omega) (by omega))
    rw [her4] at hc
    go_wp2_with fail
    refine hc.out.mono ?_
    rintro e wN ⟨kN, ⟨-, rfl⟩ | ⟨h0, -⟩⟩
    rotate_left
    ·exact absurd h0 (by decide)
    clear hc
    replace hA := hide (hA.out.below kN)
    replace hB := hide (hB.out.below kN)
    replace hC := hide (hC.out.below kN)
    replace hR := hide (hR.out.below kN)
    replace hQ := hide (hQ.out.below kN)
    replace hT := hide (hT.out.below kN)
    replace hX := hide (hX.out.below kN)
    replace hY := hide (hY.out.below kN)
    replace hS := hide (hS.out.below kN)
    replace hU := hide (hU.out.below kN)
    replace hV := hide (hV.out.below kN)
    replace kw := hide (grow_step kN kw.out)
    clear kN
    have hc := hide (meet_n hB.out hC.out (by omega) (by omega))
    rw [her5] at hc
    go_wp2_with fail
    refine hc.out.mono ?_
    rintro e wN ⟨kN, ⟨h0, -⟩ | ⟨-, sO, O, rfl, hO, pO, lO, mO, -⟩⟩
    ·exact absurd rfl h0
    clear hc
    replace hA := hide (hA.out.below kN)
    replace hB := hide (hB.out.below kN)
    replace hC := hide (hC.out.below kN)
    replace hR := hide (hR.out.below kN)
    replace hQ := hide (hQ.out.below kN)
    replace hT := hide (hT.out.below kN)
    replace hX := hide (hX.out.below kN)
    replace hY := hide (hY.out.below kN)
    replace hS := hide (hS.out.below kN)
    replace hU := hide (hU.out.below kN)
    replace hV := hide (hV.out.below kN)
    replace kw := hide (grow_step kN kw.out)
    clear kN
    replace pO := hide pO
    replace mO := hide mO
    replace hO := hide hO
    go_wp2
    exact bodyPost_ret (results_tmp rfl _ _ _) rfl ⟨rfl, kw.out⟩
   ·have hc := hide (meet_n hX.out hC.out (by omega) (by omega))
    rw [her4] at hc
    go_wp2_with fail
    refine hc.out.mono ?_
    rintro e wN ⟨kN, ⟨-, rfl⟩ | ⟨h0, -⟩⟩
    rotate_left
    ·exact absurd h0 (by decide)
    clear hc
    replace hA := hide (hA.out.below kN)
    replace hB := hide (hB.out.below kN)
    replace hC := hide (hC.out.below kN)
    replace hR := hide (hR.out.below kN)
    replace hQ := hide (hQ.out.below kN)
    replace hT := hide (hT.out.below kN)
    replace hX := hide (hX.out.below kN)
    replace hY := hide (hY.out.below kN)
    replace hS := hide (hS.out.below kN)
    replace hU := hide (hU.out.below kN)
    replace hV := hide (hV.out.below kN)
    replace kw := hide (grow_step kN kw.out)
    clear kN
    have hc := hide (meet_n hB.out hC.out (by omega) (by omega))
    rw [her5] at hc
    go_wp2_with fail
    refine hc.out.mono ?_
    rintro e wN ⟨kN, ⟨-, rfl⟩ | ⟨h0, -⟩⟩
    rotate_left
    ·exact absurd h0 (by decide)
    clear hc
    replace hA := hide (hA.out.below kN)
    replace hB := hide (hB.out.below kN)
    replace hC := hide (hC.out.below kN)
    replace hR := hide (hR.out.below kN)
    replace hQ := hide (hQ.out.below kN)
    replace hT := hide (hT.out.below kN)
    replace hX := hide (hX.out.below kN)
    replace hY := hide (hY.out.below kN)
    replace hS := hide (hS.out.below kN)
    replace hU := hide (hU.out.below kN)
    replace hV := hide (hV.out.below kN)
    replace kw := hide (grow_step kN kw.out)
    clear kN
    go_wp2
    exact bodyPost_ret (results_tmp rfl _ _ _) rfl ⟨rfl, kw.out⟩
   ·have hc := hide (meet_n hX.out hC.out (by omega) (by omega))
    rw [her4] at hc
    go_wp2_with fail
    refine hc.out.mono ?_
    rintro e wN ⟨kN, ⟨h0, -⟩ | ⟨-, sP, P, rfl, hP, pP, lP, mP, -⟩⟩
    ·exact absurd rfl h0
    clear hc
    replace hA := hide (hA.out.below kN)
    replace hB := hide (hB.out.below kN)
    replace hC := hide (hC.out.below kN)
    replace hR := hide (hR.out.below kN)
    replace hQ := hide (hQ.out.below kN)
    replace hT := hide (hT.out.below kN)
    replace hX := hide (hX.out.below kN)
    replace hY := hide (hY.out.below kN)
    replace hS := hide (hS.out.below kN)
    replace hU := hide (hU.out.below kN)
    replace hV := hide (hV.out.below kN)
    replace kw := hide (grow_step kN kw.out)
    clear kN
    replace pP := hide pP
    replace mP := hide mP
    replace hP := hide hP
    have hc := hide (meet_n hB.out hC.out (by omega) (by omega))
    rw [her5] at hc
    go_wp2_with fail
    refine hc.out.mono ?_
    rintro e wN ⟨kN, ⟨h0, -⟩ | ⟨-, sO, O, rfl, hO, pO, lO, mO, -⟩⟩
    ·exact absurd rfl h0
    clear hc
    replace hA := hide (hA.out.below kN)
    replace hB := hide (hB.out.below kN)
    replace hC := hide (hC.out.below kN)
    replace hR := hide (hR.out.below kN)
    replace hQ := hide (hQ.out.below kN)
    replace hT := hide (hT.out.below kN)
    replace hX := hide (hX.out.below kN)
    replace hY := hide (hY.out.below kN)
    replace hS := hide (hS.out.below kN)
    replace hU := hide (hU.out.below kN)
    replace hV := hide (hV.out.below kN)
    replace hP := hide (hP.out.below kN)
    replace kw := hide (grow_step kN kw.out)
    clear kN
    replace pO := hide pO
    replace mO := hide mO
    replace hO := hide hO
    have her6 : jErr (Nat.lcm A.p O.p) = 0 := by rw [pO.out, ← Nat.lcm_assoc, ← pX.out]; exact her4
    have hc := hide (meet_n hA.out hO.out (by omega) (by omega))
    rw [her6] at hc
    go_wp2_with fail
    refine hc.out.mono ?_
    rintro e wN ⟨kN, ⟨h0, -⟩ | ⟨-, sZ, Z, rfl, hZ, pZ, lZ, mZ, -⟩⟩
    ·exact absurd rfl h0
    clear hc
    replace hA := hide (hA.out.below kN)
    replace hB := hide (hB.out.below kN)
    replace hC := hide (hC.out.below kN)
    replace hR := hide (hR.out.below kN)
    replace hQ := hide (hQ.out.below kN)
    replace hT := hide (hT.out.below kN)
    replace hX := hide (hX.out.below kN)
    replace hY := hide (hY.out.below kN)
    replace hS := hide (hS.out.below kN)
    replace hU := hide (hU.out.below kN)
    replace hV := hide (hV.out.below kN)
    replace hP := hide (hP.out.below kN)
    replace hO := hide (hO.out.below kN)
    replace kw := hide (grow_step kN kw.out)
    clear kN
    replace pZ := hide pZ
    replace mZ := hide mZ
    replace hZ := hide hZ
    have hc := hide (join_n hA.out hB.out (by omega) (by omega))
    rw [herr] at hc
    go_wp2_with fail
    refine hc.out.mono ?_
    rintro e wN ⟨kN, ⟨h0, -⟩ | ⟨-, sM, M, rfl, hM, pM, lM, mM, -⟩⟩
    ·exact absurd rfl h0
    clear hc
    replace hA := hide (hA.out.below kN)
    replace hB := hide (hB.out.below kN)
    replace hC := hide (hC.out.below kN)
    replace hR := hide (hR.out.below kN)
    replace hQ := hide (hQ.out.below kN)
    replace hT := hide (hT.out.below kN)
    replace hX := hide (hX.out.below kN)
    replace hY := hide (hY.out.below kN)
    replace hS := hide (hS.out.below kN)
    replace hU := hide (hU.out.below kN)
    replace hV := hide (hV.out.below kN)
    replace hP := hide (hP.out.below kN)
    replace hO := hide (hO.out.below kN)
    replace hZ := hide (hZ.out.below kN)
    replace kw := hide (grow_step kN kw.out)
    clear kN
    replace pM := hide pM
    replace mM := hide mM
    replace hM := hide hM
    have her7 : jErr (Nat.lcm M.p C.p) = 0 := by rw [pM.out, ← pX.out]; exact her4
    have hc := hide (meet_n hM.out hC.out (by omega) (by omega))
    rw [her7] at hc
    go_wp2_with fail
    refine hc.out.mono ?_
    rintro e wN ⟨kN, ⟨h0, -⟩ | ⟨-, sN, N, rfl, hN, pN, lN, mN, -⟩⟩
    ·exact absurd rfl h0
    clear hc
    replace hA := hide (hA.out.below kN)
    replace hB := hide (hB.out.below kN)
    replace hC := hide (hC.out.below kN)
    replace hR := hide (hR.out.below kN)
    replace hQ := hide (hQ.out.below kN)
    replace hT := hide (hT.out.below kN)
    replace hX := hide (hX.out.below kN)
    replace hY := hide (hY.out.below kN)
    replace hS := hide (hS.out.below kN)
    replace hU := hide (hU.out.below kN)
    replace hV := hide (hV.out.below kN)
    replace hP := hide (hP.out.below kN)
    replace hO := hide (hO.out.below kN)
    replace hZ := hide (hZ.out.below kN)
    replace hM := hide (hM.out.below kN)
    replace kw := hide (grow_step kN kw.out)
    clear kN
    replace pN := hide pN
    replace mN := hide mN
    replace hN := hide hN
    have hc := hide (same_b hZ.out hP.out (by omega) (by omega) (b := true) (same_iff_t (fun x => by rw [mZ.out, mP.out, mX.out, mO.out, Bool.and_assoc])))
    go_wp2_with fail
    refine hc.out.mono ?_
    rintro e wN ⟨rfl, kN⟩
    clear hc
    replace hA := hide (hA.out.below kN)
    replace hB := hide (hB.out.below kN)
    replace hC := hide (hC.out.below kN)
    replace hR := hide (hR.out.below kN)
    replace hQ := hide (hQ.out.below kN)
    replace hT := hide (hT.out.below kN)
    replace hX := hide (hX.out.below kN)
    replace hY := hide (hY.out.below kN)
    replace hS := hide (hS.out.below kN)
    replace hU := hide (hU.out.below kN)
    replace hV := hide (hV.out.below kN)
    replace hP := hide (hP.out.below kN)
    replace hO := hide (hO.out.below kN)
    replace hZ := hide (hZ.out.below kN)
    replace hM := hide (hM.out.below kN)
    replace hN := hide (hN.out.below kN)
    replace kw := hide (grow_step kN kw.out)
    clear kN
    go_wp2
    exact bodyPost_ret (results_tmp rfl _ _ _) rfl ⟨rfl, kw.out⟩
 ·have hc := hide (same_b hA.out hB.out (by omega) (by omega) hAB.out)
  go_wp2_with fail
  refine hc.out.mono ?_
  rintro e wN ⟨rfl, kN⟩
  clear hc
  replace hA := hide (hA.out.below kN)
  replace hB := hide (hB.out.below kN)
  replace hC := hide (hC.out.below kN)
  replace hR := hide (hR.out.below kN)
  replace hQ := hide (hQ.out.below kN)
  replace hT := hide (hT.out.below kN)
  replace kw := hide (grow_step kN kw.out)
  clear kN
  have hc := hide (same_b hB.out hC.out (by omega) (by omega) hBC.out)
  go_wp2_with fail
  refine hc.out.mono ?_
  rintro e wN ⟨rfl, kN⟩
  clear hc
  replace hA := hide (hA.out.below kN)
  replace hB := hide (hB.out.below kN)
  replace hC := hide (hC.out.below kN)
  replace hR := hide (hR.out.below kN)
  replace hQ := hide (hQ.out.below kN)
  replace hT := hide (hT.out.below kN)
  replace kw := hide (grow_step kN kw.out)
  clear kN
  go_upto_region 12 with (fail)
  rcases jerr_or (Nat.lcm A.p B.p) with herr | herr
  rotate_left
  ·have herr2 : jErr (Nat.lcm B.p A.p) = 180 := by rw [Nat.lcm_comm]; exact herr
   have hc := hide (meet_n hA.out hB.out (by omega) (by omega))
   rw [herr] at hc
   go_wp2_with fail
   refine hc.out.mono ?_
   rintro e wN ⟨kN, ⟨-, rfl⟩ | ⟨h0, -⟩⟩
   rotate_left
   ·exact absurd h0 (by decide)
   clear hc
   replace hA := hide (hA.out.below kN)
   replace hB := hide (hB.out.below kN)
   replace hC := hide (hC.out.below kN)
   replace hR := hide (hR.out.below kN)
   replace hQ := hide (hQ.out.below kN)
   replace hT := hide (hT.out.below kN)
   replace kw := hide (grow_step kN kw.out)
   clear kN
   have hc := hide (meet_n hB.out hA.out (by omega) (by omega))
   rw [herr2] at hc
   go_wp2_with fail
   refine hc.out.mono ?_
   rintro e wN ⟨kN, ⟨-, rfl⟩ | ⟨h0, -⟩⟩
   rotate_left
   ·exact absurd h0 (by decide)
   clear hc
   replace hA := hide (hA.out.below kN)
   replace hB := hide (hB.out.below kN)
   replace hC := hide (hC.out.below kN)
   replace hR := hide (hR.out.below kN)
   replace hQ := hide (hQ.out.below kN)
   replace hT := hide (hT.out.below kN)
   replace kw := hide (grow_step kN kw.out)
   clear kN
   go_wp2
   exact bodyPost_ret (results_tmp rfl _ _ _) rfl ⟨rfl, kw.out⟩
  ·have herr2 : jErr (Nat.lcm B.p A.p) = 0 := by rw [Nat.lcm_comm]; exact herr
   have hc := hide (meet_n hA.out hB.out (by omega) (by omega))
   rw [herr] at hc
   go_wp2_with fail
   refine hc.out.mono ?_
   rintro e wN ⟨kN, ⟨h0, -⟩ | ⟨-, sX, X, rfl, hX, pX, lX, mX, -⟩⟩
   ·exact absurd rfl h0
   clear hc
   replace hA := hide (hA.out.below kN)
   replace hB := hide (hB.out.below kN)
   replace hC := hide (hC.out.below kN)
   replace hR := hide (hR.out.below kN)
   replace hQ := hide (hQ.out.below kN)
   replace hT := hide (hT.out.below kN)
   replace kw := hide (grow_step kN kw.out)
   clear kN
   replace pX := hide pX
   replace mX := hide mX
   replace hX := hide hX
   have hc := hide (meet_n hB.out hA.out (by omega) (by omega))
   rw [herr2] at hc
   go_wp2_with fail
   refine hc.out.mono ?_
   rintro e wN ⟨kN, ⟨h0, -⟩ | ⟨-, sY, Y, rfl, hY, pY, lY, mY, -⟩⟩
   ·exact absurd rfl h0
   clear hc
   replace hA := hide (hA.out.below kN)
   replace hB := hide (hB.out.below kN)
   replace hC := hide (hC.out.below kN)
   replace hR := hide (hR.out.below kN)
   replace hQ := hide (hQ.out.below kN)
   replace hT := hide (hT.out.below kN)
   replace hX := hide (hX.out.below kN)
   replace kw := hide (grow_step kN kw.out)
   clear kN
   replace pY := hide pY
   replace mY := hide mY
   replace hY := hide hY
   have hc := hide (rest_n hB.out (by omega))
   go_wp2_with fail
   refine hc.out.mono ?_
   rintro e wN ⟨sS, S, rfl, hS, kN, pS, cS, mS⟩
   clear hc
   replace hA := hide (hA.out.below kN)
   replace hB := hide (hB.out.below kN)
   replace hC := hide (hC.out.below kN)
   replace hR := hide (hR.out.below kN)
   replace hQ := hide (hQ.out.below kN)
   replace hT := hide (hT.out.below kN)
   replace hX := hide (hX.out.below kN)
   replace hY := hide (hY.out.below kN)
   replace kw := hide (grow_step kN kw.out)
   have lS : S.cs.length ≤ B.cs.length := by rw [cS]; exact Nat.le_refl _
   clear cS
   replace pS := hide pS
   replace mS := hide mS
   clear kN
   replace hS := hide hS
   have herr3 : jErr (Nat.lcm R.p S.p) = 0 := by rw [pR.out, pS.out]; exact herr
   have hc := hide (join_n hR.out hS.out (by omega) (by omega))
   rw [herr3] at hc
   go_wp2_with fail
   refine hc.out.mono ?_
   rintro e wN ⟨kN, ⟨h0, -⟩ | ⟨-, sU, U, rfl, hU, pU, lU, mU, -⟩⟩
   ·exact absurd rfl h0
   clear hc
   replace hA := hide (hA.out.below kN)
   replace hB := hide (hB.out.below kN)
   replace hC := hide (hC.out.below kN)
   replace hR := hide (hR.out.below kN)
   replace hQ := hide (hQ.out.below kN)
   replace hT := hide (hT.out.below kN)
   replace hX := hide (hX.out.below kN)
   replace hY := hide (hY.out.below kN)
   replace hS := hide (hS.out.below kN)
   replace kw := hide (grow_step kN kw.out)
   clear kN
   replace pU := hide pU
   replace mU := hide mU
   replace hU := hide hU
   have hc := hide (same_b hX.out hY.out (by omega) (by omega) (b := true) (same_iff_t (fun x => by rw [mX.out, mY.out, Bool.and_comm])))
   go_wp2_with fail
   refine hc.out.mono ?_
   rintro e wN ⟨rfl, kN⟩
   clear hc
   replace hA := hide (hA.out.below kN)
   replace hB := hide (hB.out.below kN)
   replace hC := hide (hC.out.below kN)
   replace hR := hide (hR.out.below kN)
   replace hQ := hide (hQ.out.below kN)
   replace hT := hide (hT.out.below kN)
   replace hX := hide (hX.out.below kN)
   replace hY := hide (hY.out.below kN)
   replace hS := hide (hS.out.below kN)
   replace hU := hide (hU.out.below kN)
   replace kw := hide (grow_step kN kw.out)
   clear kN
   have hc := hide (rest_n hX.out (by omega))
   go_wp2_with fail
   refine hc.out.mono ?_
   rintro e wN ⟨sV, V, rfl, hV, kN, pV, cV, mV⟩
   clear hc
   replace hA := hide (hA.out.below kN)
   replace hB := hide (hB.out.below kN)
   replace hC := hide (hC.out.below kN)
   replace hR := hide (hR.out.below kN)
   replace hQ := hide (hQ.out.below kN)
   replace hT := hide (hT.out.below kN)
   replace hX := hide (hX.out.below kN)
   replace hY := hide (hY.out.below kN)
   replace hS := hide (hS.out.below kN)
   replace hU := hide (hU.out.below kN)
   replace kw := hide (grow_step kN kw.out)
   have lV : V.cs.length ≤ X.cs.length := by rw [cV]; exact Nat.le_refl _
   clear cV
   replace pV := hide pV
   replace mV := hide mV
   clear kN
   replace hV := hide hV
   have hc := hide (same_b hU.out hV.out (by omega) (by omega) (b := true) (same_iff_t (fun x => by rw [mU.out, mV.out, mX.out, mR.out, mS.out]; cases mem A x <;> cases mem B x <;> rfl)))
   go_wp2_with fail
   refine hc.out.mono ?_
   rintro e wN ⟨rfl, kN⟩
   clear hc
   replace hA := hide (hA.out.below kN)
   replace hB := hide (hB.out.below kN)
   replace hC := hide (hC.out.below kN)
   replace hR := hide (hR.out.below kN)
   replace hQ := hide (hQ.out.below kN)
   replace hT := hide (hT.out.below kN)
   replace hX := hide (hX.out.below kN)
   replace hY := hide (hY.out.below kN)
   replace hS := hide (hS.out.below kN)
   replace hU := hide (hU.out.below kN)
   replace hV := hide (hV.out.below kN)
   replace kw := hide (grow_step kN kw.out)
   clear kN
   rcases jerr_or (Nat.lcm X.p C.p) with her4 | her4 <;> rcases jerr_or (Nat.lcm B.p C.p) with her5 | her5
   rotate_left
   ·have hc := hide (meet_n hX.out hC.out (by omega) (by omega))
    rw [her4] at hc
    go_wp2_with fail
    refine hc.out.mono ?_
    rintro e wN ⟨kN, ⟨h0, -⟩ | ⟨-, sP, P, rfl, hP, pP, lP, mP, -⟩⟩
    ·exact absurd rfl h0
    clear hc
    replace hA := hide (hA.out.below kN)
    replace hB := hide (hB.out.below kN)
    replace hC := hide (hC.out.below kN)
    replace hR := hide (hR.out.below kN)
    replace hQ := hide (hQ.out.below kN)
    replace hT := hide (hT.out.below kN)
    replace hX := hide (hX.out.below kN)
    replace hY := hide (hY.out.below kN)
    replace hS := hide (hS.out.below kN)
    replace hU := hide (hU.out.below kN)
    replace hV := hide (hV.out.below kN)
    replace kw := hide (grow_step kN kw.out)
    clear kN
    replace pP := hide pP
    replace mP := hide mP
    replace hP := hide hP
    have hc := hide (meet_n hB.out hC.out (by omega) (by omega))
    rw [her5] at hc
    go_wp2_with fail
    refine hc.out.mono ?_
    rintro e wN ⟨kN, ⟨-, rfl⟩ | ⟨h0, -⟩⟩
    rotate_left
    ·exact absurd h0 (by decide)
    clear hc
    replace hA := hide (hA.out.below kN)
    replace hB := hide (hB.out.below kN)
    replace hC := hide (hC.out.below kN)
    replace hR := hide (hR.out.below kN)
    replace hQ := hide (hQ.out.below kN)
    replace hT := hide (hT.out.below kN)
    replace hX := hide (hX.out.below kN)
    replace hY := hide (hY.out.below kN)
    replace hS := hide (hS.out.below kN)
    replace hU := hide (hU.out.below kN)
    replace hV := hide (hV.out.below kN)
    replace hP := hide (hP.out.below kN)
    replace kw := hide (grow_step kN kw.out)
    clear kN
    go_wp2
    exact bodyPost_ret (results_tmp rfl _ _ _) rfl ⟨rfl, kw.out⟩
   ·have hc := hide (meet_n hX.out hC.out (by omega) (by omega))
    rw [her4] at hc
    go_wp2_with fail
    refine hc.out.mono ?_
    rintro e wN ⟨kN, ⟨-, rfl⟩ | ⟨h0, -⟩⟩
    rotate_left
    ·exact absurd h0 (by decide)
    clear hc
    replace hA := hide (hA.out.below kN)
    replace hB := hide (hB.out.below kN)
    replace hC := hide (hC.out.below kN)
    replace hR := hide (hR.out.below kN)
    replace hQ := hide (hQ.out.below kN)
    replace hT := hide (hT.out.below kN)
    replace hX := hide (hX.out.below kN)
    replace hY := hide (hY.out.below kN)
    replace hS := hide (hS.out.below kN)
    replace hU := hide (hU.out.below kN)
    replace hV := hide (hV.out.below kN)
    replace kw := hide (grow_step kN kw.out)
    clear kN
    have hc := hide (meet_n hB.out hC.out (by omega) (by omega))
    rw [her5] at hc
    go_wp2_with fail
    refine hc.out.mono ?_
    rintro e wN ⟨kN, ⟨h0, -⟩ | ⟨-, sO, O, rfl, hO, pO, lO, mO, -⟩⟩
    ·exact absurd rfl h0
    clear hc
    replace hA := hide (hA.out.below kN)
    replace hB := hide (hB.out.below kN)
    replace hC := hide (hC.out.below kN)
    replace hR := hide (hR.out.below kN)
    replace hQ := hide (hQ.out.below kN)
    replace hT := hide (hT.out.below kN)
    replace hX := hide (hX.out.below kN)
    replace hY := hide (hY.out.below kN)
    replace hS := hide (hS.out.below kN)
    replace hU := hide (hU.out.below kN)
    replace hV := hide (hV.out.below kN)
    replace kw := hide (grow_step kN kw.out)
    clear kN
    replace pO := hide pO
    replace mO := hide mO
    replace hO := hide hO
    go_wp2
    exact bodyPost_ret (results_tmp rfl _ _ _) rfl ⟨rfl, kw.out⟩
   ·have hc := hide (meet_n hX.out hC.out (by omega) (by omega))
    rw [her4] at hc
    go_wp2_with fail
    refine hc.out.mono ?_
    rintro e wN ⟨kN, ⟨-, rfl⟩ | ⟨h0, -⟩⟩
    rotate_left
    ·exact absurd h0 (by decide)
    clear hc
    replace hA := hide (hA.out.below kN)
    replace hB := hide (hB.out.below kN)
    replace hC := hide (hC.out.below kN)
    replace hR := hide (hR.out.below kN)
    replace hQ := hide (hQ.out.below kN)
    replace hT := hide (hT.out.below kN)
    replace hX := hide (hX.out.below kN)
    replace hY := hide (hY.out.below kN)
    replace hS := hide (hS.out.below kN)
    replace hU := hide (hU.out.below kN)
    replace hV := hide (hV.out.below kN)
    replace kw := hide (grow_step kN kw.out)
    clear kN
    have hc := hide (meet_n hB.out hC.out (by omega) (by omega))
    rw [her5] at hc
    go_wp2_with fail
    refine hc.out.mono ?_
    rintro e wN ⟨kN, ⟨-, rfl⟩ | ⟨h0, -⟩⟩
    rotate_left
    ·exact absurd h0 (by decide)
    clear hc
    replace hA := hide (hA.out.below kN)
    replace hB := hide (hB.out.below kN)
    replace hC := hide (hC.out.below kN)
    replace hR := hide (hR.out.below kN)
    replace hQ := hide (hQ.out.below kN)
    replace hT := hide (hT.out.below kN)
    replace hX := hide (hX.out.below kN)
    replace hY := hide (hY.out.below kN)
    replace hS := hide (hS.out.below kN)
    replace hU := hide (hU.out.below kN)
    replace hV := hide (hV.out.below kN)
    replace kw := hide (grow_step kN kw.out)
    clear kN
    go_wp2
    exact bodyPost_ret (results_tmp rfl _ _ _) rfl ⟨rfl, kw.out⟩
   ·have hc := hide (meet_n hX.out hC.out (by omega) (by omega))
    rw [her4] at hc
    go_wp2_with fail
    refine hc.out.mono ?_
    rintro e wN ⟨kN, ⟨h0, -⟩ | ⟨-, sP, P, rfl, hP, pP, lP, mP, -⟩⟩
    ·exact absurd rfl h0
    clear hc
    replace hA := hide (hA.out.below kN)
    replace hB := hide (hB.out.below kN)
    replace hC := hide (hC.out.below kN)
    replace hR := hide (hR.out.below kN)
    replace hQ := hide (hQ.out.below kN)
    replace hT := hide (hT.out.below kN)
    replace hX := hide (hX.out.below kN)
    replace hY := hide (hY.out.below kN)
    replace hS := hide (hS.out.below kN)
    replace hU := hide (hU.out.below kN)
    replace hV := hide (hV.out.below kN)
    replace kw := hide (grow_step kN kw.out)
    clear kN
    replace pP := hide pP
    replace mP := hide mP
    replace hP := hide hP
    have hc := hide (meet_n hB.out hC.out (by omega) (by omega))
    rw [her5] at hc
    go_wp2_with fail
    refine hc.out.mono ?_
    rintro e wN ⟨kN, ⟨h0, -⟩ | ⟨-, sO, O, rfl, hO, pO, lO, mO, -⟩⟩
    ·exact absurd rfl h0
    clear hc
    replace hA := hide (hA.out.below kN)
    replace hB := hide (hB.out.below kN)
    replace hC := hide (hC.out.below kN)
    replace hR := hide (hR.out.below kN)
    replace hQ := hide (hQ.out.below kN)
    replace hT := hide (hT.out.below kN)
    replace hX := hide (hX.out.below kN)
    replace hY := hide (hY.out.below kN)
    replace hS := hide (hS.out.below kN)
    replace hU := hide (hU.out.below kN)
    replace hV := hide (hV.out.below kN)
    replace hP := hide (hP.out.below kN)
    replace kw := hide (grow_step kN kw.out)
    clear kN
    replace pO := hide pO
    replace mO := hide mO
    replace hO := hide hO
    have her6 : jErr (Nat.lcm A.p O.p) = 0 := by rw [pO.out, ← Nat.lcm_assoc, ← pX.out]; exact her4
    have hc := hide (meet_n hA.out hO.out (by omega) (by omega))
    rw [her6] at hc
    go_wp2_with fail
    refine hc.out.mono ?_
    rintro e wN ⟨kN, ⟨h0, -⟩ | ⟨-, sZ, Z, rfl, hZ, pZ, lZ, mZ, -⟩⟩
    ·exact absurd rfl h0
    clear hc
    replace hA := hide (hA.out.below kN)
    replace hB := hide (hB.out.below kN)
    replace hC := hide (hC.out.below kN)
    replace hR := hide (hR.out.below kN)
    replace hQ := hide (hQ.out.below kN)
    replace hT := hide (hT.out.below kN)
    replace hX := hide (hX.out.below kN)
    replace hY := hide (hY.out.below kN)
    replace hS := hide (hS.out.below kN)
    replace hU := hide (hU.out.below kN)
    replace hV := hide (hV.out.below kN)
    replace hP := hide (hP.out.below kN)
    replace hO := hide (hO.out.below kN)
    replace kw := hide (grow_step kN kw.out)
    clear kN
    replace pZ := hide pZ
    replace mZ := hide mZ
    replace hZ := hide hZ
    have hc := hide (join_n hA.out hB.out (by omega) (by omega))
    rw [herr] at hc
    go_wp2_with fail
    refine hc.out.mono ?_
    rintro e wN ⟨kN, ⟨h0, -⟩ | ⟨-, sM, M, rfl, hM, pM, lM, mM, -⟩⟩
    ·exact absurd rfl h0
    clear hc
    replace hA := hide (hA.out.below kN)
    replace hB := hide (hB.out.below kN)
    replace hC := hide (hC.out.below kN)
    replace hR := hide (hR.out.below kN)
    replace hQ := hide (hQ.out.below kN)
    replace hT := hide (hT.out.below kN)
    replace hX := hide (hX.out.below kN)
    replace hY := hide (hY.out.below kN)
    replace hS := hide (hS.out.below kN)
    replace hU := hide (hU.out.below kN)
    replace hV := hide (hV.out.below kN)
    replace hP := hide (hP.out.below kN)
    replace hO := hide (hO.out.below kN)
    replace hZ := hide (hZ.out.below kN)
    replace kw := hide (grow_step kN kw.out)
    clear kN
    replace pM := hide pM
    replace mM := hide mM
    replace hM := hide hM
    have her7 : jErr (Nat.lcm M.p C.p) = 0 := by rw [pM.out, ← pX.out]; exact her4
    have hc := hide (meet_n hM.out hC.out (by omega) (by omega))
    rw [her7] at hc
    go_wp2_with fail
    refine hc.out.mono ?_
    rintro e wN ⟨kN, ⟨h0, -⟩ | ⟨-, sN, N, rfl, hN, pN, lN, mN, -⟩⟩
    ·exact absurd rfl h0
    clear hc
    replace hA := hide (hA.out.below kN)
    replace hB := hide (hB.out.below kN)
    replace hC := hide (hC.out.below kN)
    replace hR := hide (hR.out.below kN)
    replace hQ := hide (hQ.out.below kN)
    replace hT := hide (hT.out.below kN)
    replace hX := hide (hX.out.below kN)
    replace hY := hide (hY.out.below kN)
    replace hS := hide (hS.out.below kN)
    replace hU := hide (hU.out.below kN)
    replace hV := hide (hV.out.below kN)
    replace hP := hide (hP.out.below kN)
    replace hO := hide (hO.out.below kN)
    replace hZ := hide (hZ.out.below kN)
    replace hM := hide (hM.out.below kN)
    replace kw := hide (grow_step kN kw.out)
    clear kN
    replace pN := hide pN
    replace mN := hide mN
    replace hN := hide hN
    have hc := hide (same_b hZ.out hP.out (by omega) (by omega) (b := true) (same_iff_t (fun x => by rw [mZ.out, mP.out, mX.out, mO.out, Bool.and_assoc])))
    go_wp2_with fail
    refine hc.out.mono ?_
    rintro e wN ⟨rfl, kN⟩
    clear hc
    replace hA := hide (hA.out.below kN)
    replace hB := hide (hB.out.below kN)
    replace hC := hide (hC.out.below kN)
    replace hR := hide (hR.out.below kN)
    replace hQ := hide (hQ.out.below kN)
    replace hT := hide (hT.out.below kN)
    replace hX := hide (hX.out.below kN)
    replace hY := hide (hY.out.below kN)
    replace hS := hide (hS.out.below kN)
    replace hU := hide (hU.out.below kN)
    replace hV := hide (hV.out.below kN)
    replace hP := hide (hP.out.below kN)
    replace hO := hide (hO.out.below kN)
    replace hZ := hide (hZ.out.below kN)
    replace hM := hide (hM.out.below kN)
    replace hN := hide (hN.out.below kN)
    replace kw := hide (grow_step kN kw.out)
    clear kN
    go_wp2
    exact bodyPost_ret (results_tmp rfl _ _ _) rfl ⟨rfl, kw.out⟩
 ·have tAB := hide (hAB.out.1 rfl)
  have tBC := hide (hBC.out.1 rfl)
  clear hAB hBA hBC
  have hc := hide (same_b hA.out hB.out (by omega) (by omega) (b := true) (same_iff_t tAB.out))
  go_wp2_with fail
  refine hc.out.mono ?_
  rintro e wN ⟨rfl, kN⟩
  clear hc
  replace hA := hide (hA.out.below kN)
  replace hB := hide (hB.out.below kN)
  replace hC := hide (hC.out.below kN)
  replace hR := hide (hR.out.below kN)
  replace hQ := hide (hQ.out.below kN)
  replace hT := hide (hT.out.below kN)
  replace kw := hide (grow_step kN kw.out)
  clear kN
  have hc := hide (same_b hB.out hC.out (by omega) (by omega) (b := true) (same_iff_t tBC.out))
  go_wp2_with fail
  refine hc.out.mono ?_
  rintro e wN ⟨rfl, kN⟩
  clear hc
  replace hA := hide (hA.out.below kN)
  replace hB := hide (hB.out.below kN)
  replace hC := hide (hC.out.below kN)
  replace hR := hide (hR.out.below kN)
  replace hQ := hide (hQ.out.below kN)
  replace hT := hide (hT.out.below kN)
  replace kw := hide (grow_step kN kw.out)
  clear kN
  have hc := hide (same_b hA.out hC.out (by omega) (by omega) (b := true) (same_iff_t (fun x => (tAB.out x).trans (tBC.out x))))
  go_wp2_with fail
  refine hc.out.mono ?_
  rintro e wN ⟨rfl, kN⟩
  clear hc
  replace hA := hide (hA.out.below kN)
  replace hB := hide (hB.out.below kN)
  replace hC := hide (hC.out.below kN)
  replace hR := hide (hR.out.below kN)
  replace hQ := hide (hQ.out.below kN)
  replace hT := hide (hT.out.below kN)
  replace kw := hide (grow_step kN kw.out)
  clear kN
  go_upto_region 12 with (fail)
  rcases jerr_or (Nat.lcm A.p B.p) with herr | herr
  rotate_left
  ·have herr2 : jErr (Nat.lcm B.p A.p) = 180 := by rw [Nat.lcm_comm]; exact herr
   have hc := hide (meet_n hA.out hB.out (by omega) (by omega))
   rw [herr] at hc
   go_wp2_with fail
   refine hc.out.mono ?_
   rintro e wN ⟨kN, ⟨-, rfl⟩ | ⟨h0, -⟩⟩
   rotate_left
   ·exact absurd h0 (by decide)
   clear hc
   replace hA := hide (hA.out.below kN)
   replace hB := hide (hB.out.below kN)
   replace hC := hide (hC.out.below kN)
   replace hR := hide (hR.out.below kN)
   replace hQ := hide (hQ.out.below kN)
   replace hT := hide (hT.out.below kN)
   replace kw := hide (grow_step kN kw.out)
   clear kN
   have hc := hide (meet_n hB.out hA.out (by omega) (by omega))
   rw [herr2] at hc
   go_wp2_with fail
   refine hc.out.mono ?_
   rintro e wN ⟨kN, ⟨-, rfl⟩ | ⟨h0, -⟩⟩
   rotate_left
   ·exact absurd h0 (by decide)
   clear hc
   replace hA := hide (hA.out.below kN)
   replace hB := hide (hB.out.below kN)
   replace hC := hide (hC.out.below kN)
   replace hR := hide (hR.out.below kN)
   replace hQ := hide (hQ.out.below kN)
   replace hT := hide (hT.out.below kN)
   replace kw := hide (grow_step kN kw.out)
   clear kN
   go_wp2
   exact bodyPost_ret (results_tmp rfl _ _ _) rfl ⟨rfl, kw.out⟩
  ·have herr2 : jErr (Nat.lcm B.p A.p) = 0 := by rw [Nat.lcm_comm]; exact herr
   have hc := hide (meet_n hA.out hB.out (by omega) (by omega))
   rw [herr] at hc
   go_wp2_with fail
   refine hc.out.mono ?_
   rintro e wN ⟨kN, ⟨h0, -⟩ | ⟨-, sX, X, rfl, hX, pX, lX, mX, -⟩⟩
   ·exact absurd rfl h0
   clear hc
   replace hA := hide (hA.out.below kN)
   replace hB := hide (hB.out.below kN)
   replace hC := hide (hC.out.below kN)
   replace hR := hide (hR.out.below kN)
   replace hQ := hide (hQ.out.below kN)
   replace hT := hide (hT.out.below kN)
   replace kw := hide (grow_step kN kw.out)
   clear kN
   replace pX := hide pX
   replace mX := hide mX
   replace hX := hide hX
   have hc := hide (meet_n hB.out hA.out (by omega) (by omega))
   rw [herr2] at hc
   go_wp2_with fail
   refine hc.out.mono ?_
   rintro e wN ⟨kN, ⟨h0, -⟩ | ⟨-, sY, Y, rfl, hY, pY, lY, mY, -⟩⟩
   ·exact absurd rfl h0
   clear hc
   replace hA := hide (hA.out.below kN)
   replace hB := hide (hB.out.below kN)
   replace hC := hide (hC.out.below kN)
   replace hR := hide (hR.out.below kN)
   replace hQ := hide (hQ.out.below kN)
   replace hT := hide (hT.out.below kN)
   replace hX := hide (hX.out.below kN)
   replace kw := hide (grow_step kN kw.out)
   clear kN
   replace pY := hide pY
   replace mY := hide mY
   replace hY := hide hY
   have hc := hide (rest_n hB.out (by omega))
   go_wp2_with fail
   refine hc.out.mono ?_
   rintro e wN ⟨sS, S, rfl, hS, kN, pS, cS, mS⟩
   clear hc
   replace hA := hide (hA.out.below kN)
   replace hB := hide (hB.out.below kN)
   replace hC := hide (hC.out.below kN)
   replace hR := hide (hR.out.below kN)
   replace hQ := hide (hQ.out.below kN)
   replace hT := hide (hT.out.below kN)
   replace hX := hide (hX.out.below kN)
   replace hY := hide (hY.out.below kN)
   replace kw := hide (grow_step kN kw.out)
   have lS : S.cs.length ≤ B.cs.length := by rw [cS]; exact Nat.le_refl _
   clear cS
   replace pS := hide pS
   replace mS := hide mS
   clear kN
   replace hS := hide hS
   have herr3 : jErr (Nat.lcm R.p S.p) = 0 := by rw [pR.out, pS.out]; exact herr
   have hc := hide (join_n hR.out hS.out (by omega) (by omega))
   rw [herr3] at hc
   go_wp2_with fail
   refine hc.out.mono ?_
   rintro e wN ⟨kN, ⟨h0, -⟩ | ⟨-, sU, U, rfl, hU, pU, lU, mU, -⟩⟩
   ·exact absurd rfl h0
   clear hc
   replace hA := hide (hA.out.below kN)
   replace hB := hide (hB.out.below kN)
   replace hC := hide (hC.out.below kN)
   replace hR := hide (hR.out.below kN)
   replace hQ := hide (hQ.out.below kN)
   replace hT := hide (hT.out.below kN)
   replace hX := hide (hX.out.below kN)
   replace hY := hide (hY.out.below kN)
   replace hS := hide (hS.out.below kN)
   replace kw := hide (grow_step kN kw.out)
   clear kN
   replace pU := hide pU
   replace mU := hide mU
   replace hU := hide hU
   have hc := hide (same_b hX.out hY.out (by omega) (by omega) (b := true) (same_iff_t (fun x => by rw [mX.out, mY.out, Bool.and_comm])))
   go_wp2_with fail
   refine hc.out.mono ?_
   rintro e wN ⟨rfl, kN⟩
   clear hc
   replace hA := hide (hA.out.below kN)
   replace hB := hide (hB.out.below kN)
   replace hC := hide (hC.out.below kN)
   replace hR := hide (hR.out.below kN)
   replace hQ := hide (hQ.out.below kN)
   replace hT := hide (hT.out.below kN)
   replace hX := hide (hX.out.below kN)
   replace hY := hide (hY.out.below kN)
   replace hS := hide (hS.out.below kN)
   replace hU := hide (hU.out.below kN)
   replace kw := hide (grow_step kN kw.out)
   clear kN
   have hc := hide (rest_n hX.out (by omega))
   go_wp2_with fail
   refine hc.out.mono ?_
   rintro e wN ⟨sV, V, rfl, hV, kN, pV, cV, mV⟩
   clear hc
   replace hA := hide (hA.out.below kN)
   replace hB := hide (hB.out.below kN)
   replace hC := hide (hC.out.below kN)
   replace hR := hide (hR.out.below kN)
   replace hQ := hide (hQ.out.below kN)
   replace hT := hide (hT.out.below kN)
   replace hX := hide (hX.out.below kN)
   replace hY := hide (hY.out.below kN)
   replace hS := hide (hS.out.below kN)
   replace hU := hide (hU.out.below kN)
   replace kw := hide (grow_step kN kw.out)
   have lV : V.cs.length ≤ X.cs.length := by rw [cV]; exact Nat.le_refl _
   clear cV
   replace pV := hide pV
   replace mV := hide mV
   clear kN
   replace hV := hide hV
   have hc := hide (same_b hU.out hV.out (by omega) (by omega) (b := true) (same_iff_t (fun x => by rw [mU.out, mV.out, mX.out, mR.out, mS.out]; cases mem A x <;> cases mem B x <;> rfl)))
   go_wp2_with fail
   refine hc.out.mono ?_
   rintro e wN ⟨rfl, kN⟩
   clear hc
   replace hA := hide (hA.out.below kN)
   replace hB := hide (hB.out.below kN)
   replace hC := hide (hC.out.below kN)
   replace hR := hide (hR.out.below kN)
   replace hQ := hide (hQ.out.below kN)
   replace hT := hide (hT.out.below kN)
   replace hX := hide (hX.out.below kN)
   replace hY := hide (hY.out.below kN)
   replace hS := hide (hS.out.below kN)
   replace hU := hide (hU.out.below kN)
   replace hV := hide (hV.out.below kN)
   replace kw := hide (grow_step kN kw.out)
   clear kN
   rcases jerr_or (Nat.lcm X.p C.p) with her4 | her4 <;> rcases jerr_or (Nat.lcm B.p C.p) with her5 | her5
   rotate_left
   ·have hc := hide (meet_n hX.out hC.out (by omega) (by omega))
    rw [her4] at hc
    go_wp2_with fail
    refine hc.out.mono ?_
    rintro e wN ⟨kN, ⟨h0, -⟩ | ⟨-, sP, P, rfl, hP, pP, lP, mP, -⟩⟩
    ·exact absurd rfl h0
    clear hc
    replace hA := hide (hA.out.below kN)
    replace hB := hide (hB.out.below kN)
    replace hC := hide (hC.out.below kN)
    replace hR := hide (hR.out.below kN)
    replace hQ := hide (hQ.out.below kN)
    replace hT := hide (hT.out.below kN)
    replace hX := hide (hX.out.below kN)
    replace hY := hide (hY.out.below kN)
    replace hS := hide (hS.out.below kN)
    replace hU := hide (hU.out.below kN)
    replace hV := hide (hV.out.below kN)
    replace kw := hide (grow_step kN kw.out)
    clear kN
    replace pP := hide pP
    replace mP := hide mP
    replace hP := hide hP
    have hc := hide (meet_n hB.out hC.out (by omega) (by omega))
    rw [her5] at hc
    go_wp2_with fail
    refine hc.out.mono ?_
    rintro e wN ⟨kN, ⟨-, rfl⟩ | ⟨h0, -⟩⟩
    rotate_left
    ·exact absurd h0 (by decide)
    clear hc
    replace hA := hide (hA.out.below kN)
    replace hB := hide (hB.out.below kN)
    replace hC := hide (hC.out.below kN)
    replace hR := hide (hR.out.below kN)
    replace hQ := hide (hQ.out.below kN)
    replace hT := hide (hT.out.below kN)
    replace hX := hide (hX.out.below kN)
    replace hY := hide (hY.out.below kN)
    replace hS := hide (hS.out.below kN)
    replace hU := hide (hU.out.below kN)
    replace hV := hide (hV.out.below kN)
    replace hP := hide (hP.out.below kN)
    replace kw := hide (grow_step kN kw.out)
    clear kN
    go_wp2
    exact bodyPost_ret (results_tmp rfl _ _ _) rfl ⟨rfl, kw.out⟩
   ·have hc := hide (meet_n hX.out hC.out (by omega) (by omega))
    rw [her4] at hc
    go_wp2_with fail
    refine hc.out.mono ?_
    rintro e wN ⟨kN, ⟨-, rfl⟩ | ⟨h0, -⟩⟩
    rotate_left
    ·exact absurd h0 (by decide)
    clear hc
    replace hA := hide (hA.out.below kN)
    replace hB := hide (hB.out.below kN)
    replace hC := hide (hC.out.below kN)
    replace hR := hide (hR.out.below kN)
    replace hQ := hide (hQ.out.below kN)
    replace hT := hide (hT.out.below kN)
    replace hX := hide (hX.out.below kN)
    replace hY := hide (hY.out.below kN)
    replace hS := hide (hS.out.below kN)
    replace hU := hide (hU.out.below kN)
    replace hV := hide (hV.out.below kN)
    replace kw := hide (grow_step kN kw.out)
    clear kN
    have hc := hide (meet_n hB.out hC.out (by omega) (by omega))
    rw [her5] at hc
    go_wp2_with fail
    refine hc.out.mono ?_
    rintro e wN ⟨kN, ⟨h0, -⟩ | ⟨-, sO, O, rfl, hO, pO, lO, mO, -⟩⟩
    ·exact absurd rfl h0
    clear hc
    replace hA := hide (hA.out.below kN)
    replace hB := hide (hB.out.below kN)
    replace hC := hide (hC.out.below kN)
    replace hR := hide (hR.out.below kN)
    replace hQ := hide (hQ.out.below kN)
    replace hT := hide (hT.out.below kN)
    replace hX := hide (hX.out.below kN)
    replace hY := hide (hY.out.below kN)
    replace hS := hide (hS.out.below kN)
    replace hU := hide (hU.out.below kN)
    replace hV := hide (hV.out.below kN)
    replace kw := hide (grow_step kN kw.out)
    clear kN
    replace pO := hide pO
    replace mO := hide mO
    replace hO := hide hO
    go_wp2
    exact bodyPost_ret (results_tmp rfl _ _ _) rfl ⟨rfl, kw.out⟩
   ·have hc := hide (meet_n hX.out hC.out (by omega) (by omega))
    rw [her4] at hc
    go_wp2_with fail
    refine hc.out.mono ?_
    rintro e wN ⟨kN, ⟨-, rfl⟩ | ⟨h0, -⟩⟩
    rotate_left
    ·exact absurd h0 (by decide)
    clear hc
    replace hA := hide (hA.out.below kN)
    replace hB := hide (hB.out.below kN)
    replace hC := hide (hC.out.below kN)
    replace hR := hide (hR.out.below kN)
    replace hQ := hide (hQ.out.below kN)
    replace hT := hide (hT.out.below kN)
    replace hX := hide (hX.out.below kN)
    replace hY := hide (hY.out.below kN)
    replace hS := hide (hS.out.below kN)
    replace hU := hide (hU.out.below kN)
    replace hV := hide (hV.out.below kN)
    replace kw := hide (grow_step kN kw.out)
    clear kN
    have hc := hide (meet_n hB.out hC.out (by omega) (by omega))
    rw [her5] at hc
    go_wp2_with fail
    refine hc.out.mono ?_
    rintro e wN ⟨kN, ⟨-, rfl⟩ | ⟨h0, -⟩⟩
    rotate_left
    ·exact absurd h0 (by decide)
    clear hc
    replace hA := hide (hA.out.below kN)
    replace hB := hide (hB.out.below kN)
    replace hC := hide (hC.out.below kN)
    replace hR := hide (hR.out.below kN)
    replace hQ := hide (hQ.out.below kN)
    replace hT := hide (hT.out.below kN)
    replace hX := hide (hX.out.below kN)
    replace hY := hide (hY.out.below kN)
    replace hS := hide (hS.out.below kN)
    replace hU := hide (hU.out.below kN)
    replace hV := hide (hV.out.below kN)
    replace kw := hide (grow_step kN kw.out)
    clear kN
    go_wp2
    exact bodyPost_ret (results_tmp rfl _ _ _) rfl ⟨rfl, kw.out⟩
   ·have hc := hide (meet_n hX.out hC.out (by omega) (by omega))
    rw [her4] at hc
    go_wp2_with fail
    refine hc.out.mono ?_
    rintro e wN ⟨kN, ⟨h0, -⟩ | ⟨-, sP, P, rfl, hP, pP, lP, mP, -⟩⟩
    ·exact absurd rfl h0
    clear hc
    replace hA := hide (hA.out.below kN)
    replace hB := hide (hB.out.below kN)
    replace hC := hide (hC.out.below kN)
    replace hR := hide (hR.out.below kN)
    replace hQ := hide (hQ.out.below kN)
    replace hT := hide (hT.out.below kN)
    replace hX := hide (hX.out.below kN)
    replace hY := hide (hY.out.below kN)
    replace hS := hide (hS.out.below kN)
    replace hU := hide (hU.out.below kN)
    replace hV := hide (hV.out.below kN)
    replace kw := hide (grow_step kN kw.out)
    clear kN
    replace pP := hide pP
    replace mP := hide mP
    replace hP := hide hP
    have hc := hide (meet_n hB.out hC.out (by omega) (by omega))
    rw [her5] at hc
    go_wp2_with fail
    refine hc.out.mono ?_
    rintro e wN ⟨kN, ⟨h0, -⟩ | ⟨-, sO, O, rfl, hO, pO, lO, mO, -⟩⟩
    ·exact absurd rfl h0
    clear hc
    replace hA := hide (hA.out.below kN)
    replace hB := hide (hB.out.below kN)
    replace hC := hide (hC.out.below kN)
    replace hR := hide (hR.out.below kN)
    replace hQ := hide (hQ.out.below kN)
    replace hT := hide (hT.out.below kN)
    replace hX := hide (hX.out.below kN)
    replace hY := hide (hY.out.below kN)
    replace hS := hide (hS.out.below kN)
    replace hU := hide (hU.out.below kN)
    replace hV := hide (hV.out.below kN)
    replace hP := hide (hP.out.below kN)
    replace kw := hide (grow_step kN kw.out)
    clear kN
    replace pO := hide pO
    replace mO := hide mO
    replace hO := hide hO
    have her6 : jErr (Nat.lcm A.p O.p) = 0 := by rw [pO.out, ← Nat.lcm_assoc, ← pX.out]; exact her4
    have hc := hide (meet_n hA.out hO.out (by omega) (by omega))
    rw [her6] at hc
    go_wp2_with fail
    refine hc.out.mono ?_
    rintro e wN ⟨kN, ⟨h0, -⟩ | ⟨-, sZ, Z, rfl, hZ, pZ, lZ, mZ, -⟩⟩
    ·exact absurd rfl h0
    clear hc
    replace hA := hide (hA.out.below kN)
    replace hB := hide (hB.out.below kN)
    replace hC := hide (hC.out.below kN)
    replace hR := hide (hR.out.below kN)
    replace hQ := hide (hQ.out.below kN)
    replace hT := hide (hT.out.below kN)
    replace hX := hide (hX.out.below kN)
    replace hY := hide (hY.out.below kN)
    replace hS := hide (hS.out.below kN)
    replace hU := hide (hU.out.below kN)
    replace hV := hide (hV.out.below kN)
    replace hP := hide (hP.out.below kN)
    replace hO := hide (hO.out.below kN)
    replace kw := hide (grow_step kN kw.out)
    clear kN
    replace pZ := hide pZ
    replace mZ := hide mZ
    replace hZ := hide hZ
    have hc := hide (join_n hA.out hB.out (by omega) (by omega))
    rw [herr] at hc
    go_wp2_with fail
    refine hc.out.mono ?_
    rintro e wN ⟨kN, ⟨h0, -⟩ | ⟨-, sM, M, rfl, hM, pM, lM, mM, -⟩⟩
    ·exact absurd rfl h0
    clear hc
    replace hA := hide (hA.out.below kN)
    replace hB := hide (hB.out.below kN)
    replace hC := hide (hC.out.below kN)
    replace hR := hide (hR.out.below kN)
    replace hQ := hide (hQ.out.below kN)
    replace hT := hide (hT.out.below kN)
    replace hX := hide (hX.out.below kN)
    replace hY := hide (hY.out.below kN)
    replace hS := hide (hS.out.below kN)
    replace hU := hide (hU.out.below kN)
    replace hV := hide (hV.out.below kN)
    replace hP := hide (hP.out.below kN)
    replace hO := hide (hO.out.below kN)
    replace hZ := hide (hZ.out.below kN)
    replace kw := hide (grow_step kN kw.out)
    clear kN
    replace pM := hide pM
    replace mM := hide mM
    replace hM := hide hM
    have her7 : jErr (Nat.lcm M.p C.p) = 0 := by rw [pM.out, ← pX.out]; exact her4
    have hc := hide (meet_n hM.out hC.out (by omega) (by omega))
    rw [her7] at hc
    go_wp2_with fail
    refine hc.out.mono ?_
    rintro e wN ⟨kN, ⟨h0, -⟩ | ⟨-, sN, N, rfl, hN, pN, lN, mN, -⟩⟩
    ·exact absurd rfl h0
    clear hc
    replace hA := hide (hA.out.below kN)
    replace hB := hide (hB.out.below kN)
    replace hC := hide (hC.out.below kN)
    replace hR := hide (hR.out.below kN)
    replace hQ := hide (hQ.out.below kN)
    replace hT := hide (hT.out.below kN)
    replace hX := hide (hX.out.below kN)
    replace hY := hide (hY.out.below kN)
    replace hS := hide (hS.out.below kN)
    replace hU := hide (hU.out.below kN)
    replace hV := hide (hV.out.below kN)
    replace hP := hide (hP.out.below kN)
    replace hO := hide (hO.out.below kN)
    replace hZ := hide (hZ.out.below kN)
    replace hM := hide (hM.out.below kN)
    replace kw := hide (grow_step kN kw.out)
    clear kN
    replace pN := hide pN
    replace mN := hide mN
    replace hN := hide hN
    have hc := hide (same_b hZ.out hP.out (by omega) (by omega) (b := true) (same_iff_t (fun x => by rw [mZ.out, mP.out, mX.out, mO.out, Bool.and_assoc])))
    go_wp2_with fail
    refine hc.out.mono ?_
    rintro e wN ⟨rfl, kN⟩
    clear hc
    replace hA := hide (hA.out.below kN)
    replace hB := hide (hB.out.below kN)
    replace hC := hide (hC.out.below kN)
    replace hR := hide (hR.out.below kN)
    replace hQ := hide (hQ.out.below kN)
    replace hT := hide (hT.out.below kN)
    replace hX := hide (hX.out.below kN)
    replace hY := hide (hY.out.below kN)
    replace hS := hide (hS.out.below kN)
    replace hU := hide (hU.out.below kN)
    replace hV := hide (hV.out.below kN)
    replace hP := hide (hP.out.below kN)
    replace hO := hide (hO.out.below kN)
    replace hZ := hide (hZ.out.below kN)
    replace hM := hide (hM.out.below kN)
    replace hN := hide (hN.out.below kN)
    replace kw := hide (grow_step kN kw.out)
    clear kN
    go_wp2
    exact bodyPost_ret (results_tmp rfl _ _ _) rfl ⟨rfl, kw.out⟩
end Pd
end Go.Proofs.Ytojciccmjpabmaa
