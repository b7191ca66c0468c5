/-
  DivMod by whatever is not 0; Gcd, Lcm.
-/
import Derived.Test.YtgkacepahfjeeaaGreatDoorD4
import Derived.Test.YtgkacepahfjeeaaGreatDoorK1
import Derived.Deep.LoopGhost
namespace Go.Proofs.YtgkacepahfjeeaaGreatDoor
open Go.RowKit

set_option maxRecDepth 100000 in
set_option maxHeartbeats 1600000 in
theorem divmod_many {a1 a2 : Option Addr} {l1 c1 l2 c2 j : Nat} {xs ys : List Int} {w : World} (h1 : Rd w a1 l1 c1 xs) (h2 : Rd w a2 l2 c2 ys) (hl1 : l1 ≤ 1099511627776) (hge : val ys ≤ val xs) (hmany : tl ys l2 = j + 2) :
    Calls Tryz.prog 43 #[.slice a1 l1 c1, .slice a2 l2 c2] w fun e w' => ∃ aq lq cq zq ar lr cr zr, e = .returned (.tuple #[.slice aq lq cq, .slice ar lr cr, .int .i64 0]) ∧ Out w w' aq lq cq zq ∧ Canon zq ∧ val zq = val xs / val ys ∧ Out w w' ar lr cr zr ∧ Canon zr ∧ val zr = val xs % val ys ∧ lq ≤ l1 ∧ lr ≤ l1 + 1 ∧ (aq = none ∨ blk aq ≠ blk ar) := by
  have t1 := h1.trim
  have t2 := h2.trim
  have k1 := canon_trim h1.2.2.2.1
  have k2 := canon_trim h2.2.2.2.1
  have e1 := val_trim xs
  have e2 := val_trim ys
  rw [hmany] at t2
  have b1 := tl_le xs l1
  generalize hn1 : tl xs l1 = n1 at *
  have HN1 := hide hn1
  have HN2 := hide hmany
  have hcmp : decide (cmpI (val (trim xs)) (val (trim ys)) < 0) = false := by
    unfold cmpI
    rw [if_neg (by omega)]
    split <;> decide
  have hge' : val (trim ys) ≤ val (trim xs) := by omega
  have E1 := hide e1
  have E2 := hide e2
  generalize trim xs = X at *
  generalize trim ys = Y at *
  have hz0 : (((j : Int) + 2) == 0) = false := by rw [beq_eq_false_iff_ne]; omega
  have hz1 : (((j : Int) + 2) == 1) = false := by rw [beq_eq_false_iff_ne]; omega
  clear hn1 hmany e1 e2
  go_enter Tryz.func43, Tryz.ntmps43
  go_wp2_with fail
  refine (bare_any h1).mono ?_
  rintro e w' ⟨rfl, rfl⟩
  rw [unhide HN1]
  go_wp2_with fail
  refine (bare_any h2).mono ?_
  rintro e w' ⟨rfl, rfl⟩
  rw [unhide HN2]
  go_wp2_with fail
  refine (cmp_any t1 t2).mono ?_
  rintro e w' ⟨rfl, qd, rfl⟩
  have hbd := below_drewN w.heap.size w qd
  go_wp2_with fail
  refine (dbm_any (t1.below hbd) (t2.below hbd) k1 k2 (by omega) hge').mono ?_
  rintro e w1 ⟨aq, lq, cq, zq, ar, lr, cr, zr, rfl, hoq, hcq, hvq, hor, hcr, hvr, hlq, hlr, hblk⟩
  have HO := hide (And.intro (hoq.outer hbd) (hor.outer hbd))
  have HV := hide (And.intro hvq hvr)
  have HB := hide hblk
  clear hoq hor hvq hvr hblk
  go_wp2_with fail
  go_ret3
  refine ⟨_, _, _, _, _, _, _, _, rfl, (unhide HO).1, hcq, ?_, (unhide HO).2, hcr, ?_, by omega, by omega, unhide HB⟩
  · rw [(unhide HV).1, unhide E1, unhide E2]
  · rw [(unhide HV).2, unhide E1, unhide E2]

/-- DivMod by what is not 0 -/
theorem divmod_any {a1 a2 : Option Addr} {l1 c1 l2 c2 : Nat} {xs ys : List Int} {w : World} (h1 : Rd w a1 l1 c1 xs) (h2 : Rd w a2 l2 c2 ys) (hl1 : l1 ≤ 1099511627776) (hpos : 0 < val ys) :
    Calls Tryz.prog 43 #[.slice a1 l1 c1, .slice a2 l2 c2] w fun e w' => ∃ aq lq cq zq ar lr cr zr, e = .returned (.tuple #[.slice aq lq cq, .slice ar lr cr, .int .i64 0]) ∧ Out w w' aq lq cq zq ∧ Canon zq ∧ val zq = val xs / val ys ∧ Out w w' ar lr cr zr ∧ Canon zr ∧ val zr = val xs % val ys ∧ lq ≤ l1 ∧ (aq = none ∨ blk aq ≠ blk ar) := by
  have hnn := val_nonneg h1.2.2.2.1
  rcases Int.lt_or_le (val xs) (val ys) with hlt | hge
  · refine (divmod_less h1 h2 hl1 hlt).mono ?_
    rintro e w' ⟨ad, cap, rfl, ho⟩
    refine ⟨none, 0, 0, [], _, _, _, _, rfl, ⟨ho.1, .inl ⟨rfl, rfl, rfl, rfl⟩⟩, canon_nil, ?_, ho, canon_trim h1.2.2.2.1, ?_, by omega, .inl rfl⟩
    · rw [Int.ediv_eq_zero_of_lt hnn hlt]; rfl
    · rw [val_trim, Int.emod_eq_of_lt hnn hlt]
  · have ht := trim_length ys
    rw [h2.1] at ht
    have hv := val_trim ys
    rcases Nat.lt_trichotomy (tl ys l2) 1 with h | h | h
    · have : trim ys = [] := List.eq_nil_of_length_eq_zero (by omega)
      rw [this] at hv
      have h0 : val [] = 0 := rfl
      omega
    · refine (divmod_limb h1 h2 hl1 hge h).mono ?_
      rintro e w' ⟨aq, lq, cq, zq, ar, lr, cr, zr, rfl, hoq, hcq, hvq, hor, hcr, hvr, hlq, _, hb⟩
      exact ⟨aq, lq, cq, zq, ar, lr, cr, zr, rfl, hoq, hcq, hvq, hor, hcr, hvr, hlq, hb⟩
    · refine (divmod_many (j := tl ys l2 - 2) h1 h2 hl1 hge (by omega)).mono ?_
      rintro e w' ⟨aq, lq, cq, zq, ar, lr, cr, zr, rfl, hoq, hcq, hvq, hor, hcr, hvr, hlq, _, hb⟩
      exact ⟨aq, lq, cq, zq, ar, lr, cr, zr, rfl, hoq, hcq, hvq, hor, hcr, hvr, hlq, hb⟩

/-- a canonical reading of a number is no longer than any other -/
theorem canon_short {zs xs : List Int} {l : Nat} (h : Canon zs) (hx : Limbs xs) (hl : xs.length = l) (hv : val zs ≤ val xs) : zs.length ≤ l := by
  refine canon_len h ?_
  have := (vl_bd hx xs.length).2
  rw [hl] at this
  have e : vl xs l = val xs := by unfold val; rw [hl]
  omega

theorem divmod_n {a1 a2 : Option Addr} {l1 c1 l2 c2 : Nat} {m n : Int} {w : World} (h1 : Nm w a1 l1 c1 m) (h2 : Nm w a2 l2 c2 n) (hl1 : l1 ≤ 1099511627776) (hn0 : 0 < n) :
    Calls Tryz.prog 43 #[.slice a1 l1 c1, .slice a2 l2 c2] w fun e w' => ∃ aq lq cq ar lr cr, e = .returned (.tuple #[.slice aq lq cq, .slice ar lr cr, .int .i64 0]) ∧ Cn w' aq lq cq (m / n) ∧ Cn w' ar lr cr (m % n) ∧ Below w.heap.size w w' ∧ lq ≤ l1 ∧ lr ≤ l2 := by
  obtain ⟨xs, h1, rfl⟩ := h1
  obtain ⟨ys, h2, rfl⟩ := h2
  refine (divmod_any h1 h2 hl1 hn0).mono ?_
  rintro e w' ⟨aq, lq, cq, zq, ar, lr, cr, zr, rfl, hoq, hcq, hvq, hor, hcr, hvr, hlq, _⟩
  refine ⟨aq, lq, cq, ar, lr, cr, rfl, out_cn hoq hcq hvq, out_cn hor hcr hvr, hoq.1, hlq, ?_⟩
  rw [← hor.rd.1]
  exact canon_short hcr h2.2.2.2.1 h2.1 (by rw [hvr]; exact Int.le_of_lt (Int.emod_lt_of_pos _ hn0))

theorem divmod_n0 {a1 a2 : Option Addr} {l1 c1 l2 c2 : Nat} {m n : Int} {w : World} (h1 : Nm w a1 l1 c1 m) (h2 : Nm w a2 l2 c2 n) (hn0 : n = 0) :
    Calls Tryz.prog 43 #[.slice a1 l1 c1, .slice a2 l2 c2] w fun e w' => e = .returned (.tuple #[.slice none 0 0, .slice none 0 0, .int .i64 11]) ∧ Below w.heap.size w w' := by
  obtain ⟨xs, h1, rfl⟩ := h1
  obtain ⟨ys, h2, rfl⟩ := h2
  refine (divmod_zero h1 h2 hn0).mono ?_
  rintro e w' ⟨rfl, rfl⟩
  exact ⟨rfl, Below.refl _ _⟩
end Go.Proofs.YtgkacepahfjeeaaGreatDoor
