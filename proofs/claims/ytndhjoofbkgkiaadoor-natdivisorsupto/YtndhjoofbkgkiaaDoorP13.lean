/-
 Walks: Gcd, Lcm.
-/
import Derived.Test.YtndhjoofbkgkiaaDoorP07
namespace Go.Proofs.YtndhjoofbkgkiaaDoor
open Go.RowKit
/-- the greatest common divisor of numbers that are not below 0 -/
def gcdI (m n : Int) : Int := (Nat.gcd m.toNat n.toNat : Int)

theorem gcdI_zero {m : Int} (h : 0 ≤ m) : gcdI m 0 = m := by
 unfold gcdI
 rw [show (0 : Int).toNat = 0 from rfl, Nat.gcd_zero_right]
 omega

theorem gcdI_step {m n : Int} (hm : 0 ≤ m) (hn : 0 < n) : gcdI n (m % n) = gcdI m n := by
 unfold gcdI
 obtain ⟨a, rfl⟩ := Int.eq_ofNat_of_zero_le hm
 obtain ⟨b, rfl⟩ := Int.eq_ofNat_of_zero_le (Int.le_of_lt hn)
 rw [← Int.natCast_emod, Int.toNat_natCast, Int.toNat_natCast, Int.toNat_natCast, Nat.gcd_comm a b, Nat.gcd_rec b a, Nat.gcd_comm (a % b) b]

/-- what holds of both numbers at every round's head -/
def GcdRel (w : World) (g0 : Int) (M : Nat) (gk : Nat) (l p : Value) (wr : World) : Prop :=
 ∃ aA nA cA A aB nB cB B, l = .slice aA nA cA ∧ p = .slice aB nB cB ∧ Rd wr aA nA cA A ∧ Rd wr aB nB cB B ∧ Canon B ∧ nA ≤ M ∧ nB ≤ M ∧ Below w.heap.size w wr ∧ gcdI (val A) (val B) = g0 ∧ gk = (val B).toNat

set_option maxRecDepth 100000 in
set_option maxHeartbeats 1600000 in
theorem gcd_any {a1 a2 : Option Addr} {l1 c1 l2 c2 : Nat} {xs ys : List Int} {w : World} (h1 : Rd w a1 l1 c1 xs) (h2 : Rd w a2 l2 c2 ys) (hl1 : l1 ≤ 1099511627776) (hl2 : l2 ≤ 1099511627776) :
  Calls Tryd.prog 22 #[.slice a1 l1 c1, .slice a2 l2 c2] w fun e w' => ∃ ad len cap zs, e = .returned (.slice ad len cap) ∧ Out w w' ad len cap zs ∧ Canon zs ∧ val zs = gcdI (val xs) (val ys) ∧ len ≤ max l1 l2 := by
 have t1 := h1.trim
 have t2 := h2.trim
 have k2 := canon_trim h2.2.2.2.1
 have b1 := tl_le xs l1
 have b2 := tl_le ys l2
 obtain ⟨M, hM1, hM2, hM3, hM4⟩ : ∃ M, l1 ≤ M ∧ l2 ≤ M ∧ M ≤ 1099511627776 ∧ M ≤ max l1 l2 := ⟨max l1 l2, by omega, by omega, by omega, by omega⟩
 have hstart : Hid (GcdRel w (gcdI (val xs) (val ys)) M (val (trim ys)).toNat (.slice a1 (tl xs l1) c1) (.slice a2 (tl ys l2) c2) w) :=
  ⟨_, _, _, _, _, _, _, _, rfl, rfl, t1, t2, k2, by omega, by omega, Below.refl _ _, by rw [val_trim, val_trim], rfl⟩
 clear t1 t2 k2
 go_enter Tryd.func22, Tryd.ntmps22
 go_wp2_with fail
 refine (bare_any h1).mono ?_
 rintro e w' ⟨rfl, rfl⟩
 go_wp2_with fail
 refine (bare_any h2).mono ?_
 rintro e w' ⟨rfl, rfl⟩
 go_wp2_with fail
 go_loopg [0, 1] (val (trim ys)).toNat (fun gk l p wr => GcdRel w (gcdI (val xs) (val ys)) M gk l p wr)
 case atStart => exact unhide hstart
 case round =>
  obtain ⟨aA, nA, cA, A, aB, nB, cB, B, rfl, rfl, hA, hB, hcB, hnA, hnB, hbel, hg, rfl⟩ := hrel
  have HG := hide hg
  clear hg hstart
  by_cases hn0 : nB = 0
  ·subst hn0
   have hBn : B = [] := List.eq_nil_of_length_eq_zero hB.1
   subst hBn
   have hAn := val_nonneg hA.2.2.2.1
   have hfin : Hid (val (trim A) = gcdI (val xs) (val ys)) := by
    show _ = _
    rw [← unhide HG, val_trim]
    exact (gcdI_zero hAn).symm
   have htA := tl_le A nA
   have hcA := canon_trim hA.2.2.2.1
   clear HG
   go_wp2_with fail
   refine (fresh_any hA (by omega)).mono ?_
   rintro e w1 ⟨ad, cap, rfl, ho⟩
   have HO := hide (ho.outer hbel)
   clear ho
   go_wp2_with fail
   go_ret
   exact ⟨_, _, _, _, rfl, unhide HO, hcA, unhide hfin, by omega⟩
  ·have hpos : 0 < val B := by
    have := canon_low hcB (by rw [hB.1]; omega)
    have := pw_pos (B.length - 1)
    omega
   have hAn := val_nonneg hA.2.2.2.1
   have hg : (0 : Int) < (nB : Int) := by omega
   go_wp2_with fail
   refine (divmod_any hA hB (by omega) hpos).mono ?_
   rintro e w1 ⟨aq, lq, cq, zq, ar, lr, cr, zr, rfl, hoq, hcq, hvq, hor, hcr, hvr, hlq, hblk⟩
   have hlr : lr ≤ nB := by
    rw [← hor.rd.1]
    exact canon_short hcr hB.2.2.2.1 hB.1 (by rw [hvr]; exact Int.le_of_lt (Int.emod_lt_of_pos _ hpos))
   have hrel' : Hid (GcdRel w (gcdI (val xs) (val ys)) M (val A % val B).toNat (.slice aB nB cB) (.slice ar lr cr) w1) :=
    ⟨_, _, _, _, _, _, _, _, rfl, rfl, hB.below hor.1, hor.rd, hcr, hnB, by omega, hbel.trans (hor.1.mono hbel.size), by rw [hvr, gcdI_step hAn hpos]; exact unhide HG, by rw [hvr]⟩
   have hmeas : Hid ((val A % val B).toNat < (val B).toNat) := by
    show _ < _
    have h3 := Int.emod_lt_of_pos (val A) hpos
    have h4 := Int.emod_nonneg (val A) (Int.ne_of_gt hpos)
    omega
   clear hoq hor hvq hvr hblk HG hcq hcr
   go_wp2_with fail
   go_roundg (val A % val B).toNat
   case measure => exact unhide hmeas
   case rel => exact unhide hrel'
/-- the least common multiple, as it is reckoned -/
def lcmI (m n : Int) : Int := m / gcdI m n * n

set_option maxRecDepth 100000 in
set_option maxHeartbeats 1600000 in
theorem lcm_any {a1 a2 : Option Addr} {l1 c1 l2 c2 : Nat} {xs ys : List Int} {w : World} (h1 : Rd w a1 l1 c1 xs) (h2 : Rd w a2 l2 c2 ys) (hl1 : l1 ≤ 1099511627776) (hl2 : l2 ≤ 1099511627776) :
  Calls Tryd.prog 24 #[.slice a1 l1 c1, .slice a2 l2 c2] w fun e w' => ∃ ad len cap zs, e = .returned (.slice ad len cap) ∧ Out w w' ad len cap zs ∧ Canon zs ∧ val zs = lcmI (val xs) (val ys) ∧ len ≤ l1 + l2 := by
 go_enter Tryd.func24, Tryd.ntmps24
 go_wp2_with fail
 refine (gcd_any h1 h2 hl1 hl2).mono ?_
 rintro e w1 ⟨ag, lg, cg, zg, rfl, hog, hcg, hvg, hlg⟩
 have HVG := hide hvg
 have hgl := hog.rd.1
 clear hvg
 by_cases h0 : lg = 0
 ·subst h0
  have hzg : zg = [] := List.eq_nil_of_length_eq_zero hgl
  have hfin : Hid (val [] = lcmI (val xs) (val ys)) := by
   show _ = _
   have e1 := unhide HVG
   rw [hzg] at e1
   unfold lcmI
   rw [← e1]
   show 0 = _ / (0 : Int) * _
   simp
  have HB := hide hog.1
  clear HVG hog hgl hzg hcg
  go_wp2_with fail
  go_ret
  exact ⟨none, 0, 0, [], rfl, ⟨unhide HB, .inl ⟨rfl, rfl, rfl, rfl⟩⟩, canon_nil, unhide hfin, by omega⟩
 ·have hne : ((lg : Int) == 0) = false := by rw [beq_eq_false_iff_ne]; omega
  have hpos : 0 < val zg := by
   have := canon_low hcg (by rw [hgl]; omega)
   have := pw_pos (zg.length - 1)
   omega
  have q1 := h1.below hog.1
  have q2 := h2.below hog.1
  have hB1 := hog.1
  have qg := hog.rd
  clear hog
  go_wp2_with fail
  refine (divmod_any q1 qg hl1 hpos).mono ?_
  rintro e w2 ⟨aq, lq, cq, zq, ar, lr, cr, zr, rfl, hoq, hcq, hvq, hor, hcr, hvr, hlq, hblk⟩
  have q3 := q2.below hoq.1
  have hB2 := hB1.trans (hoq.1.mono hB1.size)
  have HVQ := hide hvq
  have qq := hoq.rd
  clear hor hvr hblk hvq hcr hoq q1 q2 hB1 qg
  go_wp2_with fail
  refine (mul_any qq q3 (by omega) hl2).mono ?_
  rintro e w3 ⟨ap, lp, cp, zp, rfl, hop, hcp, hvp, hlp⟩
  have HO := hide (hop.outer hB2)
  have hfin : Hid (val zp = lcmI (val xs) (val ys)) := by
   show _ = _
   rw [hvp, unhide HVQ, unhide HVG]
   rfl
  clear hop hvp
  go_wp2_with fail
  go_ret
  exact ⟨_, _, _, _, rfl, unhide HO, hcp, unhide hfin, by omega⟩
theorem Cn.len {w : World} {ad : Option Addr} {len cap : Nat} {n : Int} (h : Cn w ad len cap n) : n = 0 ↔ len = 0 := by
 obtain ⟨zs, h1, h2, rfl⟩ := h
 rw [canon_zero h2]
 constructor
 ·rintro rfl; exact h1.1.symm
 ·intro h; exact List.eq_nil_of_length_eq_zero (h1.1.trans h)

theorem gcdI_comm (m n : Int) : gcdI m n = gcdI n m := by unfold gcdI; rw [Nat.gcd_comm]
end Go.Proofs.YtndhjoofbkgkiaaDoor
