/-
  What NatDivisors asks: divisors and multiples of loans.
-/
import Derived.Test.YtfmljpibkopmiaaDoorR4
import Derived.Test.YtfmljpibkopmiaaDoorRG
namespace Go.Proofs.YtfmljpibkopmiaaDoor
open Go.RowKit

theorem gcd_S {w0 w : World} {p q f1 g1 n1 f2 g2 n2 : Nat} {X1 F1 X2 F2 : List Int} (x : Box w0 p f1 g1 n1 X1 F1) (y : Box w0 q f2 g2 n2 X2 F2) (k : Kept w0 w) :
    Calls Tryd.prog 6 #[.slice (some ⟨f1, 0, none⟩) n1 (n1 + 4), .slice (some ⟨f2, 0, none⟩) n2 (n2 + 4)] w fun e w' => ∃ ad len cap zs, e = .returned (.slice ad len cap) ∧ Out w w' ad len cap zs ∧ Canon zs ∧ val zs = gcdI (val X1) (val X2) ∧ Below w.heap.size w w' := by
  refine (gcd_any (x.below k).lent.rd (y.below k).lent.rd x.lent.2.2.2.2.2 y.lent.2.2.2.2.2).mono ?_
  rintro e w' ⟨ad, len, cap, zs, rfl, ho, hc, hv, hl⟩
  exact ⟨ad, len, cap, zs, rfl, ho, hc, hv, ho.1⟩
theorem gcd_SX {w0 w : World} {p f1 g1 n1 : Nat} {X1 F1 : List Int} (x : Box w0 p f1 g1 n1 X1 F1) (k : Kept w0 w) :
    Calls Tryd.prog 6 #[.slice (some ⟨f1, 0, none⟩) n1 (n1 + 4), .slice (some ⟨f1, 0, none⟩) n1 (n1 + 4)] w fun e w' => ∃ ad len cap zs, e = .returned (.slice ad len cap) ∧ Out w w' ad len cap zs ∧ Canon zs ∧ val zs = val X1 ∧ Below w.heap.size w w' := by
  refine (gcd_S x x k).mono ?_
  rintro e w' ⟨ad, len, cap, zs, rfl, ho, hc, hv, hl⟩
  exact ⟨ad, len, cap, zs, rfl, ho, hc, by rw [hv]; exact gcdI_self (val_nonneg x.lent.rd.2.2.2.1), hl⟩
theorem lcm_S {w0 w : World} {p q f1 g1 n1 f2 g2 n2 : Nat} {X1 F1 X2 F2 : List Int} (x : Box w0 p f1 g1 n1 X1 F1) (y : Box w0 q f2 g2 n2 X2 F2) (k : Kept w0 w) :
    Calls Tryd.prog 9 #[.slice (some ⟨f1, 0, none⟩) n1 (n1 + 4), .slice (some ⟨f2, 0, none⟩) n2 (n2 + 4)] w fun e w' => ∃ ad len cap zs, e = .returned (.slice ad len cap) ∧ Out w w' ad len cap zs ∧ Canon zs ∧ val zs = lcmI (val X1) (val X2) ∧ Below w.heap.size w w' := by
  refine (lcm_any (x.below k).lent.rd (y.below k).lent.rd x.lent.2.2.2.2.2 y.lent.2.2.2.2.2).mono ?_
  rintro e w' ⟨ad, len, cap, zs, rfl, ho, hc, hv, hl⟩
  exact ⟨ad, len, cap, zs, rfl, ho, hc, hv, ho.1⟩
theorem refgcd_S {w0 w : World} {a1 a2 : Option Addr} {l1 c1 l2 c2 : Nat} {xs ys : List Int} (h1 : Rd w0 a1 l1 c1 xs) (h2 : Rd w0 a2 l2 c2 ys) (hl1 : l1 ≤ 1048576) (hl2 : l2 ≤ 1048576) (k : Kept w0 w) :
    Calls Tryd.prog 8 #[.slice a1 l1 c1, .slice a2 l2 c2] w fun e w' => ∃ ad len cap zs, e = .returned (.slice ad len cap) ∧ Out w w' ad len cap zs ∧ Canon zs ∧ val zs = gcdI (val xs) (val ys) ∧ Below w.heap.size w w' := by
  refine (refgcd_any (h1.below k) (h2.below k) (by omega) (by omega)).mono ?_
  rintro e w' ⟨ad, len, cap, zs, rfl, ho, hc, hv, hl⟩
  exact ⟨ad, len, cap, zs, rfl, ho, hc, hv, ho.1⟩
theorem reflcm_S {w0 w : World} {a1 a2 : Option Addr} {l1 c1 l2 c2 : Nat} {xs ys : List Int} (h1 : Rd w0 a1 l1 c1 xs) (h2 : Rd w0 a2 l2 c2 ys) (hl1 : l1 ≤ 1048576) (hl2 : l2 ≤ 1048576) (k : Kept w0 w) :
    Calls Tryd.prog 10 #[.slice a1 l1 c1, .slice a2 l2 c2] w fun e w' => ∃ ad len cap zs, e = .returned (.slice ad len cap) ∧ Out w w' ad len cap zs ∧ Canon zs ∧ val zs = lcmI (val xs) (val ys) ∧ Below w.heap.size w w' := by
  refine (reflcm_any (h1.below k) (h2.below k) (by omega) (by omega)).mono ?_
  rintro e w' ⟨ad, len, cap, zs, rfl, ho, hc, hv⟩
  exact ⟨ad, len, cap, zs, rfl, ho, hc, hv, ho.1⟩
theorem trim_S {w0 w : World} {a1 : Option Addr} {l1 c1 : Nat} {xs : List Int} (h1 : Rd w0 a1 l1 c1 xs) (hl1 : l1 ≤ 1048576) (k : Kept w0 w) :
    Calls Tryd.prog 11 #[.slice a1 l1 c1] w fun e w' => ∃ ad len cap zs, e = .returned (.slice ad len cap) ∧ Out w w' ad len cap zs ∧ Canon zs ∧ val zs = val xs ∧ Below w.heap.size w w' := by
  refine (trim_any (h1.below k) (by omega)).mono ?_
  rintro e w' ⟨rfl, ho, -⟩
  exact ⟨_, _, _, _, rfl, ho, canon_trim h1.2.2.2.1, val_trim xs, ho.1⟩
end Go.Proofs.YtfmljpibkopmiaaDoor
