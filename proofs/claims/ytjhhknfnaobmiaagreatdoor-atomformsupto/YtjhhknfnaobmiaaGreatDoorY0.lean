/-
 Layer 5: terms as lists of parts (a variable, a coefficient), and what they come to. No program in it.
-/
import Derived.Test.YtjhhknfnaobmiaaGreatDoorZ1
namespace Go.Proofs.YtjhhknfnaobmiaaGreatDoor.Tm

/-- a variable's coefficients taken together -/
def csum : List (Int × Int) → Int → Int
 | [], _ => 0
 | p :: ps, v => (if p.1 = v then p.2 else 0) + csum ps v
def scl (k : Int) (ps : List (Int × Int)) : List (Int × Int) := ps.map fun p => (p.1, k * p.2)
/-- parts as they should stand -/
def Std (ps : List (Int × Int)) : Prop := ps.Pairwise (fun p q => p.1 < q.1) ∧ ∀ p ∈ ps, p.2 ≠ 0
theorem csum_append (ps qs : List (Int × Int)) (v : Int) : csum (ps ++ qs) v = csum ps v + csum qs v := by
 induction ps with
 | nil => simp [csum]
 | cons p ps ih => simp only [List.cons_append, csum, ih]; omega
theorem csum_scl (k : Int) (ps : List (Int × Int)) (v : Int) : csum (scl k ps) v = k * csum ps v := by
 induction ps with
 | nil => simp [scl, csum]
 | cons p ps ih =>
  have e : scl k (p :: ps) = (p.1, k * p.2) :: scl k ps := rfl
  rw [e]
  simp only [csum, ih, Int.mul_add]
  split <;> simp
theorem csum_none {ps : List (Int × Int)} {v : Int} (h : ∀ p ∈ ps, p.1 ≠ v) : csum ps v = 0 := by
 induction ps with
 | nil => rfl
 | cons p ps ih => simp [csum, h p (by simp), ih (fun q hq => h q (by simp [hq]))]
theorem csum_mem {ps : List (Int × Int)} {v : Int} (h : csum ps v ≠ 0) : ∃ p ∈ ps, p.1 = v := by
 apply Classical.byContradiction
 intro hn
 exact h (csum_none fun p hp e => hn ⟨p, hp, e⟩)
theorem std_nil : Std [] := ⟨List.Pairwise.nil, fun p hp => by cases hp⟩
theorem std_head {p : Int × Int} {ps : List (Int × Int)} (h : Std (p :: ps)) : csum (p :: ps) p.1 = p.2 := by
 have h1 : csum ps p.1 = 0 := csum_none fun q hq e => by
  have := (List.pairwise_cons.1 h.1).1 q hq
  omega
 simp [csum, h1]
theorem std_low {p : Int × Int} {ps : List (Int × Int)} (h : Std (p :: ps)) {v : Int} (hv : v < p.1) : csum (p :: ps) v = 0 := by
 refine csum_none fun q hq e => ?_
 rcases List.mem_cons.1 hq with rfl | hq
 ·omega
 ·have := (List.pairwise_cons.1 h.1).1 q hq
  omega
theorem std_tail {p : Int × Int} {ps : List (Int × Int)} (h : Std (p :: ps)) : Std ps := ⟨(List.pairwise_cons.1 h.1).2, fun q hq => h.2 q (by simp [hq])⟩
theorem std_unique : ∀ {ps qs : List (Int × Int)}, Std ps → Std qs → (∀ v, csum ps v = csum qs v) → ps = qs
 | [], [], _, _, _ => rfl
 | [], q :: qs, _, hq, h => by
  have := h q.1
  rw [std_head hq] at this
  exact absurd this.symm (hq.2 q (by simp))
 | p :: ps, [], hp, _, h => by
  have := h p.1
  rw [std_head hp] at this
  exact absurd this (hp.2 p (by simp))
 | p :: ps, q :: qs, hp, hq, h => by
  have e1 : p.1 = q.1 := by
   rcases Int.lt_trichotomy p.1 q.1 with h1 | h1 | h1
   ·have := h p.1
    rw [std_head hp, std_low hq h1] at this
    exact absurd this (hp.2 p (by simp))
   ·exact h1
   ·have := h q.1
    rw [std_head hq, std_low hp h1] at this
    exact absurd this.symm (hq.2 q (by simp))
  have e2 : p.2 = q.2 := by rw [← std_head hp, ← std_head hq, ← e1, h]
  have e : p = q := Prod.ext e1 e2
  subst e
  rw [std_unique (std_tail hp) (std_tail hq) (fun v => by have := h v; simp only [csum] at this; omega)]
theorem std_csum_mem {ps : List (Int × Int)} (h : Std ps) {p : Int × Int} (hp : p ∈ ps) : csum ps p.1 = p.2 := by
 induction ps with
 | nil => cases hp
 | cons q ps ih =>
  rcases List.mem_cons.1 hp with rfl | h1
  ·exact std_head h
  ·have h2 := (List.pairwise_cons.1 h.1).1 p h1
   have h3 : ¬ q.1 = p.1 := by omega
   simp [csum, h3, ih (std_tail h) h1]
theorem csum_snoc (ps : List (Int × Int)) (p : Int × Int) (v : Int) : csum (ps ++ [p]) v = csum ps v + if p.1 = v then p.2 else 0 := by
 rw [csum_append]; simp [csum]

end Go.Proofs.YtjhhknfnaobmiaaGreatDoor.Tm
