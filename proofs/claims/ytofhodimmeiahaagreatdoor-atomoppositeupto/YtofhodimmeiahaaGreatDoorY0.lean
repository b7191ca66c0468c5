/-
  Layer 5: terms as lists of parts (a variable, a coefficient), and what they come to. No program in it.
-/
import Derived.Test.YtofhodimmeiahaaGreatDoorZ1
namespace Go.Proofs.YtofhodimmeiahaaGreatDoor.Tm

/-- a variable's coefficients taken together -/
def csum : List (Int × Int) → Int → Int
  | [], _ => 0
  | p :: ps, v => (if p.1 = v then p.2 else 0) + csum ps v
/-- the value of the parts under values -/
def ev : List (Int × Int) → (Int → Int) → Int
  | [], _ => 0
  | p :: ps, f => p.2 * f p.1 + ev ps f
def scl (k : Int) (ps : List (Int × Int)) : List (Int × Int) := ps.map fun p => (p.1, k * p.2)
def wo (v : Int) (ps : List (Int × Int)) : List (Int × Int) := ps.filter fun p => !decide (p.1 = v)
/-- parts as they should stand -/
def Std (ps : List (Int × Int)) : Prop := ps.Pairwise (fun p q => p.1 < q.1) ∧ ∀ p ∈ ps, p.2 ≠ 0
/-- a variable's first value -/
def fv : List (Int × Int) → Int → Option Int
  | [], _ => none
  | p :: r, v => if p.1 = v then some p.2 else fv r v

theorem csum_append (ps qs : List (Int × Int)) (v : Int) : csum (ps ++ qs) v = csum ps v + csum qs v := by
  induction ps with
  | nil => simp [csum]
  | cons p ps ih => simp only [List.cons_append, csum, ih]; omega
theorem csum_scl (k : Int) (ps : List (Int × Int)) (v : Int) : csum (scl k ps) v = k * csum ps v := by
  induction ps with
  | nil => simp [scl, csum]
  | cons p ps ih =>
    have e : scl k (p :: ps) = (p.1, k * p.2) :: scl k ps := rfl
    rw [e]
    simp only [csum, ih, Int.mul_add]
    split <;> simp
theorem csum_wo (v : Int) (ps : List (Int × Int)) (u : Int) : csum (wo v ps) u = if u = v then 0 else csum ps u := by
  induction ps with
  | nil => simp [wo, csum]
  | cons p ps ih =>
    unfold wo at *
    by_cases h : p.1 = v
    · rw [List.filter_cons_of_neg (by simp [h]), ih]
      split
      · rfl
      · rename_i hu
        have : ¬ p.1 = u := fun e => hu (by rw [← e, h])
        simp [csum, this]
    · rw [List.filter_cons_of_pos (by simp [h])]
      simp only [csum, ih]
      by_cases hu : u = v
      · have : ¬ p.1 = u := fun e => h (by rw [e, hu])
        simp [hu]
        intro e; exact absurd e h
      · simp [hu]
theorem ev_append (ps qs : List (Int × Int)) (f : Int → Int) : ev (ps ++ qs) f = ev ps f + ev qs f := by
  induction ps with
  | nil => simp [ev]
  | cons p ps ih => simp only [List.cons_append, ev, ih]; omega
theorem ev_scl (k : Int) (ps : List (Int × Int)) (f : Int → Int) : ev (scl k ps) f = k * ev ps f := by
  induction ps with
  | nil => simp [scl, ev]
  | cons p ps ih =>
    have e : scl k (p :: ps) = (p.1, k * p.2) :: scl k ps := rfl
    rw [e]
    simp only [ev, ih, Int.mul_add, Int.mul_assoc]
theorem ev_split (v : Int) (ps : List (Int × Int)) (f : Int → Int) : ev ps f = csum ps v * f v + ev (wo v ps) f := by
  induction ps with
  | nil => simp [wo, ev, csum]
  | cons p ps ih =>
    unfold wo at *
    by_cases h : p.1 = v
    · rw [List.filter_cons_of_neg (by simp [h])]
      simp only [ev, csum, ih, h, if_true, Int.add_mul]
      omega
    · rw [List.filter_cons_of_pos (by simp [h])]
      simp only [ev, csum, ih, h, if_false, Int.zero_add]
      omega
theorem wo_length_le (v : Int) (ps : List (Int × Int)) : (wo v ps).length ≤ ps.length := List.length_filter_le _ _
theorem wo_length_lt {p : Int × Int} {ps : List (Int × Int)} : (wo p.1 (p :: ps)).length < (p :: ps).length := by
  unfold wo
  rw [List.filter_cons_of_neg (by simp)]
  have := List.length_filter_le (fun q : Int × Int => !decide (q.1 = p.1)) ps
  simp only [List.length_cons]; omega
theorem ev_congr_n (f : Int → Int) : ∀ (n : Nat) (ps qs : List (Int × Int)), ps.length + qs.length ≤ n → (∀ v, csum ps v = csum qs v) → ev ps f = ev qs f := by
  intro n
  induction n with
  | zero =>
    intro ps qs hn _
    have h1 : ps = [] := List.eq_nil_of_length_eq_zero (by omega)
    have h2 : qs = [] := List.eq_nil_of_length_eq_zero (by omega)
    rw [h1, h2]
  | succ n ih =>
    intro ps qs hn hc
    have step : ∀ v, (wo v ps).length + (wo v qs).length ≤ n → ev ps f = ev qs f := by
      intro v hv
      rw [ev_split v ps, ev_split v qs, hc v, ih (wo v ps) (wo v qs) hv (fun u => by rw [csum_wo, csum_wo, hc u])]
    cases ps with
    | nil =>
      cases qs with
      | nil => rfl
      | cons q qs =>
        have h1 := wo_length_lt (p := q) (ps := qs)
        have h2 := wo_length_le q.1 ([] : List (Int × Int))
        exact step q.1 (by simp only [List.length_nil, List.length_cons] at *; omega)
    | cons p ps =>
      have h1 := wo_length_lt (p := p) (ps := ps)
      have h2 := wo_length_le p.1 qs
      exact step p.1 (by simp only [List.length_cons] at *; omega)
theorem ev_congr {ps qs : List (Int × Int)} (h : ∀ v, csum ps v = csum qs v) (f : Int → Int) : ev ps f = ev qs f := ev_congr_n f _ ps qs (Nat.le_refl _) h
theorem csum_none {ps : List (Int × Int)} {v : Int} (h : ∀ p ∈ ps, p.1 ≠ v) : csum ps v = 0 := by
  induction ps with
  | nil => rfl
  | cons p ps ih => simp [csum, h p (by simp), ih (fun q hq => h q (by simp [hq]))]
theorem csum_mem {ps : List (Int × Int)} {v : Int} (h : csum ps v ≠ 0) : ∃ p ∈ ps, p.1 = v := by
  apply Classical.byContradiction
  intro hn
  exact h (csum_none fun p hp e => hn ⟨p, hp, e⟩)
theorem ev_congr_on {ps : List (Int × Int)} {f g : Int → Int} (h : ∀ v, csum ps v ≠ 0 → f v = g v) : ev ps f = ev ps g := by
  have key : ∀ (n : Nat) (ps : List (Int × Int)), ps.length ≤ n → (∀ v, csum ps v ≠ 0 → f v = g v) → ev ps f = ev ps g := by
    intro n
    induction n with
    | zero => intro ps hn _; rw [List.eq_nil_of_length_eq_zero (show ps.length = 0 by omega)]; rfl
    | succ n ih =>
      intro ps hn h
      cases ps with
      | nil => rfl
      | cons p ps =>
        have h1 := wo_length_lt (p := p) (ps := ps)
        rw [ev_split p.1 (p :: ps) f, ev_split p.1 (p :: ps) g, ih (wo p.1 (p :: ps)) (by omega) (fun v hv => h v (fun e => hv (by rw [csum_wo, e]; split <;> rfl)))]
        by_cases h0 : csum (p :: ps) p.1 = 0
        · rw [h0]; simp
        · rw [h p.1 h0]
  exact key _ ps (Nat.le_refl _) h

theorem std_nil : Std [] := ⟨List.Pairwise.nil, fun p hp => by cases hp⟩
theorem std_head {p : Int × Int} {ps : List (Int × Int)} (h : Std (p :: ps)) : csum (p :: ps) p.1 = p.2 := by
  have h1 : csum ps p.1 = 0 := csum_none fun q hq e => by
    have := (List.pairwise_cons.1 h.1).1 q hq
    omega
  simp [csum, h1]
theorem std_low {p : Int × Int} {ps : List (Int × Int)} (h : Std (p :: ps)) {v : Int} (hv : v < p.1) : csum (p :: ps) v = 0 := by
  refine csum_none fun q hq e => ?_
  rcases List.mem_cons.1 hq with rfl | hq
  · omega
  · have := (List.pairwise_cons.1 h.1).1 q hq
    omega
theorem std_tail {p : Int × Int} {ps : List (Int × Int)} (h : Std (p :: ps)) : Std ps := ⟨(List.pairwise_cons.1 h.1).2, fun q hq => h.2 q (by simp [hq])⟩
theorem std_unique : ∀ {ps qs : List (Int × Int)}, Std ps → Std qs → (∀ v, csum ps v = csum qs v) → ps = qs
  | [], [], _, _, _ => rfl
  | [], q :: qs, _, hq, h => by
    have := h q.1
    rw [std_head hq] at this
    exact absurd this.symm (hq.2 q (by simp))
  | p :: ps, [], hp, _, h => by
    have := h p.1
    rw [std_head hp] at this
    exact absurd this (hp.2 p (by simp))
  | p :: ps, q :: qs, hp, hq, h => by
    have e1 : p.1 = q.1 := by
      rcases Int.lt_trichotomy p.1 q.1 with h1 | h1 | h1
      · have := h p.1
        rw [std_head hp, std_low hq h1] at this
        exact absurd this (hp.2 p (by simp))
      · exact h1
      · have := h q.1
        rw [std_head hq, std_low hp h1] at this
        exact absurd this.symm (hq.2 q (by simp))
    have e2 : p.2 = q.2 := by rw [← std_head hp, ← std_head hq, ← e1, h]
    have e : p = q := Prod.ext e1 e2
    subst e
    rw [std_unique (std_tail hp) (std_tail hq) (fun v => by have := h v; simp only [csum] at this; omega)]
theorem std_csum_mem {ps : List (Int × Int)} (h : Std ps) {p : Int × Int} (hp : p ∈ ps) : csum ps p.1 = p.2 := by
  induction ps with
  | nil => cases hp
  | cons q ps ih =>
    rcases List.mem_cons.1 hp with rfl | h1
    · exact std_head h
    · have h2 := (List.pairwise_cons.1 h.1).1 p h1
      have h3 : ¬ q.1 = p.1 := by omega
      simp [csum, h3, ih (std_tail h) h1]
/-- parts, each variable once: the coefficient of one of them -/
theorem csum_nodup {ps : List (Int × Int)} (h : (ps.map Prod.fst).Nodup) {p : Int × Int} (hp : p ∈ ps) : csum ps p.1 = p.2 := by
  induction ps with
  | nil => cases hp
  | cons q ps ih =>
    simp only [List.map_cons, List.nodup_cons] at h
    rcases List.mem_cons.1 hp with rfl | h1
    · have : csum ps p.1 = 0 := csum_none fun r hr e => h.1 (List.mem_map.2 ⟨r, hr, e⟩)
      simp [csum, this]
    · have h3 : ¬ q.1 = p.1 := fun e => h.1 (List.mem_map.2 ⟨p, h1, e.symm⟩)
      simp [csum, h3, ih h.2 h1]
theorem csum_perm {ps qs : List (Int × Int)} (h : ps.Perm qs) (v : Int) : csum ps v = csum qs v := by
  induction h with
  | nil => rfl
  | cons x _ ih => simp [csum, ih]
  | swap x y l => simp only [csum]; omega
  | trans _ _ ih1 ih2 => rw [ih1, ih2]
theorem csum_snoc (ps : List (Int × Int)) (p : Int × Int) (v : Int) : csum (ps ++ [p]) v = csum ps v + if p.1 = v then p.2 else 0 := by
  rw [csum_append]; simp [csum]

end Go.Proofs.YtofhodimmeiahaaGreatDoor.Tm
