/-
  Decimal texts: what they read as, and their order.
-/
import Derived.Test.YtcmlkofcmgbceaaDoorT5
namespace Go.Proofs.YtcmlkofcmgbceaaDoor
open Go.RowKit

/-- the number of a list of digits -/
def vf : List UInt8 → Nat
  | [] => 0
  | c :: l => (c.toNat - 48) * 10 ^ l.length + vf l

/-- digits alone -/
def Dig (l : List UInt8) : Prop := ∀ c ∈ l, 48 ≤ c.toNat ∧ c.toNat ≤ 57

theorem vf_snoc (l : List UInt8) (c : UInt8) : vf (l ++ [c]) = vf l * 10 + (c.toNat - 48) := by
  induction l with
  | nil => simp [vf]
  | cons x l ih =>
    simp only [List.cons_append, vf, ih, List.length_append, List.length_singleton, Nat.pow_succ]
    rw [Nat.add_mul, Nat.mul_assoc]
    omega

theorem vf_lt {l : List UInt8} (h : Dig l) : vf l < 10 ^ l.length := by
  induction l with
  | nil => simp [vf]
  | cons c l ih =>
    have h1 := ih (fun x hx => h x (List.mem_cons_of_mem _ hx))
    have h2 := h c (List.mem_cons_self ..)
    simp only [vf, List.length_cons, Nat.pow_succ]
    have h3 : (c.toNat - 48) * 10 ^ l.length ≤ 9 * 10 ^ l.length := Nat.mul_le_mul_right _ (by omega)
    omega

theorem bt_list (l : List UInt8) (i : Nat) : bt ⟨l.toArray⟩ i = (l.getD i 0).toNat := by
  unfold bt
  simp

theorem dr_vf (l : List UInt8) : dr ⟨l.toArray⟩ 0 l.length = vf l := by
  have key : ∀ (m k : Nat) (p r : List UInt8), l = p ++ r → p.length = m → r.length = k → dr ⟨l.toArray⟩ m k = vf r := by
    intro m k
    induction k generalizing m with
    | zero => intro p r _ _ hr; rw [List.eq_nil_of_length_eq_zero hr]; rfl
    | succ k ih =>
      intro p r hl hp hr
      cases r with
      | nil => simp at hr
      | cons c r =>
        have hr' : r.length = k := by simpa using hr
        have h1 := ih (m + 1) (p ++ [c]) r (by rw [hl]; simp) (by simp [hp]) hr'
        rw [show k + 1 = 1 + k from by omega, dr_add, h1]
        simp only [dr, vf, Nat.zero_mul, Nat.zero_add, Nat.add_zero, hr']
        rw [bt_list]
        have : l.getD m 0 = c := by rw [hl, ← hp]; simp [List.getD]
        rw [this]
  exact key 0 l.length [] l rfl rfl rfl

theorem dec_facts (n : Nat) : Dig (Lib.decDigits n) ∧ vf (Lib.decDigits n) = n ∧ 0 < (Lib.decDigits n).length ∧ (0 < n → 10 ^ ((Lib.decDigits n).length - 1) ≤ n ∧ ((Lib.decDigits n).getD 0 0).toNat ≠ 48) := by
  induction n using Nat.strongRecOn with
  | _ n ih =>
    have hc : ∀ d : Nat, d < 10 → (UInt8.ofNat (48 + d)).toNat = 48 + d := fun d hd => by
      rw [UInt8.toNat_ofNat']; omega
    by_cases h : n < 10
    · rw [dec_small n h]
      have h1 := hc n h
      refine ⟨fun c hcm => ?_, ?_, by simp, fun hp => ⟨by simp; omega, ?_⟩⟩
      · rw [List.mem_singleton.1 hcm, h1]; omega
      · simp only [vf, h1, List.length_nil, Nat.pow_zero]; omega
      · simp only [List.getD_cons_zero, h1]; omega
    · obtain ⟨i1, i2, i3, i4⟩ := ih (n / 10) (by omega)
      obtain ⟨i5, i6⟩ := i4 (by omega)
      have h1 := hc (n % 10) (by omega)
      rw [dec_step n h]
      refine ⟨fun c hcm => ?_, ?_, by simp, fun hp => ⟨?_, ?_⟩⟩
      · rcases List.mem_append.1 hcm with hm | hm
        · exact i1 c hm
        · rw [List.mem_singleton.1 hm, h1]; omega
      · rw [vf_snoc, i2, h1]; omega
      · rw [List.length_append, List.length_singleton, Nat.add_sub_cancel]
        obtain ⟨k, hk⟩ : ∃ k, (Lib.decDigits (n / 10)).length = k + 1 := ⟨_, (Nat.succ_pred_eq_of_pos i3).symm⟩
        rw [hk] at i5 ⊢
        rw [Nat.add_sub_cancel] at i5
        rw [Nat.pow_succ]
        omega
      · cases hq : Lib.decDigits (n / 10) with
        | nil => rw [hq] at i3; simp at i3
        | cons x r => rw [hq] at i6; simpa using i6

theorem size_list' (l : List UInt8) : (⟨l.toArray⟩ : ByteArray).size = l.length := by
  show l.toArray.size = _
  simp

theorem dec_ok (n : Nat) : okText ⟨(Lib.decDigits n).toArray⟩ := by
  obtain ⟨h1, h2, h3, h4⟩ := dec_facts n
  refine ⟨by rw [size_list']; exact h3, fun h => ?_, fun i hi => ?_⟩
  · rw [size_list', bt_list] at h
    have hp : 0 < n := by
      rcases Nat.eq_zero_or_pos n with h0 | h0
      · subst h0; rw [dec_small 0 (by decide)] at h; simp at h
      · exact h0
    exact (h4 hp).2 h.2
  · rw [size_list'] at hi
    rw [bt_list]
    have e : (Lib.decDigits n).getD i 0 = (Lib.decDigits n)[i] := by simp [List.getD, hi]
    rw [e]
    exact h1 _ (List.getElem_mem hi)

theorem dec_dr (n : Nat) : dr ⟨(Lib.decDigits n).toArray⟩ 0 (⟨(Lib.decDigits n).toArray⟩ : ByteArray).size = n := by
  rw [size_list', dr_vf]
  exact (dec_facts n).2.1

/-- of texts of one length the later one is the greater number -/
theorem less_vf {l r : List UInt8} (hl : Dig l) (hr : Dig r) (he : l.length = r.length) : Op.bytesLess l r = decide (vf l < vf r) := by
  induction l generalizing r with
  | nil =>
    have : r = [] := List.eq_nil_of_length_eq_zero he.symm
    subst this
    rfl
  | cons c l ih =>
    cases r with
    | nil => simp at he
    | cons d r =>
      have he' : l.length = r.length := by simpa using he
      have h1 := ih (fun x hx => hl x (List.mem_cons_of_mem _ hx)) (fun x hx => hr x (List.mem_cons_of_mem _ hx)) he'
      have hc := hl c (List.mem_cons_self ..)
      have hd := hr d (List.mem_cons_self ..)
      have vl1 := vf_lt (fun x hx => hl x (List.mem_cons_of_mem _ hx) : Dig l)
      have vr1 := vf_lt (fun x hx => hr x (List.mem_cons_of_mem _ hx) : Dig r)
      rw [he'] at vl1
      unfold Op.bytesLess
      simp only [vf, he']
      generalize 10 ^ r.length = P at *
      rcases Nat.lt_trichotomy c.toNat d.toNat with h | h | h
      · have e1 : c < d := UInt8.lt_iff_toNat_lt.2 h
        have e2 : (c.toNat - 48 + 1) * P ≤ (d.toNat - 48) * P := Nat.mul_le_mul_right _ (by omega)
        rw [Nat.add_mul] at e2
        have e3 : (c.toNat - 48) * P + vf l < (d.toNat - 48) * P + vf r := by omega
        simp [e1, e3]
      · have e1 : c = d := UInt8.toNat_inj.1 h
        subst e1
        have e2 : ¬ c < c := fun hh => Nat.lt_irrefl _ (UInt8.lt_iff_toNat_lt.1 hh)
        simp [h1]
      · have e1 : ¬ c < d := fun hh => by have := UInt8.lt_iff_toNat_lt.1 hh; omega
        have e2 : ¬ c = d := fun hh => by rw [hh] at h; omega
        have e3 : (d.toNat - 48 + 1) * P ≤ (c.toNat - 48) * P := Nat.mul_le_mul_right _ (by omega)
        rw [Nat.add_mul] at e3
        have e4 : ¬ (c.toNat - 48) * P + vf l < (d.toNat - 48) * P + vf r := by omega
        simp [e1, e2, e4]

theorem dec_len_mono {a b : Nat} (h : a < b) : (Lib.decDigits a).length ≤ (Lib.decDigits b).length := by
  obtain ⟨a1, a2, a3, a4⟩ := dec_facts a
  obtain ⟨b1, b2, b3, b4⟩ := dec_facts b
  rcases Nat.lt_or_ge (Lib.decDigits b).length (Lib.decDigits a).length with h1 | h1
  · rcases Nat.eq_zero_or_pos a with h0 | h0
    · subst h0
      rw [dec_small 0 (by decide), List.length_singleton] at h1
      omega
    · have h2 := (a4 h0).1
      have h3 := vf_lt b1
      rw [b2] at h3
      have : 10 ^ (Lib.decDigits b).length ≤ 10 ^ ((Lib.decDigits a).length - 1) := Nat.pow_le_pow_right (by decide) (by omega)
      omega
  · exact h1

/-- the texts of two numbers, of one length: which is less -/
theorem dec_less (a b : Nat) (he : (Lib.decDigits a).length = (Lib.decDigits b).length) : Op.bytesLess (Lib.decDigits a) (Lib.decDigits b) = decide (a < b) := by
  rw [less_vf (dec_facts a).1 (dec_facts b).1 he, (dec_facts a).2.1, (dec_facts b).2.1]

theorem dec_inj {a b : Nat} (h : Lib.decDigits a = Lib.decDigits b) : a = b := by
  rw [← (dec_facts a).2.1, h, (dec_facts b).2.1]

theorem pow10_pw (k : Nat) : pw k ≤ ((10 ^ (10 * k) : Nat) : Int) := by
  induction k with
  | zero => decide
  | succ k ih =>
    have e : 10 ^ (10 * (k + 1)) = 10 ^ 10 * 10 ^ (10 * k) := by rw [← Nat.pow_add]; congr 1; omega
    rw [pw_succ, e, Int.natCast_mul]
    have h2 : ((10 ^ 10 : Nat) : Int) = 10000000000 := by decide
    rw [h2]
    have := pw_pos k
    omega

/-- a text's length -/
theorem dec_len_pw {n k : Nat} (h : (n : Int) < pw k) (hk : 0 < k) : (Lib.decDigits n).length ≤ 10 * k := by
  have h1 := pow10_pw k
  exact dec_length_le (10 * k) n (by have : (n : Int) < ((10 ^ (10 * k) : Nat) : Int) := by omega
                                     exact Int.ofNat_lt.1 this) (by omega)
end Go.Proofs.YtcmlkofcmgbceaaDoor
