/-
  Plain numbers and their decimal texts: pieces of nine digits.
-/
import Derived.Test.YtgpaajolcpgeaaaGreatDoorSrd00
import Derived.Lib.ItoaNum
import Derived.Lib.Repeat
namespace Go.Proofs.YtgpaajolcpgeaaaGreatDoor

/-- powers of 10^9 -/
def pb : Nat → Int
  | 0 => 1
  | n + 1 => 1000000000 * pb n

theorem pb_pos (n : Nat) : 0 < pb n := by
  induction n with
  | zero => decide
  | succ n ih => unfold pb; omega

theorem pb_pw (m : Nat) : pw m ≤ pb (2 * m) := by
  induction m with
  | zero => decide
  | succ m ih =>
    have e : pb (2 * (m + 1)) = 1000000000 * (1000000000 * pb (2 * m)) := rfl
    have := pb_pos (2 * m)
    rw [e, pw_succ]
    omega

theorem pb_mono {m n : Nat} (h : m ≤ n) : pb m ≤ pb n := by
  induction n with
  | zero => have : m = 0 := by omega
            subst this; exact Int.le_refl _
  | succ n ih =>
    by_cases e : m = n + 1
    · subst e; exact Int.le_refl _
    · have := ih (by omega); have := pb_pos n; show pb m ≤ 1000000000 * pb n; omega

/-- the value of pieces, the least first -/
def pv : List Int → Int
  | [] => 0
  | p :: r => p + 1000000000 * pv r

theorem pv_snoc (ps : List Int) (x : Int) : pv (ps ++ [x]) = pv ps + x * pb ps.length := by
  induction ps with
  | nil => simp [pv, pb]
  | cons p r ih =>
    simp only [List.cons_append, pv, ih, List.length_cons, pb, Int.mul_add]
    have : x * (1000000000 * pb r.length) = 1000000000 * (x * pb r.length) := by rw [Int.mul_left_comm]
    omega

/-- all are pieces -/
def Pcs (ps : List Int) : Prop := ∀ p ∈ ps, 0 ≤ p ∧ p < 1000000000

theorem pv_nonneg {ps : List Int} (h : Pcs ps) : 0 ≤ pv ps := by
  induction ps with
  | nil => exact Int.le_refl _
  | cons p r ih =>
    have h1 := h p (List.mem_cons_self ..)
    have h2 := ih (fun q hq => h q (List.mem_cons_of_mem _ hq))
    simp only [pv]
    omega

theorem Pcs.snoc {ps : List Int} (h : Pcs ps) {x : Int} (h0 : 0 ≤ x) (h1 : x < 1000000000) : Pcs (ps ++ [x]) := fun p hp => by
  rcases List.mem_append.1 hp with hp | hp
  · exact h p hp
  · rw [List.mem_singleton.1 hp]; exact ⟨h0, h1⟩

theorem Pcs.limbs {ps : List Int} (h : Pcs ps) : Limbs ps := fun p hp => ⟨(h p hp).1, by have := (h p hp).2; omega⟩

/-- k digits of a number, the first ahead -/
def pad : Nat → Nat → List UInt8
  | 0, _ => []
  | k + 1, u => pad k (u / 10) ++ [UInt8.ofNat (48 + u % 10)]

theorem pad_length (k u : Nat) : (pad k u).length = k := by
  induction k generalizing u with
  | zero => rfl
  | succ k ih => simp [pad, ih]

theorem dec_step (u : Nat) (h : ¬ u < 10) : Lib.decDigits u = Lib.decDigits (u / 10) ++ [UInt8.ofNat (48 + u % 10)] := by
  rw [Lib.decDigits, dif_neg h]

theorem dec_small (u : Nat) (h : u < 10) : Lib.decDigits u = [UInt8.ofNat (48 + u)] := by
  rw [Lib.decDigits, dif_pos h]

/-- the text of q 10^k + r is q's and k digits of r -/
theorem dec_pad (k q r : Nat) (hq : 0 < q) (hr : r < 10 ^ k) : Lib.decDigits (q * 10 ^ k + r) = Lib.decDigits q ++ pad k r := by
  induction k generalizing r with
  | zero => simp at hr; subst hr; simp [pad]
  | succ k ih =>
    have hp : 0 < 10 ^ k := Nat.pow_pos (by decide)
    have hbig : ¬ (q * 10 ^ (k + 1) + r < 10) := by
      have : 1 * 10 ^ (k + 1) ≤ q * 10 ^ (k + 1) := Nat.mul_le_mul_right _ hq
      rw [Nat.pow_succ] at this
      rw [Nat.pow_succ]
      omega
    have e1 : (q * 10 ^ (k + 1) + r) / 10 = q * 10 ^ k + r / 10 := by
      rw [Nat.pow_succ, ← Nat.mul_assoc]; omega
    have e2 : (q * 10 ^ (k + 1) + r) % 10 = r % 10 := by
      rw [Nat.pow_succ, ← Nat.mul_assoc]; omega
    rw [dec_step _ hbig, e1, e2, ih (r / 10) (by rw [Nat.pow_succ] at hr; omega)]
    simp [pad]

/-- noughts ahead of a text -/
theorem dec_noughts (k u : Nat) (hu : u < 10 ^ k) (hk : 0 < k) : Lib.repeatL [48] (k - (Lib.decDigits u).length) ++ Lib.decDigits u = pad k u := by
  induction k generalizing u with
  | zero => omega
  | succ k ih =>
    by_cases h : u < 10
    · rw [dec_small u h]
      have e : pad k 0 = Lib.repeatL [48] k := by
        clear ih hu
        induction k with
        | zero => rfl
        | succ k ih2 =>
          simp only [pad, Nat.zero_div, ih2 (by omega)]
          have : ∀ m, Lib.repeatL [48] m ++ [(48 : UInt8)] = [48] ++ Lib.repeatL [48] m := by
            intro m
            induction m with
            | zero => rfl
            | succ m ih3 => simp only [Lib.repeatL, List.append_assoc, ih3]
          exact this k
      have e2 : u / 10 = 0 := by omega
      have e3 : u % 10 = u := by omega
      simp only [pad, e2, e3, e, List.length_singleton, Nat.add_sub_cancel]
    · have hl := dec_step u h
      have hk0 : 0 < k := by
        rcases Nat.eq_zero_or_pos k with rfl | h'
        · simp at hu; omega
        · exact h'
      have := ih (u / 10) (by rw [Nat.pow_succ] at hu; omega) hk0
      rw [hl, List.length_append, List.length_singleton, ← List.append_assoc]
      rw [show k + 1 - ((Lib.decDigits (u / 10)).length + 1) = k - (Lib.decDigits (u / 10)).length from by omega, this]
      rfl

theorem dec_length_le (k u : Nat) (hu : u < 10 ^ k) (hk : 0 < k) : (Lib.decDigits u).length ≤ k := by
  have h := congrArg List.length (dec_noughts k u hu hk)
  rw [pad_length, List.length_append] at h
  omega

/-- the pieces from place k on -/
def hi (ps : List Int) (k : Nat) : Nat := (pv (ps.drop k)).toNat

theorem drop_lz {ps : List Int} {j : Nat} (h : j < ps.length) : ps.drop j = lz ps j :: ps.drop (j + 1) := by
  rw [List.drop_eq_getElem_cons h]
  simp [lz, List.getD, h]

theorem Pcs.drop {ps : List Int} (h : Pcs ps) (n : Nat) : Pcs (ps.drop n) := fun p hp => h p (List.mem_of_mem_drop hp)

theorem hi_step {ps : List Int} (hp : Pcs ps) {j u : Nat} (h : j < ps.length) (hu : lz ps j = u) : hi ps j = hi ps (j + 1) * 1000000000 + u := by
  unfold hi
  rw [drop_lz h]
  have h1 := pv_nonneg (hp.drop (j + 1))
  simp only [pv, hu]
  omega

theorem hi_last {ps : List Int} {m u : Nat} (h : ps.length = m + 1) (hu : lz ps m = u) : hi ps m = u := by
  unfold hi
  rw [drop_lz (by omega), List.drop_eq_nil_of_le (by omega)]
  simp only [pv, hu]
  omega

theorem hi_pos {ps : List Int} (hp : Pcs ps) {m : Nat} (h : ps.length = m + 1) (hl : lz ps m ≠ 0) (k : Nat) (hk : k ≤ m) : 0 < hi ps k := by
  have hb := lz_bd hp.limbs m
  obtain ⟨u, hu⟩ := Int.eq_ofNat_of_zero_le hb.1
  obtain ⟨d, rfl⟩ : ∃ d, m = k + d := ⟨m - k, by omega⟩
  clear hk
  induction d generalizing k with
  | zero => rw [Nat.add_zero] at *; rw [hi_last h hu]; omega
  | succ d ih =>
    have h1 := ih (k + 1) (by rw [h]; omega) (by rw [show k + 1 + d = k + (d + 1) from by omega]; exact hl) (by rw [show k + 1 + d = k + (d + 1) from by omega]; exact hb) (by rw [show k + 1 + d = k + (d + 1) from by omega]; exact hu)
    obtain ⟨v, hv⟩ := Int.eq_ofNat_of_zero_le (lz_bd hp.limbs k).1
    rw [hi_step hp (by omega) hv]
    omega

theorem text_step (q p : Nat) (hq : 0 < q) (hp : p < 1000000000) : Lib.decDigits q ++ (Lib.repeatL [48] (9 - (Lib.decDigits p).length) ++ Lib.decDigits p) = Lib.decDigits (q * 1000000000 + p) := by
  rw [dec_noughts 9 p hp (by decide)]
  exact (dec_pad 9 q p hq hp).symm
end Go.Proofs.YtgpaajolcpgeaaaGreatDoor
