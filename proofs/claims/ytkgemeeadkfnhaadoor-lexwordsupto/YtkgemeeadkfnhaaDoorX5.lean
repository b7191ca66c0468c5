/-
  Layer 3: the word that begins at a place.
-/
import Derived.Test.YtkgemeeadkfnhaaDoorX4
namespace Go.Proofs.YtkgemeeadkfnhaaDoor
open Go.RowKit

/-- a word: its kind, its bytes, the number that it says, its place -/
structure TD where
  kind : Int
  text : ByteArray
  num : Int
  at' : Nat
/-- from place a on k bytes stand in a row, and no more -/
def RowAt (s : ByteArray) (a k : Nat) : Prop := a + k ≤ s.size ∧ (∀ j, j < k → inRow (bt s (a + j)) = true) ∧ (a + k < s.size → inRow (bt s (a + k)) = false)
theorem RowAt.unique {s : ByteArray} {a k m : Nat} (h : RowAt s a k) (h' : RowAt s a m) : k = m := by
  rcases Nat.lt_trichotomy k m with hlt | rfl | hlt
  · have h1 := h.2.2 (by have := h'.1; omega)
    have h2 := h'.2.1 k hlt
    rw [h1] at h2; cases h2
  · rfl
  · have h1 := h'.2.2 (by have := h.1; omega)
    have h2 := h.2.1 m hlt
    rw [h1] at h2; cases h2
theorem size_suffix {s : ByteArray} {a : Nat} : (s.extract a s.size).size = s.size - a := by rw [ByteArray.size_extract]; omega
theorem bt_suffix {s : ByteArray} {a i : Nat} (h : a + i < s.size) : bt (s.extract a s.size) i = bt s (a + i) := bt_extract s a s.size i (Nat.le_refl _) h
theorem rowAt_of {s : ByteArray} {a k : Nat} (ha : a ≤ s.size) (h : RowEnd (s.extract a s.size) k) : RowAt s a k := by
  obtain ⟨h1, h2, h3⟩ := h
  rw [size_suffix] at h1 h3
  refine ⟨by omega, fun j hj => ?_, fun hk => ?_⟩
  · rw [← bt_suffix (by omega)]; exact h2 j hj
  · rw [← bt_suffix (by omega)]; exact h3 (by omega)
theorem extract_suffix {s : ByteArray} {a k : Nat} (h : a + k ≤ s.size) : (s.extract a s.size).extract 0 k = s.extract a (a + k) := by
  rw [ByteArray.extract_extract, Nat.add_zero, Nat.min_eq_left h]

/-- the word at place a -/
def Wd (s : ByteArray) (a : Nat) (t : TD) : Prop :=
  t.at' = a ∧ a + t.text.size ≤ s.size ∧ t.text = s.extract a (a + t.text.size) ∧
  ((cls (bt s a) = 1 ∧ RowAt s a t.text.size ∧ okText t.text ∧ t.kind = 1 ∧ t.num = (dr t.text 0 t.text.size : Int)) ∨
   (cls (bt s a) = 2 ∧ RowAt s a t.text.size ∧ t.kind = kd t.text ∧ t.kind ≠ 0 ∧ t.num = 0) ∨
   (cls (bt s a) ≠ 1 ∧ cls (bt s a) ≠ 2 ∧ t.text = sgOf (s.extract a s.size) ∧ 0 < t.text.size ∧ t.kind = 4 ∧ t.num = 0))
/-- no word is at place a: the error -/
def Nw (s : ByteArray) (a : Nat) (e : Int) : Prop :=
  (cls (bt s a) = 1 ∧ (∃ k, RowAt s a k ∧ ¬ okText (s.extract a (a + k))) ∧ e = 12) ∨
  (cls (bt s a) = 2 ∧ (∃ k, RowAt s a k ∧ kd (s.extract a (a + k)) = 0) ∧ e = 30) ∨
  (cls (bt s a) ≠ 1 ∧ cls (bt s a) ≠ 2 ∧ (sgOf (s.extract a s.size)).size = 0 ∧ e = 30)

theorem size_mid {s : ByteArray} {a k : Nat} (h : a + k ≤ s.size) : (s.extract a (a + k)).size = k := by rw [ByteArray.size_extract]; omega
theorem bt_mid' {s : ByteArray} {a n i : Nat} (h : a + n ≤ s.size) (hi : i < n) : bt (s.extract a (a + n)) i = bt s (a + i) := bt_extract s a (a + n) i h (by omega)
theorem rowAt_pos {s : ByteArray} {a k : Nat} (h : RowAt s a k) (ha : a < s.size) (hc : cls (bt s a) = 1 ∨ cls (bt s a) = 2) : 0 < k := by
  rcases Nat.eq_zero_or_pos k with rfl | h0
  · have := h.2.2 (by omega)
    rw [Nat.add_zero] at this
    unfold inRow at this
    rw [decide_eq_false_iff_not] at this
    exact absurd (by omega) this
  · exact h0
theorem sgOf_pfx {s : ByteArray} (h : 0 < (sgOf s).size) : pfx s (sgOf s) = true := by
  unfold sgOf at h ⊢
  cases hq : signL.find? (pfx s) with
  | none => rw [hq] at h; exact absurd h (by decide)
  | some p => exact List.find?_some hq
theorem sgOf_le (s : ByteArray) : (sgOf s).size ≤ s.size := by
  rcases Nat.eq_zero_or_pos (sgOf s).size with h | h
  · omega
  · exact (pfx_iff.1 (sgOf_pfx h)).1
theorem sgOf_eq {s : ByteArray} (h : 0 < (sgOf s).size) : sgOf s = s.extract 0 (sgOf s).size := by
  have h1 := sgOf_pfx h
  unfold pfx at h1
  rw [Bool.and_eq_true, toList_iff] at h1
  exact h1.2.symm
theorem wd_size {s : ByteArray} {a : Nat} {t : TD} (h : Wd s a t) (ha : a < s.size) : 0 < t.text.size := by
  obtain ⟨_, _, _, ⟨hc, hr, _⟩ | ⟨hc, hr, _⟩ | ⟨_, _, _, h0, _⟩⟩ := h
  · exact rowAt_pos hr ha (.inl hc)
  · exact rowAt_pos hr ha (.inr hc)
  · exact h0

/-- one of both is at a place, and just one -/
theorem wd_unique {s : ByteArray} {a : Nat} {t u : TD} (h : Wd s a t) (h' : Wd s a u) : t = u := by
  obtain ⟨a1, _, e1, h1⟩ := h
  obtain ⟨a2, _, e2, h2⟩ := h'
  have key : t.text = u.text → t.kind = u.kind → t.num = u.num → t = u := by
    intro h3 h4 h5
    cases t; cases u
    simp only at *
    rw [h3, h4, h5, a1, a2]
  rcases h1 with ⟨c1, r1, o1, k1, n1⟩ | ⟨c1, r1, k1, o1, n1⟩ | ⟨c1, d1, x1, o1, k1, n1⟩ <;> rcases h2 with ⟨c2, r2, o2, k2, n2⟩ | ⟨c2, r2, k2, o2, n2⟩ | ⟨c2, d2, x2, o2, k2, n2⟩
  all_goals first
    | (exfalso; omega)
    | (have hs := r1.unique r2
       have ht : t.text = u.text := by rw [e1, e2, hs]
       refine key ht ?_ ?_
       · first | (rw [k1, k2]; done) | rw [k1, k2, ht]
       · first | (rw [n1, n2]; done) | rw [n1, n2, ht])
    | exact key (by rw [x1, x2]) (by rw [k1, k2]) (by rw [n1, n2])
theorem nw_wd {s : ByteArray} {a : Nat} {t : TD} {e : Int} (h : Wd s a t) (h' : Nw s a e) : False := by
  obtain ⟨a1, _, e1, h1⟩ := h
  rcases h1 with ⟨c1, r1, o1, k1, n1⟩ | ⟨c1, r1, k1, o1, n1⟩ | ⟨c1, d1, x1, o1, k1, n1⟩ <;> rcases h' with ⟨c2, ⟨k, r2, o2⟩, _⟩ | ⟨c2, ⟨k, r2, o2⟩, _⟩ | ⟨c2, d2, x2, _⟩
  all_goals first
    | (exfalso; omega)
    | (have hs := r1.unique r2
       rw [← hs, ← e1] at o2
       first | exact o2 o1 | exact o1 (k1.trans o2))
    | (rw [x1] at o1; omega)
theorem nw_unique {s : ByteArray} {a : Nat} {e f : Int} (h : Nw s a e) (h' : Nw s a f) : e = f := by
  rcases h with ⟨c1, _, k1⟩ | ⟨c1, _, k1⟩ | ⟨c1, d1, x1, k1⟩ <;> rcases h' with ⟨c2, _, k2⟩ | ⟨c2, _, k2⟩ | ⟨c2, d2, x2, k2⟩ <;> first | (exfalso; omega) | (rw [k1, k2])
end Go.Proofs.YtkgemeeadkfnhaaDoor
