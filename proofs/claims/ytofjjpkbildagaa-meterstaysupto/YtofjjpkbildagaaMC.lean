/-
  Layer 7: a step of a meter, and of the document's.
-/
import Derived.Test.YtofjjpkbildagaaMA
namespace Go.Proofs.Ytofjjpkbildagaa
open Go.RowKit Mt

/-- a step: points, or a node of numbers -/
abbrev Stp := Bool × Int × List (Bool × List Int)
/-- what was counted, what was crossed, the answer -/
def mspend (n c e N : Int) : Int × Int × Int := if e ≠ 0 then (c, e, e) else if N < 0 then (c, 0, 1) else if n - c < N then (c, 70, 70) else (c + N, 0, 0)
def mnode (n k c e : Int) (Q : List (Bool × List Int)) : Int × Int × Int := if e ≠ 0 then (c, e, e) else if Q.any (isl k) then (c, 71, 71) else if n - c < 1 then (c, 70, 70) else (c + 1, 0, 0)
/-- a meter's state that may be -/
def St7 (n c e : Int) : Prop := 0 ≤ c ∧ c ≤ n ∧ n ≤ 2000 ∧ (e = 0 ∨ e = 70 ∨ e = 71)

theorem St7.spend {n c e : Int} (h : St7 n c e) (N : Int) : St7 n (mspend n c e N).1 (mspend n c e N).2.1 := by
  obtain ⟨h1, h2, h3, h4⟩ := h
  unfold mspend St7
  by_cases h5 : e = 0
  · rw [if_neg (by simpa using h5)]
    split
    · exact ⟨h1, h2, h3, .inl rfl⟩
    · split
      · exact ⟨h1, h2, h3, .inr (.inl rfl)⟩
      · exact ⟨by dsimp only; omega, by dsimp only; omega, h3, .inl rfl⟩
  · rw [if_pos h5]; exact ⟨h1, h2, h3, h4⟩
theorem St7.node {n k c e : Int} (h : St7 n c e) (Q : List (Bool × List Int)) : St7 n (mnode n k c e Q).1 (mnode n k c e Q).2.1 := by
  obtain ⟨h1, h2, h3, h4⟩ := h
  unfold mnode St7
  by_cases h5 : e = 0
  · rw [if_neg (by simpa using h5)]
    split
    · exact ⟨h1, h2, h3, .inr (.inr rfl)⟩
    · split
      · exact ⟨h1, h2, h3, .inr (.inl rfl)⟩
      · exact ⟨by dsimp only; omega, by dsimp only; omega, h3, .inl rfl⟩
  · rw [if_pos h5]; exact ⟨h1, h2, h3, h4⟩

theorem spend_a {w : World} {b : Nat} {n k c e N : Int} (h : MB w b n k c e) (hs : St7 n c e) :
    Calls Try.prog 13 #[.pointer (some ⟨b, 0, none⟩), .int .i64 N] w fun x w' => x = .returned (.int .i64 (mspend n c e N).2.2) ∧ MB w' b n k (mspend n c e N).1 (mspend n c e N).2.1 ∧ But b w w' := by
  obtain ⟨h1, h2, h3, h4⟩ := hs
  by_cases h5 : e = 0
  · subst h5
    refine (spend_n h h1 h2 h3).mono fun x w' hx => ?_
    unfold mspend
    rw [if_neg (by simp)]
    by_cases q1 : N < 0
    · simp only [if_pos q1] at hx ⊢; exact hx
    · by_cases q2 : n - c < N
      · simp only [if_neg q1, if_pos q2] at hx ⊢; exact hx
      · simp only [if_neg q1, if_neg q2] at hx ⊢; exact hx
  · refine (spend_over h h1 (by omega) (by omega) (by omega)).mono ?_
    rintro x w' ⟨rfl, hb⟩
    unfold mspend
    rw [if_pos h5]
    exact ⟨rfl, h.below hb, Below.but hb b⟩
theorem refspend_a {w : World} {b : Nat} {n k c e N : Int} (h : RB w b n k c e) (hs : St7 n c e) :
    Calls Try.prog 14 #[.pointer (some ⟨b, 0, none⟩), .int .i64 N] w fun x w' => x = .returned (.int .i64 (mspend n c e N).2.2) ∧ RB w' b n k (mspend n c e N).1 (mspend n c e N).2.1 ∧ But b w w' := by
  obtain ⟨h1, h2, h3, h4⟩ := hs
  by_cases h5 : e = 0
  · subst h5
    refine (refspend_n h h1 h2 h3).mono fun x w' hx => ?_
    unfold mspend
    rw [if_neg (by simp)]
    by_cases q1 : N < 0
    · simp only [if_pos q1] at hx ⊢; exact hx
    · by_cases q2 : n - c < N
      · simp only [if_neg q1, if_pos q2] at hx ⊢; exact hx
      · simp only [if_neg q1, if_neg q2] at hx ⊢; exact hx
  · refine (refspend_over h (by omega)).mono ?_
    rintro x w' ⟨rfl, hb⟩
    unfold mspend
    rw [if_pos h5]
    exact ⟨rfl, h.below hb, Below.but hb b⟩
theorem node_a {w : World} {b : Nat} {n k c e : Int} {ad : Option Addr} {m cp : Nat} {Q : List (Bool × List Int)} {B : Nat} (h : MB w b n k c e) (hN : NL w ad m Q B) (hB : B ≤ 1048576) (hm : m ≤ 1048576) (hs : St7 n c e) :
    Calls Try.prog 16 #[.pointer (some ⟨b, 0, none⟩), .slice ad m cp] w fun x w' => x = .returned (.int .i64 (mnode n k c e Q).2.2) ∧ MB w' b n k (mnode n k c e Q).1 (mnode n k c e Q).2.1 ∧ But b w w' := by
  obtain ⟨h1, h2, h3, h4⟩ := hs
  by_cases h5 : e = 0
  · subst h5
    refine (node_n h hN hB hm h1 h2 h3).mono fun x w' hx => ?_
    unfold mnode
    rw [if_neg (by simp)]
    by_cases q1 : Q.any (isl k) = true
    · simp only [if_pos q1] at hx ⊢; exact hx
    · by_cases q2 : n - c < 1
      · simp only [if_neg q1, if_pos q2] at hx ⊢; exact hx
      · simp only [if_neg q1, if_neg q2] at hx ⊢; exact hx
  · refine (node_over h hN hB hm h1 (by omega) (by omega) (by omega)).mono ?_
    rintro x w' ⟨rfl, hb⟩
    unfold mnode
    rw [if_pos h5]
    exact ⟨rfl, h.below hb, Below.but hb b⟩
theorem refnode_a {w : World} {b : Nat} {n k c e : Int} {ad : Option Addr} {m cp : Nat} {Q : List (Bool × List Int)} {B : Nat} (h : RB w b n k c e) (hN : NL w ad m Q B) (hB : B ≤ 1048576) (hm : m ≤ 1048576) (hs : St7 n c e) :
    Calls Try.prog 17 #[.pointer (some ⟨b, 0, none⟩), .slice ad m cp] w fun x w' => x = .returned (.int .i64 (mnode n k c e Q).2.2) ∧ RB w' b n k (mnode n k c e Q).1 (mnode n k c e Q).2.1 ∧ But b w w' := by
  obtain ⟨h1, h2, h3, h4⟩ := hs
  by_cases h5 : e = 0
  · subst h5
    refine (refnode_n h hN hB hm h1 h2 h3).mono fun x w' hx => ?_
    unfold mnode
    rw [if_neg (by simp)]
    by_cases q1 : Q.any (isl k) = true
    · simp only [if_pos q1] at hx ⊢; exact hx
    · by_cases q2 : n - c < 1
      · simp only [if_neg q1, if_pos q2] at hx ⊢; exact hx
      · simp only [if_neg q1, if_neg q2] at hx ⊢; exact hx
  · refine (refnode_over h (by omega)).mono ?_
    rintro x w' ⟨rfl, hb⟩
    unfold mnode
    rw [if_pos h5]
    exact ⟨rfl, h.below hb, Below.but hb b⟩
theorem St7.e {n c e : Int} (h : St7 n c e) : 0 ≤ e ∧ e < 256 := by obtain ⟨_, _, _, h4⟩ := h; omega
theorem spent_a {w : World} {b : Nat} {n k c e : Int} (h : MB w b n k c e) (hs : St7 n c e) :
    Calls Try.prog 9 #[.pointer (some ⟨b, 0, none⟩)] w fun x w' => x = .returned (.int .i64 c) ∧ Below w.heap.size w w' := spent_n h hs.1 (by have := hs.2.1; have := hs.2.2.1; omega) hs.e.1 hs.e.2
theorem over_a {w : World} {b : Nat} {n k c e : Int} (h : MB w b n k c e) (hs : St7 n c e) :
    Calls Try.prog 10 #[.pointer (some ⟨b, 0, none⟩)] w fun x w' => x = .returned (.int .i64 e) ∧ Below w.heap.size w w' := over_n h hs.1 (by have := hs.2.1; have := hs.2.2.1; omega) hs.e.1 hs.e.2

/-- a row of steps in memory -/
def SL (w : World) (ad : Option Addr) (n : Nat) (L : List Stp) (B : Nat) : Prop :=
  L.length = n ∧ (n = 0 ∨ ∃ b off, ad = some ⟨b, off, none⟩ ∧ ∀ i (_ : i < L.length), ∃ a m c, w.cell? ⟨b, off + i * 3, none⟩ = some (.bool (L[i]).1) ∧ w.cell? ⟨b, off + i * 3 + 1, none⟩ = some (.int .i64 (L[i]).2.1) ∧ w.cell? ⟨b, off + i * 3 + 2, none⟩ = some (.slice a m c) ∧ NL w a m (L[i]).2.2 B ∧ m ≤ B)
theorem SL.below {w w' : World} {ad : Option Addr} {n : Nat} {L : List Stp} {B : Nat} (h : SL w ad n L B) (g : Below w.heap.size w w') : SL w' ad n L B := by
  refine ⟨h.1, ?_⟩
  rcases h.2 with h | ⟨b, off, rfl, h0⟩
  · exact .inl h
  · refine .inr ⟨b, off, rfl, fun i hi => ?_⟩
    obtain ⟨a, m, c, h1, h2, h3, h4, h5⟩ := h0 i hi
    exact ⟨a, m, c, (g.cell (p := ⟨b, off + i * 3, none⟩) (cell_lt h1)).trans h1, (g.cell (p := ⟨b, off + i * 3 + 1, none⟩) (cell_lt h2)).trans h2, (g.cell (p := ⟨b, off + i * 3 + 2, none⟩) (cell_lt h3)).trans h3, h4.below g, h5⟩

set_option maxRecDepth 100000 in
set_option maxHeartbeats 1600000 in
theorem pick7_n {w : World} {c n : Int} (h0 : -9223372036854775808 ≤ c) (h1 : c ≤ 9223372036854775807) (hn : 0 < n) (hn2 : n ≤ 2000) :
    Calls Try.prog 11 #[.int .i64 c, .int .i64 n] w fun x w' => ∃ r : Int, x = .returned (.int .i64 r) ∧ 0 ≤ r ∧ r < n ∧ Below w.heap.size w w' := by
  by_cases hc : c < 0
  · go_enter Try.func11, Try.ntmps11
    go_wp2
    go_ret
    have e : -((c + 1).tmod n) = (-(c + 1)) % n := by rw [← Int.neg_tmod, Int.tmod_eq_emod_of_nonneg (by omega)]
    exact ⟨_, rfl, by rw [e]; exact Int.emod_nonneg _ (by omega), by rw [e]; exact Int.emod_lt_of_pos _ hn, Below.refl _ _⟩
  · go_enter Try.func11, Try.ntmps11
    go_wp2
    go_ret
    exact ⟨_, rfl, Int.emod_nonneg _ (by omega), Int.emod_lt_of_pos _ hn, Below.refl _ _⟩
end Go.Proofs.Ytofjjpkbildagaa
