/-
  Layer 3: a short text's words.
-/
import Derived.Test.YtkgemeeadkfnhaaDoorXB
namespace Go.Proofs.YtkgemeeadkfnhaaDoor
open Go.RowKit Go.Shelf

def knS : ByteArray := ⟨#[110, 111, 116, 32, 50, 32, 100, 105, 118, 105, 100, 101, 115, 32, 120, 95, 49]⟩
def knT1 : TD := ⟨3, ⟨#[110, 111, 116]⟩, 0, 0⟩
def knT2 : TD := ⟨1, ⟨#[50]⟩, 2, 4⟩
def knT3 : TD := ⟨3, ⟨#[100, 105, 118, 105, 100, 101, 115]⟩, 0, 6⟩
def knT4 : TD := ⟨2, ⟨#[120, 95, 49]⟩, 0, 14⟩

theorem row_dec {s : ByteArray} {a k : Nat} (h1 : a + k ≤ s.size) (h2 : (List.range k).all (fun j => inRow (bt s (a + j))) = true) (h3 : (decide (a + k < s.size) && inRow (bt s (a + k))) = false) : RowAt s a k :=
  ⟨h1, range_all.1 h2, fun h => by rw [decide_eq_true h, Bool.true_and] at h3; exact h3⟩
theorem blank_dec {s : ByteArray} {a k : Nat} (h0 : a ≤ k) (h1 : k ≤ s.size) (h2 : (List.range (k - a)).all (fun j => decide (cls (bt s (a + j)) = 0)) = true) (h3 : (decide (k < s.size) && decide (cls (bt s k) = 0)) = false) : BlankEnd s a k := by
  refine ⟨h0, h1, fun j hj hj' => ?_, fun h hc => ?_⟩
  · have := range_all.1 h2 (j - a) (by omega)
    rw [show a + (j - a) = j from by omega, decide_eq_true_iff] at this
    exact this
  · rw [decide_eq_true h, Bool.true_and, decide_eq_false_iff_not] at h3
    exact h3 hc
theorem kd_word {s : ByteArray} (h : tenB s = true) : kd s = 3 := by unfold kd; rw [if_pos h]
theorem kd_name {s : ByteArray} (h : tenB s = false) (hl : s.size ≤ 24) : kd s = 2 := by unfold kd; rw [if_neg (by rw [h]; decide), if_neg (by omega)]
theorem ok_two : okText ⟨#[50]⟩ := by
  refine ⟨by decide, by decide, ?_⟩
  have : ∀ i, i < 1 → 48 ≤ bt ⟨#[50]⟩ i ∧ bt ⟨#[50]⟩ i ≤ 57 := by decide
  exact this
theorem kn_lx : Lxs knS [knT1, knT2, knT3, knT4] 0 0 := by
  unfold Lxs
  rw [if_neg (by decide)]
  refine .word (k := 0) (blank_dec (by decide) (by decide) (by decide) (by decide)) (by decide) ?_ (.word (k := 4) (blank_dec (by decide) (by decide) (by decide) (by decide)) (by decide) ?_ (.word (k := 6) (blank_dec (by decide) (by decide) (by decide) (by decide)) (by decide) ?_ (.word (k := 14) (blank_dec (by decide) (by decide) (by decide) (by decide)) (by decide) ?_ (.done (blank_dec (by decide) (by decide) (by decide) (by decide))))))
  · exact ⟨rfl, by decide, by rfl, .inr (.inl ⟨by decide, row_dec (by decide) (by decide) (by decide), (kd_word (by simp [tenB, ByteArray.toList_eq, knT1])).symm, by decide, rfl⟩)⟩
  · exact ⟨rfl, by decide, by rfl, .inl ⟨by decide, row_dec (by decide) (by decide) (by decide), ok_two, rfl, by decide⟩⟩
  · exact ⟨rfl, by decide, by rfl, .inr (.inl ⟨by decide, row_dec (by decide) (by decide) (by decide), (kd_word (by simp [tenB, ByteArray.toList_eq, knT3])).symm, by decide, rfl⟩)⟩
  · exact ⟨rfl, by decide, by rfl, .inr (.inl ⟨by decide, row_dec (by decide) (by decide) (by decide), (kd_name (by simp [tenB, ByteArray.toList_eq, knT4]) (by decide)).symm, by decide, rfl⟩)⟩
theorem kn_name : nmB ⟨#[120, 95, 49]⟩ = true := nmB_iff.2 ⟨by decide, by decide, ⟨by decide, by decide, by decide⟩, kd_name (by simp [tenB, ByteArray.toList_eq]) (by decide)⟩

theorem fn_not_nil (vs : Array Value) (w : World) : Sem.run Tryd.prog (binOp BinOp.neq 24 (.func (.func 13) #[] vs) .nilFunc) w = .ok (.bool true) w := by kernel_rfl
theorem kn_c2 : Canon [2] := ⟨fun z hz => by simp at hz; subst hz; decide, by decide⟩

set_option maxRecDepth 100000 in
set_option maxHeartbeats 1600000 in
theorem words_any (s : ByteArray) (w : World) :
    Calls Tryd.prog 5 #[.string s] w fun e w' => e = .returned (.func (.func 13) #[] #[.pointer (some ⟨w.heap.size, 0, none⟩)]) ∧ w' = w.alloc (.cells #[.string s] 9) := by
  go_enter Tryd.func5, Tryd.ntmps5
  go_wp2
  go_ret
  exact ⟨rfl, rfl⟩

set_option maxRecDepth 100000 in
set_option maxHeartbeats 3200000 in
theorem known3_any (w : World) (hS : Sgn w) :
    Calls Tryd.prog 4 #[] w fun e w' => e = .returned (.bool true) ∧ Below w.heap.size w w' := by
  go_enter Tryd.func4, Tryd.ntmps4
  go_wp2_with fail
  refine (tokens_any knS w (by decide) hS).mono ?_
  rintro e w1 (⟨xs, v, hx, rfl, hrow, hmg, -, hb⟩ | ⟨ts, x, p, hx, hx0, rfl, hb⟩)
  · have hmap := (lxs_unique hx kn_lx).1
    have hlen : xs.length = 4 := by have := congrArg List.length hmap; simpa using this
    match xs, hlen with
    | [x1, x2, x3, x4], _ =>
      simp only [List.map_cons, List.map_nil, List.cons.injEq, and_true] at hmap
      obtain ⟨d1, d2, d3, d4⟩ := hmap
      obtain ⟨g, cap, rfl, hg1, hg2, hc1, hc2, hcell⟩ := own_at hrow (by simp)
      have c1 := hcell 0 0 (by simp) (by decide)
      have c2 := hcell 1 0 (by simp) (by decide)
      have c3 := hcell 1 3 (by simp) (by decide)
      have c4 := hcell 2 1 (by simp) (by decide)
      have c5 := hcell 3 0 (by simp) (by decide)
      have c6 := hcell 3 4 (by simp) (by decide)
      simp [V5, d1, d2, d3, d4, knT1, knT2, knT3, knT4] at c1 c2 c3 c4 c5 c6
      have hl1 : x2.len = 1 := by
        have hm := hmg x2 (by simp)
        have hv := hm.2.2
        rw [d2] at hv
        have e := canon_inj hm.2.1 kn_c2 hv
        have := hm.1.rd.1
        rw [e] at this
        exact this.symm
      rw [hl1] at c3
      clear hcell hmg hrow hl1 hx
      unfold misV
      have hneq := fn_not_nil
      simp only [List.length_cons, List.length_nil] at hc1 ⊢
      go_wp2_with (first | (go_at_call 12; refine (isName_n _ _ (by decide)).mono ?_; rintro e w2 ⟨rfl, rfl⟩; rw [kn_name]) | (go_at_call 5; refine (words_any _ _).mono ?_; rintro e w2 ⟨rfl, rfl⟩))
      go_ret
      exact ⟨rfl, below_alloc' (below_alloc' hb _) _⟩
  · exact absurd (lxs_unique hx kn_lx).2.1 hx0
end Go.Proofs.YtkgemeeadkfnhaaDoor
