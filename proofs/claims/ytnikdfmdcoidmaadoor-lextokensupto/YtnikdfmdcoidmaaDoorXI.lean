/-
  Layer 3: the reference's words, or the error.
-/
import Derived.Test.YtnikdfmdcoidmaaDoorXH
namespace Go.Proofs.YtnikdfmdcoidmaaDoor
open Go.RowKit Go.Shelf

theorem own_base {W : World} {base base' : Nat} {e : TypeId} {size : Nat} {v : Value} {n : Nat} {xs : List Value} (h : W.ownsRow base e size v n xs) (hb : base' ≤ base) : W.ownsRow base' e size v n xs := by
  obtain ⟨h1, h2⟩ := h
  refine ⟨h1, ?_⟩
  rcases h2 with h2 | ⟨g, cap, cur, h3, h4, h5⟩
  · exact .inl h2
  · exact .inr ⟨g, cap, cur, h3, by omega, h5⟩
set_option maxRecDepth 100000 in
set_option maxHeartbeats 3200000 in
theorem reftokens_any (s : ByteArray) (w : World) (hs : s.size ≤ 1099511627) :
    Calls Tryd.prog 16 #[.string s] w fun e w' =>
      (∃ (xs : List TM) (v : Value), Lxs s (xs.map TM.d) 0 0 ∧ e = .returned (.tuple #[v, misV 0 0]) ∧ w'.ownsRow w.heap.size 54 5 v xs.length (xs.flatMap V5) ∧ (∀ x ∈ xs, Mg w w' x) ∧ Below w.heap.size w w') ∨
      (∃ ts x p, Lxs s ts x p ∧ x ≠ 0 ∧ e = .returned (.tuple #[.slice none 0 0, misV x (p : Nat)]) ∧ Below w.heap.size w w') := by
  go_enter Tryd.func16, Tryd.ntmps16
  go_wp2_with fail
  have b0 := below_alloc w (.cells #[.int .i64 0, .int .i64 0] 35)
  have y0 := heap_alloc_new w (.cells #[.int .i64 0, .int .i64 0] 35)
  generalize w.alloc (.cells #[.int .i64 0, .int .i64 0] 35) = wb at *
  refine (refparts_any s wb hs).mono ?_
  rintro e w1 ⟨xs, v, x, p, hx, rfl, hrow, hmg, hb⟩
  obtain ⟨va, vn, vc, rfl⟩ := own_slice hrow
  unfold misV
  have hw1 : w.heap.size < w1.heap.size := by have h1 := hb.size; have h2 := (Array.getElem?_eq_some_iff.1 y0).1; omega
  by_cases hx0 : x = 0
  · subst hx0
    have hp0 : p = 0 := by
      unfold Lxs at hx
      split at hx
      · exact absurd hx.2.1 (by decide)
      · rcases lx_zero hx with ⟨_, h⟩ | ⟨h, _⟩
        · exact h
        · omega
    subst hp0
    have HX := hide hx
    clear hx
    have ba := below_alloc w1 (.cells #[.int .i64 0, .int .i64 0] 35)
    have y1 := block_later (block_later y0 hb) ba
    have z1 : (w1.alloc (.cells #[.int .i64 0, .int .i64 0] 35)).heap[w1.heap.size]? = some (.cells #[.int .i64 0, .int .i64 0] 35 (0, 0)) := heap_alloc_new w1 _
    have hB : Below w.heap.size w (w1.alloc (.cells #[.int .i64 0, .int .i64 0] 35)) := grow_step ba (grow_step hb b0)
    go_wp2_with fail
    generalize w1.alloc (.cells #[.int .i64 0, .int .i64 0] 35) = Wa at *
    have c0 := cell_of_row Wa _ 0 _ _ (0, 0) y1
    have c1 := cell_of_row Wa _ 1 _ _ (0, 0) y1
    have f0 := frozen_of_row Wa _ 0 _ _ y1
    have f1 := frozen_of_row Wa _ 1 _ _ y1
    have d0 := cell_of_row Wa _ 0 _ _ (0, 0) z1
    have d1 := cell_of_row Wa _ 1 _ _ (0, 0) z1
    have n1 : ¬ (w1.heap.size = w.heap.size) := by omega
    have n2 : ¬ (w.heap.size = w1.heap.size) := by omega
    have hset := mis_set y1 (.int .i64 0) (.int .i64 0)
    have hBs : Below w.heap.size w ((Wa.setCell ⟨w.heap.size, 0, none⟩ (.int .i64 0)).setCell ⟨w.heap.size, 1, none⟩ (.int .i64 0)).drew := ((hB.setCell (p := ⟨w.heap.size, 0, none⟩) (Nat.le_refl _) _).setCell (p := ⟨w.heap.size, 1, none⟩) (Nat.le_refl _) _).drew
    have hrow2 := own_kt (owns_later (own_base hrow b0.size) ba) (e := 54) (kt_set y1 (by decide) (.int .i64 0) (.int .i64 0))
    have hmg2 : ∀ x ∈ xs, Mg w ((Wa.setCell ⟨w.heap.size, 0, none⟩ (.int .i64 0)).setCell ⟨w.heap.size, 1, none⟩ (.int .i64 0)).drew x := fun x hx => mg_kt (Mg.later ⟨(hmg x hx).1.outer b0, (hmg x hx).2⟩ ba) hBs (kt_set y1 (by decide) (.int .i64 0) (.int .i64 0))
    go_region
    all_goals (
      go_wp2_with fail
      refine bodyPost_ret (results_tc rfl _ _ w.heap.size 35 _ (0, 0) _ rfl hset Tryd.underlying35 rfl (by kernel_rfl)) rfl ?_
      exact .inl ⟨xs, _, HX.out, rfl, hrow2, hmg2, hBs⟩)
  · have hxb : (x == 0) = false := by rw [beq_eq_false_iff_ne]; exact hx0
    have HX := hide hx
    clear hx
    have ba := below_alloc w1 (.cells #[.int .i64 x, .int .i64 p] 35)
    have y1 := block_later (block_later y0 hb) ba
    have z1 : (w1.alloc (.cells #[.int .i64 x, .int .i64 p] 35)).heap[w1.heap.size]? = some (.cells #[.int .i64 x, .int .i64 p] 35 (0, 0)) := heap_alloc_new w1 _
    have hB : Below w.heap.size w (w1.alloc (.cells #[.int .i64 x, .int .i64 p] 35)) := grow_step ba (grow_step hb b0)
    go_wp2_with fail
    generalize w1.alloc (.cells #[.int .i64 x, .int .i64 p] 35) = Wa at *
    have c0 := cell_of_row Wa _ 0 _ _ (0, 0) y1
    have c1 := cell_of_row Wa _ 1 _ _ (0, 0) y1
    have f0 := frozen_of_row Wa _ 0 _ _ y1
    have f1 := frozen_of_row Wa _ 1 _ _ y1
    have d0 := cell_of_row Wa _ 0 _ _ (0, 0) z1
    have d1 := cell_of_row Wa _ 1 _ _ (0, 0) z1
    have n1 : ¬ (w1.heap.size = w.heap.size) := by omega
    have n2 : ¬ (w.heap.size = w1.heap.size) := by omega
    have hset := mis_set y1 (.int .i64 x) (.int .i64 p)
    have hBs : Below w.heap.size w ((Wa.setCell ⟨w.heap.size, 0, none⟩ (.int .i64 x)).setCell ⟨w.heap.size, 1, none⟩ (.int .i64 p)).drew := ((hB.setCell (p := ⟨w.heap.size, 0, none⟩) (Nat.le_refl _) _).setCell (p := ⟨w.heap.size, 1, none⟩) (Nat.le_refl _) _).drew
    go_region
    all_goals (
      go_wp2_with fail
      refine bodyPost_ret (results_tc rfl _ _ w.heap.size 35 _ (0, 0) _ rfl hset Tryd.underlying35 rfl (by kernel_rfl)) rfl ?_
      exact .inr ⟨_, x, p, HX.out, hx0, rfl, hBs⟩)
end Go.Proofs.YtnikdfmdcoidmaaDoor
