/-
  Layer 7: Spend, Spent, Over, New of a meter.
-/
import Derived.Test.YtofjjpkbildagaaM2
namespace Go.Proofs.Ytofjjpkbildagaa
open Go.RowKit

set_option maxRecDepth 100000 in
set_option maxHeartbeats 1600000 in
theorem spend_n {w : World} {b : Nat} {n k c nn : Int} (h : MB w b n k c 0) (hc : 0 ≤ c) (hcn : c ≤ n) (hn : n ≤ 2000) :
    Calls Try.prog 13 #[.pointer (some ⟨b, 0, none⟩), .int .i64 nn] w fun x w' => x = .returned (.int .i64 (if nn < 0 then 1 else if n - c < nn then 70 else 0)) ∧ MB w' b n k (if nn < 0 then c else if n - c < nn then c else c + nn) (if nn < 0 then 0 else if n - c < nn then 70 else 0) ∧ But b w w' := by
  have b0 := step7 (below_alloc7 (w.alloc (.cells #[.pointer (some ⟨b, 0, none⟩)] 22)) (.cells #[.int .i64 nn] 3)) (below_alloc7 w _)
  have x := (BX.new w (.pointer (some ⟨b, 0, none⟩)) 22).below (below_alloc7 _ (.cells #[.int .i64 nn] 3))
  have y := BX.new (w.alloc (.cells #[.pointer (some ⟨b, 0, none⟩)] 22)) (.int .i64 nn) 3
  rw [show (w.alloc (.cells #[.pointer (some ⟨b, 0, none⟩)] 22)).heap.size = w.heap.size + 1 from by simp] at y
  have hb := h.below b0
  have hbb := hide (And.intro b0 (And.intro hb (And.intro x y)))
  clear x y hb b0
  by_cases h1 : nn < 0
  · simp only [if_pos h1]
    go_enter Try.func13, Try.ntmps13
    go_wp2_with fail
    obtain ⟨b0, hb, x, y⟩ := hbb.out
    clear hbb
    refine (change_go (c' := c) (e' := 0) (r := 1) (fun _ _ => rfl) (fun w' hw => spend1_neg (y.below hw) h1) hb hc (by omega) hc (by omega) (by decide) (by decide)).mono ?_
    rintro v w' ⟨rfl, m1, k1⟩
    have kf := hide ((Below.but b0 b).trans k1)
    go_wp2
    go_ret
    exact ⟨rfl, m1, kf.out⟩
  · simp only [if_neg h1]
    generalize hr1 : (if n - c < nn then c else c + nn) = r1
    generalize hr2 : (if n - c < nn then (70 : Int) else 0) = r2
    replace hr1 := hide hr1
    replace hr2 := hide hr2
    go_enter Try.func13, Try.ntmps13
    go_wp2_with fail
    obtain ⟨b0, hb, x, y⟩ := hbb.out
    clear hbb
    refine (change_go (c' := if n - c < nn then c else c + nn) (e' := if n - c < nn then 70 else 0) (r := if n - c < nn then 70 else 0) (fun _ _ => rfl) (fun w' hw => spend1_n (hb.below hw) hc hcn hn (y.below hw) (x.below hw) (by omega)) hb hc (by omega) (by split <;> omega) (by split <;> omega) (by split <;> decide) (by split <;> decide)).mono ?_
    rw [hr1.out, hr2.out]
    rintro v w' ⟨rfl, m1, k1⟩
    have kf := hide (And.intro m1 ((Below.but b0 b).trans k1))
    clear m1
    go_wp2
    go_ret
    exact ⟨rfl, kf.out.1, kf.out.2⟩

set_option maxRecDepth 100000 in
set_option maxHeartbeats 1600000 in
theorem spend_over {w : World} {b : Nat} {n k c e nn : Int} (h : MB w b n k c e) (hc : 0 ≤ c) (hcn : c ≤ 2000) (he : 0 < e) (he2 : e < 256) :
    Calls Try.prog 13 #[.pointer (some ⟨b, 0, none⟩), .int .i64 nn] w fun x w' => x = .returned (.int .i64 e) ∧ Below w.heap.size w w' := by
  have b0 := step7 (below_alloc7 (w.alloc (.cells #[.pointer (some ⟨b, 0, none⟩)] 22)) (.cells #[.int .i64 nn] 3)) (below_alloc7 w _)
  have hbb := hide (And.intro b0 (h.below b0))
  clear b0
  go_enter Try.func13, Try.ntmps13
  go_wp2_with fail
  refine (change_over hbb.out.2 hc hcn he he2).mono ?_
  rintro v w' ⟨rfl, k1⟩
  have kf := hide (step7 k1 hbb.out.1)
  go_wp2
  go_ret
  exact ⟨rfl, kf.out⟩

set_option maxRecDepth 100000 in
set_option maxHeartbeats 1600000 in
theorem spent_n {w : World} {b : Nat} {n k c e : Int} (h : MB w b n k c e) (hc : 0 ≤ c) (hcn : c ≤ 2000) (he : 0 ≤ e) (he2 : e < 256) :
    Calls Try.prog 9 #[.pointer (some ⟨b, 0, none⟩)] w fun x w' => x = .returned (.int .i64 c) ∧ Below w.heap.size w w' := by
  have hfl : ∀ w, Sem.run Try.prog (Instr.field 61 (.agg #[.int .i64 c, .int .i64 e]) 0) w = .ok (.int .i64 c) w := fun _ => by kernel_rfl
  go_enter Try.func9, Try.ntmps9
  go_wp2_with fail
  refine (load_n h).mono ?_
  rintro x w1 ⟨rfl, rfl⟩
  go_wp2_with fail
  refine (unpacked_n hc hcn he he2).mono ?_
  rintro x w1 ⟨rfl, k1⟩
  go_wp2
  go_ret
  exact ⟨rfl, k1⟩

set_option maxRecDepth 100000 in
set_option maxHeartbeats 1600000 in
theorem over_n {w : World} {b : Nat} {n k c e : Int} (h : MB w b n k c e) (hc : 0 ≤ c) (hcn : c ≤ 2000) (he : 0 ≤ e) (he2 : e < 256) :
    Calls Try.prog 10 #[.pointer (some ⟨b, 0, none⟩)] w fun x w' => x = .returned (.int .i64 e) ∧ Below w.heap.size w w' := by
  have hfl : ∀ w, Sem.run Try.prog (Instr.field 61 (.agg #[.int .i64 c, .int .i64 e]) 1) w = .ok (.int .i64 e) w := fun _ => by kernel_rfl
  go_enter Try.func10, Try.ntmps10
  go_wp2_with fail
  refine (load_n h).mono ?_
  rintro x w1 ⟨rfl, rfl⟩
  go_wp2_with fail
  refine (unpacked_n hc hcn he he2).mono ?_
  rintro x w1 ⟨rfl, k1⟩
  go_wp2
  go_ret
  exact ⟨rfl, k1⟩

set_option maxRecDepth 100000 in
set_option maxHeartbeats 1600000 in
theorem new_n {w : World} {n k : Int} (hn : 1 ≤ n) (hn2 : n ≤ 2000) (hk : 1 ≤ k) (hk2 : k ≤ 8) :
    Calls Try.prog 7 #[.int .i64 n, .int .i64 k] w fun x w' => x = .returned (.tuple #[.pointer (some ⟨w.heap.size, 0, none⟩), .int .i64 0]) ∧ MB w' w.heap.size n k 0 0 ∧ Below w.heap.size w w' := by
  have h1 : (n < 1) = False := by simp; omega
  have h2 : (2000 < n) = False := by simp; omega
  have h3 : (k < 1) = False := by simp; omega
  have h4 : (8 < k) = False := by simp; omega
  go_enter Try.func7, Try.ntmps7
  go_wp2
  refine bodyPost_ret (results_tmp2 rfl _ _ _) rfl ?_
  exact ⟨rfl, heap_alloc_new w _, below_alloc7 _ _⟩

set_option maxRecDepth 100000 in
set_option maxHeartbeats 1600000 in
theorem new_no {w : World} {n k : Int} (h : n < 1 ∨ 2000 < n ∨ k < 1 ∨ 8 < k) :
    Calls Try.prog 7 #[.int .i64 n, .int .i64 k] w fun x w' => x = .returned (.tuple #[.pointer none, .int .i64 1]) ∧ Below w.heap.size w w' := by
  go_enter Try.func7, Try.ntmps7
  go_wp2
  all_goals first | (refine bodyPost_ret (results_tmp2 rfl _ _ _) rfl ?_; exact ⟨rfl, Below.refl _ _⟩) | (exfalso; omega) | trace_state

set_option maxRecDepth 100000 in
set_option maxHeartbeats 1600000 in
theorem refnew_n {w : World} {n k : Int} :
    Calls Try.prog 12 #[.int .i64 n, .int .i64 k] w fun x w' => x = .returned (.pointer (some ⟨w.heap.size, 0, none⟩)) ∧ w'.heap[w.heap.size]? = some (.cells #[.int .i64 n, .int .i64 k, .int .i64 0, .int .i64 0] 43 (0, 0)) ∧ Below w.heap.size w w' := by
  go_enter Try.func12, Try.ntmps12
  go_wp2
  refine bodyPost_ret (results_tmp rfl _ _ _) rfl ?_
  exact ⟨rfl, heap_alloc_new w _, below_alloc7 _ _⟩

/-- the block of the document's meter -/
def RB (w : World) (b : Nat) (n k c e : Int) : Prop := w.heap[b]? = some (.cells #[.int .i64 n, .int .i64 k, .int .i64 c, .int .i64 e] 43 (0, 0))
namespace RB
variable {w w' : World} {b : Nat} {n k c e : Int}
theorem lt (h : RB w b n k c e) : b < w.heap.size := lt_of_block h
theorem c0 (h : RB w b n k c e) : w.cell? ⟨b, 0, none⟩ = some (.int .i64 n) := cell_of_row w b 0 _ _ (0, 0) h
theorem c1 (h : RB w b n k c e) : w.cell? ⟨b, 1, none⟩ = some (.int .i64 k) := cell_of_row w b 1 _ _ (0, 0) h
theorem c2 (h : RB w b n k c e) : w.cell? ⟨b, 2, none⟩ = some (.int .i64 c) := cell_of_row w b 2 _ _ (0, 0) h
theorem c3 (h : RB w b n k c e) : w.cell? ⟨b, 3, none⟩ = some (.int .i64 e) := cell_of_row w b 3 _ _ (0, 0) h
theorem f (h : RB w b n k c e) (i : Nat) : w.frozen? ⟨b, i, none⟩ = false := frozen_of_row w b i _ _ h
theorem below (h : RB w b n k c e) (hb : Below w.heap.size w w') : RB w' b n k c e := (hb.block b h.lt).trans h
theorem but {b2 : Nat} (h : RB w b n k c e) (hb : But b2 w w') (hne : b ≠ b2) : RB w' b n k c e := (hb.block b h.lt hne).trans h
theorem setc (h : RB w b n k c e) (c' : Int) : RB (w.setCell ⟨b, 2, none⟩ (.int .i64 c')) b n k c' e := heap_setCell_same w b 2 _ _ _ h
theorem sete (h : RB w b n k c e) (e' : Int) : RB (w.setCell ⟨b, 3, none⟩ (.int .i64 e')) b n k c e' := heap_setCell_same w b 3 _ _ _ h
end RB

set_option maxRecDepth 100000 in
set_option maxHeartbeats 1600000 in
theorem refspend_over {w : World} {b : Nat} {n k c e nn : Int} (h : RB w b n k c e) (he : 0 < e) :
    Calls Try.prog 14 #[.pointer (some ⟨b, 0, none⟩), .int .i64 nn] w fun x w' => x = .returned (.int .i64 e) ∧ Below w.heap.size w w' := by
  have c0 := h.c3
  have hne : (e == 0) = false := by rw [beq_eq_false_iff_ne]; omega
  go_enter Try.func14, Try.ntmps14
  go_wp2
  go_ret
  exact ⟨rfl, Below.refl _ _⟩

set_option maxRecDepth 100000 in
set_option maxHeartbeats 1600000 in
theorem refspend_n {w : World} {b : Nat} {n k c nn : Int} (h : RB w b n k c 0) (hc : 0 ≤ c) (hcn : c ≤ n) (hn : n ≤ 2000) :
    Calls Try.prog 14 #[.pointer (some ⟨b, 0, none⟩), .int .i64 nn] w fun x w' => x = .returned (.int .i64 (if nn < 0 then 1 else if n - c < nn then 70 else 0)) ∧ RB w' b n k (if nn < 0 then c else if n - c < nn then c else c + nn) (if nn < 0 then 0 else if n - c < nn then 70 else 0) ∧ But b w w' := by
  have c0 := h.c0
  have c2 := h.c2
  have c3 := h.c3
  have f2 := h.f 2
  have f3 := h.f 3
  by_cases h1 : nn < 0
  · simp only [if_pos h1]
    go_enter Try.func14, Try.ntmps14
    go_wp2
    go_ret
    exact ⟨rfl, h, Below.but (Below.refl _ _) b⟩
  · simp only [if_neg h1]
    by_cases h2 : n - c < nn
    · simp only [if_pos h2]
      go_enter Try.func14, Try.ntmps14
      go_wp2_with fail
      go_quiet (fail)
      have kq : Below w.heap.size w (w.drewN nq) := g7_drewN (Below.refl _ _) nq
      have hq := h.below kq
      generalize w.drewN nq = wq at *
      clear c0 c2 c3 f2 f3
      have c2 := hq.c2
      have c3 := hq.c3
      have f2 := hq.f 2
      have f3 := hq.f 3
      replace kq := hide kq
      go_wp2
      go_ret
      exact ⟨rfl, hq.sete 70, (Below.but kq.out b).trans (but_setCell _ _ _ _)⟩
    · simp only [if_neg h2]
      go_enter Try.func14, Try.ntmps14
      go_wp2_with fail
      go_quiet (fail)
      have kq : Below w.heap.size w (w.drewN nq) := g7_drewN (Below.refl _ _) nq
      have hq := h.below kq
      generalize w.drewN nq = wq at *
      clear c0 c2 c3 f2 f3
      have c2 := hq.c2
      have c3 := hq.c3
      have f2 := hq.f 2
      have f3 := hq.f 3
      replace kq := hide kq
      go_wp2
      go_ret
      exact ⟨rfl, hq.setc (c + nn), (Below.but kq.out b).trans (but_setCell _ _ _ _)⟩
end Go.Proofs.Ytofjjpkbildagaa
