/-
  Layer 7: the document's count of limbs, of layer 2.
-/
import Derived.Test.YtofjjpkbildagaaMD
namespace Go.Proofs.Ytofjjpkbildagaa.Mt
open Go.RowKit

theorem trim_fin {w w' : World} {xs : List Int} {len m : Nat} (hxl : xs.length = len) (hl : Limbs xs) (hm : tl xs len = m) (hb : len ≤ 35184372088832)
    (hr : Row w' w.heap.size (xs.take (min len m) ++ (List.replicate m (0 : Int)).drop (min len m))) (ho : Only w.heap.size (w.alloc (.cells (U (List.replicate m 0)) 59)) w') :
    Ending.returned (.slice (some ⟨w.heap.size, 0, none⟩) m m) = .returned (.slice (some ⟨w.heap.size, 0, none⟩) (tl xs len) (tl xs len)) ∧ Out w w' (some ⟨w.heap.size, 0, none⟩) (tl xs len) (tl xs len) (trim xs) ∧ w'.heap.size = w.heap.size + 1 := by
  have hb1 := tl_le xs len
  subst hm
  rw [Nat.min_eq_right hb1, List.drop_eq_nil_of_le (by simp), List.append_nil] at hr
  have e : trim xs = (xs.take (tl xs len)).take (tl xs len) := by unfold trim; rw [hxl, List.take_take, Nat.min_self]
  refine ⟨rfl, ?_, by rw [ho.size]; simp⟩
  rw [e]
  exact out_row ((below_alloc7 w _).trans (ho.below (Nat.le_refl _))) hr (hl.take _) (by rw [List.length_take]; omega) (Nat.le_refl _) (by omega)

theorem rd_alloc {w : World} {ad : Option Addr} {len cap : Nat} {zs : List Int} (h : Rd w ad len cap zs) (o : Obj) : Rd (w.alloc o) ad len cap zs := h.below (below_alloc7 w o)

set_option maxRecDepth 100000 in
set_option maxHeartbeats 1600000 in
/-- Trim: the limbs without the noughts at the end, in new memory -/
theorem trim_any {ad : Option Addr} {len cap : Nat} {xs : List Int} {w : World} (h : Rd w ad len cap xs) (hl : len ≤ 35184372088832) :
    Calls Try.prog 31 #[.slice ad len cap] w fun e w' => e = .returned (.slice (some ⟨w.heap.size, 0, none⟩) (tl xs len) (tl xs len)) ∧ Out w w' (some ⟨w.heap.size, 0, none⟩) (tl xs len) (tl xs len) (trim xs) ∧ w'.heap.size = w.heap.size + 1 := by
  have hxl := h.1
  have hlim := h.2.2.2.1
  have hmk0 := run_mk 0 (by decide)
  rw [show ((0 : Nat) : Int) = 0 from rfl] at hmk0
  have h0 := rd_alloc h (.cells (U (List.replicate 0 0)) 59)
  by_cases hlz : len = 0
  · subst hlz
    go_enter Try.func31, Try.ntmps31
    go_wp2
    refine wp_loop_rounds 1 ?_
    rw [rounds_succ]
    obtain ⟨v', w', hrun, ⟨kk, rfl⟩, hr, ho⟩ := run_copy_rd (dLen := 0) (dCap := 0) (row_alloc w _) h0 (Nat.zero_le _) 3
    rw [show U (List.replicate 0 (0 : Int)) = U [] from rfl] at hrun
    go_wp2
    go_ret
    exact trim_fin hxl hlim rfl hl hr ho
  · obtain ⟨b, off, rfl, g⟩ := h.some (by omega)
    go_enter Try.func31, Try.ntmps31
    go_wp2
    go_loop [3] (fun n => ∃ k : Nat, k ≤ len ∧ n = .int .i64 k ∧ Hid (tl xs len = tl xs k)) (fun n => (intOf n).toNat)
    case atStart => exact ⟨len, Nat.le_refl _, rfl, rfl⟩
    case round =>
      obtain ⟨k, hk, rfl, HT⟩ := hrel
      cases k with
      | zero =>
        obtain ⟨v', w', hrun, ⟨kk, rfl⟩, hr, ho⟩ := run_copy_rd (dLen := 0) (dCap := 0) (row_alloc w _) h0 (Nat.zero_le _) 3
        rw [show U (List.replicate 0 (0 : Int)) = U [] from rfl] at hrun
        go_wp2
        go_ret
        exact trim_fin hxl hlim HT.out hl hr ho
      | succ m =>
        have hcm := g m (by omega)
        by_cases hz0 : lz xs m = 0
        · have HZ : Hid (lz xs m = 0) := hz0
          have hz1 : (lz xs m == 0) = true := by simp [hz0]
          clear hz0
          go_wp2
          go_round
          case rel => exact ⟨m, by omega, by go_num, by show _ = _; rw [HT.out]; conv => lhs; rw [tl, if_pos HZ.out]⟩
          case measure => simp [intOf]
        · have HZ : Hid (¬ lz xs m = 0) := hz0
          have hz1 : (lz xs m == 0) = false := by simp [hz0]
          have hm1 : Hid (tl xs len = m + 1) := by show _ = _; rw [HT.out, tl, if_neg HZ.out]
          have hmk := run_mk' m (by omega)
          have h1 := rd_alloc h (.cells (U (List.replicate (m + 1) 0)) 59)
          clear hz0
          obtain ⟨v', w', hrun, ⟨kk, rfl⟩, hr, ho⟩ := run_copy_rd (dLen := m + 1) (dCap := m + 1) (row_alloc w (List.replicate (m + 1) 0)) h1 (by rw [List.length_replicate]; exact Nat.le_refl _) 3
          go_wp2
          go_ret
          exact trim_fin hxl hlim hm1.out hl hr ho

set_option maxRecDepth 100000 in
set_option maxHeartbeats 1600000 in
theorem rlimbs_n {s : Bool} {a : Option Addr} {l c : Nat} {xs : List Int} {w : World} (h : Rd w a l c xs) (hl : l ≤ 1099511627776) :
    Calls Try.prog 19 #[.agg #[.bool s, .slice a l c]] w fun e w' => e = .returned (.int .i64 (tl xs l)) ∧ Below w.heap.size w w' := by
  have htl := tl_le xs l
  go_enter Try.func19, Try.ntmps19
  go_wp2_with fail
  have x := zb_new w s a l c
  have b0 := below_alloc7 w (.cells #[.bool s, .slice a l c] 48)
  replace h := h.below b0
  generalize w.alloc (.cells #[.bool s, .slice a l c] 48) = wb at *
  have u1 := x.c1
  have u0 := x.c0
  go_wp2_with fail
  refine (trim_any h (by omega)).mono ?_
  rintro e w1 ⟨rfl, ho, -⟩
  have k1 := ho.1
  go_wp2_with fail
  go_ret
  exact ⟨rfl, b0.trans (k1.mono b0.size)⟩

end Go.Proofs.Ytofjjpkbildagaa.Mt
