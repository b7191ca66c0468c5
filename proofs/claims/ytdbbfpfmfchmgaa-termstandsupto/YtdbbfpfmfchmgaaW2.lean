/-
  Walks: Cmp, same.
-/
import Derived.Test.YtdbbfpfmfchmgaaW1
import Derived.Test.YtdbbfpfmfchmgaaNum
namespace Go.Proofs.Ytdbbfpfmfchmgaa
open Go.RowKit

/-- the cells of a slice with an element, by its address -/
theorem Rd.some {w : World} {ad : Option Addr} {len cap : Nat} {zs : List Int} (h : Rd w ad len cap zs) (hp : 0 < len) : ∃ b off, ad = some ⟨b, off, none⟩ ∧ ∀ i, i < len → w.cell? ⟨b, off + i, none⟩ = some (.int .u32 (lz zs i)) := by
  obtain ⟨h1, h2, h3, h4, h5⟩ := h
  rcases h5 with ⟨_, h6, _⟩ | ⟨a, rfl, h6 | ⟨b, off, rfl, _, hc⟩⟩
  · omega
  · omega
  · exact ⟨b, off, rfl, hc⟩

theorem cmpI_lt {a b : Int} (h : a < b) : cmpI a b = -1 := by unfold cmpI; rw [if_pos h]
theorem cmpI_gt {a b : Int} (h : b < a) : cmpI a b = 1 := by unfold cmpI; rw [if_neg (by omega), if_pos h]
theorem cmpI_eq {a b : Int} (h : a = b) : cmpI a b = 0 := by unfold cmpI; rw [if_neg (by omega), if_neg (by omega)]
theorem ret_int {k : IntKind} {a b : Int} (h : a = b) : Ending.returned (.int k a) = .returned (.int k b) := by rw [h]

/-- bare of a row of the call's own -/
theorem bare_own {w : World} {b : Nat} {xs : List Int} {n : Nat} (h : Row w b xs) (hl : Limbs xs) (hn : xs.length = n) (hm : n ≤ 9223372036854775807) :
    Calls Try.prog 80 #[.slice (some ⟨b, 0, none⟩) n n] w fun e w' => e = .returned (.slice (some ⟨b, 0, none⟩) (tl xs n) n) ∧ w = w' := by
  have := h.rd hl (off := 0) (len := n) (cap := n) (by omega) (Nat.le_refl _) hm
  rw [List.drop_zero, List.take_of_length_le (by omega)] at this
  exact bare_any this

theorem own_trim {w w' : World} {xs : List Int} {n : Nat} (hb : Below w.heap.size w w') (h : Row w' w.heap.size xs) (hl : Limbs xs) (hn : xs.length = n) (hm : n ≤ 9223372036854775807) :
    Out w w' (some ⟨w.heap.size, 0, none⟩) (tl xs n) n (trim xs) ∧ Canon (trim xs) ∧ val (trim xs) = val xs ∧ tl xs n ≤ n := by
  refine ⟨?_, canon_trim hl, val_trim xs, tl_le _ _⟩
  unfold trim
  rw [hn]
  exact out_row hb h hl hn (tl_le _ _) hm

theorem drewN_drewN (w : World) (a b : Nat) : (w.drewN a).drewN b = w.drewN (a + b) := by simp [World.drewN, Nat.add_assoc]

set_option maxHeartbeats 800000 in
theorem cmp_any {a1 a2 : Option Addr} {l1 c1 l2 c2 : Nat} {xs ys : List Int} {w : World} (h1 : Rd w a1 l1 c1 xs) (h2 : Rd w a2 l2 c2 ys) :
    Calls Try.prog 72 #[.slice a1 l1 c1, .slice a2 l2 c2] w fun e w' => e = .returned (.int .i64 (cmpI (val xs) (val ys))) ∧ ∃ n, w' = w.drewN n := by
  have t1 := h1.trim
  have t2 := h2.trim
  have k1 := canon_trim h1.2.2.2.1
  have k2 := canon_trim h2.2.2.2.1
  have e1 := val_trim xs
  have e2 := val_trim ys
  generalize hX : trim xs = X at *
  generalize hY : trim ys = Y at *
  clear hX hY
  generalize hn1 : tl xs l1 = n1 at *
  generalize hn2 : tl ys l2 = n2 at *
  have HN1 : Hid (tl xs l1 = n1) := hn1
  have HN2 : Hid (tl ys l2 = n2) := hn2
  have E1 : Hid (val X = val xs) := e1
  have E2 : Hid (val Y = val ys) := e2
  have L1 : Hid (X.length = n1) := t1.1
  have L2 : Hid (Y.length = n2) := t2.1
  have hc1 : n1 ≤ c1 := t1.2.1
  have hc1' : c1 ≤ 9223372036854775807 := t1.2.2.1
  clear hn1 hn2 e1 e2
  rcases Nat.lt_trichotomy n1 n2 with hlt | heq | hgt
  · go_enter Try.func72, Try.ntmps72
    go_wp2_with fail
    refine (bare_any h1).mono ?_
    rintro e w' ⟨rfl, rfl⟩
    rw [HN1.out]
    go_wp2_with fail
    refine (bare_any h2).mono ?_
    rintro e w' ⟨rfl, rfl⟩
    rw [HN2.out]
    go_wp2_with fail
    go_ret
    exact ⟨ret_int (by rw [← E1.out, ← E2.out, cmpI_lt]; exact val_lt_of_length k1.1 k2 (by rw [L1.out, L2.out]; exact hlt)), 0, rfl⟩
  · subst heq
    by_cases h0 : n1 = 0
    · subst h0
      have ex : X = [] := List.eq_nil_of_length_eq_zero L1.out
      have ey : Y = [] := List.eq_nil_of_length_eq_zero L2.out
      subst ex ey
      go_enter Try.func72, Try.ntmps72
      go_wp2_with fail
      refine (bare_any h1).mono ?_
      rintro e w' ⟨rfl, rfl⟩
      rw [HN1.out]
      go_wp2_with fail
      refine (bare_any h2).mono ?_
      rintro e w' ⟨rfl, rfl⟩
      rw [HN2.out]
      go_wp2_with fail
      refine wp_loop_rounds 1 ?_
      rw [rounds_succ]
      go_wp2
      go_ret
      exact ⟨ret_int (by rw [← E1.out, ← E2.out, cmpI_eq rfl]), 0, rfl⟩
    · obtain ⟨b1, o1, rfl, g1⟩ := t1.some (by omega)
      obtain ⟨b2, o2, rfl, g2⟩ := t2.some (by omega)
      go_enter Try.func72, Try.ntmps72
      go_wp2_with fail
      refine (bare_any h1).mono ?_
      rintro e w' ⟨rfl, rfl⟩
      rw [HN1.out]
      go_wp2_with fail
      refine (bare_any h2).mono ?_
      rintro e w' ⟨rfl, rfl⟩
      rw [HN2.out]
      clear h1 h2 t1 t2
      go_wp2_with fail
      go_loopw [5] (fun i wr => ∃ k q : Nat, k ≤ n1 ∧ i = .int .i64 ((k : Int) - 1) ∧ (∀ j, k ≤ j → j < n1 → lz X j = lz Y j) ∧ wr = w.drewN q) (fun i _ => (intOf i + 1).toNat)
      case atStart => exact ⟨n1, 0, Nat.le_refl _, rfl, fun j hj1 hj2 => absurd hj1 (by omega), rfl⟩
      case round =>
        obtain ⟨k, q, hk, rfl, hs, rfl⟩ := hrel
        have HS : Hid (∀ j, k ≤ j → j < n1 → lz X j = lz Y j) := hs
        clear hs
        cases k with
        | zero =>
          go_wp2
          go_ret
          exact ⟨ret_int (by rw [← E1.out, ← E2.out, cmpI_eq]; exact (by unfold val; rw [L1.out, L2.out]; exact vl_congr (fun i hi => HS.out i (by omega) hi))), q, rfl⟩
        | succ m =>
          have gm1 := g1 m (by omega)
          have gm2 := g2 m (by omega)
          have hm : (m : Int) < n1 := by omega
          rcases Int.lt_trichotomy (lz X m) (lz Y m) with hl | hl | hl
          · have hv : cmpI (val xs) (val ys) = -1 := by rw [← E1.out, ← E2.out, cmpI_lt]; unfold val; rw [L1.out, L2.out]; exact vl_lt_of_lz k1.1 k2.1 (i := m) (by omega) (fun j h1 h2 => HS.out j (by omega) h2) hl
            have HV := hide hv
            clear hv
            go_wp2
            go_quiet (fail)
            go_wp2
            go_ret
            exact ⟨ret_int (unhide HV).symm, q + nq, drewN_drewN _ _ _⟩
          · have HL : Hid (lz X m = lz Y m) := hl
            have f1 : decide (lz X m < lz Y m) = false := by simp; omega
            have f2 : decide (lz Y m < lz X m) = false := by simp; omega
            clear hl
            go_wp2
            go_quiet (fail)
            obtain ⟨n0, hn0⟩ : ∃ n0, n0 = nq := ⟨_, rfl⟩
            subst hn0
            go_wp2
            go_quiet (fail)
            go_wp2
            go_roundw
            case rel => exact ⟨m, q + n0 + nq, by omega, by go_num, fun j h1 h2 => (by by_cases e : j = m; { rw [e]; exact HL.out }; { exact HS.out j (by omega) h2 }), by simp⟩
            case measure => simp [intOf]
          · have hv : cmpI (val xs) (val ys) = 1 := by rw [← E1.out, ← E2.out, cmpI_gt]; unfold val; rw [L1.out, L2.out]; exact vl_lt_of_lz k2.1 k1.1 (i := m) (by omega) (fun j h1 h2 => (HS.out j (by omega) h2).symm) hl
            have HV := hide hv
            clear hv
            have f1 : decide (lz X m < lz Y m) = false := by simp; omega
            go_wp2
            go_quiet (fail)
            obtain ⟨n0, hn0⟩ : ∃ n0, n0 = nq := ⟨_, rfl⟩
            subst hn0
            go_wp2
            go_quiet (fail)
            go_wp2
            go_ret
            exact ⟨ret_int (unhide HV).symm, q + n0 + nq, by simp⟩
  · go_enter Try.func72, Try.ntmps72
    go_wp2_with fail
    refine (bare_any h1).mono ?_
    rintro e w' ⟨rfl, rfl⟩
    rw [HN1.out]
    go_wp2_with fail
    refine (bare_any h2).mono ?_
    rintro e w' ⟨rfl, rfl⟩
    rw [HN2.out]
    go_wp2_with fail
    go_ret
    exact ⟨ret_int (by rw [← E1.out, ← E2.out, cmpI_gt]; exact val_lt_of_length k2.1 k1 (by rw [L1.out, L2.out]; exact hgt)), 0, rfl⟩

end Go.Proofs.Ytdbbfpfmfchmgaa
