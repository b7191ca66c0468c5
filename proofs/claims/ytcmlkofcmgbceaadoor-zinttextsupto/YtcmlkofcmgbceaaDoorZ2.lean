/-
  Layer 2: sums, differences, signs, orders, small numbers.
-/
import Derived.Test.YtcmlkofcmgbceaaDoorZ1
namespace Go.Proofs.YtcmlkofcmgbceaaDoor
open Go.RowKit

theorem ZB.only {w w' : World} {b b' : Nat} {s : Bool} {a : Option Addr} {l c : Nat} (h : ZB w b s a l c) (ho : Only b' w w') (hne : b ≠ b') : ZB w' b s a l c := (ho.block b hne).trans h
theorem zb_nm {w w' : World} {r l c : Nat} {s : Bool} {a : Option Addr} {ad : Option Addr} {len cap : Nat} {n : Int} (y : ZB w r s a l c) (ho : Only r w w') (h : Nm w ad len cap n) : Nm w' ad len cap n := by
  obtain ⟨zs, h1, h3⟩ := h
  exact ⟨zs, h1.only ho (zb_apart y h1), h3⟩
theorem only2 (b : Nat) (w : World) (v v' : Value) : Only b w ((w.setCell ⟨b, 0, none⟩ v).setCell ⟨b, 1, none⟩ v') := (Only.set b 0 w v).trans (Only.set b 1 _ v')

theorem sg_add (s : Bool) (m n : Int) : sg s (m + n) = sg s m + sg s n := by cases s <;> simp [sg] <;> omega
theorem sg_sub1 {s1 s2 : Bool} (h : s1 ≠ s2) (m n : Int) : sg s1 (m - n) = sg s1 m + sg s2 n := by cases s1 <;> cases s2 <;> simp [sg] at h ⊢ <;> omega
theorem sg_sub2 {s1 s2 : Bool} (h : s1 ≠ s2) (m n : Int) : sg s2 (n - m) = sg s1 m + sg s2 n := by cases s1 <;> cases s2 <;> simp [sg] at h ⊢ <;> omega

set_option maxRecDepth 100000 in
set_option maxHeartbeats 1600000 in
theorem zsign_n {s : Bool} {a : Option Addr} {l c : Nat} {z : Int} {w : World} (h : Zm w s a l c z) (hl : l ≤ 1099511627776) :
    Calls Tryd.prog 65 #[.agg #[.bool s, .slice a l c]] w fun e w' => e = .returned (.int .i64 (cmpI z 0)) ∧ Below w.heap.size w w' := by
  obtain ⟨n, hn, rfl⟩ := h
  have h0 := hn.nonneg
  go_enter Tryd.func65, Tryd.ntmps65
  go_wp2_with fail
  have x := zb_new w s a l c
  have b0 := below_alloc w (.cells #[.bool s, .slice a l c] 47)
  replace hn := hn.below b0
  generalize w.alloc (.cells #[.bool s, .slice a l c] 47) = wb at *
  generalize hp : w.heap.size = p at *
  replace hp := hide hp
  refine (bits_n hn hl).mono ?_
  rintro e w1 ⟨k, rfl, hk, k1⟩
  have u0 := (x.below k1).c0
  have hB : Below p w w1 := b0.trans (k1.mono (Nat.le_of_lt x.lt))
  by_cases hz : n = 0
  · have hk0 : k = 0 := hk.2 hz
    subst hk0
    go_wp2
    go_ret
    exact ⟨ret_int (by rw [hz, cmpI_eq (by cases s <;> simp [sg])]), hp.out.symm ▸ hB⟩
  · have hk0 : 0 < k := Nat.pos_of_ne_zero (fun h => hz (hk.1 h))
    cases s
    · go_wp2
      go_ret
      exact ⟨ret_int (by rw [cmpI_gt (by simp [sg]; omega)]), hp.out.symm ▸ hB⟩
    · go_wp2
      go_ret
      exact ⟨ret_int (by rw [cmpI_lt (by simp [sg]; omega)]), hp.out.symm ▸ hB⟩

theorem cmpI_sg (z : Int) : -1 ≤ cmpI z 0 ∧ cmpI z 0 ≤ 1 := by unfold cmpI; split <;> (try split) <;> decide
theorem cmpI_neg (m n : Int) : cmpI n m = cmpI (-m) (-n) := by unfold cmpI; split <;> split <;> (try split) <;> (try split) <;> omega

theorem cmp_both_neg {s1 s2 : Bool} {m n v : Int} (h0 : 0 ≤ m) (h0' : 0 ≤ n) (h1 : cmpI (sg s1 m) 0 = v) (h2 : cmpI (sg s2 n) 0 = v) (hv : v < 0) : cmpI n m = cmpI (sg s1 m) (sg s2 n) := by
  unfold cmpI at *
  cases s1 <;> cases s2 <;> simp only [sg, if_true, if_false, Bool.false_eq_true] at * <;> omega
theorem cmp_both_pos {s1 s2 : Bool} {m n v : Int} (h0 : 0 ≤ m) (h0' : 0 ≤ n) (h1 : cmpI (sg s1 m) 0 = v) (h2 : cmpI (sg s2 n) 0 = v) (hv : ¬ v < 0) : cmpI m n = cmpI (sg s1 m) (sg s2 n) := by
  unfold cmpI at *
  cases s1 <;> cases s2 <;> simp only [sg, if_true, if_false, Bool.false_eq_true] at * <;> omega
theorem cmp_apart {a b v1 v2 : Int} (h1 : cmpI a 0 = v1) (h2 : cmpI b 0 = v2) (hv : v1 ≠ v2) : cmpI v1 v2 = cmpI a b := by
  unfold cmpI at *
  omega

theorem wrap_neg {n : Int} (h0 : -9223372036854775808 ≤ n) (hn : n < 0) : IntKind.u64.wrap (wrap64 (-n)) = -n := by
  rw [IntKind.wrap_u64]
  unfold wrap64
  omega

set_option maxRecDepth 100000 in
set_option maxHeartbeats 1600000 in
theorem zof_n (n : Int) (h0 : -9223372036854775808 ≤ n) (h1 : n ≤ 9223372036854775807) (w : World) :
    Calls Tryd.prog 60 #[.int .i64 n] w fun e w' => ∃ s' ad len cap, e = .returned (.agg #[.bool s', .slice ad len cap]) ∧ Zn w' s' ad len cap n ∧ Below w.heap.size w w' ∧ len ≤ 2 := by
  go_enter Tryd.func60, Tryd.ntmps60
  by_cases hn : n < 0
  · go_wp2_with fail
    have y := zb_new w false none 0 0
    have b0 := below_alloc w (.cells #[.bool false, .slice none 0 0] 47)
    rw [wrap_neg h0 hn]
    generalize w.alloc (.cells #[.bool false, .slice none 0 0] 47) = wb at *
    generalize hp : w.heap.size = r at *
    replace hp := hide hp
    refine (of_n (-n) (by omega) (by omega) wb).mono ?_
    rintro e w1 ⟨ad, len, cap, rfl, hc, k1, hl'⟩
    go_wp2_with fail
    refine (stand_n hc).mono ?_
    rintro e w' ⟨s', rfl, hz, hg⟩
    have y' : ZB w' r false none 0 0 := ZB.below y (by (repeat' (first | with_reducible exact Below.refl _ _ | with_reducible assumption | with_reducible refine grow_step (by with_reducible assumption) ?_ | with_reducible refine grow_drew ?_ | with_reducible refine grow_alloc ?_ _ | with_reducible refine grow_drewN ?_ _))); have y0 := y'.c0; have y1 := y'.c1; have y2 := y'.f 0; have y3 := y'.f 1
    have hB : Below r w w' := b0.trans ((grow_step hg k1).mono (Nat.le_of_lt y.lt))
    go_wp2
    refine bodyPost_ret (results_cell_row rfl _ _ r 47 _ (0, 0) _ rfl (zb_fin y' s' ad len cap) Tryd.underlying47 rfl (by kernel_rfl)) rfl ?_
    rw [show sg true (-n) = n from by simp [sg]] at hz
    exact ⟨s', ad, len, cap, by simp, zb_zn y' hz _ _ _ _, hp.out.symm ▸ (hB.setCell (Nat.le_refl _) _).setCell (Nat.le_refl _) _, hl'⟩
  · go_wp2_with fail
    have y := zb_new w false none 0 0
    have b0 := below_alloc w (.cells #[.bool false, .slice none 0 0] 47)
    generalize w.alloc (.cells #[.bool false, .slice none 0 0] 47) = wb at *
    generalize hp : w.heap.size = r at *
    replace hp := hide hp
    refine (of_n n (by omega) (by omega) wb).mono ?_
    rintro e w1 ⟨ad, len, cap, rfl, hc, k1, hl'⟩
    go_wp2_with fail
    refine (stand_n hc).mono ?_
    rintro e w' ⟨s', rfl, hz, hg⟩
    have y' : ZB w' r false none 0 0 := ZB.below y (by (repeat' (first | with_reducible exact Below.refl _ _ | with_reducible assumption | with_reducible refine grow_step (by with_reducible assumption) ?_ | with_reducible refine grow_drew ?_ | with_reducible refine grow_alloc ?_ _ | with_reducible refine grow_drewN ?_ _))); have y0 := y'.c0; have y1 := y'.c1; have y2 := y'.f 0; have y3 := y'.f 1
    have hB : Below r w w' := b0.trans ((grow_step hg k1).mono (Nat.le_of_lt y.lt))
    go_wp2
    refine bodyPost_ret (results_cell_row rfl _ _ r 47 _ (0, 0) _ rfl (zb_fin y' s' ad len cap) Tryd.underlying47 rfl (by kernel_rfl)) rfl ?_
    rw [show sg false n = n from by simp [sg]] at hz
    exact ⟨s', ad, len, cap, by simp, zb_zn y' hz _ _ _ _, hp.out.symm ▸ (hB.setCell (Nat.le_refl _) _).setCell (Nat.le_refl _) _, hl'⟩

end Go.Proofs.YtcmlkofcmgbceaaDoor
