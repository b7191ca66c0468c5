/-
 Several texts in one: Z4, Z5, Z6, Z7, Z9, Z8.
-/
import Derived.Test.YtmlephkmbkiofaaGreatDoorR06
import Derived.Test.YtmlephkmbkiofaaGreatDoorR07
import Derived.Laws.MathBits
import Derived.Deep.LoopGhost
namespace Go.Proofs.YtmlephkmbkiofaaGreatDoor
open Go.RowKit

theorem trim_n {a : Option Addr} {l c : Nat} {n : Int} {w : World} (h : Nm w a l c n) (hl : l ≤ 1099511627776) :
  Calls Tryz.prog 54 #[.slice a l c] w fun e w' => ∃ ad len cap, e = .returned (.slice ad len cap) ∧ Cn w' ad len cap n ∧ Below w.heap.size w w' ∧ len ≤ l := by
 obtain ⟨xs, h1, rfl⟩ := h
 refine (trim_any h1 (by omega)).mono ?_
 rintro e w' ⟨rfl, ho, -⟩
 exact ⟨_, _, _, rfl, out_cn ho (canon_trim h1.2.2.2.1) (val_trim xs), ho.1, tl_le _ _⟩
theorem rcmp_n {a1 a2 : Option Addr} {l1 c1 l2 c2 : Nat} {m n : Int} {w : World} (h1 : Nm w a1 l1 c1 m) (h2 : Nm w a2 l2 c2 n) :
  Calls Tryz.prog 56 #[.slice a1 l1 c1, .slice a2 l2 c2] w fun e w' => e = .returned (.int .i64 (cmpI m n)) ∧ Below w.heap.size w w' := by
 obtain ⟨xs, h1, rfl⟩ := h1
 obtain ⟨ys, h2, rfl⟩ := h2
 refine (refcmp_any h1 h2).mono ?_
 rintro e w' ⟨rfl, rfl⟩
 exact ⟨rfl, Below.refl _ _⟩

theorem zn_same {w w' : World} {s s' : Bool} {a a' : Option Addr} {l l' c c' : Nat} {z : Int} (h : Zn w s a l c z) (h' : Zn w' s' a' l' c' z) : s = s' ∧ l = l' := by
 obtain ⟨n, hc, e, hs⟩ := h
 obtain ⟨n', hc', e', hs'⟩ := h'
 have h0 := hc.nm.nonneg
 have h0' := hc'.nm.nonneg
 have hn : s = s' ∧ n = n' := by
  cases s <;> cases s' <;> simp [sg] at e e' hs hs' ⊢ <;> omega
 obtain ⟨rfl, rfl⟩ := hn
 obtain ⟨zs, r1, r2, r3⟩ := hc
 obtain ⟨ys, q1, q2, q3⟩ := hc'
 obtain rfl := canon_inj r2 q2 (r3.trans q3.symm)
 exact ⟨rfl, r1.1.symm.trans q1.1⟩

/-- the sign and the limbs of a number that stands -/
theorem zn_stand {w : World} {s : Bool} {a : Option Addr} {l c : Nat} {n : Int} (h : Cn w a l c n) : Zn w (s && decide (0 < l)) a l c (sg s n) := by
 have hn := h.len
 refine ⟨n, h, ?_, ?_⟩
 ·cases s
  ·rfl
  ·by_cases h0 : 0 < l
   ·simp [h0]
   ·have : n = 0 := hn.2 (by omega)
    simp [sg, this]
 ·cases s
  ·intro h; cases h
  ·intro h h1
   have h0 : 0 < l := of_decide_eq_true (by simpa using h)
   have := hn.1 h1; omega

set_option maxRecDepth 100000 in
set_option maxHeartbeats 1600000 in
theorem rnorm_n {s : Bool} {a : Option Addr} {l c : Nat} {z : Int} {w : World} (h : Zm w s a l c z) (hl : l ≤ 1099511627776) :
  Calls Tryz.prog 33 #[.agg #[.bool s, .slice a l c]] w fun e w' => ∃ s' ad len cap, e = .returned (.agg #[.bool s', .slice ad len cap]) ∧ Zn w' s' ad len cap z ∧ Below w.heap.size w w' ∧ len ≤ l := by
 obtain ⟨n, hn, rfl⟩ := h
 go_enter Tryz.func33, Tryz.ntmps33
 go_wp2_with fail
 have x := (zb_new w s a l c).below (below_alloc _ (.cells #[.bool false, .slice none 0 0] 26))
 have y := zb_new (w.alloc (.cells #[.bool s, .slice a l c] 26)) false none 0 0
 have b0 : Below w.heap.size w ((w.alloc (.cells #[.bool s, .slice a l c] 26)).alloc (.cells #[.bool false, .slice none 0 0] 26)) := below_alloc' (below_alloc _ _) _
 rw [show (w.alloc (.cells #[.bool s, .slice a l c] 26)).heap.size = w.heap.size + 1 from by simp] at y
 generalize (w.alloc (.cells #[.bool s, .slice a l c] 26)).alloc (.cells #[.bool false, .slice none 0 0] 26) = wb at *
 have hpr : w.heap.size < w.heap.size + 1 := by omega
 replace hn := hn.below b0
 generalize hp : w.heap.size = p at *
 replace hp := hide hp
 generalize p + 1 = r at *
 have hrb := Nat.le_of_lt y.lt
 refine (trim_n hn hl).mono ?_
 rintro e w' ⟨ad, len, cap, rfl, hc, hg, hl'⟩
 have y' : ZB w' r false none 0 0 := ZB.below y (by (repeat' (first | with_reducible exact Below.refl _ _ | with_reducible assumption | with_reducible refine grow_step (by with_reducible assumption) ?_ | with_reducible refine grow_drew ?_ | with_reducible refine grow_alloc ?_ _ | with_reducible refine grow_drewN ?_ _))); have y0 := y'.c0; have y1 := y'.c1; have y2 := y'.f 0; have y3 := y'.f 1
 have u0 := (x.below hg).c0
 have hB : Below p w w' := b0.trans (hg.mono (Nat.le_of_lt (Nat.lt_of_lt_of_le hpr hrb)))
 have hz := zn_stand (s := s) hc
 cases s
 ·generalize hs' : (false && decide (0 < len)) = s' at hz
  simp at hs'
  subst hs'
  go_wp2
  refine bodyPost_ret (results_cell_row rfl _ _ r 26 _ (0, 0) _ rfl (zb_fin y' false ad len cap) Tryz.underlying26 rfl (by kernel_rfl)) rfl ?_
  exact ⟨false, ad, len, cap, by simp, zb_zn y' hz _ _ _ _, hp.out.symm ▸ (hB.setCell (Nat.le_of_lt hpr) _).setCell (Nat.le_of_lt hpr) _, hl'⟩
 ·rw [Bool.true_and] at hz
  go_wp2
  refine bodyPost_ret (results_cell_row rfl _ _ r 26 _ (0, 0) _ rfl (zb_fin y' (decide (0 < len)) ad len cap) Tryz.underlying26 rfl (by kernel_rfl)) rfl ?_
  exact ⟨_, ad, len, cap, by simp, zb_zn y' hz _ _ _ _, hp.out.symm ▸ (hB.setCell (Nat.le_of_lt hpr) _).setCell (Nat.le_of_lt hpr) _, hl'⟩

set_option maxRecDepth 100000 in
set_option maxHeartbeats 1600000 in
theorem rvalid_t {s : Bool} {a : Option Addr} {l c : Nat} {z : Int} {w : World} (h : Zn w s a l c z) (hl : l ≤ 1099511627776) :
  Calls Tryz.prog 52 #[.agg #[.bool s, .slice a l c]] w fun e w' => e = .returned (.bool true) ∧ Below w.heap.size w w' := by
 go_enter Tryz.func52, Tryz.ntmps52
 go_wp2_with fail
 have x := zb_new w s a l c
 have b0 := below_alloc w (.cells #[.bool s, .slice a l c] 26)
 have hn := h.below b0
 generalize w.alloc (.cells #[.bool s, .slice a l c] 26) = wb at *
 generalize hp : w.heap.size = p at *
 replace hp := hide hp
 refine (rnorm_n hn.zm hl).mono ?_
 rintro e w1 ⟨s', ad, len, cap, rfl, hz, k1, -⟩
 obtain ⟨rfl, rfl⟩ := zn_same hn hz
 have u0 := (x.below k1).c0
 have u1 := (x.below k1).c1
 have hpw : p < w1.heap.size := Nat.lt_of_lt_of_le x.lt k1.size
 have hB : Below p w w1 := b0.trans (k1.mono (Nat.le_of_lt x.lt))
 go_wp2
 go_ret
 exact ⟨by simp, hp.out.symm ▸ hB.alloc (Nat.le_of_lt hpw) _⟩

set_option maxRecDepth 100000 in
set_option maxHeartbeats 1600000 in
theorem rsign_n {s : Bool} {a : Option Addr} {l c : Nat} {z : Int} {w : World} (h : Zm w s a l c z) (hl : l ≤ 1099511627776) :
  Calls Tryz.prog 23 #[.agg #[.bool s, .slice a l c]] w fun e w' => e = .returned (.int .i64 (cmpI z 0)) ∧ Below w.heap.size w w' := by
 go_enter Tryz.func23, Tryz.ntmps23
 go_wp2_with fail
 have x := zb_new w s a l c
 have b0 := below_alloc w (.cells #[.bool s, .slice a l c] 26)
 have hn := h.below b0
 generalize w.alloc (.cells #[.bool s, .slice a l c] 26) = wb at *
 generalize hp : w.heap.size = p at *
 replace hp := hide hp
 refine (rnorm_n hn hl).mono ?_
 rintro e w1 ⟨s', ad, len, cap, rfl, hz, k1, -⟩
 obtain ⟨n, hc, hv, hs⟩ := hz
 have h0 := hc.nm.nonneg
 have hlen := hc.len
 have hB : Below p w w1 := b0.trans (k1.mono (Nat.le_of_lt x.lt))
 have hB' : p ≤ w1.heap.size := Nat.le_trans (Nat.le_of_lt x.lt) k1.size
 by_cases hn0 : n = 0
 ·have hlen0 : len = 0 := hlen.1 hn0
  subst hlen0
  go_wp2
  go_ret
  exact ⟨ret_int (by rw [hv, hn0, cmpI_eq (by cases s' <;> simp [sg])]), hp.out.symm ▸ hB.alloc hB' _⟩
 ·have hlen0 : 0 < len := Nat.pos_of_ne_zero (fun h => hn0 (hlen.2 h))
  cases s'
  ·go_wp2
   go_ret
   exact ⟨ret_int (by rw [hv, cmpI_gt (by simp [sg]; omega)]), hp.out.symm ▸ hB.alloc hB' _⟩
  ·go_wp2
   go_ret
   exact ⟨ret_int (by rw [hv, cmpI_lt (by simp [sg]; omega)]), hp.out.symm ▸ hB.alloc hB' _⟩

theorem cmp_both_neg' {s1 s2 : Bool} {m n v : Int} (h0 : 0 ≤ m) (h0' : 0 ≤ n) (h1 : cmpI (sg s1 m) 0 = v) (h2 : cmpI (sg s2 n) 0 = v) (hv : v < 0) : -cmpI m n = cmpI (sg s1 m) (sg s2 n) := by
 unfold cmpI at *
 cases s1 <;> cases s2 <;> simp only [sg, if_true, if_false, Bool.false_eq_true] at * <;> omega

set_option maxRecDepth 100000 in
set_option maxHeartbeats 1600000 in
theorem rcmp2_n {s1 s2 : Bool} {a1 a2 : Option Addr} {l1 c1 l2 c2 : Nat} {z1 z2 : Int} {w : World} (h1 : Zm w s1 a1 l1 c1 z1) (h2 : Zm w s2 a2 l2 c2 z2) (hl1 : l1 ≤ 1099511627776) (hl2 : l2 ≤ 1099511627776) :
  Calls Tryz.prog 77 #[.agg #[.bool s1, .slice a1 l1 c1], .agg #[.bool s2, .slice a2 l2 c2]] w fun e w' => e = .returned (.int .i64 (cmpI z1 z2)) ∧ Below w.heap.size w w' := by
 obtain ⟨m, hm, rfl⟩ := h1
 obtain ⟨n, hn, rfl⟩ := h2
 have h0 := hm.nonneg
 have h0' := hn.nonneg
 go_enter Tryz.func77, Tryz.ntmps77
 go_wp2_with fail
 have x := (zb_new w s1 a1 l1 c1).below (below_alloc _ (.cells #[.bool s2, .slice a2 l2 c2] 26))
 have x2 := zb_new (w.alloc (.cells #[.bool s1, .slice a1 l1 c1] 26)) s2 a2 l2 c2
 have b0 : Below w.heap.size w ((w.alloc (.cells #[.bool s1, .slice a1 l1 c1] 26)).alloc (.cells #[.bool s2, .slice a2 l2 c2] 26)) := below_alloc' (below_alloc _ _) _
 rw [show (w.alloc (.cells #[.bool s1, .slice a1 l1 c1] 26)).heap.size = w.heap.size + 1 from by simp] at x2
 replace hm := hm.below b0
 replace hn := hn.below b0
 generalize (w.alloc (.cells #[.bool s1, .slice a1 l1 c1] 26)).alloc (.cells #[.bool s2, .slice a2 l2 c2] 26) = wb at *
 generalize hp : w.heap.size = p at *
 replace hp := hide hp
 generalize p + 1 = q at *
 have hpb := Nat.le_of_lt x.lt
 refine (rsign_n ⟨m, hm, rfl⟩ hl1).mono ?_
 rintro e w1 ⟨rfl, k1⟩
 have u2 := (x2.below k1).c0
 have u3 := (x2.below k1).c1
 go_wp2_with fail
 refine (rsign_n ⟨n, hn.below k1, rfl⟩ hl2).mono ?_
 rintro e w2 ⟨rfl, k2⟩
 replace k2 := grow_step k2 k1
 clear u2 u3 k1
 have u1 := (x.below k2).c1
 have u3 := (x2.below k2).c1
 replace hm := hm.below k2
 replace hn := hn.below k2
 replace b0 : Below p w w2 := b0.trans (k2.mono hpb)
 have hc1 := cmpI_sg (sg s1 m)
 have hc2 := cmpI_sg (sg s2 n)
 have HA := fun hv => hide (cmp_apart (a := sg s1 m) (b := sg s2 n) rfl rfl hv)
 generalize hv1 : cmpI (sg s1 m) 0 = v1 at *
 generalize hv2 : cmpI (sg s2 n) 0 = v2 at *
 replace hv1 := hide hv1
 replace hv2 := hide hv2
 by_cases he : v1 = v2
 ·subst he
  have hcb : -1 ≤ cmpI m n ∧ cmpI m n ≤ 1 := by unfold cmpI; split <;> (try split) <;> decide
  by_cases hneg : v1 < 0
  ·go_wp2_with fail
   refine (rcmp_n hm hn).mono ?_
   rintro e w4 ⟨rfl, k4⟩
   have HE := hide (cmp_both_neg' h0 h0' (unhide hv1) (unhide hv2) hneg)
   generalize cmpI m n = cc at *
   go_wp2
   go_ret
   exact ⟨ret_int (unhide HE), hp.out.symm ▸ b0.trans (k4.mono (Nat.le_trans hpb k2.size))⟩
  ·go_wp2_with fail
   refine (rcmp_n hm hn).mono ?_
   rintro e w4 ⟨rfl, k4⟩
   go_wp2
   go_ret
   exact ⟨ret_int (cmp_both_pos h0 h0' (unhide hv1) (unhide hv2) (by omega)), hp.out.symm ▸ b0.trans (k4.mono (Nat.le_trans hpb k2.size))⟩
 ·have e2 := HA he
  clear HA
  by_cases h12 : v1 < v2
  ·rw [cmpI_lt h12] at e2
   go_wp2
   go_ret
   exact ⟨ret_int (unhide e2), hp.out.symm ▸ b0⟩
  ·rw [cmpI_gt (by omega)] at e2
   go_wp2
   go_ret
   exact ⟨ret_int (unhide e2), hp.out.symm ▸ b0⟩

set_option maxRecDepth 100000 in
set_option maxHeartbeats 1600000 in
theorem rsame_t {s1 s2 : Bool} {a1 a2 : Option Addr} {l1 c1 l2 c2 : Nat} {z1 z2 : Int} {w : World} (h1 : Zm w s1 a1 l1 c1 z1) (h2 : Zm w s2 a2 l2 c2 z2) (hl1 : l1 ≤ 1099511627776) (hl2 : l2 ≤ 1099511627776) (he : z1 = z2) :
  Calls Tryz.prog 53 #[.agg #[.bool s1, .slice a1 l1 c1], .agg #[.bool s2, .slice a2 l2 c2]] w fun e w' => e = .returned (.bool true) ∧ Below w.heap.size w w' := by
 go_enter Tryz.func53, Tryz.ntmps53
 go_wp2_with fail
 have x := (zb_new w s1 a1 l1 c1).below (below_alloc _ (.cells #[.bool s2, .slice a2 l2 c2] 26))
 have x2 := zb_new (w.alloc (.cells #[.bool s1, .slice a1 l1 c1] 26)) s2 a2 l2 c2
 have b0 : Below w.heap.size w ((w.alloc (.cells #[.bool s1, .slice a1 l1 c1] 26)).alloc (.cells #[.bool s2, .slice a2 l2 c2] 26)) := below_alloc' (below_alloc _ _) _
 rw [show (w.alloc (.cells #[.bool s1, .slice a1 l1 c1] 26)).heap.size = w.heap.size + 1 from by simp] at x2
 replace h1 := h1.below b0
 replace h2 := h2.below b0
 generalize (w.alloc (.cells #[.bool s1, .slice a1 l1 c1] 26)).alloc (.cells #[.bool s2, .slice a2 l2 c2] 26) = wb at *
 generalize hp : w.heap.size = p at *
 replace hp := hide hp
 generalize p + 1 = q at *
 refine (rcmp2_n h1 h2 hl1 hl2).mono ?_
 rintro e w1 ⟨rfl, k1⟩
 rw [cmpI_eq he]
 go_wp2
 go_ret
 exact ⟨by simp, hp.out.symm ▸ b0.trans (k1.mono (Nat.le_of_lt x.lt))⟩

set_option maxRecDepth 100000 in
set_option maxHeartbeats 1600000 in
theorem ris_t {s1 s2 : Bool} {a1 a2 : Option Addr} {l1 c1 l2 c2 : Nat} {z1 z2 : Int} {w : World} (h1 : Zn w s1 a1 l1 c1 z1) (h2 : Zm w s2 a2 l2 c2 z2) (hl1 : l1 ≤ 1099511627776) (hl2 : l2 ≤ 1099511627776) (he : z1 = z2) :
  Calls Tryz.prog 31 #[.agg #[.bool s1, .slice a1 l1 c1], .agg #[.bool s2, .slice a2 l2 c2]] w fun e w' => e = .returned (.bool true) ∧ Below w.heap.size w w' := by
 go_enter Tryz.func31, Tryz.ntmps31
 go_wp2_with fail
 have x := (zb_new w s1 a1 l1 c1).below (below_alloc _ (.cells #[.bool s2, .slice a2 l2 c2] 26))
 have x2 := zb_new (w.alloc (.cells #[.bool s1, .slice a1 l1 c1] 26)) s2 a2 l2 c2
 have b0 : Below w.heap.size w ((w.alloc (.cells #[.bool s1, .slice a1 l1 c1] 26)).alloc (.cells #[.bool s2, .slice a2 l2 c2] 26)) := below_alloc' (below_alloc _ _) _
 rw [show (w.alloc (.cells #[.bool s1, .slice a1 l1 c1] 26)).heap.size = w.heap.size + 1 from by simp] at x2
 replace h1 := h1.below b0
 replace h2 := h2.below b0
 generalize (w.alloc (.cells #[.bool s1, .slice a1 l1 c1] 26)).alloc (.cells #[.bool s2, .slice a2 l2 c2] 26) = wb at *
 generalize hp : w.heap.size = p at *
 replace hp := hide hp
 generalize p + 1 = q at *
 refine (rvalid_t h1 hl1).mono ?_
 rintro e w1 ⟨rfl, k1⟩
 have u0 := (x.below k1).c0
 have u1 := (x.below k1).c1
 have u2 := (x2.below k1).c0
 have u3 := (x2.below k1).c1
 go_wp2_with fail
 refine (rsame_t (h1.below k1).zm (h2.below k1) hl1 hl2 he).mono ?_
 rintro e w2 ⟨rfl, k2⟩
 go_wp2
 go_ret
 exact ⟨by simp, hp.out.symm ▸ b0.trans ((grow_step k2 k1).mono (Nat.le_of_lt x.lt))⟩

set_option maxRecDepth 100000 in
set_option maxHeartbeats 1600000 in
theorem is_t {s1 s2 : Bool} {a1 a2 : Option Addr} {l1 c1 l2 c2 : Nat} {z1 z2 : Int} {w : World} (h1 : Zn w s1 a1 l1 c1 z1) (h2 : Zm w s2 a2 l2 c2 z2) (hl1 : l1 ≤ 1099511627776) (hl2 : l2 ≤ 1099511627776) (he : z1 = z2) :
  Calls Tryz.prog 10 #[.agg #[.bool s1, .slice a1 l1 c1], .agg #[.bool s2, .slice a2 l2 c2]] w fun e w' => e = .returned (.bool true) ∧ Below w.heap.size w w' := by
 go_enter Tryz.func10, Tryz.ntmps10
 go_wp2_with fail
 have x := (zb_new w s1 a1 l1 c1).below (below_alloc _ (.cells #[.bool s2, .slice a2 l2 c2] 26))
 have x2 := zb_new (w.alloc (.cells #[.bool s1, .slice a1 l1 c1] 26)) s2 a2 l2 c2
 have b0 : Below w.heap.size w ((w.alloc (.cells #[.bool s1, .slice a1 l1 c1] 26)).alloc (.cells #[.bool s2, .slice a2 l2 c2] 26)) := below_alloc' (below_alloc _ _) _
 rw [show (w.alloc (.cells #[.bool s1, .slice a1 l1 c1] 26)).heap.size = w.heap.size + 1 from by simp] at x2
 replace h1 := h1.below b0
 replace h2 := h2.below b0
 generalize (w.alloc (.cells #[.bool s1, .slice a1 l1 c1] 26)).alloc (.cells #[.bool s2, .slice a2 l2 c2] 26) = wb at *
 generalize hp : w.heap.size = p at *
 replace hp := hide hp
 generalize p + 1 = q at *
 refine (ris_t h1 h2 hl1 hl2 he).mono ?_
 rintro e w1 ⟨rfl, k1⟩
 go_wp2
 go_ret
 exact ⟨by simp, hp.out.symm ▸ b0.trans (k1.mono (Nat.le_of_lt x.lt))⟩

theorem nm_lit2 (w : World) (lo hi : Int) (h0 : 0 ≤ lo) (h1 : lo < 4294967296) (h2 : 0 ≤ hi) (h3 : hi < 4294967296) :
  Nm (w.alloc (.cells #[.int .u32 lo, .int .u32 hi] 42)) (some ⟨w.heap.size, 0, none⟩) 2 2 (lo + hi * 4294967296) := by
 have hl : Limbs [lo, hi] := fun z hz => by
  simp at hz
  rcases hz with rfl | rfl
  ·exact ⟨h0, h1⟩
  ·exact ⟨h2, h3⟩
 have h := (row_alloc w [lo, hi]).rd hl (off := 0) (len := 2) (cap := 2) (by simp) (Nat.le_refl _) (by decide)
 refine ⟨[lo, hi], h, ?_⟩
 simp [val, vl, lz, pw]

set_option maxRecDepth 100000 in
set_option maxHeartbeats 1600000 in
theorem rof_n (n : Int) (h0 : -9223372036854775808 ≤ n) (h1 : n ≤ 9223372036854775807) (w : World) :
  Calls Tryz.prog 24 #[.int .i64 n] w fun e w' => ∃ s' ad len cap, e = .returned (.agg #[.bool s', .slice ad len cap]) ∧ Zn w' s' ad len cap n ∧ Below w.heap.size w w' ∧ len ≤ 2 := by
 go_enter Tryz.func24, Tryz.ntmps24
 by_cases hn : n < 0
 ·go_wp2_with fail
  rw [Go.and_low32 (-(n + 1) + 1) (by omega) (by omega)]
  have hN := nm_lit2 (w.alloc (.cells #[.bool false, .slice none 0 0] 26)) ((-(n + 1) + 1) % 4294967296 % 4294967296) ((-(n + 1) + 1) / 4294967296) (by omega) (by omega) (by omega) (by omega)
  have y := (zb_new w false none 0 0).below (below_alloc _ (.cells #[.int .u32 ((-(n + 1) + 1) % 4294967296 % 4294967296), .int .u32 ((-(n + 1) + 1) / 4294967296)] 42))
  have b0 : Below w.heap.size w ((w.alloc (.cells #[.bool false, .slice none 0 0] 26)).alloc (.cells #[.int .u32 ((-(n + 1) + 1) % 4294967296 % 4294967296), .int .u32 ((-(n + 1) + 1) / 4294967296)] 42)) := below_alloc' (below_alloc _ _) _
  rw [show (w.alloc (.cells #[.bool false, .slice none 0 0] 26)).heap.size = w.heap.size + 1 from by simp] at hN
  generalize (w.alloc (.cells #[.bool false, .slice none 0 0] 26)).alloc (.cells #[.int .u32 ((-(n + 1) + 1) % 4294967296 % 4294967296), .int .u32 ((-(n + 1) + 1) / 4294967296)] 42) = wb at *
  have e1 : (-(n + 1) + 1) % 4294967296 % 4294967296 + (-(n + 1) + 1) / 4294967296 * 4294967296 = (-(n + 1) + 1) := by omega
  rw [e1] at hN
  clear e1
  generalize hp : w.heap.size = r at *
  replace hp := hide hp
  refine (rnorm_n ⟨_, hN, rfl⟩ (by decide)).mono ?_
  rintro e w' ⟨s', ad, len, cap, rfl, hz, hg, hl'⟩
  have y' : ZB w' r false none 0 0 := ZB.below y (by (repeat' (first | with_reducible exact Below.refl _ _ | with_reducible assumption | with_reducible refine grow_step (by with_reducible assumption) ?_ | with_reducible refine grow_drew ?_ | with_reducible refine grow_alloc ?_ _ | with_reducible refine grow_drewN ?_ _))); have y0 := y'.c0; have y1 := y'.c1; have y2 := y'.f 0; have y3 := y'.f 1
  have hB : Below r w w' := b0.trans (hg.mono (Nat.le_of_lt y.lt))
  go_wp2
  refine bodyPost_ret (results_cell_row rfl _ _ r 26 _ (0, 0) _ rfl (zb_fin y' s' ad len cap) Tryz.underlying26 rfl (by kernel_rfl)) rfl ?_
  rw [show sg true (-(n + 1) + 1) = n from by show -(-(n + 1) + 1) = n; omega] at hz
  exact ⟨s', ad, len, cap, by simp, zb_zn y' hz _ _ _ _, hp.out.symm ▸ (hB.setCell (Nat.le_refl _) _).setCell (Nat.le_refl _) _, hl'⟩
 ·go_wp2_with fail
  rw [Go.and_low32 n (by omega) (by omega)]
  have hN := nm_lit2 (w.alloc (.cells #[.bool false, .slice none 0 0] 26)) (n % 4294967296 % 4294967296) (n / 4294967296) (by omega) (by omega) (by omega) (by omega)
  have y := (zb_new w false none 0 0).below (below_alloc _ (.cells #[.int .u32 (n % 4294967296 % 4294967296), .int .u32 (n / 4294967296)] 42))
  have b0 : Below w.heap.size w ((w.alloc (.cells #[.bool false, .slice none 0 0] 26)).alloc (.cells #[.int .u32 (n % 4294967296 % 4294967296), .int .u32 (n / 4294967296)] 42)) := below_alloc' (below_alloc _ _) _
  rw [show (w.alloc (.cells #[.bool false, .slice none 0 0] 26)).heap.size = w.heap.size + 1 from by simp] at hN
  generalize (w.alloc (.cells #[.bool false, .slice none 0 0] 26)).alloc (.cells #[.int .u32 (n % 4294967296 % 4294967296), .int .u32 (n / 4294967296)] 42) = wb at *
  have e1 : n % 4294967296 % 4294967296 + n / 4294967296 * 4294967296 = n := by omega
  rw [e1] at hN
  clear e1
  generalize hp : w.heap.size = r at *
  replace hp := hide hp
  refine (rnorm_n ⟨_, hN, rfl⟩ (by decide)).mono ?_
  rintro e w' ⟨s', ad, len, cap, rfl, hz, hg, hl'⟩
  have y' : ZB w' r false none 0 0 := ZB.below y (by (repeat' (first | with_reducible exact Below.refl _ _ | with_reducible assumption | with_reducible refine grow_step (by with_reducible assumption) ?_ | with_reducible refine grow_drew ?_ | with_reducible refine grow_alloc ?_ _ | with_reducible refine grow_drewN ?_ _))); have y0 := y'.c0; have y1 := y'.c1; have y2 := y'.f 0; have y3 := y'.f 1
  have hB : Below r w w' := b0.trans (hg.mono (Nat.le_of_lt y.lt))
  go_wp2
  refine bodyPost_ret (results_cell_row rfl _ _ r 26 _ (0, 0) _ rfl (zb_fin y' s' ad len cap) Tryz.underlying26 rfl (by kernel_rfl)) rfl ?_
  rw [show sg false n = n from rfl] at hz
  exact ⟨s', ad, len, cap, by simp, zb_zn y' hz _ _ _ _, hp.out.symm ▸ (hB.setCell (Nat.le_refl _) _).setCell (Nat.le_refl _) _, hl'⟩

end Go.Proofs.YtmlephkmbkiofaaGreatDoor

namespace Go.Proofs.YtmlephkmbkiofaaGreatDoor
open Go.RowKit

/-- the text of a number -/
def zText (z : Int) : ByteArray := if z < 0 then ⟨#[45]⟩ ++ ⟨(Lib.decDigits (-z).toNat).toArray⟩ else ⟨(Lib.decDigits z.toNat).toArray⟩

theorem dec_bound {w : World} {a : Option Addr} {l c : Nat} {n : Int} (h : Nm w a l c n) : (Lib.decDigits n.toNat).length ≤ 10 * (l + 1) := by
 obtain ⟨zs, h1, rfl⟩ := h
 refine dec_length_le _ _ ?_ (by omega)
 have hv := (vl_bd h1.2.2.2.1 zs.length).2
 have h0 := val_nonneg h1.2.2.2.1
 have hp : ∀ k, pw k ≤ ((10 ^ (10 * k) : Nat) : Int) := by
  intro k
  induction k with
  | zero => decide
  | succ k ih =>
   rw [pw_succ, show 10 * (k + 1) = 10 * k + 10 from by omega, Nat.pow_add]
   have : (0 : Int) ≤ ((10 ^ (10 * k) : Nat) : Int) := Int.natCast_nonneg _
   rw [Int.natCast_mul]
   have e : ((10 ^ 10 : Nat) : Int) = 10000000000 := by decide
   rw [e]
   omega
 have h2 := hp (l + 1)
 have h3 : pw zs.length ≤ pw (l + 1) := pw_mono (by have := h1.1; omega)
 have hvl : val zs < pw (l + 1) := Int.lt_of_lt_of_le hv h3
 omega

set_option maxRecDepth 100000 in
set_option maxHeartbeats 1600000 in
theorem ztext_n {s : Bool} {a : Option Addr} {l c : Nat} {z : Int} {w : World} (h : Zm w s a l c z) (hl : l ≤ 1099511627776) (htab : Tab w) :
  Calls Tryz.prog 26 #[.agg #[.bool s, .slice a l c]] w fun e w' => e = .returned (.string (zText z)) ∧ Below w.heap.size w w' := by
 obtain ⟨n, hn, rfl⟩ := h
 have h0 := hn.nonneg
 go_enter Tryz.func26, Tryz.ntmps26
 go_wp2_with fail
 have x := zb_new w s a l c
 have b0 := below_alloc w (.cells #[.bool s, .slice a l c] 26)
 replace hn := hn.below b0
 replace htab := htab.below b0
 generalize w.alloc (.cells #[.bool s, .slice a l c] 26) = wb at *
 generalize hp : w.heap.size = p at *
 replace hp := hide hp
 refine (zsign_n ⟨n, hn, rfl⟩ hl).mono ?_
 rintro e w1 ⟨rfl, k1⟩
 have u1 := (x.below k1).c1
 replace hn := hn.below k1
 replace htab := htab.below k1
 have hB : Below p w w1 := b0.trans (k1.mono (Nat.le_of_lt x.lt))
 by_cases hz : sg s n < 0
 ·rw [cmpI_lt hz]
  have hd := dec_bound hn
  have hn' : -sg s n = n := by cases s <;> simp [sg] at hz ⊢; omega
  go_wp2_with fail
  refine (text_n hn hl htab).mono ?_
  rintro e w2 ⟨rfl, k2⟩
  go_wp2
  go_ret
  exact ⟨by unfold zText; rw [if_pos hz, hn']; rfl, hp.out.symm ▸ hB.trans (k2.mono (Nat.le_trans (Nat.le_of_lt x.lt) k1.size))⟩
 ·have hc : ¬ cmpI (sg s n) 0 < 0 := by unfold cmpI; rw [if_neg hz]; split <;> decide
  have hn' : sg s n = n := by cases s <;> simp [sg] at hz ⊢; omega
  rw [hn'] at hz hc ⊢
  generalize cmpI n 0 = cc at *
  go_wp2_with fail
  refine (text_n hn hl htab).mono ?_
  rintro e w2 ⟨rfl, k2⟩
  go_wp2
  go_ret
  exact ⟨by unfold zText; rw [if_neg (by omega), hn']; rfl, hp.out.symm ▸ hB.trans (k2.mono (Nat.le_trans (Nat.le_of_lt x.lt) k1.size))⟩

/-- does a text begin with a minus? -/
def cutB (s : ByteArray) : Bool := decide (0 < s.size) && ((s.extract 0 1).toList == [45])

def cutR (s : ByteArray) : ByteArray := if cutB s then s.extract 1 s.size else s

set_option maxRecDepth 100000 in
set_option maxHeartbeats 1600000 in
theorem hasPrefix_n (s : ByteArray) (w : World) :
  Calls Tryz.prog 88 #[.string s, .string ⟨#[45]⟩] w fun e w' => e = .returned (.bool (cutB s)) ∧ w' = w := by
 go_enter Tryz.func88, Tryz.ntmps88
 by_cases hs : 0 < s.size
 ·go_wp2
  go_ret
  exact ⟨ret_bool (by unfold cutB; simp [hs]), rfl⟩
 ·go_wp2
  go_ret
  exact ⟨ret_bool (by unfold cutB; simp [hs]), rfl⟩

set_option maxRecDepth 100000 in
set_option maxHeartbeats 1600000 in
theorem cutPrefix_n (s : ByteArray) (w : World) :
  Calls Tryz.prog 45 #[.string s, .string ⟨#[45]⟩] w fun e w' => e = .returned (.tuple #[.string (cutR s), .bool (cutB s)]) ∧ w' = w := by
 have inner : ∀ u : World, Calls Tryz.prog 67 #[.string s, .string ⟨#[45]⟩] u fun e w' => e = .returned (.tuple #[.string (cutR s), .bool (cutB s)]) ∧ w' = u := by
  intro u
  go_enter Tryz.func67, Tryz.ntmps67
  go_wp2_with fail
  refine (hasPrefix_n s u).mono ?_
  rintro e w1 ⟨rfl, rfl⟩
  cases hc : cutB s
  ·have hr : cutR s = s := by unfold cutR; rw [hc]; rfl
   replace hr := hide hr
   go_wp2
   refine bodyPost_ret (results_tmp2 rfl _ _ _) rfl ?_
   exact ⟨by simp [unhide hr, hc], rfl⟩
  ·have hs : 0 < s.size := by
    unfold cutB at hc
    rcases Nat.eq_zero_or_pos s.size with h | h
    ·simp [h] at hc
    ·exact h
   have hr : cutR s = s.extract 1 s.size := by unfold cutR; rw [hc]; rfl
   replace hr := hide hr
   go_wp2
   refine bodyPost_ret (results_tmp2 rfl _ _ _) rfl ?_
   exact ⟨by simp [unhide hr, hc], rfl⟩
 go_enter Tryz.func45, Tryz.ntmps45
 go_wp2_with fail
 refine (inner w).mono ?_
 rintro e w1 ⟨rfl, rfl⟩
 go_wp2
 refine bodyPost_ret (results_tmp2 rfl _ _ _) rfl ?_
 exact ⟨rfl, rfl⟩

theorem results_ct {P : Program} {fn : Func} {p1 t3 : Tmp} {ty : TypeId} (h : fn.results = #[.cell p1 ty, .tmp t3]) (tmps : Array Value) (w : World) (g1 : Nat) (t : TypeId) (cs1 : Array Value) (fr : Nat × Nat) (d : TypeDesc)
  (hp1 : tmps.getD p1 undef = .pointer (some ⟨g1, 0, none⟩)) (hg1 : w.heap[g1]? = some (.cells cs1 t fr))
  (hu : P.underlying ty = some d) (hd : (match d with | .struct _ | .array _ _ => true | _ => false) = true) (hi1 : (P.info? ty).map (·.size) = some cs1.size) :
  (results fn tmps).run P w = .ok (.tuple #[.agg cs1, tmps.getD t3 undef]) w := by
 have hp1' : tmps[p1]?.getD undef = .pointer (some ⟨g1, 0, none⟩) := by simpa using hp1
 simp [results, h, hp1', asAddr, run_loadVar_row w g1 t ty cs1 fr d hg1 hu hd hi1]

-- a text of a number below 0 is read
set_option maxRecDepth 100000 in
set_option maxHeartbeats 1600000 in
theorem zparse_neg (s : ByteArray) (w : World) (hs : s.size ≤ 1099511627776) (hc : cutB s = true) (hok : okText (s.extract 1 s.size)) (h0 : dr (s.extract 1 s.size) 0 (s.extract 1 s.size).size ≠ 0) :
  Calls Tryz.prog 25 #[.string s] w fun e w' => ∃ s' ad len cap, e = .returned (.tuple #[.agg #[.bool s', .slice ad len cap], .int .i64 0]) ∧ Zn w' s' ad len cap (-(dr (s.extract 1 s.size) 0 (s.extract 1 s.size).size : Int)) ∧ Below w.heap.size w w' ∧ len ≤ s.size := by
 have hsz : (s.extract 1 s.size).size ≤ s.size := by rw [ByteArray.size_extract]; omega
 go_enter Tryz.func25, Tryz.ntmps25
 go_wp2_with fail
 have y := zb_new w false none 0 0
 have b0 := below_alloc w (.cells #[.bool false, .slice none 0 0] 26)
 generalize w.alloc (.cells #[.bool false, .slice none 0 0] 26) = wb at *
 generalize hp : w.heap.size = r at *
 replace hp := hide hp
 refine (cutPrefix_n s wb).mono ?_
 rintro e w1 ⟨rfl, rfl⟩
 rw [hc, show cutR s = s.extract 1 s.size from by unfold cutR; rw [hc]; rfl]
 go_wp2_with fail
 refine (parse_n _ _ (by omega) hok).mono ?_
 rintro e w2 ⟨ad, len, cap, rfl, hcn, k2, hl'⟩
 have hlen := hcn.len
 have hlen0 : 0 < len := Nat.pos_of_ne_zero (fun h => h0 (by have := hlen.2 h; omega))
 go_wp2_with fail
 refine (stand_n hcn).mono ?_
 rintro e w' ⟨s', rfl, hz, hg⟩
 have y' : ZB w' r false none 0 0 := ZB.below y (grow_step hg k2)
 have y0 := y'.c0
 have y1 := y'.c1
 have y2 := y'.f 0
 have y3 := y'.f 1
 have hB : Below r w w' := b0.trans ((grow_step hg k2).mono (Nat.le_of_lt y.lt))
 go_wp2
 refine bodyPost_ret (results_ct rfl _ _ r 26 _ (0, 0) _ rfl (zb_fin y' s' ad len cap) Tryz.underlying26 rfl (by kernel_rfl)) rfl ?_
 exact ⟨s', ad, len, cap, by simp, zb_zn y' hz _ _ _ _, hp.out.symm ▸ (hB.setCell (Nat.le_refl _) _).setCell (Nat.le_refl _) _, by omega⟩

end Go.Proofs.YtmlephkmbkiofaaGreatDoor

namespace Go.Proofs.YtmlephkmbkiofaaGreatDoor
open Go.RowKit

theorem fd_le {a b q r q' r' : Int} (h : FD a b q r) (h' : FD a b q' r') : q ≤ q' := by
 obtain ⟨e, c⟩ := h
 obtain ⟨e', c'⟩ := h'
 by_cases hq : q ≤ q'
 ·exact hq
 ·exfalso
  have h1 : q' + 1 ≤ q := by omega
  rcases c with ⟨c1, c2⟩ | ⟨c1, c2⟩
  ·have hb : 0 ≤ b := by omega
   have h2 := Int.mul_le_mul_of_nonneg_right h1 hb
   rw [Int.add_mul, Int.one_mul] at h2
   rcases c' with ⟨d1, d2⟩ | ⟨d1, d2⟩ <;> omega
  ·have hb : b ≤ 0 := by omega
   have h2 := Int.mul_le_mul_of_nonpos_right h1 hb
   rw [Int.add_mul, Int.one_mul] at h2
   rcases c' with ⟨d1, d2⟩ | ⟨d1, d2⟩ <;> omega
theorem fd_unique {a b q r q' r' : Int} (h : FD a b q r) (h' : FD a b q' r') : q = q' ∧ r = r' := by
 have e := Int.le_antisymm (fd_le h h') (fd_le h' h)
 subst e
 exact ⟨rfl, by have := h.1; have := h'.1; omega⟩

def minusS : ByteArray := ⟨#[45, 52, 50, 57, 52, 57, 54, 55, 50, 57, 54]⟩
theorem minus_cut : cutB minusS = true := by kernel_rfl
theorem minus_ok : okText (minusS.extract 1 minusS.size) := by
 refine ⟨by decide, by decide, ?_⟩
 have : ∀ i, i < 10 → 48 ≤ bt (minusS.extract 1 minusS.size) i ∧ bt (minusS.extract 1 minusS.size) i ≤ 57 := by decide
 exact this
theorem minus_dr : dr (minusS.extract 1 minusS.size) 0 (minusS.extract 1 minusS.size).size = 4294967296 := by decide
theorem awake_text : zText 12884901888 = ⟨#[49, 50, 56, 56, 52, 57, 48, 49, 56, 56, 56]⟩ := by
 have h := dec_pad 9 12 884901888 (by decide) (by decide)
 rw [show 12 * 10 ^ 9 + 884901888 = 12884901888 from rfl, dec_step 12 (by decide), dec_small (12 / 10) (by decide)] at h
 unfold zText
 rw [if_neg (by decide), show (12884901888 : Int).toNat = 12884901888 from by decide, h]
 decide

set_option maxRecDepth 100000 in
set_option maxHeartbeats 1600000 in
theorem awake_any (w : World) (htab : Tab w) :
  Calls Tryz.prog 5 #[] w fun e w' => e = .returned (.bool true) ∧ Below w.heap.size w w' := by
 go_enter Tryz.func5, Tryz.ntmps5
 go_wp2_with fail
 refine (zof_n (-7) (by decide) (by decide) w).mono ?_
 rintro e w1 ⟨s1, a1, l1, c1, rfl, z1, k1, b1⟩
 go_wp2_with fail
 refine (zof_n 2 (by decide) (by decide) w1).mono ?_
 rintro e w2 ⟨s2, a2, l2, c2, rfl, z2, k2, b2⟩
 go_wp2_with fail
 refine (zdivmod_n (z1.below k2).zm z2.zm (by omega) (by omega) (by decide)).mono ?_
 rintro e w3 ⟨sq, aq, lq, cq, sr, ar, lr, cr, qv, rv, rfl, zq, zr, hfd, k3, bq, br⟩
 obtain ⟨rfl, rfl⟩ := fd_unique hfd (show FD (-7) 2 (-4) 1 from ⟨by decide, Or.inl (by decide)⟩)
 replace k3 := grow_step k3 (grow_step k2 k1)
 replace htab := htab.below k3
 clear hfd z1 z2 k1 k2
 go_wp2_with fail
 have xq := (zb_new w3 sq aq lq cq).below (below_alloc _ (.cells #[.bool sr, .slice ar lr cr] 26))
 have xr := zb_new (w3.alloc (.cells #[.bool sq, .slice aq lq cq] 26)) sr ar lr cr
 have b0 : Below w3.heap.size w3 ((w3.alloc (.cells #[.bool sq, .slice aq lq cq] 26)).alloc (.cells #[.bool sr, .slice ar lr cr] 26)) := below_alloc' (below_alloc _ _) _
 rw [show (w3.alloc (.cells #[.bool sq, .slice aq lq cq] 26)).heap.size = w3.heap.size + 1 from by simp] at xr
 generalize (w3.alloc (.cells #[.bool sq, .slice aq lq cq] 26)).alloc (.cells #[.bool sr, .slice ar lr cr] 26) = w4 at *
 generalize w3.heap.size + 1 = pr at *
 replace zq := zq.below b0
 replace zr := zr.below b0
 replace htab := htab.below b0
 replace k3 := grow_step b0 k3
 clear b0
 generalize w3.heap.size = pq at *
 refine (zparse_neg minusS w4 (by decide) minus_cut minus_ok (by rw [minus_dr]; decide)).mono ?_
 rintro e w5 ⟨sn, an, ln, cn, rfl, zn, k5, bn⟩
 rw [minus_dr] at zn
 replace bn : ln ≤ 11 := bn
 replace xq := xq.below k5
 replace xr := xr.below k5
 replace zq := zq.below k5
 replace zr := zr.below k5
 replace htab := htab.below k5
 replace k5 := grow_step k5 k3
 clear k3
 go_wp2_with fail
 have xn := zb_new w5 sn an ln cn
 have b0 := below_alloc w5 (.cells #[.bool sn, .slice an ln cn] 26)
 generalize w5.alloc (.cells #[.bool sn, .slice an ln cn] 26) = wb at *
 replace xq := xq.below b0
 replace xr := xr.below b0
 replace zq := zq.below b0
 replace zr := zr.below b0
 replace zn := zn.below b0
 replace htab := htab.below b0
 replace k5 := grow_step b0 k5
 clear b0
 generalize w5.heap.size = pn at *
 go_region_held3 (fun w' => w'.cell? ⟨pn, 0, none⟩ = some (.bool sn) ∧ w'.cell? ⟨pn, 1, none⟩ = some (.slice an ln cn) ∧ Below wb.heap.size wb w')
  ((refine zk1 xn ?_; (repeat' (first | with_reducible exact Below.refl _ _ | with_reducible assumption | with_reducible refine grow_step (by with_reducible assumption) ?_ | with_reducible refine grow_drew ?_ | with_reducible refine grow_alloc ?_ _ | with_reducible refine grow_drewN ?_ _))))
  (first | (go_at_call 22; refine (zof_n (-3) (by decide) (by decide) _).mono ?_; rintro e w' ⟨so, ao, lo, co, rfl, zo, hg, hlo⟩) | (go_at_call 19; refine (zmul_n (Zn.zm (Zn.below zo (by (repeat' (first | with_reducible exact Below.refl _ _ | with_reducible assumption | with_reducible refine grow_step (by with_reducible assumption) ?_ | with_reducible refine grow_drew ?_ | with_reducible refine grow_alloc ?_ _ | with_reducible refine grow_drewN ?_ _))))) (Zn.zm (Zn.below zn (by (repeat' (first | with_reducible exact Below.refl _ _ | with_reducible assumption | with_reducible refine grow_step (by with_reducible assumption) ?_ | with_reducible refine grow_drew ?_ | with_reducible refine grow_alloc ?_ _ | with_reducible refine grow_drewN ?_ _))))) (by omega) (by omega)).mono ?_; rintro e w' ⟨sm, am, lm, cm, rfl, zm, hg, hlm⟩) | (go_at_call 26; refine (ztext_n (Zn.zm (Zn.below zm (by (repeat' (first | with_reducible exact Below.refl _ _ | with_reducible assumption | with_reducible refine grow_step (by with_reducible assumption) ?_ | with_reducible refine grow_drew ?_ | with_reducible refine grow_alloc ?_ _ | with_reducible refine grow_drewN ?_ _))))) (by omega) (Tab.below htab (by (repeat' (first | with_reducible exact Below.refl _ _ | with_reducible assumption | with_reducible refine grow_step (by with_reducible assumption) ?_ | with_reducible refine grow_drew ?_ | with_reducible refine grow_alloc ?_ _ | with_reducible refine grow_drewN ?_ _))))).mono ?_; rintro e w' ⟨rfl, hg⟩))
 rw [awake_text]
 rename_i hH
 have kw := hH.2.2
 clear hH hg
 go_wp2_with fail
 go_region_held3 (fun w' => w'.cell? ⟨pq, 0, none⟩ = some (.bool sq) ∧ w'.cell? ⟨pq, 1, none⟩ = some (.slice aq lq cq) ∧ w'.cell? ⟨pr, 0, none⟩ = some (.bool sr) ∧ w'.cell? ⟨pr, 1, none⟩ = some (.slice ar lr cr) ∧ Below wb.heap.size wb w')
  ((refine zk2 xq xr ?_; (repeat' (first | with_reducible exact Below.refl _ _ | with_reducible assumption | with_reducible refine grow_step (by with_reducible assumption) ?_ | with_reducible refine grow_drew ?_ | with_reducible refine grow_alloc ?_ _ | with_reducible refine grow_drewN ?_ _))))
  (first | (go_at_call 24; with_reducible refine (rof_n (-4) (by decide) (by decide) _).mono ?_; rintro e w' ⟨s4, a4, l4, c4, rfl, z4, hg, hl4⟩) | (go_at_call 24; with_reducible refine (rof_n 1 (by decide) (by decide) _).mono ?_; rintro e w' ⟨s5, a5, l5, c5, rfl, z5, hg, hl5⟩) | (go_at_call 10; with_reducible refine (is_t (Zn.below zq (by (repeat' (first | with_reducible exact Below.refl _ _ | with_reducible assumption | with_reducible refine grow_step (by with_reducible assumption) ?_ | with_reducible refine grow_drew ?_ | with_reducible refine grow_alloc ?_ _ | with_reducible refine grow_drewN ?_ _)))) (Zn.zm (Zn.below z4 (by (repeat' (first | with_reducible exact Below.refl _ _ | with_reducible assumption | with_reducible refine grow_step (by with_reducible assumption) ?_ | with_reducible refine grow_drew ?_ | with_reducible refine grow_alloc ?_ _ | with_reducible refine grow_drewN ?_ _))))) (by omega) (by omega) rfl).mono ?_; rintro e w' ⟨rfl, hg⟩) | (go_at_call 10; with_reducible refine (is_t (Zn.below zr (by (repeat' (first | with_reducible exact Below.refl _ _ | with_reducible assumption | with_reducible refine grow_step (by with_reducible assumption) ?_ | with_reducible refine grow_drew ?_ | with_reducible refine grow_alloc ?_ _ | with_reducible refine grow_drewN ?_ _)))) (Zn.zm (Zn.below z5 (by (repeat' (first | with_reducible exact Below.refl _ _ | with_reducible assumption | with_reducible refine grow_step (by with_reducible assumption) ?_ | with_reducible refine grow_drew ?_ | with_reducible refine grow_alloc ?_ _ | with_reducible refine grow_drewN ?_ _))))) (by omega) (by omega) rfl).mono ?_; rintro e w' ⟨rfl, hg⟩))
 rename_i hH
 have kw' := hH.2.2.2.2
 go_wp2_with fail
 go_ret
 exact ⟨by simp, grow_step kw' k5⟩

end Go.Proofs.YtmlephkmbkiofaaGreatDoor

namespace Go.Proofs.YtmlephkmbkiofaaGreatDoor
open Go.RowKit

theorem cmpI_bd (m n : Int) : -1 ≤ cmpI m n ∧ cmpI m n ≤ 1 := by unfold cmpI; omega
theorem cmpI_ne {b : Int} (hb : b ≠ 0) : cmpI b 0 ≠ 0 := by unfold cmpI; omega

end Go.Proofs.YtmlephkmbkiofaaGreatDoor

namespace Go.Proofs.YtmlephkmbkiofaaGreatDoor
open Go.RowKit

theorem zm_of {s : Bool} {a : Option Addr} {l c : Nat} {n : Int} {w : World} (h : Nm w a l c n) : Zm w s a l c (sg s n) := ⟨n, h, rfl⟩
theorem radd_n {a1 a2 : Option Addr} {l1 c1 l2 c2 : Nat} {m n : Int} {w : World} (h1 : Nm w a1 l1 c1 m) (h2 : Nm w a2 l2 c2 n) (hl1 : l1 ≤ 17179869184) (hl2 : l2 ≤ 17179869184) :
  Calls Tryz.prog 79 #[.slice a1 l1 c1, .slice a2 l2 c2] w fun e w' => ∃ ad len cap, e = .returned (.slice ad len cap) ∧ Cn w' ad len cap (m + n) ∧ Below w.heap.size w w' ∧ len ≤ max l1 l2 + 1 := by
 obtain ⟨xs, h1, rfl⟩ := h1
 obtain ⟨ys, h2, rfl⟩ := h2
 refine (refadd_any h1 h2 (by omega) (by omega)).mono ?_
 rintro e w' ⟨ad, len, cap, zs, rfl, ho, hc, hv, hl⟩
 exact ⟨ad, len, cap, rfl, out_cn ho hc hv, ho.1, hl⟩
theorem rsub_n {a1 a2 : Option Addr} {l1 c1 l2 c2 : Nat} {m n : Int} {w : World} (h1 : Nm w a1 l1 c1 m) (h2 : Nm w a2 l2 c2 n) (hl1 : l1 ≤ 17179869184) (hge : n ≤ m) :
  Calls Tryz.prog 57 #[.slice a1 l1 c1, .slice a2 l2 c2] w fun e w' => ∃ ad len cap, e = .returned (.slice ad len cap) ∧ Cn w' ad len cap (m - n) ∧ Below w.heap.size w w' ∧ len ≤ l1 := by
 obtain ⟨xs, h1, rfl⟩ := h1
 obtain ⟨ys, h2, rfl⟩ := h2
 refine (refsub_any h1 h2 (by omega) hge).mono ?_
 rintro e w' ⟨ad, len, cap, zs, rfl, ho, hc, hv, hl⟩
 exact ⟨ad, len, cap, rfl, out_cn ho hc hv, ho.1, hl⟩
theorem rmul_n {a1 a2 : Option Addr} {l1 c1 l2 c2 : Nat} {m n : Int} {w : World} (h1 : Nm w a1 l1 c1 m) (h2 : Nm w a2 l2 c2 n) (hl1 : l1 ≤ 17179869184) (hl2 : l2 ≤ 17179869184) :
  Calls Tryz.prog 59 #[.slice a1 l1 c1, .slice a2 l2 c2] w fun e w' => ∃ ad len cap, e = .returned (.slice ad len cap) ∧ Cn w' ad len cap (m * n) ∧ Below w.heap.size w w' ∧ len ≤ l1 + l2 := by
 obtain ⟨xs, h1, rfl⟩ := h1
 obtain ⟨ys, h2, rfl⟩ := h2
 refine (refmul_any h1 h2 hl1 hl2).mono ?_
 rintro e w' ⟨ad, len, cap, zs, rfl, ho, hc, hv, hl⟩
 exact ⟨ad, len, cap, rfl, out_cn ho hc hv, ho.1, hl⟩

set_option maxRecDepth 100000 in
set_option maxHeartbeats 1600000 in
theorem rneg_n {s : Bool} {a : Option Addr} {l c : Nat} {z : Int} {w : World} (h : Zm w s a l c z) (hl : l ≤ 1099511627776) :
  Calls Tryz.prog 87 #[.agg #[.bool s, .slice a l c]] w fun e w' => ∃ s' ad len cap, e = .returned (.agg #[.bool s', .slice ad len cap]) ∧ Zn w' s' ad len cap (-z) ∧ Below w.heap.size w w' ∧ len ≤ l := by
 obtain ⟨n, hn, rfl⟩ := h
 rw [← sg_not]
 go_enter Tryz.func87, Tryz.ntmps87
 go_wp2_with fail
 have x := (zb_new w s a l c).below (below_alloc _ (.cells #[.bool false, .slice none 0 0] 26))
 have y := zb_new (w.alloc (.cells #[.bool s, .slice a l c] 26)) false none 0 0
 have b0 : Below w.heap.size w ((w.alloc (.cells #[.bool s, .slice a l c] 26)).alloc (.cells #[.bool false, .slice none 0 0] 26)) := below_alloc' (below_alloc _ _) _
 rw [show (w.alloc (.cells #[.bool s, .slice a l c] 26)).heap.size = w.heap.size + 1 from by simp] at y
 generalize (w.alloc (.cells #[.bool s, .slice a l c] 26)).alloc (.cells #[.bool false, .slice none 0 0] 26) = wb at *
 have hpr : w.heap.size < w.heap.size + 1 := by omega
 replace hn := hn.below b0
 generalize hp : w.heap.size = p at *
 replace hp := hide hp
 generalize p + 1 = r at *
 have hrb := Nat.le_of_lt y.lt
 refine (rnorm_n ⟨n, hn, rfl⟩ hl).mono ?_
 rintro e w' ⟨s', ad, len, cap, rfl, hz, hg, hl'⟩
 have y' : ZB w' r false none 0 0 := ZB.below y (by (repeat' (first | with_reducible exact Below.refl _ _ | with_reducible assumption | with_reducible refine grow_step (by with_reducible assumption) ?_ | with_reducible refine grow_drew ?_ | with_reducible refine grow_alloc ?_ _ | with_reducible refine grow_drewN ?_ _))); have y0 := y'.c0; have y1 := y'.c1; have y2 := y'.f 0; have y3 := y'.f 1
 have hB : Below p w w' := b0.trans (hg.mono (Nat.le_of_lt (Nat.lt_of_lt_of_le hpr hrb)))
 go_wp2
 refine bodyPost_ret (results_cell_row rfl _ _ r 26 _ (0, 0) _ rfl (zb_fin y' s' ad len cap) Tryz.underlying26 rfl (by kernel_rfl)) rfl ?_
 exact ⟨s', ad, len, cap, by simp, zb_zn y' hz _ _ _ _, hp.out.symm ▸ (hB.setCell (Nat.le_of_lt hpr) _).setCell (Nat.le_of_lt hpr) _, hl'⟩

set_option maxRecDepth 100000 in
set_option maxHeartbeats 1600000 in
theorem rabs_n {s : Bool} {a : Option Addr} {l c : Nat} {z : Int} {w : World} (h : Zm w s a l c z) (hl : l ≤ 1099511627776) :
  Calls Tryz.prog 34 #[.agg #[.bool s, .slice a l c]] w fun e w' => ∃ s' ad len cap, e = .returned (.agg #[.bool s', .slice ad len cap]) ∧ Zn w' s' ad len cap ((z.natAbs : Int)) ∧ Below w.heap.size w w' ∧ len ≤ l := by
 obtain ⟨n, hn, rfl⟩ := h
 rw [← sg_abs (s := s) hn.nonneg]
 go_enter Tryz.func34, Tryz.ntmps34
 go_wp2_with fail
 have x := (zb_new w s a l c).below (below_alloc _ (.cells #[.bool false, .slice none 0 0] 26))
 have y := zb_new (w.alloc (.cells #[.bool s, .slice a l c] 26)) false none 0 0
 have b0 : Below w.heap.size w ((w.alloc (.cells #[.bool s, .slice a l c] 26)).alloc (.cells #[.bool false, .slice none 0 0] 26)) := below_alloc' (below_alloc _ _) _
 rw [show (w.alloc (.cells #[.bool s, .slice a l c] 26)).heap.size = w.heap.size + 1 from by simp] at y
 generalize (w.alloc (.cells #[.bool s, .slice a l c] 26)).alloc (.cells #[.bool false, .slice none 0 0] 26) = wb at *
 have hpr : w.heap.size < w.heap.size + 1 := by omega
 replace hn := hn.below b0
 generalize hp : w.heap.size = p at *
 replace hp := hide hp
 generalize p + 1 = r at *
 have hrb := Nat.le_of_lt y.lt
 refine (rnorm_n ⟨n, hn, rfl⟩ hl).mono ?_
 rintro e w' ⟨s', ad, len, cap, rfl, hz, hg, hl'⟩
 have y' : ZB w' r false none 0 0 := ZB.below y (by (repeat' (first | with_reducible exact Below.refl _ _ | with_reducible assumption | with_reducible refine grow_step (by with_reducible assumption) ?_ | with_reducible refine grow_drew ?_ | with_reducible refine grow_alloc ?_ _ | with_reducible refine grow_drewN ?_ _))); have y0 := y'.c0; have y1 := y'.c1; have y2 := y'.f 0; have y3 := y'.f 1
 have hB : Below p w w' := b0.trans (hg.mono (Nat.le_of_lt (Nat.lt_of_lt_of_le hpr hrb)))
 go_wp2
 refine bodyPost_ret (results_cell_row rfl _ _ r 26 _ (0, 0) _ rfl (zb_fin y' s' ad len cap) Tryz.underlying26 rfl (by kernel_rfl)) rfl ?_
 exact ⟨s', ad, len, cap, by simp, zb_zn y' hz _ _ _ _, hp.out.symm ▸ (hB.setCell (Nat.le_of_lt hpr) _).setCell (Nat.le_of_lt hpr) _, hl'⟩

set_option maxRecDepth 100000 in
set_option maxHeartbeats 1600000 in
theorem rmul2_n {s1 s2 : Bool} {a1 a2 : Option Addr} {l1 c1 l2 c2 : Nat} {z1 z2 : Int} {w : World} (h1 : Zm w s1 a1 l1 c1 z1) (h2 : Zm w s2 a2 l2 c2 z2) (hl1 : l1 ≤ 17179869184) (hl2 : l2 ≤ 17179869184) :
  Calls Tryz.prog 35 #[.agg #[.bool s1, .slice a1 l1 c1], .agg #[.bool s2, .slice a2 l2 c2]] w fun e w' => ∃ s' ad len cap, e = .returned (.agg #[.bool s', .slice ad len cap]) ∧ Zn w' s' ad len cap (z1 * z2) ∧ Below w.heap.size w w' ∧ len ≤ l1 + l2 := by
 obtain ⟨m, hm, rfl⟩ := h1
 obtain ⟨n, hn, rfl⟩ := h2
 rw [← sg_mul]
 go_enter Tryz.func35, Tryz.ntmps35
 go_wp2_with fail
 have x := (zb_new w s1 a1 l1 c1).below (below_alloc' (below_alloc _ (.cells #[.bool s2, .slice a2 l2 c2] 26)) (.cells #[.bool false, .slice none 0 0] 26))
 have x2 := (zb_new (w.alloc (.cells #[.bool s1, .slice a1 l1 c1] 26)) s2 a2 l2 c2).below (below_alloc _ (.cells #[.bool false, .slice none 0 0] 26))
 have y := zb_new ((w.alloc (.cells #[.bool s1, .slice a1 l1 c1] 26)).alloc (.cells #[.bool s2, .slice a2 l2 c2] 26)) false none 0 0
 have b0 : Below w.heap.size w (((w.alloc (.cells #[.bool s1, .slice a1 l1 c1] 26)).alloc (.cells #[.bool s2, .slice a2 l2 c2] 26)).alloc (.cells #[.bool false, .slice none 0 0] 26)) := below_alloc' (below_alloc' (below_alloc _ _) _) _
 rw [show ((w.alloc (.cells #[.bool s1, .slice a1 l1 c1] 26)).alloc (.cells #[.bool s2, .slice a2 l2 c2] 26)).heap.size = w.heap.size + 2 from by simp] at y
 rw [show (w.alloc (.cells #[.bool s1, .slice a1 l1 c1] 26)).heap.size = w.heap.size + 1 from by simp] at x2
 generalize ((w.alloc (.cells #[.bool s1, .slice a1 l1 c1] 26)).alloc (.cells #[.bool s2, .slice a2 l2 c2] 26)).alloc (.cells #[.bool false, .slice none 0 0] 26) = wb at *
 have hpr : w.heap.size < w.heap.size + 2 := by omega
 have hqr : w.heap.size + 1 < w.heap.size + 2 := by omega
 have hpq : w.heap.size < w.heap.size + 1 := by omega
 replace hm := hm.below b0
 replace hn := hn.below b0
 generalize hp : w.heap.size = p at *
 replace hp := hide hp
 generalize p + 2 = r at *
 generalize p + 1 = q at *
 have hrb := Nat.le_of_lt y.lt
 go_region_held3 (fun w' => w'.cell? ⟨p, 0, none⟩ = some (.bool s1) ∧ w'.cell? ⟨p, 1, none⟩ = some (.slice a1 l1 c1) ∧ w'.cell? ⟨q, 0, none⟩ = some (.bool s2) ∧ w'.cell? ⟨q, 1, none⟩ = some (.slice a2 l2 c2) ∧ Below r wb w')
  ((refine zs2 x x2 hpr hqr ?_; first | (refine Below.mono ?_ hrb; focus ((repeat' (first | with_reducible exact Below.refl _ _ | with_reducible assumption | with_reducible refine grow_step (by with_reducible assumption) ?_ | with_reducible refine grow_drew ?_ | with_reducible refine grow_alloc ?_ _ | with_reducible refine grow_drewN ?_ _)); done)) | (refine ((Below.mono ?_ hrb).setCell (Nat.le_refl _) _).setCell (Nat.le_refl _) _; focus ((repeat' (first | with_reducible exact Below.refl _ _ | with_reducible assumption | with_reducible refine grow_step (by with_reducible assumption) ?_ | with_reducible refine grow_drew ?_ | with_reducible refine grow_alloc ?_ _ | with_reducible refine grow_drewN ?_ _)); done))))
  (first | (go_at_call 59; with_reducible refine (rmul_n (Nm.below hm (by (repeat' (first | with_reducible exact Below.refl _ _ | with_reducible assumption | with_reducible refine grow_step (by with_reducible assumption) ?_ | with_reducible refine grow_drew ?_ | with_reducible refine grow_alloc ?_ _ | with_reducible refine grow_drewN ?_ _)))) (Nm.below hn (by (repeat' (first | with_reducible exact Below.refl _ _ | with_reducible assumption | with_reducible refine grow_step (by with_reducible assumption) ?_ | with_reducible refine grow_drew ?_ | with_reducible refine grow_alloc ?_ _ | with_reducible refine grow_drewN ?_ _)))) (by omega) (by omega)).mono ?_; rintro e w' ⟨ad, len, cap, rfl, hc, hg, hl'⟩) | (go_at_call 33; with_reducible refine (rnorm_n (zm_of (Nm.below (Cn.nm hc) (by (repeat' (first | with_reducible exact Below.refl _ _ | with_reducible assumption | with_reducible refine grow_step (by with_reducible assumption) ?_ | with_reducible refine grow_drew ?_ | with_reducible refine grow_alloc ?_ _ | with_reducible refine grow_drewN ?_ _))))) (by omega)).mono ?_; rintro e w' ⟨s', ad', len', cap', rfl, hz, hg, hl2'⟩; have y' : ZB w' r false none 0 0 := ZB.below y (by (repeat' (first | with_reducible exact Below.refl _ _ | with_reducible assumption | with_reducible refine grow_step (by with_reducible assumption) ?_ | with_reducible refine grow_drew ?_ | with_reducible refine grow_alloc ?_ _ | with_reducible refine grow_drewN ?_ _))); have y0 := y'.c0; have y1 := y'.c1; have y2 := y'.f 0; have y3 := y'.f 1))
 go_wp2
 rename_i hH
 refine bodyPost_ret (results_cell_row rfl _ _ r 26 _ (0, 0) _ rfl (zb_fin y' s' ad' len' cap') Tryz.underlying26 rfl (by kernel_rfl)) rfl ?_
 exact ⟨s', ad', len', cap', by simp, zb_zn y' hz _ _ _ _, hp.out.symm ▸ (b0.trans (hH.2.2.2.2.mono (Nat.le_of_lt hpr))), by omega⟩

set_option maxRecDepth 100000 in
set_option maxHeartbeats 1600000 in
theorem radd2_n {s1 s2 : Bool} {a1 a2 : Option Addr} {l1 c1 l2 c2 : Nat} {z1 z2 : Int} {w : World} (h1 : Zm w s1 a1 l1 c1 z1) (h2 : Zm w s2 a2 l2 c2 z2) (hl1 : l1 ≤ 17179869184) (hl2 : l2 ≤ 17179869184) :
  Calls Tryz.prog 86 #[.agg #[.bool s1, .slice a1 l1 c1], .agg #[.bool s2, .slice a2 l2 c2]] w fun e w' => ∃ s' ad len cap, e = .returned (.agg #[.bool s', .slice ad len cap]) ∧ Zn w' s' ad len cap (z1 + z2) ∧ Below w.heap.size w w' ∧ len ≤ max l1 l2 + 1 := by
 obtain ⟨m, hm, rfl⟩ := h1
 obtain ⟨n, hn, rfl⟩ := h2
 by_cases hs : s1 = s2
 ·have hs' : (s1 == s2) = true := by simp [hs]
  rw [show sg s1 m + sg s2 n = sg s1 (m + n) from by rw [← hs, sg_add]]
  clear hs
  go_enter Tryz.func86, Tryz.ntmps86
  go_wp2_with fail
  have x := (zb_new w s1 a1 l1 c1).below (below_alloc' (below_alloc _ (.cells #[.bool s2, .slice a2 l2 c2] 26)) (.cells #[.bool false, .slice none 0 0] 26))
  have x2 := (zb_new (w.alloc (.cells #[.bool s1, .slice a1 l1 c1] 26)) s2 a2 l2 c2).below (below_alloc _ (.cells #[.bool false, .slice none 0 0] 26))
  have y := zb_new ((w.alloc (.cells #[.bool s1, .slice a1 l1 c1] 26)).alloc (.cells #[.bool s2, .slice a2 l2 c2] 26)) false none 0 0
  have b0 : Below w.heap.size w (((w.alloc (.cells #[.bool s1, .slice a1 l1 c1] 26)).alloc (.cells #[.bool s2, .slice a2 l2 c2] 26)).alloc (.cells #[.bool false, .slice none 0 0] 26)) := below_alloc' (below_alloc' (below_alloc _ _) _) _
  rw [show ((w.alloc (.cells #[.bool s1, .slice a1 l1 c1] 26)).alloc (.cells #[.bool s2, .slice a2 l2 c2] 26)).heap.size = w.heap.size + 2 from by simp] at y
  rw [show (w.alloc (.cells #[.bool s1, .slice a1 l1 c1] 26)).heap.size = w.heap.size + 1 from by simp] at x2
  generalize ((w.alloc (.cells #[.bool s1, .slice a1 l1 c1] 26)).alloc (.cells #[.bool s2, .slice a2 l2 c2] 26)).alloc (.cells #[.bool false, .slice none 0 0] 26) = wb at *
  have hpr : w.heap.size < w.heap.size + 2 := by omega
  have hqr : w.heap.size + 1 < w.heap.size + 2 := by omega
  have hpq : w.heap.size < w.heap.size + 1 := by omega
  replace hm := hm.below b0
  replace hn := hn.below b0
  generalize hp : w.heap.size = p at *
  replace hp := hide hp
  generalize p + 2 = r at *
  generalize p + 1 = q at *
  have hrb := Nat.le_of_lt y.lt
  go_region_held3 (fun w' => w'.cell? ⟨p, 0, none⟩ = some (.bool s1) ∧ w'.cell? ⟨p, 1, none⟩ = some (.slice a1 l1 c1) ∧ w'.cell? ⟨q, 0, none⟩ = some (.bool s2) ∧ w'.cell? ⟨q, 1, none⟩ = some (.slice a2 l2 c2) ∧ Below r wb w')
   ((refine zs2 x x2 hpr hqr ?_; first | (refine Below.mono ?_ hrb; focus ((repeat' (first | with_reducible exact Below.refl _ _ | with_reducible assumption | with_reducible refine grow_step (by with_reducible assumption) ?_ | with_reducible refine grow_drew ?_ | with_reducible refine grow_alloc ?_ _ | with_reducible refine grow_drewN ?_ _)); done)) | (refine ((Below.mono ?_ hrb).setCell (Nat.le_refl _) _).setCell (Nat.le_refl _) _; focus ((repeat' (first | with_reducible exact Below.refl _ _ | with_reducible assumption | with_reducible refine grow_step (by with_reducible assumption) ?_ | with_reducible refine grow_drew ?_ | with_reducible refine grow_alloc ?_ _ | with_reducible refine grow_drewN ?_ _)); done))))
   (first | (go_at_call 79; with_reducible refine (radd_n (Nm.below hm (by (repeat' (first | with_reducible exact Below.refl _ _ | with_reducible assumption | with_reducible refine grow_step (by with_reducible assumption) ?_ | with_reducible refine grow_drew ?_ | with_reducible refine grow_alloc ?_ _ | with_reducible refine grow_drewN ?_ _)))) (Nm.below hn (by (repeat' (first | with_reducible exact Below.refl _ _ | with_reducible assumption | with_reducible refine grow_step (by with_reducible assumption) ?_ | with_reducible refine grow_drew ?_ | with_reducible refine grow_alloc ?_ _ | with_reducible refine grow_drewN ?_ _)))) (by omega) (by omega)).mono ?_; rintro e w' ⟨ad, len, cap, rfl, hc, hg, hl'⟩) | (go_at_call 33; with_reducible refine (rnorm_n (zm_of (Nm.below (Cn.nm hc) (by (repeat' (first | with_reducible exact Below.refl _ _ | with_reducible assumption | with_reducible refine grow_step (by with_reducible assumption) ?_ | with_reducible refine grow_drew ?_ | with_reducible refine grow_alloc ?_ _ | with_reducible refine grow_drewN ?_ _))))) (by omega)).mono ?_; rintro e w' ⟨s', ad', len', cap', rfl, hz, hg, hl2'⟩; have y' : ZB w' r false none 0 0 := ZB.below y (by (repeat' (first | with_reducible exact Below.refl _ _ | with_reducible assumption | with_reducible refine grow_step (by with_reducible assumption) ?_ | with_reducible refine grow_drew ?_ | with_reducible refine grow_alloc ?_ _ | with_reducible refine grow_drewN ?_ _))); have y0 := y'.c0; have y1 := y'.c1; have y2 := y'.f 0; have y3 := y'.f 1))
  go_wp2
  rename_i hH
  refine bodyPost_ret (results_cell_row rfl _ _ r 26 _ (0, 0) _ rfl (zb_fin y' s' ad' len' cap') Tryz.underlying26 rfl (by kernel_rfl)) rfl ?_
  exact ⟨s', ad', len', cap', by simp, zb_zn y' hz _ _ _ _, hp.out.symm ▸ (b0.trans (hH.2.2.2.2.mono (Nat.le_of_lt hpr))), by omega⟩
 ·have hs' : (s1 == s2) = false := by simp [hs]
  have hcm : (m < n → cmpI m n < 0) ∧ (¬ m < n → 0 ≤ cmpI m n) := by unfold cmpI; omega
  by_cases hlt : m < n
  ·rw [← sg_sub2 hs]
   clear hs
   have hcc := hcm.1 hlt
   clear hcm
   go_enter Tryz.func86, Tryz.ntmps86
   go_wp2_with fail
   have x := (zb_new w s1 a1 l1 c1).below (below_alloc' (below_alloc _ (.cells #[.bool s2, .slice a2 l2 c2] 26)) (.cells #[.bool false, .slice none 0 0] 26))
   have x2 := (zb_new (w.alloc (.cells #[.bool s1, .slice a1 l1 c1] 26)) s2 a2 l2 c2).below (below_alloc _ (.cells #[.bool false, .slice none 0 0] 26))
   have y := zb_new ((w.alloc (.cells #[.bool s1, .slice a1 l1 c1] 26)).alloc (.cells #[.bool s2, .slice a2 l2 c2] 26)) false none 0 0
   have b0 : Below w.heap.size w (((w.alloc (.cells #[.bool s1, .slice a1 l1 c1] 26)).alloc (.cells #[.bool s2, .slice a2 l2 c2] 26)).alloc (.cells #[.bool false, .slice none 0 0] 26)) := below_alloc' (below_alloc' (below_alloc _ _) _) _
   rw [show ((w.alloc (.cells #[.bool s1, .slice a1 l1 c1] 26)).alloc (.cells #[.bool s2, .slice a2 l2 c2] 26)).heap.size = w.heap.size + 2 from by simp] at y
   rw [show (w.alloc (.cells #[.bool s1, .slice a1 l1 c1] 26)).heap.size = w.heap.size + 1 from by simp] at x2
   generalize ((w.alloc (.cells #[.bool s1, .slice a1 l1 c1] 26)).alloc (.cells #[.bool s2, .slice a2 l2 c2] 26)).alloc (.cells #[.bool false, .slice none 0 0] 26) = wb at *
   have hpr : w.heap.size < w.heap.size + 2 := by omega
   have hqr : w.heap.size + 1 < w.heap.size + 2 := by omega
   have hpq : w.heap.size < w.heap.size + 1 := by omega
   replace hm := hm.below b0
   replace hn := hn.below b0
   generalize hp : w.heap.size = p at *
   replace hp := hide hp
   generalize p + 2 = r at *
   generalize p + 1 = q at *
   have hrb := Nat.le_of_lt y.lt
   refine (rcmp_n hm hn).mono ?_
   rintro e w1 ⟨rfl, k1⟩
   generalize cmpI m n = cc at *
   have bb : Below p w w1 := b0.trans (k1.mono (Nat.le_of_lt (Nat.lt_of_lt_of_le hpr hrb)))
   replace x := x.below k1
   replace x2 := x2.below k1
   replace y := y.below k1
   replace hm := hm.below k1
   replace hn := hn.below k1
   replace hrb := Nat.le_of_lt y.lt
   replace b0 := bb
   clear k1 bb
   generalize w1 = wb at *
   go_wp2_with fail
   go_region_held3 (fun w' => w'.cell? ⟨p, 0, none⟩ = some (.bool s1) ∧ w'.cell? ⟨p, 1, none⟩ = some (.slice a1 l1 c1) ∧ w'.cell? ⟨q, 0, none⟩ = some (.bool s2) ∧ w'.cell? ⟨q, 1, none⟩ = some (.slice a2 l2 c2) ∧ Below r wb w')
    ((refine zs2 x x2 hpr hqr ?_; first | (refine Below.mono ?_ hrb; focus ((repeat' (first | with_reducible exact Below.refl _ _ | with_reducible assumption | with_reducible refine grow_step (by with_reducible assumption) ?_ | with_reducible refine grow_drew ?_ | with_reducible refine grow_alloc ?_ _ | with_reducible refine grow_drewN ?_ _)); done)) | (refine ((Below.mono ?_ hrb).setCell (Nat.le_refl _) _).setCell (Nat.le_refl _) _; focus ((repeat' (first | with_reducible exact Below.refl _ _ | with_reducible assumption | with_reducible refine grow_step (by with_reducible assumption) ?_ | with_reducible refine grow_drew ?_ | with_reducible refine grow_alloc ?_ _ | with_reducible refine grow_drewN ?_ _)); done))))
    (first | (go_at_call 57; with_reducible refine (rsub_n (Nm.below hn (by (repeat' (first | with_reducible exact Below.refl _ _ | with_reducible assumption | with_reducible refine grow_step (by with_reducible assumption) ?_ | with_reducible refine grow_drew ?_ | with_reducible refine grow_alloc ?_ _ | with_reducible refine grow_drewN ?_ _)))) (Nm.below hm (by (repeat' (first | with_reducible exact Below.refl _ _ | with_reducible assumption | with_reducible refine grow_step (by with_reducible assumption) ?_ | with_reducible refine grow_drew ?_ | with_reducible refine grow_alloc ?_ _ | with_reducible refine grow_drewN ?_ _)))) (by omega) (by omega)).mono ?_; rintro e w' ⟨ad, len, cap, rfl, hc, hg, hl'⟩) | (go_at_call 33; with_reducible refine (rnorm_n (zm_of (Nm.below (Cn.nm hc) (by (repeat' (first | with_reducible exact Below.refl _ _ | with_reducible assumption | with_reducible refine grow_step (by with_reducible assumption) ?_ | with_reducible refine grow_drew ?_ | with_reducible refine grow_alloc ?_ _ | with_reducible refine grow_drewN ?_ _))))) (by omega)).mono ?_; rintro e w' ⟨s', ad', len', cap', rfl, hz, hg, hl2'⟩; have y' : ZB w' r false none 0 0 := ZB.below y (by (repeat' (first | with_reducible exact Below.refl _ _ | with_reducible assumption | with_reducible refine grow_step (by with_reducible assumption) ?_ | with_reducible refine grow_drew ?_ | with_reducible refine grow_alloc ?_ _ | with_reducible refine grow_drewN ?_ _))); have y0 := y'.c0; have y1 := y'.c1; have y2 := y'.f 0; have y3 := y'.f 1))
   go_wp2
   rename_i hH
   refine bodyPost_ret (results_cell_row rfl _ _ r 26 _ (0, 0) _ rfl (zb_fin y' s' ad' len' cap') Tryz.underlying26 rfl (by kernel_rfl)) rfl ?_
   exact ⟨s', ad', len', cap', by simp, zb_zn y' hz _ _ _ _, hp.out.symm ▸ (b0.trans (hH.2.2.2.2.mono (Nat.le_of_lt hpr))), by omega⟩
  ·rw [← sg_sub1 hs]
   clear hs
   have hcc := hcm.2 hlt
   clear hcm
   go_enter Tryz.func86, Tryz.ntmps86
   go_wp2_with fail
   have x := (zb_new w s1 a1 l1 c1).below (below_alloc' (below_alloc _ (.cells #[.bool s2, .slice a2 l2 c2] 26)) (.cells #[.bool false, .slice none 0 0] 26))
   have x2 := (zb_new (w.alloc (.cells #[.bool s1, .slice a1 l1 c1] 26)) s2 a2 l2 c2).below (below_alloc _ (.cells #[.bool false, .slice none 0 0] 26))
   have y := zb_new ((w.alloc (.cells #[.bool s1, .slice a1 l1 c1] 26)).alloc (.cells #[.bool s2, .slice a2 l2 c2] 26)) false none 0 0
   have b0 : Below w.heap.size w (((w.alloc (.cells #[.bool s1, .slice a1 l1 c1] 26)).alloc (.cells #[.bool s2, .slice a2 l2 c2] 26)).alloc (.cells #[.bool false, .slice none 0 0] 26)) := below_alloc' (below_alloc' (below_alloc _ _) _) _
   rw [show ((w.alloc (.cells #[.bool s1, .slice a1 l1 c1] 26)).alloc (.cells #[.bool s2, .slice a2 l2 c2] 26)).heap.size = w.heap.size + 2 from by simp] at y
   rw [show (w.alloc (.cells #[.bool s1, .slice a1 l1 c1] 26)).heap.size = w.heap.size + 1 from by simp] at x2
   generalize ((w.alloc (.cells #[.bool s1, .slice a1 l1 c1] 26)).alloc (.cells #[.bool s2, .slice a2 l2 c2] 26)).alloc (.cells #[.bool false, .slice none 0 0] 26) = wb at *
   have hpr : w.heap.size < w.heap.size + 2 := by omega
   have hqr : w.heap.size + 1 < w.heap.size + 2 := by omega
   have hpq : w.heap.size < w.heap.size + 1 := by omega
   replace hm := hm.below b0
   replace hn := hn.below b0
   generalize hp : w.heap.size = p at *
   replace hp := hide hp
   generalize p + 2 = r at *
   generalize p + 1 = q at *
   have hrb := Nat.le_of_lt y.lt
   refine (rcmp_n hm hn).mono ?_
   rintro e w1 ⟨rfl, k1⟩
   generalize cmpI m n = cc at *
   have bb : Below p w w1 := b0.trans (k1.mono (Nat.le_of_lt (Nat.lt_of_lt_of_le hpr hrb)))
   replace x := x.below k1
   replace x2 := x2.below k1
   replace y := y.below k1
   replace hm := hm.below k1
   replace hn := hn.below k1
   replace hrb := Nat.le_of_lt y.lt
   replace b0 := bb
   clear k1 bb
   generalize w1 = wb at *
   go_wp2_with fail
   go_region_held3 (fun w' => w'.cell? ⟨p, 0, none⟩ = some (.bool s1) ∧ w'.cell? ⟨p, 1, none⟩ = some (.slice a1 l1 c1) ∧ w'.cell? ⟨q, 0, none⟩ = some (.bool s2) ∧ w'.cell? ⟨q, 1, none⟩ = some (.slice a2 l2 c2) ∧ Below r wb w')
    ((refine zs2 x x2 hpr hqr ?_; first | (refine Below.mono ?_ hrb; focus ((repeat' (first | with_reducible exact Below.refl _ _ | with_reducible assumption | with_reducible refine grow_step (by with_reducible assumption) ?_ | with_reducible refine grow_drew ?_ | with_reducible refine grow_alloc ?_ _ | with_reducible refine grow_drewN ?_ _)); done)) | (refine ((Below.mono ?_ hrb).setCell (Nat.le_refl _) _).setCell (Nat.le_refl _) _; focus ((repeat' (first | with_reducible exact Below.refl _ _ | with_reducible assumption | with_reducible refine grow_step (by with_reducible assumption) ?_ | with_reducible refine grow_drew ?_ | with_reducible refine grow_alloc ?_ _ | with_reducible refine grow_drewN ?_ _)); done))))
    (first | (go_at_call 57; with_reducible refine (rsub_n (Nm.below hm (by (repeat' (first | with_reducible exact Below.refl _ _ | with_reducible assumption | with_reducible refine grow_step (by with_reducible assumption) ?_ | with_reducible refine grow_drew ?_ | with_reducible refine grow_alloc ?_ _ | with_reducible refine grow_drewN ?_ _)))) (Nm.below hn (by (repeat' (first | with_reducible exact Below.refl _ _ | with_reducible assumption | with_reducible refine grow_step (by with_reducible assumption) ?_ | with_reducible refine grow_drew ?_ | with_reducible refine grow_alloc ?_ _ | with_reducible refine grow_drewN ?_ _)))) (by omega) (by omega)).mono ?_; rintro e w' ⟨ad, len, cap, rfl, hc, hg, hl'⟩) | (go_at_call 33; with_reducible refine (rnorm_n (zm_of (Nm.below (Cn.nm hc) (by (repeat' (first | with_reducible exact Below.refl _ _ | with_reducible assumption | with_reducible refine grow_step (by with_reducible assumption) ?_ | with_reducible refine grow_drew ?_ | with_reducible refine grow_alloc ?_ _ | with_reducible refine grow_drewN ?_ _))))) (by omega)).mono ?_; rintro e w' ⟨s', ad', len', cap', rfl, hz, hg, hl2'⟩; have y' : ZB w' r false none 0 0 := ZB.below y (by (repeat' (first | with_reducible exact Below.refl _ _ | with_reducible assumption | with_reducible refine grow_step (by with_reducible assumption) ?_ | with_reducible refine grow_drew ?_ | with_reducible refine grow_alloc ?_ _ | with_reducible refine grow_drewN ?_ _))); have y0 := y'.c0; have y1 := y'.c1; have y2 := y'.f 0; have y3 := y'.f 1))
   go_wp2
   rename_i hH
   refine bodyPost_ret (results_cell_row rfl _ _ r 26 _ (0, 0) _ rfl (zb_fin y' s' ad' len' cap') Tryz.underlying26 rfl (by kernel_rfl)) rfl ?_
   exact ⟨s', ad', len', cap', by simp, zb_zn y' hz _ _ _ _, hp.out.symm ▸ (b0.trans (hH.2.2.2.2.mono (Nat.le_of_lt hpr))), by omega⟩

set_option maxRecDepth 100000 in
set_option maxHeartbeats 1600000 in
theorem rsub2_n {s1 s2 : Bool} {a1 a2 : Option Addr} {l1 c1 l2 c2 : Nat} {z1 z2 : Int} {w : World} (h1 : Zm w s1 a1 l1 c1 z1) (h2 : Zm w s2 a2 l2 c2 z2) (hl1 : l1 ≤ 17179869184) (hl2 : l2 ≤ 17179869184) :
  Calls Tryz.prog 66 #[.agg #[.bool s1, .slice a1 l1 c1], .agg #[.bool s2, .slice a2 l2 c2]] w fun e w' => ∃ s' ad len cap, e = .returned (.agg #[.bool s', .slice ad len cap]) ∧ Zn w' s' ad len cap (z1 - z2) ∧ Below w.heap.size w w' ∧ len ≤ max l1 l2 + 1 := by
 have hm := h1
 have hn := h2
 rw [show z1 - z2 = z1 + -z2 from by omega]
 go_enter Tryz.func66, Tryz.ntmps66
 go_wp2_with fail
 have x := (zb_new w s1 a1 l1 c1).below (below_alloc' (below_alloc _ (.cells #[.bool s2, .slice a2 l2 c2] 26)) (.cells #[.bool false, .slice none 0 0] 26))
 have x2 := (zb_new (w.alloc (.cells #[.bool s1, .slice a1 l1 c1] 26)) s2 a2 l2 c2).below (below_alloc _ (.cells #[.bool false, .slice none 0 0] 26))
 have y := zb_new ((w.alloc (.cells #[.bool s1, .slice a1 l1 c1] 26)).alloc (.cells #[.bool s2, .slice a2 l2 c2] 26)) false none 0 0
 have b0 : Below w.heap.size w (((w.alloc (.cells #[.bool s1, .slice a1 l1 c1] 26)).alloc (.cells #[.bool s2, .slice a2 l2 c2] 26)).alloc (.cells #[.bool false, .slice none 0 0] 26)) := below_alloc' (below_alloc' (below_alloc _ _) _) _
 rw [show ((w.alloc (.cells #[.bool s1, .slice a1 l1 c1] 26)).alloc (.cells #[.bool s2, .slice a2 l2 c2] 26)).heap.size = w.heap.size + 2 from by simp] at y
 rw [show (w.alloc (.cells #[.bool s1, .slice a1 l1 c1] 26)).heap.size = w.heap.size + 1 from by simp] at x2
 generalize ((w.alloc (.cells #[.bool s1, .slice a1 l1 c1] 26)).alloc (.cells #[.bool s2, .slice a2 l2 c2] 26)).alloc (.cells #[.bool false, .slice none 0 0] 26) = wb at *
 have hpr : w.heap.size < w.heap.size + 2 := by omega
 have hqr : w.heap.size + 1 < w.heap.size + 2 := by omega
 have hpq : w.heap.size < w.heap.size + 1 := by omega
 replace hm := hm.below b0
 replace hn := hn.below b0
 generalize hp : w.heap.size = p at *
 replace hp := hide hp
 generalize p + 2 = r at *
 generalize p + 1 = q at *
 have hrb := Nat.le_of_lt y.lt
 go_region_held3 (fun w' => w'.cell? ⟨p, 0, none⟩ = some (.bool s1) ∧ w'.cell? ⟨p, 1, none⟩ = some (.slice a1 l1 c1) ∧ w'.cell? ⟨q, 0, none⟩ = some (.bool s2) ∧ w'.cell? ⟨q, 1, none⟩ = some (.slice a2 l2 c2) ∧ Below r wb w')
  ((refine zs2 x x2 hpr hqr ?_; first | (refine Below.mono ?_ hrb; focus ((repeat' (first | with_reducible exact Below.refl _ _ | with_reducible assumption | with_reducible refine grow_step (by with_reducible assumption) ?_ | with_reducible refine grow_drew ?_ | with_reducible refine grow_alloc ?_ _ | with_reducible refine grow_drewN ?_ _)); done)) | (refine ((Below.mono ?_ hrb).setCell (Nat.le_refl _) _).setCell (Nat.le_refl _) _; focus ((repeat' (first | with_reducible exact Below.refl _ _ | with_reducible assumption | with_reducible refine grow_step (by with_reducible assumption) ?_ | with_reducible refine grow_drew ?_ | with_reducible refine grow_alloc ?_ _ | with_reducible refine grow_drewN ?_ _)); done))))
  (first | (go_at_call 87; with_reducible refine (rneg_n (Zm.below hn (by (repeat' (first | with_reducible exact Below.refl _ _ | with_reducible assumption | with_reducible refine grow_step (by with_reducible assumption) ?_ | with_reducible refine grow_drew ?_ | with_reducible refine grow_alloc ?_ _ | with_reducible refine grow_drewN ?_ _)))) (by omega)).mono ?_; rintro e w' ⟨sn, an, ln, cn, rfl, hz2, hg, hl'⟩) | (go_at_call 86; with_reducible refine (radd2_n (Zm.below hm (by (repeat' (first | with_reducible exact Below.refl _ _ | with_reducible assumption | with_reducible refine grow_step (by with_reducible assumption) ?_ | with_reducible refine grow_drew ?_ | with_reducible refine grow_alloc ?_ _ | with_reducible refine grow_drewN ?_ _)))) (Zn.zm (Zn.below hz2 (by (repeat' (first | with_reducible exact Below.refl _ _ | with_reducible assumption | with_reducible refine grow_step (by with_reducible assumption) ?_ | with_reducible refine grow_drew ?_ | with_reducible refine grow_alloc ?_ _ | with_reducible refine grow_drewN ?_ _))))) (by omega) (by omega)).mono ?_; rintro e w' ⟨s', ad', len', cap', rfl, hz, hg, hl2'⟩; have y' : ZB w' r false none 0 0 := ZB.below y (by (repeat' (first | with_reducible exact Below.refl _ _ | with_reducible assumption | with_reducible refine grow_step (by with_reducible assumption) ?_ | with_reducible refine grow_drew ?_ | with_reducible refine grow_alloc ?_ _ | with_reducible refine grow_drewN ?_ _))); have y0 := y'.c0; have y1 := y'.c1; have y2 := y'.f 0; have y3 := y'.f 1))
 go_wp2
 rename_i hH
 refine bodyPost_ret (results_cell_row rfl _ _ r 26 _ (0, 0) _ rfl (zb_fin y' s' ad' len' cap') Tryz.underlying26 rfl (by kernel_rfl)) rfl ?_
 exact ⟨s', ad', len', cap', by simp, zb_zn y' hz _ _ _ _, hp.out.symm ▸ (b0.trans (hH.2.2.2.2.mono (Nat.le_of_lt hpr))), by omega⟩

end Go.Proofs.YtmlephkmbkiofaaGreatDoor

namespace Go.Proofs.YtmlephkmbkiofaaGreatDoor
open Go.RowKit

/-- the numbers of a list: n of them, each a sign, a slice that says a magnitude -/
structure ZL (w : World) (b off n : Nat) (S : Nat → Bool) (A : Nat → Option Addr) (L C : Nat → Nat) (M : Nat → Int) : Prop where
 lt : b < w.heap.size
 c0 : ∀ i, i < n → w.cell? ⟨b, off + i * 2, none⟩ = some (.bool (S i))
 c1 : ∀ i, i < n → w.cell? ⟨b, off + i * 2 + 1, none⟩ = some (.slice (A i) (L i) (C i))
 nm : ∀ i, i < n → Nm w (A i) (L i) (C i) (M i)
 le : ∀ i, i < n → L i ≤ 4294967296
theorem ZL.below {w w' : World} {b off n : Nat} {S : Nat → Bool} {A : Nat → Option Addr} {L C : Nat → Nat} {M : Nat → Int} (h : ZL w b off n S A L C M) (hb : Below w.heap.size w w') : ZL w' b off n S A L C M :=
 ⟨Nat.lt_of_lt_of_le h.lt hb.size, fun i hi => (hb.cell (p := ⟨b, off + i * 2, none⟩) h.lt).trans (h.c0 i hi), fun i hi => (hb.cell (p := ⟨b, off + i * 2 + 1, none⟩) h.lt).trans (h.c1 i hi), fun i hi => (h.nm i hi).below hb, h.le⟩

/-- magnitudes taken together one by one -/
def fold (op : Int → Int → Int) (g : Int) (M : Nat → Int) : Nat → Int
 | 0 => g
 | n + 1 => op (fold op g M n) (M n)
def foldL (l : Nat) (L : Nat → Nat) : Nat → Nat
 | 0 => l
 | n + 1 => foldL l L n + L n

theorem foldL_mono {l l' : Nat} (h : l ≤ l') (L : Nat → Nat) (n : Nat) : foldL l L n ≤ foldL l' L n := by
 induction n with
 | zero => exact h
 | succ n ih => exact Nat.add_le_add_right ih _

set_option maxRecDepth 100000 in
set_option maxHeartbeats 1600000 in
theorem folded_Gcd {w : World} {ad : Option Addr} {len cap : Nat} :
  Calls Tryz.prog 27 #[.slice ad len cap, .func (.func 29) #[] #[]] w fun e w' => ∃ pN pJ, e = .returned (.func (.func 49) #[] #[.pointer (some ⟨pN, 0, none⟩), .pointer (some ⟨pJ, 0, none⟩)]) ∧ w'.heap[pN]? = some (.cells #[.slice ad len cap] 24 (0, 0)) ∧ w'.cell? ⟨pJ, 0, none⟩ = some (.func (.func 29) #[] #[]) ∧ pJ < w'.heap.size ∧ Below w.heap.size w w' := by
 go_enter Tryz.func27, Tryz.ntmps27
 go_wp2
 go_ret
 refine ⟨w.heap.size, w.heap.size + 1, rfl, ?_, ?_, by simp, below_alloc' (below_alloc _ _) _⟩
 ·rw [Below.heap_alloc _ _ _ (by simp)]
  exact heap_alloc_new w _
 ·simp

set_option maxRecDepth 100000 in
set_option maxHeartbeats 1600000 in
theorem folded_Lcm {w : World} {ad : Option Addr} {len cap : Nat} :
  Calls Tryz.prog 27 #[.slice ad len cap, .func (.func 30) #[] #[]] w fun e w' => ∃ pN pJ, e = .returned (.func (.func 49) #[] #[.pointer (some ⟨pN, 0, none⟩), .pointer (some ⟨pJ, 0, none⟩)]) ∧ w'.heap[pN]? = some (.cells #[.slice ad len cap] 24 (0, 0)) ∧ w'.cell? ⟨pJ, 0, none⟩ = some (.func (.func 30) #[] #[]) ∧ pJ < w'.heap.size ∧ Below w.heap.size w w' := by
 go_enter Tryz.func27, Tryz.ntmps27
 go_wp2
 go_ret
 refine ⟨w.heap.size, w.heap.size + 1, rfl, ?_, ?_, by simp, below_alloc' (below_alloc _ _) _⟩
 ·rw [Below.heap_alloc _ _ _ (by simp)]
  exact heap_alloc_new w _
 ·simp

/-- the list of two numbers, as a call gets it -/
theorem zl_two {w : World} {s1 s2 : Bool} {a1 a2 : Option Addr} {l1 c1 l2 c2 : Nat} {m n : Int} (hm : Nm w a1 l1 c1 m) (hn : Nm w a2 l2 c2 n) (h1 : l1 ≤ 4294967296) (h2 : l2 ≤ 4294967296) :
  ZL (w.alloc (.cells #[.bool s1, .slice a1 l1 c1, .bool s2, .slice a2 l2 c2] 26)) w.heap.size 0 2 (fun i => if i = 0 then s1 else s2) (fun i => if i = 0 then a1 else a2) (fun i => if i = 0 then l1 else l2) (fun i => if i = 0 then c1 else c2) (fun i => if i = 0 then m else n) := by
 have hg := heap_alloc_new w (.cells #[.bool s1, .slice a1 l1 c1, .bool s2, .slice a2 l2 c2] 26)
 have two : ∀ {p : Nat → Prop}, p 0 → p 1 → ∀ i, i < 2 → p i := by
  intro p h0 h1 i hi
  match i, hi with
  | 0, _ => exact h0
  | 1, _ => exact h1
 refine ⟨by simp, two ?_ ?_, two ?_ ?_, two ?_ ?_, two ?_ ?_⟩
 ·exact cell_of_row _ w.heap.size 0 _ _ (0, 0) hg
 ·exact cell_of_row _ w.heap.size 2 _ _ (0, 0) hg
 ·exact cell_of_row _ w.heap.size 1 _ _ (0, 0) hg
 ·exact cell_of_row _ w.heap.size 3 _ _ (0, 0) hg
 ·exact hm.below (below_alloc _ _)
 ·exact hn.below (below_alloc _ _)
 ·exact h1
 ·exact h2

theorem sg_natAbs {s : Bool} {n : Int} (h : 0 ≤ n) : n = ((sg s n).natAbs : Int) := by cases s <;> simp [sg] <;> omega
theorem gcdI_zero_left {m : Int} (h : 0 ≤ m) : gcdI 0 m = m := by rw [gcdI_comm, gcdI_zero h]
theorem common_all (z1 z2 : Int) : gcdI z1.natAbs z2.natAbs * lcmI z1.natAbs z2.natAbs = ((z1 * z2).natAbs : Int) := by
 rw [lcmI_mul (Int.natCast_nonneg _), Int.natAbs_mul, Int.natCast_mul]
theorem gcd_none {z1 z2 : Int} (h : gcdI z1.natAbs z2.natAbs = 0) : z1 = 0 ∧ z2 = 0 := by
 unfold gcdI at h
 have h' : Nat.gcd z1.natAbs z2.natAbs = 0 := by simpa using h
 have := Nat.gcd_eq_zero_iff.1 h'
 omega
/-- what is left of what a number divides -/
theorem fd_dvd {a g q r : Int} (h : FD a g q r) (hg : 0 < g) (hd : g ∣ a) : r = 0 ∧ a = q * g := by
 obtain ⟨k, rfl⟩ := hd
 have h2 : FD (g * k) g k 0 := ⟨by rw [Int.mul_comm]; omega, Or.inl ⟨Int.le_refl _, hg⟩⟩
 obtain ⟨rfl, rfl⟩ := fd_unique h h2
 exact ⟨rfl, Int.mul_comm _ _⟩
theorem gcd_dvd1 (z1 z2 : Int) : gcdI z1.natAbs z2.natAbs ∣ z1 := Int.dvd_natAbs.1 (gcdI_left (Int.natCast_nonneg _))
end Go.Proofs.YtmlephkmbkiofaaGreatDoor
