/-
 Layer 5: what a sort asks of the function that compares: Sign, Cmp and orderParts once more, with the count of draws.
-/
import Derived.Test.YtjhhknfnaobmiaaGreatDoorZ2
namespace Go.Proofs.YtjhhknfnaobmiaaGreatDoor
open Go.RowKit

/-- old memory stays, and no draw is taken back -/
structure Gr (w w' : World) : Prop where
 b : Below w.heap.size w w'
 d : w.drawn ≤ w'.drawn
theorem Gr.refl (w : World) : Gr w w := ⟨Below.refl _ _, Nat.le_refl _⟩
theorem Gr.trans {w w' w'' : World} (h : Gr w w') (k : Gr w' w'') : Gr w w'' := ⟨grow_step k.b h.b, Nat.le_trans h.d k.d⟩
theorem gr_alloc (w : World) (o : Obj) : Gr w (w.alloc o) := ⟨below_alloc _ _, Nat.le_refl _⟩
theorem gr_drewN (w : World) (n : Nat) : Gr w (w.drewN n) := ⟨below_drewN _ _ _, Nat.le_add_right _ _⟩

theorem bits_g {a1 : Option Addr} {l1 c1 : Nat} {n : Int} {w : World} (h1 : Nm w a1 l1 c1 n) (hl : l1 ≤ 1099511627776) :
  Calls Tryz.prog 83 #[.slice a1 l1 c1] w fun e w' => ∃ k : Nat, e = .returned (.int .i64 k) ∧ (k = 0 ↔ n = 0) ∧ Gr w w' := by
 obtain ⟨xs, h1, rfl⟩ := h1
 refine (bits_any h1 hl).mono ?_
 rintro e w' ⟨rfl, rfl⟩
 refine ⟨_, rfl, ?_, Gr.refl _⟩
 rw [bitsL_zero (canon_trim h1.2.2.2.1), val_trim]
theorem cmp_g {a1 a2 : Option Addr} {l1 c1 l2 c2 : Nat} {m n : Int} {w : World} (h1 : Nm w a1 l1 c1 m) (h2 : Nm w a2 l2 c2 n) :
  Calls Tryz.prog 86 #[.slice a1 l1 c1, .slice a2 l2 c2] w fun e w' => e = .returned (.int .i64 (cmpI m n)) ∧ Gr w w' := by
 obtain ⟨xs, h1, rfl⟩ := h1
 obtain ⟨ys, h2, rfl⟩ := h2
 refine (cmp_any h1 h2).mono ?_
 rintro e w' ⟨rfl, q, rfl⟩
 exact ⟨rfl, gr_drewN _ _⟩

set_option maxRecDepth 100000 in
set_option maxHeartbeats 1600000 in
theorem zsign_g {s : Bool} {a : Option Addr} {l c : Nat} {z : Int} {w : World} (h : Zm w s a l c z) (hl : l ≤ 1099511627776) :
  Calls Tryz.prog 36 #[.agg #[.bool s, .slice a l c]] w fun e w' => e = .returned (.int .i64 (cmpI z 0)) ∧ Gr w w' := by
 obtain ⟨n, hn, rfl⟩ := h
 have h0 := hn.nonneg
 go_enter Tryz.func36, Tryz.ntmps36
 go_wp2_with fail
 have x := zb_new w s a l c
 have b0 := hide (gr_alloc w (.cells #[.bool s, .slice a l c] 24))
 replace hn := hn.below b0.out.b
 generalize w.alloc (.cells #[.bool s, .slice a l c] 24) = wb at *
 generalize hp : w.heap.size = p at *
 replace hp := hide hp
 refine (bits_g hn hl).mono ?_
 rintro e w1 ⟨k, rfl, hk, k1⟩
 have u0 := (x.below k1.b).c0
 have hB := hide (b0.out.trans k1)
 clear k1
 by_cases hz : n = 0
 ·have hk0 : k = 0 := hk.2 hz
  subst hk0
  go_wp2
  go_ret
  exact ⟨ret_int (by rw [hz, cmpI_eq (by cases s <;> simp [sg])]), hB⟩
 ·have hk0 : 0 < k := Nat.pos_of_ne_zero (fun h => hz (hk.1 h))
  cases s
  ·go_wp2
   go_ret
   exact ⟨ret_int (by rw [cmpI_gt (by simp [sg]; omega)]), hB⟩
  ·go_wp2
   go_ret
   exact ⟨ret_int (by rw [cmpI_lt (by simp [sg]; omega)]), hB⟩

set_option maxRecDepth 100000 in
set_option maxHeartbeats 1600000 in
theorem compare_g {x y : Int} {w : World} :
  Calls Tryz.prog 64 #[.int .i64 x, .int .i64 y] w fun e w' => e = .returned (.int .i64 (cmpI x y)) ∧ w' = w := by
 have isnan : ∀ (v : Int) (u : World), Calls Tryz.prog 112 #[.int .i64 v] u fun e w' => e = .returned (.bool false) ∧ w' = u := by
  intro v u
  go_enter Tryz.func112, Tryz.ntmps112
  go_wp2
  go_ret
  exact ⟨ret_bool (by simp), rfl⟩
 go_enter Tryz.func64, Tryz.ntmps64
 go_wp2_with fail
 refine (isnan x w).mono ?_
 rintro e w1 ⟨rfl, rfl⟩
 go_wp2_with fail
 refine (isnan y _).mono ?_
 rintro e w1 ⟨rfl, rfl⟩
 by_cases h1 : x < y
 ·go_wp2
  go_ret
  exact ⟨ret_int (by rw [cmpI_lt h1]), rfl⟩
 ·by_cases h2 : y < x
  ·go_wp2
   go_ret
   exact ⟨ret_int (by rw [cmpI_gt h2]), rfl⟩
  ·go_wp2
   go_ret
   exact ⟨ret_int (by rw [cmpI_eq (by omega)]), rfl⟩

set_option maxRecDepth 100000 in
set_option maxHeartbeats 1600000 in
theorem zcmp_g {s1 s2 : Bool} {a1 a2 : Option Addr} {l1 c1 l2 c2 : Nat} {z1 z2 : Int} {w : World} (h1 : Zm w s1 a1 l1 c1 z1) (h2 : Zm w s2 a2 l2 c2 z2) (hl1 : l1 ≤ 1099511627776) (hl2 : l2 ≤ 1099511627776) :
  Calls Tryz.prog 65 #[.agg #[.bool s1, .slice a1 l1 c1], .agg #[.bool s2, .slice a2 l2 c2]] w fun e w' => e = .returned (.int .i64 (cmpI z1 z2)) ∧ Gr w w' := by
 obtain ⟨m, hm, rfl⟩ := h1
 obtain ⟨n, hn, rfl⟩ := h2
 have h0 := hm.nonneg
 have h0' := hn.nonneg
 go_enter Tryz.func65, Tryz.ntmps65
 go_wp2_with fail
 have x := (zb_new w s1 a1 l1 c1).below (below_alloc _ (.cells #[.bool s2, .slice a2 l2 c2] 24))
 have x2 := zb_new (w.alloc (.cells #[.bool s1, .slice a1 l1 c1] 24)) s2 a2 l2 c2
 have b0 := hide ((gr_alloc w (.cells #[.bool s1, .slice a1 l1 c1] 24)).trans (gr_alloc _ (.cells #[.bool s2, .slice a2 l2 c2] 24)))
 rw [show (w.alloc (.cells #[.bool s1, .slice a1 l1 c1] 24)).heap.size = w.heap.size + 1 from by simp] at x2
 replace hm := hm.below b0.out.b
 replace hn := hn.below b0.out.b
 generalize (w.alloc (.cells #[.bool s1, .slice a1 l1 c1] 24)).alloc (.cells #[.bool s2, .slice a2 l2 c2] 24) = wb at *
 generalize hp : w.heap.size = p at *
 replace hp := hide hp
 generalize p + 1 = q at *
 refine (zsign_g ⟨m, hm, rfl⟩ hl1).mono ?_
 rintro e w1 ⟨rfl, k1⟩
 have u2 := (x2.below k1.b).c0
 have u3 := (x2.below k1.b).c1
 replace k1 := hide k1
 go_wp2_with fail
 refine (zsign_g ⟨n, hn.below k1.out.b, rfl⟩ hl2).mono ?_
 rintro e w2 ⟨rfl, k2⟩
 replace k2 := hide (k1.out.trans k2)
 clear u2 u3 k1
 go_wp2_with fail
 refine (compare_g (x := cmpI (sg s1 m) 0) (y := cmpI (sg s2 n) 0)).mono ?_
 rintro e w3 ⟨rfl, rfl⟩
 have u1 := (x.below k2.out.b).c1
 have u3 := (x2.below k2.out.b).c1
 replace hm := hm.below k2.out.b
 replace hn := hn.below k2.out.b
 replace b0 := hide (b0.out.trans k2.out)
 clear k2
 have hc1 := cmpI_sg (sg s1 m)
 have hc2 := cmpI_sg (sg s2 n)
 generalize hv1 : cmpI (sg s1 m) 0 = v1 at *
 generalize hv2 : cmpI (sg s2 n) 0 = v2 at *
 replace hv1 := hide hv1
 replace hv2 := hide hv2
 by_cases he : v1 = v2
 ·have e0 : cmpI v1 v2 = 0 := cmpI_eq he
  rw [e0]
  by_cases hneg : v1 < 0
  ·go_wp2_with fail
   refine (cmp_g hn hm).mono ?_
   rintro e w4 ⟨rfl, k4⟩
   replace k4 := hide (b0.out.trans k4)
   go_wp2
   go_ret
   exact ⟨ret_int (cmp_both_neg h0 h0' (unhide hv1) (he ▸ unhide hv2) hneg), k4⟩
  ·go_wp2_with fail
   refine (cmp_g hm hn).mono ?_
   rintro e w4 ⟨rfl, k4⟩
   replace k4 := hide (b0.out.trans k4)
   go_wp2
   go_ret
   exact ⟨ret_int (cmp_both_pos h0 h0' (unhide hv1) (he ▸ unhide hv2) (by omega)), k4⟩
 ·have e1 : cmpI v1 v2 ≠ 0 := by unfold cmpI; split <;> (try split) <;> omega
  have e2 := hide (cmp_apart (unhide hv1) (unhide hv2) he)
  generalize cmpI v1 v2 = v3 at *
  go_wp2
  go_ret
  exact ⟨ret_int (unhide e2), b0⟩
end Go.Proofs.YtjhhknfnaobmiaaGreatDoor
