/-
 Several texts in one: IL, IM, LSyntaxAround, LSyntaxJoins.
-/
import Derived.Test.YtkcklmipldcceaaGreatDoorSyj26
import Derived.Test.YtkcklmipldcceaaGreatDoorSyj27
import Derived.Test.YtkcklmipldcceaaGreatDoorSyj28
namespace Go.Proofs.YtkcklmipldcceaaGreatDoor
open Go.RowKit
namespace Sx

/-- is it so of all nodes? -/
def evB (P : Tr → Bool) : Nat → Tr → Bool
 | 0, _ => true
 | f + 1, t => P t && (ksO t).all (evB P f)
theorem evB_all {P : Tr → Bool} (f : Nat) : ∀ {t : Tr}, evB P f t = true → ¬ Dp f t → ∀ n u, At4 n t u → P u = true := by
 induction f with
 | zero => exact fun _ h => absurd ⟨_, rfl⟩ h
 | succ f ih =>
  intro t h hd n u hu
  unfold evB at h
  rw [Bool.and_eq_true, List.all_eq_true] at h
  cases n with
  | zero => exact (show u = t from hu) ▸ h.1
  | succ n =>
   obtain ⟨v, hv, h2⟩ := hu
   exact ih (h.2 v hv) (fun ⟨z, hz⟩ => hd ⟨z, v, hv, hz⟩) n u h2
theorem kn_al : Al Bd4 knT := fun n u hu => by
 have h1 := evB_all (P := fun u => decide ((lbO u).xs.length ≤ 9) && decide ((lbO u).nm.size ≤ 9) && decide ((lbO u).nms.length ≤ 9) && (lbO u).nms.all (fun n => decide (n.size ≤ 9))) 60 (by kernel_rfl) kn_dp n u hu
 simp only [Bool.and_eq_true, decide_eq_true_eq, List.all_eq_true] at h1
 exact ⟨by omega, by omega, by omega, fun n hn => Nat.le_trans (h1.2 n hn) (by decide)⟩
theorem kn_ck {e : Int} (h : CkD knT e) : e = 0 := by
 unfold CkD at h
 have h0 : (shp (lbO knT).k).is = 2 := by kernel_rfl
 rw [if_neg (fun h => h h0)] at h
 have h1 : ∀ n u, At4 n knT u → stB (lbO u) (ksO u) = true := evB_all (P := fun u => stB (lbO u) (ksO u)) 60 (by kernel_rfl) kn_dp
 have h2 : ∀ n u, At4 n knT u → (!zdB u) = true := evB_all (P := fun u => !zdB u) 60 (by kernel_rfl) kn_dp
 rcases h with ⟨⟨n, u, hu, h⟩, -⟩ | ⟨-, ⟨⟨n, u, hu, h⟩, -⟩ | ⟨-, ⟨h, -⟩ | ⟨-, h⟩⟩⟩
 ·rw [h1 n u hu] at h
  cases h
 ·have := h2 n u hu
  rw [h] at this
  cases this
 ·exact absurd h kn_dp
 ·exact h
theorem kn_pr {s : ByteArray} {e : Int} (h : PrA 60 knT s e) : s = knO ∧ e = 0 := by
 obtain ⟨c, hc, h⟩ := h
 obtain rfl := kn_ck hc
 rw [if_neg (by decide), kn_print.2, if_neg (by decide)] at h
 refine ⟨h.1.trans ?_, h.2⟩
 rw [kn_print.1]
theorem kn_cp : cpT 60 knT = knT := by kernel_rfl
theorem sm_refl (t : Tr) : Sm (t, t) := fun f => by
 have key : ∀ f (q : P2), q.1 = q.2 → smF f q = true := by
  intro f
  induction f with
  | zero => exact fun _ _ => rfl
  | succ f ih =>
   intro q hq
   obtain ⟨a, b⟩ := q
   dsimp only at hq
   subst hq
   unfold smF
   rw [Bool.and_eq_true, List.all_eq_true]
   exact ⟨alB_self a, fun r hr => ih r (kz_self hr)⟩
 exact key f _ rfl
theorem kn_free {ss : List (List UInt8)} (h : ∀ x : List UInt8, x ∈ ss ↔ Fv [] knT ⟨x.toArray⟩) (hn : ss.Nodup) : ss.length = 1 := by
 have h1 : ∀ x : List UInt8, x ∈ ss ↔ x = [120] := fun x => by
  rw [h, kn_fv]
  constructor
  ·intro e
   have := congrArg (fun b : ByteArray => b.data.toList) e
   simpa using this
  ·rintro rfl
   rfl
 have hm : [120] ∈ ss := (h1 _).2 rfl
 match ss, h1, hn, hm with
 | [], _, _, hm => cases hm
 | [a], _, _, _ => rfl
 | a :: b :: l, h1, hn, _ =>
  have ea := (h1 a).1 (by simp)
  have eb := (h1 b).1 (by simp)
  rw [ea, eb] at hn
  simp at hn
end Sx
end Go.Proofs.YtkcklmipldcceaaGreatDoor

namespace Go.Proofs.YtkcklmipldcceaaGreatDoor
open Go.RowKit
namespace Sx

theorem eq_ms0 (w : World) : (binOp .eql 31 (.agg #[.int .i64 0, .int .i64 0]) (.agg #[.int .i64 0, .int .i64 0])).run Tryz.prog w = .ok (.bool true) w := by kernel_rfl
theorem eq_kn : (knO.toList == [110, 111, 116, 32, 120, 32, 60, 32, 49, 32, 111, 114, 32, 115, 111, 109, 101, 32, 121, 32, 46, 32, 50, 32, 100, 105, 118, 105, 100, 101, 115, 32, 120, 32, 45, 32, 40, 121, 32, 43, 32, 49, 41]) = true := by
 rw [ByteArray.toList_eq]
 decide +kernel
set_option maxRecDepth 100000 in
set_option maxHeartbeats 6400000 in
theorem known4_n (w : World) (hS : Sgn w) (hwo : Wo w) (htab : Tab w) : Calls Tryz.prog 15 #[] w fun en w' => en = .returned (.bool true) ∧ Below w.heap.size w w' := by
 have hpa := hide (parse_n knS w (by decide) hS hwo)
 go_enter Tryz.func15, Tryz.ntmps15
 go_wp2_with fail
 refine hpa.out.mono ?_
 rintro en w1 ⟨k1, r, hr, h⟩
 obtain rfl : r = .inr knT := paD_one hr kn_pa
 obtain ⟨x, rfl, hx, -⟩ := h
 clear hr hpa
 have b1 := below_alloc w1 (.cells #[.int .i64 x.k, .string x.nm, .slice x.na x.nn x.nc, .bool x.s, .slice x.a x.l x.c, .slice x.ka x.kn x.kc] 28)
 have b2 := below_alloc (w1.alloc (.cells #[.int .i64 x.k, .string x.nm, .slice x.na x.nn x.nc, .bool x.s, .slice x.a x.l x.c, .slice x.ka x.kn x.kc] 28)) (.cells #[.int .i64 0, .int .i64 0] 31)
 have kb := grow_step b2 b1
 have y1 := (vb_new w1 x).below b2
 have y2 := heap_alloc_new (w1.alloc (.cells #[.int .i64 x.k, .string x.nm, .slice x.na x.nn x.nc, .bool x.s, .slice x.a x.l x.c, .slice x.ka x.kn x.kc] 28)) (.cells #[.int .i64 0, .int .i64 0] 31)
 rw [show (w1.alloc (.cells #[.int .i64 x.k, .string x.nm, .slice x.na x.nn x.nc, .bool x.s, .slice x.a x.l x.c, .slice x.ka x.kn x.kc] 28)).heap.size = w1.heap.size + 1 by simp] at y2
 have hx2 : Rt An _ x knT := (rt_below hx kb).imp fun _ _ => trivial
 have kw := grow_step kb k1
 have hwo2 := hwo.kept (kw.block _ hwo.lt)
 have htab2 := htab.below kw
 have hpr := hide (print_n hx2 kn_dp (by rw [kn_cnt]; decide) kn_al hwo2 htab2)
 clear hS hwo htab hx b1 b2 k1 kb hwo2 htab2
 go_upto_region 2 with (fail)
 generalize (w1.alloc (.cells #[.int .i64 x.k, .string x.nm, .slice x.na x.nn x.nc, .bool x.s, .slice x.a x.l x.c, .slice x.ka x.kn x.kc] 28)).alloc (.cells #[.int .i64 0, .int .i64 0] 31) = w2 at *
 generalize w1.heap.size = bt at *
 have c0 := y1.c0
 have c1 := y1.c1
 have c2 := y1.c2
 have c3 := y1.c3
 have c4 := y1.c4
 have c5 := y1.c5
 go_wp2_with fail
 refine hpr.out.mono ?_
 rintro en w3 ⟨k3, s, e, hse, rfl⟩
 obtain ⟨rfl, rfl⟩ := kn_pr hse
 have y3 := hide (y1.below k3)
 have m3 := hide ((k3.block (bt + 1) (lt_of_block y2)).trans y2)
 have hx3 := hide (rt_below hx2 k3)
 have kw3 := hide (grow_step k3 kw)
 clear hpr hse c0 c1 c2 c3 c4 c5 y1 y2 hx2 kw k3
 go_upto_region 3 with (fail)
 have hS : ∀ W, Below w3.heap.size w3 W → (W.cell? ⟨bt, 0, none⟩ = some (.int .i64 x.k) ∧ W.cell? ⟨bt, 1, none⟩ = some (.string x.nm) ∧ W.cell? ⟨bt, 2, none⟩ = some (.slice x.na x.nn x.nc) ∧ W.cell? ⟨bt, 3, none⟩ = some (.bool x.s) ∧ W.cell? ⟨bt, 4, none⟩ = some (.slice x.a x.l x.c) ∧ W.cell? ⟨bt, 5, none⟩ = some (.slice x.ka x.kn x.kc)) ∧ W.cell? ⟨bt + 1, 0, none⟩ = some (.int .i64 0) ∧ W.cell? ⟨bt + 1, 1, none⟩ = some (.int .i64 0) := fun W k => by
  have hv := y3.out.below k
  have hm := (k.block (bt + 1) (lt_of_block m3.out)).trans m3.out
  exact ⟨⟨hv.c0, hv.c1, hv.c2, hv.c3, hv.c4, hv.c5⟩, cell_of_row W (bt + 1) 0 _ _ (0, 0) hm, cell_of_row W (bt + 1) 1 _ _ (0, 0) hm⟩
 have heq := eq_ms0
 have heqk := eq_kn
 have hcn : cntF 60 knT ≤ 1073741824 := by rw [kn_cnt]; decide
 refine wp_region_held_drew (S := fun W => (W.cell? ⟨bt, 0, none⟩ = some (.int .i64 x.k) ∧ W.cell? ⟨bt, 1, none⟩ = some (.string x.nm) ∧ W.cell? ⟨bt, 2, none⟩ = some (.slice x.na x.nn x.nc) ∧ W.cell? ⟨bt, 3, none⟩ = some (.bool x.s) ∧ W.cell? ⟨bt, 4, none⟩ = some (.slice x.a x.l x.c) ∧ W.cell? ⟨bt, 5, none⟩ = some (.slice x.ka x.kn x.kc)) ∧ W.cell? ⟨bt + 1, 0, none⟩ = some (.int .i64 0) ∧ W.cell? ⟨bt + 1, 1, none⟩ = some (.int .i64 0)) (by kernel_rfl) (hS _ (grow_drew (Below.refl _ _))) (fun hHeld => ?_)
 show wpAnyH _ _ _ _ _ 39 _ _ _
 have kW := grow_drew (Below.refl w3.heap.size w3)
 generalize w3.drew = wD at *
 refine wpAnyH_take (i := 0) (oi := ⟨some 14, _, _, _, _, _⟩) (v := ?_) rfl (by kernel_rfl) (by kernel_rfl) (by kernel_rfl) (fun _ _ _ h => by first | exact h | cases h.1) (Or.inl ⟨by rfl, ?_⟩) (by assumption) ?_
 rotate_left
 ·intro wq hSw; (try dsimp only at hSw); go_simp; (try with_reducible rfl)
 (try simp only [Act.put, List.setIfInBounds_toArray, List.set_cons_zero, List.set_cons_succ])
 refine wpAnyH_take (i := 1) (oi := ⟨some 15, _, _, _, _, _⟩) (v := ?_) rfl (by kernel_rfl) (by kernel_rfl) (by kernel_rfl) (fun _ _ _ h => by first | exact h | cases h.1) (Or.inl ⟨by rfl, ?_⟩) (by assumption) ?_
 rotate_left
 ·intro wq hSw; (try dsimp only at hSw); go_simp; (try with_reducible rfl)
 (try simp only [Act.put, List.setIfInBounds_toArray, List.set_cons_zero, List.set_cons_succ])
 refine wpAnyH_take (i := 2) (oi := ⟨some 16, _, _, _, _, _⟩) (v := ?_) rfl (by kernel_rfl) (by kernel_rfl) (by kernel_rfl) (fun _ _ _ h => by first | exact h | cases h.1) (Or.inl ⟨by rfl, ?_⟩) (by assumption) ?_
 rotate_left
 ·intro wq hSw; (try dsimp only at hSw); go_simp; (try with_reducible rfl)
 (try simp only [Act.put, List.setIfInBounds_toArray, List.set_cons_zero, List.set_cons_succ])
 refine wpAnyH_take (i := 3) (oi := ⟨some 17, _, _, _, _, _⟩) (v := ?_) rfl (by kernel_rfl) (by kernel_rfl) (by kernel_rfl) (fun _ _ _ h => by first | exact h | cases h.1) (Or.inl ⟨by rfl, ?_⟩) (by assumption) ?_
 rotate_left
 ·intro wq hSw; (try dsimp only at hSw); go_simp; (try with_reducible rfl)
 (try simp only [Act.put, List.setIfInBounds_toArray, List.set_cons_zero, List.set_cons_succ])
 refine wpAnyH_take (i := 4) (oi := ⟨some 18, _, _, _, _, _⟩) (v := ?_) rfl (by kernel_rfl) (by kernel_rfl) (by kernel_rfl) (fun _ _ _ h => by first | exact h | cases h.1) (Or.inl ⟨by rfl, ?_⟩) (by assumption) ?_
 rotate_left
 ·intro wq hSw; (try dsimp only at hSw); go_simp; (try with_reducible rfl)
 (try simp only [Act.put, List.setIfInBounds_toArray, List.set_cons_zero, List.set_cons_succ])
 refine wpAnyH_take (i := 5) (oi := ⟨some 19, _, _, _, _, _⟩) (v := ?_) rfl (by kernel_rfl) (by kernel_rfl) (by kernel_rfl) (fun _ _ _ h => by first | exact h | cases h.1) (Or.inl ⟨by rfl, ?_⟩) (by assumption) ?_
 rotate_left
 ·intro wq hSw; (try dsimp only at hSw); go_simp; (try with_reducible rfl)
 (try simp only [Act.put, List.setIfInBounds_toArray, List.set_cons_zero, List.set_cons_succ])
 refine wpAnyH_take (i := 6) (oi := ⟨some 20, _, _, _, _, _⟩) (v := ?_) rfl (by kernel_rfl) (by kernel_rfl) (by kernel_rfl) (fun _ _ _ h => by first | exact h | cases h.1) (Or.inl ⟨by rfl, ?_⟩) (by assumption) ?_
 rotate_left
 ·intro wq hSw; (try dsimp only at hSw); go_simp; (try with_reducible rfl)
 (try simp only [Act.put, List.setIfInBounds_toArray, List.set_cons_zero, List.set_cons_succ])
 refine wpAnyH_take (i := 7) (oi := ⟨some 21, _, _, _, _, _⟩) (v := ?_) rfl (by kernel_rfl) (by kernel_rfl) (by kernel_rfl) (fun _ _ _ h => by first | exact h | cases h.1) (Or.inl ⟨by rfl, ?_⟩) (by assumption) ?_
 rotate_left
 ·intro wq hSw; (try dsimp only at hSw); go_simp; (try with_reducible rfl)
 (try simp only [Act.put, List.setIfInBounds_toArray, List.set_cons_zero, List.set_cons_succ])
 refine wpAnyH_take (i := 8) (oi := ⟨some 22, _, _, _, _, _⟩) (v := ?_) rfl (by kernel_rfl) (by kernel_rfl) (by kernel_rfl) (fun _ _ _ h => by first | exact h | cases h.1) (Or.inl ⟨by rfl, ?_⟩) (by assumption) ?_
 rotate_left
 ·intro wq hSw; (try dsimp only at hSw); go_simp; (try with_reducible rfl)
 (try simp only [Act.put, List.setIfInBounds_toArray, List.set_cons_zero, List.set_cons_succ])
 refine wpAnyH_take (i := 9) (oi := ⟨some 23, _, _, _, _, _⟩) (v := ?_) rfl (by kernel_rfl) (by kernel_rfl) (by kernel_rfl) (fun _ _ _ h => by first | exact h | cases h.1) (Or.inl ⟨by rfl, ?_⟩) (by assumption) ?_
 rotate_left
 ·intro wq hSw; (try dsimp only at hSw); go_simp; (try with_reducible rfl)
 (try simp only [Act.put, List.setIfInBounds_toArray, List.set_cons_zero, List.set_cons_succ])
 refine wpAnyH_take (i := 10) (oi := ⟨some 24, _, _, _, _, _⟩) (v := ?_) rfl (by kernel_rfl) (by kernel_rfl) (by kernel_rfl) (fun _ _ _ h => by first | exact h | cases h.1) (Or.inl ⟨by rfl, ?_⟩) (by assumption) ?_
 rotate_left
 ·intro wq hSw; (try dsimp only at hSw); go_simp; (try with_reducible rfl)
 (try simp only [Act.put, List.setIfInBounds_toArray, List.set_cons_zero, List.set_cons_succ])
 refine wpAnyH_take (i := 11) (oi := ⟨some 25, _, _, _, _, _⟩) (v := ?_) rfl (by kernel_rfl) (by kernel_rfl) (by kernel_rfl) (fun _ _ _ h => by first | exact h | cases h.1) (Or.inl ⟨by rfl, ?_⟩) (by assumption) ?_
 rotate_left
 ·intro wq hSw; (try dsimp only at hSw); go_simp; (try with_reducible rfl)
 (try simp only [Act.put, List.setIfInBounds_toArray, List.set_cons_zero, List.set_cons_succ])
 refine wpAnyH_take (i := 12) (oi := ⟨some 26, _, _, _, _, _⟩) (v := ?_) rfl (by kernel_rfl) (by kernel_rfl) (by kernel_rfl) (fun _ _ _ h => by first | exact h | cases h.1) (Or.inl ⟨by rfl, ?_⟩) (by assumption) ?_
 rotate_left
 ·intro wq hSw; (try dsimp only at hSw); go_simp; (try with_reducible rfl)
 (try simp only [Act.put, List.setIfInBounds_toArray, List.set_cons_zero, List.set_cons_succ])
 refine wpAnyH_ready (rs := [13]) (by kernel_rfl) (by simp) ?_
 refine AllReadyH.cons (o := ⟨some 27, _, _, _, _, _⟩) rfl (fun K hK => ?_) AllReadyH.nil
 go_simp
 refine Calls.mono (check_n (rt_below hx3.out kW) kn_dp hcn kn_al) ?_
 rintro en wN ⟨kN, e, he, rfl⟩
 obtain rfl := kn_ck he
 replace kW := grow_step kN kW
 (try go_wp2_with fail)
 refine hK.out _ _ ?_ ?_
 ·exact hS _ kW
 clear hK K hHeld; intro hHeld
 (try simp only [Act.put, List.setIfInBounds_toArray, List.set_cons_zero, List.set_cons_succ])
 clear kN
 refine wpAnyH_take (i := 14) (oi := ⟨some 28, _, _, _, _, _⟩) (v := ?_) rfl (by kernel_rfl) (by kernel_rfl) (by kernel_rfl) (fun _ _ _ h => by first | exact h | cases h.1) (Or.inl ⟨by rfl, ?_⟩) (by assumption) ?_
 rotate_left
 ·intro wq hSw; (try dsimp only at hSw); go_simp; (try with_reducible rfl)
 (try simp only [Act.put, List.setIfInBounds_toArray, List.set_cons_zero, List.set_cons_succ])
 refine wpAnyH_take (i := 15) (oi := ⟨some 29, _, _, _, _, _⟩) (v := ?_) rfl (by kernel_rfl) (by kernel_rfl) (by kernel_rfl) (fun _ _ _ h => by first | exact h | cases h.1) (Or.inl ⟨by rfl, ?_⟩) (by assumption) ?_
 rotate_left
 ·intro wq hSw; (try dsimp only at hSw); go_simp; (try with_reducible rfl)
 (try simp only [Act.put, List.setIfInBounds_toArray, List.set_cons_zero, List.set_cons_succ])
 refine wpAnyH_take (i := 16) (oi := ⟨some 30, _, _, _, _, _⟩) (v := ?_) rfl (by kernel_rfl) (by kernel_rfl) (by kernel_rfl) (fun _ _ _ h => by first | exact h | cases h.1) (Or.inl ⟨by rfl, ?_⟩) (by assumption) ?_
 rotate_left
 ·intro wq hSw; (try dsimp only at hSw); go_simp; (try with_reducible rfl)
 (try simp only [Act.put, List.setIfInBounds_toArray, List.set_cons_zero, List.set_cons_succ])
 refine wpAnyH_take (i := 17) (oi := ⟨some 31, _, _, _, _, _⟩) (v := ?_) rfl (by kernel_rfl) (by kernel_rfl) (by kernel_rfl) (fun _ _ _ h => by first | exact h | cases h.1) (Or.inl ⟨by rfl, ?_⟩) (by assumption) ?_
 rotate_left
 ·intro wq hSw; (try dsimp only at hSw); go_simp; (try with_reducible rfl)
 (try simp only [Act.put, List.setIfInBounds_toArray, List.set_cons_zero, List.set_cons_succ])
 refine wpAnyH_ready (rs := [18]) (by kernel_rfl) (by simp) ?_
 refine AllReadyH.cons (o := ⟨some 32, _, _, _, _, _⟩) rfl (fun K hK => ?_) AllReadyH.nil
 go_simp
 refine Calls.mono (size_n (rt_below hx3.out kW) kn_dp hcn) ?_
 rintro en wN ⟨kN, rfl⟩
 rw [kn_cnt]
 replace kW := grow_step kN kW
 (try go_wp2_with fail)
 refine hK.out _ _ ?_ ?_
 ·exact hS _ kW
 clear hK K hHeld; intro hHeld
 (try simp only [Act.put, List.setIfInBounds_toArray, List.set_cons_zero, List.set_cons_succ])
 clear kN
 refine wpAnyH_take (i := 19) (oi := ⟨some 33, _, _, _, _, _⟩) (v := ?_) rfl (by kernel_rfl) (by kernel_rfl) (by kernel_rfl) (fun _ _ _ h => by first | exact h | cases h.1) (Or.inl ⟨by rfl, ?_⟩) (by assumption) ?_
 rotate_left
 ·intro wq hSw; (try dsimp only at hSw); go_simp; (try with_reducible rfl)
 (try simp only [Act.put, List.setIfInBounds_toArray, List.set_cons_zero, List.set_cons_succ])
 refine wpAnyH_take (i := 20) (oi := ⟨some 34, _, _, _, _, _⟩) (v := ?_) rfl (by kernel_rfl) (by kernel_rfl) (by kernel_rfl) (fun _ _ _ h => by first | exact h | cases h.1) (Or.inl ⟨by rfl, ?_⟩) (by assumption) ?_
 rotate_left
 ·intro wq hSw; (try dsimp only at hSw); go_simp; (try with_reducible rfl)
 (try simp only [Act.put, List.setIfInBounds_toArray, List.set_cons_zero, List.set_cons_succ])
 refine wpAnyH_take (i := 21) (oi := ⟨some 35, _, _, _, _, _⟩) (v := ?_) rfl (by kernel_rfl) (by kernel_rfl) (by kernel_rfl) (fun _ _ _ h => by first | exact h | cases h.1) (Or.inl ⟨by rfl, ?_⟩) (by assumption) ?_
 rotate_left
 ·intro wq hSw; (try dsimp only at hSw); go_simp; (try with_reducible rfl)
 (try simp only [Act.put, List.setIfInBounds_toArray, List.set_cons_zero, List.set_cons_succ])
 refine wpAnyH_take (i := 22) (oi := ⟨some 36, _, _, _, _, _⟩) (v := ?_) rfl (by kernel_rfl) (by kernel_rfl) (by kernel_rfl) (fun _ _ _ h => by first | exact h | cases h.1) (Or.inl ⟨by rfl, ?_⟩) (by assumption) ?_
 rotate_left
 ·intro wq hSw; (try dsimp only at hSw); go_simp; (try with_reducible rfl)
 (try simp only [Act.put, List.setIfInBounds_toArray, List.set_cons_zero, List.set_cons_succ])
 refine wpAnyH_ready (rs := [23]) (by kernel_rfl) (by simp) ?_
 refine AllReadyH.cons (o := ⟨some 37, _, _, _, _, _⟩) rfl (fun K hK => ?_) AllReadyH.nil
 go_simp
 refine Calls.mono (free_n (rt_below hx3.out kW) kn_dp hcn (by decide +kernel) kn_al) ?_
 rintro en wN ⟨v, ss, rfl, hme, hnd, -, hrow, kN⟩
 have hs1 := kn_free hme hnd
 obtain ⟨a, c, rfl, -⟩ := own_names hrow
 rw [hs1]
 clear hme hnd hrow
 replace kW := grow_step kN kW
 (try go_wp2_with fail)
 refine hK.out _ _ ?_ ?_
 ·exact hS _ kW
 clear hK K hHeld; intro hHeld
 (try simp only [Act.put, List.setIfInBounds_toArray, List.set_cons_zero, List.set_cons_succ])
 clear kN
 clear hs1
 refine wpAnyH_take (i := 24) (oi := ⟨some 38, _, _, _, _, _⟩) (v := ?_) rfl (by kernel_rfl) (by kernel_rfl) (by kernel_rfl) (fun _ _ _ h => by first | exact h | cases h.1) (Or.inl ⟨by rfl, ?_⟩) (by assumption) ?_
 rotate_left
 ·intro wq hSw; (try dsimp only at hSw); go_simp; (try with_reducible rfl)
 (try simp only [Act.put, List.setIfInBounds_toArray, List.set_cons_zero, List.set_cons_succ])
 refine wpAnyH_take (i := 25) (oi := ⟨some 39, _, _, _, _, _⟩) (v := ?_) rfl (by kernel_rfl) (by kernel_rfl) (by kernel_rfl) (fun _ _ _ h => by first | exact h | cases h.1) (Or.inl ⟨by rfl, ?_⟩) (by assumption) ?_
 rotate_left
 ·intro wq hSw; (try dsimp only at hSw); go_simp; (try with_reducible rfl)
 (try simp only [Act.put, List.setIfInBounds_toArray, List.set_cons_zero, List.set_cons_succ])
 refine wpAnyH_take (i := 26) (oi := ⟨some 40, _, _, _, _, _⟩) (v := ?_) rfl (by kernel_rfl) (by kernel_rfl) (by kernel_rfl) (fun _ _ _ h => by first | exact h | cases h.1) (Or.inl ⟨by rfl, ?_⟩) (by assumption) ?_
 rotate_left
 ·intro wq hSw; (try dsimp only at hSw); go_simp; (try with_reducible rfl)
 (try simp only [Act.put, List.setIfInBounds_toArray, List.set_cons_zero, List.set_cons_succ])
 refine wpAnyH_take (i := 27) (oi := ⟨some 41, _, _, _, _, _⟩) (v := ?_) rfl (by kernel_rfl) (by kernel_rfl) (by kernel_rfl) (fun _ _ _ h => by first | exact h | cases h.1) (Or.inl ⟨by rfl, ?_⟩) (by assumption) ?_
 rotate_left
 ·intro wq hSw; (try dsimp only at hSw); go_simp; (try with_reducible rfl)
 (try simp only [Act.put, List.setIfInBounds_toArray, List.set_cons_zero, List.set_cons_succ])
 refine wpAnyH_take (i := 28) (oi := ⟨some 42, _, _, _, _, _⟩) (v := ?_) rfl (by kernel_rfl) (by kernel_rfl) (by kernel_rfl) (fun _ _ _ h => by first | exact h | cases h.1) (Or.inl ⟨by rfl, ?_⟩) (by assumption) ?_
 rotate_left
 ·intro wq hSw; (try dsimp only at hSw); go_simp; (try with_reducible rfl)
 (try simp only [Act.put, List.setIfInBounds_toArray, List.set_cons_zero, List.set_cons_succ])
 refine wpAnyH_take (i := 29) (oi := ⟨some 43, _, _, _, _, _⟩) (v := ?_) rfl (by kernel_rfl) (by kernel_rfl) (by kernel_rfl) (fun _ _ _ h => by first | exact h | cases h.1) (Or.inl ⟨by rfl, ?_⟩) (by assumption) ?_
 rotate_left
 ·intro wq hSw; (try dsimp only at hSw); go_simp; (try with_reducible rfl)
 (try simp only [Act.put, List.setIfInBounds_toArray, List.set_cons_zero, List.set_cons_succ])
 refine wpAnyH_ready (rs := [30]) (by kernel_rfl) (by simp) ?_
 refine AllReadyH.cons (o := ⟨some 44, _, _, _, _, _⟩) rfl (fun K hK => ?_) AllReadyH.nil
 go_simp
 refine Calls.mono (same_n (rt_below hx3.out kW) (rt_below hx3.out kW) kn_dp hcn kn_al kn_al) ?_
 rintro en wN ⟨kN, r, hr, rfl⟩
 obtain rfl : r = true := hr.2 (sm_refl _)
 clear hr
 replace kW := grow_step kN kW
 (try go_wp2_with fail)
 refine hK.out _ _ ?_ ?_
 ·exact hS _ kW
 clear hK K hHeld; intro hHeld
 (try simp only [Act.put, List.setIfInBounds_toArray, List.set_cons_zero, List.set_cons_succ])
 clear kN
 refine wpAnyH_take (i := 31) (oi := ⟨some 45, _, _, _, _, _⟩) (v := ?_) rfl (by kernel_rfl) (by kernel_rfl) (by kernel_rfl) (fun _ _ _ h => by first | exact h | cases h.1) (Or.inl ⟨by rfl, ?_⟩) (by assumption) ?_
 rotate_left
 ·intro wq hSw; (try dsimp only at hSw); go_simp; (try with_reducible rfl)
 (try simp only [Act.put, List.setIfInBounds_toArray, List.set_cons_zero, List.set_cons_succ])
 refine wpAnyH_take (i := 32) (oi := ⟨some 46, _, _, _, _, _⟩) (v := ?_) rfl (by kernel_rfl) (by kernel_rfl) (by kernel_rfl) (fun _ _ _ h => by first | exact h | cases h.1) (Or.inl ⟨by rfl, ?_⟩) (by assumption) ?_
 rotate_left
 ·intro wq hSw; (try dsimp only at hSw); go_simp; (try with_reducible rfl)
 (try simp only [Act.put, List.setIfInBounds_toArray, List.set_cons_zero, List.set_cons_succ])
 refine wpAnyH_take (i := 33) (oi := ⟨some 47, _, _, _, _, _⟩) (v := ?_) rfl (by kernel_rfl) (by kernel_rfl) (by kernel_rfl) (fun _ _ _ h => by first | exact h | cases h.1) (Or.inl ⟨by rfl, ?_⟩) (by assumption) ?_
 rotate_left
 ·intro wq hSw; (try dsimp only at hSw); go_simp; (try with_reducible rfl)
 (try simp only [Act.put, List.setIfInBounds_toArray, List.set_cons_zero, List.set_cons_succ])
 refine wpAnyH_take (i := 35) (oi := ⟨some 49, _, _, _, _, _⟩) (v := ?_) rfl (by kernel_rfl) (by kernel_rfl) (by kernel_rfl) (fun _ _ _ h => by first | exact h | cases h.1) (Or.inl ⟨by rfl, ?_⟩) (by assumption) ?_
 rotate_left
 ·intro wq hSw; (try dsimp only at hSw); go_simp; (try with_reducible rfl)
 (try simp only [Act.put, List.setIfInBounds_toArray, List.set_cons_zero, List.set_cons_succ])
 refine wpAnyH_ready (rs := [34]) (by kernel_rfl) (by simp) ?_
 refine AllReadyH.cons (o := ⟨some 48, _, _, _, _, _⟩) rfl (fun K hK => ?_) AllReadyH.nil
 go_simp
 refine Calls.mono (copy_n (rt_below hx3.out kW) kn_dp hcn kn_al) ?_
 rintro en wN ⟨Y, rfl, hY, kN⟩
 rw [kn_cp] at hY
 replace hY : Rt An wN Y knT := hY.imp fun _ _ => trivial
 replace kW := grow_step kN kW
 (try go_wp2_with fail)
 refine hK.out _ _ ?_ ?_
 ·exact hS _ kW
 clear hK K hHeld; intro hHeld
 (try simp only [Act.put, List.setIfInBounds_toArray, List.set_cons_zero, List.set_cons_succ])
 clear kN
 refine wpAnyH_ready (rs := [36]) (by kernel_rfl) (by simp) ?_
 refine AllReadyH.cons (o := ⟨some 50, _, _, _, _, _⟩) rfl (fun K hK => ?_) AllReadyH.nil
 go_simp
 refine Calls.mono (same_n hY (rt_below hx3.out kW) kn_dp hcn kn_al kn_al) ?_
 rintro en wN ⟨kN, r, hr, rfl⟩
 obtain rfl : r = true := hr.2 (sm_refl _)
 clear hr hY
 replace kW := grow_step kN kW
 (try go_wp2_with fail)
 refine hK.out _ _ ?_ ?_
 ·exact hS _ kW
 clear hK K hHeld; intro hHeld
 (try simp only [Act.put, List.setIfInBounds_toArray, List.set_cons_zero, List.set_cons_succ])
 clear kN
 refine wpAnyH_take (i := 37) (oi := ⟨some 51, _, _, _, _, _⟩) (v := ?_) rfl (by kernel_rfl) (by kernel_rfl) (by kernel_rfl) (fun _ _ _ h => by first | exact h | cases h.1) (Or.inl ⟨by rfl, ?_⟩) (by assumption) ?_
 rotate_left
 ·intro wq hSw; (try dsimp only at hSw); go_simp; (try with_reducible rfl)
 (try simp only [Act.put, List.setIfInBounds_toArray, List.set_cons_zero, List.set_cons_succ])
 refine wpAnyH_ready (rs := [38]) (by kernel_rfl) (by simp) ?_
 refine AllReadyH.cons (o := ⟨some 0, _, _, _, _, _⟩) rfl (fun K hK => ?_) AllReadyH.nil
 go_simp
 refine hK.out _ _ ?_ ?_
 ·exact hS _ kW
 clear hK K hHeld; intro hHeld
 (try simp only [Act.put, List.setIfInBounds_toArray, List.set_cons_zero, List.set_cons_succ])
 refine wpAnyH_done (by kernel_rfl) ?_ _
 have kf := hide (grow_step kW kw3.out)
 clear hHeld hS heq heqk kW hx3 y3 m3 kw3
 go_wp2
 refine bodyPost_ret (results_tmp rfl _ _ _) rfl ?_
 exact ⟨rfl, kf.out⟩
end Sx
end Go.Proofs.YtkcklmipldcceaaGreatDoor

namespace Go.Proofs.YtkcklmipldcceaaGreatDoor
open Go.RowKit
namespace Sx

/-- what Parse answers, in one form -/
theorem pa_form {w : World} {s : ByteArray} {en : Ending} {w' : World} (h : PaR w s en w') : Below w.heap.size w w' ∧ ∃ (x : TC) (c p : Int), en = .returned (.tuple #[x.val, .agg #[.int .i64 c, .int .i64 p]]) ∧ ((c ≠ 0 ∧ x = tz ∧ ∃ d : Nat, PaD s (.inl (c, d)) ∧ p = d) ∨ (c = 0 ∧ p = 0 ∧ ∃ t, PaD s (.inr t) ∧ Rt (fun b => w.heap.size ≤ b) w' x t ∧ Few4 4096 t)) := by
 obtain ⟨k, r, hr, h⟩ := h
 refine ⟨k, ?_⟩
 cases r with
 | inl c =>
  obtain ⟨h1, h2⟩ := h
  exact ⟨tz, c.1, c.2, h2, .inl ⟨h1, rfl, c.2, hr, rfl⟩⟩
 | inr t =>
  obtain ⟨x, h1, h2, h3⟩ := h
  exact ⟨x, 0, 0, h1, .inr ⟨rfl, rfl, t, hr, h2, h3⟩⟩
end Sx
end Go.Proofs.YtkcklmipldcceaaGreatDoor

namespace Go.Proofs.YtkcklmipldcceaaGreatDoor
open Go.RowKit
namespace Sx

theorem wd_cell (kp : Nat) (h : kp < 4) : (#[Value.string ⟨#[97, 110, 100]⟩, .string ⟨#[111, 114]⟩, .string ⟨#[105, 109, 112, 108, 105, 101, 115]⟩, .string ⟨#[105, 102, 102]⟩] : Array Value)[kp]? = some (.string (wd (17 + kp))) := by
 match kp, h with
 | 0, _ => rfl
 | 1, _ => rfl
 | 2, _ => rfl
 | 3, _ => rfl
theorem kd_cell (kp : Nat) (h : kp < 4) : (#[Value.int .i64 17, .int .i64 18, .int .i64 19, .int .i64 20] : Array Value)[kp]? = some (.int .i64 ((17 + kp : Nat) : Int)) := by
 match kp, h with
 | 0, _ => rfl
 | 1, _ => rfl
 | 2, _ => rfl
 | 3, _ => rfl
theorem wd_size8 (kp : Nat) (h : kp < 4) : (wd (17 + kp)).size ≤ 8 := by
 match kp, h with
 | 0, _ => decide
 | 1, _ => decide
 | 2, _ => decide
 | 3, _ => decide
theorem eq_ms43 (w : World) : (binOp .eql 31 (.agg #[.int .i64 43, .int .i64 0]) (.agg #[.int .i64 43, .int .i64 0])).run Tryz.prog w = .ok (.bool true) w := by kernel_rfl
set_option maxRecDepth 100000 in
set_option maxHeartbeats 12800000 in
theorem syntaxJoins_walk {a b : ByteArray} {n : Int} {w : World} (hsa : a.size ≤ 1048576) (hsb : b.size ≤ 1048576) (h0 : -9223372036854775808 ≤ n) (h1 : n ≤ 9223372036854775807) (hS : Sgn w) (hwo : Wo w) (htab : Tab w) :
  Calls Tryz.prog 10 #[.string a, .string b, .int .i64 n] w fun e w' => e = .returned (.bool true) ∧ Below w.heap.size w w' := by
 have hpa := hide (parse_n a w (by omega) hS hwo)
 go_enter Tryz.func10, Tryz.ntmps10
 go_wp2_with fail
 refine hpa.out.mono ?_
 intro en w1 hp
 obtain ⟨k1, x, c, p, rfl, hca⟩ := pa_form hp
 clear hp hpa
 have b1 := below_alloc w1 (.cells #[.int .i64 x.k, .string x.nm, .slice x.na x.nn x.nc, .bool x.s, .slice x.a x.l x.c, .slice x.ka x.kn x.kc] 28)
 have b2 := below_alloc (w1.alloc (.cells #[.int .i64 x.k, .string x.nm, .slice x.na x.nn x.nc, .bool x.s, .slice x.a x.l x.c, .slice x.ka x.kn x.kc] 28)) (.cells #[.int .i64 c, .int .i64 p] 31)
 have kb := grow_step b2 b1
 have y1 := (vb_new w1 x).below b2
 have m1 := heap_alloc_new (w1.alloc (.cells #[.int .i64 x.k, .string x.nm, .slice x.na x.nn x.nc, .bool x.s, .slice x.a x.l x.c, .slice x.ka x.kn x.kc] 28)) (.cells #[.int .i64 c, .int .i64 p] 31)
 rw [show (w1.alloc (.cells #[.int .i64 x.k, .string x.nm, .slice x.na x.nn x.nc, .bool x.s, .slice x.a x.l x.c, .slice x.ka x.kn x.kc] 28)).heap.size = w1.heap.size + 1 by simp] at m1
 clear b1 b2
 have kw2 := hide (grow_step kb k1)
 have hS2 := hS.below kw2.out
 have hwo2 := hwo.kept (kw2.out.block _ hwo.lt)
 have htab2 := hide (htab.below kw2.out)
 have hca2 : Hid ((c ≠ 0 ∧ x = tz) ∨ (c = 0 ∧ p = 0 ∧ ∃ t, PaD a (.inr t) ∧ Rt An ((w1.alloc (.cells #[.int .i64 x.k, .string x.nm, .slice x.na x.nn x.nc, .bool x.s, .slice x.a x.l x.c, .slice x.ka x.kn x.kc] 28)).alloc (.cells #[.int .i64 c, .int .i64 p] 31)) x t ∧ Few4 4096 t)) := hide (hca.imp (fun h => ⟨h.1, h.2.1⟩) fun ⟨e1, e2, t, h1, h2, h3⟩ => ⟨e1, e2, t, h1, (h2.kf (Kf.of_below kb)).imp fun _ _ => trivial, h3⟩)
 clear hca hS hwo htab k1 kb
 go_upto_region 2 with (fail)
 generalize (w1.alloc (.cells #[.int .i64 x.k, .string x.nm, .slice x.na x.nn x.nc, .bool x.s, .slice x.a x.l x.c, .slice x.ka x.kn x.kc] 28)).alloc (.cells #[.int .i64 c, .int .i64 p] 31) = w2 at *
 generalize w1.heap.size = b1 at *
 have hpb := hide (parse_n b w2 (by omega) hS2 hwo2)
 go_wp2_with fail
 refine hpb.out.mono ?_
 intro en w3 hp
 obtain ⟨k3, y, d, q, rfl, hcb⟩ := pa_form hp
 clear hp hpb
 have b1 := below_alloc w3 (.cells #[.int .i64 y.k, .string y.nm, .slice y.na y.nn y.nc, .bool y.s, .slice y.a y.l y.c, .slice y.ka y.kn y.kc] 28)
 have b2 := below_alloc (w3.alloc (.cells #[.int .i64 y.k, .string y.nm, .slice y.na y.nn y.nc, .bool y.s, .slice y.a y.l y.c, .slice y.ka y.kn y.kc] 28)) (.cells #[.int .i64 d, .int .i64 q] 31)
 have kc := grow_step b2 b1
 have y2 := (vb_new w3 y).below b2
 have m2 := heap_alloc_new (w3.alloc (.cells #[.int .i64 y.k, .string y.nm, .slice y.na y.nn y.nc, .bool y.s, .slice y.a y.l y.c, .slice y.ka y.kn y.kc] 28)) (.cells #[.int .i64 d, .int .i64 q] 31)
 rw [show (w3.alloc (.cells #[.int .i64 y.k, .string y.nm, .slice y.na y.nn y.nc, .bool y.s, .slice y.a y.l y.c, .slice y.ka y.kn y.kc] 28)).heap.size = w3.heap.size + 1 by simp] at m2
 clear b1 b2
 have kd := grow_step kc k3
 have kw4 := hide (grow_step kd kw2.out)
 have hS4 := hS2.below kd
 have hwo4 := hwo2.kept (kd.block _ hwo2.lt)
 have htab4 := htab2.out.below kd
 have y3 := y1.below kd
 have m3 := (kd.block (b1 + 1) (lt_of_block m1)).trans m1
 have hcb2 : Hid ((d ≠ 0 ∧ y = tz) ∨ (d = 0 ∧ q = 0 ∧ ∃ t, PaD b (.inr t) ∧ Rt An ((w3.alloc (.cells #[.int .i64 y.k, .string y.nm, .slice y.na y.nn y.nc, .bool y.s, .slice y.a y.l y.c, .slice y.ka y.kn y.kc] 28)).alloc (.cells #[.int .i64 d, .int .i64 q] 31)) y t ∧ Few4 4096 t)) := hide (hcb.imp (fun h => ⟨h.1, h.2.1⟩) fun ⟨e1, e2, t, h1, h2, h3⟩ => ⟨e1, e2, t, h1, (h2.kf (Kf.of_below kc)).imp fun _ _ => trivial, h3⟩)
 have hca4 : Hid ((c ≠ 0 ∧ x = tz) ∨ (c = 0 ∧ p = 0 ∧ ∃ t, PaD a (.inr t) ∧ Rt An ((w3.alloc (.cells #[.int .i64 y.k, .string y.nm, .slice y.na y.nn y.nc, .bool y.s, .slice y.a y.l y.c, .slice y.ka y.kn y.kc] 28)).alloc (.cells #[.int .i64 d, .int .i64 q] 31)) x t ∧ Few4 4096 t)) := hide (hca2.out.imp id fun ⟨e1, e2, t, h1, h2, h3⟩ => ⟨e1, e2, t, h1, h2.kf (Kf.of_below kd), h3⟩)
 clear hcb hca2 hS2 hwo2 htab2 k3 kc kd kw2 y1 m1
 go_upto_region 3 with (fail)
 generalize (w3.alloc (.cells #[.int .i64 y.k, .string y.nm, .slice y.na y.nn y.nc, .bool y.s, .slice y.a y.l y.c, .slice y.ka y.kn y.kc] 28)).alloc (.cells #[.int .i64 d, .int .i64 q] 31) = w4 at *
 generalize w3.heap.size = b2 at *
 have b5 := below_alloc w4 (.cells #[.string ⟨#[97, 110, 100]⟩, .string ⟨#[111, 114]⟩, .string ⟨#[105, 109, 112, 108, 105, 101, 115]⟩, .string ⟨#[105, 102, 102]⟩] 9)
 have n5 := heap_alloc_new w4 (.cells #[.string ⟨#[97, 110, 100]⟩, .string ⟨#[111, 114]⟩, .string ⟨#[105, 109, 112, 108, 105, 101, 115]⟩, .string ⟨#[105, 102, 102]⟩] 9)
 have b6 := below_alloc (w4.alloc (.cells #[.string ⟨#[97, 110, 100]⟩, .string ⟨#[111, 114]⟩, .string ⟨#[105, 109, 112, 108, 105, 101, 115]⟩, .string ⟨#[105, 102, 102]⟩] 9)) (.cells #[.int .i64 17, .int .i64 18, .int .i64 19, .int .i64 20] 3)
 have n6 := heap_alloc_new (w4.alloc (.cells #[.string ⟨#[97, 110, 100]⟩, .string ⟨#[111, 114]⟩, .string ⟨#[105, 109, 112, 108, 105, 101, 115]⟩, .string ⟨#[105, 102, 102]⟩] 9)) (.cells #[.int .i64 17, .int .i64 18, .int .i64 19, .int .i64 20] 3)
 rw [show (w4.alloc (.cells #[.string ⟨#[97, 110, 100]⟩, .string ⟨#[111, 114]⟩, .string ⟨#[105, 109, 112, 108, 105, 101, 115]⟩, .string ⟨#[105, 102, 102]⟩] 9)).heap.size = w4.heap.size + 1 by simp] at n6
 have n7 := (b6.block w4.heap.size (lt_of_block n5)).trans n5
 have ke := grow_step b6 b5
 have kw6 := hide (grow_step ke kw4.out)
 have hS6 := hide (hS4.below ke)
 have hwo6 := hide (hwo4.kept (ke.block _ hwo4.lt))
 have htab6 := hide (htab4.below ke)
 have y5 := hide (y3.below ke)
 have m5 := hide ((ke.block (b1 + 1) (lt_of_block m3)).trans m3)
 have y6 := hide (y2.below ke)
 have m6 := hide ((ke.block (b2 + 1) (lt_of_block m2)).trans m2)
 obtain ⟨W6, hW6⟩ : ∃ W6, (w4.alloc (.cells #[.string ⟨#[97, 110, 100]⟩, .string ⟨#[111, 114]⟩, .string ⟨#[105, 109, 112, 108, 105, 101, 115]⟩, .string ⟨#[105, 102, 102]⟩] 9)).alloc (.cells #[.int .i64 17, .int .i64 18, .int .i64 19, .int .i64 20] 3) = W6 := ⟨_, rfl⟩
 have hca6 : Hid ((c ≠ 0 ∧ x = tz) ∨ (c = 0 ∧ p = 0 ∧ ∃ t, PaD a (.inr t) ∧ Rt An W6 x t ∧ Few4 4096 t)) := hide (hca4.out.imp id fun ⟨e1, e2, t, h1, h2, h3⟩ => ⟨e1, e2, t, h1, hW6 ▸ h2.kf (Kf.of_below ke), h3⟩)
 have hcb6 : Hid ((d ≠ 0 ∧ y = tz) ∨ (d = 0 ∧ q = 0 ∧ ∃ t, PaD b (.inr t) ∧ Rt An W6 y t ∧ Few4 4096 t)) := hide (hcb2.out.imp id fun ⟨e1, e2, t, h1, h2, h3⟩ => ⟨e1, e2, t, h1, hW6 ▸ h2.kf (Kf.of_below ke), h3⟩)
 clear hca4 hcb2 b5 b6 n5 ke hS4 hwo4 htab4 kw4 y2 y3 m2 m3
 obtain ⟨kp, hkp⟩ : ∃ kp, pkN n 4 = kp := ⟨_, rfl⟩
 have hk4 : kp < 4 := by
  rw [← hkp]
  unfold pkN
  omega
 have hpk := fun u : World => hide (pick4_n n 4 h0 h1 (by decide) (by decide) u)
 simp only [hkp] at hpk
 clear hkp
 go_upto_region 5 with (fail)
 rw [hW6] at kw6 hS6 hwo6 htab6 y5 m5 y6 m6 n6 n7
 clear hW6
 generalize w4.heap.size = b4 at *
 have hp6 := hpk W6
 clear hpk
 go_wp2_with fail
 refine hp6.out.mono ?_
 rintro en w7 ⟨rfl, rfl⟩
 clear hp6
 have ct := cell_of_row W6 b4 kp _ _ (0, 0) n7
 rw [wd_cell kp hk4] at ct
 have hw8 := wd_size8 kp hk4
 have hkk : 17 ≤ 17 + kp ∧ 17 + kp ≤ 20 := by omega
 have hi4 : (kp : Int) < 4 := by omega
 have ha1 : ∀ u : World, (Op.stringOp .add ⟨#[40]⟩ a).run Tryz.prog u = .ok (.string (⟨#[40]⟩ ++ a)) u := fun u => run_string_add_sum _ _ _ (by show 1 + a.size ≤ _; omega)
 have ha2 : ∀ u : World, (Op.stringOp .add (⟨#[40]⟩ ++ a) ⟨#[41, 32]⟩).run Tryz.prog u = .ok (.string (⟨#[40]⟩ ++ a ++ ⟨#[41, 32]⟩)) u := fun u => run_string_add_sum _ _ _ (by rw [size_app]; show 1 + a.size + 2 ≤ _; omega)
 have ha3 : ∀ u : World, (Op.stringOp .add (⟨#[40]⟩ ++ a ++ ⟨#[41, 32]⟩) (wd (17 + kp))).run Tryz.prog u = .ok (.string (⟨#[40]⟩ ++ a ++ ⟨#[41, 32]⟩ ++ wd (17 + kp))) u := fun u => run_string_add_sum _ _ _ (by rw [size_app, size_app]; show 1 + a.size + 2 + _ ≤ _; omega)
 have ha4 : ∀ u : World, (Op.stringOp .add (⟨#[40]⟩ ++ a ++ ⟨#[41, 32]⟩ ++ wd (17 + kp)) ⟨#[32, 40]⟩).run Tryz.prog u = .ok (.string (⟨#[40]⟩ ++ a ++ ⟨#[41, 32]⟩ ++ wd (17 + kp) ++ ⟨#[32, 40]⟩)) u := fun u => run_string_add_sum _ _ _ (by rw [size_app, size_app, size_app]; show 1 + a.size + 2 + _ + 2 ≤ _; omega)
 have ha5 : ∀ u : World, (Op.stringOp .add (⟨#[40]⟩ ++ a ++ ⟨#[41, 32]⟩ ++ wd (17 + kp) ++ ⟨#[32, 40]⟩) b).run Tryz.prog u = .ok (.string (⟨#[40]⟩ ++ a ++ ⟨#[41, 32]⟩ ++ wd (17 + kp) ++ ⟨#[32, 40]⟩ ++ b)) u := fun u => run_string_add_sum _ _ _ (by rw [size_app, size_app, size_app, size_app]; show 1 + a.size + 2 + _ + 2 + _ ≤ _; omega)
 have ha6 : ∀ u : World, (Op.stringOp .add (⟨#[40]⟩ ++ a ++ ⟨#[41, 32]⟩ ++ wd (17 + kp) ++ ⟨#[32, 40]⟩ ++ b) ⟨#[41]⟩).run Tryz.prog u = .ok (.string (jn a (wd (17 + kp)) b)) u := fun u => run_string_add_sum _ _ _ (by rw [size_app, size_app, size_app, size_app, size_app]; show 1 + a.size + 2 + _ + 2 + _ + 1 ≤ _; omega)
 go_upto_region 7 with (fail)
 clear ha1 ha2 ha3 ha4 ha5 ha6 ct
 have c5 := cell_of_row W6 (b1 + 1) 0 _ _ (0, 0) m5.out
 have c6 := cell_of_row W6 (b2 + 1) 0 _ _ (0, 0) m6.out
 have hkn := hide (known4_n W6 hS6.out hwo6.out htab6.out)
 rcases hca6.out with ⟨hc, -⟩ | ⟨rfl, rfl, tx, hta, hxa, hfa⟩
 ·have hcb : (c != 0) = true := by simpa using hc
  clear hca6 hcb6 hc y5 y6 n6 n7 m5 m6
  go_wp2_with fail
  refine hkn.out.mono ?_
  rintro en wN ⟨rfl, kN⟩
  have kf := hide (grow_step kN kw6.out)
  clear hkn kN
  go_wp2
  refine bodyPost_ret (results_tmp rfl _ _ _) rfl ?_
  exact ⟨rfl, kf.out⟩
 rcases hcb6.out with ⟨hd, -⟩ | ⟨rfl, rfl, ty, htb, hyb, hfb⟩
 ·have hdb : (d != 0) = true := by simpa using hd
  clear hca6 hcb6 hd y5 y6 n6 n7 m5 m6 hta hxa hfa
  go_wp2_with fail
  refine hkn.out.mono ?_
  rintro en wN ⟨rfl, kN⟩
  have kf := hide (grow_step kN kw6.out)
  clear hkn kN
  go_wp2
  refine bodyPost_ret (results_tmp rfl _ _ _) rfl ?_
  exact ⟨rfl, kf.out⟩
 obtain ⟨T, hT⟩ : ∃ T, jn a (wd (17 + kp)) b = T := ⟨_, rfl⟩
 have hjs := jn_size a (wd (17 + kp)) b
 rw [hT] at hjs ⊢
 clear hca6 hcb6
 by_cases hbig : 4096 < T.size
 ·have hgt : decide ((4096 : Int) < (T.size : Int)) = true := by
   rw [decide_eq_true_eq]
   omega
  clear y5 y6 n6 n7 m5 m6 hta hxa hfa htb hyb hfb hjs
  go_wp2_with fail
  refine hkn.out.mono ?_
  rintro en wN ⟨rfl, kN⟩
  have kf := hide (grow_step kN kw6.out)
  clear hkn kN
  go_wp2
  refine bodyPost_ret (results_tmp rfl _ _ _) rfl ?_
  exact ⟨rfl, kf.out⟩
 have hgt : decide ((4096 : Int) < (T.size : Int)) = false := by
  rw [decide_eq_false_iff_not]
  omega
 clear hkn
 have hpj := pa_join hta htb hkk (by rw [hT]; omega)
 rw [hT] at hpj
 have hpS := hide (parse_n T W6 (by omega) hS6.out hwo6.out)
 have hdx := (pa_nm hta).2
 have hdy := (pa_nm htb).2
 have hex := pa_ex hta hfa
 have hey := pa_ex htb hfb
 have hna : PaD (nt a) (.inr (nd (lk 16) [tx])) ∨ Dp 59 tx := by
  by_cases h : Dp 59 tx
  ·exact .inr h
  ·exact .inl (pa_not hta (by rw [nt_size]; omega) h)
 have hnz : (nt a).size ≤ 4096 := by rw [nt_size]; omega
 replace hna := hide hna
 replace hjs := hide hjs
 replace hta := hide hta
 replace htb := hide htb
 replace hex := hide hex
 replace hey := hide hey
 replace hxa := hide hxa
 replace hyb := hide hyb
 replace hdx := hide hdx
 replace hdy := hide hdy
 go_wp2_with fail
 refine hpS.out.mono ?_
 rintro en w7 ⟨k7, r, hr, h⟩
 clear hpS c5 c6
 by_cases hdp : Dp 60 (nd (lk ((17 + kp : Nat) : Int)) [tx, ty])
 ·obtain rfl : r = .inl (43, 0) := paD_one hr (hpj.2 hdp)
  obtain ⟨-, rfl⟩ := h
  clear hr hpj hna hta htb
  have b1 := below_alloc w7 (.cells #[.int .i64 tz.k, .string tz.nm, .slice tz.na tz.nn tz.nc, .bool tz.s, .slice tz.a tz.l tz.c, .slice tz.ka tz.kn tz.kc] 28)
  have b2 := below_alloc (w7.alloc (.cells #[.int .i64 tz.k, .string tz.nm, .slice tz.na tz.nn tz.nc, .bool tz.s, .slice tz.a tz.l tz.c, .slice tz.ka tz.kn tz.kc] 28)) (.cells #[.int .i64 43, .int .i64 0] 31)
  have kc := grow_step b2 b1
  have y7 := (vb_new w7 tz).below b2
  have m7 := heap_alloc_new (w7.alloc (.cells #[.int .i64 tz.k, .string tz.nm, .slice tz.na tz.nn tz.nc, .bool tz.s, .slice tz.a tz.l tz.c, .slice tz.ka tz.kn tz.kc] 28)) (.cells #[.int .i64 43, .int .i64 0] 31)
  rw [show (w7.alloc (.cells #[.int .i64 tz.k, .string tz.nm, .slice tz.na tz.nn tz.nc, .bool tz.s, .slice tz.a tz.l tz.c, .slice tz.ka tz.kn tz.kc] 28)).heap.size = w7.heap.size + 1 by simp] at m7
  clear b1 b2
  have kd := grow_step kc k7
  have kw8 := hide (grow_step kd kw6.out)
  have hS8 := hide (hS6.out.below kd)
  have hwo8 := hide (hwo6.out.kept (kd.block _ hwo6.out.lt))
  have htab8 := hide (htab6.out.below kd)
  have y8 := y5.out.below kd
  have z8 := y6.out.below kd
  have hx8 := hide (hxa.out.kf (Kf.of_below kd))
  have hy8 := hide (hyb.out.kf (Kf.of_below kd))
  clear k7 kc kd y5 y6 m5 m6 n6 n7 hxa hyb hS6 hwo6 htab6 kw6
  go_upto_region 10 with (fail)
  generalize (w7.alloc (.cells #[.int .i64 tz.k, .string tz.nm, .slice tz.na tz.nn tz.nc, .bool tz.s, .slice tz.a tz.l tz.c, .slice tz.ka tz.kn tz.kc] 28)).alloc (.cells #[.int .i64 43, .int .i64 0] 31) = w8 at *
  generalize w7.heap.size = b7 at *
  replace m7 := hide m7
  replace y8 := hide y8
  replace z8 := hide z8
  clear y7
  have hor := dp_join.1 hdp
  clear hdp hT
  by_cases hdt : Dp 59 tx
  ·have e0 := y8.out.c0
   have e1 := y8.out.c1
   have e2 := y8.out.c2
   have e3 := y8.out.c3
   have e4 := y8.out.c4
   have e5 := y8.out.c5
   have hcd := hide (depth_n 60 (by decide) hx8.out hdx.out (fun i u hu => (hex.out i u hu).1))
   go_wp2_with fail
   refine hcd.out.mono ?_
   rintro en w9 ⟨rfl, k9⟩
   clear hcd e0 e1 e2 e3 e4 e5
   have hge : decide ((60 : Int) ≤ (depF 60 tx : Int)) = true := by
    have := (dep_iff 60 hdx.out (m := 59)).2 hdt
    rw [decide_eq_true_eq]
    omega
   have sT := hide (hS8.out.below k9)
   have oT := hide (hwo8.out.kept (k9.block _ hwo8.out.lt))
   have tT := hide (htab8.out.below k9)
   have mT := hide ((k9.block _ (lt_of_block m7.out)).trans m7.out)
   have kwT := hide (grow_step k9 kw8.out)
   have hkT := hide (known4_n w9 sT.out oT.out tT.out)
   clear k9 hS8 hwo8 htab8 m7 kw8 hor hdt y8 z8 hx8 hy8 sT oT tT
   have g0 := cell_of_row w9 (b7 + 1) 0 _ _ (0, 0) mT.out
   have g1 := cell_of_row w9 (b7 + 1) 1 _ _ (0, 0) mT.out
   have heq := eq_ms43
   go_wp2_with fail
   refine hkT.out.mono ?_
   rintro en wN ⟨rfl, kN⟩
   have kf := hide (grow_step kN kwT.out)
   clear hkT kN
   go_wp2
   refine bodyPost_ret (results_tmp rfl _ _ _) rfl ?_
   exact ⟨rfl, kf.out⟩
  ·have hdt2 := hor.resolve_left hdt
   have e0 := y8.out.c0
   have e1 := y8.out.c1
   have e2 := y8.out.c2
   have e3 := y8.out.c3
   have e4 := y8.out.c4
   have e5 := y8.out.c5
   have hcd := hide (depth_n 60 (by decide) hx8.out hdx.out (fun i u hu => (hex.out i u hu).1))
   go_wp2_with fail
   refine hcd.out.mono ?_
   rintro en w9 ⟨rfl, k9⟩
   clear hcd e0 e1 e2 e3 e4 e5
   have hge : decide ((60 : Int) ≤ (depF 60 tx : Int)) = false := by
    have := mt (dep_iff 60 hdx.out (m := 59)).1 hdt
    rw [decide_eq_false_iff_not]
    omega
   have s9 := hide (hS8.out.below k9)
   have o9 := hide (hwo8.out.kept (k9.block _ hwo8.out.lt))
   have t9 := hide (htab8.out.below k9)
   have m9 := hide ((k9.block _ (lt_of_block m7.out)).trans m7.out)
   have kw9 := hide (grow_step k9 kw8.out)
   have z9 := hide (z8.out.below k9)
   have hy9 := hide (hy8.out.kf (Kf.of_below k9))
   clear k9 hS8 hwo8 htab8 m7 kw8 hor hdt y8 z8 hx8 hy8
   have e0 := z9.out.c0
   have e1 := z9.out.c1
   have e2 := z9.out.c2
   have e3 := z9.out.c3
   have e4 := z9.out.c4
   have e5 := z9.out.c5
   have hcd := hide (depth_n 60 (by decide) hy9.out hdy.out (fun i u hu => (hey.out i u hu).1))
   go_wp2_with fail
   refine hcd.out.mono ?_
   rintro en w10 ⟨rfl, k10⟩
   clear hcd e0 e1 e2 e3 e4 e5
   have hge2 : decide ((60 : Int) ≤ (depF 60 ty : Int)) = true := by
    have := (dep_iff 60 hdy.out (m := 59)).2 hdt2
    rw [decide_eq_true_eq]
    omega
   have sT := hide (s9.out.below k10)
   have oT := hide (o9.out.kept (k10.block _ o9.out.lt))
   have tT := hide (t9.out.below k10)
   have mT := hide ((k10.block _ (lt_of_block m9.out)).trans m9.out)
   have kwT := hide (grow_step k10 kw9.out)
   have hkT := hide (known4_n w10 sT.out oT.out tT.out)
   clear k10 s9 o9 t9 m9 kw9 hdt2 z9 hy9 sT oT tT
   have g0 := cell_of_row w10 (b7 + 1) 0 _ _ (0, 0) mT.out
   have g1 := cell_of_row w10 (b7 + 1) 1 _ _ (0, 0) mT.out
   have heq := eq_ms43
   go_wp2_with fail
   refine hkT.out.mono ?_
   rintro en wN ⟨rfl, kN⟩
   have kf := hide (grow_step kN kwT.out)
   clear hkT kN
   go_wp2
   refine bodyPost_ret (results_tmp rfl _ _ _) rfl ?_
   exact ⟨rfl, kf.out⟩
 ·obtain rfl : r = .inr (nd (lk ((17 + kp : Nat) : Int)) [tx, ty]) := paD_one hr (hpj.1 hdp)
  obtain ⟨v, rfl, hv, -⟩ := h
  clear hr hpj hta htb
  have b1 := below_alloc w7 (.cells #[.int .i64 v.k, .string v.nm, .slice v.na v.nn v.nc, .bool v.s, .slice v.a v.l v.c, .slice v.ka v.kn v.kc] 28)
  have b2 := below_alloc (w7.alloc (.cells #[.int .i64 v.k, .string v.nm, .slice v.na v.nn v.nc, .bool v.s, .slice v.a v.l v.c, .slice v.ka v.kn v.kc] 28)) (.cells #[.int .i64 0, .int .i64 0] 31)
  have kc := grow_step b2 b1
  have y7 := (vb_new w7 v).below b2
  have m7 := heap_alloc_new (w7.alloc (.cells #[.int .i64 v.k, .string v.nm, .slice v.na v.nn v.nc, .bool v.s, .slice v.a v.l v.c, .slice v.ka v.kn v.kc] 28)) (.cells #[.int .i64 0, .int .i64 0] 31)
  rw [show (w7.alloc (.cells #[.int .i64 v.k, .string v.nm, .slice v.na v.nn v.nc, .bool v.s, .slice v.a v.l v.c, .slice v.ka v.kn v.kc] 28)).heap.size = w7.heap.size + 1 by simp] at m7
  clear b1 b2
  have kd := grow_step kc k7
  have kw8 := hide (grow_step kd kw6.out)
  have hS8 := hide (hS6.out.below kd)
  have hwo8 := hide (hwo6.out.kept (kd.block _ hwo6.out.lt))
  have htab8 := hide (htab6.out.below kd)
  have y8 := hide (y5.out.below kd)
  have z8 := hide (y6.out.below kd)
  have hx8 := hide (hxa.out.kf (Kf.of_below kd))
  have hy8 := hide (hyb.out.kf (Kf.of_below kd))
  have n8 := hide ((kd.block (b4 + 1) (lt_of_block n6)).trans n6)
  have hv8 := hide ((hv.kf (Kf.of_below kc)).imp (F' := An) fun _ _ => trivial)
  replace y7 := hide y7
  replace m7 := hide m7
  clear k7 kc kd y5 y6 m5 m6 n6 n7 hxa hyb hS6 hwo6 htab6 kw6 hv
  go_upto_region 10 with (fail)
  generalize (w7.alloc (.cells #[.int .i64 v.k, .string v.nm, .slice v.na v.nn v.nc, .bool v.s, .slice v.a v.l v.c, .slice v.ka v.kn v.kc] 28)).alloc (.cells #[.int .i64 0, .int .i64 0] 31) = w8 at *
  generalize w7.heap.size = b7 at *
  have hnor := fun h => hdp (dp_join.2 h)
  have hnx : ¬ Dp 59 tx := fun h => hnor (.inl h)
  have hny : ¬ Dp 59 ty := fun h => hnor (.inr h)
  have hnt := hide (hna.out.resolve_right hnx)
  clear hnor hT hna
  have e0 := y8.out.c0
  have e1 := y8.out.c1
  have e2 := y8.out.c2
  have e3 := y8.out.c3
  have e4 := y8.out.c4
  have e5 := y8.out.c5
  have hcd := hide (depth_n 60 (by decide) hx8.out hdx.out (fun i u hu => (hex.out i u hu).1))
  go_wp2_with fail
  refine hcd.out.mono ?_
  rintro en w9 ⟨rfl, k9⟩
  clear hcd e0 e1 e2 e3 e4 e5
  have hge : decide ((60 : Int) ≤ (depF 60 tx : Int)) = false := by
   have := mt (dep_iff 60 hdx.out (m := 59)).1 hnx
   rw [decide_eq_false_iff_not]
   omega
  have s9 := hide (hS8.out.below k9)
  have o9 := hide (hwo8.out.kept (k9.block _ hwo8.out.lt))
  have t9 := hide (htab8.out.below k9)
  have m9 := hide ((k9.block _ (lt_of_block m7.out)).trans m7.out)
  have n9 := hide ((k9.block _ (lt_of_block n8.out)).trans n8.out)
  have kw9 := hide (grow_step k9 kw8.out)
  have y9 := hide (y8.out.below k9)
  have z9 := hide (z8.out.below k9)
  have v9 := hide (y7.out.below k9)
  have hx9 := hide (hx8.out.kf (Kf.of_below k9))
  have hy9 := hide (hy8.out.kf (Kf.of_below k9))
  have hv9 := hide (hv8.out.kf (Kf.of_below k9))
  clear k9 hS8 hwo8 htab8 m7 n8 kw8 hnx y8 z8 y7 hx8 hy8 hv8
  have e0 := z9.out.c0
  have e1 := z9.out.c1
  have e2 := z9.out.c2
  have e3 := z9.out.c3
  have e4 := z9.out.c4
  have e5 := z9.out.c5
  have hcd := hide (depth_n 60 (by decide) hy9.out hdy.out (fun i u hu => (hey.out i u hu).1))
  go_wp2_with fail
  refine hcd.out.mono ?_
  rintro en w10 ⟨rfl, k10⟩
  clear hcd e0 e1 e2 e3 e4 e5
  have hge2 : decide ((60 : Int) ≤ (depF 60 ty : Int)) = false := by
   have := mt (dep_iff 60 hdy.out (m := 59)).1 hny
   rw [decide_eq_false_iff_not]
   omega
  have s10 := hide (s9.out.below k10)
  have o10 := hide (o9.out.kept (k10.block _ o9.out.lt))
  have t10 := hide (t9.out.below k10)
  have m10 := hide ((k10.block _ (lt_of_block m9.out)).trans m9.out)
  have n10 := hide ((k10.block _ (lt_of_block n9.out)).trans n9.out)
  have kw10 := hide (grow_step k10 kw9.out)
  have y10 := hide (y9.out.below k10)
  have z10 := hide (z9.out.below k10)
  have v10 := hide (v9.out.below k10)
  have hx10 := hide (hx9.out.kf (Kf.of_below k10))
  have hy10 := hide (hy9.out.kf (Kf.of_below k10))
  have hv10 := hide (hv9.out.kf (Kf.of_below k10))
  clear k10 s9 o9 t9 m9 n9 kw9 hny y9 z9 v9 hx9 hy9 hv9
  have hpN := hide (parse_n (nt a) w10 (by omega) s10.out o10.out)
  have ha1 : ∀ u : World, (Op.stringOp .add ⟨#[110, 111, 116, 32, 40]⟩ a).run Tryz.prog u = .ok (.string (⟨#[110, 111, 116, 32, 40]⟩ ++ a)) u := fun u => run_string_add_sum _ _ _ (by show 5 + a.size ≤ _; omega)
  have ha2 : ∀ u : World, (Op.stringOp .add (⟨#[110, 111, 116, 32, 40]⟩ ++ a) ⟨#[41]⟩).run Tryz.prog u = .ok (.string (nt a)) u := fun u => run_string_add_sum _ _ _ (by rw [size_app]; show 5 + a.size + 1 ≤ _; omega)
  go_wp2_with fail
  refine hpN.out.mono ?_
  rintro en w11 ⟨k11, r, hr, h⟩
  obtain rfl : r = .inr (nd (lk 16) [tx]) := paD_one hr hnt.out
  obtain ⟨u, rfl, hu, -⟩ := h
  clear hr hnt hpN ha1 ha2
  have b1 := below_alloc w11 (.cells #[.int .i64 u.k, .string u.nm, .slice u.na u.nn u.nc, .bool u.s, .slice u.a u.l u.c, .slice u.ka u.kn u.kc] 28)
  have b2 := below_alloc (w11.alloc (.cells #[.int .i64 u.k, .string u.nm, .slice u.na u.nn u.nc, .bool u.s, .slice u.a u.l u.c, .slice u.ka u.kn u.kc] 28)) (.cells #[.int .i64 0, .int .i64 0] 31)
  have kc := grow_step b2 b1
  have y11 := (vb_new w11 u).below b2
  have m11 := heap_alloc_new (w11.alloc (.cells #[.int .i64 u.k, .string u.nm, .slice u.na u.nn u.nc, .bool u.s, .slice u.a u.l u.c, .slice u.ka u.kn u.kc] 28)) (.cells #[.int .i64 0, .int .i64 0] 31)
  rw [show (w11.alloc (.cells #[.int .i64 u.k, .string u.nm, .slice u.na u.nn u.nc, .bool u.s, .slice u.a u.l u.c, .slice u.ka u.kn u.kc] 28)).heap.size = w11.heap.size + 1 by simp] at m11
  clear b1 b2
  have kd := grow_step kc k11
  have sT := hide (s10.out.below kd)
  have oT := hide (o10.out.kept (kd.block _ o10.out.lt))
  have tT := hide (t10.out.below kd)
  have mT := hide ((kd.block _ (lt_of_block m10.out)).trans m10.out)
  have nT := hide ((kd.block _ (lt_of_block n10.out)).trans n10.out)
  have kwT := hide (grow_step kd kw10.out)
  have yT := hide (y10.out.below kd)
  have zT := hide (z10.out.below kd)
  have vT := hide (v10.out.below kd)
  have hxT := hide (hx10.out.kf (Kf.of_below kd))
  have hyT := hide (hy10.out.kf (Kf.of_below kd))
  have hvT := hide (hv10.out.kf (Kf.of_below kd))
  have huT := hide ((hu.kf (Kf.of_below kc)).imp (F' := An) fun _ _ => trivial)
  replace y11 := hide y11
  replace m11 := hide m11
  clear k11 kc kd hu s10 o10 t10 m10 n10 kw10 y10 z10 v10 hx10 hy10 hv10
  go_upto_region 13 with (fail)
  generalize (w11.alloc (.cells #[.int .i64 u.k, .string u.nm, .slice u.na u.nn u.nc, .bool u.s, .slice u.a u.l u.c, .slice u.ka u.kn u.kc] 28)).alloc (.cells #[.int .i64 0, .int .i64 0] 31) = w12 at *
  generalize w11.heap.size = b11 at *
  have heq := eq_ms0
  have hkc : (#[Value.int .i64 17, .int .i64 18, .int .i64 19, .int .i64 20] : Array Value)[kp]? = some (.int .i64 ((17 + kp : Nat) : Int)) := kd_cell kp hk4
  obtain ⟨kk, hkk2⟩ : ∃ kk : Int, ((17 + kp : Nat) : Int) = kk := ⟨_, rfl⟩
  rw [hkk2] at hkc hvT
  have hS : ∀ W, Below w12.heap.size w12 W → (W.cell? ⟨b7 + 1, 0, none⟩ = some (.int .i64 0) ∧ W.cell? ⟨b7 + 1, 1, none⟩ = some (.int .i64 0)) ∧ (W.cell? ⟨b11 + 1, 0, none⟩ = some (.int .i64 0) ∧ W.cell? ⟨b11 + 1, 1, none⟩ = some (.int .i64 0)) ∧ W.cell? ⟨b4 + 1, kp, none⟩ = some (.int .i64 kk) ∧ (W.cell? ⟨b7, 0, none⟩ = some (.int .i64 v.k) ∧ W.cell? ⟨b7, 1, none⟩ = some (.string v.nm) ∧ W.cell? ⟨b7, 2, none⟩ = some (.slice v.na v.nn v.nc) ∧ W.cell? ⟨b7, 3, none⟩ = some (.bool v.s) ∧ W.cell? ⟨b7, 4, none⟩ = some (.slice v.a v.l v.c) ∧ W.cell? ⟨b7, 5, none⟩ = some (.slice v.ka v.kn v.kc)) ∧ (W.cell? ⟨b1, 0, none⟩ = some (.int .i64 x.k) ∧ W.cell? ⟨b1, 1, none⟩ = some (.string x.nm) ∧ W.cell? ⟨b1, 2, none⟩ = some (.slice x.na x.nn x.nc) ∧ W.cell? ⟨b1, 3, none⟩ = some (.bool x.s) ∧ W.cell? ⟨b1, 4, none⟩ = some (.slice x.a x.l x.c) ∧ W.cell? ⟨b1, 5, none⟩ = some (.slice x.ka x.kn x.kc)) ∧ (W.cell? ⟨b2, 0, none⟩ = some (.int .i64 y.k) ∧ W.cell? ⟨b2, 1, none⟩ = some (.string y.nm) ∧ W.cell? ⟨b2, 2, none⟩ = some (.slice y.na y.nn y.nc) ∧ W.cell? ⟨b2, 3, none⟩ = some (.bool y.s) ∧ W.cell? ⟨b2, 4, none⟩ = some (.slice y.a y.l y.c) ∧ W.cell? ⟨b2, 5, none⟩ = some (.slice y.ka y.kn y.kc)) ∧ (W.cell? ⟨b11, 0, none⟩ = some (.int .i64 u.k) ∧ W.cell? ⟨b11, 1, none⟩ = some (.string u.nm) ∧ W.cell? ⟨b11, 2, none⟩ = some (.slice u.na u.nn u.nc) ∧ W.cell? ⟨b11, 3, none⟩ = some (.bool u.s) ∧ W.cell? ⟨b11, 4, none⟩ = some (.slice u.a u.l u.c) ∧ W.cell? ⟨b11, 5, none⟩ = some (.slice u.ka u.kn u.kc)) := fun W k => by
   have v1 := vT.out.below k
   have v2 := yT.out.below k
   have v3 := zT.out.below k
   have v4 := y11.out.below k
   have q1 := (k.block _ (lt_of_block mT.out)).trans mT.out
   have q2 := (k.block _ (lt_of_block m11.out)).trans m11.out
   have q3 := (k.block _ (lt_of_block nT.out)).trans nT.out
   exact ⟨⟨cell_of_row W _ 0 _ _ (0, 0) q1, cell_of_row W _ 1 _ _ (0, 0) q1⟩, ⟨cell_of_row W _ 0 _ _ (0, 0) q2, cell_of_row W _ 1 _ _ (0, 0) q2⟩, (cell_of_row W _ kp _ _ (0, 0) q3).trans hkc, ⟨v1.c0, v1.c1, v1.c2, v1.c3, v1.c4, v1.c5⟩, ⟨v2.c0, v2.c1, v2.c2, v2.c3, v2.c4, v2.c5⟩, ⟨v3.c0, v3.c1, v3.c2, v3.c3, v3.c4, v3.c5⟩, v4.c0, v4.c1, v4.c2, v4.c3, v4.c4, v4.c5⟩
  have hexV : ∀ i u, At4 i (nd (lk kk) [tx, ty]) u → (ksO u).length ≤ 1073741824 ∧ (lbO u).nms.length ≤ 1073741824 := fun i u hu => by
   cases i with
   | zero => rw [show u = _ from hu]; exact ⟨by simp [ksO_nd], by simp [lbO_nd, lk]⟩
   | succ i =>
    obtain ⟨z, hz, h2⟩ := hu
    rw [ksO_nd] at hz
    simp only [List.mem_cons, List.not_mem_nil, or_false] at hz
    rcases hz with rfl | rfl
    ·exact hex.out i u h2
    ·exact hey.out i u h2
  have hexU : ∀ i u, At4 i (nd (lk 16) [tx]) u → (ksO u).length ≤ 1073741824 ∧ (lbO u).nms.length ≤ 1073741824 := fun i u hu => by
   cases i with
   | zero => rw [show u = _ from hu]; exact ⟨by simp [ksO_nd], by simp [lbO_nd, lk]⟩
   | succ i =>
    obtain ⟨z, hz, h2⟩ := hu
    rw [ksO_nd] at hz
    rw [List.mem_singleton.1 hz] at h2
    exact hex.out i u h2
  have hdV : ¬ Dp 60 (nd (lk kk) [tx, ty]) := hkk2 ▸ hdp
  have hdU : ¬ Dp 61 (nd (lk 16) [tx]) := fun h => by
   rw [dp_nd] at h
   obtain ⟨z, hz, h⟩ := h
   rw [List.mem_singleton.1 hz] at h
   exact hdx.out h
  replace hexV := hide hexV
  replace hexU := hide hexU
  replace hdV := hide hdV
  replace hdU := hide hdU
  replace hkk2 := hide hkk2
  clear hkc hdp
  refine wp_region_held_drew (S := fun W => (W.cell? ⟨b7 + 1, 0, none⟩ = some (.int .i64 0) ∧ W.cell? ⟨b7 + 1, 1, none⟩ = some (.int .i64 0)) ∧ (W.cell? ⟨b11 + 1, 0, none⟩ = some (.int .i64 0) ∧ W.cell? ⟨b11 + 1, 1, none⟩ = some (.int .i64 0)) ∧ W.cell? ⟨b4 + 1, kp, none⟩ = some (.int .i64 kk) ∧ (W.cell? ⟨b7, 0, none⟩ = some (.int .i64 v.k) ∧ W.cell? ⟨b7, 1, none⟩ = some (.string v.nm) ∧ W.cell? ⟨b7, 2, none⟩ = some (.slice v.na v.nn v.nc) ∧ W.cell? ⟨b7, 3, none⟩ = some (.bool v.s) ∧ W.cell? ⟨b7, 4, none⟩ = some (.slice v.a v.l v.c) ∧ W.cell? ⟨b7, 5, none⟩ = some (.slice v.ka v.kn v.kc)) ∧ (W.cell? ⟨b1, 0, none⟩ = some (.int .i64 x.k) ∧ W.cell? ⟨b1, 1, none⟩ = some (.string x.nm) ∧ W.cell? ⟨b1, 2, none⟩ = some (.slice x.na x.nn x.nc) ∧ W.cell? ⟨b1, 3, none⟩ = some (.bool x.s) ∧ W.cell? ⟨b1, 4, none⟩ = some (.slice x.a x.l x.c) ∧ W.cell? ⟨b1, 5, none⟩ = some (.slice x.ka x.kn x.kc)) ∧ (W.cell? ⟨b2, 0, none⟩ = some (.int .i64 y.k) ∧ W.cell? ⟨b2, 1, none⟩ = some (.string y.nm) ∧ W.cell? ⟨b2, 2, none⟩ = some (.slice y.na y.nn y.nc) ∧ W.cell? ⟨b2, 3, none⟩ = some (.bool y.s) ∧ W.cell? ⟨b2, 4, none⟩ = some (.slice y.a y.l y.c) ∧ W.cell? ⟨b2, 5, none⟩ = some (.slice y.ka y.kn y.kc)) ∧ (W.cell? ⟨b11, 0, none⟩ = some (.int .i64 u.k) ∧ W.cell? ⟨b11, 1, none⟩ = some (.string u.nm) ∧ W.cell? ⟨b11, 2, none⟩ = some (.slice u.na u.nn u.nc) ∧ W.cell? ⟨b11, 3, none⟩ = some (.bool u.s) ∧ W.cell? ⟨b11, 4, none⟩ = some (.slice u.a u.l u.c) ∧ W.cell? ⟨b11, 5, none⟩ = some (.slice u.ka u.kn u.kc))) (by kernel_rfl) (hS _ (grow_drew (Below.refl _ _))) (fun hHeld => ?_)
  show wpAnyH _ _ _ _ _ 31 _ _ _
  have kW := grow_drew (Below.refl w12.heap.size w12)
  generalize w12.drew = wD at *
  refine wpAnyH_take (i := 0) (oi := ⟨some 85, _, _, _, _, _⟩) (v := ?_) rfl (by kernel_rfl) (by kernel_rfl) (by kernel_rfl) (fun _ _ _ h => by first | exact h | cases h.1) (Or.inl ⟨by rfl, ?_⟩) (by assumption) ?_
  rotate_left
  ·intro wq hSw; (try dsimp only at hSw); go_simp; (try with_reducible rfl)
  (try simp only [Act.put, List.setIfInBounds_toArray, List.set_cons_zero, List.set_cons_succ])
  refine wpAnyH_take (i := 1) (oi := ⟨some 86, _, _, _, _, _⟩) (v := ?_) rfl (by kernel_rfl) (by kernel_rfl) (by kernel_rfl) (fun _ _ _ h => by first | exact h | cases h.1) (Or.inl ⟨by rfl, ?_⟩) (by assumption) ?_
  rotate_left
  ·intro wq hSw; (try dsimp only at hSw); go_simp; (try with_reducible rfl)
  (try simp only [Act.put, List.setIfInBounds_toArray, List.set_cons_zero, List.set_cons_succ])
  refine wpAnyH_take (i := 2) (oi := ⟨some 87, _, _, _, _, _⟩) (v := ?_) rfl (by kernel_rfl) (by kernel_rfl) (by kernel_rfl) (fun _ _ _ h => by first | exact h | cases h.1) (Or.inl ⟨by rfl, ?_⟩) (by assumption) ?_
  rotate_left
  ·intro wq hSw; (try dsimp only at hSw); go_simp; (try with_reducible rfl)
  (try simp only [Act.put, List.setIfInBounds_toArray, List.set_cons_zero, List.set_cons_succ])
  refine wpAnyH_take (i := 3) (oi := ⟨some 88, _, _, _, _, _⟩) (v := ?_) rfl (by kernel_rfl) (by kernel_rfl) (by kernel_rfl) (fun _ _ _ h => by first | exact h | cases h.1) (Or.inl ⟨by rfl, ?_⟩) (by assumption) ?_
  rotate_left
  ·intro wq hSw; (try dsimp only at hSw); go_simp; (try with_reducible rfl)
  (try simp only [Act.put, List.setIfInBounds_toArray, List.set_cons_zero, List.set_cons_succ])
  refine wpAnyH_take (i := 4) (oi := ⟨some 89, _, _, _, _, _⟩) (v := ?_) rfl (by kernel_rfl) (by kernel_rfl) (by kernel_rfl) (fun _ _ _ h => by first | exact h | cases h.1) (Or.inl ⟨by rfl, ?_⟩) (by assumption) ?_
  rotate_left
  ·intro wq hSw; (try dsimp only at hSw); go_simp; (try with_reducible rfl)
  (try simp only [Act.put, List.setIfInBounds_toArray, List.set_cons_zero, List.set_cons_succ])
  refine wpAnyH_take (i := 5) (oi := ⟨some 90, _, _, _, _, _⟩) (v := ?_) rfl (by kernel_rfl) (by kernel_rfl) (by kernel_rfl) (fun _ _ _ h => by first | exact h | cases h.1) (Or.inl ⟨by rfl, ?_⟩) (by assumption) ?_
  rotate_left
  ·intro wq hSw; (try dsimp only at hSw); go_simp; (try with_reducible rfl)
  (try simp only [Act.put, List.setIfInBounds_toArray, List.set_cons_zero, List.set_cons_succ])
  refine wpAnyH_take (i := 6) (oi := ⟨some 91, _, _, _, _, _⟩) (v := ?_) rfl (by kernel_rfl) (by kernel_rfl) (by kernel_rfl) (fun _ _ _ h => by first | exact h | cases h.1) (Or.inl ⟨by rfl, ?_⟩) (by assumption) ?_
  rotate_left
  ·intro wq hSw; (try dsimp only at hSw); go_simp; (try with_reducible rfl)
  (try simp only [Act.put, List.setIfInBounds_toArray, List.set_cons_zero, List.set_cons_succ])
  refine wpAnyH_take (i := 7) (oi := ⟨some 92, _, _, _, _, _⟩) (v := ?_) rfl (by kernel_rfl) (by kernel_rfl) (by kernel_rfl) (fun _ _ _ h => by first | exact h | cases h.1) (Or.inl ⟨by rfl, ?_⟩) (by assumption) ?_
  rotate_left
  ·intro wq hSw; (try dsimp only at hSw); go_simp; (try with_reducible rfl)
  (try simp only [Act.put, List.setIfInBounds_toArray, List.set_cons_zero, List.set_cons_succ])
  refine wpAnyH_take (i := 8) (oi := ⟨some 93, _, _, _, _, _⟩) (v := ?_) rfl (by kernel_rfl) (by kernel_rfl) (by kernel_rfl) (fun _ _ _ h => by first | exact h | cases h.1) (Or.inl ⟨by rfl, ?_⟩) (by assumption) ?_
  rotate_left
  ·intro wq hSw; (try dsimp only at hSw); go_simp; (try with_reducible rfl)
  (try simp only [Act.put, List.setIfInBounds_toArray, List.set_cons_zero, List.set_cons_succ])
  refine wpAnyH_take (i := 9) (oi := ⟨some 94, _, _, _, _, _⟩) (v := ?_) rfl (by kernel_rfl) (by kernel_rfl) (by kernel_rfl) (fun _ _ _ h => by first | exact h | cases h.1) (Or.inl ⟨by rfl, ?_⟩) (by assumption) ?_
  rotate_left
  ·intro wq hSw; (try dsimp only at hSw); go_simp; (try with_reducible rfl)
  (try simp only [Act.put, List.setIfInBounds_toArray, List.set_cons_zero, List.set_cons_succ])
  refine wpAnyH_take (i := 10) (oi := ⟨some 95, _, _, _, _, _⟩) (v := ?_) rfl (by kernel_rfl) (by kernel_rfl) (by kernel_rfl) (fun _ _ _ h => by first | exact h | cases h.1) (Or.inl ⟨by rfl, ?_⟩) (by assumption) ?_
  rotate_left
  ·intro wq hSw; (try dsimp only at hSw); go_simp; (try with_reducible rfl)
  (try simp only [Act.put, List.setIfInBounds_toArray, List.set_cons_zero, List.set_cons_succ])
  refine wpAnyH_ready (rs := [11]) (by kernel_rfl) (by simp) ?_
  refine AllReadyH.cons (o := ⟨some 96, _, _, _, _, _⟩) rfl (fun K hK => ?_) AllReadyH.nil
  have bA := below_alloc wD (.cells #[.int .i64 x.k, .string x.nm, .slice x.na x.nn x.nc, .bool x.s, .slice x.a x.l x.c, .slice x.ka x.kn x.kc, .int .i64 y.k, .string y.nm, .slice y.na y.nn y.nc, .bool y.s, .slice y.a y.l y.c, .slice y.ka y.kn y.kc] 28)
  have nA := heap_alloc_new wD (.cells #[.int .i64 x.k, .string x.nm, .slice x.na x.nn x.nc, .bool x.s, .slice x.a x.l x.c, .slice x.ka x.kn x.kc, .int .i64 y.k, .string y.nm, .slice y.na y.nn y.nc, .bool y.s, .slice y.a y.l y.c, .slice y.ka y.kn y.kc] 28)
  replace kW := grow_step bA kW
  go_simp
  refine hK.out _ _ ?_ ?_
  ·exact hS _ kW
  clear hK K hHeld; intro hHeld
  (try simp only [Act.put, List.setIfInBounds_toArray, List.set_cons_zero, List.set_cons_succ])
  clear bA
  generalize wD.alloc (.cells #[.int .i64 x.k, .string x.nm, .slice x.na x.nn x.nc, .bool x.s, .slice x.a x.l x.c, .slice x.ka x.kn x.kc, .int .i64 y.k, .string y.nm, .slice y.na y.nn y.nc, .bool y.s, .slice y.a y.l y.c, .slice y.ka y.kn y.kc] 28) = wA at *
  generalize wD.heap.size = bA at *
  refine wpAnyH_take (i := 12) (oi := ⟨some 97, _, _, _, _, _⟩) (v := ?_) rfl (by kernel_rfl) (by kernel_rfl) (by kernel_rfl) (fun _ _ _ h => by first | exact h | cases h.1) (Or.inl ⟨by rfl, ?_⟩) (by assumption) ?_
  rotate_left
  ·intro wq hSw; (try dsimp only at hSw); go_simp; (try with_reducible rfl)
  (try simp only [Act.put, List.setIfInBounds_toArray, List.set_cons_zero, List.set_cons_succ])
  refine wpAnyH_ready (rs := [13]) (by kernel_rfl) (by simp) ?_
  refine AllReadyH.cons (o := ⟨some 98, _, _, _, _, _⟩) rfl (fun K hK => ?_) AllReadyH.nil
  go_simp
  have q1 := hvT.out.kf (Kf.of_below kW)
  have q2 := rt_two (F := An) (k := kk) nA trivial (hxT.out.kf (Kf.of_below kW)) (hyT.out.kf (Kf.of_below kW))
  have q3 := exact_t 60 q1 q2 hdV.out hexV.out
  simp only [TC.val] at q3
  refine q3.mono ?_
  clear q1 q2 q3
  rintro en wN ⟨rfl, kN⟩
  replace kW := grow_step kN kW
  dsimp only
  refine hK.out _ _ ?_ ?_
  ·exact hS _ kW
  clear hK K hHeld; intro hHeld
  (try simp only [Act.put, List.setIfInBounds_toArray, List.set_cons_zero, List.set_cons_succ])
  clear kN nA
  refine wpAnyH_take (i := 14) (oi := ⟨some 99, _, _, _, _, _⟩) (v := ?_) rfl (by kernel_rfl) (by kernel_rfl) (by kernel_rfl) (fun _ _ _ h => by first | exact h | cases h.1) (Or.inl ⟨by rfl, ?_⟩) (by assumption) ?_
  rotate_left
  ·intro wq hSw; (try dsimp only at hSw); go_simp; (try with_reducible rfl)
  (try simp only [Act.put, List.setIfInBounds_toArray, List.set_cons_zero, List.set_cons_succ])
  refine wpAnyH_take (i := 15) (oi := ⟨some 100, _, _, _, _, _⟩) (v := ?_) rfl (by kernel_rfl) (by kernel_rfl) (by kernel_rfl) (fun _ _ _ h => by first | exact h | cases h.1) (Or.inl ⟨by rfl, ?_⟩) (by assumption) ?_
  rotate_left
  ·intro wq hSw; (try dsimp only at hSw); go_simp; (try with_reducible rfl)
  (try simp only [Act.put, List.setIfInBounds_toArray, List.set_cons_zero, List.set_cons_succ])
  refine wpAnyH_take (i := 16) (oi := ⟨some 101, _, _, _, _, _⟩) (v := ?_) rfl (by kernel_rfl) (by kernel_rfl) (by kernel_rfl) (fun _ _ _ h => by first | exact h | cases h.1) (Or.inl ⟨by rfl, ?_⟩) (by assumption) ?_
  rotate_left
  ·intro wq hSw; (try dsimp only at hSw); go_simp; (try with_reducible rfl)
  (try simp only [Act.put, List.setIfInBounds_toArray, List.set_cons_zero, List.set_cons_succ])
  refine wpAnyH_take (i := 17) (oi := ⟨some 102, _, _, _, _, _⟩) (v := ?_) rfl (by kernel_rfl) (by kernel_rfl) (by kernel_rfl) (fun _ _ _ h => by first | exact h | cases h.1) (Or.inl ⟨by rfl, ?_⟩) (by assumption) ?_
  rotate_left
  ·intro wq hSw; (try dsimp only at hSw); go_simp; (try with_reducible rfl)
  (try simp only [Act.put, List.setIfInBounds_toArray, List.set_cons_zero, List.set_cons_succ])
  refine wpAnyH_take (i := 18) (oi := ⟨some 103, _, _, _, _, _⟩) (v := ?_) rfl (by kernel_rfl) (by kernel_rfl) (by kernel_rfl) (fun _ _ _ h => by first | exact h | cases h.1) (Or.inl ⟨by rfl, ?_⟩) (by assumption) ?_
  rotate_left
  ·intro wq hSw; (try dsimp only at hSw); go_simp; (try with_reducible rfl)
  (try simp only [Act.put, List.setIfInBounds_toArray, List.set_cons_zero, List.set_cons_succ])
  refine wpAnyH_take (i := 19) (oi := ⟨some 104, _, _, _, _, _⟩) (v := ?_) rfl (by kernel_rfl) (by kernel_rfl) (by kernel_rfl) (fun _ _ _ h => by first | exact h | cases h.1) (Or.inl ⟨by rfl, ?_⟩) (by assumption) ?_
  rotate_left
  ·intro wq hSw; (try dsimp only at hSw); go_simp; (try with_reducible rfl)
  (try simp only [Act.put, List.setIfInBounds_toArray, List.set_cons_zero, List.set_cons_succ])
  refine wpAnyH_take (i := 20) (oi := ⟨some 105, _, _, _, _, _⟩) (v := ?_) rfl (by kernel_rfl) (by kernel_rfl) (by kernel_rfl) (fun _ _ _ h => by first | exact h | cases h.1) (Or.inl ⟨by rfl, ?_⟩) (by assumption) ?_
  rotate_left
  ·intro wq hSw; (try dsimp only at hSw); go_simp; (try with_reducible rfl)
  (try simp only [Act.put, List.setIfInBounds_toArray, List.set_cons_zero, List.set_cons_succ])
  refine wpAnyH_take (i := 21) (oi := ⟨some 106, _, _, _, _, _⟩) (v := ?_) rfl (by kernel_rfl) (by kernel_rfl) (by kernel_rfl) (fun _ _ _ h => by first | exact h | cases h.1) (Or.inl ⟨by rfl, ?_⟩) (by assumption) ?_
  rotate_left
  ·intro wq hSw; (try dsimp only at hSw); go_simp; (try with_reducible rfl)
  (try simp only [Act.put, List.setIfInBounds_toArray, List.set_cons_zero, List.set_cons_succ])
  refine wpAnyH_take (i := 22) (oi := ⟨some 107, _, _, _, _, _⟩) (v := ?_) rfl (by kernel_rfl) (by kernel_rfl) (by kernel_rfl) (fun _ _ _ h => by first | exact h | cases h.1) (Or.inl ⟨by rfl, ?_⟩) (by assumption) ?_
  rotate_left
  ·intro wq hSw; (try dsimp only at hSw); go_simp; (try with_reducible rfl)
  (try simp only [Act.put, List.setIfInBounds_toArray, List.set_cons_zero, List.set_cons_succ])
  refine wpAnyH_ready (rs := [23]) (by kernel_rfl) (by simp) ?_
  refine AllReadyH.cons (o := ⟨some 108, _, _, _, _, _⟩) rfl (fun K hK => ?_) AllReadyH.nil
  have bB := below_alloc wN (.cells #[.int .i64 x.k, .string x.nm, .slice x.na x.nn x.nc, .bool x.s, .slice x.a x.l x.c, .slice x.ka x.kn x.kc] 28)
  have nB := heap_alloc_new wN (.cells #[.int .i64 x.k, .string x.nm, .slice x.na x.nn x.nc, .bool x.s, .slice x.a x.l x.c, .slice x.ka x.kn x.kc] 28)
  replace kW := grow_step bB kW
  go_simp
  refine hK.out _ _ ?_ ?_
  ·exact hS _ kW
  clear hK K hHeld; intro hHeld
  (try simp only [Act.put, List.setIfInBounds_toArray, List.set_cons_zero, List.set_cons_succ])
  clear bB
  generalize wN.alloc (.cells #[.int .i64 x.k, .string x.nm, .slice x.na x.nn x.nc, .bool x.s, .slice x.a x.l x.c, .slice x.ka x.kn x.kc] 28) = wB at *
  generalize wN.heap.size = bB at *
  refine wpAnyH_take (i := 24) (oi := ⟨some 109, _, _, _, _, _⟩) (v := ?_) rfl (by kernel_rfl) (by kernel_rfl) (by kernel_rfl) (fun _ _ _ h => by first | exact h | cases h.1) (Or.inl ⟨by rfl, ?_⟩) (by assumption) ?_
  rotate_left
  ·intro wq hSw; (try dsimp only at hSw); go_simp; (try with_reducible rfl)
  (try simp only [Act.put, List.setIfInBounds_toArray, List.set_cons_zero, List.set_cons_succ])
  refine wpAnyH_ready (rs := [25]) (by kernel_rfl) (by simp) ?_
  refine AllReadyH.cons (o := ⟨some 110, _, _, _, _, _⟩) rfl (fun K hK => ?_) AllReadyH.nil
  go_simp
  have q1 := huT.out.kf (Kf.of_below kW)
  have q2 := rt_one (F := An) (y := ⟨16, ⟨#[]⟩, none, 0, 0, false, none, 0, 0, some ⟨bB, 0, none⟩, 1, 1⟩) nB trivial (hxT.out.kf (Kf.of_below kW)) (rl_k _ _ 16 _ 1 1) rfl rfl
  have q3 := exact_t 61 q1 q2 hdU.out hexU.out
  simp only [TC.val] at q3
  refine q3.mono ?_
  clear q1 q2 q3
  rintro en wM ⟨rfl, kM⟩
  replace kW := grow_step kM kW
  dsimp only
  refine hK.out _ _ ?_ ?_
  ·exact hS _ kW
  clear hK K hHeld; intro hHeld
  (try simp only [Act.put, List.setIfInBounds_toArray, List.set_cons_zero, List.set_cons_succ])
  clear kM nB
  refine wpAnyH_take (i := 26) (oi := ⟨some 111, _, _, _, _, _⟩) (v := ?_) rfl (by kernel_rfl) (by kernel_rfl) (by kernel_rfl) (fun _ _ _ h => by first | exact h | cases h.1) (Or.inl ⟨by rfl, ?_⟩) (by assumption) ?_
  rotate_left
  ·intro wq hSw; (try dsimp only at hSw); go_simp; (try with_reducible rfl)
  (try simp only [Act.put, List.setIfInBounds_toArray, List.set_cons_zero, List.set_cons_succ])
  refine wpAnyH_take (i := 27) (oi := ⟨some 112, _, _, _, _, _⟩) (v := ?_) rfl (by kernel_rfl) (by kernel_rfl) (by kernel_rfl) (fun _ _ _ h => by first | exact h | cases h.1) (Or.inl ⟨by rfl, ?_⟩) (by assumption) ?_
  rotate_left
  ·intro wq hSw; (try dsimp only at hSw); go_simp; (try with_reducible rfl)
  (try simp only [Act.put, List.setIfInBounds_toArray, List.set_cons_zero, List.set_cons_succ])
  refine wpAnyH_ready (rs := [28]) (by kernel_rfl) (by simp) ?_
  refine AllReadyH.cons (o := ⟨some 113, _, _, _, _, _⟩) rfl (fun K hK => ?_) AllReadyH.nil
  go_simp
  refine Calls.mono (known4_n wM (sT.out.below kW) (oT.out.kept (kW.block _ oT.out.lt)) (tT.out.below kW)) ?_
  rintro en wL ⟨rfl, kL⟩
  replace kW := grow_step kL kW
  dsimp only
  refine hK.out _ _ ?_ ?_
  ·exact hS _ kW
  clear hK K hHeld; intro hHeld
  (try simp only [Act.put, List.setIfInBounds_toArray, List.set_cons_zero, List.set_cons_succ])
  clear kL
  refine wpAnyH_take (i := 29) (oi := ⟨some 114, _, _, _, _, _⟩) (v := ?_) rfl (by kernel_rfl) (by kernel_rfl) (by kernel_rfl) (fun _ _ _ h => by first | exact h | cases h.1) (Or.inl ⟨by rfl, ?_⟩) (by assumption) ?_
  rotate_left
  ·intro wq hSw; (try dsimp only at hSw); go_simp; (try with_reducible rfl)
  (try simp only [Act.put, List.setIfInBounds_toArray, List.set_cons_zero, List.set_cons_succ])
  refine wpAnyH_ready (rs := [30]) (by kernel_rfl) (by simp) ?_
  refine AllReadyH.cons (o := ⟨some 6, _, _, _, _, _⟩) rfl (fun K hK => ?_) AllReadyH.nil
  go_simp
  refine hK.out _ _ ?_ ?_
  ·exact hS _ kW
  clear hK K hHeld; intro hHeld
  (try simp only [Act.put, List.setIfInBounds_toArray, List.set_cons_zero, List.set_cons_succ])
  refine wpAnyH_done (by kernel_rfl) ?_ _
  have kf := hide (grow_step kW kwT.out)
  clear hHeld hS heq kW hxT hyT hvT huT yT zT vT y11 m11 mT nT sT oT tT kwT hexV hexU hdV hdU
  go_wp2
  refine bodyPost_ret (results_tmp rfl _ _ _) rfl ?_
  exact ⟨rfl, kf.out⟩
end Sx
end Go.Proofs.YtkcklmipldcceaaGreatDoor
