/-
 Several texts in one: IL, IM, LSyntaxAround.
-/
import Derived.Test.YtkcklmipldcceaaGreatDoorSya26
import Derived.Test.YtkcklmipldcceaaGreatDoorSya27
import Derived.Test.YtkcklmipldcceaaGreatDoorSya29
namespace Go.Proofs.YtkcklmipldcceaaGreatDoor
open Go.RowKit
namespace Sx

/-- is it so of all nodes? -/
def evB (P : Tr → Bool) : Nat → Tr → Bool
 | 0, _ => true
 | f + 1, t => P t && (ksO t).all (evB P f)
theorem evB_all {P : Tr → Bool} (f : Nat) : ∀ {t : Tr}, evB P f t = true → ¬ Dp f t → ∀ n u, At4 n t u → P u = true := by
 induction f with
 | zero => exact fun _ h => absurd ⟨_, rfl⟩ h
 | succ f ih =>
  intro t h hd n u hu
  unfold evB at h
  rw [Bool.and_eq_true, List.all_eq_true] at h
  cases n with
  | zero => exact (show u = t from hu) ▸ h.1
  | succ n =>
   obtain ⟨v, hv, h2⟩ := hu
   exact ih (h.2 v hv) (fun ⟨z, hz⟩ => hd ⟨z, v, hv, hz⟩) n u h2
theorem kn_al : Al Bd4 knT := fun n u hu => by
 have h1 := evB_all (P := fun u => decide ((lbO u).xs.length ≤ 9) && decide ((lbO u).nm.size ≤ 9) && decide ((lbO u).nms.length ≤ 9) && (lbO u).nms.all (fun n => decide (n.size ≤ 9))) 60 (by kernel_rfl) kn_dp n u hu
 simp only [Bool.and_eq_true, decide_eq_true_eq, List.all_eq_true] at h1
 exact ⟨by omega, by omega, by omega, fun n hn => Nat.le_trans (h1.2 n hn) (by decide)⟩
theorem kn_ck {e : Int} (h : CkD knT e) : e = 0 := by
 unfold CkD at h
 have h0 : (shp (lbO knT).k).is = 2 := by kernel_rfl
 rw [if_neg (fun h => h h0)] at h
 have h1 : ∀ n u, At4 n knT u → stB (lbO u) (ksO u) = true := evB_all (P := fun u => stB (lbO u) (ksO u)) 60 (by kernel_rfl) kn_dp
 have h2 : ∀ n u, At4 n knT u → (!zdB u) = true := evB_all (P := fun u => !zdB u) 60 (by kernel_rfl) kn_dp
 rcases h with ⟨⟨n, u, hu, h⟩, -⟩ | ⟨-, ⟨⟨n, u, hu, h⟩, -⟩ | ⟨-, ⟨h, -⟩ | ⟨-, h⟩⟩⟩
 ·rw [h1 n u hu] at h
  cases h
 ·have := h2 n u hu
  rw [h] at this
  cases this
 ·exact absurd h kn_dp
 ·exact h
theorem kn_pr {s : ByteArray} {e : Int} (h : PrA 60 knT s e) : s = knO ∧ e = 0 := by
 obtain ⟨c, hc, h⟩ := h
 obtain rfl := kn_ck hc
 rw [if_neg (by decide), kn_print.2, if_neg (by decide)] at h
 refine ⟨h.1.trans ?_, h.2⟩
 rw [kn_print.1]
theorem kn_cp : cpT 60 knT = knT := by kernel_rfl
theorem sm_refl (t : Tr) : Sm (t, t) := fun f => by
 have key : ∀ f (q : P2), q.1 = q.2 → smF f q = true := by
  intro f
  induction f with
  | zero => exact fun _ _ => rfl
  | succ f ih =>
   intro q hq
   obtain ⟨a, b⟩ := q
   dsimp only at hq
   subst hq
   unfold smF
   rw [Bool.and_eq_true, List.all_eq_true]
   exact ⟨alB_self a, fun r hr => ih r (kz_self hr)⟩
 exact key f _ rfl
theorem kn_free {ss : List (List UInt8)} (h : ∀ x : List UInt8, x ∈ ss ↔ Fv [] knT ⟨x.toArray⟩) (hn : ss.Nodup) : ss.length = 1 := by
 have h1 : ∀ x : List UInt8, x ∈ ss ↔ x = [120] := fun x => by
  rw [h, kn_fv]
  constructor
  ·intro e
   have := congrArg (fun b : ByteArray => b.data.toList) e
   simpa using this
  ·rintro rfl
   rfl
 have hm : [120] ∈ ss := (h1 _).2 rfl
 match ss, h1, hn, hm with
 | [], _, _, hm => cases hm
 | [a], _, _, _ => rfl
 | a :: b :: l, h1, hn, _ =>
  have ea := (h1 a).1 (by simp)
  have eb := (h1 b).1 (by simp)
  rw [ea, eb] at hn
  simp at hn
end Sx
end Go.Proofs.YtkcklmipldcceaaGreatDoor

namespace Go.Proofs.YtkcklmipldcceaaGreatDoor
open Go.RowKit
namespace Sx

theorem eq_ms0 (w : World) : (binOp .eql 31 (.agg #[.int .i64 0, .int .i64 0]) (.agg #[.int .i64 0, .int .i64 0])).run Tryz.prog w = .ok (.bool true) w := by kernel_rfl
theorem eq_kn : (knO.toList == [110, 111, 116, 32, 120, 32, 60, 32, 49, 32, 111, 114, 32, 115, 111, 109, 101, 32, 121, 32, 46, 32, 50, 32, 100, 105, 118, 105, 100, 101, 115, 32, 120, 32, 45, 32, 40, 121, 32, 43, 32, 49, 41]) = true := by
 rw [ByteArray.toList_eq]
 decide +kernel
set_option maxRecDepth 100000 in
set_option maxHeartbeats 6400000 in
theorem known4_n (w : World) (hS : Sgn w) (hwo : Wo w) (htab : Tab w) : Calls Tryz.prog 15 #[] w fun en w' => en = .returned (.bool true) ∧ Below w.heap.size w w' := by
 have hpa := hide (parse_n knS w (by decide) hS hwo)
 go_enter Tryz.func15, Tryz.ntmps15
 go_wp2_with fail
 refine hpa.out.mono ?_
 rintro en w1 ⟨k1, r, hr, h⟩
 obtain rfl : r = .inr knT := paD_one hr kn_pa
 obtain ⟨x, rfl, hx, -⟩ := h
 clear hr hpa
 have b1 := below_alloc w1 (.cells #[.int .i64 x.k, .string x.nm, .slice x.na x.nn x.nc, .bool x.s, .slice x.a x.l x.c, .slice x.ka x.kn x.kc] 28)
 have b2 := below_alloc (w1.alloc (.cells #[.int .i64 x.k, .string x.nm, .slice x.na x.nn x.nc, .bool x.s, .slice x.a x.l x.c, .slice x.ka x.kn x.kc] 28)) (.cells #[.int .i64 0, .int .i64 0] 31)
 have kb := grow_step b2 b1
 have y1 := (vb_new w1 x).below b2
 have y2 := heap_alloc_new (w1.alloc (.cells #[.int .i64 x.k, .string x.nm, .slice x.na x.nn x.nc, .bool x.s, .slice x.a x.l x.c, .slice x.ka x.kn x.kc] 28)) (.cells #[.int .i64 0, .int .i64 0] 31)
 rw [show (w1.alloc (.cells #[.int .i64 x.k, .string x.nm, .slice x.na x.nn x.nc, .bool x.s, .slice x.a x.l x.c, .slice x.ka x.kn x.kc] 28)).heap.size = w1.heap.size + 1 by simp] at y2
 have hx2 : Rt An _ x knT := (rt_below hx kb).imp fun _ _ => trivial
 have kw := grow_step kb k1
 have hwo2 := hwo.kept (kw.block _ hwo.lt)
 have htab2 := htab.below kw
 have hpr := hide (print_n hx2 kn_dp (by rw [kn_cnt]; decide) kn_al hwo2 htab2)
 clear hS hwo htab hx b1 b2 k1 kb hwo2 htab2
 go_upto_region 2 with (fail)
 generalize (w1.alloc (.cells #[.int .i64 x.k, .string x.nm, .slice x.na x.nn x.nc, .bool x.s, .slice x.a x.l x.c, .slice x.ka x.kn x.kc] 28)).alloc (.cells #[.int .i64 0, .int .i64 0] 31) = w2 at *
 generalize w1.heap.size = bt at *
 have c0 := y1.c0
 have c1 := y1.c1
 have c2 := y1.c2
 have c3 := y1.c3
 have c4 := y1.c4
 have c5 := y1.c5
 go_wp2_with fail
 refine hpr.out.mono ?_
 rintro en w3 ⟨k3, s, e, hse, rfl⟩
 obtain ⟨rfl, rfl⟩ := kn_pr hse
 have y3 := hide (y1.below k3)
 have m3 := hide ((k3.block (bt + 1) (lt_of_block y2)).trans y2)
 have hx3 := hide (rt_below hx2 k3)
 have kw3 := hide (grow_step k3 kw)
 clear hpr hse c0 c1 c2 c3 c4 c5 y1 y2 hx2 kw k3
 go_upto_region 3 with (fail)
 have hS : ∀ W, Below w3.heap.size w3 W → (W.cell? ⟨bt, 0, none⟩ = some (.int .i64 x.k) ∧ W.cell? ⟨bt, 1, none⟩ = some (.string x.nm) ∧ W.cell? ⟨bt, 2, none⟩ = some (.slice x.na x.nn x.nc) ∧ W.cell? ⟨bt, 3, none⟩ = some (.bool x.s) ∧ W.cell? ⟨bt, 4, none⟩ = some (.slice x.a x.l x.c) ∧ W.cell? ⟨bt, 5, none⟩ = some (.slice x.ka x.kn x.kc)) ∧ W.cell? ⟨bt + 1, 0, none⟩ = some (.int .i64 0) ∧ W.cell? ⟨bt + 1, 1, none⟩ = some (.int .i64 0) := fun W k => by
  have hv := y3.out.below k
  have hm := (k.block (bt + 1) (lt_of_block m3.out)).trans m3.out
  exact ⟨⟨hv.c0, hv.c1, hv.c2, hv.c3, hv.c4, hv.c5⟩, cell_of_row W (bt + 1) 0 _ _ (0, 0) hm, cell_of_row W (bt + 1) 1 _ _ (0, 0) hm⟩
 have heq := eq_ms0
 have heqk := eq_kn
 have hcn : cntF 60 knT ≤ 1073741824 := by rw [kn_cnt]; decide
 refine wp_region_held_drew (S := fun W => (W.cell? ⟨bt, 0, none⟩ = some (.int .i64 x.k) ∧ W.cell? ⟨bt, 1, none⟩ = some (.string x.nm) ∧ W.cell? ⟨bt, 2, none⟩ = some (.slice x.na x.nn x.nc) ∧ W.cell? ⟨bt, 3, none⟩ = some (.bool x.s) ∧ W.cell? ⟨bt, 4, none⟩ = some (.slice x.a x.l x.c) ∧ W.cell? ⟨bt, 5, none⟩ = some (.slice x.ka x.kn x.kc)) ∧ W.cell? ⟨bt + 1, 0, none⟩ = some (.int .i64 0) ∧ W.cell? ⟨bt + 1, 1, none⟩ = some (.int .i64 0)) (by kernel_rfl) (hS _ (grow_drew (Below.refl _ _))) (fun hHeld => ?_)
 show wpAnyH _ _ _ _ _ 39 _ _ _
 have kW := grow_drew (Below.refl w3.heap.size w3)
 generalize w3.drew = wD at *
 refine wpAnyH_take (i := 0) (oi := ⟨some 14, _, _, _, _, _⟩) (v := ?_) rfl (by kernel_rfl) (by kernel_rfl) (by kernel_rfl) (fun _ _ _ h => by first | exact h | cases h.1) (Or.inl ⟨by rfl, ?_⟩) (by assumption) ?_
 rotate_left
 ·intro wq hSw; (try dsimp only at hSw); go_simp; (try with_reducible rfl)
 (try simp only [Act.put, List.setIfInBounds_toArray, List.set_cons_zero, List.set_cons_succ])
 refine wpAnyH_take (i := 1) (oi := ⟨some 15, _, _, _, _, _⟩) (v := ?_) rfl (by kernel_rfl) (by kernel_rfl) (by kernel_rfl) (fun _ _ _ h => by first | exact h | cases h.1) (Or.inl ⟨by rfl, ?_⟩) (by assumption) ?_
 rotate_left
 ·intro wq hSw; (try dsimp only at hSw); go_simp; (try with_reducible rfl)
 (try simp only [Act.put, List.setIfInBounds_toArray, List.set_cons_zero, List.set_cons_succ])
 refine wpAnyH_take (i := 2) (oi := ⟨some 16, _, _, _, _, _⟩) (v := ?_) rfl (by kernel_rfl) (by kernel_rfl) (by kernel_rfl) (fun _ _ _ h => by first | exact h | cases h.1) (Or.inl ⟨by rfl, ?_⟩) (by assumption) ?_
 rotate_left
 ·intro wq hSw; (try dsimp only at hSw); go_simp; (try with_reducible rfl)
 (try simp only [Act.put, List.setIfInBounds_toArray, List.set_cons_zero, List.set_cons_succ])
 refine wpAnyH_take (i := 3) (oi := ⟨some 17, _, _, _, _, _⟩) (v := ?_) rfl (by kernel_rfl) (by kernel_rfl) (by kernel_rfl) (fun _ _ _ h => by first | exact h | cases h.1) (Or.inl ⟨by rfl, ?_⟩) (by assumption) ?_
 rotate_left
 ·intro wq hSw; (try dsimp only at hSw); go_simp; (try with_reducible rfl)
 (try simp only [Act.put, List.setIfInBounds_toArray, List.set_cons_zero, List.set_cons_succ])
 refine wpAnyH_take (i := 4) (oi := ⟨some 18, _, _, _, _, _⟩) (v := ?_) rfl (by kernel_rfl) (by kernel_rfl) (by kernel_rfl) (fun _ _ _ h => by first | exact h | cases h.1) (Or.inl ⟨by rfl, ?_⟩) (by assumption) ?_
 rotate_left
 ·intro wq hSw; (try dsimp only at hSw); go_simp; (try with_reducible rfl)
 (try simp only [Act.put, List.setIfInBounds_toArray, List.set_cons_zero, List.set_cons_succ])
 refine wpAnyH_take (i := 5) (oi := ⟨some 19, _, _, _, _, _⟩) (v := ?_) rfl (by kernel_rfl) (by kernel_rfl) (by kernel_rfl) (fun _ _ _ h => by first | exact h | cases h.1) (Or.inl ⟨by rfl, ?_⟩) (by assumption) ?_
 rotate_left
 ·intro wq hSw; (try dsimp only at hSw); go_simp; (try with_reducible rfl)
 (try simp only [Act.put, List.setIfInBounds_toArray, List.set_cons_zero, List.set_cons_succ])
 refine wpAnyH_take (i := 6) (oi := ⟨some 20, _, _, _, _, _⟩) (v := ?_) rfl (by kernel_rfl) (by kernel_rfl) (by kernel_rfl) (fun _ _ _ h => by first | exact h | cases h.1) (Or.inl ⟨by rfl, ?_⟩) (by assumption) ?_
 rotate_left
 ·intro wq hSw; (try dsimp only at hSw); go_simp; (try with_reducible rfl)
 (try simp only [Act.put, List.setIfInBounds_toArray, List.set_cons_zero, List.set_cons_succ])
 refine wpAnyH_take (i := 7) (oi := ⟨some 21, _, _, _, _, _⟩) (v := ?_) rfl (by kernel_rfl) (by kernel_rfl) (by kernel_rfl) (fun _ _ _ h => by first | exact h | cases h.1) (Or.inl ⟨by rfl, ?_⟩) (by assumption) ?_
 rotate_left
 ·intro wq hSw; (try dsimp only at hSw); go_simp; (try with_reducible rfl)
 (try simp only [Act.put, List.setIfInBounds_toArray, List.set_cons_zero, List.set_cons_succ])
 refine wpAnyH_take (i := 8) (oi := ⟨some 22, _, _, _, _, _⟩) (v := ?_) rfl (by kernel_rfl) (by kernel_rfl) (by kernel_rfl) (fun _ _ _ h => by first | exact h | cases h.1) (Or.inl ⟨by rfl, ?_⟩) (by assumption) ?_
 rotate_left
 ·intro wq hSw; (try dsimp only at hSw); go_simp; (try with_reducible rfl)
 (try simp only [Act.put, List.setIfInBounds_toArray, List.set_cons_zero, List.set_cons_succ])
 refine wpAnyH_take (i := 9) (oi := ⟨some 23, _, _, _, _, _⟩) (v := ?_) rfl (by kernel_rfl) (by kernel_rfl) (by kernel_rfl) (fun _ _ _ h => by first | exact h | cases h.1) (Or.inl ⟨by rfl, ?_⟩) (by assumption) ?_
 rotate_left
 ·intro wq hSw; (try dsimp only at hSw); go_simp; (try with_reducible rfl)
 (try simp only [Act.put, List.setIfInBounds_toArray, List.set_cons_zero, List.set_cons_succ])
 refine wpAnyH_take (i := 10) (oi := ⟨some 24, _, _, _, _, _⟩) (v := ?_) rfl (by kernel_rfl) (by kernel_rfl) (by kernel_rfl) (fun _ _ _ h => by first | exact h | cases h.1) (Or.inl ⟨by rfl, ?_⟩) (by assumption) ?_
 rotate_left
 ·intro wq hSw; (try dsimp only at hSw); go_simp; (try with_reducible rfl)
 (try simp only [Act.put, List.setIfInBounds_toArray, List.set_cons_zero, List.set_cons_succ])
 refine wpAnyH_take (i := 11) (oi := ⟨some 25, _, _, _, _, _⟩) (v := ?_) rfl (by kernel_rfl) (by kernel_rfl) (by kernel_rfl) (fun _ _ _ h => by first | exact h | cases h.1) (Or.inl ⟨by rfl, ?_⟩) (by assumption) ?_
 rotate_left
 ·intro wq hSw; (try dsimp only at hSw); go_simp; (try with_reducible rfl)
 (try simp only [Act.put, List.setIfInBounds_toArray, List.set_cons_zero, List.set_cons_succ])
 refine wpAnyH_take (i := 12) (oi := ⟨some 26, _, _, _, _, _⟩) (v := ?_) rfl (by kernel_rfl) (by kernel_rfl) (by kernel_rfl) (fun _ _ _ h => by first | exact h | cases h.1) (Or.inl ⟨by rfl, ?_⟩) (by assumption) ?_
 rotate_left
 ·intro wq hSw; (try dsimp only at hSw); go_simp; (try with_reducible rfl)
 (try simp only [Act.put, List.setIfInBounds_toArray, List.set_cons_zero, List.set_cons_succ])
 refine wpAnyH_ready (rs := [13]) (by kernel_rfl) (by simp) ?_
 refine AllReadyH.cons (o := ⟨some 27, _, _, _, _, _⟩) rfl (fun K hK => ?_) AllReadyH.nil
 go_simp
 refine Calls.mono (check_n (rt_below hx3.out kW) kn_dp hcn kn_al) ?_
 rintro en wN ⟨kN, e, he, rfl⟩
 obtain rfl := kn_ck he
 replace kW := grow_step kN kW
 (try go_wp2_with fail)
 refine hK.out _ _ ?_ ?_
 ·exact hS _ kW
 clear hK K hHeld; intro hHeld
 (try simp only [Act.put, List.setIfInBounds_toArray, List.set_cons_zero, List.set_cons_succ])
 clear kN
 refine wpAnyH_take (i := 14) (oi := ⟨some 28, _, _, _, _, _⟩) (v := ?_) rfl (by kernel_rfl) (by kernel_rfl) (by kernel_rfl) (fun _ _ _ h => by first | exact h | cases h.1) (Or.inl ⟨by rfl, ?_⟩) (by assumption) ?_
 rotate_left
 ·intro wq hSw; (try dsimp only at hSw); go_simp; (try with_reducible rfl)
 (try simp only [Act.put, List.setIfInBounds_toArray, List.set_cons_zero, List.set_cons_succ])
 refine wpAnyH_take (i := 15) (oi := ⟨some 29, _, _, _, _, _⟩) (v := ?_) rfl (by kernel_rfl) (by kernel_rfl) (by kernel_rfl) (fun _ _ _ h => by first | exact h | cases h.1) (Or.inl ⟨by rfl, ?_⟩) (by assumption) ?_
 rotate_left
 ·intro wq hSw; (try dsimp only at hSw); go_simp; (try with_reducible rfl)
 (try simp only [Act.put, List.setIfInBounds_toArray, List.set_cons_zero, List.set_cons_succ])
 refine wpAnyH_take (i := 16) (oi := ⟨some 30, _, _, _, _, _⟩) (v := ?_) rfl (by kernel_rfl) (by kernel_rfl) (by kernel_rfl) (fun _ _ _ h => by first | exact h | cases h.1) (Or.inl ⟨by rfl, ?_⟩) (by assumption) ?_
 rotate_left
 ·intro wq hSw; (try dsimp only at hSw); go_simp; (try with_reducible rfl)
 (try simp only [Act.put, List.setIfInBounds_toArray, List.set_cons_zero, List.set_cons_succ])
 refine wpAnyH_take (i := 17) (oi := ⟨some 31, _, _, _, _, _⟩) (v := ?_) rfl (by kernel_rfl) (by kernel_rfl) (by kernel_rfl) (fun _ _ _ h => by first | exact h | cases h.1) (Or.inl ⟨by rfl, ?_⟩) (by assumption) ?_
 rotate_left
 ·intro wq hSw; (try dsimp only at hSw); go_simp; (try with_reducible rfl)
 (try simp only [Act.put, List.setIfInBounds_toArray, List.set_cons_zero, List.set_cons_succ])
 refine wpAnyH_ready (rs := [18]) (by kernel_rfl) (by simp) ?_
 refine AllReadyH.cons (o := ⟨some 32, _, _, _, _, _⟩) rfl (fun K hK => ?_) AllReadyH.nil
 go_simp
 refine Calls.mono (size_n (rt_below hx3.out kW) kn_dp hcn) ?_
 rintro en wN ⟨kN, rfl⟩
 rw [kn_cnt]
 replace kW := grow_step kN kW
 (try go_wp2_with fail)
 refine hK.out _ _ ?_ ?_
 ·exact hS _ kW
 clear hK K hHeld; intro hHeld
 (try simp only [Act.put, List.setIfInBounds_toArray, List.set_cons_zero, List.set_cons_succ])
 clear kN
 refine wpAnyH_take (i := 19) (oi := ⟨some 33, _, _, _, _, _⟩) (v := ?_) rfl (by kernel_rfl) (by kernel_rfl) (by kernel_rfl) (fun _ _ _ h => by first | exact h | cases h.1) (Or.inl ⟨by rfl, ?_⟩) (by assumption) ?_
 rotate_left
 ·intro wq hSw; (try dsimp only at hSw); go_simp; (try with_reducible rfl)
 (try simp only [Act.put, List.setIfInBounds_toArray, List.set_cons_zero, List.set_cons_succ])
 refine wpAnyH_take (i := 20) (oi := ⟨some 34, _, _, _, _, _⟩) (v := ?_) rfl (by kernel_rfl) (by kernel_rfl) (by kernel_rfl) (fun _ _ _ h => by first | exact h | cases h.1) (Or.inl ⟨by rfl, ?_⟩) (by assumption) ?_
 rotate_left
 ·intro wq hSw; (try dsimp only at hSw); go_simp; (try with_reducible rfl)
 (try simp only [Act.put, List.setIfInBounds_toArray, List.set_cons_zero, List.set_cons_succ])
 refine wpAnyH_take (i := 21) (oi := ⟨some 35, _, _, _, _, _⟩) (v := ?_) rfl (by kernel_rfl) (by kernel_rfl) (by kernel_rfl) (fun _ _ _ h => by first | exact h | cases h.1) (Or.inl ⟨by rfl, ?_⟩) (by assumption) ?_
 rotate_left
 ·intro wq hSw; (try dsimp only at hSw); go_simp; (try with_reducible rfl)
 (try simp only [Act.put, List.setIfInBounds_toArray, List.set_cons_zero, List.set_cons_succ])
 refine wpAnyH_take (i := 22) (oi := ⟨some 36, _, _, _, _, _⟩) (v := ?_) rfl (by kernel_rfl) (by kernel_rfl) (by kernel_rfl) (fun _ _ _ h => by first | exact h | cases h.1) (Or.inl ⟨by rfl, ?_⟩) (by assumption) ?_
 rotate_left
 ·intro wq hSw; (try dsimp only at hSw); go_simp; (try with_reducible rfl)
 (try simp only [Act.put, List.setIfInBounds_toArray, List.set_cons_zero, List.set_cons_succ])
 refine wpAnyH_ready (rs := [23]) (by kernel_rfl) (by simp) ?_
 refine AllReadyH.cons (o := ⟨some 37, _, _, _, _, _⟩) rfl (fun K hK => ?_) AllReadyH.nil
 go_simp
 refine Calls.mono (free_n (rt_below hx3.out kW) kn_dp hcn (by decide +kernel) kn_al) ?_
 rintro en wN ⟨v, ss, rfl, hme, hnd, -, hrow, kN⟩
 have hs1 := kn_free hme hnd
 obtain ⟨a, c, rfl, -⟩ := own_names hrow
 rw [hs1]
 clear hme hnd hrow
 replace kW := grow_step kN kW
 (try go_wp2_with fail)
 refine hK.out _ _ ?_ ?_
 ·exact hS _ kW
 clear hK K hHeld; intro hHeld
 (try simp only [Act.put, List.setIfInBounds_toArray, List.set_cons_zero, List.set_cons_succ])
 clear kN
 clear hs1
 refine wpAnyH_take (i := 24) (oi := ⟨some 38, _, _, _, _, _⟩) (v := ?_) rfl (by kernel_rfl) (by kernel_rfl) (by kernel_rfl) (fun _ _ _ h => by first | exact h | cases h.1) (Or.inl ⟨by rfl, ?_⟩) (by assumption) ?_
 rotate_left
 ·intro wq hSw; (try dsimp only at hSw); go_simp; (try with_reducible rfl)
 (try simp only [Act.put, List.setIfInBounds_toArray, List.set_cons_zero, List.set_cons_succ])
 refine wpAnyH_take (i := 25) (oi := ⟨some 39, _, _, _, _, _⟩) (v := ?_) rfl (by kernel_rfl) (by kernel_rfl) (by kernel_rfl) (fun _ _ _ h => by first | exact h | cases h.1) (Or.inl ⟨by rfl, ?_⟩) (by assumption) ?_
 rotate_left
 ·intro wq hSw; (try dsimp only at hSw); go_simp; (try with_reducible rfl)
 (try simp only [Act.put, List.setIfInBounds_toArray, List.set_cons_zero, List.set_cons_succ])
 refine wpAnyH_take (i := 26) (oi := ⟨some 40, _, _, _, _, _⟩) (v := ?_) rfl (by kernel_rfl) (by kernel_rfl) (by kernel_rfl) (fun _ _ _ h => by first | exact h | cases h.1) (Or.inl ⟨by rfl, ?_⟩) (by assumption) ?_
 rotate_left
 ·intro wq hSw; (try dsimp only at hSw); go_simp; (try with_reducible rfl)
 (try simp only [Act.put, List.setIfInBounds_toArray, List.set_cons_zero, List.set_cons_succ])
 refine wpAnyH_take (i := 27) (oi := ⟨some 41, _, _, _, _, _⟩) (v := ?_) rfl (by kernel_rfl) (by kernel_rfl) (by kernel_rfl) (fun _ _ _ h => by first | exact h | cases h.1) (Or.inl ⟨by rfl, ?_⟩) (by assumption) ?_
 rotate_left
 ·intro wq hSw; (try dsimp only at hSw); go_simp; (try with_reducible rfl)
 (try simp only [Act.put, List.setIfInBounds_toArray, List.set_cons_zero, List.set_cons_succ])
 refine wpAnyH_take (i := 28) (oi := ⟨some 42, _, _, _, _, _⟩) (v := ?_) rfl (by kernel_rfl) (by kernel_rfl) (by kernel_rfl) (fun _ _ _ h => by first | exact h | cases h.1) (Or.inl ⟨by rfl, ?_⟩) (by assumption) ?_
 rotate_left
 ·intro wq hSw; (try dsimp only at hSw); go_simp; (try with_reducible rfl)
 (try simp only [Act.put, List.setIfInBounds_toArray, List.set_cons_zero, List.set_cons_succ])
 refine wpAnyH_take (i := 29) (oi := ⟨some 43, _, _, _, _, _⟩) (v := ?_) rfl (by kernel_rfl) (by kernel_rfl) (by kernel_rfl) (fun _ _ _ h => by first | exact h | cases h.1) (Or.inl ⟨by rfl, ?_⟩) (by assumption) ?_
 rotate_left
 ·intro wq hSw; (try dsimp only at hSw); go_simp; (try with_reducible rfl)
 (try simp only [Act.put, List.setIfInBounds_toArray, List.set_cons_zero, List.set_cons_succ])
 refine wpAnyH_ready (rs := [30]) (by kernel_rfl) (by simp) ?_
 refine AllReadyH.cons (o := ⟨some 44, _, _, _, _, _⟩) rfl (fun K hK => ?_) AllReadyH.nil
 go_simp
 refine Calls.mono (same_n (rt_below hx3.out kW) (rt_below hx3.out kW) kn_dp hcn kn_al kn_al) ?_
 rintro en wN ⟨kN, r, hr, rfl⟩
 obtain rfl : r = true := hr.2 (sm_refl _)
 clear hr
 replace kW := grow_step kN kW
 (try go_wp2_with fail)
 refine hK.out _ _ ?_ ?_
 ·exact hS _ kW
 clear hK K hHeld; intro hHeld
 (try simp only [Act.put, List.setIfInBounds_toArray, List.set_cons_zero, List.set_cons_succ])
 clear kN
 refine wpAnyH_take (i := 31) (oi := ⟨some 45, _, _, _, _, _⟩) (v := ?_) rfl (by kernel_rfl) (by kernel_rfl) (by kernel_rfl) (fun _ _ _ h => by first | exact h | cases h.1) (Or.inl ⟨by rfl, ?_⟩) (by assumption) ?_
 rotate_left
 ·intro wq hSw; (try dsimp only at hSw); go_simp; (try with_reducible rfl)
 (try simp only [Act.put, List.setIfInBounds_toArray, List.set_cons_zero, List.set_cons_succ])
 refine wpAnyH_take (i := 32) (oi := ⟨some 46, _, _, _, _, _⟩) (v := ?_) rfl (by kernel_rfl) (by kernel_rfl) (by kernel_rfl) (fun _ _ _ h => by first | exact h | cases h.1) (Or.inl ⟨by rfl, ?_⟩) (by assumption) ?_
 rotate_left
 ·intro wq hSw; (try dsimp only at hSw); go_simp; (try with_reducible rfl)
 (try simp only [Act.put, List.setIfInBounds_toArray, List.set_cons_zero, List.set_cons_succ])
 refine wpAnyH_take (i := 33) (oi := ⟨some 47, _, _, _, _, _⟩) (v := ?_) rfl (by kernel_rfl) (by kernel_rfl) (by kernel_rfl) (fun _ _ _ h => by first | exact h | cases h.1) (Or.inl ⟨by rfl, ?_⟩) (by assumption) ?_
 rotate_left
 ·intro wq hSw; (try dsimp only at hSw); go_simp; (try with_reducible rfl)
 (try simp only [Act.put, List.setIfInBounds_toArray, List.set_cons_zero, List.set_cons_succ])
 refine wpAnyH_take (i := 35) (oi := ⟨some 49, _, _, _, _, _⟩) (v := ?_) rfl (by kernel_rfl) (by kernel_rfl) (by kernel_rfl) (fun _ _ _ h => by first | exact h | cases h.1) (Or.inl ⟨by rfl, ?_⟩) (by assumption) ?_
 rotate_left
 ·intro wq hSw; (try dsimp only at hSw); go_simp; (try with_reducible rfl)
 (try simp only [Act.put, List.setIfInBounds_toArray, List.set_cons_zero, List.set_cons_succ])
 refine wpAnyH_ready (rs := [34]) (by kernel_rfl) (by simp) ?_
 refine AllReadyH.cons (o := ⟨some 48, _, _, _, _, _⟩) rfl (fun K hK => ?_) AllReadyH.nil
 go_simp
 refine Calls.mono (copy_n (rt_below hx3.out kW) kn_dp hcn kn_al) ?_
 rintro en wN ⟨Y, rfl, hY, kN⟩
 rw [kn_cp] at hY
 replace hY : Rt An wN Y knT := hY.imp fun _ _ => trivial
 replace kW := grow_step kN kW
 (try go_wp2_with fail)
 refine hK.out _ _ ?_ ?_
 ·exact hS _ kW
 clear hK K hHeld; intro hHeld
 (try simp only [Act.put, List.setIfInBounds_toArray, List.set_cons_zero, List.set_cons_succ])
 clear kN
 refine wpAnyH_ready (rs := [36]) (by kernel_rfl) (by simp) ?_
 refine AllReadyH.cons (o := ⟨some 50, _, _, _, _, _⟩) rfl (fun K hK => ?_) AllReadyH.nil
 go_simp
 refine Calls.mono (same_n hY (rt_below hx3.out kW) kn_dp hcn kn_al kn_al) ?_
 rintro en wN ⟨kN, r, hr, rfl⟩
 obtain rfl : r = true := hr.2 (sm_refl _)
 clear hr hY
 replace kW := grow_step kN kW
 (try go_wp2_with fail)
 refine hK.out _ _ ?_ ?_
 ·exact hS _ kW
 clear hK K hHeld; intro hHeld
 (try simp only [Act.put, List.setIfInBounds_toArray, List.set_cons_zero, List.set_cons_succ])
 clear kN
 refine wpAnyH_take (i := 37) (oi := ⟨some 51, _, _, _, _, _⟩) (v := ?_) rfl (by kernel_rfl) (by kernel_rfl) (by kernel_rfl) (fun _ _ _ h => by first | exact h | cases h.1) (Or.inl ⟨by rfl, ?_⟩) (by assumption) ?_
 rotate_left
 ·intro wq hSw; (try dsimp only at hSw); go_simp; (try with_reducible rfl)
 (try simp only [Act.put, List.setIfInBounds_toArray, List.set_cons_zero, List.set_cons_succ])
 refine wpAnyH_ready (rs := [38]) (by kernel_rfl) (by simp) ?_
 refine AllReadyH.cons (o := ⟨some 0, _, _, _, _, _⟩) rfl (fun K hK => ?_) AllReadyH.nil
 go_simp
 refine hK.out _ _ ?_ ?_
 ·exact hS _ kW
 clear hK K hHeld; intro hHeld
 (try simp only [Act.put, List.setIfInBounds_toArray, List.set_cons_zero, List.set_cons_succ])
 refine wpAnyH_done (by kernel_rfl) ?_ _
 have kf := hide (grow_step kW kw3.out)
 clear hHeld hS heq heqk kW hx3 y3 m3 kw3
 go_wp2
 refine bodyPost_ret (results_tmp rfl _ _ _) rfl ?_
 exact ⟨rfl, kf.out⟩
end Sx
end Go.Proofs.YtkcklmipldcceaaGreatDoor

namespace Go.Proofs.YtkcklmipldcceaaGreatDoor
open Go.RowKit
namespace Sx

/-- parentheses and blanks about a text, so many times -/
def arnN : Nat → ByteArray → ByteArray
 | 0, s => s
 | n + 1, s => arn (arnN n s)
theorem arnN_size (n : Nat) (s : ByteArray) : (arnN n s).size = s.size + 4 * n := by
 induction n with
 | zero => rfl
 | succ n ih =>
  show (arn (arnN n s)).size = _
  rw [arn_size, ih]
  omega
theorem pa_arnN (n : Nat) {s : ByteArray} {t : Tr} (h : PaD s (.inr t)) (hz : (arnN n s).size ≤ 4096) : PaD (arnN n s) (.inr t) := by
 induction n with
 | zero => exact h
 | succ n ih =>
  refine pa_around (ih ?_) hz
  rw [arnN_size] at hz ⊢
  omega
/-- what Parse answers, in one form -/
theorem pa_form {w : World} {s : ByteArray} {en : Ending} {w' : World} (h : PaR w s en w') : Below w.heap.size w w' ∧ ∃ (x : TC) (c p : Int), en = .returned (.tuple #[x.val, .agg #[.int .i64 c, .int .i64 p]]) ∧ ((c ≠ 0 ∧ x = tz ∧ ∃ d : Nat, PaD s (.inl (c, d)) ∧ p = d) ∨ (c = 0 ∧ p = 0 ∧ ∃ t, PaD s (.inr t) ∧ Rt (fun b => w.heap.size ≤ b) w' x t ∧ Few4 4096 t)) := by
 obtain ⟨k, r, hr, h⟩ := h
 refine ⟨k, ?_⟩
 cases r with
 | inl c =>
  obtain ⟨h1, h2⟩ := h
  exact ⟨tz, c.1, c.2, h2, .inl ⟨h1, rfl, c.2, hr, rfl⟩⟩
 | inr t =>
  obtain ⟨x, h1, h2, h3⟩ := h
  exact ⟨x, 0, 0, h1, .inr ⟨rfl, rfl, t, hr, h2, h3⟩⟩
set_option maxRecDepth 100000 in
set_option maxHeartbeats 6400000 in
theorem syntaxAround_walk {s : ByteArray} {n : Int} {w : World} (hs : s.size ≤ 1048576) (h0 : -9223372036854775808 ≤ n) (h1 : n ≤ 9223372036854775807) (hS : Sgn w) (hwo : Wo w) (htab : Tab w) :
  Calls Tryz.prog 9 #[.string s, .int .i64 n] w fun e w' => e = .returned (.bool true) ∧ Below w.heap.size w w' := by
 have hpa := hide (parse_n s w (by omega) hS hwo)
 go_enter Tryz.func9, Tryz.ntmps9
 go_wp2_with fail
 refine hpa.out.mono ?_
 intro en w1 hp
 obtain ⟨k1, x, c, p, rfl, hcase⟩ := pa_form hp
 clear hp hpa
 have b1 := below_alloc w1 (.cells #[.int .i64 x.k, .string x.nm, .slice x.na x.nn x.nc, .bool x.s, .slice x.a x.l x.c, .slice x.ka x.kn x.kc] 28)
 have b2 := below_alloc (w1.alloc (.cells #[.int .i64 x.k, .string x.nm, .slice x.na x.nn x.nc, .bool x.s, .slice x.a x.l x.c, .slice x.ka x.kn x.kc] 28)) (.cells #[.int .i64 c, .int .i64 p] 31)
 have kb := grow_step b2 b1
 have y1 := (vb_new w1 x).below b2
 have y2 := heap_alloc_new (w1.alloc (.cells #[.int .i64 x.k, .string x.nm, .slice x.na x.nn x.nc, .bool x.s, .slice x.a x.l x.c, .slice x.ka x.kn x.kc] 28)) (.cells #[.int .i64 c, .int .i64 p] 31)
 rw [show (w1.alloc (.cells #[.int .i64 x.k, .string x.nm, .slice x.na x.nn x.nc, .bool x.s, .slice x.a x.l x.c, .slice x.ka x.kn x.kc] 28)).heap.size = w1.heap.size + 1 by simp] at y2
 have kw := hide (grow_step kb k1)
 have hS2 := hide (hS.below kw.out)
 have hwo2 := hide (hwo.kept (kw.out.block _ hwo.lt))
 have htab2 := hide (htab.below kw.out)
 replace kb := hide kb
 replace hcase := hide hcase
 clear b1 b2 hS hwo htab k1
 go_upto_region 2 with (fail)
 generalize (w1.alloc (.cells #[.int .i64 x.k, .string x.nm, .slice x.na x.nn x.nc, .bool x.s, .slice x.a x.l x.c, .slice x.ka x.kn x.kc] 28)).alloc (.cells #[.int .i64 c, .int .i64 p] 31) = w2 at *
 obtain ⟨kp, hkp⟩ : ∃ kp, pkN n 40 = kp := ⟨_, rfl⟩
 have hk40 : kp < 40 := by
  rw [← hkp]
  unfold pkN
  omega
 have hpk := fun u : World => hide (pick4_n n 40 h0 h1 (by decide) (by decide) u)
 simp only [hkp] at hpk
 have hbt : w1.heap.size + 1 < w2.heap.size := lt_of_block y2
 generalize hbw : w1.heap.size = bt at *
 replace hbw := hide hbw
 replace y1 := hide y1
 replace y2 := hide y2
 clear hkp
 go_wp2_with fail
 go_loopw [7, 8] (fun v i wr => ∃ j : Nat, j ≤ kp ∧ v = .string (arnN j s) ∧ i = .int .i64 j ∧ wr = w2) (fun _ i _ => kp - (intOf i).toNat)
 case atStart => exact ⟨0, Nat.zero_le _, rfl, rfl, rfl⟩
 case round =>
  obtain ⟨j, hj, rfl, rfl, rfl⟩ := hrel
  have hp2 := hpk wr
  clear hpk
  go_wp2_with fail
  refine hp2.out.mono ?_
  rintro en w3 ⟨rfl, rfl⟩
  clear hp2
  by_cases hjk : j < kp
  ·have hlt : decide ((j : Int) < (kp : Int)) = true := by
    rw [decide_eq_true_eq]
    omega
   have hsz := arnN_size j s
   have ha1 : ∀ u : World, (Op.stringOp .add ⟨#[40, 32]⟩ (arnN j s)).run Tryz.prog u = .ok (.string (⟨#[40, 32]⟩ ++ arnN j s)) u := fun u => run_string_add_sum _ _ _ (by rw [hsz]; show 2 + (s.size + 4 * j) ≤ _; omega)
   have ha2 : ∀ u : World, (Op.stringOp .add (⟨#[40, 32]⟩ ++ arnN j s) ⟨#[9, 41]⟩).run Tryz.prog u = .ok (.string (arn (arnN j s))) u := fun u => run_string_add_sum _ _ _ (by rw [size_app, hsz]; show 2 + (s.size + 4 * j) + 2 ≤ _; omega)
   have hwj : IntKind.i64.wrap ((j : Int) + 1) = ((j + 1 : Nat) : Int) := by
    rw [IntKind.wrap_i64]
    omega
   replace hsz := hide hsz
   go_wp2
   go_roundw
   case measure => simp [intOf]; omega
   case rel => exact ⟨j + 1, by omega, rfl, by simp⟩
  ·obtain rfl : j = kp := by omega
   have hlt : decide ((j : Int) < (j : Int)) = false := by simp
   have hsz := arnN_size j s
   generalize hT : arnN j s = T at *
   have c0 := cell_of_row wr (bt + 1) 0 _ _ (0, 0) y2.out
   rcases hcase.out with ⟨hc, rfl, d, hd, rfl⟩ | ⟨rfl, rfl, t, ht, hx, hfw⟩
   ·have hcb : (c != 0) = true := by simpa using hc
    have hkn := hide (known4_n wr hS2.out hwo2.out htab2.out)
    clear hcase hc hd y1 y2 hsz
    go_wp2_with fail
    refine hkn.out.mono ?_
    rintro en w5 ⟨rfl, k5⟩
    have kf := hide (grow_step k5 kw.out)
    clear hkn k5
    go_wp2
    refine bodyPost_ret (results_tmp rfl _ _ _) rfl ?_
    exact ⟨rfl, kf.out⟩
   ·by_cases hbig : 4096 < T.size
    ·have hgt : decide ((4096 : Int) < (T.size : Int)) = true := by
      rw [decide_eq_true_eq]
      omega
     have hkn := hide (known4_n wr hS2.out hwo2.out htab2.out)
     clear hcase ht hx y1 y2 hsz hfw
     go_wp2_with fail
     refine hkn.out.mono ?_
     rintro en w5 ⟨rfl, k5⟩
     have kf := hide (grow_step k5 kw.out)
     clear hkn k5
     go_wp2
     refine bodyPost_ret (results_tmp rfl _ _ _) rfl ?_
     exact ⟨rfl, kf.out⟩
    ·have hgt : decide ((4096 : Int) < (T.size : Int)) = false := by
      rw [decide_eq_false_iff_not]
      omega
     have hpT : PaD T (.inr t) := by
      have := pa_arnN j ht (by rw [hT]; omega)
      rwa [hT] at this
     have hpp := hide (parse_n T wr (by omega) hS2.out hwo2.out)
     have hx2 := hide (hx.kf (Kf.of_below (show Below w1.heap.size w1 wr by rw [hbw.out]; exact kb.out)))
     have hex := hide (pa_ex ht hfw)
     have hdp := hide (pa_nm ht).2
     replace hpT := hide hpT
     clear hcase ht hx hsz hfw
     go_wp2_with fail
     refine hpp.out.mono ?_
     rintro en w3 ⟨k3, r, hr, h⟩
     obtain rfl : r = .inr t := paD_one hr hpT.out
     obtain ⟨z, rfl, hz, -⟩ := h
     clear hr hpp hpT
     have b1 := below_alloc w3 (.cells #[.int .i64 z.k, .string z.nm, .slice z.na z.nn z.nc, .bool z.s, .slice z.a z.l z.c, .slice z.ka z.kn z.kc] 28)
     have b2 := below_alloc (w3.alloc (.cells #[.int .i64 z.k, .string z.nm, .slice z.na z.nn z.nc, .bool z.s, .slice z.a z.l z.c, .slice z.ka z.kn z.kc] 28)) (.cells #[.int .i64 0, .int .i64 0] 31)
     have kc := grow_step b2 b1
     have z1 := (vb_new w3 z).below b2
     have z2 := heap_alloc_new (w3.alloc (.cells #[.int .i64 z.k, .string z.nm, .slice z.na z.nn z.nc, .bool z.s, .slice z.a z.l z.c, .slice z.ka z.kn z.kc] 28)) (.cells #[.int .i64 0, .int .i64 0] 31)
     rw [show (w3.alloc (.cells #[.int .i64 z.k, .string z.nm, .slice z.na z.nn z.nc, .bool z.s, .slice z.a z.l z.c, .slice z.ka z.kn z.kc] 28)).heap.size = w3.heap.size + 1 by simp] at z2
     have kd := grow_step kc k3
     have y4 := y1.out.below kd
     have hx4 := hx2.out.kf (Kf.of_below kd)
     have hz4 := hz.kf (Kf.of_below kc)
     have hS4 := hide (hS2.out.below kd)
     have hwo4 := hide (hwo2.out.kept (kd.block _ hwo2.out.lt))
     have htab4 := hide (htab2.out.below kd)
     have kw4 := hide (grow_step kd kw.out)
     have hxt := hide (exact_t 60 hx4 hz4 hdp.out hex.out)
     clear b1 b2 kc k3 kd hx2 hz hx4 hz4 y1 y2 c0 hS2 hwo2 htab2 kw kb
     go_upto_region 10 with (fail)
     generalize (w3.alloc (.cells #[.int .i64 z.k, .string z.nm, .slice z.na z.nn z.nc, .bool z.s, .slice z.a z.l z.c, .slice z.ka z.kn z.kc] 28)).alloc (.cells #[.int .i64 0, .int .i64 0] 31) = w4 at *
     generalize w3.heap.size = bz at *
     have e0 := cell_of_row w4 (bz + 1) 0 _ _ (0, 0) z2
     have e1 := cell_of_row w4 (bz + 1) 1 _ _ (0, 0) z2
     have q0 := y4.c0
     have q1 := y4.c1
     have q2 := y4.c2
     have q3 := y4.c3
     have q4 := y4.c4
     have q5 := y4.c5
     have r0 := z1.c0
     have r1 := z1.c1
     have r2 := z1.c2
     have r3 := z1.c3
     have r4 := z1.c4
     have r5 := z1.c5
     have heq := eq_ms0
     clear y4 z1 z2
     go_wp2_with fail
     refine hxt.out.mono ?_
     rintro en w5 ⟨rfl, k5⟩
     have hkn := hide (known4_n w5 (hS4.out.below k5) (hwo4.out.kept (k5.block _ hwo4.out.lt)) (htab4.out.below k5))
     have kw5 := hide (grow_step k5 kw4.out)
     clear hxt k5 hS4 hwo4 htab4 kw4 e0 e1 q0 q1 q2 q3 q4 q5 r0 r1 r2 r3 r4 r5 heq
     go_wp2_with fail
     refine hkn.out.mono ?_
     rintro en w6 ⟨rfl, k6⟩
     have kf := hide (grow_step k6 kw5.out)
     clear hkn k6
     go_wp2
     refine bodyPost_ret (results_tmp rfl _ _ _) rfl ?_
     exact ⟨rfl, kf.out⟩
end Sx
end Go.Proofs.YtkcklmipldcceaaGreatDoor
