/-
 Several texts in one: IL, IM, LSyntaxAround, LSyntaxReads.
-/
import Derived.Test.YtgpaajolcpgeaaaGreatDoorSrd26
import Derived.Test.YtgpaajolcpgeaaaGreatDoorSrd28
import Derived.Test.YtgpaajolcpgeaaaGreatDoorSrd27
namespace Go.Proofs.YtgpaajolcpgeaaaGreatDoor
open Go.RowKit
namespace Sx

/-- is it so of all nodes? -/
def evB (P : Tr → Bool) : Nat → Tr → Bool
 | 0, _ => true
 | f + 1, t => P t && (ksO t).all (evB P f)
theorem evB_all {P : Tr → Bool} (f : Nat) : ∀ {t : Tr}, evB P f t = true → ¬ Dp f t → ∀ n u, At4 n t u → P u = true := by
 induction f with
 | zero => exact fun _ h => absurd ⟨_, rfl⟩ h
 | succ f ih =>
  intro t h hd n u hu
  unfold evB at h
  rw [Bool.and_eq_true, List.all_eq_true] at h
  cases n with
  | zero => exact (show u = t from hu) ▸ h.1
  | succ n =>
   obtain ⟨v, hv, h2⟩ := hu
   exact ih (h.2 v hv) (fun ⟨z, hz⟩ => hd ⟨z, v, hv, hz⟩) n u h2
theorem kn_al : Al Bd4 knT := fun n u hu => by
 have h1 := evB_all (P := fun u => decide ((lbO u).xs.length ≤ 9) && decide ((lbO u).nm.size ≤ 9) && decide ((lbO u).nms.length ≤ 9) && (lbO u).nms.all (fun n => decide (n.size ≤ 9))) 60 (by kernel_rfl) kn_dp n u hu
 simp only [Bool.and_eq_true, decide_eq_true_eq, List.all_eq_true] at h1
 exact ⟨by omega, by omega, by omega, fun n hn => Nat.le_trans (h1.2 n hn) (by decide)⟩
theorem kn_ck {e : Int} (h : CkD knT e) : e = 0 := by
 unfold CkD at h
 have h0 : (shp (lbO knT).k).is = 2 := by kernel_rfl
 rw [if_neg (fun h => h h0)] at h
 have h1 : ∀ n u, At4 n knT u → stB (lbO u) (ksO u) = true := evB_all (P := fun u => stB (lbO u) (ksO u)) 60 (by kernel_rfl) kn_dp
 have h2 : ∀ n u, At4 n knT u → (!zdB u) = true := evB_all (P := fun u => !zdB u) 60 (by kernel_rfl) kn_dp
 rcases h with ⟨⟨n, u, hu, h⟩, -⟩ | ⟨-, ⟨⟨n, u, hu, h⟩, -⟩ | ⟨-, ⟨h, -⟩ | ⟨-, h⟩⟩⟩
 ·rw [h1 n u hu] at h
  cases h
 ·have := h2 n u hu
  rw [h] at this
  cases this
 ·exact absurd h kn_dp
 ·exact h
theorem kn_pr {s : ByteArray} {e : Int} (h : PrA 60 knT s e) : s = knO ∧ e = 0 := by
 obtain ⟨c, hc, h⟩ := h
 obtain rfl := kn_ck hc
 rw [if_neg (by decide), kn_print.2, if_neg (by decide)] at h
 refine ⟨h.1.trans ?_, h.2⟩
 rw [kn_print.1]
theorem kn_cp : cpT 60 knT = knT := by kernel_rfl
theorem sm_refl (t : Tr) : Sm (t, t) := fun f => by
 have key : ∀ f (q : P2), q.1 = q.2 → smF f q = true := by
  intro f
  induction f with
  | zero => exact fun _ _ => rfl
  | succ f ih =>
   intro q hq
   obtain ⟨a, b⟩ := q
   dsimp only at hq
   subst hq
   unfold smF
   rw [Bool.and_eq_true, List.all_eq_true]
   exact ⟨alB_self a, fun r hr => ih r (kz_self hr)⟩
 exact key f _ rfl
theorem kn_free {ss : List (List UInt8)} (h : ∀ x : List UInt8, x ∈ ss ↔ Fv [] knT ⟨x.toArray⟩) (hn : ss.Nodup) : ss.length = 1 := by
 have h1 : ∀ x : List UInt8, x ∈ ss ↔ x = [120] := fun x => by
  rw [h, kn_fv]
  constructor
  ·intro e
   have := congrArg (fun b : ByteArray => b.data.toList) e
   simpa using this
  ·rintro rfl
   rfl
 have hm : [120] ∈ ss := (h1 _).2 rfl
 match ss, h1, hn, hm with
 | [], _, _, hm => cases hm
 | [a], _, _, _ => rfl
 | a :: b :: l, h1, hn, _ =>
  have ea := (h1 a).1 (by simp)
  have eb := (h1 b).1 (by simp)
  rw [ea, eb] at hn
  simp at hn
end Sx
end Go.Proofs.YtgpaajolcpgeaaaGreatDoor

namespace Go.Proofs.YtgpaajolcpgeaaaGreatDoor
open Go.RowKit
namespace Sx

theorem eq_ms0 (w : World) : (binOp .eql 31 (.agg #[.int .i64 0, .int .i64 0]) (.agg #[.int .i64 0, .int .i64 0])).run Tryz.prog w = .ok (.bool true) w := by kernel_rfl
theorem eq_kn : (knO.toList == [110, 111, 116, 32, 120, 32, 60, 32, 49, 32, 111, 114, 32, 115, 111, 109, 101, 32, 121, 32, 46, 32, 50, 32, 100, 105, 118, 105, 100, 101, 115, 32, 120, 32, 45, 32, 40, 121, 32, 43, 32, 49, 41]) = true := by
 rw [ByteArray.toList_eq]
 decide +kernel
set_option maxRecDepth 100000 in
set_option maxHeartbeats 6400000 in
theorem known4_n (w : World) (hS : Sgn w) (hwo : Wo w) (htab : Tab w) : Calls Tryz.prog 15 #[] w fun en w' => en = .returned (.bool true) ∧ Below w.heap.size w w' := by
 have hpa := hide (parse_n knS w (by decide) hS hwo)
 go_enter Tryz.func15, Tryz.ntmps15
 go_wp2_with fail
 refine hpa.out.mono ?_
 rintro en w1 ⟨k1, r, hr, h⟩
 obtain rfl : r = .inr knT := paD_one hr kn_pa
 obtain ⟨x, rfl, hx, -⟩ := h
 clear hr hpa
 have b1 := below_alloc w1 (.cells #[.int .i64 x.k, .string x.nm, .slice x.na x.nn x.nc, .bool x.s, .slice x.a x.l x.c, .slice x.ka x.kn x.kc] 28)
 have b2 := below_alloc (w1.alloc (.cells #[.int .i64 x.k, .string x.nm, .slice x.na x.nn x.nc, .bool x.s, .slice x.a x.l x.c, .slice x.ka x.kn x.kc] 28)) (.cells #[.int .i64 0, .int .i64 0] 31)
 have kb := grow_step b2 b1
 have y1 := (vb_new w1 x).below b2
 have y2 := heap_alloc_new (w1.alloc (.cells #[.int .i64 x.k, .string x.nm, .slice x.na x.nn x.nc, .bool x.s, .slice x.a x.l x.c, .slice x.ka x.kn x.kc] 28)) (.cells #[.int .i64 0, .int .i64 0] 31)
 rw [show (w1.alloc (.cells #[.int .i64 x.k, .string x.nm, .slice x.na x.nn x.nc, .bool x.s, .slice x.a x.l x.c, .slice x.ka x.kn x.kc] 28)).heap.size = w1.heap.size + 1 by simp] at y2
 have hx2 : Rt An _ x knT := (rt_below hx kb).imp fun _ _ => trivial
 have kw := grow_step kb k1
 have hwo2 := hwo.kept (kw.block _ hwo.lt)
 have htab2 := htab.below kw
 have hpr := hide (print_n hx2 kn_dp (by rw [kn_cnt]; decide) kn_al hwo2 htab2)
 clear hS hwo htab hx b1 b2 k1 kb hwo2 htab2
 go_upto_region 2 with (fail)
 generalize (w1.alloc (.cells #[.int .i64 x.k, .string x.nm, .slice x.na x.nn x.nc, .bool x.s, .slice x.a x.l x.c, .slice x.ka x.kn x.kc] 28)).alloc (.cells #[.int .i64 0, .int .i64 0] 31) = w2 at *
 generalize w1.heap.size = bt at *
 have c0 := y1.c0
 have c1 := y1.c1
 have c2 := y1.c2
 have c3 := y1.c3
 have c4 := y1.c4
 have c5 := y1.c5
 go_wp2_with fail
 refine hpr.out.mono ?_
 rintro en w3 ⟨k3, s, e, hse, rfl⟩
 obtain ⟨rfl, rfl⟩ := kn_pr hse
 have y3 := hide (y1.below k3)
 have m3 := hide ((k3.block (bt + 1) (lt_of_block y2)).trans y2)
 have hx3 := hide (rt_below hx2 k3)
 have kw3 := hide (grow_step k3 kw)
 clear hpr hse c0 c1 c2 c3 c4 c5 y1 y2 hx2 kw k3
 go_upto_region 3 with (fail)
 have hS : ∀ W, Below w3.heap.size w3 W → (W.cell? ⟨bt, 0, none⟩ = some (.int .i64 x.k) ∧ W.cell? ⟨bt, 1, none⟩ = some (.string x.nm) ∧ W.cell? ⟨bt, 2, none⟩ = some (.slice x.na x.nn x.nc) ∧ W.cell? ⟨bt, 3, none⟩ = some (.bool x.s) ∧ W.cell? ⟨bt, 4, none⟩ = some (.slice x.a x.l x.c) ∧ W.cell? ⟨bt, 5, none⟩ = some (.slice x.ka x.kn x.kc)) ∧ W.cell? ⟨bt + 1, 0, none⟩ = some (.int .i64 0) ∧ W.cell? ⟨bt + 1, 1, none⟩ = some (.int .i64 0) := fun W k => by
  have hv := y3.out.below k
  have hm := (k.block (bt + 1) (lt_of_block m3.out)).trans m3.out
  exact ⟨⟨hv.c0, hv.c1, hv.c2, hv.c3, hv.c4, hv.c5⟩, cell_of_row W (bt + 1) 0 _ _ (0, 0) hm, cell_of_row W (bt + 1) 1 _ _ (0, 0) hm⟩
 have heq := eq_ms0
 have heqk := eq_kn
 have hcn : cntF 60 knT ≤ 1073741824 := by rw [kn_cnt]; decide
 refine wp_region_held_drew (S := fun W => (W.cell? ⟨bt, 0, none⟩ = some (.int .i64 x.k) ∧ W.cell? ⟨bt, 1, none⟩ = some (.string x.nm) ∧ W.cell? ⟨bt, 2, none⟩ = some (.slice x.na x.nn x.nc) ∧ W.cell? ⟨bt, 3, none⟩ = some (.bool x.s) ∧ W.cell? ⟨bt, 4, none⟩ = some (.slice x.a x.l x.c) ∧ W.cell? ⟨bt, 5, none⟩ = some (.slice x.ka x.kn x.kc)) ∧ W.cell? ⟨bt + 1, 0, none⟩ = some (.int .i64 0) ∧ W.cell? ⟨bt + 1, 1, none⟩ = some (.int .i64 0)) (by kernel_rfl) (hS _ (grow_drew (Below.refl _ _))) (fun hHeld => ?_)
 show wpAnyH _ _ _ _ _ 39 _ _ _
 have kW := grow_drew (Below.refl w3.heap.size w3)
 generalize w3.drew = wD at *
 refine wpAnyH_take (i := 0) (oi := ⟨some 14, _, _, _, _, _⟩) (v := ?_) rfl (by kernel_rfl) (by kernel_rfl) (by kernel_rfl) (fun _ _ _ h => by first | exact h | cases h.1) (Or.inl ⟨by rfl, ?_⟩) (by assumption) ?_
 rotate_left
 ·intro wq hSw; (try dsimp only at hSw); go_simp; (try with_reducible rfl)
 (try simp only [Act.put, List.setIfInBounds_toArray, List.set_cons_zero, List.set_cons_succ])
 refine wpAnyH_take (i := 1) (oi := ⟨some 15, _, _, _, _, _⟩) (v := ?_) rfl (by kernel_rfl) (by kernel_rfl) (by kernel_rfl) (fun _ _ _ h => by first | exact h | cases h.1) (Or.inl ⟨by rfl, ?_⟩) (by assumption) ?_
 rotate_left
 ·intro wq hSw; (try dsimp only at hSw); go_simp; (try with_reducible rfl)
 (try simp only [Act.put, List.setIfInBounds_toArray, List.set_cons_zero, List.set_cons_succ])
 refine wpAnyH_take (i := 2) (oi := ⟨some 16, _, _, _, _, _⟩) (v := ?_) rfl (by kernel_rfl) (by kernel_rfl) (by kernel_rfl) (fun _ _ _ h => by first | exact h | cases h.1) (Or.inl ⟨by rfl, ?_⟩) (by assumption) ?_
 rotate_left
 ·intro wq hSw; (try dsimp only at hSw); go_simp; (try with_reducible rfl)
 (try simp only [Act.put, List.setIfInBounds_toArray, List.set_cons_zero, List.set_cons_succ])
 refine wpAnyH_take (i := 3) (oi := ⟨some 17, _, _, _, _, _⟩) (v := ?_) rfl (by kernel_rfl) (by kernel_rfl) (by kernel_rfl) (fun _ _ _ h => by first | exact h | cases h.1) (Or.inl ⟨by rfl, ?_⟩) (by assumption) ?_
 rotate_left
 ·intro wq hSw; (try dsimp only at hSw); go_simp; (try with_reducible rfl)
 (try simp only [Act.put, List.setIfInBounds_toArray, List.set_cons_zero, List.set_cons_succ])
 refine wpAnyH_take (i := 4) (oi := ⟨some 18, _, _, _, _, _⟩) (v := ?_) rfl (by kernel_rfl) (by kernel_rfl) (by kernel_rfl) (fun _ _ _ h => by first | exact h | cases h.1) (Or.inl ⟨by rfl, ?_⟩) (by assumption) ?_
 rotate_left
 ·intro wq hSw; (try dsimp only at hSw); go_simp; (try with_reducible rfl)
 (try simp only [Act.put, List.setIfInBounds_toArray, List.set_cons_zero, List.set_cons_succ])
 refine wpAnyH_take (i := 5) (oi := ⟨some 19, _, _, _, _, _⟩) (v := ?_) rfl (by kernel_rfl) (by kernel_rfl) (by kernel_rfl) (fun _ _ _ h => by first | exact h | cases h.1) (Or.inl ⟨by rfl, ?_⟩) (by assumption) ?_
 rotate_left
 ·intro wq hSw; (try dsimp only at hSw); go_simp; (try with_reducible rfl)
 (try simp only [Act.put, List.setIfInBounds_toArray, List.set_cons_zero, List.set_cons_succ])
 refine wpAnyH_take (i := 6) (oi := ⟨some 20, _, _, _, _, _⟩) (v := ?_) rfl (by kernel_rfl) (by kernel_rfl) (by kernel_rfl) (fun _ _ _ h => by first | exact h | cases h.1) (Or.inl ⟨by rfl, ?_⟩) (by assumption) ?_
 rotate_left
 ·intro wq hSw; (try dsimp only at hSw); go_simp; (try with_reducible rfl)
 (try simp only [Act.put, List.setIfInBounds_toArray, List.set_cons_zero, List.set_cons_succ])
 refine wpAnyH_take (i := 7) (oi := ⟨some 21, _, _, _, _, _⟩) (v := ?_) rfl (by kernel_rfl) (by kernel_rfl) (by kernel_rfl) (fun _ _ _ h => by first | exact h | cases h.1) (Or.inl ⟨by rfl, ?_⟩) (by assumption) ?_
 rotate_left
 ·intro wq hSw; (try dsimp only at hSw); go_simp; (try with_reducible rfl)
 (try simp only [Act.put, List.setIfInBounds_toArray, List.set_cons_zero, List.set_cons_succ])
 refine wpAnyH_take (i := 8) (oi := ⟨some 22, _, _, _, _, _⟩) (v := ?_) rfl (by kernel_rfl) (by kernel_rfl) (by kernel_rfl) (fun _ _ _ h => by first | exact h | cases h.1) (Or.inl ⟨by rfl, ?_⟩) (by assumption) ?_
 rotate_left
 ·intro wq hSw; (try dsimp only at hSw); go_simp; (try with_reducible rfl)
 (try simp only [Act.put, List.setIfInBounds_toArray, List.set_cons_zero, List.set_cons_succ])
 refine wpAnyH_take (i := 9) (oi := ⟨some 23, _, _, _, _, _⟩) (v := ?_) rfl (by kernel_rfl) (by kernel_rfl) (by kernel_rfl) (fun _ _ _ h => by first | exact h | cases h.1) (Or.inl ⟨by rfl, ?_⟩) (by assumption) ?_
 rotate_left
 ·intro wq hSw; (try dsimp only at hSw); go_simp; (try with_reducible rfl)
 (try simp only [Act.put, List.setIfInBounds_toArray, List.set_cons_zero, List.set_cons_succ])
 refine wpAnyH_take (i := 10) (oi := ⟨some 24, _, _, _, _, _⟩) (v := ?_) rfl (by kernel_rfl) (by kernel_rfl) (by kernel_rfl) (fun _ _ _ h => by first | exact h | cases h.1) (Or.inl ⟨by rfl, ?_⟩) (by assumption) ?_
 rotate_left
 ·intro wq hSw; (try dsimp only at hSw); go_simp; (try with_reducible rfl)
 (try simp only [Act.put, List.setIfInBounds_toArray, List.set_cons_zero, List.set_cons_succ])
 refine wpAnyH_take (i := 11) (oi := ⟨some 25, _, _, _, _, _⟩) (v := ?_) rfl (by kernel_rfl) (by kernel_rfl) (by kernel_rfl) (fun _ _ _ h => by first | exact h | cases h.1) (Or.inl ⟨by rfl, ?_⟩) (by assumption) ?_
 rotate_left
 ·intro wq hSw; (try dsimp only at hSw); go_simp; (try with_reducible rfl)
 (try simp only [Act.put, List.setIfInBounds_toArray, List.set_cons_zero, List.set_cons_succ])
 refine wpAnyH_take (i := 12) (oi := ⟨some 26, _, _, _, _, _⟩) (v := ?_) rfl (by kernel_rfl) (by kernel_rfl) (by kernel_rfl) (fun _ _ _ h => by first | exact h | cases h.1) (Or.inl ⟨by rfl, ?_⟩) (by assumption) ?_
 rotate_left
 ·intro wq hSw; (try dsimp only at hSw); go_simp; (try with_reducible rfl)
 (try simp only [Act.put, List.setIfInBounds_toArray, List.set_cons_zero, List.set_cons_succ])
 refine wpAnyH_ready (rs := [13]) (by kernel_rfl) (by simp) ?_
 refine AllReadyH.cons (o := ⟨some 27, _, _, _, _, _⟩) rfl (fun K hK => ?_) AllReadyH.nil
 go_simp
 refine Calls.mono (check_n (rt_below hx3.out kW) kn_dp hcn kn_al) ?_
 rintro en wN ⟨kN, e, he, rfl⟩
 obtain rfl := kn_ck he
 replace kW := grow_step kN kW
 (try go_wp2_with fail)
 refine hK.out _ _ ?_ ?_
 ·exact hS _ kW
 clear hK K hHeld; intro hHeld
 (try simp only [Act.put, List.setIfInBounds_toArray, List.set_cons_zero, List.set_cons_succ])
 clear kN
 refine wpAnyH_take (i := 14) (oi := ⟨some 28, _, _, _, _, _⟩) (v := ?_) rfl (by kernel_rfl) (by kernel_rfl) (by kernel_rfl) (fun _ _ _ h => by first | exact h | cases h.1) (Or.inl ⟨by rfl, ?_⟩) (by assumption) ?_
 rotate_left
 ·intro wq hSw; (try dsimp only at hSw); go_simp; (try with_reducible rfl)
 (try simp only [Act.put, List.setIfInBounds_toArray, List.set_cons_zero, List.set_cons_succ])
 refine wpAnyH_take (i := 15) (oi := ⟨some 29, _, _, _, _, _⟩) (v := ?_) rfl (by kernel_rfl) (by kernel_rfl) (by kernel_rfl) (fun _ _ _ h => by first | exact h | cases h.1) (Or.inl ⟨by rfl, ?_⟩) (by assumption) ?_
 rotate_left
 ·intro wq hSw; (try dsimp only at hSw); go_simp; (try with_reducible rfl)
 (try simp only [Act.put, List.setIfInBounds_toArray, List.set_cons_zero, List.set_cons_succ])
 refine wpAnyH_take (i := 16) (oi := ⟨some 30, _, _, _, _, _⟩) (v := ?_) rfl (by kernel_rfl) (by kernel_rfl) (by kernel_rfl) (fun _ _ _ h => by first | exact h | cases h.1) (Or.inl ⟨by rfl, ?_⟩) (by assumption) ?_
 rotate_left
 ·intro wq hSw; (try dsimp only at hSw); go_simp; (try with_reducible rfl)
 (try simp only [Act.put, List.setIfInBounds_toArray, List.set_cons_zero, List.set_cons_succ])
 refine wpAnyH_take (i := 17) (oi := ⟨some 31, _, _, _, _, _⟩) (v := ?_) rfl (by kernel_rfl) (by kernel_rfl) (by kernel_rfl) (fun _ _ _ h => by first | exact h | cases h.1) (Or.inl ⟨by rfl, ?_⟩) (by assumption) ?_
 rotate_left
 ·intro wq hSw; (try dsimp only at hSw); go_simp; (try with_reducible rfl)
 (try simp only [Act.put, List.setIfInBounds_toArray, List.set_cons_zero, List.set_cons_succ])
 refine wpAnyH_ready (rs := [18]) (by kernel_rfl) (by simp) ?_
 refine AllReadyH.cons (o := ⟨some 32, _, _, _, _, _⟩) rfl (fun K hK => ?_) AllReadyH.nil
 go_simp
 refine Calls.mono (size_n (rt_below hx3.out kW) kn_dp hcn) ?_
 rintro en wN ⟨kN, rfl⟩
 rw [kn_cnt]
 replace kW := grow_step kN kW
 (try go_wp2_with fail)
 refine hK.out _ _ ?_ ?_
 ·exact hS _ kW
 clear hK K hHeld; intro hHeld
 (try simp only [Act.put, List.setIfInBounds_toArray, List.set_cons_zero, List.set_cons_succ])
 clear kN
 refine wpAnyH_take (i := 19) (oi := ⟨some 33, _, _, _, _, _⟩) (v := ?_) rfl (by kernel_rfl) (by kernel_rfl) (by kernel_rfl) (fun _ _ _ h => by first | exact h | cases h.1) (Or.inl ⟨by rfl, ?_⟩) (by assumption) ?_
 rotate_left
 ·intro wq hSw; (try dsimp only at hSw); go_simp; (try with_reducible rfl)
 (try simp only [Act.put, List.setIfInBounds_toArray, List.set_cons_zero, List.set_cons_succ])
 refine wpAnyH_take (i := 20) (oi := ⟨some 34, _, _, _, _, _⟩) (v := ?_) rfl (by kernel_rfl) (by kernel_rfl) (by kernel_rfl) (fun _ _ _ h => by first | exact h | cases h.1) (Or.inl ⟨by rfl, ?_⟩) (by assumption) ?_
 rotate_left
 ·intro wq hSw; (try dsimp only at hSw); go_simp; (try with_reducible rfl)
 (try simp only [Act.put, List.setIfInBounds_toArray, List.set_cons_zero, List.set_cons_succ])
 refine wpAnyH_take (i := 21) (oi := ⟨some 35, _, _, _, _, _⟩) (v := ?_) rfl (by kernel_rfl) (by kernel_rfl) (by kernel_rfl) (fun _ _ _ h => by first | exact h | cases h.1) (Or.inl ⟨by rfl, ?_⟩) (by assumption) ?_
 rotate_left
 ·intro wq hSw; (try dsimp only at hSw); go_simp; (try with_reducible rfl)
 (try simp only [Act.put, List.setIfInBounds_toArray, List.set_cons_zero, List.set_cons_succ])
 refine wpAnyH_take (i := 22) (oi := ⟨some 36, _, _, _, _, _⟩) (v := ?_) rfl (by kernel_rfl) (by kernel_rfl) (by kernel_rfl) (fun _ _ _ h => by first | exact h | cases h.1) (Or.inl ⟨by rfl, ?_⟩) (by assumption) ?_
 rotate_left
 ·intro wq hSw; (try dsimp only at hSw); go_simp; (try with_reducible rfl)
 (try simp only [Act.put, List.setIfInBounds_toArray, List.set_cons_zero, List.set_cons_succ])
 refine wpAnyH_ready (rs := [23]) (by kernel_rfl) (by simp) ?_
 refine AllReadyH.cons (o := ⟨some 37, _, _, _, _, _⟩) rfl (fun K hK => ?_) AllReadyH.nil
 go_simp
 refine Calls.mono (free_n (rt_below hx3.out kW) kn_dp hcn (by decide +kernel) kn_al) ?_
 rintro en wN ⟨v, ss, rfl, hme, hnd, -, hrow, kN⟩
 have hs1 := kn_free hme hnd
 obtain ⟨a, c, rfl, -⟩ := own_names hrow
 rw [hs1]
 clear hme hnd hrow
 replace kW := grow_step kN kW
 (try go_wp2_with fail)
 refine hK.out _ _ ?_ ?_
 ·exact hS _ kW
 clear hK K hHeld; intro hHeld
 (try simp only [Act.put, List.setIfInBounds_toArray, List.set_cons_zero, List.set_cons_succ])
 clear kN
 clear hs1
 refine wpAnyH_take (i := 24) (oi := ⟨some 38, _, _, _, _, _⟩) (v := ?_) rfl (by kernel_rfl) (by kernel_rfl) (by kernel_rfl) (fun _ _ _ h => by first | exact h | cases h.1) (Or.inl ⟨by rfl, ?_⟩) (by assumption) ?_
 rotate_left
 ·intro wq hSw; (try dsimp only at hSw); go_simp; (try with_reducible rfl)
 (try simp only [Act.put, List.setIfInBounds_toArray, List.set_cons_zero, List.set_cons_succ])
 refine wpAnyH_take (i := 25) (oi := ⟨some 39, _, _, _, _, _⟩) (v := ?_) rfl (by kernel_rfl) (by kernel_rfl) (by kernel_rfl) (fun _ _ _ h => by first | exact h | cases h.1) (Or.inl ⟨by rfl, ?_⟩) (by assumption) ?_
 rotate_left
 ·intro wq hSw; (try dsimp only at hSw); go_simp; (try with_reducible rfl)
 (try simp only [Act.put, List.setIfInBounds_toArray, List.set_cons_zero, List.set_cons_succ])
 refine wpAnyH_take (i := 26) (oi := ⟨some 40, _, _, _, _, _⟩) (v := ?_) rfl (by kernel_rfl) (by kernel_rfl) (by kernel_rfl) (fun _ _ _ h => by first | exact h | cases h.1) (Or.inl ⟨by rfl, ?_⟩) (by assumption) ?_
 rotate_left
 ·intro wq hSw; (try dsimp only at hSw); go_simp; (try with_reducible rfl)
 (try simp only [Act.put, List.setIfInBounds_toArray, List.set_cons_zero, List.set_cons_succ])
 refine wpAnyH_take (i := 27) (oi := ⟨some 41, _, _, _, _, _⟩) (v := ?_) rfl (by kernel_rfl) (by kernel_rfl) (by kernel_rfl) (fun _ _ _ h => by first | exact h | cases h.1) (Or.inl ⟨by rfl, ?_⟩) (by assumption) ?_
 rotate_left
 ·intro wq hSw; (try dsimp only at hSw); go_simp; (try with_reducible rfl)
 (try simp only [Act.put, List.setIfInBounds_toArray, List.set_cons_zero, List.set_cons_succ])
 refine wpAnyH_take (i := 28) (oi := ⟨some 42, _, _, _, _, _⟩) (v := ?_) rfl (by kernel_rfl) (by kernel_rfl) (by kernel_rfl) (fun _ _ _ h => by first | exact h | cases h.1) (Or.inl ⟨by rfl, ?_⟩) (by assumption) ?_
 rotate_left
 ·intro wq hSw; (try dsimp only at hSw); go_simp; (try with_reducible rfl)
 (try simp only [Act.put, List.setIfInBounds_toArray, List.set_cons_zero, List.set_cons_succ])
 refine wpAnyH_take (i := 29) (oi := ⟨some 43, _, _, _, _, _⟩) (v := ?_) rfl (by kernel_rfl) (by kernel_rfl) (by kernel_rfl) (fun _ _ _ h => by first | exact h | cases h.1) (Or.inl ⟨by rfl, ?_⟩) (by assumption) ?_
 rotate_left
 ·intro wq hSw; (try dsimp only at hSw); go_simp; (try with_reducible rfl)
 (try simp only [Act.put, List.setIfInBounds_toArray, List.set_cons_zero, List.set_cons_succ])
 refine wpAnyH_ready (rs := [30]) (by kernel_rfl) (by simp) ?_
 refine AllReadyH.cons (o := ⟨some 44, _, _, _, _, _⟩) rfl (fun K hK => ?_) AllReadyH.nil
 go_simp
 refine Calls.mono (same_n (rt_below hx3.out kW) (rt_below hx3.out kW) kn_dp hcn kn_al kn_al) ?_
 rintro en wN ⟨kN, r, hr, rfl⟩
 obtain rfl : r = true := hr.2 (sm_refl _)
 clear hr
 replace kW := grow_step kN kW
 (try go_wp2_with fail)
 refine hK.out _ _ ?_ ?_
 ·exact hS _ kW
 clear hK K hHeld; intro hHeld
 (try simp only [Act.put, List.setIfInBounds_toArray, List.set_cons_zero, List.set_cons_succ])
 clear kN
 refine wpAnyH_take (i := 31) (oi := ⟨some 45, _, _, _, _, _⟩) (v := ?_) rfl (by kernel_rfl) (by kernel_rfl) (by kernel_rfl) (fun _ _ _ h => by first | exact h | cases h.1) (Or.inl ⟨by rfl, ?_⟩) (by assumption) ?_
 rotate_left
 ·intro wq hSw; (try dsimp only at hSw); go_simp; (try with_reducible rfl)
 (try simp only [Act.put, List.setIfInBounds_toArray, List.set_cons_zero, List.set_cons_succ])
 refine wpAnyH_take (i := 32) (oi := ⟨some 46, _, _, _, _, _⟩) (v := ?_) rfl (by kernel_rfl) (by kernel_rfl) (by kernel_rfl) (fun _ _ _ h => by first | exact h | cases h.1) (Or.inl ⟨by rfl, ?_⟩) (by assumption) ?_
 rotate_left
 ·intro wq hSw; (try dsimp only at hSw); go_simp; (try with_reducible rfl)
 (try simp only [Act.put, List.setIfInBounds_toArray, List.set_cons_zero, List.set_cons_succ])
 refine wpAnyH_take (i := 33) (oi := ⟨some 47, _, _, _, _, _⟩) (v := ?_) rfl (by kernel_rfl) (by kernel_rfl) (by kernel_rfl) (fun _ _ _ h => by first | exact h | cases h.1) (Or.inl ⟨by rfl, ?_⟩) (by assumption) ?_
 rotate_left
 ·intro wq hSw; (try dsimp only at hSw); go_simp; (try with_reducible rfl)
 (try simp only [Act.put, List.setIfInBounds_toArray, List.set_cons_zero, List.set_cons_succ])
 refine wpAnyH_take (i := 35) (oi := ⟨some 49, _, _, _, _, _⟩) (v := ?_) rfl (by kernel_rfl) (by kernel_rfl) (by kernel_rfl) (fun _ _ _ h => by first | exact h | cases h.1) (Or.inl ⟨by rfl, ?_⟩) (by assumption) ?_
 rotate_left
 ·intro wq hSw; (try dsimp only at hSw); go_simp; (try with_reducible rfl)
 (try simp only [Act.put, List.setIfInBounds_toArray, List.set_cons_zero, List.set_cons_succ])
 refine wpAnyH_ready (rs := [34]) (by kernel_rfl) (by simp) ?_
 refine AllReadyH.cons (o := ⟨some 48, _, _, _, _, _⟩) rfl (fun K hK => ?_) AllReadyH.nil
 go_simp
 refine Calls.mono (copy_n (rt_below hx3.out kW) kn_dp hcn kn_al) ?_
 rintro en wN ⟨Y, rfl, hY, kN⟩
 rw [kn_cp] at hY
 replace hY : Rt An wN Y knT := hY.imp fun _ _ => trivial
 replace kW := grow_step kN kW
 (try go_wp2_with fail)
 refine hK.out _ _ ?_ ?_
 ·exact hS _ kW
 clear hK K hHeld; intro hHeld
 (try simp only [Act.put, List.setIfInBounds_toArray, List.set_cons_zero, List.set_cons_succ])
 clear kN
 refine wpAnyH_ready (rs := [36]) (by kernel_rfl) (by simp) ?_
 refine AllReadyH.cons (o := ⟨some 50, _, _, _, _, _⟩) rfl (fun K hK => ?_) AllReadyH.nil
 go_simp
 refine Calls.mono (same_n hY (rt_below hx3.out kW) kn_dp hcn kn_al kn_al) ?_
 rintro en wN ⟨kN, r, hr, rfl⟩
 obtain rfl : r = true := hr.2 (sm_refl _)
 clear hr hY
 replace kW := grow_step kN kW
 (try go_wp2_with fail)
 refine hK.out _ _ ?_ ?_
 ·exact hS _ kW
 clear hK K hHeld; intro hHeld
 (try simp only [Act.put, List.setIfInBounds_toArray, List.set_cons_zero, List.set_cons_succ])
 clear kN
 refine wpAnyH_take (i := 37) (oi := ⟨some 51, _, _, _, _, _⟩) (v := ?_) rfl (by kernel_rfl) (by kernel_rfl) (by kernel_rfl) (fun _ _ _ h => by first | exact h | cases h.1) (Or.inl ⟨by rfl, ?_⟩) (by assumption) ?_
 rotate_left
 ·intro wq hSw; (try dsimp only at hSw); go_simp; (try with_reducible rfl)
 (try simp only [Act.put, List.setIfInBounds_toArray, List.set_cons_zero, List.set_cons_succ])
 refine wpAnyH_ready (rs := [38]) (by kernel_rfl) (by simp) ?_
 refine AllReadyH.cons (o := ⟨some 0, _, _, _, _, _⟩) rfl (fun K hK => ?_) AllReadyH.nil
 go_simp
 refine hK.out _ _ ?_ ?_
 ·exact hS _ kW
 clear hK K hHeld; intro hHeld
 (try simp only [Act.put, List.setIfInBounds_toArray, List.set_cons_zero, List.set_cons_succ])
 refine wpAnyH_done (by kernel_rfl) ?_ _
 have kf := hide (grow_step kW kw3.out)
 clear hHeld hS heq heqk kW hx3 y3 m3 kw3
 go_wp2
 refine bodyPost_ret (results_tmp rfl _ _ _) rfl ?_
 exact ⟨rfl, kf.out⟩
end Sx
end Go.Proofs.YtgpaajolcpgeaaaGreatDoor

namespace Go.Proofs.YtgpaajolcpgeaaaGreatDoor
open Go.RowKit
namespace Sx

/-- what Parse answers, in one form -/
theorem pa_form {w : World} {s : ByteArray} {en : Ending} {w' : World} (h : PaR w s en w') : Below w.heap.size w w' ∧ ∃ (x : TC) (c p : Int), en = .returned (.tuple #[x.val, .agg #[.int .i64 c, .int .i64 p]]) ∧ ((c ≠ 0 ∧ x = tz ∧ ∃ d : Nat, PaD s (.inl (c, d)) ∧ p = d) ∨ (c = 0 ∧ p = 0 ∧ ∃ t, PaD s (.inr t) ∧ Rt (fun b => w.heap.size ≤ b) w' x t ∧ Few4 4096 t)) := by
 obtain ⟨k, r, hr, h⟩ := h
 refine ⟨k, ?_⟩
 cases r with
 | inl c =>
  obtain ⟨h1, h2⟩ := h
  exact ⟨tz, c.1, c.2, h2, .inl ⟨h1, rfl, c.2, hr, rfl⟩⟩
 | inr t =>
  obtain ⟨x, h1, h2, h3⟩ := h
  exact ⟨x, 0, 0, h1, .inr ⟨rfl, rfl, t, hr, h2, h3⟩⟩
end Sx
end Go.Proofs.YtgpaajolcpgeaaaGreatDoor

namespace Go.Proofs.YtgpaajolcpgeaaaGreatDoor
open Go.RowKit
namespace Sx

theorem rt_tz (w : World) : Rt An w tz (nd (lk 0) []) :=
 rt_mk (l := lk 0) (ks := []) ⟨rfl, rfl, rfl, nmL_nil _ _ _, rd_nil _, fun b off e _ => by cases e⟩ ⟨rfl, .inl rfl⟩
theorem dp_tz : ¬ Dp 1 (nd (lk 0) []) := fun ⟨u, v, hv, _⟩ => by simp [ksO_nd] at hv
theorem ex_tz : ∀ i u, At4 i (nd (lk 0) []) u → (ksO u).length ≤ 1073741824 ∧ (lbO u).nms.length ≤ 1073741824 := by
 intro i u hu
 cases i with
 | zero =>
  rw [show u = nd (lk 0) [] from hu]
  exact ⟨Nat.zero_le _, Nat.zero_le _⟩
 | succ i =>
  obtain ⟨v, hv, -⟩ := hu
  simp [ksO_nd] at hv
set_option maxRecDepth 100000 in
set_option maxHeartbeats 6400000 in
theorem syntaxReads_walk {s : ByteArray} {w : World} (hs : s.size ≤ 1048576) (hS : Sgn w) (hwo : Wo w) (htab : Tab w) :
  Calls Tryz.prog 7 #[.string s] w fun e w' => e = .returned (.bool true) ∧ Below w.heap.size w w' := by
 have hpa := hide (parse_n s w (by omega) hS hwo)
 go_enter Tryz.func7, Tryz.ntmps7
 go_wp2_with fail
 refine hpa.out.mono ?_
 intro en w1 hp
 obtain ⟨k1, x, c, p, rfl, hcase⟩ := pa_form hp
 clear hp hpa
 have b1 := below_alloc w1 (.cells #[.int .i64 x.k, .string x.nm, .slice x.na x.nn x.nc, .bool x.s, .slice x.a x.l x.c, .slice x.ka x.kn x.kc] 28)
 have b2 := below_alloc (w1.alloc (.cells #[.int .i64 x.k, .string x.nm, .slice x.na x.nn x.nc, .bool x.s, .slice x.a x.l x.c, .slice x.ka x.kn x.kc] 28)) (.cells #[.int .i64 c, .int .i64 p] 31)
 have kb := grow_step b2 b1
 have y1 := (vb_new w1 x).below b2
 have y2 := heap_alloc_new (w1.alloc (.cells #[.int .i64 x.k, .string x.nm, .slice x.na x.nn x.nc, .bool x.s, .slice x.a x.l x.c, .slice x.ka x.kn x.kc] 28)) (.cells #[.int .i64 c, .int .i64 p] 31)
 rw [show (w1.alloc (.cells #[.int .i64 x.k, .string x.nm, .slice x.na x.nn x.nc, .bool x.s, .slice x.a x.l x.c, .slice x.ka x.kn x.kc] 28)).heap.size = w1.heap.size + 1 by simp] at y2
 have kw := hide (grow_step kb k1)
 have hS2 := hide (hS.below kw.out)
 have hwo2 := hide (hwo.kept (kw.out.block _ hwo.lt))
 have htab2 := hide (htab.below kw.out)
 replace kb := hide kb
 replace hcase := hide hcase
 clear b1 b2 hS hwo htab k1
 go_upto_region 2 with (fail)
 generalize (w1.alloc (.cells #[.int .i64 x.k, .string x.nm, .slice x.na x.nn x.nc, .bool x.s, .slice x.a x.l x.c, .slice x.ka x.kn x.kc] 28)).alloc (.cells #[.int .i64 c, .int .i64 p] 31) = w2 at *
 have hkb : Hid (Below w1.heap.size w1 w2) := kb
 generalize hbw : w1.heap.size = bt at *
 replace hbw := hide hbw
 have c0 := cell_of_row w2 (bt + 1) 0 _ _ (0, 0) y2
 have c1 := cell_of_row w2 (bt + 1) 1 _ _ (0, 0) y2
 have q0 := y1.c0
 have q1 := y1.c1
 have q2 := y1.c2
 have q3 := y1.c3
 have q4 := y1.c4
 have q5 := y1.c5
 replace y1 := hide y1
 replace y2 := hide y2
 rcases hcase.out with ⟨hc, rfl, d, hd, rfl⟩ | ⟨rfl, rfl, t, ht, hx, hfw⟩
 ·have hcb : (c != 0) = true := by simpa using hc
  have hds : d ≤ s.size := Rq.pa_pos hd
  have hex := hide (exact_t 1 (rt_tz w2) (rt_tz w2) dp_tz ex_tz)
  have hge : decide ((0 : Int) ≤ (d : Int)) = true := by
   rw [decide_eq_true_eq]
   omega
  have hle : decide ((d : Int) ≤ (s.size : Int)) = true := by
   rw [decide_eq_true_eq]
   omega
  replace hds := hide hds
  clear hcase hc hd hkb kb
  go_wp2_with fail
  refine hex.out.mono ?_
  rintro en w3 ⟨rfl, k3⟩
  have c2 := cell_of_row w3 (bt + 1) 1 _ _ (0, 0) ((k3.block _ (lt_of_block y2.out)).trans y2.out)
  have hkn := hide (known4_n w3 (hS2.out.below k3) (hwo2.out.kept (k3.block _ hwo2.out.lt)) (htab2.out.below k3))
  have kw3 := hide (grow_step k3 kw.out)
  clear hex c0 c1 q0 q1 q2 q3 q4 q5 k3 hS2 hwo2 htab2 kw y1 y2
  go_wp2_with fail
  refine hkn.out.mono ?_
  rintro en w5 ⟨rfl, k5⟩
  have kf := hide (grow_step k5 kw3.out)
  clear hkn k5
  go_wp2
  refine bodyPost_ret (results_tmp rfl _ _ _) rfl ?_
  exact ⟨rfl, kf.out⟩
 ·have hck := hide (Rq.pa_ck ht hfw)
  have hdp := hide (pa_nm ht).2
  have hbd := hide (Rq.pa_bd ht)
  have hN : Hid (cntF 60 t ≤ 1073741824) := hide (Nat.le_trans (hfw 60) (by decide))
  have hx2 := hide ((hx.kf (Kf.of_below (show Below w1.heap.size w1 w2 by rw [hbw.out]; exact hkb.out))).imp (F' := An) fun _ _ => trivial)
  have hpr := hide (print_n hx2.out hdp.out hN.out hbd.out hwo2.out htab2.out)
  have hcb : ((0 : Int) != 0) = false := rfl
  replace ht := hide ht
  clear hcase hx hkb kb
  go_wp2_with fail
  refine hpr.out.mono ?_
  rintro en w3 ⟨k3, sp, e, hA, rfl⟩
  clear hpr c0 c1 q0 q1 q2 q3 q4 q5 y2 hcb
  have y3 := y1.out.below k3
  have hx3 := hide (hx2.out.kf (Kf.of_below k3))
  have hS3 := hide (hS2.out.below k3)
  have hwo3 := hide (hwo2.out.kept (k3.block _ hwo2.out.lt))
  have htab3 := hide (htab2.out.below k3)
  have kw3 := hide (grow_step k3 kw.out)
  have hcn := hide (check_n hx3.out hdp.out hN.out hbd.out)
  have q0 := y3.c0
  have q1 := y3.c1
  have q2 := y3.c2
  have q3 := y3.c3
  have q4 := y3.c4
  have q5 := y3.c5
  replace y3 := hide y3
  replace hA := hide hA
  clear k3 hx2 hS2 hwo2 htab2 kw y1
  go_wp2_with fail
  refine hcn.out.mono ?_
  rintro en w4 ⟨k4, cc, hcc, rfl⟩
  obtain rfl : 0 = cc := ck_one hck.out hcc
  clear hcn q0 q1 q2 q3 q4 q5 hcc
  have y4 := y3.out.below k4
  have hx4 := hide (hx3.out.kf (Kf.of_below k4))
  have hS4 := hide (hS3.out.below k4)
  have hwo4 := hide (hwo3.out.kept (k4.block _ hwo3.out.lt))
  have htab4 := hide (htab3.out.below k4)
  have kw4 := hide (grow_step k4 kw3.out)
  have hcb : ((0 : Int) != 0) = false := rfl
  clear k4 hx3 hS3 hwo3 htab3 kw3 y3
  replace y4 := hide y4
  rcases Rq.pr_ok hA.out hck.out with rfl | rfl
  ·obtain ⟨hpT, hsz⟩ := back hx4.out hdp.out hA.out
   have hpp := hide (parse_n sp w4 (by omega) hS4.out hwo4.out)
   have hc40 : ((0 : Int) != 40) = true := rfl
   have he40 : ((0 : Int) == 40) = false := rfl
   replace hpT := hide hpT
   replace hsz := hide hsz
   go_wp2_with fail
   refine hpp.out.mono ?_
   rintro en w5 ⟨k5, r, hr, h⟩
   obtain rfl : r = .inr t := paD_one hr hpT.out
   obtain ⟨z, rfl, hz, -⟩ := h
   clear hr hpp hpT hc40 he40 hcb
   have b1 := below_alloc w5 (.cells #[.int .i64 z.k, .string z.nm, .slice z.na z.nn z.nc, .bool z.s, .slice z.a z.l z.c, .slice z.ka z.kn z.kc] 28)
   have b2 := below_alloc (w5.alloc (.cells #[.int .i64 z.k, .string z.nm, .slice z.na z.nn z.nc, .bool z.s, .slice z.a z.l z.c, .slice z.ka z.kn z.kc] 28)) (.cells #[.int .i64 0, .int .i64 0] 31)
   have kc := grow_step b2 b1
   have z1 := (vb_new w5 z).below b2
   have z2 := heap_alloc_new (w5.alloc (.cells #[.int .i64 z.k, .string z.nm, .slice z.na z.nn z.nc, .bool z.s, .slice z.a z.l z.c, .slice z.ka z.kn z.kc] 28)) (.cells #[.int .i64 0, .int .i64 0] 31)
   rw [show (w5.alloc (.cells #[.int .i64 z.k, .string z.nm, .slice z.na z.nn z.nc, .bool z.s, .slice z.a z.l z.c, .slice z.ka z.kn z.kc] 28)).heap.size = w5.heap.size + 1 by simp] at z2
   have kd := grow_step kc k5
   have y6 := y4.out.below kd
   have hx6 := hx4.out.kf (Kf.of_below kd)
   have hz6 := (hz.kf (Kf.of_below kc)).imp (F' := An) fun _ _ => trivial
   have hS6 := hide (hS4.out.below kd)
   have hwo6 := hide (hwo4.out.kept (kd.block _ hwo4.out.lt))
   have htab6 := hide (htab4.out.below kd)
   have kw6 := hide (grow_step kd kw4.out)
   have hpr := hide (print_n hz6 hdp.out hN.out hbd.out hwo6.out htab6.out)
   replace hx6 := hide hx6
   replace hz6 := hide hz6
   replace y6 := hide y6
   clear b1 b2 kc k5 kd hz hx4 y4 hS4 hwo4 htab4 kw4
   go_upto_region 10 with (fail)
   generalize (w5.alloc (.cells #[.int .i64 z.k, .string z.nm, .slice z.na z.nn z.nc, .bool z.s, .slice z.a z.l z.c, .slice z.ka z.kn z.kc] 28)).alloc (.cells #[.int .i64 0, .int .i64 0] 31) = w6 at *
   generalize w5.heap.size = bz at *
   have r0 := z1.c0
   have r1 := z1.c1
   have r2 := z1.c2
   have r3 := z1.c3
   have r4 := z1.c4
   have r5 := z1.c5
   replace z1 := hide z1
   replace z2 := hide z2
   go_wp2_with fail
   refine hpr.out.mono ?_
   rintro en w7 ⟨k7, sv, ev, hB, rfl⟩
   obtain ⟨rfl, rfl⟩ := Rq.pr_one hA.out hB
   clear hB hA hpr r0 r1 r2 r3 r4 r5
   have y7 := y6.out.below k7
   have z7 := z1.out.below k7
   have m7 := (k7.block _ (lt_of_block z2.out)).trans z2.out
   have hx7 := hx6.out.kf (Kf.of_below k7)
   have hz7 := hz6.out.kf (Kf.of_below k7)
   have hS7 := hide (hS6.out.below k7)
   have hwo7 := hide (hwo6.out.kept (k7.block _ hwo6.out.lt))
   have htab7 := hide (htab6.out.below k7)
   have kw7 := hide (grow_step k7 kw6.out)
   have hxt := hide (same_n hx7 hz7 hdp.out hN.out hbd.out hbd.out)
   have e0 := cell_of_row w7 (bz + 1) 0 _ _ (0, 0) m7
   have e1 := cell_of_row w7 (bz + 1) 1 _ _ (0, 0) m7
   have q0 := y7.c0
   have q1 := y7.c1
   have q2 := y7.c2
   have q3 := y7.c3
   have q4 := y7.c4
   have q5 := y7.c5
   have r0 := z7.c0
   have r1 := z7.c1
   have r2 := z7.c2
   have r3 := z7.c3
   have r4 := z7.c4
   have r5 := z7.c5
   have heq := eq_ms0
   clear hx7 hz7 y7 z7 m7 k7 hx6 hz6 y6 z1 z2 hS6 hwo6 htab6 kw6
   go_wp2_with fail
   refine hxt.out.mono ?_
   rintro en w8 ⟨k8, b, hb, rfl⟩
   obtain rfl : b = true := hb.2 (sm_refl t)
   have hkn := hide (known4_n w8 (hS7.out.below k8) (hwo7.out.kept (k8.block _ hwo7.out.lt)) (htab7.out.below k8))
   have kw8 := hide (grow_step k8 kw7.out)
   clear hxt hb k8 hS7 hwo7 htab7 kw7 e0 e1 q0 q1 q2 q3 q4 q5 r0 r1 r2 r3 r4 r5 heq
   go_wp2_with fail
   refine hkn.out.mono ?_
   rintro en w9 ⟨rfl, k9⟩
   have kf := hide (grow_step k9 kw8.out)
   clear hkn k9
   go_wp2
   refine bodyPost_ret (results_tmp rfl _ _ _) rfl ?_
   exact ⟨rfl, kf.out⟩
  ·have hkn := hide (known4_n w4 hS4.out hwo4.out htab4.out)
   have hc40 : ((40 : Int) != 40) = false := rfl
   have hc41 : ((40 : Int) != 0) = true := rfl
   have he40 : ((40 : Int) == 40) = true := rfl
   clear hx4 hS4 hwo4 htab4 y4
   go_wp2_with fail
   refine hkn.out.mono ?_
   rintro en w9 ⟨rfl, k9⟩
   have kf := hide (grow_step k9 kw4.out)
   clear hkn k9
   go_wp2
   refine bodyPost_ret (results_tmp rfl _ _ _) rfl ?_
   exact ⟨rfl, kf.out⟩
end Sx
end Go.Proofs.YtgpaajolcpgeaaaGreatDoor
